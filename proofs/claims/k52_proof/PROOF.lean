import PyProof.Rows.All
import Wide.All
import OpenK.AllK
import Wide.FinOn
import KE.KStateDown
import HandS.ForMost
import HandS.ForExc
import HandS.Flow
import HandS.Defaults
import HandS.Lambda
import HandS.DeepEq
import HandS.Deep
import HandS.Wide
import HandS.WideMore
import HandS.IsInst
import HandS.TupAny
import HandS.TupMul
import HandS.Zip
import HandS.Conv
import HandS.Rev
import HandS.RevRange
import HandS.Style
import HandS.Sort
import HandS.SortKw
import HandS.SortInts
import HandS.Strs
import HandS.SetFor
import HandS.Gcd
import HandS.Small
import HandS.HeadEnd
import HandS.HeadHook1
import HandS.HeadHook2
import PyProof.ReprRoads
import HandS.HeadHook4
import KE.DataCmp
import PyProof.P3Eq
import KE.KMathGC
import PyProof.P3In
import PyProof.Rows.InDataRows
import HandS.TupLe
import KE.KTupSum
import KE.DatumOrd
import KE.GoesEnumKw
import KE.GoesEnum
import HandS.RaiseMore
import KE.GoesComp
import HandS.TupSets
import KE.SortData
import KE.DataFind
import HandS.Remove
import KE.GoesZip
import HandS.ExcInit
import HandS.ExcField
import HandS.TryMany
import HandS.ExcIs
import KE.KExcIs
import KE.KDflt
import HandS.Ends
import HandS.HeadHook3
import HandS.Head0
import HandS.Head1
import HandS.Head2
import HandS.Head3
import PyProof.Rows.RegStrFacts
import PySem.Challenge.RW_unithouse_k52_products_and_orders
set_option Elab.async false
set_option linter.all false
set_option maxRecDepth 100000
set_option maxHeartbeats 0
set_option autoImplicit false
/-! Data without a heap, what stands for it in the heap, and the meaning of an expression as a plain function. -/
namespace Ev
open PySem PySem.Spec PyProof.Rows L2

/-- the defs that hold lambdas: where they are bound, the lambdas' name -/
class Tbs where
  tf : List (He.Defn × Str)
  /-- isinstance(error, class), as the law's suites ask it -/
  tk : List ((Str × Str) × Bool) := []
variable [Tbs]
/-- their tables of code objects -/
def tabT (K : PySem.W.Frag) : List (Addr × Str) := Tbs.tf.map fun p => (He.tabOf K (He.codeOf K p.1), p.2)
theorem tabs_upd {T : List (Addr × Str)} {H : Hp} {p : Addr} {u o : HO} (hp : H p = some u) (hu : ∀ ps, u ≠ .tbl ps) (hx : ∀ f, u ≠ .ext f) (h : LamX.Tabs T H) : LamX.Tabs T (upd H p o) := fun q hq => by
  obtain ⟨ps, h1, h2, h3⟩ := h q hq
  refine ⟨ps, ?_, h2, fun pos cv hc => ?_⟩
  · rw [upd_ne]
    · exact h1
    · intro e
      rw [e, hp] at h1
      cases h1
      exact hu _ rfl
  · obtain ⟨c, e1, e2⟩ := h3 pos cv hc
    refine ⟨c, e1, ?_⟩
    rw [upd_ne]
    · exact e2
    · intro e
      have e3 := e2
      rw [e, hp] at e3
      unfold LamX.CodeO at e3
      cases e3
      exact hx _ rfl
theorem tabs_new {T : List (Addr × Str)} {H : Hp} {p : Addr} {o : HO} (hp : H p = none) (h : LamX.Tabs T H) : LamX.Tabs T (upd H p o) :=
  h.ext fun b u e => by rw [upd_ne (ne_of_none e hp)]; exact e

/-- a value of the program: a tuple and a list that nobody writes any more are their items; a cell is a list or a dict that several hands write -/
inductive D where
  | non | bl (b : Bool) | int (i : Int) | str (x : Str)
  | tup (ds : List D) | lst (ds : List D) | cell (k : Nat) | ty (n : String)
/-- what a cell holds -/
inductive Cell where
  | lst (ds : List D)
  | dct (kvs : List (Key × D))
abbrev Store := List Cell
/-- what a run comes to -/
inductive R (α : Type) where
  | ok (a : α) (st : Store)
  | exc (c : Str) (as : List D) (st : Store)
  | bad
def M (α : Type) : Type := Store → R α
def M.pure {α : Type} (a : α) : M α := fun st => .ok a st
def M.bind {α β : Type} (m : M α) (k : α → M β) : M β := fun st => match m st with
  | .ok a st' => k a st'
  | .exc c as st' => .exc c as st'
  | .bad => .bad
def M.bad {α : Type} : M α := fun _ => .bad
def M.opt {α : Type} : Option α → M α
  | some a => M.pure a
  | none => M.bad
/-- a slot: not bound; a value; a list of this frame alone, which it may write; a lambda that was handed in -/
inductive SV where
  | un | val (d : D) | own (ds : List D) | cl
abbrev Env' := List SV
/-- what an expression gives: a value that stays; a new list; a list that is only looked at -/
inductive RV where
  | per (d : D) | fr (ds : List D) | bor (ds : List D)

/-! ### what stands for it -/
/-- a list that is never written any more -/
def KL (K : PySem.W.Frag) (a : Addr) (vs : List V) : Prop := ∃ (its : List Value) (n : Nat), K.lookup a = some { cls := .type "list", data := .seq its.toArray n } ∧ its.length ≤ sizeLine ∧ Vals vs its
theorem KL.sq {K : PySem.W.Frag} {H : Hp} {a : Addr} {vs : List V} (h : KL K a vs) : SqL K H a vs := by
  obtain ⟨its, n, e, z, r⟩ := h
  exact .inr ⟨_, its.toArray, n, e, rfl, rfl, rfl, by simpa using z, by simpa using r⟩
/-- a list that is there -/
def RdL (K : PySem.W.Frag) (H : Hp) (a : Addr) (vs : List V) : Prop := Rd H a (.lst vs) ∨ KL K a vs
theorem RdL.sq {K : PySem.W.Frag} {H : Hp} {a : Addr} {vs : List V} (h : RdL K H a vs) : SqL K H a vs := h.elim .inl KL.sq
theorem RdL.ok {X : Cx} {pins : List (Addr × Obj)} {σ : L2.St} {H : Hp} {s : Shared} {a : Addr} {vs : List V} (h : RdL X.K H a vs) (I : L2.Inv X pins σ H s) :
    ∃ (its : List Value) (n : Nat), Vals vs its ∧ s.heap.get? a = some { cls := .type "list", data := .seq its.toArray n } ∧ vs.length ≤ sizeLine := by
  rcases h with h | ⟨its, n, e, z, r⟩
  · obtain ⟨z, its, n, r, e⟩ := h.ok I.hok
    exact ⟨its, n, r, e, z⟩
  · exact ⟨its, n, r, I.kIn _ _ e, by rw [r.length]; exact z⟩
def FzL (K : PySem.W.Frag) (H : Hp) (a : Addr) (vs : List V) : Prop := (∃ o, H a = some (.frz o (.lst vs))) ∨ KL K a vs
def Fix : HO → Prop
  | .tup _ => True
  | .frz _ _ => True
  | _ => False
def NTb : HO → Prop
  | .tbl _ => False
  | _ => True
theorem FzL.rd {K : PySem.W.Frag} {H : Hp} {a : Addr} {vs : List V} (h : FzL K H a vs) : RdL K H a vs := h.elim (fun h => .inl (.inr h)) .inr
theorem FzL.sq {K : PySem.W.Frag} {H : Hp} {a : Addr} {vs : List V} (h : FzL K H a vs) : SqL K H a vs := h.rd.sq
mutual
def RelD (K : PySem.W.Frag) (H : Hp) (ca : List Addr) : D → V → Prop
  | .non, v => v = .non
  | .bl b, v => v = .bl b
  | .int i, v => v = .int i
  | .str x, v => v = .str x
  | .tup ds, v => ∃ a vs, v = .ref a ∧ SqT K H a vs ∧ RelDs K H ca ds vs
  | .lst ds, v => ∃ a vs, v = .ref a ∧ FzL K H a vs ∧ RelDs K H ca ds vs
  | .cell k, v => ∃ a, v = .ref a ∧ ca[k]? = some a
  | .ty n, v => v = .ty n
def RelDs (K : PySem.W.Frag) (H : Hp) (ca : List Addr) : List D → List V → Prop
  | [], vs => vs = []
  | d :: ds, vs => ∃ v r, vs = v :: r ∧ RelD K H ca d v ∧ RelDs K H ca ds r
end
/-- the lambda that was handed to a def: its function, its code, its name; what holds of what it captured -/
class Hnd where
  f : Addr
  c : Addr
  q : Str
  inv : Hp → List Addr → Prop
  stay : ∀ (H : Hp) (ca : List Addr) (H1 : Hp) (ca1 : List Addr), (∀ a o, H a = some o → Fix o → H1 a = some o) → (∀ (k : Nat) (x : Addr), ca[k]? = some x → ca1[k]? = some x) → inv H ca → inv H1 ca1
variable [Hnd]
/-- the heap goes on: what is fixed stays, what is no cell stays, new cells are new -/
structure Stp (ca ca' : List Addr) (H H' : Hp) : Prop where
  ext : ∃ l, ca' = ca ++ l ∧ ∀ a ∈ l, H a = none
  fix : ∀ a o, H a = some o → Fix o → H' a = some o
  keep : ∀ a o, H a = some o → a ∉ ca → NTb o → H' a = some o
  dom : ∀ a, H' a = none → H a = none
section
variable {K : PySem.W.Frag} {H H1 H2 : Hp} {ca ca1 ca2 : List Addr}
theorem Stp.refl : Stp ca ca H H := ⟨⟨[], by simp, fun a h => nomatch h⟩, fun _ _ h _ => h, fun _ _ h _ _ => h, fun _ h => h⟩
theorem Stp.trans (a : Stp ca ca1 H H1) (b : Stp ca1 ca2 H1 H2) : Stp ca ca2 H H2 := by
  obtain ⟨l, e1, n1⟩ := a.ext
  obtain ⟨m, e2, n2⟩ := b.ext
  refine ⟨⟨l ++ m, by rw [e2, e1, List.append_assoc], fun x hx => ?_⟩, fun x o h f => b.fix x o (a.fix x o h f) f, fun x o h n t => ?_, fun x h => a.dom x (b.dom x h)⟩
  · rcases List.mem_append.mp hx with hx | hx
    · exact n1 x hx
    · exact a.dom x (n2 x hx)
  · refine b.keep x o (a.keep x o h n t) (fun hx => ?_) t
    rw [e1] at hx
    rcases List.mem_append.mp hx with hx | hx
    · exact n hx
    · rw [n1 x hx] at h; cases h
theorem Stp.sub (a : Stp ca ca1 H H1) {k : Nat} {x : Addr} (h : ca[k]? = some x) : ca1[k]? = some x := by
  obtain ⟨l, e, _⟩ := a.ext
  rw [e, List.getElem?_append_left (List.getElem?_eq_some_iff.mp h).1]
  exact h
theorem Stp.notin (a : Stp ca ca1 H H1) {x : Addr} {o : HO} (h : H x = some o) (n : x ∉ ca) : x ∉ ca1 := by
  obtain ⟨l, e, f⟩ := a.ext
  rw [e]
  intro hx
  rcases List.mem_append.mp hx with hx | hx
  · exact n hx
  · rw [f x hx] at h; cases h
theorem SqT.fixed {a : Addr} {vs : List V} (f : ∀ a o, H a = some o → Fix o → H1 a = some o) (h : SqT K H a vs) : SqT K H1 a vs := by
  rcases h with (h | ⟨o, h⟩) | h
  · exact .inl (.inl (f a _ h trivial))
  · exact .inl (.inr ⟨o, f a _ h trivial⟩)
  · exact .inr h
theorem FzL.fixed {a : Addr} {vs : List V} (f : ∀ a o, H a = some o → Fix o → H1 a = some o) (h : FzL K H a vs) : FzL K H1 a vs := by
  rcases h with ⟨o, h⟩ | h
  · exact .inl ⟨o, f a _ h trivial⟩
  · exact .inr h
mutual
theorem RelD.fixed (f : ∀ a o, H a = some o → Fix o → H1 a = some o) (g : ∀ (k : Nat) (x : Addr), ca[k]? = some x → ca1[k]? = some x) : ∀ (d : D) (v : V), RelD K H ca d v → RelD K H1 ca1 d v
  | .non, _, h => h
  | .bl _, _, h => h
  | .int _, _, h => h
  | .str _, _, h => h
  | .tup ds, v, h => by
    obtain ⟨a, vs, e, q, r⟩ := h
    exact ⟨a, vs, e, SqT.fixed f q, RelDs.fixed f g ds vs r⟩
  | .lst ds, v, h => by
    obtain ⟨a, vs, e, q, r⟩ := h
    exact ⟨a, vs, e, FzL.fixed f q, RelDs.fixed f g ds vs r⟩
  | .cell k, v, h => by
    obtain ⟨a, e, q⟩ := h
    exact ⟨a, e, g k a q⟩
  | .ty _, _, h => h
theorem RelDs.fixed (f : ∀ a o, H a = some o → Fix o → H1 a = some o) (g : ∀ (k : Nat) (x : Addr), ca[k]? = some x → ca1[k]? = some x) : ∀ (ds : List D) (vs : List V), RelDs K H ca ds vs → RelDs K H1 ca1 ds vs
  | [], _, h => h
  | d :: ds, vs, h => by
    obtain ⟨v, r, e, q, t⟩ := h
    exact ⟨v, r, e, RelD.fixed f g d v q, RelDs.fixed f g ds r t⟩
end
theorem RelD.stp {d : D} {v : V} (s : Stp ca ca1 H H1) (h : RelD K H ca d v) : RelD K H1 ca1 d v := RelD.fixed s.fix (fun _ _ => s.sub) d v h
theorem RelDs.stp {ds : List D} {vs : List V} (s : Stp ca ca1 H H1) (h : RelDs K H ca ds vs) : RelDs K H1 ca1 ds vs := RelDs.fixed s.fix (fun _ _ => s.sub) ds vs h
theorem RelDs.length : ∀ {ds : List D} {vs : List V}, RelDs K H ca ds vs → vs.length = ds.length
  | [], _, h => by cases h; rfl
  | _ :: _, _, h => by
    obtain ⟨v, r, e, _, t⟩ := h
    subst e
    exact congrArg Nat.succ (RelDs.length t)
theorem RelDs.get : ∀ {ds : List D} {vs : List V} {i : Nat} {d : D}, RelDs K H ca ds vs → ds[i]? = some d → ∃ v, vs[i]? = some v ∧ RelD K H ca d v
  | [], _, _, _, _, h => by simp at h
  | _ :: _, _, 0, _, h, e => by
    obtain ⟨v, r, e1, q, t⟩ := h
    subst e1
    simp at e
    subst e
    exact ⟨v, rfl, q⟩
  | _ :: _, _, i + 1, _, h, e => by
    obtain ⟨v, r, e1, q, t⟩ := h
    subst e1
    obtain ⟨w, a, b⟩ := RelDs.get (i := i) t (by simpa using e)
    exact ⟨w, by simpa using a, b⟩
theorem RelDs.append : ∀ {ds es : List D} {vs ws : List V}, RelDs K H ca ds vs → RelDs K H ca es ws → RelDs K H ca (ds ++ es) (vs ++ ws)
  | [], _, _, _, h, g => by cases h; exact g
  | _ :: _, _, _, _, h, g => by
    obtain ⟨v, r, e, q, t⟩ := h
    subst e
    exact ⟨v, _, rfl, q, RelDs.append t g⟩
theorem RelDs.set {d : D} {v : V} (q : RelD K H ca d v) : ∀ {ds : List D} {vs : List V} (i : Nat), RelDs K H ca ds vs → RelDs K H ca (ds.set i d) (vs.set i v)
  | [], _, _, h => by cases h; rfl
  | _ :: _, _, 0, h => by
    obtain ⟨w, r, e, _, t⟩ := h
    subst e
    exact ⟨v, r, rfl, q, t⟩
  | _ :: _, _, i + 1, h => by
    obtain ⟨w, r, e, q', t⟩ := h
    subst e
    exact ⟨w, _, rfl, q', RelDs.set q i t⟩
theorem RelDs.take : ∀ {ds : List D} {vs : List V} (n : Nat), RelDs K H ca ds vs → RelDs K H ca (ds.take n) (vs.take n)
  | _, _, 0, _ => by simp [RelDs]
  | [], _, _ + 1, h => by cases h; rfl
  | _ :: _, _, n + 1, h => by
    obtain ⟨w, r, e, q', t⟩ := h
    subst e
    exact ⟨w, _, rfl, q', RelDs.take n t⟩
theorem RelDs.drop : ∀ {ds : List D} {vs : List V} (n : Nat), RelDs K H ca ds vs → RelDs K H ca (ds.drop n) (vs.drop n)
  | _, _, 0, h => h
  | [], _, _ + 1, h => by cases h; rfl
  | _ :: _, _, n + 1, h => by
    obtain ⟨w, r, e, q', t⟩ := h
    subst e
    exact RelDs.drop n t
theorem RelDs.snoc {ds : List D} {vs : List V} {d : D} {v : V} (h : RelDs K H ca ds vs) (q : RelD K H ca d v) : RelDs K H ca (ds ++ [d]) (vs ++ [v]) := RelDs.append h ⟨v, [], rfl, q, rfl⟩
theorem RelDs.nil : RelDs K H ca [] [] := rfl
theorem RelDs.cons {d : D} {v : V} {ds : List D} {vs : List V} (q : RelD K H ca d v) (h : RelDs K H ca ds vs) : RelDs K H ca (d :: ds) (v :: vs) := ⟨v, vs, rfl, q, h⟩
end

/-! ### cells, slots -/
def KvR (K : PySem.W.Frag) (H : Hp) (ca : List Addr) : List (Key × D) → List (Key × V) → Prop
  | [], vs => vs = []
  | (k, d) :: r, vs => ∃ v s, vs = (k, v) :: s ∧ RelD K H ca d v ∧ KvR K H ca r s
def CellR (K : PySem.W.Frag) (H : Hp) (ca : List Addr) : Cell → Addr → Prop
  | .lst ds, a => ∃ vs, H a = some (.lst vs) ∧ RelDs K H ca ds vs
  | .dct kvs, a => ∃ vs, H a = some (.dK vs) ∧ KvR K H ca kvs vs
structure SR (K : PySem.W.Frag) (st : Store) (ca : List Addr) (H : Hp) : Prop where
  len : ca.length = st.length
  nd : ca.Nodup
  cell : ∀ (k : Nat) (c : Cell) (a : Addr), st[k]? = some c → ca[k]? = some a → CellR K H ca c a
  tabs : LamX.Tabs (tabT K) H
def SVR (K : PySem.W.Frag) (H : Hp) (ca : List Addr) : SV → Option V → Prop
  | .un, _ => True
  | .val d, o => ∃ v, o = some v ∧ RelD K H ca d v
  | .own ds, o => ∃ a vs, o = some (.ref a) ∧ H a = some (.lst vs) ∧ a ∉ ca ∧ RelDs K H ca ds vs
  | .cl, o => o = some (.ref Hnd.f) ∧ H Hnd.c = some (LamX.CodeO Hnd.c Hnd.q) ∧ Hnd.c ∉ ca ∧ Hnd.inv H ca
structure EnvR (K : PySem.W.Frag) (H : Hp) (ca : List Addr) (ρ : Env') (σ : L2.St) : Prop where
  len : ρ.length = σ.length
  at_ : ∀ (i : Nat) (s : SV), ρ[i]? = some s → ∃ o, σ[i]? = some o ∧ SVR K H ca s o
  sep : ∀ (i j : Nat) (ds es : List D) (a : Addr), i ≠ j → ρ[i]? = some (.own ds) → ρ[j]? = some (.own es) → σ[i]? = some (some (.ref a)) → σ[j]? ≠ some (some (.ref a))
/-- what an expression gave: H0 the heap ahead of it -/
def RelRV (K : PySem.W.Frag) (H0 H : Hp) (ca : List Addr) : RV → V → Prop
  | .per d, v => RelD K H ca d v
  | .fr ds, v => ∃ a vs, v = .ref a ∧ H a = some (.lst vs) ∧ H0 a = none ∧ a ∉ ca ∧ RelDs K H ca ds vs
  | .bor ds, v => ∃ a vs, v = .ref a ∧ H a = some (.lst vs) ∧ a ∉ ca ∧ RelDs K H ca ds vs
/-- an error of the program's own: its class by its name, its fields -/
def ExR (K : PySem.W.Frag) (fld : Str → List Str) (H : Hp) (ca : List Addr) (c : Str) (as : List D) (cls : Value) (dd : Option Addr) : Prop :=
  cls = .ref (He.ga K c) ∧ ∃ d kvs vs, dd = some d ∧ H d = some (.xd kvs) ∧ (∀ (i : Nat) (f : Str) (v : V), (fld c)[i]? = some f → vs[i]? = some v → kvs.lookup f = some v) ∧ vs.length = (fld c).length ∧ RelDs K H ca as vs
section
variable {K : PySem.W.Frag} {H H1 H2 : Hp} {ca ca1 ca2 : List Addr}
theorem KvR.stp (s : Stp ca ca1 H H1) : ∀ {kvs : List (Key × D)} {vs : List (Key × V)}, KvR K H ca kvs vs → KvR K H1 ca1 kvs vs
  | [], _, h => h
  | (k, d) :: r, _, h => by
    obtain ⟨v, t, e, q, g⟩ := h
    exact ⟨v, t, e, q.stp s, KvR.stp s g⟩
theorem SVR.stp {s : SV} {o : Option V} (t : Stp ca ca1 H H1) (h : SVR K H ca s o) : SVR K H1 ca1 s o := by
  cases s with
  | un => trivial
  | val d =>
    obtain ⟨v, e, q⟩ := h
    exact ⟨v, e, q.stp t⟩
  | own ds =>
    obtain ⟨a, vs, e, q, n, r⟩ := h
    exact ⟨a, vs, e, t.keep a _ q n trivial, t.notin q n, r.stp t⟩
  | cl =>
    obtain ⟨e, h1, n, iv⟩ := h
    exact ⟨e, t.keep _ _ h1 n trivial, t.notin h1 n, Hnd.stay _ _ _ _ t.fix (fun _ _ => t.sub) iv⟩
theorem EnvR.stp {ρ : Env'} {σ : L2.St} (t : Stp ca ca1 H H1) (h : EnvR K H ca ρ σ) : EnvR K H1 ca1 ρ σ :=
  ⟨h.len, fun i s e => let ⟨o, a, b⟩ := h.at_ i s e; ⟨o, a, b.stp t⟩, h.sep⟩
/-- a thing is laid at a new place -/
theorem Stp.laid {p : Addr} {o : HO} (hp : H p = none) : Stp ca ca H (upd H p o) := by
  have h1 : ∀ a u, H a = some u → upd H p o a = some u := fun a u e => by rw [upd_ne (ne_of_none e hp)]; exact e
  refine ⟨⟨[], by simp, fun a h => nomatch h⟩, fun a u e _ => h1 a u e, fun a u e _ _ => h1 a u e, fun a e => ?_⟩
  by_cases z : a = p
  · rw [z]; exact hp
  · rw [upd_ne z] at e; exact e
theorem SR.notnew {st : Store} (h : SR K st ca H) {p : Addr} (hp : H p = none) : p ∉ ca := by
  intro hm
  obtain ⟨k, hk⟩ := List.getElem?_of_mem hm
  have hl : k < st.length := by rw [← h.len]; exact (List.getElem?_eq_some_iff.mp hk).1
  have := h.cell k st[k] p (List.getElem?_eq_getElem hl) hk
  cases hc : st[k] with
  | lst ds => rw [hc] at this; obtain ⟨vs, e, _⟩ := this; rw [hp] at e; cases e
  | dct kvs => rw [hc] at this; obtain ⟨vs, e, _⟩ := this; rw [hp] at e; cases e
/-- the cells stay as they are -/
theorem SR.stay {st : Store} (h : SR K st ca H) (t : Stp ca ca H H1) (tb : LamX.Tabs (tabT K) H1) (k : ∀ a ∈ ca, H1 a = H a) : SR K st ca H1 := by
  refine ⟨h.len, h.nd, fun i c a e1 e2 => ?_, tb⟩
  have q := h.cell i c a e1 e2
  have ea := k a (List.mem_of_getElem? e2)
  cases c with
  | lst ds => obtain ⟨vs, e, r⟩ := q; exact ⟨vs, by rw [ea]; exact e, r.stp t⟩
  | dct kvs => obtain ⟨vs, e, r⟩ := q; exact ⟨vs, by rw [ea]; exact e, r.stp t⟩
theorem SR.laid {st : Store} (h : SR K st ca H) {p : Addr} {o : HO} (hp : H p = none) : SR K st ca (upd H p o) :=
  h.stay (Stp.laid hp) (tabs_new hp h.tabs) fun a ha => upd_ne fun z => h.notnew hp (z ▸ ha)
/-- a list of nobody is written no more -/
theorem Stp.froze {p : Addr} {vs : List V} {o : Obj} (hp : H p = some (.lst vs)) (h0 : H1 p = none) (s : Stp ca ca1 H1 H) : Stp ca ca1 H1 (upd H p (.frz o (.lst vs))) := by
  refine ⟨s.ext, fun a u e f => ?_, fun a u e n f => ?_, fun a e => ?_⟩
  · have := s.fix a u e f
    rw [upd_ne]
    · exact this
    · rintro rfl
      rw [h0] at e; cases e
  · have := s.keep a u e n f
    rw [upd_ne]
    · exact this
    · rintro rfl
      rw [h0] at e; cases e
  · by_cases z : a = p
    · rw [z, upd_same] at e; cases e
    · rw [upd_ne z] at e; exact s.dom a e
theorem Stp.froze0 {p : Addr} {vs : List V} {o : Obj} (hp : H p = some (.lst vs)) : ∀ a u, H a = some u → Fix u → upd H p (.frz o (.lst vs)) a = some u := fun a u e f => by
  rw [upd_ne]
  · exact e
  · rintro rfl
    rw [hp] at e; cases e; exact f.elim
theorem SR.froze {st : Store} {p : Addr} {vs : List V} {o : Obj} (h : SR K st ca H) (hp : H p = some (.lst vs)) (n : p ∉ ca) : SR K st ca (upd H p (.frz o (.lst vs))) := by
  have f := Stp.froze0 (o := o) hp
  refine ⟨h.len, h.nd, fun i c a e1 e2 => ?_, tabs_upd hp nofun nofun h.tabs⟩
  have q := h.cell i c a e1 e2
  have ne : a ≠ p := fun z => n (z ▸ List.mem_of_getElem? e2)
  have kv : ∀ (kvs : List (Key × D)) (ws : List (Key × V)), KvR K H ca kvs ws → KvR K (upd H p (.frz o (.lst vs))) ca kvs ws := by
    intro kvs
    induction kvs with
    | nil => intro ws h; exact h
    | cons x r ih =>
      intro ws h
      obtain ⟨v, t, e, q, g⟩ := h
      exact ⟨v, t, e, RelD.fixed f (fun _ _ z => z) _ _ q, ih t g⟩
  cases c with
  | lst ds => obtain ⟨ws, e, r⟩ := q; exact ⟨ws, by rw [upd_ne ne]; exact e, RelDs.fixed f (fun _ _ z => z) _ _ r⟩
  | dct kvs => obtain ⟨ws, e, r⟩ := q; exact ⟨ws, by rw [upd_ne ne]; exact e, kv _ _ r⟩
end
/-- an expression's list, where it is one, is fixed at once -/
theorem pe_frz {X : Cx} {e : Expr} {t : TE} (h : PE X e t) :
    PE X e (fun σ H Q => t σ H fun v H1 => Q v H1 ∨ ∃ a vs, v = .ref a ∧ H1 a = some (.lst vs) ∧ ∀ o, Q v (upd H1 a (.frz o (.lst vs)))) := by
  refine ⟨fun pins s σ H Q I hq => thn (h.run pins s σ H _ I hq) fun u s1 ⟨v, H1, I1, r, q⟩ => ?_⟩
  rcases q with q | ⟨a, vs, e, ha, q⟩
  · exact ⟨v, H1, I1, r, q⟩
  · obtain ⟨o, I2⟩ := I1.lock ha trivial
    exact ⟨v, _, I2, r, q o⟩
/-- a weaker reading -/
theorem PE.imp {X : Cx} {e : Expr} {t u : TE} (h : PE X e t) (i : ∀ σ H Q, u σ H Q → t σ H Q) : PE X e u := ⟨fun pins s σ H Q I q => h.run pins s σ H Q I (i σ H Q q)⟩
theorem PT.imp {X : Cx} {e : Expr} {t u : TT} (h : PT X e t) (i : ∀ σ H Q, u σ H Q → t σ H Q) : PT X e u := ⟨fun pins s σ H Q I q => h.run pins s σ H Q I (i σ H Q q)⟩
theorem PS.imp {X : Cx} {e : Stmt} {t u : TS} (h : PS X e t) (i : ∀ D σ H, u D σ H → t D σ H) : PS X e u := ⟨fun pins s σ H D I q => h.run pins s σ H D I (i D σ H q)⟩
theorem PSs.imp {X : Cx} {e : List Stmt} {t u : TS} (h : PSs X e t) (i : ∀ D σ H, u D σ H → t D σ H) : PSs X e u := ⟨fun pins s σ H D I q => h.run pins s σ H D I (i D σ H q)⟩
theorem PA.imp {X : Cx} {e : List Expr} {t u : TA} (h : PA X e t) (i : ∀ σ H Q, u σ H Q → t σ H Q) : PA X e u := ⟨fun pos pins s σ H Q I q => h.run pos pins s σ H Q I (i σ H Q q)⟩
end Ev
/-! The rules' frame: how a run's end is wished, readings of expressions as functions. -/
namespace Ev
open PySem PySem.Spec PyProof.Rows L2
variable [Tbs] [Hnd]

/-- what is wanted of a run's end -/
def Post {α : Type} (K : PySem.W.Frag) (fld : Str → List Str) (W : WX) (σ : L2.St) (H : Hp) (ca : List Addr) (k : α → Store → List Addr → Hp → Prop) : R α → Prop
  | .ok a st => ∀ ca' H', Stp ca ca' H H' → SR K st ca' H' → k a st ca' H'
  | .exc c as st => ∀ cls dd ca' H', Stp ca ca' H H' → SR K st ca' H' → ExR K fld H' ca' c as cls dd → W cls dd σ H'
  | .bad => False
section
variable {α β : Type} {K : PySem.W.Frag} {fld : Str → List Str} {W : WX} {σ : L2.St} {H : Hp} {ca : List Addr} {st : Store}
theorem Post.bind {m : M α} {g : α → M β} {k : β → Store → List Addr → Hp → Prop} (h : Post K fld W σ H ca k (M.bind m g st)) :
    Post K fld W σ H ca (fun a st1 ca1 H1 => Post K fld W σ H1 ca1 k (g a st1)) (m st) := by
  unfold M.bind at h
  cases e : m st with
  | bad => rw [e] at h; exact h
  | exc c as st1 => rw [e] at h; exact h
  | ok a st1 =>
    rw [e] at h
    have h : Post K fld W σ H ca k (g a st1) := h
    intro ca1 H1 t1 s1
    show Post K fld W σ H1 ca1 k (g a st1)
    cases e2 : g a st1 with
    | bad => rw [e2] at h; exact h
    | exc c as st2 => rw [e2] at h; exact fun cls dd ca2 H2 t2 s2 x => h cls dd ca2 H2 (t1.trans t2) s2 x
    | ok b st2 => rw [e2] at h; exact fun ca2 H2 t2 s2 => h ca2 H2 (t1.trans t2) s2
theorem Post.mono {k k' : α → Store → List Addr → Hp → Prop} {r : R α} (h : Post K fld W σ H ca k r) (i : ∀ a st' ca' H', Stp ca ca' H H' → SR K st' ca' H' → k a st' ca' H' → k' a st' ca' H') : Post K fld W σ H ca k' r := by
  cases r with
  | bad => exact h
  | exc c as st1 => exact h
  | ok a st1 => exact fun ca' H' t s => i _ _ _ _ t s (h ca' H' t s)
/-- from here -/
theorem Post.now {k : α → Store → List Addr → Hp → Prop} {a : α} (h : Post K fld W σ H ca k (.ok a st)) (s : SR K st ca H) : k a st ca H := h ca H Stp.refl s
end

/-! ### values that are read -/
/-- a list that is there to be read, and stays so while only cells are written -/
def LR (K : PySem.W.Frag) (H : Hp) (ca : List Addr) (a : Addr) (vs : List V) : Prop := FzL K H a vs ∨ (H a = some (.lst vs) ∧ a ∉ ca)
def RelR (K : PySem.W.Frag) (H : Hp) (ca : List Addr) : D → V → Prop
  | .lst ds, v => ∃ a vs, v = .ref a ∧ LR K H ca a vs ∧ RelDs K H ca ds vs
  | d, v => RelD K H ca d v
/-- a value that is read now -/
def RelX (K : PySem.W.Frag) (H : Hp) (ca : List Addr) : D → V → Prop
  | .lst ds, v => ∃ a vs, v = .ref a ∧ RdL K H a vs ∧ RelDs K H ca ds vs
  | d, v => RelD K H ca d v
def RelRs (K : PySem.W.Frag) (H : Hp) (ca : List Addr) : List D → List V → Prop
  | [], vs => vs = []
  | d :: ds, vs => ∃ v r, vs = v :: r ∧ RelR K H ca d v ∧ RelRs K H ca ds r
def RelXs (K : PySem.W.Frag) (H : Hp) (ca : List Addr) : List D → List V → Prop
  | [], vs => vs = []
  | d :: ds, vs => ∃ v r, vs = v :: r ∧ RelX K H ca d v ∧ RelXs K H ca ds r
/-- a cell's list is read off the store -/
def deref (st : Store) : D → D
  | .cell k => match st[k]? with
    | some (.lst ds) => .lst ds
    | _ => .cell k
  | d => d
def RV.d : RV → D
  | .per d => d
  | .fr ds => .lst ds
  | .bor ds => .lst ds
section
variable {K : PySem.W.Frag} {H H1 : Hp} {ca ca1 : List Addr}
theorem RelD.r : ∀ {d : D} {v : V}, RelD K H ca d v → RelR K H ca d v
  | .non, _, h => h
  | .bl _, _, h => h
  | .int _, _, h => h
  | .str _, _, h => h
  | .ty _, _, h => h
  | .tup _, _, h => h
  | .cell _, _, h => h
  | .lst _, _, h => by
    obtain ⟨a, vs, e, q, r⟩ := h
    exact ⟨a, vs, e, .inl q, r⟩
theorem RelR.stp (t : Stp ca ca1 H H1) : ∀ {d : D} {v : V}, RelR K H ca d v → RelR K H1 ca1 d v
  | .non, _, h => h
  | .bl _, _, h => h
  | .int _, _, h => h
  | .str _, _, h => h
  | .ty _, _, h => h
  | .tup ds, v, h => RelD.stp (K := K) (d := .tup ds) (v := v) t h
  | .cell k, v, h => RelD.stp (K := K) (d := .cell k) (v := v) t h
  | .lst _, _, h => by
    obtain ⟨a, vs, e, q, r⟩ := h
    refine ⟨a, vs, e, ?_, r.stp t⟩
    rcases q with q | ⟨q, n⟩
    · exact .inl (FzL.fixed t.fix q)
    · exact .inr ⟨t.keep a _ q n trivial, t.notin q n⟩
theorem RelR.x {st : Store} (s : SR K st ca H) : ∀ {d : D} {v : V}, RelR K H ca d v → RelX K H ca (deref st d) v
  | .non, _, h => h
  | .bl _, _, h => h
  | .int _, _, h => h
  | .str _, _, h => h
  | .ty _, _, h => h
  | .tup _, _, h => h
  | .lst _, _, h => by
    obtain ⟨a, vs, e, q, r⟩ := h
    refine ⟨a, vs, e, ?_, r⟩
    rcases q with q | ⟨q, _⟩
    · exact q.rd
    · exact .inl (.inl q)
  | .cell k, v, h => by
    obtain ⟨a, e, q⟩ := h
    cases hc : st[k]? with
    | none =>
      rw [show deref st (.cell k) = .cell k by simp only [deref, hc]]
      exact ⟨a, e, q⟩
    | some c =>
      cases c with
      | dct kvs =>
        rw [show deref st (.cell k) = .cell k by simp only [deref, hc]]
        exact ⟨a, e, q⟩
      | lst ds =>
        rw [show deref st (.cell k) = .lst ds by simp only [deref, hc]]
        obtain ⟨vs, e1, r⟩ := s.cell k _ a hc q
        exact ⟨a, vs, e, .inl (.inl e1), r⟩
theorem RelRV.r {H0 : Hp} : ∀ {r : RV} {v : V}, RelRV K H0 H ca r v → RelR K H ca r.d v
  | .per d, v, h => RelD.r h
  | .fr _, _, h => by
    obtain ⟨a, vs, e, q, _, n, r⟩ := h
    exact ⟨a, vs, e, .inr ⟨q, n⟩, r⟩
  | .bor _, _, h => by
    obtain ⟨a, vs, e, q, n, r⟩ := h
    exact ⟨a, vs, e, .inr ⟨q, n⟩, r⟩
theorem RelRV.back {H0 H2 : Hp} {ca2 : List Addr} (t : Stp ca2 ca H2 H0) : ∀ {r : RV} {v : V}, RelRV K H0 H ca1 r v → RelRV K H2 H ca1 r v
  | .per d, v, h => h
  | .fr _, _, h => by
    obtain ⟨a, vs, e, q, n0, n, r⟩ := h
    exact ⟨a, vs, e, q, t.dom a n0, n, r⟩
  | .bor _, _, h => h
theorem RelRs.stp (t : Stp ca ca1 H H1) : ∀ {ds : List D} {vs : List V}, RelRs K H ca ds vs → RelRs K H1 ca1 ds vs
  | [], _, h => h
  | _ :: _, _, h => by
    obtain ⟨v, r, e, q, g⟩ := h
    exact ⟨v, r, e, q.stp t, RelRs.stp t g⟩
theorem RelRs.x {st : Store} (s : SR K st ca H) : ∀ {ds : List D} {vs : List V}, RelRs K H ca ds vs → RelXs K H ca (ds.map (deref st)) vs
  | [], _, h => h
  | _ :: _, _, h => by
    obtain ⟨v, r, e, q, g⟩ := h
    exact ⟨v, r, e, q.x s, RelRs.x s g⟩
theorem RelD.x {d : D} {v : V} (h : RelD K H ca d v) : RelX K H ca d v := by
  cases d with
  | lst ds =>
    obtain ⟨a, vs, e, q, r⟩ := h
    exact ⟨a, vs, e, q.rd, r⟩
  | _ => exact h
end

/-! ### readings -/
section
variable (K : PySem.W.Frag) (fld : Str → List Str) (W : WX)
def TN (f : Env' → M RV) : TE := fun σ H Q => ∃ ρ st ca, EnvR K H ca ρ σ ∧ SR K st ca H ∧ Post K fld W σ H ca (fun r _ ca' H' => ∀ v, RelRV K H H' ca' r v → Q v H') (f ρ st)
def TS' (f : Env' → M D) : TE := fun σ H Q => ∃ ρ st ca, EnvR K H ca ρ σ ∧ SR K st ca H ∧ Post K fld W σ H ca (fun r _ ca' H' => ∀ v, RelD K H' ca' r v → Q v H') (f ρ st)
def TR (f : Env' → M D) : TE := fun σ H Q => ∃ ρ st ca, EnvR K H ca ρ σ ∧ SR K st ca H ∧ Post K fld W σ H ca (fun r _ ca' H' => ∀ v, RelR K H' ca' r v → Q v H') (f ρ st)
def TT' (f : Env' → M Bool) : TT := fun σ H Q => ∃ ρ st ca, EnvR K H ca ρ σ ∧ SR K st ca H ∧ Post K fld W σ H ca (fun b _ _ H' => Q b H') (f ρ st)
def TAs (f : Env' → M (List D)) : TA := fun σ H Q => ∃ ρ st ca, EnvR K H ca ρ σ ∧ SR K st ca H ∧ Post K fld W σ H ca (fun ds _ ca' H' => ∀ vs, RelDs K H' ca' ds vs → Q vs H') (f ρ st)
def TAr (f : Env' → M (List D)) : TA := fun σ H Q => ∃ ρ st ca, EnvR K H ca ρ σ ∧ SR K st ca H ∧ Post K fld W σ H ca (fun ds _ ca' H' => ∀ vs, RelRs K H' ca' ds vs → Q vs H') (f ρ st)
end
/-- looked at -/
def rd (f : Env' → M RV) : Env' → M D := fun ρ => M.bind (f ρ) fun r => M.pure r.d
/-- kept: a new list is written no more -/
def kp (f : Env' → M RV) : Env' → M D := fun ρ => M.bind (f ρ) fun r => match r with
  | .per d => M.pure d
  | .fr ds => M.pure (.lst ds)
  | .bor _ => M.bad
section
variable {K : PySem.W.Frag} {fld : Str → List Str} {W : WX} {X : Cx} {e : Expr}
theorem TN.rd {f : Env' → M RV} (h : PE X e (TN K fld W f)) : PE X e (TR K fld W (rd f)) := by
  refine PE.imp h fun σ H Q ⟨ρ, st, ca, he, hs, hp⟩ => ⟨ρ, st, ca, he, hs, (Post.bind hp).mono fun r st1 ca1 H1 t1 s1 q v hv => ?_⟩
  exact Post.now q s1 v hv.r
theorem TN.kp {f : Env' → M RV} (h : PE X e (TN K fld W f)) : PE X e (TS' K fld W (kp f)) := by
  refine PE.imp (pe_frz h) fun σ H Q ⟨ρ, st, ca, he, hs, hp⟩ => ⟨ρ, st, ca, he, hs, ?_⟩
  have hp : Post K fld W σ H ca (fun r _ ca' H' => ∀ v, RelD K H' ca' r v → Q v H') (M.bind (f ρ) (fun r => match r with
    | .per d => M.pure d
    | .fr ds => M.pure (.lst ds)
    | .bor _ => M.bad) st) := hp
  unfold M.bind at hp
  cases hr : f ρ st with
  | bad => rw [hr] at hp; exact hp
  | exc c as st1 => rw [hr] at hp; exact hp
  | ok r st1 =>
    rw [hr] at hp
    intro ca1 H1 t1 s1 v hv
    cases r with
    | per d => exact .inl (hp ca1 H1 t1 s1 v hv)
    | bor ds => exact (show False from hp).elim
    | fr ds =>
      obtain ⟨a, vs, e1, q1, n0, n1, r1⟩ := hv
      refine .inr ⟨a, vs, e1, q1, fun o => ?_⟩
      refine (show ∀ ca' H', Stp ca ca' H H' → SR K st1 ca' H' → ∀ v, RelD K H' ca' (.lst ds) v → Q v H' from hp) ca1 _ (Stp.froze q1 n0 t1) (s1.froze q1 n1) v ⟨a, vs, e1, Or.inl ⟨o, upd_same⟩, RelDs.fixed (Stp.froze0 q1) (fun _ _ z => z) _ _ r1⟩
end
end Ev
/-! Operators, tests, displays, subscripts: by values. -/
namespace Ev
open PySem PySem.Spec PyProof.Rows L2
variable [Tbs] [Hnd]

/-- an operation's result is handed on -/
def Gv (K : PySem.W.Frag) (H : Hp) (ca : List Addr) (st : Store) (r : RV) (Q : VK) : Prop := ∀ v H', Stp ca ca H H' → SR K st ca H' → RelRV K H H' ca r v → Q v H'
section
variable {K : PySem.W.Frag} {H : Hp} {ca : List Addr} {st : Store} {Q : VK}
theorem Gv.here {d : D} {v : V} (g : Gv K H ca st (.per d) Q) (s : SR K st ca H) (h : RelD K H ca d v) : Q v H := g v H Stp.refl s h
theorem Gv.newL {ds : List D} {vs : List V} {p : Addr} (g : Gv K H ca st (.fr ds) Q) (s : SR K st ca H) (h : RelDs K H ca ds vs) (hp : H p = none) : Q (.ref p) (upd H p (.lst vs)) :=
  g _ _ (Stp.laid hp) (s.laid hp) ⟨p, vs, rfl, upd_same, hp, s.notnew hp, h.stp (Stp.laid hp)⟩
theorem Gv.newT {ds : List D} {vs : List V} {p : Addr} (g : Gv K H ca st (.per (.tup ds)) Q) (s : SR K st ca H) (h : RelDs K H ca ds vs) (hp : H p = none) : Q (.ref p) (upd H p (.tup vs)) :=
  g _ _ (Stp.laid hp) (s.laid hp) ⟨p, vs, rfl, SqT.of upd_same, h.stp (Stp.laid hp)⟩
end
def rO (K : PySem.W.Frag) (op : D → D → Option RV) : R2 := fun x y H Q => ∃ ca st a b r, SR K st ca H ∧ RelX K H ca a x ∧ RelX K H ca b y ∧ op a b = some r ∧ Gv K H ca st r Q
def rU1 (K : PySem.W.Frag) (op : D → Option RV) : V → Hp → VK → Prop := fun x H Q => ∃ ca st a r, SR K st ca H ∧ RelX K H ca a x ∧ op a = some r ∧ Gv K H ca st r Q
def rCl (K : PySem.W.Frag) (op : List D → Option RV) : List V → Hp → VK → Prop := fun xs H Q => ∃ ca st as r, SR K st ca H ∧ RelXs K H ca as xs ∧ op as = some r ∧ Gv K H ca st r Q
def rMe (K : PySem.W.Frag) (op : D → List D → Option RV) : V → List V → Hp → VK → Prop := fun x xs H Q => ∃ ca st a as r, SR K st ca H ∧ RelX K H ca a x ∧ RelXs K H ca as xs ∧ op a as = some r ∧ Gv K H ca st r Q
section
variable {X : Cx}
theorem opi {f : Value → Value → Sem Value} {r r' : R2} (h : OpR X f r) (i : ∀ x y H Q, r' x y H Q → r x y H Q) : OpR X f r' := fun pins s σ H x y v u Q I rx ry q => h pins s σ H x y v u Q I rx ry (i x y H Q q)
theorem uni {f : Value → Sem Value} {r r' : V → Hp → VK → Prop} (h : UnR X f r) (i : ∀ x H Q, r' x H Q → r x H Q) : UnR X f r' := fun pins s σ H x v Q I rx q => h pins s σ H x v Q I rx (i x H Q q)
theorem cai {f : Value} {r r' : List V → Hp → VK → Prop} (h : CallR X f r) (i : ∀ xs H Q, r' xs H Q → r xs H Q) : CallR X f r' := fun pins s σ H xs us Q I rx q => h pins s σ H xs us Q I rx (i xs H Q q)
theorem mti {f : String} {r r' : V → List V → Hp → VK → Prop} (h : MtR X f r) (i : ∀ x xs H Q, r' x xs H Q → r x xs H Q) : MtR X f r' := fun pins s σ H x xs v us Q I rx rs q => h pins s σ H x xs v us Q I rx rs (i x xs H Q q)
theorem ixi {r r' : R2} (h : IxR X r) (i : ∀ x y H Q, r' x y H Q → r x y H Q) : IxR X r' := fun a b pins s σ H x y v u Q I rx ry q => h a b pins s σ H x y v u Q I rx ry (i x y H Q q)
end
def M.rdr (o : Store → Option RV) : M RV := fun st => match o st with
  | some r => .ok r st
  | none => .bad
theorem Post.rdr {K : PySem.W.Frag} {fld : Str → List Str} {W : WX} {σ : L2.St} {H0 H : Hp} {ca0 ca : List Addr} {st : Store} {o : Store → Option RV} {Q : VK}
    (h : Post K fld W σ H ca (fun r _ ca' H' => ∀ v, RelRV K H0 H' ca' r v → Q v H') (M.rdr o st)) (t0 : Stp ca0 ca H0 H) : ∃ r, o st = some r ∧ Gv K H ca st r Q := by
  unfold M.rdr at h
  cases e : o st with
  | none => rw [e] at h; exact h.elim
  | some r =>
    rw [e] at h
    exact ⟨r, rfl, fun v H' t s q => h ca H' t s v (q.back t0)⟩

/-! ### expressions, by what their parts mean -/
def sVar (i : Nat) : Env' → M RV := fun ρ => match ρ[i]? with
  | some (.val d) => M.pure (.per d)
  | some (.own ds) => M.pure (.bor ds)
  | _ => M.bad
def sC (d : D) : Env' → M RV := fun _ => M.pure (.per d)
def sNil : Env' → M (List D) := fun _ => M.pure []
def sCons (f : Env' → M D) (g : Env' → M (List D)) : Env' → M (List D) := fun ρ => M.bind (f ρ) fun d => M.bind (g ρ) fun ds => M.pure (d :: ds)
def sTup (g : Env' → M (List D)) : Env' → M RV := fun ρ => M.bind (g ρ) fun ds => if ds.length ≤ sizeLine then M.pure (.per (.tup ds)) else M.bad
def sLst (g : Env' → M (List D)) : Env' → M RV := fun ρ => M.bind (g ρ) fun ds => if ds.length ≤ sizeLine then M.pure (.fr ds) else M.bad
def M.cell (c : Cell) : M RV := fun st => .ok (.per (.cell st.length)) (st ++ [c])
/-- a list that several hands will write -/
def sLstC (g : Env' → M (List D)) : Env' → M RV := fun ρ => M.bind (g ρ) fun ds => if ds.length ≤ sizeLine then M.cell (.lst ds) else M.bad
def sBin (op : D → D → Option RV) (f g : Env' → M D) : Env' → M RV := fun ρ => M.bind (f ρ) fun a => M.bind (g ρ) fun b => M.rdr fun st => op (deref st a) (deref st b)
def sUn (op : D → Option RV) (f : Env' → M D) : Env' → M RV := fun ρ => M.bind (f ρ) fun a => M.rdr fun st => op (deref st a)
def sCall (op : List D → Option RV) (g : Env' → M (List D)) : Env' → M RV := fun ρ => M.bind (g ρ) fun as => M.rdr fun st => op (as.map (deref st))
def sMeth (op : D → List D → Option RV) (f : Env' → M D) (g : Env' → M (List D)) : Env' → M RV := fun ρ => M.bind (f ρ) fun a => M.bind (g ρ) fun as => M.rdr fun st => op (deref st a) (as.map (deref st))
def isT : Option RV → Option Bool
  | some (.per (.bl b)) => some b
  | _ => none
def M.opt' {α : Type} (o : Store → Option α) : M α := fun st => match o st with
  | some r => .ok r st
  | none => .bad
def sChain (op op' : D → D → Option RV) (f g k : Env' → M D) : Env' → M RV := fun ρ => M.bind (f ρ) fun a => M.bind (g ρ) fun b => M.bind (M.opt' fun st => isT (op (deref st a) (deref st b))) fun c =>
  if c = true then M.bind (k ρ) fun d => M.rdr fun st => op' (deref st b) (deref st d) else M.pure (.per (.bl false))
/-- a value's truth -/
def tru (st : Store) : D → Option Bool
  | .non => some false
  | .bl b => some b
  | .int i => some (i != 0)
  | .str y => if y.length ≤ sizeLine then some ((y.length : Int) != 0) else none
  | .tup ds => some (!ds.isEmpty)
  | .lst ds => some (!ds.isEmpty)
  | .cell k => match st[k]? with
    | some (.lst ds) => some (!ds.isEmpty)
    | some (.dct kvs) => some (!kvs.isEmpty)
    | none => none
  | .ty _ => none
def sTru (f : Env' → M RV) : Env' → M Bool := fun ρ => M.bind (f ρ) fun r => M.opt' fun st => tru st r.d
def sAndT (f g : Env' → M Bool) : Env' → M Bool := fun ρ => M.bind (f ρ) fun b => if b = true then g ρ else M.pure false
def sOrT (f g : Env' → M Bool) : Env' → M Bool := fun ρ => M.bind (f ρ) fun b => if b = true then M.pure true else g ρ
def sNotT (f : Env' → M Bool) : Env' → M Bool := fun ρ => M.bind (f ρ) fun b => M.pure !b
def sAndV (f g : Env' → M RV) : Env' → M RV := fun ρ => M.bind (f ρ) fun r => M.bind (M.opt' fun st => tru st r.d) fun b => if b = true then g ρ else M.pure r
def sOrV (f g : Env' → M RV) : Env' → M RV := fun ρ => M.bind (f ρ) fun r => M.bind (M.opt' fun st => tru st r.d) fun b => if b = true then M.pure r else g ρ
def sNotV (f : Env' → M RV) : Env' → M RV := fun ρ => M.bind (f ρ) fun r => M.bind (M.opt' fun st => tru st r.d) fun b => M.pure (.per (.bl !b))
def sIf {α : Type} (c : Env' → M Bool) (f g : Env' → M α) : Env' → M α := fun ρ => M.bind (c ρ) fun b => if b = true then f ρ else g ρ
def sBoolT (f : Env' → M RV) : Env' → M Bool := fun ρ => M.bind (f ρ) fun r => M.opt' fun _ => isT (some r)

section
variable {K : PySem.W.Frag} {fld : Str → List Str} {W : WX} {σ : L2.St} {H : Hp} {ca : List Addr} {st : Store}
theorem Post.opt' {α : Type} {k : α → Store → List Addr → Hp → Prop} {o : Store → Option α} (h : Post K fld W σ H ca k (M.opt' o st)) (s : SR K st ca H) : ∃ a, o st = some a ∧ k a st ca H := by
  unfold M.opt' at h
  cases e : o st with
  | none => rw [e] at h; exact h.elim
  | some r => rw [e] at h; exact ⟨r, rfl, Post.now h s⟩
theorem Post.opt2 {α : Type} {k : α → Store → List Addr → Hp → Prop} {o : Store → Option α} (h : Post K fld W σ H ca k (M.opt' o st)) : ∃ a, o st = some a ∧ Post K fld W σ H ca k (.ok a st) := by
  unfold M.opt' at h
  cases e : o st with
  | none => rw [e] at h; exact h.elim
  | some r => rw [e] at h; exact ⟨r, rfl, h⟩
theorem tru_of {r : RV} {v : V} {k : Bool} {H0 : Hp} (s : SR K st ca H) (h : RelRV K H0 H ca r v) (e : tru st r.d = some k) : TruV K v H k := by
  have hx := RelR.x s h.r
  have seq : ∀ (ds : List D) (a : Addr) (vs : List V), RdL K H a vs → RelDs K H ca ds vs → TruV K (.ref a) H (!ds.isEmpty) := fun ds a vs q r => by
    refine .inl ⟨vs, q.sq, ?_⟩
    cases ds with
    | nil => cases r; rfl
    | cons d ds => obtain ⟨_, _, e, _⟩ := r; subst e; rfl
  cases hd : r.d with
  | non => rw [hd] at hx e; cases (show v = .non from hx); cases e; rfl
  | bl b => rw [hd] at hx e; cases (show v = .bl b from hx); cases e; rfl
  | int i => rw [hd] at hx e; cases (show v = .int i from hx); cases e; rfl
  | str y =>
    rw [hd] at hx e
    cases (show v = .str y from hx)
    have e : (if y.length ≤ sizeLine then some ((y.length : Int) != 0) else none) = some k := e
    by_cases hl : y.length ≤ sizeLine
    · rw [if_pos hl] at e
      cases e
      exact ⟨hl, rfl⟩
    · rw [if_neg hl] at e
      cases e
  | tup ds =>
    rw [hd] at hx e
    obtain ⟨a, vs, rfl, q, r1⟩ := hx
    cases e
    refine .inr (.inl ⟨vs, q, ?_⟩)
    cases ds with
    | nil => cases r1; rfl
    | cons d ds => obtain ⟨_, _, e, _⟩ := r1; subst e; rfl
  | lst ds =>
    rw [hd] at hx e
    obtain ⟨a, vs, rfl, q, r1⟩ := hx
    cases e
    exact seq ds a vs q r1
  | ty n => rw [hd] at e; cases e
  | cell j =>
    rw [hd] at hx e
    have hr : RelD K H ca (.cell j) v := by
      have := h.r
      rw [hd] at this
      exact this
    obtain ⟨a, rfl, q⟩ := hr
    have e : (match st[j]? with
      | some (.lst ds) => some (!ds.isEmpty)
      | some (.dct kvs) => some (!kvs.isEmpty)
      | none => none) = some k := e
    cases hc : st[j]? with
    | none => rw [hc] at e; cases e
    | some c =>
      rw [hc] at e
      have q1 := s.cell j c a hc q
      cases c with
      | lst ds =>
        cases e
        obtain ⟨vs, h1, r1⟩ := q1
        exact seq ds a vs (.inl (.inl h1)) r1
      | dct kvs =>
        cases e
        obtain ⟨vs, h1, r1⟩ := q1
        refine .inr (.inr ⟨vs, h1, ?_⟩)
        cases kvs with
        | nil => cases r1; rfl
        | cons d ds => obtain ⟨_, _, e, _⟩ := r1; subst e; rfl
end

section
variable {K : PySem.W.Frag} {fld : Str → List Str} {W : WX} {X : Cx} {e a b c : Expr} {es rest : List Expr} {pos : Pos}
theorem se_var {i : Nat} {x : Str} (hN : X.N[i]? = some x) (hv : Vis X.env.scope x) (hd : (x == ("__debug__" : Str)) = false) (hcd : (x == ("__classdict__" : Str)) = false) : PE X (.Name x pos) (TN K fld W (sVar i)) := by
  refine PE.imp (pe_var hN hv hd hcd) fun σ H Q ⟨ρ, st, ca, he, hs, hp⟩ => ?_
  unfold sVar at hp
  cases hr : ρ[i]? with
  | none => rw [hr] at hp; exact hp.elim
  | some s =>
    obtain ⟨o, h1, h2⟩ := he.at_ i s hr
    rw [hr] at hp
    cases s with
    | un => exact hp.elim
    | val d =>
      obtain ⟨v, e, q⟩ := h2
      subst e
      exact ⟨v, h1, Post.now hp hs v q⟩
    | own ds =>
      obtain ⟨p, vs, e, q, n, r⟩ := h2
      subst e
      exact ⟨_, h1, Post.now hp hs _ ⟨p, vs, rfl, q, n, r⟩⟩
    | cl => exact hp.elim
theorem se_c {d : D} {v : V} (h : PE X e (tC v)) (r : ∀ H ca, RelD K H ca d v) : PE X e (TN K fld W (sC d)) := by
  refine PE.imp h fun σ H Q ⟨ρ, st, ca, he, hs, hp⟩ => ?_
  exact Post.now hp hs v (r H ca)
theorem se_nil : PA X [] (TAs K fld W sNil) := PA.imp pa_nil fun σ H Q ⟨ρ, st, ca, he, hs, hp⟩ => Post.now hp hs [] rfl
theorem se_nilr : PA X [] (TAr K fld W sNil) := PA.imp pa_nil fun σ H Q ⟨ρ, st, ca, he, hs, hp⟩ => Post.now hp hs [] rfl
theorem se_cons {f : Env' → M D} {g : Env' → M (List D)} (ha : PE X e (TS' K fld W f)) (hr : PA X es (TAs K fld W g)) (hs : starEach (e :: es) X.env = (false, eval e X.env) :: starEach es X.env) : PA X (e :: es) (TAs K fld W (sCons f g)) := by
  refine PA.imp (pa_cons ha hr hs) fun σ H Q ⟨ρ, st, ca, he, hs, hp⟩ => ⟨ρ, st, ca, he, hs, (Post.bind hp).mono fun d st1 ca1 H1 t1 s1 q v hv => ?_⟩
  refine ⟨ρ, st1, ca1, he.stp t1, s1, (Post.bind q).mono fun ds st2 ca2 H2 t2 s2 q vs hvs => ?_⟩
  exact Post.now q s2 _ ⟨v, vs, rfl, hv.stp t2, hvs⟩
theorem se_consr {f : Env' → M D} {g : Env' → M (List D)} (ha : PE X e (TR K fld W f)) (hr : PA X es (TAr K fld W g)) (hs : starEach (e :: es) X.env = (false, eval e X.env) :: starEach es X.env) : PA X (e :: es) (TAr K fld W (sCons f g)) := by
  refine PA.imp (pa_cons ha hr hs) fun σ H Q ⟨ρ, st, ca, he, hs, hp⟩ => ⟨ρ, st, ca, he, hs, (Post.bind hp).mono fun d st1 ca1 H1 t1 s1 q v hv => ?_⟩
  refine ⟨ρ, st1, ca1, he.stp t1, s1, (Post.bind q).mono fun ds st2 ca2 H2 t2 s2 q vs hvs => ?_⟩
  exact Post.now q s2 _ ⟨v, vs, rfl, hv.stp t2, hvs⟩
theorem se_tup {k : Nat} {g : Env' → M (List D)} (h : PA X es (TAs K fld W g)) : PE X (.Tuple es k pos) (TN K fld W (sTup g)) := by
  refine PE.imp (pe_tup h) fun σ H Q ⟨ρ, st, ca, he, hs, hp⟩ => ⟨ρ, st, ca, he, hs, (Post.bind hp).mono fun ds st1 ca1 H1 t1 s1 q vs hvs => ?_⟩
  split at q
  · rename_i hl
    refine ⟨by rw [hvs.length]; exact hl, fun p hp => ?_⟩
    have t2 := Stp.laid (ca := ca1) (o := .tup vs) hp
    exact q ca1 _ t2 (s1.laid hp) _ ⟨p, vs, rfl, SqT.of upd_same, hvs.stp t2⟩
  · exact q.elim
theorem se_lst {g : Env' → M (List D)} (h : PA X es (TAs K fld W g)) : PE X (.List es pos) (TN K fld W (sLst g)) := by
  refine PE.imp (pe_lst h) fun σ H Q ⟨ρ, st, ca, he, hs, hp⟩ => ⟨ρ, st, ca, he, hs, (Post.bind hp).mono fun ds st1 ca1 H1 t1 s1 q vs hvs => ?_⟩
  split at q
  · rename_i hl
    refine ⟨by rw [hvs.length]; exact hl, fun p hp => ?_⟩
    have t2 := Stp.laid (ca := ca1) (o := .lst vs) hp
    exact q ca1 _ t2 (s1.laid hp) _ ⟨p, vs, rfl, upd_same, t1.dom p hp, s1.notnew hp, hvs.stp t2⟩
  · exact q.elim
/-- a new cell -/
theorem SR.push {st : Store} {H : Hp} {ca : List Addr} {c : Cell} {p : Addr} {o : HO} (s : SR K st ca H) (hp : H p = none) (hc : CellR K (upd H p o) (ca ++ [p]) c p) :
    Stp ca (ca ++ [p]) H (upd H p o) ∧ SR K (st ++ [c]) (ca ++ [p]) (upd H p o) := by
  have t0 := Stp.laid (ca := ca) (o := o) hp
  have t : Stp ca (ca ++ [p]) H (upd H p o) := ⟨⟨[p], rfl, fun a ha => by rw [List.mem_singleton.mp ha]; exact hp⟩, t0.fix, t0.keep, t0.dom⟩
  refine ⟨t, by rw [List.length_append, List.length_append, s.len]; rfl, ?_, fun k c' a e1 e2 => ?_, tabs_new hp s.tabs⟩
  · rw [List.nodup_append]
    refine ⟨s.nd, by simp, fun x hx y hy => ?_⟩
    rw [List.mem_singleton.mp hy]
    rintro rfl
    exact s.notnew hp hx
  · by_cases hk : k < st.length
    · rw [List.getElem?_append_left hk] at e1
      rw [List.getElem?_append_left (by rw [s.len]; exact hk)] at e2
      have q := s.cell k c' a e1 e2
      have ne : a ≠ p := fun z => s.notnew hp (z ▸ List.mem_of_getElem? e2)
      cases c' with
      | lst ds => obtain ⟨vs, h1, r⟩ := q; exact ⟨vs, by rw [upd_ne ne]; exact h1, r.stp t⟩
      | dct ds => obtain ⟨vs, h1, r⟩ := q; exact ⟨vs, by rw [upd_ne ne]; exact h1, r.stp t⟩
    · have hk1 : k = st.length := by
        have := (List.getElem?_eq_some_iff.mp e1).1
        rw [List.length_append, List.length_singleton] at this
        omega
      subst hk1
      rw [List.getElem?_append_right (Nat.le_refl _)] at e1
      rw [List.getElem?_append_right (by rw [s.len]; exact Nat.le_refl _)] at e2
      simp at e1
      rw [s.len] at e2
      simp at e2
      subst e1 e2
      exact hc
theorem se_lstC {g : Env' → M (List D)} (h : PA X es (TAs K fld W g)) : PE X (.List es pos) (TN K fld W (sLstC g)) := by
  refine PE.imp (pe_lst h) fun σ H Q ⟨ρ, st, ca, he, hs, hp⟩ => ⟨ρ, st, ca, he, hs, (Post.bind hp).mono fun ds st1 ca1 H1 t1 s1 q vs hvs => ?_⟩
  split at q
  · rename_i hl
    refine ⟨by rw [hvs.length]; exact hl, fun p hpn => ?_⟩
    have hx : Stp ca1 (ca1 ++ [p]) H1 (upd H1 p (.lst vs)) := by
      have t0 := Stp.laid (ca := ca1) (o := .lst vs) hpn
      exact ⟨⟨[p], rfl, fun a ha => by rw [List.mem_singleton.mp ha]; exact hpn⟩, t0.fix, t0.keep, t0.dom⟩
    obtain ⟨t2, s2⟩ := s1.push (c := .lst ds) (o := .lst vs) hpn ⟨vs, upd_same, hvs.stp hx⟩
    refine q _ _ t2 s2 _ ⟨p, rfl, ?_⟩
    rw [← s1.len, List.getElem?_append_right (Nat.le_refl _)]
    simp
  · exact q.elim
theorem se_bin {o : Operator} {op : D → D → Option RV} {f g : Env' → M D} (ho : OpR X (binaryOp o) (rO K op)) (ha : PE X a (TR K fld W f)) (hb : PE X b (TR K fld W g)) : PE X (.BinOp a o b pos) (TN K fld W (sBin op f g)) := by
  refine PE.imp (pe_op ho ha hb) fun σ H Q ⟨ρ, st, ca, he, hs, hp⟩ => ⟨ρ, st, ca, he, hs, (Post.bind hp).mono fun d st1 ca1 H1 t1 s1 q v hv => ?_⟩
  refine ⟨ρ, st1, ca1, he.stp t1, s1, (Post.bind q).mono fun d2 st2 ca2 H2 t2 s2 q w hw => ?_⟩
  obtain ⟨r, e, g⟩ := q.rdr (t1.trans t2)
  exact ⟨ca2, st2, _, _, r, s2, (hv.stp t2).x s2, hw.x s2, e, g⟩
theorem se_un {o : UnaryOp} {op : D → Option RV} {f : Env' → M D} (ho : UnR X (unaryOp o) (rU1 K op)) (ha : PE X a (TR K fld W f)) : PE X (.UnaryOp o a pos) (TN K fld W (sUn op f)) := by
  refine PE.imp (pe_un ho ha) fun σ H Q ⟨ρ, st, ca, he, hs, hp⟩ => ⟨ρ, st, ca, he, hs, (Post.bind hp).mono fun d st1 ca1 H1 t1 s1 q v hv => ?_⟩
  obtain ⟨r, e, g⟩ := q.rdr t1
  exact ⟨ca1, st1, _, r, s1, hv.x s1, e, g⟩
theorem se_cmp {o : CmpOp} {op : D → D → Option RV} {f g : Env' → M D} (ho : OpR X (compareOp o) (rO K op)) (ha : PE X a (TR K fld W f)) (hb : PE X b (TR K fld W g)) (hm : behindInMarks o b = false) : PE X (.Compare a [o] [b] pos) (TN K fld W (sBin op f g)) := by
  refine PE.imp (pe_cmpR ho ha hb hm) fun σ H Q ⟨ρ, st, ca, he, hs, hp⟩ => ⟨ρ, st, ca, he, hs, (Post.bind hp).mono fun d st1 ca1 H1 t1 s1 q v hv => ?_⟩
  refine ⟨ρ, st1, ca1, he.stp t1, s1, (Post.bind q).mono fun d2 st2 ca2 H2 t2 s2 q w hw => ?_⟩
  obtain ⟨r, e, g⟩ := q.rdr (t1.trans t2)
  exact ⟨ca2, st2, _, _, r, s2, (hv.stp t2).x s2, hw.x s2, e, g⟩
/-- the result is a bool -/
def BoolOp' (op : D → D → Option RV) : Prop := ∀ a b r, op a b = some r → ∃ k, r = .per (.bl k)
theorem st_bool {t : TE} {f : Env' → M RV} (h : PT X e (tTest t)) (i : ∀ σ H Q, TN K fld W f σ H Q → t σ H Q) : PT X e (TT' K fld W (sBoolT f)) := by
  refine PT.imp h fun σ H Q ⟨ρ, st, ca, he, hs, hp⟩ => ?_
  refine i σ H _ ⟨ρ, st, ca, he, hs, (Post.bind hp).mono fun r st1 ca1 H1 t1 s1 q v hv => ?_⟩
  obtain ⟨k, e1, q2⟩ := q.opt' s1
  cases r with
  | per d =>
    cases d with
    | bl b =>
      have e2 : b = k := Option.some.inj e1
      have e3 : v = .bl b := hv
      rw [e2] at e3
      exact ⟨k, e3, q2⟩
    | _ => cases e1
  | _ => cases e1
theorem st_cmp {o : CmpOp} {op : D → D → Option RV} {f g : Env' → M D} (ho : OpR X (compareOp o) (rO K op)) (ha : PE X a (TR K fld W f)) (hb : PE X b (TR K fld W g)) (hm : behindInMarks o b = false) : PT X (.Compare a [o] [b] pos) (TT' K fld W (sBoolT (sBin op f g))) := by
  refine st_bool (pt_cmpR ho ha hb hm) fun σ H Q ⟨ρ, st, ca, he, hs, hp⟩ => ⟨ρ, st, ca, he, hs, (Post.bind hp).mono fun d st1 ca1 H1 t1 s1 q v hv => ?_⟩
  refine ⟨ρ, st1, ca1, he.stp t1, s1, (Post.bind q).mono fun d2 st2 ca2 H2 t2 s2 q w hw => ?_⟩
  obtain ⟨r, e, g⟩ := q.rdr (t1.trans t2)
  exact ⟨ca2, st2, _, _, r, s2, (hv.stp t2).x s2, hw.x s2, e, g⟩
theorem tn_chain {op op' : D → D → Option RV} {f g k : Env' → M D} {r r' : R2} (h1 : r = rO K op) (h2 : r' = rO K op') : ∀ σ H Q, TN K fld W (sChain op op' f g k) σ H Q → tChain r r' (TR K fld W f) (TR K fld W g) (TR K fld W k) σ H Q := by
  subst h1 h2
  intro σ H Q ⟨ρ, st, ca, he, hs, hp⟩
  refine ⟨ρ, st, ca, he, hs, (Post.bind hp).mono fun d st1 ca1 H1 t1 s1 q v hv => ?_⟩
  refine ⟨ρ, st1, ca1, he.stp t1, s1, (Post.bind q).mono fun d2 st2 ca2 H2 t2 s2 q w hw => ?_⟩
  obtain ⟨b, hb, q3⟩ := (Post.bind q).opt2
  cases hr : op (deref st2 d) (deref st2 d2) with
  | none => rw [hr] at hb; cases hb
  | some r =>
    rw [hr] at hb
    refine ⟨ca2, st2, _, _, r, s2, (hv.stp t2).x s2, hw.x s2, hr, fun z H3 t3 s3 rz => ?_⟩
    cases r with
    | per dd =>
      cases dd with
      | bl b' =>
        have e2 : b' = b := Option.some.inj hb
        have e3 : z = .bl b' := rz
        rw [e2] at e3
        refine ⟨b, e3, ?_⟩
        have q4 := q3 ca2 H3 t3 s3
        cases b with
        | false => exact Post.now q4 s3 _ rfl
        | true =>
          refine ⟨ρ, st2, ca2, ((he.stp t1).stp t2).stp t3, s3, (Post.bind q4).mono fun d3 st3 ca3 H4 t4 s4 q5 y hy => ?_⟩
          obtain ⟨r2, e2, g2⟩ := q5.rdr (((t1.trans t2).trans t3).trans t4)
          exact ⟨ca3, st3, _, _, r2, s4, ((hw.stp t3).stp t4).x s4, hy.x s4, e2, g2⟩
      | _ => cases hb
    | _ => cases hb
theorem se_chain {o o' : CmpOp} {op op' : D → D → Option RV} {f g k : Env' → M D} (ho : OpR X (compareOp o) (rO K op)) (ho' : OpR X (compareOp o') (rO K op')) (ha : PE X a (TR K fld W f)) (hb : PE X b (TR K fld W g)) (hc : PE X c (TR K fld W k))
    (hm : lastMarks [o, o'] [b, c] = false) : PE X (.Compare a [o, o'] [b, c] pos) (TN K fld W (sChain op op' f g k)) := PE.imp (pe_chain ho ho' ha hb hc hm) (tn_chain rfl rfl)
theorem st_chain {o o' : CmpOp} {op op' : D → D → Option RV} {f g k : Env' → M D} (ho : OpR X (compareOp o) (rO K op)) (ho' : OpR X (compareOp o') (rO K op')) (ha : PE X a (TR K fld W f)) (hb : PE X b (TR K fld W g)) (hc : PE X c (TR K fld W k))
    (hm : lastMarks [o, o'] [b, c] = false) : PT X (.Compare a [o, o'] [b, c] pos) (TT' K fld W (sBoolT (sChain op op' f g k))) := st_bool (pt_chain ho ho' ha hb hc hm) (tn_chain rfl rfl)
/-! ### tests -/
theorem st_tru {f : Env' → M RV} (ha : PE X e (TN X.K fld W f)) (he : ∀ whole, isTrue e X.env whole = (do let v ← whole; standAt e.pos; holding [v] (truthy v))) : PT X e (TT' X.K fld W (sTru f)) := by
  refine PT.imp (pt_truth ha he) fun σ H Q ⟨ρ, st, ca, he, hs, hp⟩ => ⟨ρ, st, ca, he, hs, (Post.bind hp).mono fun r st1 ca1 H1 t1 s1 q v hv => ?_⟩
  obtain ⟨k, e, q⟩ := q.opt' s1
  exact ⟨k, tru_of s1 hv e, q⟩
theorem sw_and1 {f : Env' → M Bool} (h : PT X a (TT' K fld W f)) : PW X (.BoolOp .And [a] pos) (TT' K fld W f) := pw_and1 h
theorem sw_or1 {f : Env' → M Bool} (h : PT X a (TT' K fld W f)) : PW X (.BoolOp .Or [a] pos) (TT' K fld W f) := pw_or1 h
theorem PW.imp {t u : TT} (h : PW X e t) (i : ∀ σ H Q, u σ H Q → t σ H Q) : PW X e u := ⟨fun wh pins s σ H Q I q => h.run wh pins s σ H Q I (i σ H Q q)⟩
theorem sw_and {f g : Env' → M Bool} (ha : PT X a (TT' K fld W f)) (hb : PW X (.BoolOp .And (b :: rest) pos) (TT' K fld W g)) : PW X (.BoolOp .And (a :: b :: rest) pos) (TT' K fld W (sAndT f g)) := by
  refine PW.imp (pw_and ha hb) fun σ H Q ⟨ρ, st, ca, he, hs, hp⟩ => ⟨ρ, st, ca, he, hs, (Post.bind hp).mono fun k st1 ca1 H1 t1 s1 q => ?_⟩
  cases k with
  | true => exact ⟨ρ, st1, ca1, he.stp t1, s1, q⟩
  | false => exact Post.now q s1
theorem sw_or {f g : Env' → M Bool} (ha : PT X a (TT' K fld W f)) (hb : PW X (.BoolOp .Or (b :: rest) pos) (TT' K fld W g)) : PW X (.BoolOp .Or (a :: b :: rest) pos) (TT' K fld W (sOrT f g)) := by
  refine PW.imp (pw_or ha hb) fun σ H Q ⟨ρ, st, ca, he, hs, hp⟩ => ⟨ρ, st, ca, he, hs, (Post.bind hp).mono fun k st1 ca1 H1 t1 s1 q => ?_⟩
  cases k with
  | false => exact ⟨ρ, st1, ca1, he.stp t1, s1, q⟩
  | true => exact Post.now q s1
theorem st_not {f : Env' → M Bool} (ha : PT X a (TT' K fld W f)) : PT X (.UnaryOp .Not a pos) (TT' K fld W (sNotT f)) := by
  refine PT.imp (pt_not ha) fun σ H Q ⟨ρ, st, ca, he, hs, hp⟩ => ⟨ρ, st, ca, he, hs, (Post.bind hp).mono fun k st1 ca1 H1 t1 s1 q => ?_⟩
  exact Post.now q s1
/-! ### and, or, not as values; a if t else b -/
theorem se_one {o : BoolOp} {f : Env' → M RV} (h : PE X a (TN K fld W f)) : PE X (.BoolOp o [a] pos) (TN K fld W f) := pe_one h
theorem se_and {f g : Env' → M RV} (ha : PE X a (TN X.K fld W f)) (hb : PE X (.BoolOp .And (b :: rest) pos) (TN X.K fld W g)) : PE X (.BoolOp .And (a :: b :: rest) pos) (TN X.K fld W (sAndV f g)) := by
  refine PE.imp (pe_andT ha hb) fun σ H Q ⟨ρ, st, ca, he, hs, hp⟩ => ⟨ρ, st, ca, he, hs, (Post.bind hp).mono fun r st1 ca1 H1 t1 s1 q v hv => ?_⟩
  obtain ⟨k, e, q⟩ := (Post.bind q).opt' s1
  refine ⟨k, tru_of s1 hv e, ?_⟩
  cases k with
  | true => exact ⟨ρ, st1, ca1, he.stp t1, s1, q.mono fun r2 st2 ca2 H2 t2 s2 q w hw => q w (hw.back t1)⟩
  | false => exact Post.now q s1 v hv
theorem se_or {f g : Env' → M RV} (ha : PE X a (TN X.K fld W f)) (hb : PE X (.BoolOp .Or (b :: rest) pos) (TN X.K fld W g)) : PE X (.BoolOp .Or (a :: b :: rest) pos) (TN X.K fld W (sOrV f g)) := by
  refine PE.imp (pe_orT ha hb) fun σ H Q ⟨ρ, st, ca, he, hs, hp⟩ => ⟨ρ, st, ca, he, hs, (Post.bind hp).mono fun r st1 ca1 H1 t1 s1 q v hv => ?_⟩
  obtain ⟨k, e, q⟩ := (Post.bind q).opt' s1
  refine ⟨k, tru_of s1 hv e, ?_⟩
  cases k with
  | false => exact ⟨ρ, st1, ca1, he.stp t1, s1, q.mono fun r2 st2 ca2 H2 t2 s2 q w hw => q w (hw.back t1)⟩
  | true => exact Post.now q s1 v hv
theorem se_not {f : Env' → M RV} (ha : PE X a (TN X.K fld W f)) : PE X (.UnaryOp .Not a pos) (TN X.K fld W (sNotV f)) := by
  refine PE.imp (pe_notT ha) fun σ H Q ⟨ρ, st, ca, he, hs, hp⟩ => ⟨ρ, st, ca, he, hs, (Post.bind hp).mono fun r st1 ca1 H1 t1 s1 q v hv => ?_⟩
  obtain ⟨k, e, q⟩ := (Post.bind q).opt' s1
  exact ⟨k, tru_of s1 hv e, Post.now q s1 _ rfl⟩
theorem se_if {t : Env' → M Bool} {f g : Env' → M RV} (hc : PT X c (TT' K fld W t)) (ha : PE X a (TN K fld W f)) (hb : PE X b (TN K fld W g)) : PE X (.IfExp c a b pos) (TN K fld W (sIf t f g)) := by
  refine PE.imp (pe_ifExp hc ha hb) fun σ H Q ⟨ρ, st, ca, he, hs, hp⟩ => ⟨ρ, st, ca, he, hs, (Post.bind hp).mono fun k st1 ca1 H1 t1 s1 q => ?_⟩
  cases k with
  | true => exact ⟨ρ, st1, ca1, he.stp t1, s1, q.mono fun r2 st2 ca2 H2 t2 s2 q w hw => q w (hw.back t1)⟩
  | false => exact ⟨ρ, st1, ca1, he.stp t1, s1, q.mono fun r2 st2 ca2 H2 t2 s2 q w hw => q w (hw.back t1)⟩
/-! ### calls of built-ins, their methods, subscripts -/
theorem se_callB {id : String} {x : Str} {p : Pos} {op : List D → Option RV} {g : Env' → M (List D)} (hc : CallR X (.builtin id) (rCl K op)) (hg : Gl X x) (hm : X.mg x = none) (hv : bootBuiltins x = some (.builtin id)) (ha : PA X (e :: es) (TAr K fld W g))
    (hn : x ≠ "__name__") (hdb : (x == ("__debug__" : Str)) = false) (he : starEach (e :: es) X.env = (false, eval e X.env) :: starEach es X.env) (hpl : (backTo pos (starEach es X.env)).any (·.1) = false) : PE X (.Call (.Name x p) (e :: es) [] pos) (TN K fld W (sCall op g)) := by
  refine PE.imp (pe_callB hc hg hm hv ha hn hdb he hpl) fun σ H Q ⟨ρ, st, ca, he, hs, hp⟩ => ⟨ρ, st, ca, he, hs, (Post.bind hp).mono fun ds st1 ca1 H1 t1 s1 q vs hvs => ?_⟩
  obtain ⟨r, e, g⟩ := q.rdr t1
  exact ⟨ca1, st1, _, r, s1, hvs.x s1, e, g⟩
theorem se_callTy {T : String} {x : Str} {p : Pos} {op : List D → Option RV} {g : Env' → M (List D)} (hc : CallR X (.type T) (rCl K op)) (hg : Gl X x) (hm : X.mg x = none) (hv : bootBuiltins x = some (.type T)) (ha : PA X (e :: es) (TAr K fld W g))
    (hn : x ≠ "__name__") (hdb : (x == ("__debug__" : Str)) = false) (he : starEach (e :: es) X.env = (false, eval e X.env) :: starEach es X.env) (hpl : (backTo pos (starEach es X.env)).any (·.1) = false) : PE X (.Call (.Name x p) (e :: es) [] pos) (TN K fld W (sCall op g)) := by
  refine PE.imp (pe_callTy hc hg hm hv ha hn hdb he hpl) fun σ H Q ⟨ρ, st, ca, he, hs, hp⟩ => ⟨ρ, st, ca, he, hs, (Post.bind hp).mono fun ds st1 ca1 H1 t1 s1 q vs hvs => ?_⟩
  obtain ⟨r, e, g⟩ := q.rdr t1
  exact ⟨ca1, st1, _, r, s1, hvs.x s1, e, g⟩
theorem se_ix {op : D → D → Option RV} {f g : Env' → M D} (hr : IxR X (rO K op)) (ha : PE X a (TR K fld W f)) (hb : PE X b (TR K fld W g)) (hs : PlainIx b) : PE X (.Subscript a b pos) (TN K fld W (sBin op f g)) := by
  refine PE.imp (pe_ix hr ha hb hs) fun σ H Q ⟨ρ, st, ca, he, hs, hp⟩ => ⟨ρ, st, ca, he, hs, (Post.bind hp).mono fun d st1 ca1 H1 t1 s1 q v hv => ?_⟩
  refine ⟨ρ, st1, ca1, he.stp t1, s1, (Post.bind q).mono fun d2 st2 ca2 H2 t2 s2 q w hw => ?_⟩
  obtain ⟨r, e, g⟩ := q.rdr (t1.trans t2)
  exact ⟨ca2, st2, _, _, r, s2, (hv.stp t2).x s2, hw.x s2, e, g⟩
end
end Ev
/-! Tuples compared: the first place that differs decides, the others need no order. -/
namespace PySem.SeqAt
open AutoSeq1 (wpAny_loadPart')
open MeetsSeq MeetsSeq2 MeetsSeq3 SeqRoads2 PySem.W
theorem tup_ltF (l b : Addr) (us ws : Array Value) (n1 n2 : Nat) (d1 d2 : Option Addr) (s1 s2 : Array (Option Value)) (e r : Nat → Bool) :
    Meets (Builtin.«tuple.__lt__» ⟨[.ref l, .ref b], []⟩) (fun A R s => s.heap.get? l = some { cls := .type "tuple", dict := d1, data := .seq us n1, slots := s1 } ∧ s.heap.get? b = some { cls := .type "tuple", dict := d2, data := .seq ws n2, slots := s2 } ∧
        (∀ j (h1 : j < us.size) (h2 : j < ws.size), EqAt A.in1 s us[j] ws[j] (e j)) ∧ (∀ j (h1 : j < us.size) (h2 : j < ws.size), (∀ m, m < j → e m = true) → e j = false → RcOp .Lt A.in1 s us[j] ws[j] (r j)) ∧
        R (.ok (.ret (.bool (firstLt e r (decide (us.size < ws.size)) (List.range (min us.size ws.size)))))) s) := by
  refine .of_wp fun prog w A R s h => ?_
  obtain ⟨hp, gg, dd, tk, os⟩ := s
  obtain ⟨hl, hb, he, hr, h⟩ := h
  have sub := AutoSeq1.sub_tuple_tuple
  have len : (us.toList.zip ws.toList).length = min us.size ws.size := by simp
  wp_walk using wpAny_loadPart' hl, wpAny_loadPart' hb, wpAny_forIn_list _ (fun rest c t => c.1 = none ∧ t = ⟨hp, gg, dd, tk, os⟩ ∧ ∃ i, rest = (us.toList.zip ws.toList).drop i ∧ (∀ m, m < i → e m = true) ∧
    R (.ok (.ret (.bool (firstLt e r (decide (us.size < ws.size)) ((List.range (min us.size ws.size)).drop i))))) ⟨hp, gg, dd, tk, os⟩) _
  case turn =>
    rintro ⟨y, x⟩ rest c t ⟨hc, rfl, i, hz, hm, hR⟩
    have lt : i < (us.toList.zip ws.toList).length := by
      by_cases q : i < (us.toList.zip ws.toList).length
      · exact q
      · rw [List.drop_of_length_le (by omega)] at hz
        cases hz
    have g1 : i < us.size := by omega
    have g2 : i < ws.size := by omega
    rw [List.drop_eq_getElem_cons lt] at hz
    injection hz with hyx tail
    obtain rfl : y = us[i] := by simpa using congrArg Prod.fst hyx
    obtain rfl : x = ws[i] := by simpa using congrArg Prod.snd hyx
    rw [show (List.range (min us.size ws.size)).drop i = i :: (List.range (min us.size ws.size)).drop (i + 1) by
      rw [List.drop_eq_getElem_cons (by simp; omega)]
      simp] at hR
    refine wpAny_bind (he i g1 g2 prog w _ _ ?_)
    cases q : e i with
    | true =>
      rw [firstLt_yes q] at hR
      wp_walk
      refine ⟨rfl, rfl, i + 1, tail, fun m hm2 => ?_, hR⟩
      by_cases z : m = i
      · rw [z]; exact q
      · exact hm m (by omega)
    | false =>
      rw [firstLt_no q] at hR
      have hq : ∀ E Q, Q (.bool (r i)) (⟨hp, gg, dd, tk, os⟩ : Shared) → wpAny (model prog w) A.in1 (richCompare .Lt us[i] ws[i]) Q E ⟨hp, gg, dd, tk, os⟩ := fun E Q z => hr i g1 g2 hm q prog w E Q z
      generalize richCompare CmpOp.Lt us[i] ws[i] = RC at hq ⊢
      wp_walk
      refine hq _ _ ?_
      wp_walk
      exact ⟨_, rfl, hR⟩
  case fin =>
    rintro ⟨c1, c2⟩ t ⟨hc, rfl, i, hz, _, hR⟩
    obtain rfl : c1 = none := hc
    have ge : min us.size ws.size ≤ i := by
      by_cases q : i < (us.toList.zip ws.toList).length
      · rw [List.drop_eq_getElem_cons q] at hz
        cases hz
      · omega
    rw [List.drop_of_length_le (by simpa using ge)] at hR
    wp_walk
    exact ⟨_, rfl, by simpa [Builtin.Tuple.tupleCompareSizes, firstLt] using hR⟩
  case h => exact ⟨rfl, rfl, 0, rfl, fun m hm => absurd hm (Nat.not_lt_zero m), by simpa using h⟩
theorem rc_ltF {A : Around} {s : Shared} {l b : Addr} {us ws : Array Value} {e r : Nat → Bool} (hl : s.heap.IsTuple l us) (hb : s.heap.IsTuple b ws) (hu : A.units < cLine)
    (he : ∀ j (h1 : j < us.size) (h2 : j < ws.size), EqAt A.in1 s us[j] ws[j] (e j)) (hr : ∀ j (h1 : j < us.size) (h2 : j < ws.size), (∀ m, m < j → e m = true) → e j = false → RcOp .Lt A.in1 s us[j] ws[j] (r j)) :
    RcOp .Lt A s (.ref l) (.ref b) (firstLt e r (decide (us.size < ws.size)) (List.range (min us.size ws.size))) := fun prog w E Q h => by
  obtain ⟨⟨c1, d1, dt1, s1⟩, o1, q1, n1, z1⟩ := id hl
  obtain ⟨⟨c2, d2, dt2, s2⟩, o2, q2, n2, z2⟩ := id hb
  simp only at q1 z1 q2 z2
  subst q1 z1 q2 z2
  exact richCompare_meets_room (op := .Lt) ⟨_, o1, rfl⟩ ⟨_, o2, rfl⟩ F.slot_tuple_lt F.entry_tuple_lt (F.args_tuple_lt_2 _ _) (tup_ltF l b us ws n1 n2 d1 d2 s1 s2 e r) ⟨o1, o2, he, hr, (fun z => nomatch z), h⟩ hu
theorem tup_leF (l b : Addr) (us ws : Array Value) (n1 n2 : Nat) (d1 d2 : Option Addr) (s1 s2 : Array (Option Value)) (e r : Nat → Bool) :
    Meets (Builtin.«tuple.__le__» ⟨[.ref l, .ref b], []⟩) (fun A R s => s.heap.get? l = some { cls := .type "tuple", dict := d1, data := .seq us n1, slots := s1 } ∧ s.heap.get? b = some { cls := .type "tuple", dict := d2, data := .seq ws n2, slots := s2 } ∧
        (∀ j (h1 : j < us.size) (h2 : j < ws.size), EqAt A.in1 s us[j] ws[j] (e j)) ∧ (∀ j (h1 : j < us.size) (h2 : j < ws.size), (∀ m, m < j → e m = true) → e j = false → RcOp .LtE A.in1 s us[j] ws[j] (r j)) ∧
        R (.ok (.ret (.bool (firstLt e r (decide (us.size ≤ ws.size)) (List.range (min us.size ws.size)))))) s) := by
  refine .of_wp fun prog w A R s h => ?_
  obtain ⟨hp, gg, dd, tk, os⟩ := s
  obtain ⟨hl, hb, he, hr, h⟩ := h
  have sub := AutoSeq1.sub_tuple_tuple
  have len : (us.toList.zip ws.toList).length = min us.size ws.size := by simp
  wp_walk using wpAny_loadPart' hl, wpAny_loadPart' hb, wpAny_forIn_list _ (fun rest c t => c.1 = none ∧ t = ⟨hp, gg, dd, tk, os⟩ ∧ ∃ i, rest = (us.toList.zip ws.toList).drop i ∧ (∀ m, m < i → e m = true) ∧
    R (.ok (.ret (.bool (firstLt e r (decide (us.size ≤ ws.size)) ((List.range (min us.size ws.size)).drop i))))) ⟨hp, gg, dd, tk, os⟩) _
  case turn =>
    rintro ⟨y, x⟩ rest c t ⟨hc, rfl, i, hz, hm, hR⟩
    have lt : i < (us.toList.zip ws.toList).length := by
      by_cases q : i < (us.toList.zip ws.toList).length
      · exact q
      · rw [List.drop_of_length_le (by omega)] at hz
        cases hz
    have g1 : i < us.size := by omega
    have g2 : i < ws.size := by omega
    rw [List.drop_eq_getElem_cons lt] at hz
    injection hz with hyx tail
    obtain rfl : y = us[i] := by simpa using congrArg Prod.fst hyx
    obtain rfl : x = ws[i] := by simpa using congrArg Prod.snd hyx
    rw [show (List.range (min us.size ws.size)).drop i = i :: (List.range (min us.size ws.size)).drop (i + 1) by
      rw [List.drop_eq_getElem_cons (by simp; omega)]
      simp] at hR
    refine wpAny_bind (he i g1 g2 prog w _ _ ?_)
    cases q : e i with
    | true =>
      rw [firstLt_yes q] at hR
      wp_walk
      refine ⟨rfl, rfl, i + 1, tail, fun m hm2 => ?_, hR⟩
      by_cases z : m = i
      · rw [z]; exact q
      · exact hm m (by omega)
    | false =>
      rw [firstLt_no q] at hR
      have hq : ∀ E Q, Q (.bool (r i)) (⟨hp, gg, dd, tk, os⟩ : Shared) → wpAny (model prog w) A.in1 (richCompare .LtE us[i] ws[i]) Q E ⟨hp, gg, dd, tk, os⟩ := fun E Q z => hr i g1 g2 hm q prog w E Q z
      generalize richCompare CmpOp.LtE us[i] ws[i] = RC at hq ⊢
      wp_walk
      refine hq _ _ ?_
      wp_walk
      exact ⟨_, rfl, hR⟩
  case fin =>
    rintro ⟨c1, c2⟩ t ⟨hc, rfl, i, hz, _, hR⟩
    obtain rfl : c1 = none := hc
    have ge : min us.size ws.size ≤ i := by
      by_cases q : i < (us.toList.zip ws.toList).length
      · rw [List.drop_eq_getElem_cons q] at hz
        cases hz
      · omega
    rw [List.drop_of_length_le (by simpa using ge)] at hR
    wp_walk
    exact ⟨_, rfl, by simpa [Builtin.Tuple.tupleCompareSizes, firstLt] using hR⟩
  case h => exact ⟨rfl, rfl, 0, rfl, fun m hm => absurd hm (Nat.not_lt_zero m), by simpa using h⟩
theorem rc_leF {A : Around} {s : Shared} {l b : Addr} {us ws : Array Value} {e r : Nat → Bool} (hl : s.heap.IsTuple l us) (hb : s.heap.IsTuple b ws) (hu : A.units < cLine)
    (he : ∀ j (h1 : j < us.size) (h2 : j < ws.size), EqAt A.in1 s us[j] ws[j] (e j)) (hr : ∀ j (h1 : j < us.size) (h2 : j < ws.size), (∀ m, m < j → e m = true) → e j = false → RcOp .LtE A.in1 s us[j] ws[j] (r j)) :
    RcOp .LtE A s (.ref l) (.ref b) (firstLt e r (decide (us.size ≤ ws.size)) (List.range (min us.size ws.size))) := fun prog w E Q h => by
  obtain ⟨⟨c1, d1, dt1, s1⟩, o1, q1, n1, z1⟩ := id hl
  obtain ⟨⟨c2, d2, dt2, s2⟩, o2, q2, n2, z2⟩ := id hb
  simp only at q1 z1 q2 z2
  subst q1 z1 q2 z2
  exact richCompare_meets_room (op := .LtE) ⟨_, o1, rfl⟩ ⟨_, o2, rfl⟩ F.slot_tuple_le F.entry_tuple_le (F.args_tuple_le_2 _ _) (tup_leF l b us ws n1 n2 d1 d2 s1 s2 e r) ⟨o1, o2, he, hr, (fun z => nomatch z), h⟩ hu
end PySem.SeqAt
/-! a < b, a <= b of nested tuples of numbers: by the first place that differs. -/
namespace PySem.SeqAt
open PySem.W
section
variable (fi : Int → Int → Bool) (fl : Nat → Nat → Bool)
mutual
def fstQ : PyData → PyData → Option Bool
  | .int i, .int j => some (fi i j)
  | .tuple a, .tuple b => fstQs a b
  | _, _ => none
def fstQs : List PyData → List PyData → Option Bool
  | x :: xs, y :: ys => if PyData.eqv x y = true then fstQs xs ys else fstQ x y
  | [], ys => some (fl 0 ys.length)
  | x :: xs, [] => some (fl (xs.length + 1) 0)
end
def rAt (xs ys : List PyData) (j : Nat) : Bool := (fstQ fi fl (xs.getD j .none) (ys.getD j .none)).getD false
theorem firstLt_succ (e r : Nat → Bool) (fin : Bool) : ∀ l : List Nat, firstLt e r fin (l.map Nat.succ) = firstLt (fun j => e (j + 1)) (fun j => r (j + 1)) fin l
  | [] => rfl
  | j :: t => by
    have ih := firstLt_succ e r fin t
    show (if e (j + 1) = true then firstLt e r fin (t.map Nat.succ) else r (j + 1)) = if e (j + 1) = true then _ else _
    rw [ih]
theorem first_val (hf : ∀ a b, fl (a + 1) (b + 1) = fl a b) : ∀ (xs ys : List PyData) (k : Bool), fstQs fi fl xs ys = some k → firstLt (pairEq xs ys) (rAt fi fl xs ys) (fl xs.length ys.length) (List.range (min xs.length ys.length)) = k
  | [], ys, k, h => by
    simp only [fstQs, Option.some.injEq] at h
    simpa [firstLt] using h
  | x :: xs, [], k, h => by
    simp only [fstQs, Option.some.injEq] at h
    simpa [firstLt] using h
  | x :: xs, y :: ys, k, h => by
    have e1 : min (x :: xs).length (y :: ys).length = min xs.length ys.length + 1 := by simp only [List.length_cons]; omega
    rw [e1, List.range_succ_eq_map]
    simp only [fstQs] at h
    show (if pairEq (x :: xs) (y :: ys) 0 = true then firstLt _ _ _ ((List.range (min xs.length ys.length)).map Nat.succ) else rAt fi fl (x :: xs) (y :: ys) 0) = k
    by_cases q : PyData.eqv x y = true
    · rw [if_pos q] at h
      rw [if_pos (show pairEq (x :: xs) (y :: ys) 0 = true from q), firstLt_succ, List.length_cons, List.length_cons, hf]
      exact first_val hf xs ys k h
    · rw [if_neg q] at h
      rw [if_neg (show ¬ pairEq (x :: xs) (y :: ys) 0 = true from q)]
      show (fstQ fi fl x y).getD false = k
      rw [h]
      rfl
theorem first_at : ∀ (xs ys : List PyData) (k : Bool) (j : Nat), fstQs fi fl xs ys = some k → (∀ m, m < j → pairEq xs ys m = true) → pairEq xs ys j = false → j < xs.length → j < ys.length → fstQ fi fl (xs.getD j .none) (ys.getD j .none) = some (rAt fi fl xs ys j)
  | [], _, _, _, _, _, _, h, _ => absurd h (Nat.not_lt_zero _)
  | _ :: _, [], _, _, _, _, _, _, h => absurd h (Nat.not_lt_zero _)
  | x :: xs, y :: ys, k, 0, h, _, hj, _, _ => by
    simp only [fstQs] at h
    rw [if_neg (by rw [show PyData.eqv x y = false from hj]; decide)] at h
    show fstQ fi fl x y = some ((fstQ fi fl x y).getD false)
    rw [h]
    rfl
  | x :: xs, y :: ys, k, j + 1, h, hm, hj, h1, h2 => by
    simp only [fstQs] at h
    rw [if_pos (show PyData.eqv x y = true from hm 0 (Nat.succ_pos j))] at h
    exact first_at xs ys k j h (fun m q => hm (m + 1) (by omega)) hj (by simpa using h1) (by simpa using h2)
end
theorem fl_lt (a b : Nat) : decide (a + 1 < b + 1) = decide (a < b) := by
  rw [decide_eq_decide]
  omega
abbrev q_lt : PyData → PyData → Option Bool := fstQ (fun i j => decide (i < j)) (fun a b => decide (a < b))
mutual
theorem rcQ_lt : ∀ (da db : PyData) (A : Around) (s : Shared) (a b : Value) (as bs : List Addr) (k : Bool), Reads s.heap a da as → Reads s.heap b db bs → da.canLay0 = true → db.canLay0 = true → A.units + min da.depth db.depth < cLine → q_lt da db = some k → RcOp .Lt A s a b k
  | .int x, db, A, s, a, b, as, bs, k, ra, rb, _, _, _, h => by
    cases db <;> first | (simp [fstQ] at h; done) | skip
    cases ra
    cases rb
    simp only [q_lt, fstQ, Option.some.injEq] at h
    intro prog w E Q q
    rw [← h] at q
    exact P.lt_int q
  | .tuple xs, db, A, s, a, b, as, bs, k, ra, rb, ca, cb, hu, h => by
    cases db <;> first | (simp [fstQ] at h; done) | skip
    rename_i ys
    have h : fstQs (fun i j => decide (i < j)) (fun a b => decide (a < b)) xs ys = some k := by simpa only [q_lt, fstQ] using h
    have ca : PyData.canLayAll0 xs = true := by simpa only [PyData.canLay0] using ca
    have cb : PyData.canLayAll0 ys = true := by simpa only [PyData.canLay0] using cb
    cases ra with
    | @tuple l o vs n _ a1 h1 h2 h3 h4 =>
      cases rb with
      | @tuple l2 o2 ws n2 _ a2 k1 k2 k3 k4 =>
        have e1 : vs.size = xs.length := by simpa using ReadsAll.length _ _ _ h4
        have e2 : ws.size = ys.length := by simpa using ReadsAll.length _ _ _ k4
        have fv := first_val (fun i j => decide (i < j)) (fun a b => decide (a < b)) fl_lt xs ys k h
        rw [← fv, ← e1, ← e2]
        refine rc_ltF ⟨_, h1, h2, _, h3⟩ ⟨_, k1, k2, _, k3⟩ (room_here hu) (fun j j1 j2 => ?_) fun j j1 j2 hm hj => ?_
        · have := eqAt_readsAll xs ys A.in1 s vs.toList ws.toList _ _ h4 k4 ca cb (room_in hu) j (by simpa using j1) (by simpa using j2)
          simpa using this
        · have := rcQs_lt xs ys A.in1 s vs.toList ws.toList _ _ h4 k4 ca cb (room_in hu) j (by simpa using j1) (by simpa using j2) _ (first_at _ _ xs ys k j h hm hj (by omega) (by omega))
          simpa using this
  | .none, db, _, _, _, _, _, _, _, _, _, _, _, _, h => by cases db <;> simp [fstQ] at h
  | .bool _, db, _, _, _, _, _, _, _, _, _, _, _, _, h => by cases db <;> simp [fstQ] at h
  | .str _, db, _, _, _, _, _, _, _, _, _, _, _, _, h => by cases db <;> simp [fstQ] at h
  | .list _, db, _, _, _, _, _, _, _, _, _, _, _, _, h => by cases db <;> simp [fstQ] at h
  | .dict _, db, _, _, _, _, _, _, _, _, _, _, _, _, h => by cases db <;> simp [fstQ] at h
theorem rcQs_lt : ∀ (xs ys : List PyData) (A : Around) (s : Shared) (vs ws : List Value) (as bs : List Addr), ReadsAll s.heap vs xs as → ReadsAll s.heap ws ys bs → PyData.canLayAll0 xs = true → PyData.canLayAll0 ys = true → A.units + min (PyData.depthAll xs) (PyData.depthAll ys) < cLine →
    ∀ j (h1 : j < vs.length) (h2 : j < ws.length) (k : Bool), q_lt (xs.getD j .none) (ys.getD j .none) = some k → RcOp .Lt A s vs[j] ws[j] k
  | [], _, _, _, _, _, _, _, ra, _, _, _, _, j, h1, _, _, _ => by cases ra; exact absurd h1 (Nat.not_lt_zero _)
  | _ :: _, [], _, _, _, _, _, _, _, rb, _, _, _, j, _, h2, _, _ => by cases rb; exact absurd h2 (Nat.not_lt_zero _)
  | x :: xs, y :: ys, A, s, _, _, _, _, ra, rb, ca, cb, hu, j, h1, h2, k, h => by
    cases ra with
    | cons r rs =>
      cases rb with
      | cons r2 rs2 =>
        simp only [PyData.canLayAll0, Bool.and_eq_true] at ca cb
        cases j with
        | zero => exact rcQ_lt x y A s _ _ _ _ k r r2 ca.1 cb.1 (room_head hu) h
        | succ j => exact rcQs_lt xs ys A s _ _ _ _ rs rs2 ca.2 cb.2 (room_tail hu) j (Nat.lt_of_succ_lt_succ h1) (Nat.lt_of_succ_lt_succ h2) k h
end
theorem fl_le (a b : Nat) : decide (a + 1 ≤ b + 1) = decide (a ≤ b) := by
  rw [decide_eq_decide]
  omega
abbrev q_le : PyData → PyData → Option Bool := fstQ (fun i j => decide (i ≤ j)) (fun a b => decide (a ≤ b))
mutual
theorem rcQ_le : ∀ (da db : PyData) (A : Around) (s : Shared) (a b : Value) (as bs : List Addr) (k : Bool), Reads s.heap a da as → Reads s.heap b db bs → da.canLay0 = true → db.canLay0 = true → A.units + min da.depth db.depth < cLine → q_le da db = some k → RcOp .LtE A s a b k
  | .int x, db, A, s, a, b, as, bs, k, ra, rb, _, _, _, h => by
    cases db <;> first | (simp [fstQ] at h; done) | skip
    cases ra
    cases rb
    simp only [q_le, fstQ, Option.some.injEq] at h
    intro prog w E Q q
    rw [← h] at q
    exact P.le_int q
  | .tuple xs, db, A, s, a, b, as, bs, k, ra, rb, ca, cb, hu, h => by
    cases db <;> first | (simp [fstQ] at h; done) | skip
    rename_i ys
    have h : fstQs (fun i j => decide (i ≤ j)) (fun a b => decide (a ≤ b)) xs ys = some k := by simpa only [q_le, fstQ] using h
    have ca : PyData.canLayAll0 xs = true := by simpa only [PyData.canLay0] using ca
    have cb : PyData.canLayAll0 ys = true := by simpa only [PyData.canLay0] using cb
    cases ra with
    | @tuple l o vs n _ a1 h1 h2 h3 h4 =>
      cases rb with
      | @tuple l2 o2 ws n2 _ a2 k1 k2 k3 k4 =>
        have e1 : vs.size = xs.length := by simpa using ReadsAll.length _ _ _ h4
        have e2 : ws.size = ys.length := by simpa using ReadsAll.length _ _ _ k4
        have fv := first_val (fun i j => decide (i ≤ j)) (fun a b => decide (a ≤ b)) fl_le xs ys k h
        rw [← fv, ← e1, ← e2]
        refine rc_leF ⟨_, h1, h2, _, h3⟩ ⟨_, k1, k2, _, k3⟩ (room_here hu) (fun j j1 j2 => ?_) fun j j1 j2 hm hj => ?_
        · have := eqAt_readsAll xs ys A.in1 s vs.toList ws.toList _ _ h4 k4 ca cb (room_in hu) j (by simpa using j1) (by simpa using j2)
          simpa using this
        · have := rcQs_le xs ys A.in1 s vs.toList ws.toList _ _ h4 k4 ca cb (room_in hu) j (by simpa using j1) (by simpa using j2) _ (first_at _ _ xs ys k j h hm hj (by omega) (by omega))
          simpa using this
  | .none, db, _, _, _, _, _, _, _, _, _, _, _, _, h => by cases db <;> simp [fstQ] at h
  | .bool _, db, _, _, _, _, _, _, _, _, _, _, _, _, h => by cases db <;> simp [fstQ] at h
  | .str _, db, _, _, _, _, _, _, _, _, _, _, _, _, h => by cases db <;> simp [fstQ] at h
  | .list _, db, _, _, _, _, _, _, _, _, _, _, _, _, h => by cases db <;> simp [fstQ] at h
  | .dict _, db, _, _, _, _, _, _, _, _, _, _, _, _, h => by cases db <;> simp [fstQ] at h
theorem rcQs_le : ∀ (xs ys : List PyData) (A : Around) (s : Shared) (vs ws : List Value) (as bs : List Addr), ReadsAll s.heap vs xs as → ReadsAll s.heap ws ys bs → PyData.canLayAll0 xs = true → PyData.canLayAll0 ys = true → A.units + min (PyData.depthAll xs) (PyData.depthAll ys) < cLine →
    ∀ j (h1 : j < vs.length) (h2 : j < ws.length) (k : Bool), q_le (xs.getD j .none) (ys.getD j .none) = some k → RcOp .LtE A s vs[j] ws[j] k
  | [], _, _, _, _, _, _, _, ra, _, _, _, _, j, h1, _, _, _ => by cases ra; exact absurd h1 (Nat.not_lt_zero _)
  | _ :: _, [], _, _, _, _, _, _, _, rb, _, _, _, j, _, h2, _, _ => by cases rb; exact absurd h2 (Nat.not_lt_zero _)
  | x :: xs, y :: ys, A, s, _, _, _, _, ra, rb, ca, cb, hu, j, h1, h2, k, h => by
    cases ra with
    | cons r rs =>
      cases rb with
      | cons r2 rs2 =>
        simp only [PyData.canLayAll0, Bool.and_eq_true] at ca cb
        cases j with
        | zero => exact rcQ_le x y A s _ _ _ _ k r r2 ca.1 cb.1 (room_head hu) h
        | succ j => exact rcQs_le xs ys A s _ _ _ _ rs rs2 ca.2 cb.2 (room_tail hu) j (Nat.lt_of_succ_lt_succ h1) (Nat.lt_of_succ_lt_succ h2) k h
end
end PySem.SeqAt
/-! Operations by values: numbers, texts, tuples, lists. -/
namespace Ev
open PySem PySem.Spec PyProof.Rows L2
variable [Tbs] [Hnd]

/-! ### plain data -/
mutual
def D.py : D → PyData
  | .non => .none
  | .bl b => .bool b
  | .int i => .int i
  | .str x => .str x
  | .tup ds => .tuple (D.pys ds)
  | .lst ds => .list (D.pys ds)
  | .cell _ => .none
  | .ty _ => .none
def D.pys : List D → List PyData
  | [] => []
  | d :: ds => D.py d :: D.pys ds
end
mutual
/-- plain data of few levels: l levels -/
def D.pl : Nat → D → Bool
  | _, .non => true
  | _, .bl _ => true
  | _, .int _ => true
  | _, .str x => PyData.strOk x
  | 0, .tup _ => false
  | l + 1, .tup ds => D.pls l ds
  | 0, .lst _ => false
  | l + 1, .lst ds => D.pls l ds
  | _, .cell _ => false
  | _, .ty _ => false
def D.pls : Nat → List D → Bool
  | _, [] => true
  | l, d :: ds => D.pl l d && D.pls l ds
end
mutual
def D.eqv : D → D → Bool
  | .non, .non => true
  | .bl a, .bl b => a == b
  | .bl a, .int j => (if a then 1 else 0) == j
  | .int i, .bl b => i == (if b then 1 else 0)
  | .int i, .int j => i == j
  | .str x, .str y => x == y
  | .tup a, .tup b => D.eqvs a b
  | .lst a, .lst b => D.eqvs a b
  | _, _ => false
def D.eqvs : List D → List D → Bool
  | [], [] => true
  | x :: xs, y :: ys => D.eqv x y && D.eqvs xs ys
  | _, _ => false
end
mutual
/-- the two can be compared place by place -/
def D.al : D → D → Bool
  | .non, .non => true
  | .bl _, .bl _ => true
  | .int _, .int _ => true
  | .str _, .str _ => true
  | .tup a, .tup b => D.als a b
  | .lst a, .lst b => D.als a b
  | _, _ => false
def D.als : List D → List D → Bool
  | x :: xs, y :: ys => D.al x y && D.als xs ys
  | _, _ => true
end
mutual
/-- less, for what can be compared -/
def D.lt : D → D → Bool
  | .bl a, .bl b => !a && b
  | .int i, .int j => decide (i < j)
  | .str x, .str y => decide (x.cps.toList < y.cps.toList)
  | .tup a, .tup b => D.lts a b
  | .lst a, .lst b => D.lts a b
  | _, _ => false
def D.lts : List D → List D → Bool
  | x :: xs, y :: ys => if D.eqv x y = true then D.lts xs ys else D.lt x y
  | [], _ :: _ => true
  | _, [] => false
end
def D.isN : D → Bool
  | .non => true
  | _ => false
section
variable {K : PySem.W.Frag} {H : Hp} {ca : List Addr}
mutual
theorem D.pl_lay : ∀ (l : Nat) (d : D), D.pl l d = true → d.py.canLay0 = true ∧ d.py.depth ≤ l
  | l, .non, _ => by cases l <;> simp [D.py, PyData.canLay0, PyData.depth]
  | l, .bl _, _ => by cases l <;> simp [D.py, PyData.canLay0, PyData.depth]
  | l, .int _, _ => by cases l <;> simp [D.py, PyData.canLay0, PyData.depth]
  | l, .str x, h => by cases l <;> (simp only [D.pl] at h; simp [D.py, PyData.canLay0, PyData.depth, h])
  | 0, .tup _, h => by simp [D.pl] at h
  | l + 1, .tup ds, h => by
    simp only [D.pl] at h
    obtain ⟨a, b⟩ := D.pls_lay l ds h
    simp only [D.py, PyData.canLay0, PyData.depth]
    exact ⟨a, by omega⟩
  | 0, .lst _, h => by simp [D.pl] at h
  | l + 1, .lst ds, h => by
    simp only [D.pl] at h
    obtain ⟨a, b⟩ := D.pls_lay l ds h
    simp only [D.py, PyData.canLay0, PyData.depth]
    exact ⟨a, by omega⟩
  | l, .cell _, h => by cases l <;> simp [D.pl] at h
  | l, .ty _, h => by cases l <;> simp [D.pl] at h
theorem D.pls_lay : ∀ (l : Nat) (ds : List D), D.pls l ds = true → PyData.canLayAll0 (D.pys ds) = true ∧ PyData.depthAll (D.pys ds) ≤ l
  | l, [], _ => by simp [D.pys, PyData.canLayAll0, PyData.depthAll]
  | l, d :: ds, h => by
    simp only [D.pls, Bool.and_eq_true] at h
    obtain ⟨a, b⟩ := D.pl_lay l d h.1
    obtain ⟨a2, b2⟩ := D.pls_lay l ds h.2
    simp only [D.pys, PyData.canLayAll0, PyData.depthAll, a, a2, Bool.and_self, true_and]
    omega
end
theorem D.shaped {d : D} (h : D.pl 60 d = true) : SeqAt.shaped d.py = true := by
  obtain ⟨a, b⟩ := D.pl_lay 60 d h
  unfold SeqAt.shaped
  rw [a, Bool.true_and]
  exact decide_eq_true (by omega)
mutual
theorem RelD.dp : ∀ (l : Nat) (d : D) (v : V), D.pl l d = true → RelD K H ca d v → Dp K H v d.py
  | _, .non, _, _, h => by cases (show _ = V.non from h); exact .non
  | _, .bl b, _, _, h => by cases (show _ = V.bl b from h); exact .bl b
  | _, .int i, _, _, h => by cases (show _ = V.int i from h); exact .int i
  | _, .str x, _, _, h => by cases (show _ = V.str x from h); exact .str x
  | 0, .tup _, _, h, _ => by simp [D.pl] at h
  | l + 1, .tup ds, v, h, r => by
    obtain ⟨a, vs, e, q, t⟩ := r
    subst e
    simp only [D.pl] at h
    simp only [D.py]
    exact .tup q (RelDs.dp l ds vs h t)
  | 0, .lst _, _, h, _ => by simp [D.pl] at h
  | l + 1, .lst ds, v, h, r => by
    obtain ⟨a, vs, e, q, t⟩ := r
    subst e
    simp only [D.pl] at h
    simp only [D.py]
    exact .lst q.sq (RelDs.dp l ds vs h t)
  | l, .cell _, _, h, _ => by cases l <;> simp [D.pl] at h
  | l, .ty _, _, h, _ => by cases l <;> simp [D.pl] at h
theorem RelDs.dp : ∀ (l : Nat) (ds : List D) (vs : List V), D.pls l ds = true → RelDs K H ca ds vs → DpAll K H vs (D.pys ds)
  | _, [], _, _, h => by cases (show _ = [] from h); simp only [D.pys]; exact .nil
  | l, d :: ds, _, h, r => by
    obtain ⟨v, s, e, q, t⟩ := r
    subst e
    simp only [D.pls, Bool.and_eq_true] at h
    simp only [D.pys]
    exact .cons (RelD.dp l d v h.1 q) (RelDs.dp l ds s h.2 t)
end
theorem RelX.dp {l : Nat} {d : D} {v : V} (h : D.pl l d = true) (r : RelX K H ca d v) : Dp K H v d.py := by
  cases d with
  | lst ds =>
    obtain ⟨a, vs, e, q, t⟩ := r
    subst e
    cases l with
    | zero => simp [D.pl] at h
    | succ l =>
      simp only [D.pl] at h
      simp only [D.py]
      exact .lst q.sq (RelDs.dp l ds vs h t)
  | _ => exact RelD.dp (ca := ca) l _ v h r
mutual
theorem D.eqv_py : ∀ (l m : Nat) (a b : D), D.pl l a = true → D.pl m b = true → PyData.eqv a.py b.py = D.eqv a b
  | l, m, a, b, ha, hb => by
    cases a <;> cases b <;> first
      | (cases l <;> simp [D.pl] at ha; done)
      | (cases m <;> simp [D.pl] at hb; done)
      | (simp [D.py, PyData.eqv, D.eqv]; done)
      | skip
    · rename_i xs ys
      cases l with
      | zero => simp [D.pl] at ha
      | succ l =>
        cases m with
        | zero => simp [D.pl] at hb
        | succ m =>
          simp only [D.pl] at ha hb
          simp only [D.py, PyData.eqv, D.eqv]
          exact D.eqvs_py l m xs ys ha hb
    · rename_i xs ys
      cases l with
      | zero => simp [D.pl] at ha
      | succ l =>
        cases m with
        | zero => simp [D.pl] at hb
        | succ m =>
          simp only [D.pl] at ha hb
          simp only [D.py, PyData.eqv, D.eqv]
          exact D.eqvs_py l m xs ys ha hb
theorem D.eqvs_py : ∀ (l m : Nat) (a b : List D), D.pls l a = true → D.pls m b = true → PyData.eqvAll (D.pys a) (D.pys b) = D.eqvs a b
  | _, _, [], [], _, _ => by simp [D.pys, PyData.eqvAll, D.eqvs]
  | _, _, [], _ :: _, _, _ => by simp [D.pys, PyData.eqvAll, D.eqvs]
  | _, _, _ :: _, [], _, _ => by simp [D.pys, PyData.eqvAll, D.eqvs]
  | l, m, x :: xs, y :: ys, ha, hb => by
    simp only [D.pls, Bool.and_eq_true] at ha hb
    simp only [D.pys, PyData.eqvAll, D.eqvs, D.eqv_py l m x y ha.1 hb.1, D.eqvs_py l m xs ys ha.2 hb.2]
end
end
/-! ### the operations -/
def per (d : D) : Option RV := some (.per d)
def yes (b : Bool) : Option RV := some (.per (.bl b))
def dAdd : D → D → Option RV
  | .int i, .int j => per (.int (i + j))
  | .str a, .str b => if a.length + b.length ≤ sizeLine then per (.str (a ++ b)) else none
  | .tup a, .tup b => if a.length + b.length ≤ sizeLine then per (.tup (a ++ b)) else none
  | .lst a, .lst b => if a.length + b.length ≤ sizeLine then some (.fr (a ++ b)) else none
  | _, _ => none
def dSub : D → D → Option RV
  | .int i, .int j => per (.int (i - j))
  | _, _ => none
def dMul : D → D → Option RV
  | .int i, .int j => if i.natAbs.log2 + j.natAbs.log2 < 1000000 then per (.int (i * j)) else none
  | .lst a, .int k => if -(2 ^ 63) ≤ k ∧ k < 2 ^ 63 ∧ a.length * k.toNat ≤ sizeLine then some (.fr (List.replicate k.toNat a).flatten) else none
  | .tup a, .int k => if a ≠ [] ∧ 2 ≤ k ∧ k ≤ 1000 ∧ a.length ≤ 1000 then per (.tup (List.replicate k.toNat a).flatten) else none
  | _, _ => none
def dDiv : D → D → Option RV
  | .int i, .int j => if 0 < j ∧ j.natAbs.log2 < 9000 then per (.int (i / j)) else none
  | _, _ => none
def dMod : D → D → Option RV
  | .int i, .int j => if 0 < j then per (.int (i % j)) else none
  | _, _ => none
def dPow : D → D → Option RV
  | .int i, .int j => if 0 ≤ j ∧ j ≤ 1000000 ∧ i.natAbs < 2 ^ 64 then per (.int (i ^ j.toNat)) else none
  | _, _ => none
def dNeg : D → Option RV
  | .int i => per (.int (-i))
  | _ => none
def dEq : D → D → Option RV
  | .int i, .int j => yes (i == j)
  | .str i, .str j => yes (decide (i = j))
  | a, b => if D.pl 60 a = true ∧ D.pl 60 b = true then yes (D.eqv a b) else none
def dNe : D → D → Option RV
  | .int i, .int j => yes (!(i == j))
  | .str i, .str j => yes (!decide (i = j))
  | a, b => if D.pl 60 a = true ∧ D.pl 60 b = true then yes (!D.eqv a b) else none
section
variable (fi : Int → Int → Bool) (fl : Nat → Nat → Bool)
mutual
/-- by the first place that differs -/
def D.fst : D → D → Option Bool
  | .int i, .int j => some (fi i j)
  | .tup a, .tup b => D.fsts a b
  | _, _ => none
def D.fsts : List D → List D → Option Bool
  | x :: xs, y :: ys => if D.eqv x y = true then D.fsts xs ys else D.fst x y
  | [], ys => some (fl 0 ys.length)
  | x :: xs, [] => some (fl (xs.length + 1) 0)
end
end
/-- two that can be compared -/
def cmpD (a b : D) : Bool := D.pl 60 a && D.pl 60 b && D.al a b && !a.isN
def dLt : D → D → Option RV
  | .int i, .int j => yes (decide (i < j))
  | a, b => if cmpD a b = true then yes (D.lt a b) else if (D.pl 60 a && D.pl 60 b) = true then (D.fst (fun i j => decide (i < j)) (fun a b => decide (a < b)) a b).bind yes else none
def dLe : D → D → Option RV
  | .int i, .int j => yes (decide (i ≤ j))
  | a, b => if cmpD a b = true then yes (!D.lt b a) else if (D.pl 60 a && D.pl 60 b) = true then (D.fst (fun i j => decide (i ≤ j)) (fun a b => decide (a ≤ b)) a b).bind yes else none
def dGt : D → D → Option RV
  | .int i, .int j => yes (decide (j < i))
  | a, b => if cmpD a b = true then yes (D.lt b a) else none
def dGe : D → D → Option RV
  | .int i, .int j => yes (decide (j ≤ i))
  | a, b => if cmpD a b = true then yes (!D.lt a b) else none
def dInB (x : D) : D → Option Bool
  | .lst ds => if D.pl 60 x = true ∧ D.pls 59 ds = true then some (ds.any fun z => D.eqv z x) else none
  | .tup ds => if D.pl 60 x = true ∧ D.pls 59 ds = true then some (ds.any fun z => D.eqv z x) else none
  | _ => none
def dIn (x y : D) : Option RV := (dInB x y).bind yes
def dNotIn (x y : D) : Option RV := (dInB x y).bind fun b => yes (!b)
def dIs (x y : D) : Option RV := match y with
  | .non => yes x.isN
  | .bl b => match x with
    | .bl a => yes (decide (a = b))
    | _ => none
  | _ => none
def dIsNot (x y : D) : Option RV := match y with
  | .non => yes (!x.isN)
  | .bl b => match x with
    | .bl a => yes (!decide (a = b))
    | _ => none
  | _ => none
def dIx : D → D → Option RV
  | .tup ds, .int i => (atI ds i).map .per
  | .lst ds, .int i => (atI ds i).map .per
  | .str z, .int i => if z.length ≤ sizeLine then (atI z.cps.toList i).map fun c => .per (.str ⟨#[c]⟩) else none
  | _, _ => none
section
variable {X : Cx}
theorem op_dSub : OpR X (binaryOp .Sub) (rO X.K dSub) := opi op_sub fun x y H Q h => by
  obtain ⟨ca, st, a, b, r, s, ra, rb, e, g⟩ := h
  cases a <;> first | cases e | skip
  cases b <;> first | cases e | skip
  exact ⟨_, _, ra, rb, g.here s rfl⟩
theorem op_dDiv : OpR X (binaryOp .FloorDiv) (rO X.K dDiv) := opi op_fdivW fun x y H Q h => by
  obtain ⟨ca, st, a, b, r, s, ra, rb, e, g⟩ := h
  cases a <;> first | cases e | skip
  cases b <;> first | cases e | skip
  rename_i i j
  have e : (if 0 < j ∧ j.natAbs.log2 < 9000 then per (.int (i / j)) else none) = some r := e
  split at e
  · rename_i hc
    cases e
    exact ⟨_, _, ra, rb, hc, g.here s rfl⟩
  · cases e
theorem op_dMod : OpR X (binaryOp .Mod) (rO X.K dMod) := opi op_mod fun x y H Q h => by
  obtain ⟨ca, st, a, b, r, s, ra, rb, e, g⟩ := h
  cases a <;> first | cases e | skip
  cases b <;> first | cases e | skip
  rename_i i j
  have e : (if 0 < j then per (.int (i % j)) else none) = some r := e
  split at e
  · rename_i hc
    cases e
    exact ⟨_, _, ra, rb, hc, g.here s rfl⟩
  · cases e
theorem op_dPow : OpR X (binaryOp .Pow) (rO X.K dPow) := opi op_pow fun x y H Q h => by
  obtain ⟨ca, st, a, b, r, s, ra, rb, e, g⟩ := h
  cases a <;> first | cases e | skip
  cases b <;> first | cases e | skip
  rename_i i j
  have e : (if 0 ≤ j ∧ j ≤ 1000000 ∧ i.natAbs < 2 ^ 64 then per (.int (i ^ j.toNat)) else none) = some r := e
  split at e
  · rename_i hc
    cases e
    exact ⟨_, _, ra, rb, hc, g.here s rfl⟩
  · cases e
theorem un_dNeg : UnR X (unaryOp .USub) (rU1 X.K dNeg) := uni un_neg fun x H Q h => by
  obtain ⟨ca, st, a, r, s, ra, e, g⟩ := h
  cases a <;> first | cases e | skip
  exact ⟨_, ra, g.here s rfl⟩
/-- two lists that are read, joined -/
theorem op_catR : OpR X (binaryOp .Add) (fun x y H Q => ∃ l b xs zs, x = .ref l ∧ y = .ref b ∧ RdL X.K H l xs ∧ RdL X.K H b zs ∧ xs.length + zs.length ≤ sizeLine ∧ ∀ p, H p = none → Q (.ref p) (upd H p (.lst (xs ++ zs)))) := by
  intro pins s σ H x y v u Q I rx ry h
  obtain ⟨l, b, xs, zs, rfl, rfl, h1, h2, hz, q⟩ := h
  cases rx
  cases ry
  obtain ⟨i1, n1, r1, e1, _⟩ := h1.ok I
  obtain ⟨i2, n2, r2, e2, _⟩ := h2.ok I
  have l1 := r1.length
  have l2 := r2.length
  refine PySem.P.add_list e1 e2 ?_ (by simp only [List.size_toArray]; omega)
  rw [show i1.toArray ++ i2.toArray = (i1 ++ i2).toArray by simp]
  exact ⟨.ref _, _, I.lnew (t' := s.toks) (r1.append r2) (by simp only [List.length_append]; omega), rfl, q _ I.fresh⟩
theorem op_dAdd : OpR X (binaryOp .Add) (rO X.K dAdd) := opi (OpR.or (OpR.or (OpR.or op_add op_add_str) op_catA) op_catR) fun x y H Q h => by
  obtain ⟨ca, st, a, b, r, s, ra, rb, e, g⟩ := h
  cases a <;> cases b <;> first | cases e | skip
  · exact .inl (.inl (.inl ⟨_, _, ra, rb, g.here s rfl⟩))
  · rename_i a b
    have e : (if a.length + b.length ≤ sizeLine then per (.str (a ++ b)) else none) = some r := e
    split at e
    · rename_i hl
      cases e
      exact .inl (.inl (.inr ⟨_, _, ra, rb, hl, g.here s rfl⟩))
    · cases e
  · rename_i as bs
    have e : (if as.length + bs.length ≤ sizeLine then per (.tup (as ++ bs)) else none) = some r := e
    split at e
    · rename_i hl
      cases e
      obtain ⟨p, vs, rfl, q1, r1⟩ := ra
      obtain ⟨p2, ws, rfl, q2, r2⟩ := rb
      refine .inl (.inr ⟨p, p2, vs, ws, rfl, rfl, q1, q2, by rw [r1.length, r2.length]; exact hl, fun z => ?_, fun _ z => ?_, fun _ _ p3 hp => g.newT s (r1.append r2) hp⟩)
      · subst z
        have : as = [] := List.length_eq_zero_iff.mp (by rw [← r1.length]; rfl)
        subst this
        exact g.here s ⟨p2, ws, rfl, q2, r2⟩
      · subst z
        have : bs = [] := List.length_eq_zero_iff.mp (by rw [← r2.length]; rfl)
        subst this
        exact g.here s ⟨p, vs, rfl, q1, by rw [List.append_nil]; exact r1⟩
    · cases e
  · rename_i as bs
    have e : (if as.length + bs.length ≤ sizeLine then some (.fr (as ++ bs)) else none) = some r := e
    split at e
    · rename_i hl
      cases e
      obtain ⟨p, vs, rfl, q1, r1⟩ := ra
      obtain ⟨p2, ws, rfl, q2, r2⟩ := rb
      exact .inr ⟨p, p2, vs, ws, rfl, rfl, q1, q2, by rw [r1.length, r2.length]; exact hl, fun p3 hp => g.newL s (r1.append r2) hp⟩
    · cases e
theorem op_dEq (hu : X.A.units + 65 < cLine) : OpR X (compareOp .Eq) (rO X.K dEq) := opi (OpR.or op_eq (op_eqD (X := X) (by omega))) fun x y H Q h => by
  obtain ⟨ca, st, a, b, r, s, ra, rb, e, g⟩ := h
  have hp : (∃ i j, a = .str i ∧ b = .str j ∧ r = .per (.bl (decide (i = j)))) ∨ (D.pl 60 a = true ∧ D.pl 60 b = true ∧ r = .per (.bl (D.eqv a b))) := by
    unfold dEq at e
    split at e
    · cases e
      exact .inr ⟨by simp [D.pl], by simp [D.pl], by simp [D.eqv]⟩
    · cases e
      exact .inl ⟨_, _, rfl, rfl, rfl⟩
    · split at e
      · rename_i h
        cases e
        exact .inr ⟨h.1, h.2, rfl⟩
      · cases e
  rcases hp with ⟨i, j, rfl, rfl, rfl⟩ | ⟨h1, h2, rfl⟩
  · cases (show x = .str i from ra)
    cases (show y = .str j from rb)
    refine .inl ⟨rfl, ?_⟩
    have q := g.here s rfl
    simpa using q
  refine .inr ?_
  refine ⟨_, _, ra.dp h1, rb.dp h2, D.shaped h1, D.shaped h2, ?_⟩
  rw [D.eqv_py 60 60 a b h1 h2]
  exact g.here s rfl
theorem op_dNe (hu : X.A.units + 65 < cLine) : OpR X (compareOp .NotEq) (rO X.K dNe) := opi (OpR.or op_ne (op_neD (X := X) (by omega))) fun x y H Q h => by
  obtain ⟨ca, st, a, b, r, s, ra, rb, e, g⟩ := h
  have hp : (∃ i j, a = .str i ∧ b = .str j ∧ r = .per (.bl (!decide (i = j)))) ∨ (D.pl 60 a = true ∧ D.pl 60 b = true ∧ r = .per (.bl (!D.eqv a b))) := by
    unfold dNe at e
    split at e
    · cases e
      exact .inr ⟨by simp [D.pl], by simp [D.pl], by simp [D.eqv]⟩
    · cases e
      exact .inl ⟨_, _, rfl, rfl, rfl⟩
    · split at e
      · rename_i h
        cases e
        exact .inr ⟨h.1, h.2, rfl⟩
      · cases e
  rcases hp with ⟨i, j, rfl, rfl, rfl⟩ | ⟨h1, h2, rfl⟩
  · cases (show x = .str i from ra)
    cases (show y = .str j from rb)
    refine .inl ⟨rfl, ?_⟩
    have q := g.here s rfl
    simpa using q
  refine .inr ?_
  refine ⟨_, _, ra.dp h1, rb.dp h2, D.shaped h1, D.shaped h2, ?_⟩
  rw [D.eqv_py 60 60 a b h1 h2]
  exact g.here s rfl
/-! ### order -/
end
mutual
theorem D.al_py : ∀ (l : Nat) (a b : D), D.pl l a = true → D.al a b = true → PySem.W.alike a.py b.py = true
  | l, .non, b, _, h => by cases b <;> first | (simp [D.al] at h; done) | simp [D.py, PySem.W.alike]
  | l, .bl _, b, _, h => by cases b <;> first | (simp [D.al] at h; done) | simp [D.py, PySem.W.alike]
  | l, .int _, b, _, h => by cases b <;> first | (simp [D.al] at h; done) | simp [D.py, PySem.W.alike]
  | l, .str _, b, _, h => by cases b <;> first | (simp [D.al] at h; done) | simp [D.py, PySem.W.alike]
  | l, .cell _, b, p, h => by cases b <;> simp [D.al] at h
  | l, .ty _, b, p, h => by cases b <;> simp [D.al] at h
  | 0, .tup _, _, p, _ => by simp [D.pl] at p
  | 0, .lst _, _, p, _ => by simp [D.pl] at p
  | l + 1, .tup xs, b, p, h => by
    cases b <;> first | (simp [D.al] at h; done) | skip
    simp only [D.pl] at p
    simp only [D.al] at h
    simp only [D.py, PySem.W.alike]
    exact D.als_py l xs _ p h
  | l + 1, .lst xs, b, p, h => by
    cases b <;> first | (simp [D.al] at h; done) | skip
    simp only [D.pl] at p
    simp only [D.al] at h
    simp only [D.py, PySem.W.alike]
    exact D.als_py l xs _ p h
theorem D.als_py : ∀ (l : Nat) (a b : List D), D.pls l a = true → D.als a b = true → PySem.W.alikeAll (D.pys a) (D.pys b) = true
  | _, [], _, _, _ => by simp [D.pys, PySem.W.alikeAll]
  | _, _ :: _, [], _, _ => by simp [D.pys, PySem.W.alikeAll]
  | l, x :: xs, y :: ys, p, h => by
    simp only [D.pls, Bool.and_eq_true] at p
    simp only [D.als, Bool.and_eq_true] at h
    simp only [D.pys, PySem.W.alikeAll, D.al_py l x y p.1 h.1, D.als_py l xs ys p.2 h.2, Bool.and_self]
end
mutual
theorem D.al_comm : ∀ (a b : D), D.al a b = true → D.al b a = true
  | .non, b, h => by cases b <;> first | (simp [D.al] at h; done) | simp [D.al]
  | .bl _, b, h => by cases b <;> first | (simp [D.al] at h; done) | simp [D.al]
  | .int _, b, h => by cases b <;> first | (simp [D.al] at h; done) | simp [D.al]
  | .str _, b, h => by cases b <;> first | (simp [D.al] at h; done) | simp [D.al]
  | .cell _, b, h => by cases b <;> simp [D.al] at h
  | .ty _, b, h => by cases b <;> simp [D.al] at h
  | .tup xs, b, h => by
    cases b <;> first | (simp [D.al] at h; done) | skip
    simp only [D.al] at h ⊢
    exact D.als_comm xs _ h
  | .lst xs, b, h => by
    cases b <;> first | (simp [D.al] at h; done) | skip
    simp only [D.al] at h ⊢
    exact D.als_comm xs _ h
theorem D.als_comm : ∀ (a b : List D), D.als a b = true → D.als b a = true
  | [], [], _ => by simp [D.als]
  | [], _ :: _, _ => by simp [D.als]
  | _ :: _, [], _ => by simp [D.als]
  | x :: xs, y :: ys, h => by
    simp only [D.als, Bool.and_eq_true] at h ⊢
    exact ⟨D.al_comm x y h.1, D.als_comm xs ys h.2⟩
end
theorem lex_nn : PyProof.Rows.lexLt itemOrd (PySem.W.keyToksAll []) (PySem.W.keyToksAll []) = false := PyProof.Rows.lex_irrefl _
theorem lex_nc (y : PyData) (ys : List PyData) : PyProof.Rows.lexLt itemOrd (PySem.W.keyToksAll []) (PySem.W.keyToksAll (y :: ys)) = true := by
  rw [PySem.W.toks_all_cons, show PySem.W.keyToksAll [] = [Sum.inl 0] by simp [PySem.W.keyToksAll], PySem.W.lex_atom (by decide)]
  decide
theorem lex_cn (y : PyData) (ys : List PyData) : PyProof.Rows.lexLt itemOrd (PySem.W.keyToksAll (y :: ys)) (PySem.W.keyToksAll []) = false := by
  rw [PySem.W.toks_all_cons, show PySem.W.keyToksAll [] = [Sum.inl 0] by simp [PySem.W.keyToksAll], PySem.W.lex_atom (by decide)]
  decide
mutual
theorem D.lt_py : ∀ (l m : Nat) (a b : D), D.pl l a = true → D.pl m b = true → D.al a b = true → PySem.W.dataLt a.py b.py = D.lt a b
  | l, m, .non, b, _, _, h => by
    cases b <;> first | (simp [D.al] at h; done) | skip
    simp only [D.py, D.lt]
    exact PyProof.Rows.lex_irrefl _
  | l, m, .bl x, .bl y, _, _, h => by
    simp only [D.py, D.lt, PySem.W.dataLt_bool]
    exact (show ∀ x y : Bool, decide (b2i x < b2i y) = (!x && y) by decide) x y
  | l, m, .bl x, .non, _, _, h => by simp [D.al] at h
  | l, m, .bl x, .int _, _, _, h => by simp [D.al] at h
  | l, m, .bl x, .str _, _, _, h => by simp [D.al] at h
  | l, m, .bl x, .tup _, _, _, h => by simp [D.al] at h
  | l, m, .bl x, .lst _, _, _, h => by simp [D.al] at h
  | l, m, .bl x, .cell _, _, _, h => by simp [D.al] at h
  | l, m, .bl x, .ty _, _, _, h => by simp [D.al] at h
  | l, m, .int _, b, _, _, h => by
    cases b <;> first | (simp [D.al] at h; done) | skip
    simp only [D.py, D.lt, PySem.W.dataLt_int]
  | l, m, .str _, b, _, _, h => by
    cases b <;> first | (simp [D.al] at h; done) | skip
    simp only [D.py, D.lt, PySem.W.dataLt_str]
  | l, m, .cell _, b, _, _, h => by cases b <;> simp [D.al] at h
  | l, m, .ty _, b, _, _, h => by cases b <;> simp [D.al] at h
  | 0, _, .tup _, _, p, _, _ => by simp [D.pl] at p
  | 0, _, .lst _, _, p, _, _ => by simp [D.pl] at p
  | l + 1, m, .tup xs, b, p, p2, h => by
    cases b <;> first | (simp [D.al] at h; done) | skip
    cases m with
    | zero => simp [D.pl] at p2
    | succ m =>
      simp only [D.pl] at p p2
      simp only [D.al] at h
      simp only [D.py, D.lt, PySem.W.dataLt_tuple]
      exact D.lts_py l m xs _ p p2 h
  | l + 1, m, .lst xs, b, p, p2, h => by
    cases b <;> first | (simp [D.al] at h; done) | skip
    cases m with
    | zero => simp [D.pl] at p2
    | succ m =>
      simp only [D.pl] at p p2
      simp only [D.al] at h
      simp only [D.py, D.lt, PySem.W.dataLt_list]
      exact D.lts_py l m xs _ p p2 h
theorem D.lts_py : ∀ (l m : Nat) (a b : List D), D.pls l a = true → D.pls m b = true → D.als a b = true → PyProof.Rows.lexLt itemOrd (PySem.W.keyToksAll (D.pys a)) (PySem.W.keyToksAll (D.pys b)) = D.lts a b
  | _, _, [], [], _, _, _ => by simp only [D.pys, D.lts]; exact lex_nn
  | _, _, [], _ :: _, _, _, _ => by simp only [D.pys, D.lts]; exact lex_nc _ _
  | _, _, _ :: _, [], _, _, _ => by simp only [D.pys, D.lts]; exact lex_cn _ _
  | l, m, x :: xs, y :: ys, p, p2, h => by
    simp only [D.pls, Bool.and_eq_true] at p p2
    simp only [D.als, Bool.and_eq_true] at h
    have ha := D.al_py l x y p.1 h.1
    have he := D.eqv_py l m x y p.1 p2.1
    simp only [D.pys, D.lts]
    by_cases hq : D.eqv x y = true
    · rw [if_pos hq, PySem.W.dataLt_all_yes ha (he.trans hq)]
      exact D.lts_py l m xs ys p.2 p2.2 h.2
    · rw [if_neg hq, PySem.W.dataLt_all_no ha (he.trans (by simpa using hq))]
      exact D.lt_py l m x y p.1 p2.1 h.1
end
theorem pys_len : ∀ ds : List D, (D.pys ds).length = ds.length
  | [] => by simp [D.pys]
  | d :: ds => by simp [D.pys, pys_len ds]
section
variable (fi : Int → Int → Bool) (fl : Nat → Nat → Bool)
mutual
theorem fst_py : ∀ (l m : Nat) (a b : D), D.pl l a = true → D.pl m b = true → ∀ k, D.fst fi fl a b = some k → SeqAt.fstQ fi fl a.py b.py = some k
  | l, m, .int i, .int j, _, _, k, h => by simpa only [D.py, SeqAt.fstQ, D.fst] using h
  | 0, _, .tup _, _, p, _, _, _ => by simp [D.pl] at p
  | l + 1, 0, .tup _, .tup _, _, p, _, _ => by simp [D.pl] at p
  | l + 1, m + 1, .tup xs, .tup ys, p, p2, k, h => by
    simp only [D.pl] at p p2
    simp only [D.fst] at h
    simp only [D.py, SeqAt.fstQ]
    exact fsts_py l m xs ys p p2 k h
  | _, _, .int _, .non, _, _, _, h => by simp [D.fst] at h
  | _, _, .int _, .bl _, _, _, _, h => by simp [D.fst] at h
  | _, _, .int _, .str _, _, _, _, h => by simp [D.fst] at h
  | _, _, .int _, .tup _, _, _, _, h => by simp [D.fst] at h
  | _, _, .int _, .lst _, _, _, _, h => by simp [D.fst] at h
  | _, _, .int _, .cell _, _, _, _, h => by simp [D.fst] at h
  | _, _, .int _, .ty _, _, _, _, h => by simp [D.fst] at h
  | _, _, .tup _, .non, _, _, _, h => by simp [D.fst] at h
  | _, _, .tup _, .bl _, _, _, _, h => by simp [D.fst] at h
  | _, _, .tup _, .int _, _, _, _, h => by simp [D.fst] at h
  | _, _, .tup _, .str _, _, _, _, h => by simp [D.fst] at h
  | _, _, .tup _, .lst _, _, _, _, h => by simp [D.fst] at h
  | _, _, .tup _, .cell _, _, _, _, h => by simp [D.fst] at h
  | _, _, .tup _, .ty _, _, _, _, h => by simp [D.fst] at h
  | _, _, .non, b, _, _, _, h => by cases b <;> simp [D.fst] at h
  | _, _, .bl _, b, _, _, _, h => by cases b <;> simp [D.fst] at h
  | _, _, .str _, b, _, _, _, h => by cases b <;> simp [D.fst] at h
  | _, _, .lst _, b, _, _, _, h => by cases b <;> simp [D.fst] at h
  | _, _, .cell _, b, _, _, _, h => by cases b <;> simp [D.fst] at h
  | _, _, .ty _, b, _, _, _, h => by cases b <;> simp [D.fst] at h
theorem fsts_py : ∀ (l m : Nat) (a b : List D), D.pls l a = true → D.pls m b = true → ∀ k, D.fsts fi fl a b = some k → SeqAt.fstQs fi fl (D.pys a) (D.pys b) = some k
  | _, _, [], ys, _, _, k, h => by
    simp only [D.fsts] at h
    simp only [D.pys, SeqAt.fstQs, pys_len, h]
  | _, _, x :: xs, [], _, _, k, h => by
    simp only [D.fsts] at h
    simp only [D.pys, SeqAt.fstQs, pys_len, h]
  | l, m, x :: xs, y :: ys, p, p2, k, h => by
    simp only [D.pls, Bool.and_eq_true] at p p2
    simp only [D.fsts] at h
    simp only [D.pys, SeqAt.fstQs, D.eqv_py l m x y p.1 p2.1]
    by_cases q : D.eqv x y = true
    · rw [if_pos q] at h ⊢
      exact fsts_py l m xs ys p.2 p2.2 k h
    · rw [if_neg q] at h ⊢
      exact fst_py l m x y p.1 p2.1 k h
end
end
theorem cmpD_of {a b : D} (h : cmpD a b = true) : D.pl 60 a = true ∧ D.pl 60 b = true ∧ D.al a b = true ∧ a.py ≠ .none := by
  simp only [cmpD, Bool.and_eq_true, Bool.not_eq_true'] at h
  obtain ⟨⟨⟨h1, h2⟩, h3⟩, h4⟩ := h
  refine ⟨h1, h2, h3, fun z => ?_⟩
  cases a with
  | non => simp [D.isN] at h4
  | cell => simp [D.pl] at h1
  | ty => simp [D.pl] at h1
  | _ => simp [D.py] at z
theorem room_sh {d e : PyData} {u : Nat} (sd : SeqAt.shaped d = true) (hu : u + 65 < cLine) : u + min d.depth e.depth < cLine := by
  have h : d.canLay0 = true ∧ d.depth ≤ 64 := by simpa [SeqAt.shaped] using sd
  omega
section
variable {X : Cx}
theorem op_ltD (hu : X.A.units + 65 < cLine) : OpR X (compareOp .Lt) (fun x y H Q => ∃ d e, Dp X.K H x d ∧ Dp X.K H y e ∧ SeqAt.shaped d = true ∧ SeqAt.shaped e = true ∧ PySem.W.alike d e = true ∧ d ≠ .none ∧ Q (.bl (PySem.W.dataLt d e)) H) := by
  intro pins s σ H x y v u Q I rx ry ⟨d, e, hd, he, sd, se, hal, hn, q⟩
  obtain ⟨as, r1⟩ := Dp.reads I d x v hd rx
  obtain ⟨bs, r2⟩ := Dp.reads I e y u he ry
  exact PySem.W.lt_data r1 r2 hal hn (room_sh sd hu) ⟨.bl _, H, I, rfl, q⟩
theorem op_leD (hu : X.A.units + 65 < cLine) : OpR X (compareOp .LtE) (fun x y H Q => ∃ d e, Dp X.K H x d ∧ Dp X.K H y e ∧ SeqAt.shaped d = true ∧ SeqAt.shaped e = true ∧ PySem.W.alike d e = true ∧ d ≠ .none ∧ Q (.bl (!PySem.W.dataLt e d)) H) := by
  intro pins s σ H x y v u Q I rx ry ⟨d, e, hd, he, sd, se, hal, hn, q⟩
  obtain ⟨as, r1⟩ := Dp.reads I d x v hd rx
  obtain ⟨bs, r2⟩ := Dp.reads I e y u he ry
  exact PySem.W.le_data r1 r2 hal hn (room_sh sd hu) ⟨.bl _, H, I, rfl, q⟩
theorem op_gtD (hu : X.A.units + 65 < cLine) : OpR X (compareOp .Gt) (fun x y H Q => ∃ d e, Dp X.K H x d ∧ Dp X.K H y e ∧ SeqAt.shaped d = true ∧ SeqAt.shaped e = true ∧ PySem.W.alike d e = true ∧ d ≠ .none ∧ Q (.bl (PySem.W.dataLt e d)) H) := by
  intro pins s σ H x y v u Q I rx ry ⟨d, e, hd, he, sd, se, hal, hn, q⟩
  obtain ⟨as, r1⟩ := Dp.reads I d x v hd rx
  obtain ⟨bs, r2⟩ := Dp.reads I e y u he ry
  exact PySem.W.gt_data r1 r2 hal hn (room_sh sd hu) ⟨.bl _, H, I, rfl, q⟩
theorem op_geD (hu : X.A.units + 65 < cLine) : OpR X (compareOp .GtE) (fun x y H Q => ∃ d e, Dp X.K H x d ∧ Dp X.K H y e ∧ SeqAt.shaped d = true ∧ SeqAt.shaped e = true ∧ PySem.W.alike d e = true ∧ d ≠ .none ∧ Q (.bl (!PySem.W.dataLt d e)) H) := by
  intro pins s σ H x y v u Q I rx ry ⟨d, e, hd, he, sd, se, hal, hn, q⟩
  obtain ⟨as, r1⟩ := Dp.reads I d x v hd rx
  obtain ⟨bs, r2⟩ := Dp.reads I e y u he ry
  exact PySem.W.ge_data r1 r2 hal hn (room_sh sd hu) ⟨.bl _, H, I, rfl, q⟩
theorem op_ltQ (hu : X.A.units + 65 < cLine) : OpR X (compareOp .Lt) (fun x y H Q => ∃ d e k, Dp X.K H x d ∧ Dp X.K H y e ∧ SeqAt.shaped d = true ∧ SeqAt.shaped e = true ∧ SeqAt.q_lt d e = some k ∧ Q (.bl k) H) := by
  intro pins s σ H x y v u Q I rx ry ⟨d, e, k, hd, he, sd, se, hk, q⟩
  obtain ⟨as, r1⟩ := Dp.reads I d x v hd rx
  obtain ⟨bs, r2⟩ := Dp.reads I e y u he ry
  exact SeqAt.rcQ_lt d e X.A s v u as bs k r1 r2 (SeqAt.canLay_of_shaped sd) (SeqAt.canLay_of_shaped se) (room_sh sd hu) hk X.prog X.w _ _ ⟨.bl _, H, I, rfl, q⟩
theorem op_dLt (hu : X.A.units + 65 < cLine) : OpR X (compareOp .Lt) (rO X.K dLt) := opi (OpR.or (OpR.or op_lt (op_ltD hu)) (op_ltQ hu)) fun x y H Q h => by
  obtain ⟨ca, st, a, b, r, s, ra, rb, e, g⟩ := h
  have hp : (∃ i j, a = .int i ∧ b = .int j) ∨ (cmpD a b = true ∧ r = .per (.bl (D.lt a b))) ∨ (∃ k, D.pl 60 a = true ∧ D.pl 60 b = true ∧ D.fst (fun i j => decide (i < j)) (fun a b => decide (a < b)) a b = some k ∧ r = .per (.bl k)) := by
    unfold dLt at e
    split at e
    · exact .inl ⟨_, _, rfl, rfl⟩
    · split at e
      · rename_i hc
        cases e
        exact .inr (.inl ⟨hc, rfl⟩)
      · split at e
        · rename_i hp
          rw [Bool.and_eq_true] at hp
          obtain ⟨k, h1, h2⟩ := Option.bind_eq_some_iff.mp e
          cases h2
          exact .inr (.inr ⟨k, hp.1, hp.2, h1, rfl⟩)
        · cases e
  rcases hp with ⟨i, j, rfl, rfl⟩ | ⟨hc, rfl⟩ | ⟨k, p1, p2, hk, rfl⟩
  · cases e
    exact .inl (.inl ⟨_, _, ra, rb, g.here s rfl⟩)
  · have hc := cmpD_of hc
    refine .inl (.inr ⟨_, _, ra.dp hc.1, rb.dp hc.2.1, D.shaped hc.1, D.shaped hc.2.1, D.al_py 60 _ _ hc.1 hc.2.2.1, hc.2.2.2, ?_⟩)
    rw [D.lt_py 60 60 _ _ hc.1 hc.2.1 hc.2.2.1]
    exact g.here s rfl
  · exact .inr ⟨_, _, k, ra.dp p1, rb.dp p2, D.shaped p1, D.shaped p2, fst_py _ _ 60 60 a b p1 p2 k hk, g.here s rfl⟩
theorem op_leQ (hu : X.A.units + 65 < cLine) : OpR X (compareOp .LtE) (fun x y H Q => ∃ d e k, Dp X.K H x d ∧ Dp X.K H y e ∧ SeqAt.shaped d = true ∧ SeqAt.shaped e = true ∧ SeqAt.q_le d e = some k ∧ Q (.bl k) H) := by
  intro pins s σ H x y v u Q I rx ry ⟨d, e, k, hd, he, sd, se, hk, q⟩
  obtain ⟨as, r1⟩ := Dp.reads I d x v hd rx
  obtain ⟨bs, r2⟩ := Dp.reads I e y u he ry
  exact SeqAt.rcQ_le d e X.A s v u as bs k r1 r2 (SeqAt.canLay_of_shaped sd) (SeqAt.canLay_of_shaped se) (room_sh sd hu) hk X.prog X.w _ _ ⟨.bl _, H, I, rfl, q⟩
theorem op_dLe (hu : X.A.units + 65 < cLine) : OpR X (compareOp .LtE) (rO X.K dLe) := opi (OpR.or (OpR.or op_le (op_leD hu)) (op_leQ hu)) fun x y H Q h => by
  obtain ⟨ca, st, a, b, r, s, ra, rb, e, g⟩ := h
  have hp : (∃ i j, a = .int i ∧ b = .int j) ∨ (cmpD a b = true ∧ r = .per (.bl (!D.lt b a))) ∨ (∃ k, D.pl 60 a = true ∧ D.pl 60 b = true ∧ D.fst (fun i j => decide (i ≤ j)) (fun a b => decide (a ≤ b)) a b = some k ∧ r = .per (.bl k)) := by
    unfold dLe at e
    split at e
    · exact .inl ⟨_, _, rfl, rfl⟩
    · split at e
      · rename_i hc
        cases e
        exact .inr (.inl ⟨hc, rfl⟩)
      · split at e
        · rename_i hp
          rw [Bool.and_eq_true] at hp
          obtain ⟨k, h1, h2⟩ := Option.bind_eq_some_iff.mp e
          cases h2
          exact .inr (.inr ⟨k, hp.1, hp.2, h1, rfl⟩)
        · cases e
  rcases hp with ⟨i, j, rfl, rfl⟩ | ⟨hc, rfl⟩ | ⟨k, p1, p2, hk, rfl⟩
  · cases e
    exact .inl (.inl ⟨_, _, ra, rb, g.here s rfl⟩)
  · have hc := cmpD_of hc
    refine .inl (.inr ⟨_, _, ra.dp hc.1, rb.dp hc.2.1, D.shaped hc.1, D.shaped hc.2.1, D.al_py 60 _ _ hc.1 hc.2.2.1, hc.2.2.2, ?_⟩)
    rw [D.lt_py 60 60 _ _ hc.2.1 hc.1 (D.al_comm _ _ hc.2.2.1)]
    exact g.here s rfl
  · exact .inr ⟨_, _, k, ra.dp p1, rb.dp p2, D.shaped p1, D.shaped p2, fst_py _ _ 60 60 a b p1 p2 k hk, g.here s rfl⟩
theorem op_dGt (hu : X.A.units + 65 < cLine) : OpR X (compareOp .Gt) (rO X.K dGt) := opi (OpR.or op_gt (op_gtD hu)) fun x y H Q h => by
  obtain ⟨ca, st, a, b, r, s, ra, rb, e, g⟩ := h
  have hp : (∃ i j, a = .int i ∧ b = .int j) ∨ (cmpD a b = true ∧ r = .per (.bl (D.lt b a))) := by
    unfold dGt at e
    split at e
    · exact .inl ⟨_, _, rfl, rfl⟩
    · split at e
      · rename_i hc
        cases e
        exact .inr ⟨hc, rfl⟩
      · cases e
  rcases hp with ⟨i, j, rfl, rfl⟩ | ⟨hc, rfl⟩
  · cases e
    exact .inl ⟨_, _, ra, rb, g.here s rfl⟩
  · have hc := cmpD_of hc
    refine .inr ⟨_, _, ra.dp hc.1, rb.dp hc.2.1, D.shaped hc.1, D.shaped hc.2.1, D.al_py 60 _ _ hc.1 hc.2.2.1, hc.2.2.2, ?_⟩
    rw [D.lt_py 60 60 _ _ hc.2.1 hc.1 (D.al_comm _ _ hc.2.2.1)]
    exact g.here s rfl
theorem op_dGe (hu : X.A.units + 65 < cLine) : OpR X (compareOp .GtE) (rO X.K dGe) := opi (OpR.or op_ge (op_geD hu)) fun x y H Q h => by
  obtain ⟨ca, st, a, b, r, s, ra, rb, e, g⟩ := h
  have hp : (∃ i j, a = .int i ∧ b = .int j) ∨ (cmpD a b = true ∧ r = .per (.bl (!D.lt a b))) := by
    unfold dGe at e
    split at e
    · exact .inl ⟨_, _, rfl, rfl⟩
    · split at e
      · rename_i hc
        cases e
        exact .inr ⟨hc, rfl⟩
      · cases e
  rcases hp with ⟨i, j, rfl, rfl⟩ | ⟨hc, rfl⟩
  · cases e
    exact .inl ⟨_, _, ra, rb, g.here s rfl⟩
  · have hc := cmpD_of hc
    refine .inr ⟨_, _, ra.dp hc.1, rb.dp hc.2.1, D.shaped hc.1, D.shaped hc.2.1, D.al_py 60 _ _ hc.1 hc.2.2.1, hc.2.2.2, ?_⟩
    rw [D.lt_py 60 60 _ _ hc.1 hc.2.1 hc.2.2.1]
    exact g.here s rfl
theorem RelX.non_iff {K : PySem.W.Frag} {H : Hp} {ca : List Addr} {a : D} {x : V} (r : RelX K H ca a x) : decide (x = .non) = a.isN := by
  cases a with
  | non => cases (show x = .non from r); rfl
  | bl b => cases (show x = .bl b from r); rfl
  | int b => cases (show x = .int b from r); rfl
  | str b => cases (show x = .str b from r); rfl
  | ty b => cases (show x = .ty b from r); rfl
  | tup ds => obtain ⟨_, _, e, _⟩ := r; subst e; rfl
  | lst ds => obtain ⟨_, _, e, _⟩ := r; subst e; rfl
  | cell ds => obtain ⟨_, e, _⟩ := r; subst e; rfl
theorem op_dIs : OpR X (compareOp .Is) (rO X.K dIs) := opi (OpR.or op_isN op_is_bl) fun x y H Q h => by
  obtain ⟨ca, st, a, b, r, s, ra, rb, e, g⟩ := h
  cases b with
  | non =>
    cases e
    refine .inl ⟨rb, ?_⟩
    rw [ra.non_iff]
    exact g.here s rfl
  | bl b =>
    cases a <;> first | cases e | skip
    exact .inr ⟨_, _, ra, rb, g.here s rfl⟩
  | _ => cases e
theorem op_dIsNot : OpR X (compareOp .IsNot) (rO X.K dIsNot) := opi (OpR.or op_notN op_isnot_bl) fun x y H Q h => by
  obtain ⟨ca, st, a, b, r, s, ra, rb, e, g⟩ := h
  cases b with
  | non =>
    cases e
    refine .inl ⟨rb, ?_⟩
    rw [ra.non_iff]
    exact g.here s rfl
  | bl b =>
    cases a <;> first | cases e | skip
    exact .inr ⟨_, _, ra, rb, g.here s rfl⟩
  | _ => cases e
theorem D.any_py {x : D} {l m : Nat} (hx : D.pl l x = true) : ∀ {ds : List D}, D.pls m ds = true → (D.pys ds).any (fun z => PyData.eqv z x.py) = ds.any fun z => D.eqv z x
  | [], _ => rfl
  | d :: ds, h => by
    simp only [D.pls, Bool.and_eq_true] at h
    simp only [D.pys, List.any_cons, D.eqv_py m l d x h.1 hx, D.any_py hx h.2]
theorem op_inT (hu : X.A.units + 65 < cLine) (neg : Bool) : OpR X (compareOp (if neg then .NotIn else .In)) (fun x y H Q => ∃ d ds, Dp X.K H x d ∧ Dp X.K H y (.tuple ds) ∧ SeqAt.shaped d = true ∧ SeqAt.shaped (.tuple ds) = true ∧
    Q (.bl (if neg then !(ds.any fun z => PyData.eqv z d) else ds.any fun z => PyData.eqv z d)) H) := by
  intro _ s σ H x y v u Q I rx ry ⟨d, ds, isD, isT, sd, se, q⟩
  have ⟨_, r1⟩ := Dp.reads I d x v isD rx
  have ⟨_, r2⟩ := Dp.reads I (.tuple ds) y u isT ry
  cases neg with
  | false => exact SeqAt.in_tuple_reads r2 r1 (SeqAt.canLay_of_shaped se) (SeqAt.canLay_of_shaped sd) (room_in_shaped sd hu) ⟨.bl _, H, I, rfl, q⟩
  | true => exact SeqAt.notIn_tuple_reads r2 r1 (SeqAt.canLay_of_shaped se) (SeqAt.canLay_of_shaped sd) (room_in_shaped sd hu) ⟨.bl _, H, I, rfl, q⟩
theorem op_dIn (hu : X.A.units + 65 < cLine) : OpR X (compareOp .In) (rO X.K dIn) := opi (OpR.or (op_inD hu) (op_inT hu false)) fun x y H Q h => by
  obtain ⟨ca, st, a, b, r, s, ra, rb, e, g⟩ := h
  unfold dIn dInB at e
  cases b <;> first | cases e | skip
  · rename_i ds
    dsimp only at e
    split at e
    · rename_i hc
      have h2 : D.pl 60 (.tup ds) = true := by simp only [D.pl]; exact hc.2
      cases e
      refine .inr ⟨_, _, ra.dp hc.1, by have := rb.dp h2; simpa only [D.py] using this, D.shaped hc.1, by have := D.shaped h2; simpa only [D.py] using this, ?_⟩
      rw [D.any_py hc.1 hc.2]
      exact g.here s rfl
    · cases e
  · rename_i ds
    dsimp only at e
    split at e
    · rename_i hc
      have h2 : D.pl 60 (.lst ds) = true := by simp only [D.pl]; exact hc.2
      cases e
      refine .inl ⟨_, _, ra.dp hc.1, by have := rb.dp h2; simpa only [D.py] using this, D.shaped hc.1, by have := D.shaped h2; simpa only [D.py] using this, ?_⟩
      rw [D.any_py hc.1 hc.2]
      exact g.here s rfl
    · cases e
theorem op_dNotIn (hu : X.A.units + 65 < cLine) : OpR X (compareOp .NotIn) (rO X.K dNotIn) := opi (OpR.or (op_notInD hu) (op_inT hu true)) fun x y H Q h => by
  obtain ⟨ca, st, a, b, r, s, ra, rb, e, g⟩ := h
  unfold dNotIn dInB at e
  cases b <;> first | cases e | skip
  · rename_i ds
    dsimp only at e
    split at e
    · rename_i hc
      have h2 : D.pl 60 (.tup ds) = true := by simp only [D.pl]; exact hc.2
      cases e
      refine .inr ⟨_, _, ra.dp hc.1, by have := rb.dp h2; simpa only [D.py] using this, D.shaped hc.1, by have := D.shaped h2; simpa only [D.py] using this, ?_⟩
      rw [D.any_py hc.1 hc.2]
      exact g.here s rfl
    · cases e
  · rename_i ds
    dsimp only at e
    split at e
    · rename_i hc
      have h2 : D.pl 60 (.lst ds) = true := by simp only [D.pl]; exact hc.2
      cases e
      refine .inl ⟨_, _, ra.dp hc.1, by have := rb.dp h2; simpa only [D.py] using this, D.shaped hc.1, by have := D.shaped h2; simpa only [D.py] using this, ?_⟩
      rw [D.any_py hc.1 hc.2]
      exact g.here s rfl
    · cases e
theorem atI_rel {K : PySem.W.Frag} {H : Hp} {ca : List Addr} {ds : List D} {vs : List V} {i : Int} {d : D} (h : RelDs K H ca ds vs) (e : atI ds i = some d) : ∃ v, atI vs i = some v ∧ RelD K H ca d v := by
  unfold atI at e ⊢
  rw [h.length]
  cases hx : ixN ds.length i with
  | none => rw [hx] at e; cases e
  | some j =>
    rw [hx] at e
    exact h.get e
theorem ix_dIx : IxR X (rO X.K dIx) := ixi (IxR.or (IxR.or ix_list ix_tup) ix_str) fun x y H Q h => by
  obtain ⟨ca, st, a, b, r, s, ra, rb, e, g⟩ := h
  cases b <;> first | (cases a <;> cases e; done) | skip
  rename_i i
  cases a <;> first | cases e | skip
  · rename_i z
    have e : (if z.length ≤ sizeLine then (atI z.cps.toList i).map fun c => RV.per (.str ⟨#[c]⟩) else none) = some r := e
    split at e
    · rename_i hl
      cases hc : atI z.cps.toList i with
      | none => rw [hc] at e; cases e
      | some c =>
        rw [hc] at e
        cases e
        exact .inr ⟨_, _, c, ra, rb, hl, hc, g.here s rfl⟩
    · cases e
  · rename_i ds
    cases hc : atI ds i with
    | none => rw [show dIx (.tup ds) (.int i) = (atI ds i).map .per from rfl, hc] at e; cases e
    | some d =>
      rw [show dIx (.tup ds) (.int i) = (atI ds i).map .per from rfl, hc] at e
      cases e
      obtain ⟨p, vs, rfl, q1, r1⟩ := ra
      obtain ⟨v, h1, h2⟩ := atI_rel r1 hc
      exact .inl (.inr ⟨p, vs, i, v, rfl, rb, q1, h1, g.here s h2⟩)
  · rename_i ds
    cases hc : atI ds i with
    | none => rw [show dIx (.lst ds) (.int i) = (atI ds i).map .per from rfl, hc] at e; cases e
    | some d =>
      rw [show dIx (.lst ds) (.int i) = (atI ds i).map .per from rfl, hc] at e
      cases e
      obtain ⟨p, vs, rfl, q1, r1⟩ := ra
      obtain ⟨v, h1, h2⟩ := atI_rel r1 hc
      exact .inl (.inl ⟨p, vs, i, v, rfl, rb, q1.sq, h1, g.here s h2⟩)
end
end Ev
/-! Built-in functions by values. -/
namespace Ev
open PySem PySem.Spec PyProof.Rows L2
variable [Tbs] [Hnd]

def ints? : List D → Option (List Int)
  | [] => some []
  | .int i :: r => (ints? r).map (i :: ·)
  | _ :: _ => none
def bools? : List D → Option (List Bool)
  | [] => some []
  | .bl i :: r => (bools? r).map (i :: ·)
  | _ :: _ => none
def dLen : List D → Option RV
  | [.tup ds] => per (.int ds.length)
  | [.lst ds] => per (.int ds.length)
  | [.str z] => if z.length ≤ sizeLine then per (.int z.length) else none
  | _ => none
/-- isinstance of the built-in types that the programs name -/
def isiB (d : D) (n : String) : Option Bool :=
  match d with
  | .non => if n = "int" ∨ n = "bool" ∨ n = "tuple" ∨ n = "str" ∨ n = "list" ∨ n = "dict" then some false else none
  | .bl _ => if n = "int" ∨ n = "bool" then some true else if n = "tuple" ∨ n = "str" ∨ n = "list" ∨ n = "dict" then some false else none
  | .int _ => if n = "int" then some true else if n = "bool" ∨ n = "tuple" ∨ n = "str" ∨ n = "list" ∨ n = "dict" then some false else none
  | .str _ => if n = "str" then some true else if n = "bool" ∨ n = "tuple" ∨ n = "int" ∨ n = "list" ∨ n = "dict" then some false else none
  | .tup _ => if n = "tuple" then some true else if n = "bool" ∨ n = "str" ∨ n = "int" ∨ n = "list" ∨ n = "dict" then some false else none
  | .lst _ => if n = "list" then some true else if n = "bool" ∨ n = "str" ∨ n = "int" ∨ n = "tuple" ∨ n = "dict" then some false else none
  | _ => none
def dIsi : List D → Option RV
  | [d, .ty n] => (isiB d n).bind yes
  | _ => none
def dAll : List D → Option RV
  | [.lst ds] => (bools? ds).bind fun bs => yes (bs.all id)
  | _ => none
def dAny : List D → Option RV
  | [.lst ds] => (bools? ds).bind fun bs => yes (bs.any id)
  | _ => none
def dSum : List D → Option RV
  | [.lst ds] => (ints? ds).bind fun ns => per (.int ns.sum)
  | [.tup ds] => (ints? ds).bind fun ns => per (.int ns.sum)
  | _ => none
def maxI : List Int → Int
  | [] => 0
  | [a] => a
  | a :: r => max a (maxI r)
def minI : List Int → Int
  | [] => 0
  | [a] => a
  | a :: r => min a (minI r)
def dMax : List D → Option RV
  | [.int i, .int j] => per (.int (max i j))
  | [.lst ds] => (ints? ds).bind fun ns => if ns.isEmpty then none else per (.int (maxI ns))
  | [.tup ds] => (ints? ds).bind fun ns => if ns.isEmpty then none else per (.int (maxI ns))
  | _ => none
def dMin : List D → Option RV
  | [.int i, .int j] => per (.int (min i j))
  | [.lst ds] => (ints? ds).bind fun ns => if ns.isEmpty then none else per (.int (minI ns))
  | [.tup ds] => (ints? ds).bind fun ns => if ns.isEmpty then none else per (.int (minI ns))
  | _ => none
def dAbs : List D → Option RV
  | [.int i] => per (.int (if i < 0 then -i else i))
  | _ => none
def dInt : List D → Option RV
  | [.int i] => per (.int i)
  | _ => none
def dList : List D → Option RV
  | [.lst ds] => some (.fr ds)
  | [.tup ds] => some (.fr ds)
  | _ => none
def dTuple : List D → Option RV
  | [.lst ds] => per (.tup ds)
  | [.tup ds] => per (.tup ds)
  | _ => none
def dComb : List D → Option RV
  | [.int a, .int b] => if 0 ≤ a ∧ 0 ≤ b ∧ a < 2 ^ 64 ∧ b ≤ 9000 then per (.int (PySem.W.mcComb a b)) else none
  | _ => none
def dDivmod : List D → Option RV
  | [.int i, .int j] => if 0 < j ∧ j < 1073741824 then per (.tup [.int (i / j), .int (i % j)]) else none
  | _ => none
section
variable {K : PySem.W.Frag} {H : Hp} {ca : List Addr}
theorem ints_vs : ∀ {ds : List D} {vs : List V} {ns : List Int}, RelDs K H ca ds vs → ints? ds = some ns → vs = ns.map V.int
  | [], _, _, h, e => by cases h; cases e; rfl
  | .int i :: r, _, _, h, e => by
    obtain ⟨v, t, rfl, q, g⟩ := h
    cases hr : ints? r with
    | none => simp [ints?, hr] at e
    | some ms =>
      simp [ints?, hr] at e
      subst e
      cases (show v = .int i from q)
      rw [ints_vs g hr]
      rfl
  | .non :: _, _, _, _, e => by cases e
  | .bl _ :: _, _, _, _, e => by cases e
  | .str _ :: _, _, _, _, e => by cases e
  | .tup _ :: _, _, _, _, e => by cases e
  | .lst _ :: _, _, _, _, e => by cases e
  | .cell _ :: _, _, _, _, e => by cases e
  | .ty _ :: _, _, _, _, e => by cases e
theorem bools_vs : ∀ {ds : List D} {vs : List V} {ns : List Bool}, RelDs K H ca ds vs → bools? ds = some ns → vs = ns.map V.bl
  | [], _, _, h, e => by cases h; cases e; rfl
  | .bl i :: r, _, _, h, e => by
    obtain ⟨v, t, rfl, q, g⟩ := h
    cases hr : bools? r with
    | none => simp [bools?, hr] at e
    | some ms =>
      simp [bools?, hr] at e
      subst e
      cases (show v = .bl i from q)
      rw [bools_vs g hr]
      rfl
  | .non :: _, _, _, _, e => by cases e
  | .int _ :: _, _, _, _, e => by cases e
  | .str _ :: _, _, _, _, e => by cases e
  | .tup _ :: _, _, _, _, e => by cases e
  | .lst _ :: _, _, _, _, e => by cases e
  | .cell _ :: _, _, _, _, e => by cases e
  | .ty _ :: _, _, _, _, e => by cases e
end
theorem ints_map : ∀ ns : List Int, ints? (ns.map D.int) = some ns
  | [] => rfl
  | i :: r => by simp [ints?, ints_map r]
theorem bools_map : ∀ ns : List Bool, bools? (ns.map D.bl) = some ns
  | [] => rfl
  | i :: r => by simp [bools?, bools_map r]
theorem maxI_mem : ∀ (ns : List Int), ns ≠ [] → maxI ns ∈ ns ∧ ∀ y ∈ ns, y ≤ maxI ns
  | [], h => absurd rfl h
  | [a], _ => by simp [maxI]
  | a :: b :: r, _ => by
    obtain ⟨h1, h2⟩ := maxI_mem (b :: r) (by simp)
    show max a (maxI (b :: r)) ∈ _ ∧ ∀ y ∈ a :: b :: r, y ≤ max a (maxI (b :: r))
    refine ⟨?_, fun y hy => ?_⟩
    · by_cases h : a ≤ maxI (b :: r)
      · rw [show max a (maxI (b :: r)) = maxI (b :: r) by omega]; exact List.mem_cons_of_mem _ h1
      · rw [show max a (maxI (b :: r)) = a by omega]; exact List.mem_cons_self
    · rcases List.mem_cons.mp hy with rfl | hy
      · omega
      · have := h2 y hy; omega
theorem minI_mem : ∀ (ns : List Int), ns ≠ [] → minI ns ∈ ns ∧ ∀ y ∈ ns, minI ns ≤ y
  | [], h => absurd rfl h
  | [a], _ => by simp [minI]
  | a :: b :: r, _ => by
    obtain ⟨h1, h2⟩ := minI_mem (b :: r) (by simp)
    show min a (minI (b :: r)) ∈ _ ∧ ∀ y ∈ a :: b :: r, min a (minI (b :: r)) ≤ y
    refine ⟨?_, fun y hy => ?_⟩
    · by_cases h : a ≤ minI (b :: r)
      · rw [show min a (minI (b :: r)) = a by omega]; exact List.mem_cons_self
      · rw [show min a (minI (b :: r)) = minI (b :: r) by omega]; exact List.mem_cons_of_mem _ h1
    · rcases List.mem_cons.mp hy with rfl | hy
      · omega
      · have := h2 y hy; omega
section
variable {X : Cx}
theorem bk {α β : Type} {o : Option α} {f : α → Option β} {r : β} (h : o.bind f = some r) : ∃ a, o = some a ∧ f a = some r := by
  cases o with
  | none => cases h
  | some a => exact ⟨a, rfl, h⟩
theorem cl_len : CallR X (.builtin "len") (rCl X.K dLen) := cai call_len fun xs H Q h => by
  obtain ⟨ca, st, as, r, s, ra, e, g⟩ := h
  unfold dLen at e
  split at e <;> first | (cases e; done) | skip
  · obtain ⟨v, t, rfl, ⟨p, vs, rfl, q, q2⟩, q3⟩ := ra
    cases q3
    cases e
    exact ⟨_, _, rfl, .inr ⟨vs, q, rfl⟩, by rw [q2.length]; exact g.here s rfl⟩
  · obtain ⟨v, t, rfl, ⟨p, vs, rfl, q, q2⟩, q3⟩ := ra
    cases q3
    cases e
    exact ⟨_, _, rfl, .inl ⟨vs, q.sq, rfl⟩, by rw [q2.length]; exact g.here s rfl⟩
  · obtain ⟨v, t, rfl, q, q3⟩ := ra
    cases q3
    rename_i z
    cases (show v = .str z from q)
    split at e
    · rename_i hl
      cases e
      exact ⟨_, _, rfl, ⟨hl, rfl⟩, g.here s rfl⟩
    · cases e
theorem cl_all (hc : X.calm = true) : CallR X (.builtin "all") (rCl X.K dAll) := cai (cr_all hc) fun xs H Q h => by
  obtain ⟨ca, st, as, r, s, ra, e, g⟩ := h
  unfold dAll at e
  split at e <;> first | (cases e; done) | skip
  obtain ⟨v, t, rfl, ⟨p, vs, rfl, q, q2⟩, q3⟩ := ra
  cases q3
  obtain ⟨bs, h1, h2⟩ := bk e
  cases h2
  have := bools_vs q2 h1
  subst this
  exact ⟨p, bs, rfl, q.sq, g.here s rfl⟩
theorem cl_any (hc : X.calm = true) : CallR X (.builtin "any") (rCl X.K dAny) := cai (cr_any hc) fun xs H Q h => by
  obtain ⟨ca, st, as, r, s, ra, e, g⟩ := h
  unfold dAny at e
  split at e <;> first | (cases e; done) | skip
  obtain ⟨v, t, rfl, ⟨p, vs, rfl, q, q2⟩, q3⟩ := ra
  cases q3
  obtain ⟨bs, h1, h2⟩ := bk e
  cases h2
  have := bools_vs q2 h1
  subst this
  exact ⟨p, bs, rfl, q.sq, g.here s rfl⟩
def rSumT (K : PySem.W.Frag) : List V → Hp → VK → Prop := fun vs H Q => ∃ (a : Addr) (ns : List Int), vs = [V.ref a] ∧ SqT K H a (ns.map V.int) ∧ Q (.int ns.sum) H
theorem cr_sumT (hc : X.calm = true) : CallR X (.builtin "sum") (rSumT X.K) := by
  intro pn s σ H vs us Q I r h
  obtain ⟨a, ns, rfl, hs, q⟩ := h
  obtain ⟨its, rv, ht, _⟩ := I.tuple hs
  have hi : IntsAre its ns := rv.ints
  obtain ⟨xs, hx⟩ := hi.allInts.items
  have hn : numsOf its.toArray.toList = ns := by rw [show its.toArray.toList = its from rfl, hi.numsOf]
  have ht2 : s.heap.IsTuple a its.toArray := ht
  rw [hx] at ht2 hn
  rw [nums_intItems] at hn
  rw [Vals.ref1 r]
  refine PySem.W.ktm_sumG (I.ok.hd hc) ht2 fun h' tk t' hk => ⟨.int _, H, I.kept hk, ⟨t', ?_⟩, q⟩
  rw [preSum_eq, List.take_of_length_le (by simp), hn]
theorem cl_sum (hc : X.calm = true) : CallR X (.builtin "sum") (rCl X.K dSum) := cai (CallR.or (cr_sum hc) (cr_sumT hc)) fun xs H Q h => by
  obtain ⟨ca, st, as, r, s, ra, e, g⟩ := h
  unfold dSum at e
  split at e <;> first | (cases e; done) | skip
  · obtain ⟨v, t, rfl, ⟨p, vs, rfl, q, q2⟩, q3⟩ := ra
    cases q3
    obtain ⟨bs, h1, h2⟩ := bk e
    cases h2
    have := ints_vs q2 h1
    subst this
    exact .inl ⟨p, bs, rfl, q.sq, g.here s rfl⟩
  · obtain ⟨v, t, rfl, ⟨p, vs, rfl, q, q2⟩, q3⟩ := ra
    cases q3
    obtain ⟨bs, h1, h2⟩ := bk e
    cases h2
    have := ints_vs q2 h1
    subst this
    exact .inr ⟨p, bs, rfl, q, g.here s rfl⟩
/-- the least, the greatest of a tuple of numbers -/
theorem least_of : ∀ (xs : List Int) (x : Int), PySem.W.minOf x xs ∈ x :: xs ∧ ∀ y ∈ x :: xs, PySem.W.minOf x xs ≤ y
  | [], x => ⟨List.mem_singleton.mpr rfl, fun y h => by rw [List.mem_singleton.mp h]; exact Int.le_refl _⟩
  | z :: zs, x => by
    have e : PySem.W.minOf x (z :: zs) = PySem.W.minOf (if z < x then z else x) zs := by
      show List.foldl _ _ _ = List.foldl _ _ _
      rw [List.foldl_cons]
      congr 1
      show (if decide (z < x) = true then z else x) = _
      simp
    obtain ⟨h1, h2⟩ := least_of zs (if z < x then z else x)
    rw [e]
    have h0 := h2 _ (List.mem_cons_self ..)
    refine ⟨?_, fun y hy => ?_⟩
    · rcases List.mem_cons.mp h1 with h | h
      · rw [h]
        split
        · exact List.mem_cons_of_mem _ (List.mem_cons_self ..)
        · exact List.mem_cons_self ..
      · exact List.mem_cons_of_mem _ (List.mem_cons_of_mem _ h)
    · rcases List.mem_cons.mp hy with rfl | hy
      · refine Int.le_trans h0 ?_
        split <;> omega
      · rcases List.mem_cons.mp hy with rfl | hy
        · refine Int.le_trans h0 ?_
          split <;> omega
        · exact h2 y (List.mem_cons_of_mem _ hy)
theorem most_of : ∀ (xs : List Int) (x : Int), PySem.W.maxOf x xs ∈ x :: xs ∧ ∀ y ∈ x :: xs, y ≤ PySem.W.maxOf x xs
  | [], x => ⟨List.mem_singleton.mpr rfl, fun y h => by rw [List.mem_singleton.mp h]; exact Int.le_refl _⟩
  | z :: zs, x => by
    have e : PySem.W.maxOf x (z :: zs) = PySem.W.maxOf (if x < z then z else x) zs := by
      show List.foldl _ _ _ = List.foldl _ _ _
      rw [List.foldl_cons]
      congr 1
      show (if decide (x < z) = true then z else x) = _
      simp
    obtain ⟨h1, h2⟩ := most_of zs (if x < z then z else x)
    rw [e]
    have h0 := h2 _ (List.mem_cons_self ..)
    refine ⟨?_, fun y hy => ?_⟩
    · rcases List.mem_cons.mp h1 with h | h
      · rw [h]
        split
        · exact List.mem_cons_of_mem _ (List.mem_cons_self ..)
        · exact List.mem_cons_self ..
      · exact List.mem_cons_of_mem _ (List.mem_cons_of_mem _ h)
    · rcases List.mem_cons.mp hy with rfl | hy
      · refine Int.le_trans ?_ h0
        split <;> omega
      · rcases List.mem_cons.mp hy with rfl | hy
        · refine Int.le_trans ?_ h0
          split <;> omega
        · exact h2 y (List.mem_cons_of_mem _ hy)
def rMinT (K : PySem.W.Frag) : List V → Hp → VK → Prop := fun vs H Q => ∃ (a : Addr) (ns : List Int), vs = [V.ref a] ∧ SqT K H a (ns.map V.int) ∧ 0 < ns.length ∧ ∀ m, m ∈ ns → (∀ y, y ∈ ns → m ≤ y) → Q (.int m) H
def rMaxT (K : PySem.W.Frag) : List V → Hp → VK → Prop := fun vs H Q => ∃ (a : Addr) (ns : List Int), vs = [V.ref a] ∧ SqT K H a (ns.map V.int) ∧ 0 < ns.length ∧ ∀ m, m ∈ ns → (∀ y, y ∈ ns → y ≤ m) → Q (.int m) H
theorem cr_minT (hc : X.calm = true) (hu : X.A.units + 65 < cLine) : CallR X (.builtin "min") (rMinT X.K) := by
  intro pn s σ H vs us Q I r h
  obtain ⟨a, ns, rfl, hs, hne, q⟩ := h
  obtain ⟨its, rv, ht, _⟩ := I.tuple hs
  have hi : IntsAre its ns := rv.ints
  rw [Vals.ref1 r]
  cases ns with
  | nil => exact absurd hne (Nat.lt_irrefl 0)
  | cons x xs =>
    obtain ⟨m1, m2⟩ := least_of xs x
    refine PySem.W.min_tuple_datum (I.ok.hd hc) ht (PySem.W.HoldAll.of_ints hi) (by have e : PySem.W.Datum.depth Int = 0 := rfl; omega) fun i v h' tk hv hh hk => ?_
    obtain ⟨t, rfl⟩ := PySem.W.int_of_holds hh
    exact ⟨.int _, H, I.kept hk, ⟨t, rfl⟩, q _ m1 m2⟩
theorem cr_maxT (hc : X.calm = true) (hu : X.A.units + 65 < cLine) : CallR X (.builtin "max") (rMaxT X.K) := by
  intro pn s σ H vs us Q I r h
  obtain ⟨a, ns, rfl, hs, hne, q⟩ := h
  obtain ⟨its, rv, ht, _⟩ := I.tuple hs
  have hi : IntsAre its ns := rv.ints
  rw [Vals.ref1 r]
  cases ns with
  | nil => exact absurd hne (Nat.lt_irrefl 0)
  | cons x xs =>
    obtain ⟨m1, m2⟩ := most_of xs x
    refine PySem.W.max_tuple_datum (I.ok.hd hc) ht (PySem.W.HoldAll.of_ints hi) (by have e : PySem.W.Datum.depth Int = 0 := rfl; omega) fun i v h' tk hv hh hk => ?_
    obtain ⟨t, rfl⟩ := PySem.W.int_of_holds hh
    exact ⟨.int _, H, I.kept hk, ⟨t, rfl⟩, q _ m1 m2⟩
theorem cl_max (hc : X.calm = true) (hu : X.A.units + 65 < cLine) : CallR X (.builtin "max") (rCl X.K dMax) := cai (CallR.or (CallR.or (call_max2 hc) (cr_max hc)) (cr_maxT hc hu)) fun xs H Q h => by
  obtain ⟨ca, st, as, r, s, ra, e, g⟩ := h
  unfold dMax at e
  split at e <;> first | (cases e; done) | skip
  · rename_i i j
    obtain ⟨v, t, rfl, q, v2, t2, rfl, q2, q3⟩ := ra
    cases q3
    cases (show v = .int i from q)
    cases (show v2 = .int j from q2)
    cases e
    refine .inl (.inl ⟨i, j, rfl, ?_⟩)
    rw [show (if j > i then j else i) = max i j by split <;> omega]
    exact g.here s rfl
  · obtain ⟨v, t, rfl, ⟨p, vs, rfl, q, q2⟩, q3⟩ := ra
    cases q3
    obtain ⟨ns, h1, h2⟩ := bk e
    split at h2
    · cases h2
    · rename_i hne
      have hne : ns ≠ [] := fun z => hne (by rw [z]; rfl)
      cases h2
      have := ints_vs q2 h1
      subst this
      obtain ⟨m1, m2⟩ := maxI_mem ns hne
      refine .inl (.inr ⟨p, ns, rfl, q.sq, List.length_pos_iff.mpr hne, fun m a b => ?_⟩)
      have : m = maxI ns := Int.le_antisymm (m2 m a) (b _ m1)
      subst this
      exact g.here s rfl
  · obtain ⟨v, t, rfl, ⟨p, vs, rfl, q, q2⟩, q3⟩ := ra
    cases q3
    obtain ⟨ns, h1, h2⟩ := bk e
    split at h2
    · cases h2
    · rename_i hne
      have hne : ns ≠ [] := fun z => hne (by rw [z]; rfl)
      cases h2
      have := ints_vs q2 h1
      subst this
      obtain ⟨m1, m2⟩ := maxI_mem ns hne
      refine .inr ⟨p, ns, rfl, q, List.length_pos_iff.mpr hne, fun m a b => ?_⟩
      have : m = maxI ns := Int.le_antisymm (m2 m a) (b _ m1)
      subst this
      exact g.here s rfl
theorem cl_min (hc : X.calm = true) (hu : X.A.units + 65 < cLine) : CallR X (.builtin "min") (rCl X.K dMin) := cai (CallR.or (CallR.or (call_min2 hc) (cr_min hc)) (cr_minT hc hu)) fun xs H Q h => by
  obtain ⟨ca, st, as, r, s, ra, e, g⟩ := h
  unfold dMin at e
  split at e <;> first | (cases e; done) | skip
  · rename_i i j
    obtain ⟨v, t, rfl, q, v2, t2, rfl, q2, q3⟩ := ra
    cases q3
    cases (show v = .int i from q)
    cases (show v2 = .int j from q2)
    cases e
    refine .inl (.inl ⟨i, j, rfl, ?_⟩)
    rw [show (if j < i then j else i) = min i j by split <;> omega]
    exact g.here s rfl
  · obtain ⟨v, t, rfl, ⟨p, vs, rfl, q, q2⟩, q3⟩ := ra
    cases q3
    obtain ⟨ns, h1, h2⟩ := bk e
    split at h2
    · cases h2
    · rename_i hne
      have hne : ns ≠ [] := fun z => hne (by rw [z]; rfl)
      cases h2
      have := ints_vs q2 h1
      subst this
      obtain ⟨m1, m2⟩ := minI_mem ns hne
      refine .inl (.inr ⟨p, ns, rfl, q.sq, List.length_pos_iff.mpr hne, fun m a b => ?_⟩)
      have : m = minI ns := Int.le_antisymm (b _ m1) (m2 m a)
      subst this
      exact g.here s rfl
  · obtain ⟨v, t, rfl, ⟨p, vs, rfl, q, q2⟩, q3⟩ := ra
    cases q3
    obtain ⟨ns, h1, h2⟩ := bk e
    split at h2
    · cases h2
    · rename_i hne
      have hne : ns ≠ [] := fun z => hne (by rw [z]; rfl)
      cases h2
      have := ints_vs q2 h1
      subst this
      obtain ⟨m1, m2⟩ := minI_mem ns hne
      refine .inr ⟨p, ns, rfl, q, List.length_pos_iff.mpr hne, fun m a b => ?_⟩
      have : m = minI ns := Int.le_antisymm (b _ m1) (m2 m a)
      subst this
      exact g.here s rfl
theorem cl_abs : CallR X (.builtin "abs") (rCl X.K dAbs) := cai call_abs fun xs H Q h => by
  obtain ⟨ca, st, as, r, s, ra, e, g⟩ := h
  unfold dAbs at e
  split at e <;> first | (cases e; done) | skip
  rename_i i
  obtain ⟨v, t, rfl, q, q3⟩ := ra
  cases q3
  cases (show v = .int i from q)
  cases e
  exact ⟨i, rfl, g.here s rfl⟩
theorem cl_int : CallR X (.type "int") (rCl X.K dInt) := cai call_int1 fun xs H Q h => by
  obtain ⟨ca, st, as, r, s, ra, e, g⟩ := h
  unfold dInt at e
  split at e <;> first | (cases e; done) | skip
  rename_i i
  obtain ⟨v, t, rfl, q, q3⟩ := ra
  cases q3
  cases (show v = .int i from q)
  cases e
  exact .inl ⟨i, rfl, g.here s rfl⟩
theorem cl_list : CallR X (.type "list") (rCl X.K dList) := cai call_list_of fun xs H Q h => by
  obtain ⟨ca, st, as, r, s, ra, e, g⟩ := h
  unfold dList at e
  split at e <;> first | (cases e; done) | skip
  · obtain ⟨v, t, rfl, ⟨p, vs, rfl, q, q2⟩, q3⟩ := ra
    cases q3
    cases e
    exact ⟨p, vs, rfl, .inl (q.sq), fun l hl => g.newL s q2 hl⟩
  · obtain ⟨v, t, rfl, ⟨p, vs, rfl, q, q2⟩, q3⟩ := ra
    cases q3
    cases e
    exact ⟨p, vs, rfl, .inr q, fun l hl => g.newL s q2 hl⟩
theorem cl_tuple : CallR X (.type "tuple") (rCl X.K dTuple) := cai call_tuple_of fun xs H Q h => by
  obtain ⟨ca, st, as, r, s, ra, e, g⟩ := h
  unfold dTuple at e
  split at e <;> first | (cases e; done) | skip
  · obtain ⟨v, t, rfl, ⟨p, vs, rfl, q, q2⟩, q3⟩ := ra
    cases q3
    cases e
    exact ⟨p, vs, rfl, .inl ⟨q.sq, fun l hl => g.newT s q2 hl⟩⟩
  · obtain ⟨v, t, rfl, ⟨p, vs, rfl, q, q2⟩, q3⟩ := ra
    cases q3
    cases e
    exact ⟨p, vs, rfl, .inr ⟨q, g.here s ⟨p, vs, rfl, q, q2⟩⟩⟩
theorem cl_comb : CallR X (.builtin "math.comb") (rCl X.K dComb) := by
  intro pins s σ H xs us Q I rx h
  obtain ⟨ca, st, as, r, sr, ra, e, g⟩ := h
  unfold dComb at e
  split at e <;> first | (cases e; done) | skip
  rename_i a b
  obtain ⟨v, t, rfl, q, v2, t2, rfl, q2, q3⟩ := ra
  cases q3
  cases (show v = .int a from q)
  cases (show v2 = .int b from q2)
  split at e
  · rename_i hc
    cases e
    obtain ⟨t1, u1, rfl⟩ := Vals.int2 rx
    exact PySem.W.mc_comb hc.1 hc.2.1 hc.2.2.1 (.inl hc.2.2.2) fun _ => ⟨.int _, H, I.tok _, ⟨_, rfl⟩, g.here sr rfl⟩
  · cases e
theorem cl_divmod : CallR X (.builtin "divmod") (rCl X.K dDivmod) := cai call_divmod fun xs H Q h => by
  obtain ⟨ca, st, as, r, s, ra, e, g⟩ := h
  unfold dDivmod at e
  split at e <;> first | (cases e; done) | skip
  rename_i i j
  obtain ⟨v, t, rfl, q, v2, t2, rfl, q2, q3⟩ := ra
  cases q3
  cases (show v = .int i from q)
  cases (show v2 = .int j from q2)
  split at e
  · rename_i hc
    cases e
    exact ⟨i, j, rfl, hc, fun p hp => g.newT (ds := [.int (i / j), .int (i % j)]) s ⟨_, _, rfl, rfl, _, _, rfl, rfl, rfl⟩ hp⟩
  · cases e
theorem ty_tup {K : PySem.W.Frag} {H : Hp} {a : Addr} {vs : List V} (h : SqT K H a vs) : TyX K H (.ref a) (.type "tuple") := by
  rcases h with (h | ⟨o, h⟩) | ⟨o, its, n, hk, hc, _⟩
  · exact .base (.tup h)
  · exact .fTuple h
  · exact .kTuple hk hc
theorem ty_lst {K : PySem.W.Frag} {H : Hp} {a : Addr} {vs : List V} (h : RdL K H a vs) : TyX K H (.ref a) (.type "list") := by
  rcases h with (h | ⟨o, h⟩) | ⟨its, n, h, _⟩
  · exact .base (.lst h)
  · exact .base (.frz h)
  · exact .kList h rfl
theorem isi_ok {K : PySem.W.Frag} {H : Hp} {ca : List Addr} {d : D} {v : V} {n : String} {b : Bool} (r : RelX K H ca d v) (e : isiB d n = some b) : ∃ t, TyX K H v t ∧ PySem.W.kitOne K t (.type n) = some b := by
  unfold isiB at e
  cases d with
  | non =>
    cases (show v = .non from r)
    refine ⟨_, .base .non, ?_⟩
    dsimp only at e
    split at e
    · rename_i h
      cases e
      rcases h with rfl | rfl | rfl | rfl | rfl | rfl <;> exact kit_ty (by decide +kernel)
    · cases e
  | bl x =>
    cases (show v = .bl x from r)
    refine ⟨_, .base (.bl x), ?_⟩
    dsimp only at e
    split at e
    · rename_i h
      cases e
      rcases h with rfl | rfl <;> exact kit_ty (by decide +kernel)
    · split at e
      · rename_i h
        cases e
        rcases h with rfl | rfl | rfl | rfl <;> exact kit_ty (by decide +kernel)
      · cases e
  | int x =>
    cases (show v = .int x from r)
    refine ⟨_, .base (.int x), ?_⟩
    dsimp only at e
    split at e
    · rename_i h
      cases e
      subst h
      exact kit_ty (by decide +kernel)
    · split at e
      · rename_i h
        cases e
        rcases h with rfl | rfl | rfl | rfl | rfl <;> exact kit_ty (by decide +kernel)
      · cases e
  | str x =>
    cases (show v = .str x from r)
    refine ⟨_, .base (.str x), ?_⟩
    dsimp only at e
    split at e
    · rename_i h
      cases e
      subst h
      exact kit_ty (by decide +kernel)
    · split at e
      · rename_i h
        cases e
        rcases h with rfl | rfl | rfl | rfl | rfl <;> exact kit_ty (by decide +kernel)
      · cases e
  | tup ds =>
    obtain ⟨a, vs, rfl, q, _⟩ := r
    refine ⟨_, ty_tup q, ?_⟩
    dsimp only at e
    split at e
    · rename_i h
      cases e
      subst h
      exact kit_ty (by decide +kernel)
    · split at e
      · rename_i h
        cases e
        rcases h with rfl | rfl | rfl | rfl | rfl <;> exact kit_ty (by decide +kernel)
      · cases e
  | lst ds =>
    obtain ⟨a, vs, rfl, q, _⟩ := r
    refine ⟨_, ty_lst q, ?_⟩
    dsimp only at e
    split at e
    · rename_i h
      cases e
      subst h
      exact kit_ty (by decide +kernel)
    · split at e
      · rename_i h
        cases e
        rcases h with rfl | rfl | rfl | rfl | rfl <;> exact kit_ty (by decide +kernel)
      · cases e
  | cell k => cases e
  | ty k => cases e
theorem cl_isi : CallR X (.builtin "isinstance") (rCl X.K dIsi) := cai call_isi fun xs H Q h => by
  obtain ⟨ca, st, as, r, s, ra, e, g⟩ := h
  unfold dIsi at e
  split at e <;> first | (cases e; done) | skip
  rename_i d n
  obtain ⟨v, t, rfl, q, v2, t2, rfl, q2, q3⟩ := ra
  cases q3
  cases (show v2 = .ty n from q2)
  obtain ⟨b, h1, h2⟩ := bk e
  cases h2
  obtain ⟨ty, h3, h4⟩ := isi_ok q h1
  exact ⟨v, .ty n, ty, .type n, b, rfl, .ty n, h3, h4, g.here s rfl⟩
end
end Ev
/-! Statements as functions of the slots and the cells. -/
namespace Ev
open PySem PySem.Spec PyProof.Rows L2
variable [Tbs] [Hnd]

/-- what a statement comes to -/
inductive RS where
  | nx (ρ : Env') (st : Store)
  | rt (d : D) (st : Store)
  | bk (ρ : Env') (st : Store)
  | ct (ρ : Env') (st : Store)
  | exc (c : Str) (as : List D) (ρ : Env') (st : Store)
  | bad
abbrev SS := Env' → Store → RS
/-- an expression, then .. -/
def thenS {α : Type} (f : Env' → M α) (k : α → SS) : SS := fun ρ st => match f ρ st with
  | .ok a st' => k a ρ st'
  | .exc c as st' => .exc c as ρ st'
  | .bad => .bad
def sSkip : SS := fun ρ st => .nx ρ st
def sSeq (f g : SS) : SS := fun ρ st => match f ρ st with
  | .nx ρ' st' => g ρ' st'
  | r => r
def slot : RV → Option SV
  | .per d => some (.val d)
  | .fr ds => some (.own ds)
  | .bor _ => none
def sSet (i : Nat) (f : Env' → M RV) : SS := thenS f fun r ρ st => match slot r with
  | some s => .nx (ρ.set i s) st
  | none => .bad
def sRet (f : Env' → M RV) : SS := thenS (kp f) fun d _ st => .rt d st
def sRetN : SS := fun _ st => .rt .non st
def sDrop (f : Env' → M RV) : SS := thenS f fun _ ρ st => .nx ρ st
def sIfS (c : Env' → M Bool) (f g : SS) : SS := thenS c fun b => if b = true then f else g
def sBrk : SS := fun ρ st => .bk ρ st
def sCnt : SS := fun ρ st => .ct ρ st
def thaw : SV → SV
  | .own ds => .val (.lst ds)
  | s => s
/-- the lists at these slots are written no more -/
def sFrz (is : List Nat) (f : SS) : SS := fun ρ st => f (is.foldl (fun ρ i => ρ.modify i thaw) ρ) st

/-! ### the frame as it stands -/
structure FrR (K : PySem.W.Frag) (H0 : Hp) (ca0 : List Addr) (H : Hp) (ca : List Addr) (ρ : Env') (σ : L2.St) : Prop where
  env : EnvR K H ca ρ σ
  stp : Stp ca0 ca H0 H
  fresh : ∀ (i : Nat) (ds : List D) (a : Addr), ρ[i]? = some (.own ds) → σ[i]? = some (some (.ref a)) → H0 a = none
/-- what is fixed stays, cells stay cells -/
structure Fx (H : Hp) (ca : List Addr) (H' : Hp) (ca' : List Addr) : Prop where
  fix : ∀ a o, H a = some o → Fix o → H' a = some o
  sub : ∀ (k : Nat) (x : Addr), ca[k]? = some x → ca'[k]? = some x
theorem Fx.refl {H : Hp} {ca : List Addr} : Fx H ca H ca := ⟨fun _ _ h _ => h, fun _ _ h => h⟩
theorem Fx.trans {H H1 H2 : Hp} {ca ca1 ca2 : List Addr} (a : Fx H ca H1 ca1) (b : Fx H1 ca1 H2 ca2) : Fx H ca H2 ca2 := ⟨fun x o h f => b.fix x o (a.fix x o h f) f, fun k x h => b.sub k x (a.sub k x h)⟩
theorem Stp.fx {H H1 : Hp} {ca ca1 : List Addr} (a : Stp ca ca1 H H1) : Fx H ca H1 ca1 := ⟨a.fix, fun _ _ => a.sub⟩
/-- Hs, cs: the heap and the cells ahead of the statement -/
def PostS (K : PySem.W.Frag) (fld : Str → List Str) (W : WX) (H0 : Hp) (ca0 : List Addr) (Hs : Hp) (cs : List Addr) (E : Ends) : RS → Prop
  | .nx ρ st => ∀ σ ca H, Fx Hs cs H ca → FrR K H0 ca0 H ca ρ σ → SR K st ca H → E.nx σ H
  | .bk ρ st => ∀ σ ca H, Fx Hs cs H ca → FrR K H0 ca0 H ca ρ σ → SR K st ca H → E.bk σ H
  | .ct ρ st => ∀ σ ca H, Fx Hs cs H ca → FrR K H0 ca0 H ca ρ σ → SR K st ca H → E.ct σ H
  | .rt d st => ∀ v ca H, Stp ca0 ca H0 H → SR K st ca H → RelD K H ca d v → E.rt v H
  | .exc c as ρ st => ∀ cls dd σ ca H, Fx Hs cs H ca → FrR K H0 ca0 H ca ρ σ → SR K st ca H → ExR K fld H ca c as cls dd → W cls dd σ H
  | .bad => False
def TSt (K : PySem.W.Frag) (fld : Str → List Str) (W : WX) (H0 : Hp) (ca0 : List Addr) (f : SS) : TS := fun E σ H =>
  ∃ ρ st ca, FrR K H0 ca0 H ca ρ σ ∧ SR K st ca H ∧ PostS K fld W H0 ca0 H ca E (f ρ st)
section
variable {K : PySem.W.Frag} {fld : Str → List Str} {W : WX} {H0 : Hp} {ca0 : List Addr} {σ : L2.St} {H H1 : Hp} {ca ca1 : List Addr} {st : Store} {ρ : Env'} {E : Ends}
theorem FrR.go (h : FrR K H0 ca0 H ca ρ σ) (t : Stp ca ca1 H H1) : FrR K H0 ca0 H1 ca1 ρ σ := ⟨h.env.stp t, h.stp.trans t, h.fresh⟩
theorem PostS.mv {r : RS} (x : Fx H ca H1 ca1) (h : PostS K fld W H0 ca0 H ca E r) : PostS K fld W H0 ca0 H1 ca1 E r := by
  cases r with
  | nx ρ st => exact fun σ ca' H2 y => h σ ca' H2 (x.trans y)
  | bk ρ st => exact fun σ ca' H2 y => h σ ca' H2 (x.trans y)
  | ct ρ st => exact fun σ ca' H2 y => h σ ca' H2 (x.trans y)
  | rt d st => exact h
  | exc c as ρ st => exact fun cls dd σ ca' H2 y => h cls dd σ ca' H2 (x.trans y)
  | bad => exact h
theorem PostS.then {α : Type} {f : Env' → M α} {k : α → SS} (h : FrR K H0 ca0 H ca ρ σ) (hp : PostS K fld W H0 ca0 H ca E (thenS f k ρ st)) :
    Post K fld W σ H ca (fun a st' ca' H' => FrR K H0 ca0 H' ca' ρ σ ∧ PostS K fld W H0 ca0 H' ca' E (k a ρ st')) (f ρ st) := by
  unfold thenS at hp
  cases hr : f ρ st with
  | bad => rw [hr] at hp; exact hp
  | exc c as st1 => rw [hr] at hp; exact fun cls dd ca' H' t s x => hp cls dd σ ca' H' t.fx (h.go t) s x
  | ok a st1 => rw [hr] at hp; exact fun ca' H' t s => ⟨h.go t, PostS.mv t.fx hp⟩
/-- a slot is bound -/
theorem FrR.put {i : Nat} {d : D} {v : V} (h : FrR K H0 ca0 H ca ρ σ) (r : RelD K H ca d v) : FrR K H0 ca0 H ca (ρ.set i (.val d)) (σ.set i (some v)) := by
  have own : ∀ (j : Nat) (ds : List D), (ρ.set i (.val d))[j]? = some (.own ds) → j ≠ i ∧ ρ[j]? = some (.own ds) := fun j ds e => by
    by_cases hj : i = j
    · subst hj
      rw [List.getElem?_set] at e
      simp at e
    · rw [List.getElem?_set_ne hj] at e
      exact ⟨fun z => hj z.symm, e⟩
  refine ⟨⟨by simp [h.env.len], fun j s e => ?_, fun j k ds es a hjk e1 e2 e3 => ?_⟩, h.stp, fun j ds a e1 e2 => ?_⟩
  · by_cases hj : i = j
    · subst hj
      by_cases hl : i < ρ.length
      · rw [List.getElem?_set_self hl] at e
        cases e
        exact ⟨some v, List.getElem?_set_self (by rw [← h.env.len]; exact hl), v, rfl, r⟩
      · rw [List.getElem?_eq_none (by simp; omega)] at e
        cases e
    · rw [List.getElem?_set_ne hj] at e ⊢
      exact h.env.at_ j s e
  · obtain ⟨n1, f1⟩ := own j ds e1
    obtain ⟨n2, f2⟩ := own k es e2
    rw [List.getElem?_set_ne (Ne.symm n1)] at e3
    rw [List.getElem?_set_ne (Ne.symm n2)]
    exact h.env.sep j k ds es a hjk f1 f2 e3
  · obtain ⟨n1, f1⟩ := own j ds e1
    rw [List.getElem?_set_ne (Ne.symm n1)] at e2
    exact h.fresh j ds a f1 e2
/-- a slot gets a new list -/
theorem FrR.putNew {i : Nat} {ds : List D} {a : Addr} {vs : List V} (h : FrR K H0 ca0 H ca ρ σ) (ha : H a = some (.lst vs)) (h0 : H0 a = none) (hn : a ∉ ca) (r : RelDs K H ca ds vs)
    (sep : ∀ (j : Nat) (es : List D), j ≠ i → ρ[j]? = some (.own es) → σ[j]? ≠ some (some (.ref a))) : FrR K H0 ca0 H ca (ρ.set i (.own ds)) (σ.set i (some (.ref a))) := by
  refine ⟨⟨by simp [h.env.len], fun j s e => ?_, fun j k ds1 es b hjk e1 e2 e3 => ?_⟩, h.stp, fun j ds1 b e1 e2 => ?_⟩
  · by_cases hj : i = j
    · subst hj
      by_cases hl : i < ρ.length
      · rw [List.getElem?_set_self hl] at e
        cases e
        exact ⟨_, List.getElem?_set_self (by rw [← h.env.len]; exact hl), a, vs, rfl, ha, hn, r⟩
      · rw [List.getElem?_eq_none (by simp; omega)] at e
        cases e
    · rw [List.getElem?_set_ne hj] at e ⊢
      exact h.env.at_ j s e
  · by_cases hj : i = j
    · subst hj
      rw [List.getElem?_set_ne hjk] at e2 ⊢
      rw [List.getElem?_set] at e3
      simp only [if_true] at e3
      split at e3
      · cases e3
        exact sep k es (Ne.symm hjk) e2
      · cases e3
    · rw [List.getElem?_set_ne hj] at e1 e3
      by_cases hk : i = k
      · subst hk
        intro z
        rw [List.getElem?_set] at z
        simp only [if_true] at z
        split at z
        · cases z
          exact sep j ds1 (Ne.symm hj) e1 e3
        · cases z
      · rw [List.getElem?_set_ne hk] at e2 ⊢
        exact h.env.sep j k ds1 es b hjk e1 e2 e3
  · by_cases hj : i = j
    · subst hj
      rw [List.getElem?_set] at e2
      simp only [if_true] at e2
      split at e2
      · cases e2; exact h0
      · cases e2
    · rw [List.getElem?_set_ne hj] at e1 e2
      exact h.fresh j ds1 b e1 e2
/-- a list that was not there ahead of an expression is at no slot -/
theorem EnvR.apart {H' : Hp} {ρ : Env'} {σ : L2.St} (h : EnvR K H ca ρ σ) {a : Addr} (ha : H a = none) : ∀ (j : Nat) (es : List D), ρ[j]? = some (.own es) → σ[j]? ≠ some (some (.ref a)) := fun j es e z => by
  obtain ⟨o, h1, h2⟩ := h.at_ j _ e
  obtain ⟨b, vs, e1, q, _⟩ := h2
  subst e1
  rw [h1] at z
  cases z
  rw [ha] at q
  cases q
end
section
variable {X : Cx} {K : PySem.W.Frag} {fld : Str → List Str} {W : WX} {H0 : Hp} {ca0 : List Addr} {e c : Expr} {s : Stmt} {ss a b : List Stmt} {pos : Pos}
theorem ss_skip : PSs X [] (TSt K fld W H0 ca0 sSkip) := PSs.imp pss_nil fun D σ H ⟨ρ, st, ca, hf, hs, hp⟩ => hp σ ca H Fx.refl hf hs
theorem ss_seq {f g : SS} (h1 : PS X s (TSt K fld W H0 ca0 f)) (h2 : PSs X ss (TSt K fld W H0 ca0 g)) : PSs X (s :: ss) (TSt K fld W H0 ca0 (sSeq f g)) := by
  refine PSs.imp (pss_cons h1 h2) fun D σ H ⟨ρ, st, ca, hf, hs, hp⟩ => ⟨ρ, st, ca, hf, hs, ?_⟩
  unfold sSeq at hp
  cases hr : f ρ st with
  | nx ρ' st' => rw [hr] at hp; exact fun σ' ca' H' x hf' hs' => ⟨ρ', st', ca', hf', hs', PostS.mv x hp⟩
  | _ => rw [hr] at hp; exact hp
theorem ss_pass : PS X (.Pass pos) (TSt K fld W H0 ca0 sSkip) := PS.imp ps_pass fun D σ H ⟨ρ, st, ca, hf, hs, hp⟩ => hp σ ca H Fx.refl hf hs
theorem ss_brk : PS X (.Break pos) (TSt K fld W H0 ca0 sBrk) := PS.imp ps_break fun D σ H ⟨ρ, st, ca, hf, hs, hp⟩ => hp σ ca H Fx.refl hf hs
theorem ss_cnt : PS X (.Continue pos) (TSt K fld W H0 ca0 sCnt) := PS.imp ps_continue fun D σ H ⟨ρ, st, ca, hf, hs, hp⟩ => hp σ ca H Fx.refl hf hs
theorem ss_retN : PS X (.Return none pos) (TSt K fld W H0 ca0 sRetN) := PS.imp ps_retN fun D σ H ⟨ρ, st, ca, hf, hs, hp⟩ => hp .non ca H hf.stp hs rfl
theorem ss_ret {f : Env' → M RV} (he : PE X e (TN K fld W f)) : PS X (.Return (some e) pos) (TSt K fld W H0 ca0 (sRet f)) := by
  refine PS.imp (ps_ret (TN.kp he)) fun D σ H ⟨ρ, st, ca, hf, hs, hp⟩ => ⟨ρ, st, ca, hf.env, hs, (PostS.then hf hp).mono fun d st1 ca1 H1 t1 s1 q v hv => ?_⟩
  exact q.2 v ca1 H1 q.1.stp s1 hv
theorem ss_drop {f : Env' → M RV} (he : PE X e (TN K fld W f)) (hw : swapsWith e none pos.line X.env = pure false) : PS X (.Expr e pos) (TSt K fld W H0 ca0 (sDrop f)) := by
  refine PS.imp (ps_expr he hw) fun D σ H ⟨ρ, st, ca, hf, hs, hp⟩ => ⟨ρ, st, ca, hf.env, hs, (PostS.then hf hp).mono fun d st1 ca1 H1 t1 s1 q v hv => ?_⟩
  exact q.2 σ ca1 H1 Fx.refl q.1 s1
theorem ss_if {t : Env' → M Bool} {f g : SS} (hc : PT X c (TT' K fld W t)) (ha : PSs X a (TSt K fld W H0 ca0 f)) (hb : PSs X b (TSt K fld W H0 ca0 g)) : PS X (.If c a b pos) (TSt K fld W H0 ca0 (sIfS t f g)) := by
  refine PS.imp (ps_if hc ha hb) fun D σ H ⟨ρ, st, ca, hf, hs, hp⟩ => ⟨ρ, st, ca, hf.env, hs, (PostS.then hf hp).mono fun k st1 ca1 H1 t1 s1 q => ?_⟩
  cases k with
  | true => exact ⟨ρ, st1, ca1, q.1, s1, q.2⟩
  | false => exact ⟨ρ, st1, ca1, q.1, s1, q.2⟩
/-- what is stored at a slot -/
theorem FrR.store {i : Nat} {r : RV} {v : V} {H H1 : Hp} {ca ca1 : List Addr} {ρ : Env'} {σ : L2.St} {s : SV} (h0 : FrR K H0 ca0 H ca ρ σ) (t : Stp ca ca1 H H1) (hv : RelRV K H H1 ca1 r v) (e : slot r = some s) : FrR K H0 ca0 H1 ca1 (ρ.set i s) (σ.set i (some v)) := by
  cases r with
  | per d => cases e; exact (h0.go t).put hv
  | bor ds => cases e
  | fr ds =>
    cases e
    obtain ⟨a, vs, rfl, ha, hn, hc, q⟩ := hv
    exact (h0.go t).putNew ha (h0.stp.dom a hn) hc q fun j es _ e1 => EnvR.apart (H' := H1) h0.env hn j es e1
theorem ss_set {i : Nat} {x : Str} {pos' : Pos} {f : Env' → M RV} (hN : X.N.Nodup) (hi : X.N[i]? = some x) (hx : Loc X.env.scope x) (he : PE X e (TN K fld W f)) (hw : swapsWith e (some (.Name x pos')) pos.line X.env = pure false)
    (hf : X.fn x = true ∨ X.env.scope.names.lookup x = some .local) : PS X (.Assign [.Name x pos'] e pos) (TSt K fld W H0 ca0 (sSet i f)) := by
  refine PS.imp (ps_set hN hi hx he hw hf) fun D σ H ⟨ρ, st, ca, hf, hs, hp⟩ => ⟨ρ, st, ca, hf.env, hs, (PostS.then hf hp).mono fun r st1 ca1 H1 t1 s1 q v hv => ?_⟩
  obtain ⟨q1, q2⟩ := q
  cases hr : slot r with
  | none => rw [hr] at q2; exact q2.elim
  | some sv =>
    rw [hr] at q2
    exact q2 _ ca1 H1 Fx.refl (hf.store t1 hv hr) s1
/-! ### freezing -/
theorem ps_pre {t : TS} (h : PS X s t) : PS X s (fun D σ H => t D σ H ∨ ∃ a vs, H a = some (.lst vs) ∧ ∀ o, t D σ (upd H a (.frz o (.lst vs)))) := by
  refine ⟨fun pins s1 σ H D I hq => ?_⟩
  rcases hq with q | ⟨a, vs, ha, q⟩
  · exact h.run pins s1 σ H D I q
  · obtain ⟨o, I2⟩ := I.lock ha trivial
    exact h.run pins s1 σ _ D I2 (q o)
theorem modify_get {ρ : Env'} {i j : Nat} : (ρ.modify i thaw)[j]? = if i = j then (ρ[j]?).map thaw else ρ[j]? := by
  rw [List.getElem?_modify]
  by_cases h : i = j
  · simp [h]
  · simp [h]
theorem FrR.thaw {i : Nat} {H : Hp} {ca : List Addr} {ρ : Env'} {σ : L2.St} {st : Store} (h : FrR K H0 ca0 H ca ρ σ) (s : SR K st ca H) :
    (FrR K H0 ca0 H ca (ρ.modify i thaw) σ) ∨ ∃ a vs, H a = some (.lst vs) ∧ ∀ o, FrR K H0 ca0 (upd H a (.frz o (.lst vs))) ca (ρ.modify i thaw) σ ∧ SR K st ca (upd H a (.frz o (.lst vs))) ∧ Fx H ca (upd H a (.frz o (.lst vs))) ca := by
  by_cases hw : ∃ ds, ρ[i]? = some (.own ds)
  · obtain ⟨ds, hds⟩ := hw
    obtain ⟨o1, h1, a, vs, e1, ha, hn, hr⟩ := h.env.at_ i _ hds
    subst e1
    refine .inr ⟨a, vs, ha, fun o => ?_⟩
    have f0 := Stp.froze0 (o := o) ha
    have g0 : ∀ (k : Nat) (x : Addr), ca[k]? = some x → ca[k]? = some x := fun _ _ z => z
    have hnew : H0 a = none := h.fresh i ds a hds h1
    refine ⟨⟨⟨by simp [h.env.len], fun j sv e => ?_, fun j k ds1 es b hjk e2 e3 e4 => ?_⟩, Stp.froze ha hnew h.stp, fun j ds1 b e2 e3 => ?_⟩, s.froze ha hn, ⟨f0, g0⟩⟩
    · rw [modify_get] at e
      by_cases hj : i = j
      · subst hj
        rw [if_pos rfl, hds] at e
        cases e
        exact ⟨_, h1, _, rfl, a, vs, rfl, .inl ⟨o, upd_same⟩, RelDs.fixed f0 g0 _ _ hr⟩
      · rw [if_neg hj] at e
        obtain ⟨o2, h2, r2⟩ := h.env.at_ j sv e
        refine ⟨o2, h2, ?_⟩
        cases sv with
        | un => trivial
        | val d => obtain ⟨v, e5, q⟩ := r2; exact ⟨v, e5, RelD.fixed f0 g0 _ _ q⟩
        | own es =>
          obtain ⟨b, ws, e5, q, n2, r3⟩ := r2
          refine ⟨b, ws, e5, ?_, n2, RelDs.fixed f0 g0 _ _ r3⟩
          rw [upd_ne]
          · exact q
          · rintro rfl
            exact h.env.sep i j ds es b hj hds e h1 (by rw [h2, e5])
        | cl =>
          obtain ⟨e5, h5, n5, iv5⟩ := r2
          refine ⟨e5, ?_, n5, Hnd.stay _ _ _ _ f0 g0 iv5⟩
          rw [upd_ne]
          · exact h5
          · rintro rfl
            rw [ha] at h5
            unfold LamX.CodeO at h5
            cases h5
    · rw [modify_get] at e2 e3
      have hj : i ≠ j := fun z => by subst z; rw [if_pos rfl, hds] at e2; cases e2
      have hk : i ≠ k := fun z => by subst z; rw [if_pos rfl, hds] at e3; cases e3
      rw [if_neg hj] at e2
      rw [if_neg hk] at e3
      exact h.env.sep j k ds1 es b hjk e2 e3 e4
    · rw [modify_get] at e2
      have hj : i ≠ j := fun z => by subst z; rw [if_pos rfl, hds] at e2; cases e2
      rw [if_neg hj] at e2
      exact h.fresh j ds1 b e2 e3
  · refine .inl ?_
    have e : ρ.modify i Ev.thaw = ρ := by
      apply List.ext_getElem?
      intro j
      rw [modify_get]
      by_cases hj : i = j
      · subst hj
        rw [if_pos rfl]
        cases hv : ρ[i]? with
        | none => rfl
        | some sv =>
          cases sv with
          | own ds => exact absurd ⟨ds, hv⟩ hw
          | _ => rfl
      · rw [if_neg hj]
    rw [e]
    exact h
theorem ss_frz {f : SS} : ∀ (is : List Nat), PS X s (TSt K fld W H0 ca0 f) → PS X s (TSt K fld W H0 ca0 (sFrz is f))
  | [], h => h
  | i :: is, h => by
    refine PS.imp (ps_pre (ss_frz is h)) fun D σ H ⟨ρ, st, ca, hf, hs, hp⟩ => ?_
    rcases hf.thaw (i := i) hs with hq | ⟨a, vs, ha, hq⟩
    · exact .inl ⟨_, st, ca, hq, hs, hp⟩
    · exact .inr ⟨a, vs, ha, fun o => ⟨_, st, ca, (hq o).1, (hq o).2.1, PostS.mv (hq o).2.2 hp⟩⟩
end
end Ev
/-! What is walked; for; comprehensions. -/
namespace Ev
open PySem PySem.Spec PyProof.Rows L2
variable [Tbs] [Hnd]

/-- an object more or none -/
def Lay (H H' : Hp) : Prop := ∀ a o, H a = some o → H' a = some o
section
variable {K : PySem.W.Frag} {H H1 H2 : Hp} {ca ca1 ca2 : List Addr} {st : Store}
theorem Lay.refl : Lay H H := fun _ _ h => h
theorem Lay.stp (h : Lay H H1) : Stp ca ca H H1 := ⟨⟨[], by simp, fun a h => nomatch h⟩, fun a o e _ => h a o e, fun a o e _ _ => h a o e, fun a e => by
  cases q : H a with
  | none => rfl
  | some o => rw [h a o q] at e; cases e⟩
theorem Lay.sr (h : Lay H H1) (s : SR K st ca H) : SR K st ca H1 := s.stay h.stp (s.tabs.ext h) fun a ha => by
  obtain ⟨k, hk⟩ := List.getElem?_of_mem ha
  have hl : k < st.length := by rw [← s.len]; exact (List.getElem?_eq_some_iff.mp hk).1
  have := s.cell k st[k] a (List.getElem?_eq_getElem hl) hk
  cases hc : st[k] with
  | lst ds => rw [hc] at this; obtain ⟨vs, e, _⟩ := this; rw [e, h _ _ e]
  | dct kvs => rw [hc] at this; obtain ⟨vs, e, _⟩ := this; rw [e, h _ _ e]
theorem Lay.upd {p : Addr} {o : HO} (hp : H p = none) : Lay H (upd H p o) := fun a u e => by rw [upd_ne (ne_of_none e hp)]; exact e
end
/-- J walks ds, as long as what is fixed stays -/
def Wk (K : PySem.W.Frag) (J : It) (ds : List D) (H : Hp) (ca : List Addr) : Prop := ∀ H1 ca1, Fx H ca H1 ca1 →
  (∀ i, i < ds.length → J.go i H1) ∧ J.stop ds.length H1 ∧ ∀ i x H2, J.yld i H1 x H2 → i < ds.length → ∃ d, ds[i]? = some d ∧ Lay H1 H2 ∧ RelD K H2 ca1 d x
def TWk (K : PySem.W.Frag) (fld : Str → List Str) (W : WX) (f : Env' → M (List D)) : TI := fun σ H R => ∃ ρ st ca, EnvR K H ca ρ σ ∧ SR K st ca H ∧ Post K fld W σ H ca (fun ds _ ca' H' => ∀ J, Wk K J ds H' ca' → R J H') (f ρ st)
theorem PI.imp {X : Cx} {tg e : Expr} {t u : TI} (h : PI X tg e t) (i : ∀ σ H R, u σ H R → t σ H R) : PI X tg e u := ⟨fun pins s σ H R I q => h.run pins s σ H R I (i σ H R q)⟩
theorem PG.imp {X : Cx} {e : Expr} {t u : TG} (h : PG X e t) (i : ∀ v σ H R, u v σ H R → t v σ H R) : PG X e u := ⟨fun pins s σ H v w Q I r q => h.run pins s σ H v w Q I r (i v σ H Q q)⟩
theorem PGs.imp {X : Cx} {e : List Expr} {t u : TGs} (h : PGs X e t) (i : ∀ v σ H R, u v σ H R → t v σ H R) : PGs X e u := ⟨fun pins s σ H v w Q I r q => h.run pins s σ H v w Q I r (i v σ H Q q)⟩

/-! ### targets -/
/-- the frame behind a store to names: at these places alone -/
structure Bd (K : PySem.W.Frag) (H : Hp) (ca : List Addr) (is : List Nat) (ρ ρ' : Env') (σ σ' : L2.St) : Prop where
  env : EnvR K H ca ρ' σ'
  own : ∀ (j : Nat) (ds : List D), ρ'[j]? = some (.own ds) → ρ[j]? = some (.own ds) ∧ σ'[j]? = σ[j]?
  wip : ∀ vs : List Nat, (∀ i ∈ is, i ∈ vs) → wipe σ' vs = wipe σ vs
def TGd (K : PySem.W.Frag) (is : List Nat) (g : D → Env' → Option Env') : TG := fun x σ H R => ∃ ρ d ca ρ', EnvR K H ca ρ σ ∧ RelD K H ca d x ∧ g d ρ = some ρ' ∧ ∀ σ', Bd K H ca is ρ ρ' σ σ' → R σ' H
def TGds (K : PySem.W.Frag) (is : List Nat) (g : List D → Env' → Option Env') : TGs := fun x σ H R => ∃ ρ d ca ρ', EnvR K H ca ρ σ ∧ RelDs K H ca d x ∧ g d ρ = some ρ' ∧ ∀ σ', Bd K H ca is ρ ρ' σ σ' → R σ' H
def gN (i : Nat) : D → Env' → Option Env' := fun d ρ => some (ρ.set i (.val d))
def gsNil : List D → Env' → Option Env' := fun ds ρ => match ds with
  | [] => some ρ
  | _ => none
def gsCons (g : D → Env' → Option Env') (h : List D → Env' → Option Env') : List D → Env' → Option Env' := fun ds ρ => match ds with
  | d :: ds => (g d ρ).bind (h ds)
  | [] => none
def gT (h : List D → Env' → Option Env') : D → Env' → Option Env' := fun d ρ => match d with
  | .tup ds => h ds ρ
  | _ => none
theorem wipe_set (σ : L2.St) (i : Nat) (o : Option V) : ∀ vs : List Nat, i ∈ vs → wipe (σ.set i o) vs = wipe σ vs
  | [], h => nomatch h
  | v :: vs, h => by
    unfold wipe
    by_cases hv : i ∈ vs
    · rw [wipe_set σ i o vs hv]
    · have e : v = i := by
        rcases List.mem_cons.mp h with h | h
        · exact h.symm
        · exact absurd h hv
      subst e
      have : ∀ ws : List Nat, v ∉ ws → wipe (σ.set v o) ws = (wipe σ ws).set v o := by
        intro ws
        induction ws with
        | nil => intro _; rfl
        | cons w ws ih =>
          intro hn
          simp only [List.mem_cons, not_or] at hn
          unfold wipe
          rw [ih hn.2, List.set_comm _ _ (fun z => hn.1 z)]
      rw [this vs hv, List.set_set]
section
variable {K : PySem.W.Frag} {H : Hp} {ca : List Addr} {ρ ρ1 ρ2 : Env'} {σ σ1 σ2 : L2.St}
theorem EnvR.put {i : Nat} {d : D} {v : V} (h : EnvR K H ca ρ σ) (r : RelD K H ca d v) : Bd K H ca [i] ρ (ρ.set i (.val d)) σ (σ.set i (some v)) := by
  have own : ∀ (j : Nat) (ds : List D), (ρ.set i (.val d))[j]? = some (.own ds) → ρ[j]? = some (.own ds) ∧ (σ.set i (some v))[j]? = σ[j]? := fun j ds e => by
    by_cases hj : i = j
    · subst hj
      rw [List.getElem?_set] at e
      simp at e
    · rw [List.getElem?_set_ne hj] at e
      exact ⟨e, List.getElem?_set_ne hj⟩
  refine ⟨⟨by simp [h.len], fun j s e => ?_, fun j k ds es a hjk e1 e2 e3 => ?_⟩, own, fun vs hv => wipe_set σ i _ vs (hv i (by simp))⟩
  · by_cases hj : i = j
    · subst hj
      by_cases hl : i < ρ.length
      · rw [List.getElem?_set_self hl] at e
        cases e
        exact ⟨some v, List.getElem?_set_self (by rw [← h.len]; exact hl), v, rfl, r⟩
      · rw [List.getElem?_eq_none (by simp; omega)] at e
        cases e
    · rw [List.getElem?_set_ne hj] at e ⊢
      exact h.at_ j s e
  · obtain ⟨f1, g1⟩ := own j ds e1
    obtain ⟨f2, g2⟩ := own k es e2
    rw [g1] at e3
    rw [g2]
    exact h.sep j k ds es a hjk f1 f2 e3
theorem Bd.refl (h : EnvR K H ca ρ σ) : Bd K H ca [] ρ ρ σ σ := ⟨h, fun _ _ e => ⟨e, rfl⟩, fun _ _ => rfl⟩
theorem Bd.trans {is js : List Nat} (a : Bd K H ca is ρ ρ1 σ σ1) (b : Bd K H ca js ρ1 ρ2 σ1 σ2) : Bd K H ca (is ++ js) ρ ρ2 σ σ2 :=
  ⟨b.env, fun j ds e => let ⟨x, y⟩ := b.own j ds e; let ⟨z, w⟩ := a.own j ds x; ⟨z, y.trans w⟩, fun vs hv => (b.wip vs fun i hi => hv i (List.mem_append_right _ hi)).trans (a.wip vs fun i hi => hv i (List.mem_append_left _ hi))⟩
theorem FrR.bd {H0 : Hp} {ca0 : List Addr} {is : List Nat} (h : FrR K H0 ca0 H ca ρ σ) (b : Bd K H ca is ρ ρ1 σ σ1) : FrR K H0 ca0 H ca ρ1 σ1 :=
  ⟨b.env, h.stp, fun i ds a e1 e2 => let ⟨x, y⟩ := b.own i ds e1; h.fresh i ds a x (y ▸ e2)⟩
end
section
variable {X : Cx} {K : PySem.W.Frag} {pos : Pos}
theorem sg_name {i : Nat} {x : Str} (hN : X.N.Nodup) (hi : X.N[i]? = some x) (hx : Loc X.env.scope x) (hf : X.fn x = true ∨ X.env.scope.names.lookup x = some .local) : PG X (.Name x pos) (TGd K [i] (gN i)) := by
  refine PG.imp (pg_name hN hi hx hf) fun v σ H R ⟨ρ, d, ca, ρ', he, hd, e, hr⟩ => ?_
  cases e
  exact hr _ (he.put hd)
theorem sg_nil : PGs X [] (TGds K [] gsNil) := PGs.imp pgs_nil fun v σ H R ⟨ρ, d, ca, ρ', he, hd, e, hr⟩ => by
  cases d with
  | cons d ds => cases e
  | nil => cases e; cases hd; exact ⟨rfl, hr σ (Bd.refl he)⟩
theorem sg_cons {e : Expr} {es : List Expr} {is js : List Nat} {g : D → Env' → Option Env'} {h : List D → Env' → Option Env'} (h1 : PG X e (TGd K is g)) (h2 : PGs X es (TGds K js h))
    (hs : (assignEach (e :: es) X.env).map (·.2) = assign e X.env :: (assignEach es X.env).map (·.2)) : PGs X (e :: es) (TGds K (is ++ js) (gsCons g h)) := by
  refine PGs.imp (pgs_cons h1 h2 hs) fun v σ H R ⟨ρ, d, ca, ρ', he, hd, e, hr⟩ => ?_
  cases d with
  | nil => cases e
  | cons d ds =>
    obtain ⟨x, r, rfl, q, qs⟩ := hd
    have e : (g d ρ).bind (h ds) = some ρ' := e
    cases hg : g d ρ with
    | none => rw [hg] at e; cases e
    | some ρ1 =>
      rw [hg] at e
      exact ⟨x, r, rfl, ρ, d, ca, ρ1, he, q, hg, fun σ1 b1 => ⟨ρ1, ds, ca, ρ', b1.env, qs, e, fun σ2 b2 => hr σ2 (b1.trans b2)⟩⟩
theorem gs_len {es : List Expr} {is : List Nat} {h : List D → Env' → Option Env'} : True := trivial
theorem sg_tup {es : List Expr} {k n : Nat} {is : List Nat} {h : List D → Env' → Option Env'} (hc : X.calm = true) (hg : PGs X es (TGds X.K is h)) (hl : ∀ ds ρ ρ', h ds ρ = some ρ' → ds.length = n)
    (hn : (assignEach es X.env).length = n) (hst : (assignEach es X.env).findIdx? (·.1) = none) : PG X (.Tuple es k pos) (TGd X.K is (gT h)) := by
  refine PG.imp (pg_tup hc hg hn hst) fun v σ H R ⟨ρ, d, ca, ρ', he, hd, e, hr⟩ => ?_
  cases d with
  | tup ds =>
    obtain ⟨a, vs, rfl, q, r⟩ := hd
    exact ⟨a, vs, rfl, q, by rw [r.length]; exact hl ds ρ ρ' e, ρ, ds, ca, ρ', he, r, e, hr⟩
  | _ => cases e
theorem len_nil : ∀ ds ρ ρ', gsNil ds ρ = some ρ' → ds.length = 0 := fun ds ρ ρ' e => by
  cases ds with
  | nil => rfl
  | cons _ _ => cases e
theorem len_cons {g : D → Env' → Option Env'} {h : List D → Env' → Option Env'} {n : Nat} (hl : ∀ ds ρ ρ', h ds ρ = some ρ' → ds.length = n) : ∀ ds ρ ρ', gsCons g h ds ρ = some ρ' → ds.length = n + 1 := fun ds ρ ρ' e => by
  cases ds with
  | nil => cases e
  | cons d ds =>
    have e : (g d ρ).bind (h ds) = some ρ' := e
    cases hg : g d ρ with
    | none => rw [hg] at e; cases e
    | some ρ1 => rw [hg] at e; exact congrArg Nat.succ (hl ds ρ1 ρ' e)
end

/-! ### for -/
def sForL (g : D → Env' → Option Env') (f : SS) : List D → SS
  | [] => fun ρ st => .nx ρ st
  | d :: ds => fun ρ st => match g d ρ with
    | none => .bad
    | some ρ1 => match f ρ1 st with
      | .nx ρ2 st2 => sForL g f ds ρ2 st2
      | .ct ρ2 st2 => sForL g f ds ρ2 st2
      | .bk ρ2 st2 => .nx ρ2 st2
      | r => r
def sFor (it : Env' → M (List D)) (g : D → Env' → Option Env') (f : SS) : SS := thenS it fun ds => sForL g f ds
section
variable {X : Cx} {K : PySem.W.Frag} {fld : Str → List Str} {W : WX} {H0 : Hp} {ca0 : List Addr} {tg iter : Expr} {body : List Stmt} {pos : Pos}
theorem ss_for {it : Env' → M (List D)} {is : List Nat} {g : D → Env' → Option Env'} {f : SS} (hp : PassesOwn (model X.prog X.w) X.A X.env X.xe) (hc : X.calm = true) (hi : PI X tg iter (TWk K fld W it)) (hg : PG X tg (TGd K is g)) (hb : PSs X body (TSt K fld W H0 ca0 f))
    (hs : ∀ x, foldedSetIterable iter X.env x = pure x) : PS X (.For tg iter body [] pos) (TSt K fld W H0 ca0 (sFor it g f)) := by
  refine PS.imp (ps_for hp hc hi hg hb hs) fun E σ H ⟨ρ, st, ca, hf, hsr, hp⟩ => ⟨ρ, st, ca, hf.env, hsr, (PostS.then hf hp).mono fun ds st1 ca1 H1 t1 s1 q J wk => ?_⟩
  obtain ⟨hf1, hq⟩ := q
  refine ⟨fun i m σ' H' => m = ds.length - i ∧ i ≤ ds.length ∧ ∃ ρ' st' ca', Fx H1 ca1 H' ca' ∧ FrR K H0 ca0 H' ca' ρ' σ' ∧ SR K st' ca' H' ∧ PostS K fld W H0 ca0 H' ca' E (sForL g f (ds.drop i) ρ' st'), ⟨_, rfl, Nat.zero_le _, ρ, st1, ca1, Fx.refl, hf1, s1, hq⟩, ?_⟩
  rintro i m σ' H' ⟨rfl, hle, ρ', st', ca', fx, hf', hs', hq'⟩
  obtain ⟨w1, w2, w3⟩ := wk H' ca' fx
  by_cases hlt : i < ds.length
  · have ed : ds.drop i = ds[i] :: ds.drop (i + 1) := (List.getElem_cons_drop hlt).symm
    rw [ed] at hq'
    refine .inr ⟨w1 i hlt, fun σ2 H2 => ∃ ρ2 st2 ca2, Fx H1 ca1 H2 ca2 ∧ FrR K H0 ca0 H2 ca2 ρ2 σ2 ∧ SR K st2 ca2 H2 ∧ PostS K fld W H0 ca0 H2 ca2 E (sForL g f (ds.drop (i + 1)) ρ2 st2), fun σ2 H2 ⟨ρ2, st2, ca2, x2, y2, z2, q2⟩ => ⟨ds.length - (i + 1), by omega, rfl, hlt, ρ2, st2, ca2, x2, y2, z2, q2⟩, fun x H2 y => ?_⟩
    obtain ⟨d, hd, ly, rd⟩ := w3 i x H2 y hlt
    have e : ds[i] = d := by rw [List.getElem?_eq_getElem hlt] at hd; exact Option.some.inj hd
    rw [e] at hq'
    have hq' : PostS K fld W H0 ca0 H' ca' E (match g d ρ' with
      | none => .bad
      | some ρ1 => match f ρ1 st' with
        | .nx ρ2 st2 => sForL g f (ds.drop (i + 1)) ρ2 st2
        | .ct ρ2 st2 => sForL g f (ds.drop (i + 1)) ρ2 st2
        | .bk ρ2 st2 => .nx ρ2 st2
        | r => r) := hq'
    have t2 : Stp ca' ca' H' H2 := ly.stp
    have hf2 := hf'.go t2
    have hs2 := ly.sr hs'
    cases hgd : g d ρ' with
    | none => rw [hgd] at hq'; exact hq'.elim
    | some ρ1 =>
      rw [hgd] at hq'
      dsimp only at hq'
      refine ⟨ρ', d, ca', ρ1, hf2.env, rd, hgd, fun σ1 b1 => ⟨ρ1, st', ca', hf2.bd b1, hs2, ?_⟩⟩
      have fx2 := fx.trans t2.fx
      cases hr : f ρ1 st' with
      | nx ρ2 st2 => rw [hr] at hq'; exact fun σ3 ca3 H3 x3 f3 s3 => ⟨ρ2, st2, ca3, fx2.trans x3, f3, s3, PostS.mv (t2.fx.trans x3) hq'⟩
      | ct ρ2 st2 => rw [hr] at hq'; exact fun σ3 ca3 H3 x3 f3 s3 => ⟨ρ2, st2, ca3, fx2.trans x3, f3, s3, PostS.mv (t2.fx.trans x3) hq'⟩
      | bk ρ2 st2 => rw [hr] at hq'; exact fun σ3 ca3 H3 x3 f3 s3 => hq' σ3 ca3 H3 (t2.fx.trans x3) f3 s3
      | rt d2 st2 => rw [hr] at hq'; exact hq'
      | exc c as ρ2 st2 => rw [hr] at hq'; exact fun cls dd σ3 ca3 H3 x3 => hq' cls dd σ3 ca3 H3 (t2.fx.trans x3)
      | bad => rw [hr] at hq'; exact hq'
  · have e : i = ds.length := by omega
    subst e
    rw [List.drop_length] at hq'
    exact .inl ⟨w2, hq' σ' ca' H' Fx.refl hf' hs'⟩
end
end Ev
/-! List comprehensions. -/
namespace Ev
open PySem PySem.Spec PyProof.Rows L2
variable [Tbs] [Hnd]

def M.ne {α : Type} (m : M α) : M α := fun st => match m st with
  | .ok a st' => .ok a st'
  | _ => .bad
def wipeE (ρ : Env') : List Nat → Env'
  | [] => ρ
  | v :: vs => (wipeE ρ vs).set v .un
def sLcN (g : D → Env' → Option Env') (c : Env' → M Bool) (el : Env' → M D) (ρ : Env') : List D → List D → M (List D)
  | [], acc => M.pure acc
  | d :: ds, acc => match g d ρ with
    | none => M.bad
    | some ρ1 => M.bind (M.ne (c ρ1)) fun b => if b = true then M.bind (M.ne (el ρ1)) fun e => if acc.length < sizeLine then sLcN g c el ρ ds (acc ++ [e]) else M.bad else sLcN g c el ρ ds acc
def sLcV (it : Env' → M (List D)) (g : D → Env' → Option Env') (c : Env' → M Bool) (el : Env' → M D) (vs : List Nat) : Env' → M RV := fun ρ => M.bind (it ρ) fun ds => M.bind (sLcN g c el (wipeE ρ vs) ds []) fun acc => M.pure (.fr acc)
def sYes : Env' → M Bool := fun _ => M.pure true
def WF : WX := fun _ _ _ _ => False

section
variable {K : PySem.W.Frag} {fld : Str → List Str} {W : WX} {σ σ' : L2.St} {H H1 H2 : Hp} {ca ca1 ca2 : List Addr} {st : Store} {ρ : Env'}
theorem Post.ne {α β : Type} {m : M α} {g : α → M β} {k : β → Store → List Addr → Hp → Prop} (h : Post K fld W σ H ca k (M.bind (M.ne m) g st)) :
    Post K fld WF σ' H ca (fun a st1 ca1 H1 => Post K fld W σ H1 ca1 k (g a st1)) (m st) := by
  have h := Post.bind h
  unfold M.ne at h
  cases e : m st with
  | bad => rw [e] at h; exact h
  | exc c as st1 => rw [e] at h; exact h.elim
  | ok a st1 => rw [e] at h; exact h
theorem wipeE_length : ∀ vs : List Nat, (wipeE ρ vs).length = ρ.length
  | [] => rfl
  | v :: vs => by unfold wipeE; rw [List.length_set, wipeE_length vs]
theorem wipeE_get : ∀ {vs : List Nat} {i : Nat} {s : SV}, (wipeE ρ vs)[i]? = some s → s = .un ∨ (ρ[i]? = some s ∧ i ∉ vs)
  | [], i, s, h => .inr ⟨h, by simp⟩
  | v :: vs, i, s, h => by
    unfold wipeE at h
    by_cases hi : v = i
    · subst hi
      rw [List.getElem?_set] at h
      simp only [if_true] at h
      split at h
      · cases h; exact .inl rfl
      · cases h
    · rw [List.getElem?_set_ne hi] at h
      rcases wipeE_get h with e | ⟨e, n⟩
      · exact .inl e
      · exact .inr ⟨e, by simp only [List.mem_cons, not_or]; exact ⟨fun z => hi z.symm, n⟩⟩
theorem wipe_get {σ : L2.St} : ∀ {vs : List Nat} {i : Nat}, i ∉ vs → (wipe σ vs)[i]? = σ[i]?
  | [], i, h => rfl
  | v :: vs, i, h => by
    simp only [List.mem_cons, not_or] at h
    unfold wipe
    rw [List.getElem?_set_ne (fun z => h.1 z.symm)]
    exact wipe_get h.2
theorem EnvR.wipe (h : EnvR K H ca ρ σ) (vs : List Nat) : EnvR K H ca (wipeE ρ vs) (L2.wipe σ vs) := by
  refine ⟨by rw [wipeE_length, wipe_length]; exact h.len, fun i s e => ?_, fun i j ds es a hij e1 e2 e3 => ?_⟩
  · rcases wipeE_get e with rfl | ⟨e, n⟩
    · have hl : i < (L2.wipe σ vs).length := by rw [wipe_length, ← h.len, ← wipeE_length (ρ := ρ) vs]; exact (List.getElem?_eq_some_iff.mp e).1
      exact ⟨_, List.getElem?_eq_getElem hl, trivial⟩
    · obtain ⟨o, a, b⟩ := h.at_ i s e
      exact ⟨o, by rw [wipe_get n]; exact a, b⟩
  · rcases wipeE_get e1 with z | ⟨e1, n1⟩
    · cases z
    · rcases wipeE_get e2 with z | ⟨e2, n2⟩
      · cases z
      · rw [wipe_get n1] at e3
        rw [wipe_get n2]
        exact h.sep i j ds es a hij e1 e2 e3
theorem wipe_comm (σ : L2.St) (i : Nat) : ∀ vs : List Nat, L2.wipe (σ.set i none) vs = (L2.wipe σ vs).set i none
  | [] => rfl
  | v :: vs => by
    unfold L2.wipe
    rw [wipe_comm σ i vs]
    by_cases h : i = v
    · subst h; rfl
    · rw [List.set_comm _ _ h]
theorem wipe_idem (σ : L2.St) : ∀ vs : List Nat, L2.wipe (L2.wipe σ vs) vs = L2.wipe σ vs
  | [] => rfl
  | v :: vs => by
    show (L2.wipe ((L2.wipe σ vs).set v none) vs).set v none = (L2.wipe σ vs).set v none
    rw [wipe_comm, List.set_set, wipe_idem σ vs]
/-- a list of nobody is written -/
theorem Stp.wr {p : Addr} {o : HO} (h0 : H1 p = none) (s : Stp ca ca1 H1 H) : Stp ca ca1 H1 (upd H p o) := by
  refine ⟨s.ext, fun a u e f => ?_, fun a u e n f => ?_, fun a e => ?_⟩
  · rw [upd_ne]
    · exact s.fix a u e f
    · rintro rfl
      rw [h0] at e; cases e
  · rw [upd_ne]
    · exact s.keep a u e n f
    · rintro rfl
      rw [h0] at e; cases e
  · by_cases z : a = p
    · rw [z, upd_same] at e; cases e
    · rw [upd_ne z] at e; exact s.dom a e
theorem fix_wr {p : Addr} {vs : List V} {o : HO} (hp : H p = some (.lst vs)) : ∀ a u, H a = some u → Fix u → upd H p o a = some u := fun a u e f => by
  rw [upd_ne]
  · exact e
  · rintro rfl
    rw [hp] at e; cases e; exact f.elim
theorem KvR.fixed (f : ∀ a o, H a = some o → Fix o → H1 a = some o) (g : ∀ (k : Nat) (x : Addr), ca[k]? = some x → ca1[k]? = some x) : ∀ {kvs : List (Key × D)} {ws : List (Key × V)}, KvR K H ca kvs ws → KvR K H1 ca1 kvs ws
  | [], _, h => h
  | x :: r, _, h => by
    obtain ⟨v, t, e, q, g'⟩ := h
    exact ⟨v, t, e, RelD.fixed f g _ _ q, KvR.fixed f g g'⟩
theorem SR.wr {p : Addr} {vs : List V} {o : HO} (h : SR K st ca H) (hp : H p = some (.lst vs)) (n : p ∉ ca) : SR K st ca (upd H p o) := by
  have f := fix_wr (o := o) hp
  refine ⟨h.len, h.nd, fun i c a e1 e2 => ?_, tabs_upd hp nofun nofun h.tabs⟩
  have q := h.cell i c a e1 e2
  have ne : a ≠ p := fun z => n (z ▸ List.mem_of_getElem? e2)
  cases c with
  | lst ds => obtain ⟨ws, e, r⟩ := q; exact ⟨ws, by rw [upd_ne ne]; exact e, RelDs.fixed f (fun _ _ z => z) _ _ r⟩
  | dct kvs => obtain ⟨ws, e, r⟩ := q; exact ⟨ws, by rw [upd_ne ne]; exact e, KvR.fixed f (fun _ _ z => z) r⟩
end
/-- a block's context -/
abbrev bX (X : Cx) (scope : Scope) (s : Shared) (H : Hp) (C : Addr) (cl : List (Str × Addr)) (fp : List Addr) : Cx := X.blk s H scope (compEnvC scope cl C X.env) fp
section
variable {X : Cx} {K : PySem.W.Frag} {fld : Str → List Str} {W : WX} {σ : L2.St} {H : Hp} {elt tg iter : Expr} {ifs : List Expr} {scope : Scope} {own : List (Str × Nat)} {pos : Pos} {Q : VK}
/-- the rule's frame is met -/
theorem Post.ne' {α β : Type} {m : M α} {g : α → M β} {k : β → Store → List Addr → Hp → Prop} {H1 : Hp} {ca ca1 : List Addr} {st : Store} {σ' : L2.St} (h : Post K fld W σ H1 ca1 k (M.bind (M.ne m) g st)) :
    Post K fld WF σ' H ca (fun a st1 _ _ => Post K fld W σ H1 ca1 k (g a st1)) (m st) := by
  unfold M.bind M.ne at h
  cases e : m st with
  | bad => rw [e] at h; exact h
  | exc c as st1 => rw [e] at h; exact h.elim
  | ok a st1 => rw [e] at h; exact fun _ _ _ _ => h
theorem lc_tr {it : Env' → M (List D)} {is vs : List Nat} {g : D → Env' → Option Env'} {c : Env' → M Bool} {el : Env' → M D} (hsub : ∀ i ∈ is, i ∈ vs)
    (h : TN K fld W (sLcV it g c el vs) σ H Q) : tLc (TWk K fld W it) (TGd K is g) (TT' K fld WF c) (TS' K fld WF el) vs σ H Q := by
  obtain ⟨ρ, st, ca, he, hs, hp⟩ := h
  refine ⟨ρ, st, ca, he, hs, (Post.bind hp).mono fun ds st1 ca1 H1 t1 s1 q J wk => fun L hL => ?_⟩
  have q := Post.bind q
  have hn : L ∉ ca1 := s1.notnew hL
  have he1 := he.stp t1
  refine ⟨fun i m H' => m = ds.length - i ∧ i ≤ ds.length ∧ ∃ st' ca' acc ws, Stp ca1 ca' H1 H' ∧ SR K st' ca' H' ∧ H' L = some (.lst ws) ∧ L ∉ ca' ∧ RelDs K H' ca' acc ws ∧
    Post K fld W σ H1 ca1 (fun a st1 ca1 H1 => Post K fld W σ H1 ca1 (fun r _ ca' H' => ∀ v, RelRV K H H' ca' r v → Q v H') (M.pure (.fr a) st1)) (sLcN g c el (wipeE ρ vs) (ds.drop i) acc st'),
    ⟨_, rfl, Nat.zero_le _, st1, ca1, [], [], Stp.laid hL, s1.laid hL, upd_same, hn, rfl, q⟩, ?_⟩
  rintro i m H' ⟨rfl, hle, st', ca', acc, ws, t, s, hl, nl, ra, q⟩
  obtain ⟨w1, w2, w3⟩ := wk H' ca' t.fx
  by_cases hlt : i < ds.length
  · have ed : ds.drop i = ds[i] :: ds.drop (i + 1) := (List.getElem_cons_drop hlt).symm
    rw [ed] at q
    refine .inr ⟨w1 i hlt, fun H2 => ∃ st' ca' acc ws, Stp ca1 ca' H1 H2 ∧ SR K st' ca' H2 ∧ H2 L = some (.lst ws) ∧ L ∉ ca' ∧ RelDs K H2 ca' acc ws ∧
      Post K fld W σ H1 ca1 (fun a st1 ca1 H1 => Post K fld W σ H1 ca1 (fun r _ ca' H' => ∀ v, RelRV K H H' ca' r v → Q v H') (M.pure (.fr a) st1)) (sLcN g c el (wipeE ρ vs) (ds.drop (i + 1)) acc st'),
      fun H2 hx => ⟨ds.length - (i + 1), by omega, rfl, hlt, hx⟩, fun x H2 y => ?_⟩
    obtain ⟨d, hd, ly, rd⟩ := w3 i x H2 y hlt
    have e : ds[i] = d := by rw [List.getElem?_eq_getElem hlt] at hd; exact Option.some.inj hd
    rw [e] at q
    unfold sLcN at q
    have t2 : Stp ca' ca' H' H2 := ly.stp
    have s2 := ly.sr s
    have l2 := ly L _ hl
    have ra2 := ra.stp t2
    have tt := t.trans t2
    have he2 := (he1.stp tt).wipe vs
    cases hg : g d (wipeE ρ vs) with
    | none => rw [hg] at q; exact q.elim
    | some ρ1 =>
      rw [hg] at q
      dsimp only at q
      refine ⟨wipeE ρ vs, d, ca', ρ1, he2, rd, hg, fun σ1 b1 => ⟨(b1.wip vs hsub).trans (wipe_idem σ vs), ρ1, st', ca', b1.env, s2, ?_⟩⟩
      refine (Post.ne' (σ' := σ1) (H := H2) (ca := ca') q).mono fun b st3 ca3 H3 t3 s3 q4 => ?_
      have tt3 := tt.trans t3
      have l3 := t3.keep L _ l2 nl trivial
      have nl3 := t3.notin l2 nl
      have ra3 := ra2.stp t3
      cases b with
      | false => exact ⟨st3, ca3, acc, ws, tt3, s3, l3, nl3, ra3, q4⟩
      | true =>
        refine ⟨ρ1, st3, ca3, b1.env.stp t3, s3, (Post.ne' (σ' := σ1) (H := H3) (ca := ca3) q4).mono fun z st4 ca4 H4 t4 s4 q5 v hv => ?_⟩
        have l4 := t4.keep L _ l3 nl3 trivial
        have nl4 := t4.notin l3 nl3
        have ra4 := ra3.stp t4
        split at q5
        · rename_i hz
          have tw := (tt3.trans t4).wr (o := .lst (ws ++ [v])) hL
          have fw := fix_wr (o := .lst (ws ++ [v])) l4
          exact ⟨ws, l4, by rw [ra4.length]; exact hz, st4, ca4, acc ++ [z], ws ++ [v], tw, s4.wr l4 nl4, upd_same, nl4, RelDs.fixed fw (fun _ _ z => z) _ _ (ra4.snoc hv), q5⟩
        · exact q5.elim
  · have e : i = ds.length := by omega
    subst e
    rw [List.drop_length] at q
    refine .inl ⟨w2, ?_⟩
    have q2 : Post K fld W σ H' ca' (fun r _ ca' H' => ∀ v, RelRV K H H' ca' r v → Q v H') (M.pure (.fr acc) st') := (show ∀ ca2 H2, Stp ca1 ca2 H1 H2 → SR K st' ca2 H2 → _ from q) ca' H' t s
    exact Post.now q2 s _ ⟨L, ws, rfl, hl, t1.dom L hL, nl, ra⟩
variable {is : List Nat} {it : Env' → M (List D)} {g : D → Env' → Option Env'} {c : Env' → M Bool} {el : Env' → M D}
theorem se_lcV (hc : X.calm = true) (hN : X.N.Nodup) (hi : PI X tg iter (TWk K fld W it)) (ok : BlkOk X.N X.env.scope scope own) (hsub : ∀ i ∈ is, i ∈ own.map (·.2))
    (hg : ∀ s H C cl fp, PG (bX X scope s H C cl fp) tg (TGd K is g)) (ht : ∀ s H C cl fp, PTs (bX X scope s H C cl fp) ifs (TT' K fld WF c)) (he : ∀ s H C cl fp, PE (bX X scope s H C cl fp) elt (TS' K fld WF el))
    (hs : ∀ x, foldedSetIterable iter X.env x = pure x) : PE X (.ListComp elt [⟨tg, iter, ifs, 0⟩] scope pos) (TN K fld W (sLcV it g c el (own.map (·.2)))) :=
  PE.imp (pe_lc hc hN hi ok hg ht he hs) fun σ H Q h => lc_tr hsub h
theorem sp_nil : PTs X [] (TT' K fld W sYes) := by
  refine ⟨fun pins s σ H Q I ⟨ρ, st, ca, he, hs, hp⟩ => pts_nil.run pins s σ H Q I ?_⟩
  exact Post.now hp hs
theorem sp_one {e : Expr} (h : PT X e (TT' K fld W c)) : PTs X [e] (TT' K fld W c) := pts_one h
/-- name = [..] -/
theorem ss_setLcV {H0 : Hp} {ca0 : List Addr} {i : Nat} {y : Str} {py spos : Pos} (hc : X.calm = true) (hN : X.N.Nodup) (hy : X.N[i]? = some y) (hyl : X.env.scope.names.lookup y = some .local)
    (hsw : swapsWith (.ListComp elt [⟨tg, iter, ifs, 0⟩] scope pos) (some (.Name y py)) spos.line X.env = pure true) (hi : PI X tg iter (TWk K fld W it)) (ok : BlkOk X.N X.env.scope scope own) (hsub : ∀ i ∈ is, i ∈ own.map (·.2))
    (hg : ∀ s H C cl fp, PG (bX X scope s H C cl fp) tg (TGd K is g)) (ht : ∀ s H C cl fp, PTs (bX X scope s H C cl fp) ifs (TT' K fld WF c)) (he : ∀ s H C cl fp, PE (bX X scope s H C cl fp) elt (TS' K fld WF el))
    (hs : ∀ x, foldedSetIterable iter X.env x = pure x) : PS X (.Assign [.Name y py] (.ListComp elt [⟨tg, iter, ifs, 0⟩] scope pos) spos) (TSt K fld W H0 ca0 (sSet i (sLcV it g c el (own.map (·.2))))) := by
  refine PS.imp (ps_setLc hc hN hy hyl hsw hi ok hg ht he hs) fun D σ H ⟨ρ, st, ca, hf, hsr, hp⟩ => ?_
  show tLc _ _ _ _ _ σ H (fun v H1 => gName i v σ H1 D.nx)
  refine lc_tr hsub ⟨ρ, st, ca, hf.env, hsr, (PostS.then hf hp).mono fun r st1 ca1 H1 t1 s1 q v hv => ?_⟩
  obtain ⟨q1, q2⟩ := q
  cases hr : slot r with
  | none => rw [hr] at q2; exact q2.elim
  | some sv =>
    rw [hr] at q2
    exact q2 _ ca1 H1 Fx.refl (hf.store t1 hv hr) s1
end
end Ev
/-! What a loop goes over: a list or a tuple, enumerate, zip, range, reversed. -/
namespace Ev
open PySem PySem.Spec PyProof.Rows L2
variable [Tbs] [Hnd]

/-- a list (k) or a tuple -/
def SqB (k : Bool) (K : PySem.W.Frag) (H : Hp) (a : Addr) (xs : List V) : Prop := if k = true then SqL K H a xs else SqT K H a xs
def IsB (k : Bool) (h : Heap) (a : Addr) (its : Array Value) : Prop := if k = true then h.IsList a its else h.IsTuple a its
def ItB (k : Bool) (h : Heap) (it a : Addr) (i : Nat) : Prop := if k = true then h.IsListIter it a i else h.IsTupleIter it a i
section
variable {X : Cx} {pins : List (Addr × Obj)} {σ : L2.St} {H : Hp} {s : Shared} {a : Addr} {xs : List V} {k : Bool}
theorem Inv.seqB (I : Inv X pins σ H s) (h : SqB k X.K H a xs) : ∃ its : List Value, Vals xs its ∧ IsB k s.heap a its.toArray ∧ xs.length ≤ sizeLine := by
  cases k with
  | true => obtain ⟨its, r, p, z⟩ := I.list h; exact ⟨its, r, p.isList, z⟩
  | false => obtain ⟨its, r, p, z⟩ := I.tuple h; exact ⟨its, r, p, z⟩
theorem Inv.seqB_inj {ys : List V} (I : Inv X pins σ H s) (h : SqB k X.K H a xs) (g : SqB k X.K H a ys) : xs = ys := by
  cases k with
  | true => exact I.list_inj h g
  | false => exact I.tuple_inj h g
theorem drawsB {prog : Program} {w : World} {A : Around} (hh : A.handled = none) (k : Bool) (it l : Addr) (hne : l ≠ it) (items : Array Value) :
    Draws prog w A it [it, l] items.size (fun i v => items[i]? = some v) (fun i h => ItB k h it l i ∧ IsB k h l items) := by
  cases k with
  | true => exact Draws.list hh it l hne items
  | false => exact Draws.tuple hh it l hne items
theorem ItB.get {h : Heap} {it a : Addr} {i : Nat} (t : ItB k h it a i) : ∃ o, h.get? it = some o ∧ (o.cls = .type "list_iterator" ∨ o.cls = .type "tuple_iterator") ∧ ∃ vs, o.data = .fields vs := by
  cases k with
  | true => obtain ⟨o, e, c, d⟩ := t; exact ⟨o, e, .inl c, _, d⟩
  | false => obtain ⟨o, e, c, d⟩ := t; exact ⟨o, e, .inr c, _, d⟩
theorem IsB.get {h : Heap} {a : Addr} {its : Array Value} (t : IsB k h a its) : ∃ o, h.get? a = some o ∧ ∃ n, o.data = .seq its n := by
  cases k with
  | true => obtain ⟨o, e, c, n, d⟩ := t; exact ⟨o, e, n, d⟩
  | false => obtain ⟨o, e, c, n, d⟩ := t; exact ⟨o, e, n, d⟩
theorem ItB.at' {h h' : Heap} {it a : Addr} {i : Nat} (t : ItB k h it a i) (q : ∀ o, h.get? it = some o → h'.get? it = some o) : ItB k h' it a i := by
  cases k with
  | true => exact Heap.IsListIter.at t q
  | false => exact Heap.IsTupleIter.at t q
end
/-- the things at a, each in a new pair with its number -/
def ItnB (k : Bool) (K : PySem.W.Frag) (a : Addr) (lo : Int) : It :=
  ⟨fun i H => ∃ (xs : List V) (x : V), SqB k K H a xs ∧ xs[i]? = some x, fun i H v H' => ∃ T x, v = .ref T ∧ H T = none ∧ H' = upd H T (.tup [.int (lo + (i : Nat)), x]) ∧ ∀ xs, SqB k K H a xs → xs[i]? = some x, fun i H => ∃ xs : List V, SqB k K H a xs ∧ xs.length = i⟩
theorem turn_enB {P : Program} {w : World} {K : PySem.W.Frag} {elts : List Expr} {kk : Nat} {tpos : Pos} (k : Bool) (lo : Int) (a e it : Addr) :
    Turn P w K (.Tuple elts kk tpos) (ItnB k K a lo) [e, it] e (fun i h => (∃ prev, IsEnum h e it (lo + (i : Nat)) prev) ∧ ItB k h it a i ∧ e ≠ it) where
  mem := by simp
  obj := fun i h now b bm => by
    obtain ⟨⟨prev, hen⟩, hi, _⟩ := now
    obtain ⟨o, hout, calm, vs, hd⟩ := hi.get
    have eq1 : b = e ∨ b = it := by simpa using bm
    rcases eq1 with z | z
    · rw [z]; exact ⟨_, hen, fun v q => nomatch q⟩
    · rw [z]; exact ⟨o, hout, fun v q => by rw [hd] at q; cases q⟩
  keep := fun i h h' now k => let ⟨⟨prev, hen⟩, hi, nei⟩ := now; ⟨⟨prev, k e (by simp) _ hen⟩, hi.at' fun o q => k it (by simp) o q, nei⟩
  item := by
    intro X eP eW eK calm i pins s σ H E I fOk now gOk
    subst eP eW eK
    obtain ⟨⟨prev, hen⟩, hin, nei⟩ := now
    obtain ⟨xs, x, sq0, xat⟩ := gOk
    obtain ⟨us, rel, p, lenOk⟩ := Inv.seqB I sq0
    obtain ⟨u, uat, urel⟩ := rel.get xat
    have eLt : e < s.heap.objs.size := Heap.lt_size hen
    obtain ⟨oi, hoi, hci, vsi, hdi⟩ := hin.get
    obtain ⟨oa, hoa, na, hda⟩ := p.get
    have iLt : it < s.heap.objs.size := Heap.lt_size hoi
    have hae : a ≠ e := by
      rintro rfl
      have he' : s.heap.get? a = some _ := hen
      rw [he'] at hoa
      cases hoa
      cases hda
    have hai : a ≠ it := by
      rintro rfl
      rw [hoi] at hoa
      cases hoa
      rw [hdi] at hda
      cases hda
    have hlt : i < us.toArray.size := by
      have := (List.getElem?_eq_some_iff.mp uat).1
      simpa using this
    refine wpAny_pyNext_enum_itemC (fp := [it, a]) (drawsB (A := X.A.in1) (show X.A.in1.handled = none from I.ok.hd calm) k it a hai us.toArray) hen ⟨hin, p⟩ hlt nei (by simp only [List.mem_cons, List.not_mem_nil, or_false, not_or]; exact ⟨nei, fun z => hae z.symm⟩) fun y h' tk1 hy hout hst' tupAt szEq kp => ?_
    have hyu : y = u := by
      have hy : us[i]? = some y := by simpa using hy
      rw [uat] at hy
      exact (Option.some.inj hy).symm
    subst hyu
    refine ⟨_, rfl, wpAny_letOwnedTupleGo_enum (s := { s with heap := h', toks := tk1 + 1 }) hout fun h'' he' but => ?_⟩
    have tupAt2 : h''.get? s.heap.objs.size = some { cls := .type "tuple", data := .seq #[.int (lo + (i : Nat)) tk1, y] } := (but.2 _ (Nat.ne_of_gt eLt)).trans tupAt
    have fresh1 : ObjOk X.prog X.w (upd H s.heap.objs.size (.tup [.int (lo + (i : Nat)), x])) h'' s.heap.objs.size (.tup [.int (lo + (i : Nat)), x]) :=
      ⟨by show 2 ≤ sizeLine; decide, [.int (lo + (i : Nat)) tk1, y], .cons ⟨_, rfl⟩ (.cons urel .nil), ⟨_, tupAt2, rfl, _, rfl⟩⟩
    have J1 : Inv X pins σ (upd H s.heap.objs.size (.tup [.int (lo + (i : Nat)), x])) { s with heap := h'', toks := tk1 + 1 } :=
      I.turnedNew (ch := [e, it]) (fun b ob1 bm q => (but.2 b (fun z => bm (by simp [z]))).trans (kp b ob1 (fun z => bm (by simp [z])) (fun z => bm (by simp [z])) q)) fOk (Nat.le_refl _) fresh1
    refine ⟨.ref s.heap.objs.size, _, J1, rfl, ⟨_, x, rfl, I.hok.fresh (Nat.le_refl _), rfl, fun ys hy => by rw [Inv.seqB_inj I hy sq0]; exact xat⟩, ⟨⟨y, ?_⟩, hst'.1.at' fun o q => (but.2 it (Ne.symm nei)).trans q, nei⟩, fun b bm => ?_⟩
    · have e1 : lo + ((i + 1 : Nat) : Int) = lo + (i : Nat) + 1 := by omega
      rw [e1]; exact he'
    · have blt : b < s.heap.objs.size := by
        have eq1 : b = e ∨ b = it := by simpa using bm
        rcases eq1 with z | z
        · rw [z]; exact eLt
        · rw [z]; exact iLt
      rw [upd_ne (Nat.ne_of_lt blt)]
      exact (fOk b bm).1
  done := by
    intro X eP eW eK calm i pins s σ H E I fOk now gOk
    subst eP eW eK
    obtain ⟨⟨prev, hen⟩, hin, nei⟩ := now
    obtain ⟨xs, sq0, xat⟩ := gOk
    obtain ⟨us, rel, p, lenOk⟩ := Inv.seqB I sq0
    obtain ⟨g0, g1, g2, g3, g4, g5⟩ := fOk it (by simp)
    have lenE := rel.length
    obtain ⟨oi, hoi, hci, vsi, hdi⟩ := hin.get
    obtain ⟨oa, hoa, na, hda⟩ := p.get
    have hai : a ≠ it := by
      rintro rfl
      rw [hoi] at hoa
      cases hoa
      rw [hdi] at hda
      cases hda
    have en : i = us.toArray.size := by simp; omega
    subst en
    exact wpAny_pyNext_enum_endD (drawsB (A := X.A.in1) (show X.A.in1.handled = none from I.ok.hd calm) k it a hai us.toArray) hen ⟨hin, p⟩ fun h' but1 => ⟨rfl, I.turned (t' := s.toks) (fun b o bm q => but1 b o bm q) g0 g1 g3 g4 g5⟩
  self := fun A i s Q E now h => let ⟨⟨_, hen⟩, _⟩ := now; wpAny_pyIter_enum hen h

/-! ### creation -/
section
variable {M : Model} {A : Around} {E : Value → Shared → Prop} {s : Shared} {env : Env}
theorem callWith_typeK {pos : Pos} {T : String} {args : List (Bool × Sem Value)} {keywords : List (Option Str × Sem Value)} {Q : Value → Shared → Prop}
    (noStar : args.any (·.1) = false) (noKw : keywords.any (·.1.isNone) = false) (h : wpAny M A (evalArgs (.type T) true args keywords) (fun a sB => wpAny M A (call (.type T) a.pos a.kw) Q E sB) E s) :
    wpAny M A (callWith pos (.type T) [] args keywords) Q E s := by
  unfold callWith
  refine wpAny_bind (wpAny_holding (wpAny_mono h (fun a sB h1 => wpAny_bind (wpAny_standAt ?_)) fun _ _ x => x))
  simp only [noStar, noKw, Bool.or_false]
  refine wpAny_bind (wpAny_pure ?_)
  exact wpAny_bind (wpAny_mono h1 (fun r s2 hr => wpAny_bind (wpAny_holding (wpAny_point (wpAny_pure hr)))) fun _ _ x => x)
theorem beginsB (k : Bool) (a : Addr) (us : Array Value) : ∃ o, Begins (.ref a) o (fun h => IsB k h a us) ∧ ∀ h it, h.get? it = some o → ItB k h it a 0 := by
  cases k with
  | true => exact ⟨_, begins_list a us, fun h it e => ⟨_, e, rfl, rfl⟩⟩
  | false => exact ⟨_, begins_tuple a us, fun h it e => ⟨_, e, rfl, rfl⟩⟩
end
section
variable {X : Cx} {tg : Expr}
def iSeqB (K : PySem.W.Frag) (tl : TE) : TI := fun σ H R => tl σ H fun x H1 => ∃ a k xs, x = .ref a ∧ SqB k K H1 a xs ∧ R (if k = true then Itl K a else Itt K a) H1
theorem pi_seqB {l : Expr} {tl : TE} (hL : PE X l tl) : PI X tg l (iSeqB X.K tl) := by
  refine ⟨fun pn s σ H R I h => ?_⟩
  refine thn (hL.run pn s σ H _ I h) fun v sB ⟨x, H1, J1, rel1, fin1⟩ => ?_
  obtain ⟨a, k, xs, e, sq0, q⟩ := fin1
  subst e
  cases rel1
  have fo : ∀ b ∈ [sB.heap.objs.size], FpOk X pn H1 b := fun b bm => by
    have e : b = sB.heap.objs.size := by simpa using bm
    subst e
    exact J1.fpOk (Nat.le_refl _) (J1.hok.fresh (Nat.le_refl _))
  cases k with
  | true =>
    obtain ⟨us, rel, p, lenOk⟩ := J1.list sq0
    refine wpAny_pyIter_list p.isList ?_
    exact ⟨sB.heap.objs.size, [sB.heap.objs.size], _, _, H1, rfl, J1.kept (t' := sB.toks) fun b o e => Heap.get?_push_of_some _ e, turn_list a _, ⟨_, Heap.get?_push_size _ rfl, rfl, rfl⟩, fo, q⟩
  | false =>
    obtain ⟨us, rel, p, lenOk⟩ := J1.tuple sq0
    refine wpAny_pyIter_tuple (show sB.heap.IsTuple a us.toArray from p) ?_
    exact ⟨sB.heap.objs.size, [sB.heap.objs.size], _, _, H1, rfl, J1.kept (t' := sB.toks) fun b o e => Heap.get?_push_of_some _ e, turn_tuple a _, ⟨_, Heap.get?_push_size _ rfl, rfl, rfl⟩, fo, q⟩
/-- enumerate(e, start=j) -/
def iEnB (K : PySem.W.Frag) (j : Int) (ta : TA) : TI := fun σ H R => ta σ H fun vs H1 => ∃ a k xs, vs = [.ref a] ∧ SqB k K H1 a xs ∧ R (ItnB k K a j) H1
theorem en_made {pn : List (Addr × Obj)} {σ : L2.St} {H1 : Hp} {sB : Shared} {R : It → Hp → Prop} {elts : List Expr} {kk : Nat} {tpos : Pos} {k : Bool} {a : Addr} {j : Int} (J1 : Inv X pn σ H1 sB) (q : R (ItnB k X.K a j) H1) {h' : Heap} {o : Obj}
    (he : IsEnum h' (sB.heap.objs.size + 1) sB.heap.objs.size j .none) (hit : ItB k h' sB.heap.objs.size a 0) (kp : ∀ b o, sB.heap.get? b = some o → h'.get? b = some o) :
    PIE X pn σ (.Tuple elts kk tpos) R (.ref (sB.heap.objs.size + 1)) { sB with heap := h' } := by
  have J2 : Inv X pn σ H1 { sB with heap := h' } := J1.kept (t' := sB.toks) kp
  refine ⟨sB.heap.objs.size + 1, [sB.heap.objs.size + 1, sB.heap.objs.size], _, _, H1, rfl, J2, turn_enB k j a (sB.heap.objs.size + 1) sB.heap.objs.size, ⟨⟨.none, by simpa using he⟩, hit, Nat.succ_ne_self _⟩, fun b bm => ?_, q⟩
  have eq1 : b = sB.heap.objs.size + 1 ∨ b = sB.heap.objs.size := by simpa using bm
  have oLe : sB.heap.objs.size ≤ b := by
    rcases eq1 with z | z
    · rw [z]; exact Nat.le_add_right _ _
    · rw [z]; exact Nat.le_refl _
  exact J1.fpOk oLe (J1.hok.fresh oLe)
theorem pi_enKw {e : Expr} {ta : TA} {p pos tpos jp kp : Pos} {elts : List Expr} {kk : Nat} {j : Int} {jk : Nat} (hg : Gl X "enumerate") (hm : X.mg "enumerate" = none) (ha : PA X [e] ta) (hs : starEach [e] X.env = [(false, eval e X.env)]) (hj : -(2 ^ 62) ≤ j) (hj2 : j < 2 ^ 62) :
    PI X (.Tuple elts kk tpos) (.Call (.Name "enumerate" p) [e] [⟨some "start", .Constant (.int j) jk jp, kp⟩] pos) (iEnB X.K j ta) := by
  refine ⟨fun pn s σ H R I h => ?_⟩
  refine wpAny_Call_Name_kw (ld_blt I hg hm boot_enumerate (callWith_typeK (by rw [hs]; rfl) rfl ?_))
  have h0 := ha.run pos pn s σ H _ I h
  rw [hs] at h0 ⊢
  refine evalArgs_kwB rfl (thn h0 fun us sB ⟨vs, H1, J1, rel1, a, k, xs, ex, sq0, q⟩ => ?_)
  subst ex
  cases rel1 with
  | cons r rr =>
    cases rr
    cases r
    refine kws_cons (wpAny_Constant_int (kws_nil ?_))
    have J2 : Inv X pn σ H1 { sB with toks := sB.toks + 1 } := J1.tok _
    obtain ⟨us, rel, p', lenOk⟩ := Inv.seqB J2 sq0
    obtain ⟨o, B, hB⟩ := beginsB k a us.toArray
    refine enum_begins_start B p' (by omega) (by omega) fun h' he ho hsz kp => wpAny_pyIter_enum he ?_
    exact en_made (o := o) J2 q he (hB _ _ ho) kp
end

/-! ### as plain data -/
def itS (f : Env' → M D) : Env' → M (List D) := fun ρ => M.bind (f ρ) fun d => match d with
  | .lst ds => M.pure ds
  | .tup ds => M.pure ds
  | _ => M.bad
def enD (lo : Int) : List D → List D
  | [] => []
  | d :: ds => .tup [.int lo, d] :: enD (lo + 1) ds
def itEn (lo : Int) (g : Env' → M (List D)) : Env' → M (List D) := fun ρ => M.bind (g ρ) fun as => match as with
  | [.lst ds] => M.pure (enD lo ds)
  | [.tup ds] => M.pure (enD lo ds)
  | _ => M.bad
def zipD : List D → List D → List D
  | d :: ds, e :: es => .tup [d, e] :: zipD ds es
  | _, _ => []
def itZip (g : Env' → M (List D)) : Env' → M (List D) := fun ρ => M.bind (g ρ) fun as => match as with
  | [.lst ds, .lst es] => M.pure (zipD ds es)
  | [.tup ds, .tup es] => M.pure (zipD ds es)
  | _ => M.bad
def rngD (lo : Int) (n : Nat) : List D := (List.range n).map fun (i : Nat) => .int (lo + i)
def rngDn (lo : Int) (n : Nat) : List D := (List.range n).map fun (i : Nat) => .int (lo - i)
def bnd (i : Int) : Bool := decide (-(2 ^ 62) ≤ i) && decide (i < 2 ^ 62)
theorem bnd_of {i : Int} (h : bnd i = true) : -(2 ^ 62) ≤ i ∧ i < 2 ^ 62 := by simpa [bnd] using h
def itR1 (g : Env' → M (List D)) : Env' → M (List D) := fun ρ => M.bind (g ρ) fun as => match as with
  | [.int j] => if bnd j = true then M.pure (rngD 0 j.toNat) else M.bad
  | _ => M.bad
def itR2 (g : Env' → M (List D)) : Env' → M (List D) := fun ρ => M.bind (g ρ) fun as => match as with
  | [.int i, .int j] => if (bnd i && bnd j) = true then M.pure (rngD i (j - i).toNat) else M.bad
  | _ => M.bad
def itR3 (g : Env' → M (List D)) : Env' → M (List D) := fun ρ => M.bind (g ρ) fun as => match as with
  | [.int i, .int j, .int c] => if (bnd i && bnd j && c == -1) = true then M.pure (rngDn i (i - j).toNat) else M.bad
  | _ => M.bad
def itRev (f : Env' → M D) : Env' → M (List D) := fun ρ => M.bind (f ρ) fun d => match d with
  | .lst ds => M.pure ds.reverse
  | .tup ds => M.pure ds.reverse
  | _ => M.bad
theorem enD_get : ∀ (ds : List D) (lo : Int) (i : Nat) (d : D), ds[i]? = some d → (enD lo ds)[i]? = some (.tup [.int (lo + i), d])
  | [], _, _, _, h => by simp at h
  | _ :: ds, lo, 0, d, h => by
    simp at h
    subst h
    simp [enD]
  | _ :: ds, lo, i + 1, d, h => by
    have := enD_get ds (lo + 1) i d (by simpa using h)
    have e : lo + ((i + 1 : Nat) : Int) = lo + 1 + (i : Nat) := by omega
    rw [e]
    simpa [enD] using this
theorem enD_length : ∀ (ds : List D) (lo : Int), (enD lo ds).length = ds.length
  | [], _ => rfl
  | _ :: ds, lo => congrArg Nat.succ (enD_length ds (lo + 1))
theorem zipD_get : ∀ (ds es : List D) (i : Nat) (d e : D), ds[i]? = some d → es[i]? = some e → (zipD ds es)[i]? = some (.tup [d, e])
  | [], _, _, _, _, h, _ => by simp at h
  | _ :: _, [], _, _, _, _, h => by simp at h
  | _ :: _, _ :: _, 0, _, _, h, h2 => by
    simp at h h2
    subst h h2
    rfl
  | _ :: ds, _ :: es, i + 1, d, e, h, h2 => by
    simpa [zipD] using zipD_get ds es i d e (by simpa using h) (by simpa using h2)
theorem zipD_length : ∀ (ds es : List D), (zipD ds es).length = min ds.length es.length
  | [], _ => by simp [zipD]
  | _ :: _, [] => by simp [zipD]
  | _ :: ds, _ :: es => by simp [zipD, zipD_length ds es] <;> omega

section
variable {K : PySem.W.Frag} {H H1 : Hp} {ca ca1 : List Addr} {a b : Addr} {ds es : List D}
theorem wk_seq {k : Bool} (h : ∀ H1 ca1, Fx H ca H1 ca1 → ∃ vs, SqB k K H1 a vs ∧ RelDs K H1 ca1 ds vs) : Wk K (if k = true then Itl K a else Itt K a) ds H ca := by
  intro H1 ca1 f
  obtain ⟨vs, q, r⟩ := h H1 ca1 f
  have hl := r.length
  cases k with
  | true =>
    refine ⟨fun i hi => ?_, ⟨vs, q, by omega⟩, fun i x H2 y hi => ?_⟩
    · obtain ⟨v, hv, _⟩ := r.get (List.getElem?_eq_getElem hi)
      exact ⟨vs, v, q, hv⟩
    · obtain ⟨rfl, y⟩ := y
      obtain ⟨v, hv, rv⟩ := r.get (List.getElem?_eq_getElem hi)
      have e : v = x := Option.some.inj (hv.symm.trans (y vs q))
      subst e
      exact ⟨_, List.getElem?_eq_getElem hi, Lay.refl, rv⟩
  | false =>
    refine ⟨fun i hi => ?_, ⟨vs, q, by omega⟩, fun i x H2 y hi => ?_⟩
    · obtain ⟨v, hv, _⟩ := r.get (List.getElem?_eq_getElem hi)
      exact ⟨vs, v, q, hv⟩
    · obtain ⟨rfl, y⟩ := y
      obtain ⟨v, hv, rv⟩ := r.get (List.getElem?_eq_getElem hi)
      have e : v = x := Option.some.inj (hv.symm.trans (y vs q))
      subst e
      exact ⟨_, List.getElem?_eq_getElem hi, Lay.refl, rv⟩
theorem wk_enB {k : Bool} {lo : Int} (h : ∀ H1 ca1, Fx H ca H1 ca1 → ∃ vs, SqB k K H1 a vs ∧ RelDs K H1 ca1 ds vs) : Wk K (ItnB k K a lo) (enD lo ds) H ca := by
  intro H1 ca1 f
  obtain ⟨vs, q, r⟩ := h H1 ca1 f
  have hl := r.length
  rw [enD_length]
  refine ⟨fun i hi => ?_, ⟨vs, q, hl⟩, fun i x H2 y hi => ?_⟩
  · obtain ⟨v, hv, _⟩ := r.get (List.getElem?_eq_getElem hi)
    exact ⟨vs, v, q, hv⟩
  · obtain ⟨T, z, rfl, hT, rfl, y⟩ := y
    obtain ⟨v, hv, rv⟩ := r.get (List.getElem?_eq_getElem hi)
    have e : v = z := Option.some.inj (hv.symm.trans (y vs q))
    subst e
    have t := Stp.laid (ca := ca1) (o := .tup [.int (lo + (i : Nat)), v]) hT
    exact ⟨_, enD_get ds lo i _ (List.getElem?_eq_getElem hi), Lay.upd hT, T, _, rfl, SqT.of upd_same, _, _, rfl, rfl, _, _, rfl, rv.stp t, rfl⟩
theorem wk_zip (h : ∀ H1 ca1, Fx H ca H1 ca1 → ∃ vs ws, SqL K H1 a vs ∧ SqL K H1 b ws ∧ RelDs K H1 ca1 ds vs ∧ RelDs K H1 ca1 es ws) : Wk K (Itz K a b) (zipD ds es) H ca := by
  intro H1 ca1 f
  obtain ⟨vs, ws, q, p, r, s⟩ := h H1 ca1 f
  have hl := r.length
  have hl2 := s.length
  rw [zipD_length]
  refine ⟨fun i hi => ?_, ⟨vs, ws, q, p, by omega⟩, fun i x H2 y hi => ?_⟩
  · obtain ⟨v, hv, _⟩ := r.get (List.getElem?_eq_getElem (show i < ds.length by omega))
    obtain ⟨w, hw, _⟩ := s.get (List.getElem?_eq_getElem (show i < es.length by omega))
    exact ⟨vs, ws, v, w, q, p, hv, hw⟩
  · obtain ⟨T, z, u, rfl, hT, rfl, y, y2⟩ := y
    obtain ⟨v, hv, rv⟩ := r.get (List.getElem?_eq_getElem (show i < ds.length by omega))
    obtain ⟨w, hw, rw'⟩ := s.get (List.getElem?_eq_getElem (show i < es.length by omega))
    have e : v = z := Option.some.inj (hv.symm.trans (y vs q))
    have e2 : w = u := Option.some.inj (hw.symm.trans (y2 ws p))
    subst e e2
    have t := Stp.laid (ca := ca1) (o := .tup [v, w]) hT
    exact ⟨_, zipD_get ds es i _ _ (List.getElem?_eq_getElem (show i < ds.length by omega)) (List.getElem?_eq_getElem (show i < es.length by omega)), Lay.upd hT, T, _, rfl, SqT.of upd_same, _, _, rfl, rv.stp t, _, _, rfl, rw'.stp t, rfl⟩
theorem wk_zipT (h : ∀ H1 ca1, Fx H ca H1 ca1 → ∃ vs ws, SqT K H1 a vs ∧ SqT K H1 b ws ∧ RelDs K H1 ca1 ds vs ∧ RelDs K H1 ca1 es ws) : Wk K (RZ.ItzT K a b) (zipD ds es) H ca := by
  intro H1 ca1 f
  obtain ⟨vs, ws, q, p, r, s⟩ := h H1 ca1 f
  have hl := r.length
  have hl2 := s.length
  rw [zipD_length]
  refine ⟨fun i hi => ?_, ⟨vs, ws, q, p, by omega⟩, fun i x H2 y hi => ?_⟩
  · obtain ⟨v, hv, _⟩ := r.get (List.getElem?_eq_getElem (show i < ds.length by omega))
    obtain ⟨w, hw, _⟩ := s.get (List.getElem?_eq_getElem (show i < es.length by omega))
    exact ⟨vs, ws, v, w, q, p, hv, hw⟩
  · obtain ⟨T, z, u, rfl, hT, rfl, y, y2⟩ := y
    obtain ⟨v, hv, rv⟩ := r.get (List.getElem?_eq_getElem (show i < ds.length by omega))
    obtain ⟨w, hw, rw'⟩ := s.get (List.getElem?_eq_getElem (show i < es.length by omega))
    have e : v = z := Option.some.inj (hv.symm.trans (y vs q))
    have e2 : w = u := Option.some.inj (hw.symm.trans (y2 ws p))
    subst e e2
    have t := Stp.laid (ca := ca1) (o := .tup [v, w]) hT
    exact ⟨_, zipD_get ds es i _ _ (List.getElem?_eq_getElem (show i < ds.length by omega)) (List.getElem?_eq_getElem (show i < es.length by omega)), Lay.upd hT, T, _, rfl, SqT.of upd_same, _, _, rfl, rv.stp t, _, _, rfl, rw'.stp t, rfl⟩
theorem wk_rng {lo : Int} {n : Nat} : Wk K (Itr lo n) (rngD lo n) H ca := by
  intro H1 ca1 f
  have e : (rngD lo n).length = n := by simp [rngD]
  rw [e]
  exact ⟨fun i hi => hi, Nat.le_refl _, fun i x H2 y hi => by
    obtain ⟨rfl, rfl⟩ := y
    exact ⟨.int (lo + (i : Nat)), by simp only [rngD, List.getElem?_map]; rw [List.getElem?_range hi]; rfl, Lay.refl, rfl⟩⟩
theorem wk_rngD {lo : Int} {n : Nat} : Wk K (Itc lo (-1) n) (rngDn lo n) H ca := by
  intro H1 ca1 f
  have e : (rngDn lo n).length = n := by simp [rngDn]
  rw [e]
  exact ⟨fun i hi => hi, Nat.le_refl _, fun i x H2 y hi => by
    obtain ⟨rfl, rfl⟩ := y
    refine ⟨.int (lo - (i : Nat)), by simp only [rngDn, List.getElem?_map]; rw [List.getElem?_range hi]; rfl, Lay.refl, ?_⟩
    show V.int _ = V.int _
    congr 1
    omega⟩
end
section
variable {X : Cx} {fld : Str → List Str} {W : WX} {tg e e2 : Expr} {p pos tpos : Pos} {elts : List Expr} {kk : Nat}
theorem RelD.sq {K : PySem.W.Frag} {H : Hp} {ca : List Addr} {ds : List D} {v : V} (h : RelD K H ca (.lst ds) v ∨ RelD K H ca (.tup ds) v) : ∃ a k, v = .ref a ∧ ∀ H1 ca1, Fx H ca H1 ca1 → ∃ vs, SqB k K H1 a vs ∧ RelDs K H1 ca1 ds vs := by
  rcases h with h | h
  · obtain ⟨a, vs, e, q, r⟩ := h
    exact ⟨a, true, e, fun H1 ca1 f => ⟨vs, (FzL.fixed f.fix q).sq, RelDs.fixed f.fix f.sub _ _ r⟩⟩
  · obtain ⟨a, vs, e, q, r⟩ := h
    exact ⟨a, false, e, fun H1 ca1 f => ⟨vs, SqT.fixed f.fix q, RelDs.fixed f.fix f.sub _ _ r⟩⟩
theorem si_seq {f : Env' → M D} (h : PE X e (TS' X.K fld W f)) : PI X tg e (TWk X.K fld W (itS f)) := by
  refine PI.imp (pi_seqB h) fun σ H R ⟨ρ, st, ca, he, hs, hp⟩ => ⟨ρ, st, ca, he, hs, (Post.bind hp).mono fun d st1 ca1 H1 t1 s1 q v hv => ?_⟩
  cases d with
  | lst ds =>
    have q := Post.now q s1
    obtain ⟨a, k, rfl, f⟩ := RelD.sq (.inl hv)
    obtain ⟨vs, q1, _⟩ := f H1 ca1 Fx.refl
    exact ⟨a, k, vs, rfl, q1, q _ (wk_seq f)⟩
  | tup ds =>
    have q := Post.now q s1
    obtain ⟨a, k, rfl, f⟩ := RelD.sq (.inr hv)
    obtain ⟨vs, q1, _⟩ := f H1 ca1 Fx.refl
    exact ⟨a, k, vs, rfl, q1, q _ (wk_seq f)⟩
  | _ => exact q.elim
theorem si_en {j : Int} {jk : Nat} {jp kp : Pos} {g : Env' → M (List D)} (hg : Gl X "enumerate") (hm : X.mg "enumerate" = none) (ha : PA X [e] (TAs X.K fld W g)) (hs : starEach [e] X.env = [(false, eval e X.env)]) (hj : bnd j = true) :
    PI X (.Tuple elts kk tpos) (.Call (.Name "enumerate" p) [e] [⟨some "start", .Constant (.int j) jk jp, kp⟩] pos) (TWk X.K fld W (itEn j g)) := by
  refine PI.imp (pi_enKw hg hm ha hs (bnd_of hj).1 (bnd_of hj).2) fun σ H R ⟨ρ, st, ca, he, hs, hp⟩ => ⟨ρ, st, ca, he, hs, (Post.bind hp).mono fun as st1 ca1 H1 t1 s1 q vs hv => ?_⟩
  split at q
  · obtain ⟨v, r, rfl, hv, rfl⟩ := hv
    have q := Post.now q s1
    obtain ⟨a, k, rfl, f⟩ := RelD.sq (.inl hv)
    obtain ⟨vs, q1, _⟩ := f H1 ca1 Fx.refl
    exact ⟨a, k, vs, rfl, q1, q _ (wk_enB f)⟩
  · obtain ⟨v, r, rfl, hv, rfl⟩ := hv
    have q := Post.now q s1
    obtain ⟨a, k, rfl, f⟩ := RelD.sq (.inr hv)
    obtain ⟨vs, q1, _⟩ := f H1 ca1 Fx.refl
    exact ⟨a, k, vs, rfl, q1, q _ (wk_enB f)⟩
  · exact q.elim
theorem si_zip {g : Env' → M (List D)} (hg : Gl X "zip") (hm : X.mg "zip" = none) (ha : PA X [e, e2] (TAs X.K fld W g)) (hs : starEach [e, e2] X.env = (false, eval e X.env) :: starEach [e2] X.env) (hpl : (backTo pos (starEach [e2] X.env)).any (·.1) = false) :
    PI X (.Tuple elts kk tpos) (.Call (.Name "zip" p) [e, e2] [] pos) (TWk X.K fld W (itZip g)) := by
  refine PI.imp (RZ.pi_zipA hg hm ha hs hpl) fun σ H R ⟨ρ, st, ca, he, hs, hp⟩ => ⟨ρ, st, ca, he, hs, (Post.bind hp).mono fun as st1 ca1 H1 t1 s1 q vs hv => ?_⟩
  split at q
  · obtain ⟨v, r, rfl, hv, w, r2, rfl, hw, rfl⟩ := hv
    have q := Post.now q s1
    obtain ⟨a, xs, rfl, q1, r1⟩ := hv
    obtain ⟨b, ys, rfl, q2, r2⟩ := hw
    exact ⟨a, b, xs, ys, rfl, .inl ⟨q1.sq, q2.sq, q _ (wk_zip fun H2 ca2 f => ⟨xs, ys, (FzL.fixed f.fix q1).sq, (FzL.fixed f.fix q2).sq, RelDs.fixed f.fix f.sub _ _ r1, RelDs.fixed f.fix f.sub _ _ r2⟩)⟩⟩
  · obtain ⟨v, r, rfl, hv, w, r2, rfl, hw, rfl⟩ := hv
    have q := Post.now q s1
    obtain ⟨a, xs, rfl, q1, r1⟩ := hv
    obtain ⟨b, ys, rfl, q2, r2⟩ := hw
    exact ⟨a, b, xs, ys, rfl, .inr ⟨q1, q2, q _ (wk_zipT fun H2 ca2 f => ⟨xs, ys, SqT.fixed f.fix q1, SqT.fixed f.fix q2, RelDs.fixed f.fix f.sub _ _ r1, RelDs.fixed f.fix f.sub _ _ r2⟩)⟩⟩
  · exact q.elim
theorem si_r1 {a : Expr} {g : Env' → M (List D)} (hg : Gl X "range") (hm : X.mg "range" = none) (ha : PA X [a] (TAs X.K fld W g)) (hs : starEach [a] X.env = [(false, eval a X.env)]) :
    PI X tg (.Call (.Name "range" p) [a] [] pos) (TWk X.K fld W (itR1 g)) := by
  refine PI.imp (pi_range1 hg hm ha hs) fun σ H R ⟨ρ, st, ca, he, hs, hp⟩ => ⟨ρ, st, ca, he, hs, (Post.bind hp).mono fun as st1 ca1 H1 t1 s1 q vs hv => ?_⟩
  split at q
  · split at q
    · rename_i hb
      obtain ⟨v, r, rfl, rfl, rfl⟩ := hv
      exact ⟨_, rfl, (bnd_of hb).1, (bnd_of hb).2, Post.now q s1 _ wk_rng⟩
    · exact q.elim
  · exact q.elim
theorem si_r2 {a b : Expr} {g : Env' → M (List D)} (hg : Gl X "range") (hm : X.mg "range" = none) (ha : PA X [a, b] (TAs X.K fld W g)) (hs : starEach [a, b] X.env = [(false, eval a X.env), (false, eval b X.env)]) (hs2 : starEach [b] X.env = [(false, eval b X.env)]) :
    PI X tg (.Call (.Name "range" p) [a, b] [] pos) (TWk X.K fld W (itR2 g)) := by
  refine PI.imp (pi_range2 hg hm ha hs hs2) fun σ H R ⟨ρ, st, ca, he, hs, hp⟩ => ⟨ρ, st, ca, he, hs, (Post.bind hp).mono fun as st1 ca1 H1 t1 s1 q vs hv => ?_⟩
  split at q
  · split at q
    · rename_i hb
      rw [Bool.and_eq_true] at hb
      obtain ⟨v, r, rfl, rfl, w, r2, rfl, rfl, rfl⟩ := hv
      exact ⟨_, _, rfl, ⟨(bnd_of hb.1).1, (bnd_of hb.1).2, (bnd_of hb.2).1, (bnd_of hb.2).2⟩, Post.now q s1 _ wk_rng⟩
    · exact q.elim
  · exact q.elim
theorem si_r3 {a b c : Expr} {g : Env' → M (List D)} (hg : Gl X "range") (hm : X.mg "range" = none) (ha : PA X [a, b, c] (TAs X.K fld W g)) (hs : starEach [a, b, c] X.env = (false, eval a X.env) :: starEach [b, c] X.env) (hpl : (backTo pos (starEach [b, c] X.env)).any (·.1) = false) :
    PI X tg (.Call (.Name "range" p) [a, b, c] [] pos) (TWk X.K fld W (itR3 g)) := by
  refine PI.imp (pi_range3 hg hm ha hs hpl) fun σ H R ⟨ρ, st, ca, he, hs, hp⟩ => ⟨ρ, st, ca, he, hs, (Post.bind hp).mono fun as st1 ca1 H1 t1 s1 q vs hv => ?_⟩
  split at q
  · split at q
    · rename_i hb
      rw [Bool.and_eq_true, Bool.and_eq_true] at hb
      obtain ⟨⟨h1, h2⟩, h3⟩ := hb
      have h3 := eq_of_beq h3
      subst h3
      obtain ⟨v, r, rfl, rfl, w, r2, rfl, rfl, u, r3, rfl, rfl, rfl⟩ := hv
      exact ⟨_, _, _, _, rfl, RgC.neg (bnd_of h1).1 (bnd_of h1).2 (bnd_of h2).1 (bnd_of h2).2, Post.now q s1 _ wk_rngD⟩
    · exact q.elim
  · exact q.elim
end
end Ev
/-! Writes: own lists, cells. -/
namespace Ev
open PySem PySem.Spec PyProof.Rows L2
variable [Tbs] [Hnd]

section
variable {K : PySem.W.Frag} {st : Store} {H H0 : Hp} {ca ca0 : List Addr} {ρ : Env'} {σ : L2.St} {a : Addr}
theorem fix_wr' {u o : HO} (hp : H a = some u) (hu : ¬ Fix u) : ∀ b v, H b = some v → Fix v → upd H a o b = some v := fun b v e f => by
  rw [upd_ne]
  · exact e
  · rintro rfl
    rw [hp] at e; cases e; exact hu f
theorem stp_wr {u o : HO} (hp : H a = some u) (hu : ¬ Fix u) (hm : a ∈ ca) : Stp ca ca H (upd H a o) :=
  ⟨⟨[], by simp, fun a h => nomatch h⟩, fix_wr' hp hu, fun b v e n f => by rw [upd_ne]; exact e; rintro rfl; exact n hm, fun b e => by
    by_cases z : b = a
    · rw [z, upd_same] at e; cases e
    · rw [upd_ne z] at e; exact e⟩
/-- a cell is written -/
theorem SR.set {k : Nat} {u o : HO} {c' : Cell} (s : SR K st ca H) (e2 : ca[k]? = some a) (hp : H a = some u) (hu : ¬ Fix u) (hu1 : ∀ ps, u ≠ .tbl ps) (hu2 : ∀ f, u ≠ .ext f) (hc : CellR K (upd H a o) ca c' a) : SR K (st.set k c') ca (upd H a o) := by
  have f := fix_wr' (o := o) hp hu
  refine ⟨by rw [List.length_set]; exact s.len, s.nd, fun i c b e1 e3 => ?_, tabs_upd hp hu1 hu2 s.tabs⟩
  by_cases hi : k = i
  · subst hi
    have e : b = a := by rw [e2] at e3; exact (Option.some.inj e3).symm
    subst e
    rw [List.getElem?_set] at e1
    simp only [if_true] at e1
    split at e1
    · cases e1; exact hc
    · cases e1
  · rw [List.getElem?_set_ne hi] at e1
    have q := s.cell i c b e1 e3
    have ne : b ≠ a := by
      rintro rfl
      have h1 := (List.getElem?_eq_some_iff.mp e2)
      have h2 := (List.getElem?_eq_some_iff.mp e3)
      obtain ⟨l1, h1⟩ := h1
      obtain ⟨l2, h2⟩ := h2
      exact hi ((List.getElem_inj s.nd).mp (h1.trans h2.symm))
    cases c with
    | lst ds => obtain ⟨ws, e, r⟩ := q; exact ⟨ws, by rw [upd_ne ne]; exact e, RelDs.fixed f (fun _ _ z => z) _ _ r⟩
    | dct kvs => obtain ⟨ws, e, r⟩ := q; exact ⟨ws, by rw [upd_ne ne]; exact e, KvR.fixed f (fun _ _ z => z) r⟩
/-- the frame's own list is written -/
theorem FrR.ownWr {i : Nat} {ds ds' : List D} {vs vs' : List V} (h : FrR K H0 ca0 H ca ρ σ) (s : SR K st ca H) (e : ρ[i]? = some (.own ds)) (ei : σ[i]? = some (some (.ref a))) (ha : H a = some (.lst vs)) (n : a ∉ ca) (r : RelDs K H ca ds' vs') :
    FrR K H0 ca0 (upd H a (.lst vs')) ca (ρ.set i (.own ds')) σ ∧ SR K st ca (upd H a (.lst vs')) ∧ Fx H ca (upd H a (.lst vs')) ca := by
  have f0 := fix_wr' (o := .lst vs') ha (fun z => z)
  have g0 : ∀ (k : Nat) (x : Addr), ca[k]? = some x → ca[k]? = some x := fun _ _ z => z
  have hnew : H0 a = none := h.fresh i ds a e ei
  have il : i < ρ.length := (List.getElem?_eq_some_iff.mp e).1
  have own : ∀ (j : Nat) (es : List D), (ρ.set i (.own ds'))[j]? = some (.own es) → ∃ fs, ρ[j]? = some (.own fs) := fun j es q => by
    by_cases hj : i = j
    · subst hj; exact ⟨_, e⟩
    · rw [List.getElem?_set_ne hj] at q; exact ⟨_, q⟩
  refine ⟨⟨⟨by simp [h.env.len], fun j sv q => ?_, fun j k es fs b hjk e2 e3 e4 => ?_⟩, h.stp.wr hnew, fun j es b e2 e3 => ?_⟩, s.wr ha n, ⟨f0, g0⟩⟩
  · by_cases hj : i = j
    · subst hj
      rw [List.getElem?_set_self il] at q
      cases q
      exact ⟨_, ei, a, vs', rfl, upd_same, n, RelDs.fixed f0 g0 _ _ r⟩
    · rw [List.getElem?_set_ne hj] at q
      obtain ⟨o2, h2, r2⟩ := h.env.at_ j sv q
      refine ⟨o2, h2, ?_⟩
      cases sv with
      | un => trivial
      | val d => obtain ⟨v, e5, q⟩ := r2; exact ⟨v, e5, RelD.fixed f0 g0 _ _ q⟩
      | own es =>
        obtain ⟨b, ws, e5, q5, n2, r3⟩ := r2
        refine ⟨b, ws, e5, ?_, n2, RelDs.fixed f0 g0 _ _ r3⟩
        rw [upd_ne]
        · exact q5
        · rintro rfl
          exact h.env.sep i j ds es b hj e q ei (by rw [h2, e5])
      | cl =>
        obtain ⟨e5, h5, n5, iv5⟩ := r2
        refine ⟨e5, ?_, n5, Hnd.stay _ _ _ _ f0 g0 iv5⟩
        rw [upd_ne]
        · exact h5
        · rintro rfl
          rw [ha] at h5
          unfold LamX.CodeO at h5
          cases h5
  · obtain ⟨fs1, q1⟩ := own j es e2
    obtain ⟨fs2, q2⟩ := own k fs e3
    exact h.env.sep j k fs1 fs2 b hjk q1 q2 e4
  · obtain ⟨fs1, q1⟩ := own j es e2
    exact h.fresh j fs1 b q1 e3
end

/-! ### methods that write a list -/
abbrev LOp := List D → List D → Option (D × List D)
def LopOk (K : PySem.W.Frag) (r : V → List V → Hp → VK → Prop) (lop : LOp) : Prop := ∀ (H : Hp) (ca : List Addr) (a : Addr) (vs xs : List V) (ds as ds' : List D) (d : D) (Q : VK), H a = some (.lst vs) → RelDs K H ca ds vs → RelDs K H ca as xs → lop ds as = some (d, ds') →
  (∀ v vs', RelD K H ca d v → RelDs K H ca ds' vs' → Q v (upd H a (.lst vs'))) → r (.ref a) xs H Q
def lAppend : LOp := fun ds as => match as with
  | [d] => if ds.length < sizeLine then some (.non, ds ++ [d]) else none
  | _ => none
theorem ok_append {K : PySem.W.Frag} : LopOk K rAppend lAppend := fun H ca a vs xs ds as ds' d Q ha r ra e q => by
  unfold lAppend at e
  split at e
  · split at e
    · rename_i hl
      cases e
      obtain ⟨x, y, rfl, rx, rfl⟩ := ra
      exact ⟨a, vs, x, rfl, rfl, ha, by rw [r.length]; exact hl, q _ _ rfl (r.snoc rx)⟩
    · cases e
  · cases e
/-- name.method(..), the value left -/
def sMut (i : Nat) (lop : LOp) (g : Env' → M (List D)) : SS := fun ρ st => match ρ[i]? with
  | some (.own ds) => thenS g (fun as ρ st => match lop ds as with
    | some p => .nx (ρ.set i (.own p.2)) st
    | none => .bad) ρ st
  | some (.val (.cell k)) => match st[k]? with
    | some (.lst _) => thenS g (fun as ρ st => match st[k]? with
      | some (.lst ds) => match lop ds as with
        | some p => .nx ρ (st.set k (.lst p.2))
        | none => .bad
      | _ => .bad) ρ st
    | _ => .bad
  | _ => .bad
/-- on a cell -/
def M.act {α : Type} (o : Store → Option (α × Store)) : M α := fun st => match o st with
  | some (r, st') => .ok r st'
  | none => .bad
def cellMut (lop : LOp) (d : D) (as : List D) (st : Store) : Option (RV × Store) := match d with
  | .cell k => match st[k]? with
    | some (.lst ds) => (lop ds as).map fun (r, ds') => (.per r, st.set k (.lst ds'))
    | _ => none
  | _ => none
def lstAt (d : D) (st : Store) : Option Unit := match d with
  | .cell k => match st[k]? with
    | some (.lst _) => some ()
    | _ => none
  | _ => none
def sMutC (lop : LOp) (f : Env' → M D) (g : Env' → M (List D)) : Env' → M RV := fun ρ => M.bind (f ρ) fun d => M.bind (M.opt' (lstAt d)) fun _ => M.bind (g ρ) fun as => M.act (cellMut lop d as)
theorem lstAt_of {K : PySem.W.Frag} {st : Store} {H : Hp} {ca : List Addr} {d : D} {v : V} (s : SR K st ca H) (r : RelR K H ca d v) (e : lstAt d st = some ()) : ∃ k a ds vs, d = .cell k ∧ v = .ref a ∧ ca[k]? = some a ∧ st[k]? = some (.lst ds) ∧ H a = some (.lst vs) ∧ RelDs K H ca ds vs := by
  unfold lstAt at e
  split at e
  · rename_i k
    split at e
    · rename_i ds hk
      obtain ⟨a, rfl, ek⟩ := r
      obtain ⟨vs, q, rr⟩ := s.cell k _ a hk ek
      exact ⟨k, a, ds, vs, rfl, rfl, ek, hk, q, rr⟩
    · cases e
  · cases e
section
variable {X : Cx} {fld : Str → List Str} {W : WX} {H0 : Hp} {ca0 : List Addr} {o e : Expr} {es : List Expr} {pos apos cpos xp : Pos} {name : Str} {id : String} {r : V → List V → Hp → VK → Prop} {lop : LOp}
/-- a write of a cell's list -/
theorem cellW {K : PySem.W.Frag} {st : Store} {H : Hp} {ca : List Addr} {k : Nat} {a : Addr} {ds' : List D} {vs vs' : List V} (s : SR K st ca H) (ek : ca[k]? = some a) (ha : H a = some (.lst vs)) (r : RelDs K H ca ds' vs') :
    SR K (st.set k (.lst ds')) ca (upd H a (.lst vs')) ∧ Stp ca ca H (upd H a (.lst vs')) :=
  ⟨s.set ek ha (fun z => z) nofun nofun ⟨vs', upd_same, RelDs.fixed (fix_wr' ha (fun z => z)) (fun _ _ z => z) _ _ r⟩, stp_wr ha (fun z => z) (List.mem_of_getElem? ek)⟩
theorem ss_mut {i : Nat} {x : Str} {g : Env' → M (List D)} (hN : X.N[i]? = some x) (hv : Vis X.env.scope x) (hd : (x == ("__debug__" : Str)) = false) (hcd : (x == ("__classdict__" : Str)) = false)
    (slot : Slot "list" name id) (hty : typeOf (.builtin id) = pure (.type "method_descriptor")) (hm : MtR X id r) (hop : LopOk X.K r lop) (ha : PA X (e :: es) (TAs X.K fld W g))
    (hbase : attributeBase (.Name x xp) name X.env (eval (.Name x xp) X.env) = eval (.Name x xp) X.env)
    (hfew : ((backTo cpos (starEach (e :: es) X.env)).all (fun x => !x.1) && (backToKw cpos (keywordEach [] X.env)).all (fun x => x.1.isSome)
      && decide ((e :: es).length + ([] : List Keyword).length + (if ([] : List Keyword).isEmpty then 0 else 1) < 30)) = true)
    (hline : (apos.endLine == cpos.line) = true) (hs : starEach (e :: es) X.env = (false, eval e X.env) :: starEach es X.env) (hplain : (backTo cpos (starEach es X.env)).any (·.1) = false)
    (hw : swapsWith (.Call (.Attribute (.Name x xp) name apos) (e :: es) [] cpos) none pos.line X.env = pure false) :
    PS X (.Expr (.Call (.Attribute (.Name x xp) name apos) (e :: es) [] cpos) pos) (TSt X.K fld W H0 ca0 (sMut i lop g)) := by
  refine PS.imp (ps_expr (pe_bm F.plainAttrs_list slot hty hm (pe_var hN hv hd hcd) ha hbase hfew hline hs hplain) hw) fun E σ H ⟨ρ, st, ca, hf, hsr, hp⟩ => ?_
  unfold sMut at hp
  split at hp
  · rename_i ds hr
    obtain ⟨o, h1, a, vs, e1, q, n, rr⟩ := hf.env.at_ i _ hr
    subst e1
    refine ⟨.ref a, h1, .inl ⟨rfl, vs, .inl (.inl q)⟩, ρ, st, ca, hf.env, hsr, (PostS.then hf hp).mono fun as st1 ca1 H1 t1 s1 hq xs hxs => ?_⟩
    obtain ⟨hf1, hq⟩ := hq
    have q1 := t1.keep a _ q n trivial
    have n1 := t1.notin q n
    cases hl : lop ds as with
    | none => rw [hl] at hq; exact hq.elim
    | some p =>
      rw [hl] at hq
      refine hop H1 ca1 a vs xs ds as p.2 p.1 _ q1 (rr.stp t1) hxs hl fun v vs' _ rv => ?_
      obtain ⟨w1, w2, w3⟩ := hf1.ownWr s1 hr h1 q1 n1 rv
      exact hq _ _ _ w3 w1 w2
  · rename_i k hr
    split at hp
    · rename_i ds0 hk
      obtain ⟨o, h1, v, e1, a, rfl, ek⟩ := hf.env.at_ i _ hr
      subst e1
      obtain ⟨vs0, q0, _⟩ := hsr.cell k _ a hk ek
      refine ⟨.ref a, h1, .inl ⟨rfl, vs0, .inl (.inl q0)⟩, ρ, st, ca, hf.env, hsr, (PostS.then hf hp).mono fun as st1 ca1 H1 t1 s1 hq xs hxs => ?_⟩
      obtain ⟨hf1, hq⟩ := hq
      split at hq
      · rename_i ds hk1
        have ek1 := t1.sub ek
        obtain ⟨vs, q1, rr⟩ := s1.cell k _ a hk1 ek1
        cases hl : lop ds as with
        | none => rw [hl] at hq; exact hq.elim
        | some p =>
          rw [hl] at hq
          refine hop H1 ca1 a vs xs ds as p.2 p.1 _ q1 rr hxs hl fun v vs' _ rv => ?_
          obtain ⟨w1, w2⟩ := cellW s1 ek1 q1 rv
          exact hq _ _ _ w2.fx (hf1.go w2) w1
      · exact hq.elim
    · exact hp.elim
  · exact hp.elim
/-- the same of an expression that gives a cell -/
theorem Post.act {α : Type} {K : PySem.W.Frag} {σ : L2.St} {H : Hp} {ca : List Addr} {st : Store} {k : α → Store → List Addr → Hp → Prop} {o : Store → Option (α × Store)} (h : Post K fld W σ H ca k (M.act o st)) : ∃ p, o st = some p ∧ Post K fld W σ H ca k (.ok p.1 p.2) := by
  unfold M.act at h
  cases e : o st with
  | none => rw [e] at h; exact h.elim
  | some p => rw [e] at h; exact ⟨p, rfl, h⟩
theorem se_mutC {f : Env' → M D} {g : Env' → M (List D)} (hf : PE X o (TR X.K fld W f)) (slot : Slot "list" name id) (hty : typeOf (.builtin id) = pure (.type "method_descriptor")) (hm : MtR X id r) (hop : LopOk X.K r lop) (ha : PA X (e :: es) (TAs X.K fld W g))
    (hbase : attributeBase o name X.env (eval o X.env) = eval o X.env)
    (hfew : ((backTo cpos (starEach (e :: es) X.env)).all (fun x => !x.1) && (backToKw cpos (keywordEach [] X.env)).all (fun x => x.1.isSome)
      && decide ((e :: es).length + ([] : List Keyword).length + (if ([] : List Keyword).isEmpty then 0 else 1) < 30)) = true)
    (hline : (apos.endLine == cpos.line) = true) (hs : starEach (e :: es) X.env = (false, eval e X.env) :: starEach es X.env) (hplain : (backTo cpos (starEach es X.env)).any (·.1) = false) :
    PE X (.Call (.Attribute o name apos) (e :: es) [] cpos) (TN X.K fld W (sMutC lop f g)) := by
  refine PE.imp (pe_bm F.plainAttrs_list slot hty hm hf ha hbase hfew hline hs hplain) fun σ H Q ⟨ρ, st, ca, he, hsr, hp⟩ => ⟨ρ, st, ca, he, hsr, (Post.bind hp).mono fun d st1 ca1 H1 t1 s1 q v hv => ?_⟩
  obtain ⟨_, e1, q⟩ := (Post.bind q).opt2
  have q := Post.now q s1
  obtain ⟨k, a, ds0, vs0, rfl, rfl, ek, hk, q0, r0⟩ := lstAt_of s1 hv e1
  refine ⟨.inl ⟨rfl, vs0, .inl (.inl q0)⟩, ρ, st1, ca1, he.stp t1, s1, (Post.bind q).mono fun as st2 ca2 H2 t2 s2 q xs hxs => ?_⟩
  obtain ⟨p, e2, q⟩ := Post.act q
  unfold cellMut at e2
  simp only at e2
  split at e2
  · rename_i ds hk2
    cases hl : lop ds as with
    | none => rw [hl] at e2; cases e2
    | some z =>
      rw [hl] at e2
      cases e2
      have ek2 := t2.sub ek
      obtain ⟨vs, q2, rr⟩ := s2.cell k _ a hk2 ek2
      refine hop H2 ca2 a vs xs ds as z.2 z.1 _ q2 rr hxs hl fun v vs' rv rvs => ?_
      obtain ⟨w1, w2⟩ := cellW s2 ek2 q2 rvs
      exact (show ∀ ca' H', Stp ca2 ca' H2 H' → SR X.K (st2.set k (.lst z.2)) ca' H' → ∀ v, RelD X.K H' ca' z.1 v → Q v H' from q) ca2 _ w2 w1 v (rv.stp w2)
  · cases e2
end
end Ev
/-! Cells made, dicts, stores, slices, pairs of names. -/
namespace Ev
open PySem PySem.Spec PyProof.Rows L2
variable [Tbs] [Hnd]

/-- a new list that several hands will write -/
def toCell (f : Env' → M RV) : Env' → M RV := fun ρ => M.bind (f ρ) fun r => match r with
  | .fr ds => M.cell (.lst ds)
  | _ => M.bad
section
variable {K : PySem.W.Frag} {st : Store} {H H1 : Hp} {ca ca1 : List Addr} {a : Addr}
/-- a place that is no cell becomes one -/
theorem SR.own {c : Cell} (s : SR K st ca H) (n : a ∉ ca) (hc : CellR K H (ca ++ [a]) c a) : SR K (st ++ [c]) (ca ++ [a]) H := by
  have g0 : ∀ (k : Nat) (x : Addr), ca[k]? = some x → (ca ++ [a])[k]? = some x := fun k x h => by rw [List.getElem?_append_left (List.getElem?_eq_some_iff.mp h).1]; exact h
  have f0 : ∀ (b : Addr) (o : HO), H b = some o → Fix o → H b = some o := fun _ _ h _ => h
  refine ⟨by rw [List.length_append, List.length_append, s.len]; rfl, ?_, fun k c' b e1 e2 => ?_, s.tabs⟩
  · rw [List.nodup_append]
    refine ⟨s.nd, by simp, fun x hx y hy => ?_⟩
    rw [List.mem_singleton.mp hy]
    rintro rfl
    exact n hx
  · by_cases hk : k < st.length
    · rw [List.getElem?_append_left hk] at e1
      rw [List.getElem?_append_left (by rw [s.len]; exact hk)] at e2
      have q := s.cell k c' b e1 e2
      cases c' with
      | lst ds => obtain ⟨vs, h1, r⟩ := q; exact ⟨vs, h1, RelDs.fixed f0 g0 _ _ r⟩
      | dct ds => obtain ⟨vs, h1, r⟩ := q; exact ⟨vs, h1, KvR.fixed f0 g0 r⟩
    · have hk1 : k = st.length := by
        have := (List.getElem?_eq_some_iff.mp e1).1
        simp at this
        omega
      subst hk1
      rw [List.getElem?_append_right (Nat.le_refl _)] at e1
      rw [List.getElem?_append_right (by rw [s.len]; exact Nat.le_refl _), s.len] at e2
      simp at e1 e2
      subst e1 e2
      exact hc
theorem Stp.own (t : Stp ca ca1 H H1) (n : H a = none) : Stp ca (ca1 ++ [a]) H H1 := by
  obtain ⟨l, e, q⟩ := t.ext
  refine ⟨⟨l ++ [a], by rw [e, List.append_assoc], fun x hx => ?_⟩, t.fix, t.keep, t.dom⟩
  rcases List.mem_append.mp hx with hx | hx
  · exact q x hx
  · rw [List.mem_singleton.mp hx]; exact n
theorem RelDs.own {ds : List D} {vs : List V} (r : RelDs K H ca ds vs) : RelDs K H (ca ++ [a]) ds vs :=
  RelDs.fixed (fun _ _ h _ => h) (fun k x h => by rw [List.getElem?_append_left (List.getElem?_eq_some_iff.mp h).1]; exact h) _ _ r
end
section
variable {K : PySem.W.Frag} {fld : Str → List Str} {W : WX} {X : Cx} {e : Expr}
theorem se_cell {f : Env' → M RV} (h : PE X e (TN K fld W f)) : PE X e (TN K fld W (toCell f)) := by
  refine PE.imp h fun σ H Q ⟨ρ, st, ca, he, hs, hp⟩ => ⟨ρ, st, ca, he, hs, ?_⟩
  unfold toCell M.bind at hp
  cases hr : f ρ st with
  | bad => rw [hr] at hp; exact hp
  | exc c as st1 => rw [hr] at hp; exact hp
  | ok r st1 =>
    rw [hr] at hp
    intro ca1 H1 t1 s1 v hv
    cases r with
    | per d => exact hp.elim
    | bor ds => exact hp.elim
    | fr ds =>
      obtain ⟨a, vs, rfl, q1, n0, n1, r1⟩ := hv
      have t2 := t1.own n0
      have s2 := s1.own (c := .lst ds) n1 ⟨vs, q1, r1.own⟩
      refine (show ∀ ca' H', Stp ca ca' H H' → SR K (st1 ++ [.lst ds]) ca' H' → ∀ v, RelRV K H H' ca' (.per (.cell st1.length)) v → Q v H' from hp) _ H1 t2 s2 _ ⟨a, rfl, ?_⟩
      rw [← s1.len]
      simp
end

/-! ### dicts -/
def getKD (kvs : List (Key × D)) (k : Key) : Option D := (kvs.find? fun kv => decide (kv.1 = k)).map (·.2)
def putKD (kvs : List (Key × D)) (k : Key) (v : D) : List (Key × D) :=
  if (kvs.any fun kv => decide (kv.1 = k)) = true then kvs.map (fun kv => if kv.1 = k then (kv.1, v) else kv) else kvs ++ [(k, v)]
def dKey : D → Option Key
  | .int i => some (.inl i)
  | .str x => some (.inr x)
  | _ => none
section
variable {K : PySem.W.Frag} {H : Hp} {ca : List Addr}
theorem KvR.get {k : Key} : ∀ {kvs : List (Key × D)} {vs : List (Key × V)} {d : D}, KvR K H ca kvs vs → getKD kvs k = some d → ∃ v, valV vs k = some v ∧ RelD K H ca d v
  | [], _, _, _, e => by cases e
  | (j, d) :: r, _, d', h, e => by
    obtain ⟨v, t, rfl, q, g⟩ := h
    by_cases hj : j = k
    · simp only [getKD, List.find?_cons, hj, decide_true, Option.map_some, Option.some.injEq] at e
      subst e
      exact ⟨v, valV_pos (p := (j, v)) hj, q⟩
    · have e2 : getKD r k = some d' := by
        unfold getKD at e ⊢
        rw [List.find?_cons] at e
        simpa only [hj, decide_false] using e
      obtain ⟨w, h1, h2⟩ := KvR.get g e2
      exact ⟨w, by rw [valV_neg (p := (j, v)) hj]; exact h1, h2⟩
theorem KvR.any {k : Key} : ∀ {kvs : List (Key × D)} {vs : List (Key × V)}, KvR K H ca kvs vs → (kvs.any fun kv => decide (kv.1 = k)) = vs.any fun kv => decide (kv.1 = k)
  | [], _, h => by cases h; rfl
  | (j, d) :: r, _, h => by
    obtain ⟨v, t, rfl, q, g⟩ := h
    simp only [List.any_cons, KvR.any g]
theorem KvR.map {k : Key} {d : D} {v : V} (q : RelD K H ca d v) : ∀ {kvs : List (Key × D)} {vs : List (Key × V)}, KvR K H ca kvs vs → KvR K H ca (kvs.map (fun kv => if kv.1 = k then (kv.1, d) else kv)) (vs.map (fun kv => if kv.1 = k then (kv.1, v) else kv))
  | [], _, h => by cases h; rfl
  | (j, d') :: r, _, h => by
    obtain ⟨w, t, rfl, q', g⟩ := h
    have ih := KvR.map (k := k) q g
    simp only [List.map_cons]
    by_cases hj : j = k
    · rw [if_pos hj, if_pos hj]
      exact ⟨v, _, rfl, q, ih⟩
    · rw [if_neg hj, if_neg hj]
      exact ⟨w, _, rfl, q', ih⟩
theorem KvR.snoc {k : Key} {d : D} {v : V} (q : RelD K H ca d v) : ∀ {kvs : List (Key × D)} {vs : List (Key × V)}, KvR K H ca kvs vs → KvR K H ca (kvs ++ [(k, d)]) (vs ++ [(k, v)])
  | [], _, h => by cases h; exact ⟨v, [], rfl, q, rfl⟩
  | (j, d') :: r, _, h => by
    obtain ⟨w, t, rfl, q', g⟩ := h
    exact ⟨w, _, rfl, q', KvR.snoc q g⟩
theorem KvR.put {k : Key} {d : D} {v : V} {kvs : List (Key × D)} {vs : List (Key × V)} (h : KvR K H ca kvs vs) (q : RelD K H ca d v) : KvR K H ca (putKD kvs k d) (putK vs k v) := by
  unfold putKD putK
  rw [h.any]
  split
  · exact h.map q
  · exact h.snoc q
theorem KvR.length : ∀ {kvs : List (Key × D)} {vs : List (Key × V)}, KvR K H ca kvs vs → vs.length = kvs.length
  | [], _, h => by cases h; rfl
  | (j, d) :: r, _, h => by
    obtain ⟨v, t, rfl, q, g⟩ := h
    exact congrArg Nat.succ (KvR.length g)
theorem RelR.key {d : D} {v : V} {k : Key} (r : RelR K H ca d v) (e : dKey d = some k) : v = kV k := by
  cases d with
  | int i => cases e; exact r
  | str x => cases e; exact r
  | _ => cases e
end
/-- a[b]: a list's, a tuple's, a text's, a dict's -/
def ixSt (st : Store) (a b : D) : Option RV := match deref st a with
  | .cell k => match st[k]? with
    | some (.dct kvs) => ((dKey b).bind (getKD kvs)).bind per
    | _ => none
  | d => dIx d (deref st b)
def sBinS (op : Store → D → D → Option RV) (f g : Env' → M D) : Env' → M RV := fun ρ => M.bind (f ρ) fun a => M.bind (g ρ) fun b => M.rdr fun st => op st a b
def rOS (K : PySem.W.Frag) (op : Store → D → D → Option RV) : R2 := fun x y H Q => ∃ ca st a b r, SR K st ca H ∧ RelR K H ca a x ∧ RelR K H ca b y ∧ op st a b = some r ∧ Gv K H ca st r Q
section
variable {X : Cx} {fld : Str → List Str} {W : WX}
theorem ix_dK (hu : X.A.units + 1 < cLine) : IxR X (fun x y H Q => ∃ a v, x = .ref a ∧ DGet H a y (some v) ∧ Q v H) := by
  intro value slice pins s σ H x y v u Q I rx ry h hs
  obtain ⟨a, w, rfl, g, q⟩ := h
  obtain rfl : v = .ref a := rx
  exact tail_any (dict_typeIs I g) PySem.F.slot_dict_getitem.lookup (d_getItem hu I g ry fun w' s3 I3 rw' => ⟨w, H, I3, rw', q⟩) hs
theorem ix_all (hu : X.A.units + 1 < cLine) : IxR X (rOS X.K ixSt) := ixi (IxR.or ix_dIx (ix_dK hu)) fun x y H Q ⟨ca, st, a, b, r, s, ra, rb, e, g⟩ => by
  unfold ixSt at e
  have rx := ra.x s
  split at e
  · rename_i k hk
    split at e
    · rename_i kvs hc
      cases hb : dKey b with
      | none => rw [hb] at e; cases e
      | some key =>
        rw [hb] at e
        have e : (getKD kvs key).bind per = some r := e
        cases hg : getKD kvs key with
        | none => rw [hg] at e; cases e
        | some d =>
          rw [hg] at e
          cases e
          rw [hk] at rx
          obtain ⟨p, rfl, ek⟩ := rx
          obtain ⟨vs, hH, kv⟩ := s.cell k _ p hc ek
          obtain ⟨v, hv, rv⟩ := kv.get hg
          refine .inr ⟨p, v, rfl, ?_, g.here s rv⟩
          rw [rb.key hb]
          exact .inl ⟨vs, key, .inl hH, rfl, hv.symm⟩
    · cases e
  · exact .inl ⟨ca, st, _, _, r, s, rx, rb.x s, e, g⟩
theorem se_ixS {op : Store → D → D → Option RV} {a b : Expr} {pos : Pos} {f g : Env' → M D} (hr : IxR X (rOS X.K op)) (ha : PE X a (TR X.K fld W f)) (hb : PE X b (TR X.K fld W g)) (hs : PlainIx b) : PE X (.Subscript a b pos) (TN X.K fld W (sBinS op f g)) := by
  refine PE.imp (pe_ix hr ha hb hs) fun σ H Q ⟨ρ, st, ca, he, hs, hp⟩ => ⟨ρ, st, ca, he, hs, (Post.bind hp).mono fun d st1 ca1 H1 t1 s1 q v hv => ?_⟩
  refine ⟨ρ, st1, ca1, he.stp t1, s1, (Post.bind q).mono fun d2 st2 ca2 H2 t2 s2 q w hw => ?_⟩
  obtain ⟨r, e, g⟩ := q.rdr (t1.trans t2)
  exact ⟨ca2, st2, _, _, r, s2, hv.stp t2, hw, e, g⟩

/-! ### o[i] = v -/
def setSt (o i d : D) (st : Store) : Option (Unit × Store) := match o with
  | .cell k => match st[k]? with
    | some (.lst ds) => match i with
      | .int j => (ixN ds.length j).map fun n => ((), st.set k (.lst (ds.set n d)))
      | _ => none
    | some (.dct kvs) => match dKey i with
      | some key => if kvs.length < sizeLine then some ((), st.set k (.dct (putKD kvs key d))) else none
      | none => none
    | none => none
  | _ => none
theorem PSet.or {t u : TSet} (h : PSet X t) (g : PSet X u) : PSet X (fun o i v H Q => t o i v H Q ∨ u o i v H Q) := fun pins s σ H o i v ov iv w Q I ro ri rv q => by
  rcases q with q | q
  · exact h pins s σ H o i v ov iv w Q I ro ri rv q
  · exact g pins s σ H o i v ov iv w Q I ro ri rv q
theorem set_dK (hu : X.A.units + 1 < cLine) : PSet X (fun o i v H Q => ∃ a H', o = .ref a ∧ DPut H a i v H' ∧ Q H') := by
  intro pins s σ H o i v ov iv u Q I ro ri rv h
  obtain ⟨a, H', rfl, g, q⟩ := h
  obtain rfl : ov = .ref a := ro
  exact d_setItem hu I g ri rv fun s4 I4 => ⟨H', I4, q⟩
def rSet : TSet := fun o i v H Q => rSetL o i v H Q ∨ ∃ a H', o = .ref a ∧ DPut H a i v H' ∧ Q H'
theorem set_all (hu : X.A.units + 1 < cLine) : PSet X rSet := PSet.or set_list (set_dK hu)
theorem setSt_of {K : PySem.W.Frag} {st : Store} {H : Hp} {ca : List Addr} {o i d : D} {x y v : V} {p : Unit × Store} {Q : Hp → Prop} (s : SR K st ca H) (ro : RelR K H ca o x) (ri : RelR K H ca i y) (rd : RelD K H ca d v) (e : setSt o i d st = some p)
    (q : ∀ H', Stp ca ca H H' → SR K p.2 ca H' → Q H') : rSet x y v H Q := by
  unfold setSt at e
  split at e
  · rename_i k
    obtain ⟨a, rfl, ek⟩ := ro
    split at e
    · rename_i ds hc
      obtain ⟨vs, hH, r⟩ := s.cell k _ a hc ek
      split at e
      · rename_i j
        cases hn : ixN ds.length j with
        | none => rw [hn] at e; cases e
        | some n =>
          rw [hn] at e
          cases e
          obtain ⟨w1, w2⟩ := cellW s ek hH (RelDs.set rd n r)
          exact .inl ⟨a, vs, j, n, rfl, ri, hH, by rw [r.length]; exact hn, q _ w2 w1⟩
      · cases e
    · rename_i kvs hc
      obtain ⟨vs, hH, kv⟩ := s.cell k _ a hc ek
      split at e
      · rename_i key hk
        split at e
        · rename_i hl
          cases e
          have hu : ¬ Fix (.dK vs) := fun z => z
          have w1 := s.set (c' := .dct (putKD kvs key d)) (o := .dK (putK vs key v)) ek hH hu nofun nofun ⟨_, upd_same, KvR.fixed (fix_wr' hH hu) (fun _ _ z => z) (kv.put rd)⟩
          refine .inr ⟨a, _, rfl, ?_, q _ (stp_wr hH hu (List.mem_of_getElem? ek)) w1⟩
          rw [ri.key hk]
          exact .inl ⟨vs, key, hH, rfl, by rw [kv.length]; exact hl, rfl⟩
        · cases e
      · cases e
    · cases e
  · cases e
def sSetIx (f fo fi : Env' → M D) : SS := thenS (fun ρ => M.bind (f ρ) fun d => M.bind (fo ρ) fun o => M.bind (fi ρ) fun i => M.act (setSt o i d)) fun _ ρ st => .nx ρ st
theorem ss_setIx {H0 : Hp} {ca0 : List Addr} {o i e : Expr} {tpos pos : Pos} {f fo fi : Env' → M D} (hu : X.A.units + 1 < cLine) (he : PE X e (TS' X.K fld W f)) (ho : PE X o (TR X.K fld W fo)) (hi : PE X i (TR X.K fld W fi))
    (hs : swapsWithSole [.Subscript o i tpos] e pos.line X.env = pure false) (hw : swappedStores [.Subscript o i tpos] e X.env = pure none) (h1 : (assignEach [.Subscript o i tpos] X.env).map (·.2) = [assign (.Subscript o i tpos) X.env])
    (ha : ∀ v, assign (.Subscript o i tpos) X.env v = (do
      let ov ← holding [v] (eval o X.env)
      let iv ← holding [v, ov] (eval i X.env)
      standAt tpos
      holding [v, ov, iv] (setItem ov iv v)
      release [v, ov, iv] [])) : PS X (.Assign [.Subscript o i tpos] e pos) (TSt X.K fld W H0 ca0 (sSetIx f fo fi)) := by
  refine PS.imp (ps_asg he (pg_sub ho hi (set_all hu) ha) hs hw h1) fun E σ H ⟨ρ, st, ca, hf, hsr, hp⟩ => ⟨ρ, st, ca, hf.env, hsr, ?_⟩
  have hp := PostS.then hf hp
  refine (Post.bind hp).mono fun d st1 ca1 H1 t1 s1 q v hv => ⟨ρ, st1, ca1, hf.env.stp t1, s1, (Post.bind q).mono fun od st2 ca2 H2 t2 s2 q x hx => ⟨ρ, st2, ca2, hf.env.stp (t1.trans t2), s2, (Post.bind q).mono fun id st3 ca3 H3 t3 s3 q y hy => ?_⟩⟩
  obtain ⟨p, ep, q⟩ := Post.act q
  refine setSt_of s3 (hx.stp t3) hy ((hv.stp t2).stp t3) ep fun H4 t4 s4 => ?_
  obtain ⟨q1, q2⟩ := (show ∀ ca' H', Stp ca3 ca' H3 H' → SR X.K p.2 ca' H' → _ from q) ca3 H4 t4 s4
  exact q2 σ ca3 H4 Fx.refl q1 s4
/-- of the frame's own list -/
def sSetOwn (k : Nat) (f fi : Env' → M D) : SS := fun ρ st => match ρ[k]? with
  | some (.own _) => thenS (fun ρ => M.bind (f ρ) fun d => M.bind (fi ρ) fun i => M.pure (d, i)) (fun p ρ st => match ρ[k]?, p.2 with
    | some (.own ds), .int j => match ixN ds.length j with
      | some n => .nx (ρ.set k (.own (ds.set n p.1))) st
      | none => .bad
    | _, _ => .bad) ρ st
  | _ => .bad
theorem ss_setOwn {H0 : Hp} {ca0 : List Addr} {k : Nat} {x : Str} {xp : Pos} {i e : Expr} {tpos pos : Pos} {f fi : Env' → M D} (hN : X.N[k]? = some x) (hv : Vis X.env.scope x) (hd : (x == ("__debug__" : Str)) = false) (hcd : (x == ("__classdict__" : Str)) = false)
    (he : PE X e (TS' X.K fld W f)) (hi : PE X i (TR X.K fld W fi))
    (hs : swapsWithSole [.Subscript (.Name x xp) i tpos] e pos.line X.env = pure false) (hw : swappedStores [.Subscript (.Name x xp) i tpos] e X.env = pure none) (h1 : (assignEach [.Subscript (.Name x xp) i tpos] X.env).map (·.2) = [assign (.Subscript (.Name x xp) i tpos) X.env])
    (ha : ∀ v, assign (.Subscript (.Name x xp) i tpos) X.env v = (do
      let ov ← holding [v] (eval (.Name x xp) X.env)
      let iv ← holding [v, ov] (eval i X.env)
      standAt tpos
      holding [v, ov, iv] (setItem ov iv v)
      release [v, ov, iv] [])) : PS X (.Assign [.Subscript (.Name x xp) i tpos] e pos) (TSt X.K fld W H0 ca0 (sSetOwn k f fi)) := by
  refine PS.imp (ps_asg he (pg_sub (pe_var hN hv hd hcd) hi set_list ha) hs hw h1) fun E σ H ⟨ρ, st, ca, hf, hsr, hp⟩ => ?_
  unfold sSetOwn at hp
  split at hp
  · rename_i ds0 hr
    refine ⟨ρ, st, ca, hf.env, hsr, (Post.bind (PostS.then hf hp)).mono fun d st1 ca1 H1 t1 s1 q v hv => ?_⟩
    obtain ⟨o, h1, a, vs, e1, qa, n, rr⟩ := hf.env.at_ k _ hr
    subst e1
    refine ⟨.ref a, h1, ρ, st1, ca1, hf.env.stp t1, s1, (Post.bind q).mono fun id st2 ca2 H2 t2 s2 q y hy => ?_⟩
    obtain ⟨hf2, q⟩ := Post.now q s2
    rw [hr] at q
    have t12 := t1.trans t2
    have qa2 := t12.keep a _ qa n trivial
    have n2 := t12.notin qa n
    have rr2 := rr.stp t12
    split at q
    · rename_i ds j e2 e3
      cases e2
      have e3 : id = .int j := e3
      subst e3
      split at q
      · rename_i m hm
        obtain ⟨w1, w2, w3⟩ := hf2.ownWr s2 hr h1 qa2 n2 (RelDs.set (hv.stp t2) m rr2)
        exact ⟨a, vs, j, m, rfl, hy, qa2, by rw [rr2.length]; exact hm, q _ _ _ w3 w1 w2⟩
      · exact q.elim
    · exact q.elim
  · exact hp.elim
end
end Ev
/-! Dict displays, pairs of names, slices, ranges as lists, products, texts of data, globals. -/
namespace Ev
open PySem PySem.Spec PyProof.Rows L2
variable [Tbs] [Hnd]

section
variable {K : PySem.W.Frag} {fld : Str → List Str} {W : WX} {X : Cx}
/-! ### a dict display -/
def ksZip : List Str → List D → List (Key × D)
  | k :: ks, d :: ds => (.inr k, d) :: ksZip ks ds
  | _, _ => []
def sDict (ks : List Str) (g : Env' → M (List D)) : Env' → M RV := fun ρ => M.bind (g ρ) fun ds => if ds.length = ks.length then M.cell (.dct (ksZip ks ds)) else M.bad
def ksVals : List Str → List V → List (Key × V)
  | k :: ks, d :: ds => (.inr k, d) :: ksVals ks ds
  | _, _ => []
theorem kv_zip {H : Hp} {ca : List Addr} : ∀ (ks : List Str) (ds : List D) (vs : List V), RelDs K H ca ds vs → KvR K H ca (ksZip ks ds) (ksVals ks vs)
  | [], ds, vs, h => rfl
  | k :: ks, [], vs, h => by cases h; rfl
  | k :: ks, d :: ds, vs, h => by
    obtain ⟨v, r, rfl, q, t⟩ := h
    exact ⟨v, _, rfl, q, kv_zip ks ds r t⟩
/-- the pairs, one behind another -/
structure PD (X : Cx) (K : PySem.W.Frag) (fld : Str → List Str) (W : WX) (pos : Pos) (keys : List (Option Expr)) (values : List Expr) (ks : List Str) (g : Env' → M (List D)) : Prop where
  ex : ∃ trs, PPs X pos keys values trs ∧ ∀ σ H Q, (∃ ρ st ca, EnvR K H ca ρ σ ∧ SR K st ca H ∧ Post K fld W σ H ca (fun ds st' ca' H' => SR K st' ca' H' → Stp ca ca' H H' → ∀ vs, RelDs K H' ca' ds vs → ds.length = ks.length → Q ((ks.zip vs).map fun p => (.str p.1, p.2)) H') (g ρ st)) → tPairs trs σ H Q
theorem pd_nil {pos : Pos} : PD X K fld W pos [] [] [] sNil := ⟨[], pps_nil, fun σ H Q ⟨ρ, st, ca, he, hs, hp⟩ => by
  have := Post.now hp hs
  exact this hs Stp.refl [] rfl rfl⟩
theorem pd_cons {pos kp : Pos} {k : Str} {jk : Nat} {v : Expr} {keys : List (Option Expr)} {values : List Expr} {ks : List Str} {f : Env' → M D} {g : Env' → M (List D)} (hv : PE X v (TS' K fld W f)) (h : PD X K fld W pos keys values ks g) :
    PD X K fld W pos (some (.Constant (.str k) jk kp) :: keys) (v :: values) (k :: ks) (sCons f g) := by
  obtain ⟨trs, hp, hw⟩ := h.ex
  refine ⟨_, pps_cons pe_str hv hp, fun σ H Q ⟨ρ, st, ca, he, hs, hp⟩ => ?_⟩
  refine ⟨ρ, st, ca, he, hs, (Post.bind hp).mono fun d st1 ca1 H1 t1 s1 q x hx => ?_⟩
  refine hw σ H1 _ ⟨ρ, st1, ca1, he.stp t1, s1, (Post.bind q).mono fun ds st2 ca2 H2 t2 s2 q s2' t2' vs hvs hl => ?_⟩
  have q := Post.now q s2
  exact q s2 (t1.trans t2) (x :: vs) ⟨x, vs, rfl, hx.stp t2, hvs⟩ (by simp [hl])
theorem nodup_inr : ∀ {l : List Str}, l.Nodup → (l.map (Sum.inr : Str → Key)).Nodup
  | [], _ => by simp
  | a :: l, h => by
    rw [List.nodup_cons] at h
    rw [List.map_cons, List.nodup_cons]
    refine ⟨fun z => ?_, nodup_inr h.2⟩
    obtain ⟨b, hb, e⟩ := List.mem_map.mp z
    cases e
    exact h.1 hb
theorem merge_nodup : ∀ (kvs acc : List (Key × V)), (acc ++ kvs).map (·.1) |>.Nodup → mergeK acc kvs = acc ++ kvs
  | [], acc, _ => by simp [mergeK]
  | p :: r, acc, h => by
    have hn : (acc.any fun kv => decide (kv.1 = p.1)) = false := by
      rw [List.any_eq_false]
      intro x hx e
      have e : x.1 = p.1 := of_decide_eq_true e
      rw [List.map_append, List.nodup_append] at h
      exact h.2.2 x.1 (List.mem_map_of_mem hx) p.1 (by simp) e
    show mergeK (putK acc p.1 p.2) r = _
    have ep : putK acc p.1 p.2 = acc ++ [p] := by
      unfold putK
      rw [hn]
      simp
    rw [ep, merge_nodup r (acc ++ [p]) (by simpa using h)]
    exact List.append_assoc _ _ _
theorem zip_ks : ∀ (ks : List Str) (vs : List V), (ks.zip vs).map (fun p => (V.str p.1, p.2)) = (ksVals ks vs).map fun kv => (kV kv.1, kv.2)
  | [], vs => rfl
  | k :: ks, [] => rfl
  | k :: ks, v :: vs => by
    show _ :: _ = _ :: _
    rw [← zip_ks ks vs]
    rfl
theorem keys_ks : ∀ (ks : List Str) (vs : List V), vs.length = ks.length → (ksVals ks vs).map (·.1) = ks.map .inr
  | [], vs, _ => rfl
  | k :: ks, [], h => by simp at h
  | k :: ks, v :: vs, h => by
    show _ :: _ = _ :: _
    rw [keys_ks ks vs (by simpa using h)]
theorem se_dict {pos : Pos} {keys : List (Option Expr)} {values : List Expr} {ks : List Str} {g : Env' → M (List D)} (h : PD X K fld W pos keys values ks g) (hall : keys.all (·.isSome) = true) (hl : keys.length = values.length) (h0 : keys ≠ []) (h15 : keys.length ≤ 15) (hk : ks.length ≤ 15)
    (hnd : ks.Nodup) : PE X (.Dict keys values pos) (TN K fld W (sDict ks g)) := by
  obtain ⟨trs, hp, hw⟩ := h.ex
  refine PE.imp (pe_disp hp hall hl h0 h15) fun σ H Q ⟨ρ, st, ca, he, hs, hp⟩ => fun p hpn => ?_
  have t0 := Stp.laid (ca := ca) (o := HO.dK []) hpn
  have hpc := hs.notnew hpn
  refine hw σ _ _ ⟨ρ, st, ca, he.stp t0, hs.laid hpn, ?_⟩
  unfold sDict M.bind at hp
  cases hr : g ρ st with
  | bad => rw [hr] at hp; exact hp
  | exc c as st1 => rw [hr] at hp; exact fun cls dd ca' H' t => hp cls dd ca' H' (t0.trans t)
  | ok ds st1 =>
    rw [hr] at hp
    intro ca1 H1 t1 _ s1 _ vs hvs hlen
    dsimp only at hp
    rw [if_pos hlen] at hp
    have hH1 : H1 p = some (.dK []) := t1.keep p _ upd_same hpc trivial
    have hpc1 := t1.notin upd_same hpc
    have ek := keys_ks ks vs (by rw [hvs.length]; exact hlen)
    refine ⟨hH1, ksVals ks vs, zip_ks ks vs, ?_, ?_⟩
    · have : (ksVals ks vs).length = ks.length := by
        have := congrArg List.length ek
        simpa using this
      omega
    have em : mergeK [] (ksVals ks vs) = ksVals ks vs := merge_nodup (ksVals ks vs) [] (by
      rw [List.nil_append, ek]
      exact nodup_inr hnd)
    rw [em]
    have hu : ¬ Fix (.dK ([] : List (Key × V))) := fun z => z
    have f0 := fix_wr' (o := .dK (ksVals ks vs)) hH1 hu
    have tB : Stp ca ca1 H (upd H1 p (.dK (ksVals ks vs))) := (t0.trans t1).wr hpn
    have sB : SR K st1 ca1 (upd H1 p (.dK (ksVals ks vs))) := by
      refine ⟨s1.len, s1.nd, fun i c a e1 e2 => ?_, tabs_upd hH1 nofun nofun s1.tabs⟩
      have q := s1.cell i c a e1 e2
      have ne : a ≠ p := fun z => hpc1 (z ▸ List.mem_of_getElem? e2)
      cases c with
      | lst ds => obtain ⟨ws, e, r⟩ := q; exact ⟨ws, by rw [upd_ne ne]; exact e, RelDs.fixed f0 (fun _ _ z => z) _ _ r⟩
      | dct kvs => obtain ⟨ws, e, r⟩ := q; exact ⟨ws, by rw [upd_ne ne]; exact e, KvR.fixed f0 (fun _ _ z => z) r⟩
    have kv : KvR K (upd H1 p (.dK (ksVals ks vs))) ca1 (ksZip ks ds) (ksVals ks vs) := kv_zip ks ds vs (RelDs.fixed f0 (fun _ _ z => z) _ _ hvs)
    have sC := sB.own (a := p) (c := .dct (ksZip ks ds)) hpc1 ⟨_, upd_same, KvR.fixed (fun _ _ h _ => h) (fun k x h => by rw [List.getElem?_append_left (List.getElem?_eq_some_iff.mp h).1]; exact h) kv⟩
    refine (show ∀ ca' H', Stp ca ca' H H' → SR K (st1 ++ [.dct (ksZip ks ds)]) ca' H' → ∀ v, RelRV K H H' ca' (.per (.cell st1.length)) v → Q v H' from hp) _ _ (tB.own hpn) sC _ ⟨p, rfl, ?_⟩
    rw [← s1.len]
    simp

/-! ### tuple targets -/
def sAsgT (f : Env' → M D) (g : D → Env' → Option Env') : SS := thenS f fun d ρ st => match g d ρ with
  | some ρ' => .nx ρ' st
  | none => .bad
theorem ss_asg {H0 : Hp} {ca0 : List Addr} {tg e : Expr} {pos : Pos} {f : Env' → M D} {is : List Nat} {g : D → Env' → Option Env'} (he : PE X e (TS' K fld W f)) (hg : PG X tg (TGd K is g)) (hs : swapsWithSole [tg] e pos.line X.env = pure false) (hw : swappedStores [tg] e X.env = pure none)
    (h1 : (assignEach [tg] X.env).map (·.2) = [assign tg X.env]) : PS X (.Assign [tg] e pos) (TSt K fld W H0 ca0 (sAsgT f g)) := by
  refine PS.imp (ps_asg he hg hs hw h1) fun E σ H ⟨ρ, st, ca, hf, hsr, hp⟩ => ⟨ρ, st, ca, hf.env, hsr, (PostS.then hf hp).mono fun d st1 ca1 H1 t1 s1 q v hv => ?_⟩
  obtain ⟨q1, q2⟩ := q
  cases hr : g d ρ with
  | none => rw [hr] at q2; exact q2.elim
  | some ρ' =>
    rw [hr] at q2
    exact ⟨ρ, d, ca1, ρ', q1.env, hv, hr, fun σ' b => q2 σ' ca1 H1 Fx.refl (q1.bd b) s1⟩
def sPar (i j : Nat) (g : Env' → M (List D)) : SS := thenS g fun as ρ st => match as with
  | [a, b] => .nx ((ρ.set i (.val a)).set j (.val b)) st
  | _ => .bad
def sPar3 (i j k : Nat) (g : Env' → M (List D)) : SS := thenS g fun as ρ st => match as with
  | [a, b, c] => .nx (((ρ.set i (.val a)).set j (.val b)).set k (.val c)) st
  | _ => .bad
theorem ss_par {H0 : Hp} {ca0 : List Addr} {i j : Nat} {x y : Str} {a b : Expr} {g : Env' → M (List D)} {px py pt pos : Pos} {kt k2 pt2} (hc : X.calm = true) (hN : X.N.Nodup) (hi : X.N[i]? = some x) (hj : X.N[j]? = some y) (hij : i ≠ j)
    (hx : X.env.scope.names.lookup x = some .local) (hy : X.env.scope.names.lookup y = some .local) (ha : PA X [a, b] (TAs K fld W g))
    (hw : swappedStores [.Tuple [.Name x px, .Name y py] kt pt] (.Tuple [a, b] k2 pt2) X.env = pure (some [x, y]))
    (hs : swapsWithSole [.Tuple [.Name x px, .Name y py] kt pt] (.Tuple [a, b] k2 pt2) pos.line X.env = pure false) :
    PS X (.Assign [.Tuple [.Name x px, .Name y py] kt pt] (.Tuple [a, b] k2 pt2) pos) (TSt K fld W H0 ca0 (sPar i j g)) := by
  refine PS.imp (ps_par hc hN hi hj hij hx hy ha hw hs) fun E σ H ⟨ρ, st, ca, hf, hsr, hp⟩ => ⟨ρ, st, ca, hf.env, hsr, (PostS.then hf hp).mono fun as st1 ca1 H1 t1 s1 q vs hvs => ?_⟩
  obtain ⟨q1, q2⟩ := q
  split at q2
  · obtain ⟨v, r, rfl, rv, w, r2, rfl, rw', rfl⟩ := hvs
    exact ⟨v, w, rfl, q2 _ ca1 H1 Fx.refl ((q1.put rv).put rw') s1⟩
  · exact q2.elim
theorem ss_par3 {H0 : Hp} {ca0 : List Addr} {i j l : Nat} {x y z : Str} {a b c : Expr} {g : Env' → M (List D)} {px py pz pt pos : Pos} {kt k2 pt2} (hc : X.calm = true) (hN : X.N.Nodup) (hi : X.N[i]? = some x) (hj : X.N[j]? = some y) (hl : X.N[l]? = some z) (hij : i ≠ j) (hil : i ≠ l) (hjl : j ≠ l)
    (hx : X.env.scope.names.lookup x = some .local) (hy : X.env.scope.names.lookup y = some .local) (hz : X.env.scope.names.lookup z = some .local) (ha : PA X [a, b, c] (TAs K fld W g))
    (hw : swappedStores [.Tuple [.Name x px, .Name y py, .Name z pz] kt pt] (.Tuple [a, b, c] k2 pt2) X.env = pure (some [x, y, z]))
    (hs : swapsWithSole [.Tuple [.Name x px, .Name y py, .Name z pz] kt pt] (.Tuple [a, b, c] k2 pt2) pos.line X.env = pure false) :
    PS X (.Assign [.Tuple [.Name x px, .Name y py, .Name z pz] kt pt] (.Tuple [a, b, c] k2 pt2) pos) (TSt K fld W H0 ca0 (sPar3 i j l g)) := by
  refine PS.imp (ps_par3 hc hN hi hj hl hij hil hjl hx hy hz ha hw hs) fun E σ H ⟨ρ, st, ca, hf, hsr, hp⟩ => ⟨ρ, st, ca, hf.env, hsr, (PostS.then hf hp).mono fun as st1 ca1 H1 t1 s1 q vs hvs => ?_⟩
  obtain ⟨q1, q2⟩ := q
  split at q2
  · obtain ⟨v, r, rfl, rv, w, r2, rfl, rw', u, r3, rfl, ru, rfl⟩ := hvs
    exact ⟨v, w, u, rfl, q2 _ ca1 H1 Fx.refl (((q1.put rv).put rw').put ru) s1⟩
  · exact q2.elim

/-! ### slices -/
def cutD (xs : List D) (lo hi : Option Int) : List D := (xs.drop (HT.sIx xs.length 0 lo)).take (HT.sIx xs.length xs.length hi - HT.sIx xs.length 0 lo)
def sPN : Env' → M (Option Int) := fun _ => M.pure none
def sPS (f : Env' → M D) : Env' → M (Option Int) := fun ρ => M.bind (f ρ) fun d => match d with
  | .int i => M.pure (some i)
  | _ => M.bad
def TP (K : PySem.W.Frag) (fld : Str → List Str) (W : WX) (f : Env' → M (Option Int)) : TO := fun σ H Q => ∃ ρ st ca, EnvR K H ca ρ σ ∧ SR K st ca H ∧ Post K fld W σ H ca (fun o _ _ H' => Q o H') (f ρ st)
theorem PO.imp {e : Option Expr} {t u : TO} (h : PO X e t) (i : ∀ σ H Q, u σ H Q → t σ H Q) : PO X e u := ⟨fun pins s σ H Q I q => h.run pins s σ H Q I (i σ H Q q)⟩
theorem sp_none : PO X none (TP K fld W sPN) := PO.imp po_none fun σ H Q ⟨ρ, st, ca, he, hs, hp⟩ => Post.now hp hs
theorem sp_some {e : Expr} {f : Env' → M D} (h : PE X e (TR K fld W f)) : PO X (some e) (TP K fld W (sPS f)) := by
  refine PO.imp (po_some h) fun σ H Q ⟨ρ, st, ca, he, hs, hp⟩ => ⟨ρ, st, ca, he, hs, (Post.bind hp).mono fun d st1 ca1 H1 t1 s1 q v hv => ?_⟩
  cases d with
  | int i => exact ⟨i, hv, Post.now q s1⟩
  | _ => exact q.elim
def dSlice (d : D) (lo hi : Option Int) : Option RV := match d with
  | .tup ds => per (.tup (cutD ds lo hi))
  | .lst ds => some (.fr (cutD ds lo hi))
  | _ => none
def sSlice (f : Env' → M D) (lo hi : Env' → M (Option Int)) : Env' → M RV := fun ρ => M.bind (f ρ) fun d => M.bind (lo ρ) fun l => M.bind (hi ρ) fun u => M.rdr fun st => dSlice (deref st d) l u
theorem cut_rel {H : Hp} {ca : List Addr} {ds : List D} {vs : List V} {lo hi : Option Int} (r : RelDs K H ca ds vs) : RelDs K H ca (cutD ds lo hi) (cutV vs lo hi) := by
  unfold cutD cutV
  rw [r.length]
  exact (r.drop _).take _
theorem cut_whole {ds : List D} {lo hi : Option Int} (h : HT.sIx ds.length 0 lo = 0 ∧ HT.sIx ds.length ds.length hi = ds.length) : cutD ds lo hi = ds := by
  unfold cutD
  rw [h.1, h.2]
  simp
theorem se_slice {e : Expr} {lo hi : Option Expr} {pos p2 : Pos} {f : Env' → M D} {l u : Env' → M (Option Int)} (he : PE X e (TR X.K fld W f)) (hl : PO X lo (TP X.K fld W l)) (hu : PO X hi (TP X.K fld W u)) : PE X (.Subscript e (.Slice lo hi none p2) pos) (TN X.K fld W (sSlice f l u)) := by
  refine PE.imp (pe_slice (SlR.or sl_tupA sl_list) he hl hu) fun σ H Q ⟨ρ, st, ca, hen, hs, hp⟩ => ⟨ρ, st, ca, hen, hs, (Post.bind hp).mono fun d st1 ca1 H1 t1 s1 q v hv => ?_⟩
  refine ⟨ρ, st1, ca1, hen.stp t1, s1, (Post.bind q).mono fun a st2 ca2 H2 t2 s2 q => ?_⟩
  refine ⟨ρ, st2, ca2, hen.stp (t1.trans t2), s2, (Post.bind q).mono fun b st3 ca3 H3 t3 s3 q => ?_⟩
  obtain ⟨r, e, g⟩ := q.rdr ((t1.trans t2).trans t3)
  have hx := (hv.stp (t2.trans t3)).x s3
  unfold dSlice at e
  split at e
  · rename_i ds hd
    rw [hd] at hx
    obtain ⟨p, vs, rfl, qs, r1⟩ := hx
    cases e
    refine .inl ⟨p, vs, rfl, qs, fun hw => ?_, fun hw q' hq' => ?_⟩
    · rw [r1.length] at hw
      rw [cut_whole hw] at g
      exact g.here s3 ⟨p, vs, rfl, qs, r1⟩
    · exact g.newT s3 (cut_rel r1) hq'
  · rename_i ds hd
    rw [hd] at hx
    obtain ⟨p, vs, rfl, qs, r1⟩ := hx
    cases e
    exact .inr ⟨p, vs, rfl, qs.sq, fun q' hq' => g.newL s3 (cut_rel r1) hq'⟩
  · cases e

/-! ### list(range(..)) -/
def rgOkB (a b : Int) : Bool := bnd a && bnd b && decide ((b - a).toNat ≤ 2 ^ 24)
theorem rgOk_of {a b : Int} (h : rgOkB a b = true) : RgOk a b := by
  simp only [rgOkB, Bool.and_eq_true, decide_eq_true_eq] at h
  exact ⟨(bnd_of h.1.1).1, (bnd_of h.1.1).2, (bnd_of h.1.2).1, (bnd_of h.1.2).2, h.2⟩
def sLR1 (f : Env' → M D) : Env' → M RV := fun ρ => M.bind (f ρ) fun d => match d with
  | .int j => if rgOkB 0 j = true then M.pure (.fr (rngD 0 j.toNat)) else M.bad
  | _ => M.bad
def sLR2 (f g : Env' → M D) : Env' → M RV := fun ρ => M.bind (f ρ) fun d => M.bind (g ρ) fun e => match d, e with
  | .int i, .int j => if rgOkB i j = true then M.pure (.fr (rngD i (j - i).toNat)) else M.bad
  | _, _ => M.bad
theorem rg_rel {H : Hp} {ca : List Addr} (lo : Int) : ∀ l : List Nat, RelDs K H ca (l.map fun (i : Nat) => .int (lo + i)) (l.map fun (i : Nat) => V.int (lo + i))
  | [] => rfl
  | i :: l => ⟨_, _, rfl, rfl, rg_rel lo l⟩
theorem se_lr1 {a : Expr} {p pos rp rpos : Pos} {f : Env' → M D} (hc : X.calm = true) (hg : Gl X "list") (hm : X.mg "list" = none) (hg2 : Gl X "range") (hm2 : X.mg "range" = none) (ha : PE X a (TR K fld W f)) (na : starEach [a] X.env = (false, eval a X.env) :: starEach [] X.env)
    (nb : starEach [.Call (.Name "range" rp) [a] [] rpos] X.env = (false, eval (.Call (.Name "range" rp) [a] [] rpos) X.env) :: starEach [] X.env) : PE X (.Call (.Name "list" p) [.Call (.Name "range" rp) [a] [] rpos] [] pos) (TN K fld W (sLR1 f)) := by
  refine PE.imp (pe_listRg hc hg hm (prg_1 hg2 hm2 ha na) nb) fun σ H Q ⟨ρ, st, ca, he, hs, hp⟩ => ⟨ρ, st, ca, he, hs, (Post.bind hp).mono fun d st1 ca1 H1 t1 s1 q v hv => ?_⟩
  split at q
  · split at q
    · rename_i hb
      refine ⟨_, hv, rgOk_of hb, fun p' hp' => ?_⟩
      have hn := s1.notnew hp'
      exact (show ∀ ca' H', Stp ca1 ca' H1 H' → SR K st1 ca' H' → ∀ v, RelRV K H H' ca' (.fr _) v → Q v H' from q) ca1 _ (Stp.laid hp') (s1.laid hp') _ ⟨p', _, rfl, upd_same, t1.dom p' hp', hn, by
        unfold rgV rngD
        rw [Int.sub_zero]
        exact rg_rel 0 _⟩
    · exact q.elim
  · exact q.elim
theorem se_lr2 {a b : Expr} {p pos rp rpos : Pos} {f g : Env' → M D} (hc : X.calm = true) (hg : Gl X "list") (hm : X.mg "list" = none) (hg2 : Gl X "range") (hm2 : X.mg "range" = none) (ha : PE X a (TR K fld W f)) (hb : PE X b (TR K fld W g))
    (na : starEach [a, b] X.env = (false, eval a X.env) :: starEach [b] X.env) (nb' : starEach [b] X.env = (false, eval b X.env) :: starEach [] X.env) (hp' : (backTo rpos (starEach [b] X.env)).any (·.1) = false)
    (nb : starEach [.Call (.Name "range" rp) [a, b] [] rpos] X.env = (false, eval (.Call (.Name "range" rp) [a, b] [] rpos) X.env) :: starEach [] X.env) : PE X (.Call (.Name "list" p) [.Call (.Name "range" rp) [a, b] [] rpos] [] pos) (TN K fld W (sLR2 f g)) := by
  refine PE.imp (pe_listRg hc hg hm (prg_2 hg2 hm2 ha hb na nb' hp') nb) fun σ H Q ⟨ρ, st, ca, he, hs, hp⟩ => ⟨ρ, st, ca, he, hs, (Post.bind hp).mono fun d st1 ca1 H1 t1 s1 q v hv => ?_⟩
  refine ⟨ρ, st1, ca1, he.stp t1, s1, (Post.bind q).mono fun d2 st2 ca2 H2 t2 s2 q w hw => ?_⟩
  split at q
  · split at q
    · rename_i hb
      refine ⟨_, _, hv, hw, rgOk_of hb, fun p' hp' => ?_⟩
      have hn := s2.notnew hp'
      exact (show ∀ ca' H', Stp ca2 ca' H2 H' → SR K st2 ca' H' → ∀ v, RelRV K H H' ca' (.fr _) v → Q v H' from q) ca2 _ (Stp.laid hp') (s2.laid hp') _ ⟨p', _, rfl, upd_same, (t1.trans t2).dom p' hp', hn, rg_rel _ _⟩
    · exact q.elim
  · exact q.elim
/-! ### products -/
def dMulA : D → D → Option RV
  | .int i, .int j => if i.natAbs.log2 + j.natAbs.log2 < 1000000 then per (.int (i * j)) else none
  | .tup a, .int k => if a ≠ [] ∧ 2 ≤ k ∧ k ≤ 1000 ∧ a.length ≤ 1000 then per (.tup (List.replicate k.toNat a).flatten) else none
  | .lst a, .int k => if 0 ≤ k ∧ k ≤ 1000 ∧ a.length ≤ 1000 then some (.fr (List.replicate k.toNat a).flatten) else none
  | _, _ => none
/-- a list that is read, so often -/
theorem op_repR : OpR X (binaryOp .Mult) (fun x y H Q => ∃ l k xs, x = .ref l ∧ y = .int k ∧ RdL X.K H l xs ∧ 0 ≤ k ∧ k ≤ 1000 ∧ xs.length ≤ 1000 ∧ ∀ p, H p = none → Q (.ref p) (upd H p (.lst (List.replicate k.toNat xs).flatten))) := by
  intro pins s σ H x y v u Q I rx ry ⟨l, k, xs, e1, e2, rl, k0, k1, xl, q⟩
  subst e1 e2
  cases rx
  obtain ⟨tk, rfl⟩ := ry
  obtain ⟨us, ep, rel, ob, _⟩ := rl.ok I
  have ul := rel.length
  have small : xs.length * k.toNat ≤ 1000 * 1000 := Nat.mul_le_mul xl (by omega)
  have big : 1000 * 1000 ≤ sizeLine := by unfold sizeLine; decide
  have n1 : us.toArray.size * k.toNat ≤ 1000 * 1000 := by rw [List.size_toArray, ← ul]; exact small
  have n2 : ¬ us.toArray.size * k.toNat > (2 ^ 63 - 1) / 8 := Nat.not_lt.mpr (Nat.le_trans n1 (by decide))
  have n3 : ¬ (!Builtin.List.listFitsIndex k) = true := by
    rw [fitsIndex_both (by omega) (by omega)]
    decide
  have n4 : ¬ Builtin.List.listTooLong (us.toArray.size * k.toNat) = true := by
    rw [notLongL (Nat.le_trans n1 big)]
    decide
  have n5 : List.foldl (fun x1 x2 => x1 ++ x2) #[] (List.replicate (if us.toArray.isEmpty = true then 0 else k.toNat) us.toArray) = (List.replicate k.toNat us).flatten.toArray := by
    have g : ∀ m : Nat, List.foldl (fun x1 x2 => x1 ++ x2) #[] (List.replicate m us.toArray) = (List.replicate m us).flatten.toArray := fun m => by simpa using foldl_rep us m []
    rw [g]
    cases us <;> simp
  refine wpAny_binaryOp_repeat_ref (T := "list") (U := "int") (by decide) ⟨_, ob, rfl⟩ (fun s1 => typeIs_int s1 k tk) noFill_list_mul F.fills_int_mul F.slot_int_rmul repeat_list F.slot_int_index.lookup ?_
  refine call_meets F.slot_int_rmul (typeIs_int s k tk) F.entry_int_rmul (F.args_int_rmul_2 _ _) (int___rmul___int_list k tk l us.toArray ep) ⟨ob, rfl, ⟨_, ob, rfl⟩, ?_⟩
  refine call_meets F.slot_list_mul ⟨_, ob, rfl⟩ F.entry_list_mul (F.args_list_mul_2 _ _) (AutoListH.list___mul___list_int_3 l us.toArray ep k tk n3 n2 n4) ⟨ob, ?_⟩
  rw [n5]
  refine ⟨.ref _, _, I.lnew (t' := s.toks) (rel.rep k.toNat) ?_, rfl, q _ I.fresh⟩
  rw [PyProof.Rows.lm_len_rep_flat, Nat.mul_comm]
  exact Nat.le_trans small big
theorem RelDs.rep {H : Hp} {ca : List Addr} {ds : List D} {vs : List V} (r : RelDs K H ca ds vs) : ∀ n : Nat, RelDs K H ca (List.replicate n ds).flatten (List.replicate n vs).flatten
  | 0 => rfl
  | n + 1 => by
    rw [List.replicate_succ, List.flatten_cons, List.replicate_succ, List.flatten_cons]
    exact r.append (RelDs.rep r n)
theorem op_dMul : OpR X (binaryOp .Mult) (rO X.K dMulA) := opi (OpR.or (OpR.or op_mulW op_repT) op_repR) fun x y H Q ⟨ca, st, a, b, r, s, rx, ry, e, g⟩ => by
  unfold dMulA at e
  split at e
  · split at e
    · rename_i i j hl
      cases e
      cases (show x = .int i from rx)
      cases (show y = .int j from ry)
      exact .inl (.inl ⟨i, j, rfl, rfl, hl, g.here s rfl⟩)
    · cases e
  · split at e
    · rename_i ds k hl
      cases e
      cases (show y = .int k from ry)
      obtain ⟨p, vs, rfl, q, r1⟩ := rx
      refine .inl (.inr ⟨p, k, vs, rfl, rfl, q, fun z => ?_, hl.2.1, hl.2.2.1, by rw [r1.length]; exact hl.2.2.2, fun p' hp' => g.newT s (r1.rep _) hp'⟩)
      have := r1.length
      rw [z] at this
      cases ds with
      | nil => exact hl.1 rfl
      | cons _ _ => simp at this
    · cases e
  · split at e
    · rename_i ds k hl
      cases e
      cases (show y = .int k from ry)
      obtain ⟨p, vs, rfl, q, r1⟩ := rx
      exact .inr ⟨p, k, vs, rfl, rfl, q, hl.1, hl.2.1, by rw [r1.length]; exact hl.2.2, fun p' hp' => g.newL s (r1.rep _) hp'⟩
    · cases e
  · cases e
/-! ### globals -/
theorem se_glob {x : Str} {v : V} {u : Value} {d : D} {pos : Pos} (hg : Gl X x) (hm : X.mg x = some u) (r : RelV v u) (hd : (x == ("__debug__" : Str)) = false) (rd : ∀ H ca, RelD K H ca d v) : PE X (.Name x pos) (TN K fld W (sC d)) := se_c (pe_glob hg hm r hd) rd
theorem se_blt {x : Str} {n : String} {pos : Pos} (hg : Gl X x) (hm : X.mg x = none) (hv : bootBuiltins x = some (.type n)) (hn : x ≠ "__name__") (hd : (x == ("__debug__" : Str)) = false) : PE X (.Name x pos) (TN K fld W (sC (.ty n))) := se_c (pe_bltn hg hm hv (v := .ty n) rfl hn hd) fun _ _ => rfl
/-- a built-in under a module's name -/
theorem se_callG {id : String} {x : Str} {p pos : Pos} {e : Expr} {es : List Expr} {op : List D → Option RV} {g : Env' → M (List D)} (hc : CallR X (.builtin id) (rCl K op)) (hg : Gl X x) (hm : X.mg x = some (.builtin id)) (ha : PA X (e :: es) (TAr K fld W g))
    (hdb : (x == ("__debug__" : Str)) = false) (he : starEach (e :: es) X.env = (false, eval e X.env) :: starEach es X.env) (hpl : (backTo pos (starEach es X.env)).any (·.1) = false) : PE X (.Call (.Name x p) (e :: es) [] pos) (TN K fld W (sCall op g)) := by
  refine ⟨fun pins s σ H Q I h => ?_⟩
  refine wpAny_Call_Name_kw (ld_glob I hg hm ?_ hdb)
  have hA := ha.run pos pins s σ H (fun vs H1 => (rCl K op) vs H1 Q) I (by
    obtain ⟨ρ, st, ca, hen, hs, hp⟩ := h
    refine ⟨ρ, st, ca, hen, hs, (Post.bind hp).mono fun ds st1 ca1 H1 t1 s1 q vs hvs => ?_⟩
    obtain ⟨r, e, g⟩ := q.rdr t1
    exact ⟨ca1, st1, _, r, s1, hvs.x s1, e, g⟩)
  exact PyProof.Rows.callWith_builtin1 (thn hA fun us s1 ⟨vs, H1, I1, r1, q1⟩ => hc pins s1 σ H1 vs us Q I1 r1 q1) he hpl
end
/-- code that is never come to -/
def sNever : SS := fun _ _ => .bad
theorem ss_never {X : Cx} {K : PySem.W.Frag} {fld : Str → List Str} {W : WX} {H0 : Hp} {ca0 : List Addr} {s : Stmt} : PS X s (TSt K fld W H0 ca0 sNever) := PS.imp ps_never fun E σ H ⟨ρ, st, ca, hf, hsr, hp⟩ => hp

/-! ### the text of data -/
section
variable {X : Cx} {pins : List (Addr × Obj)} {σ : L2.St} {H : Hp} {ca : List Addr} {s : Shared}
mutual
theorem reads_of (I : Inv X pins σ H s) : ∀ (l : Nat) (d : D) (v : V) (u : Value), D.pl l d = true → RelD X.K H ca d v → RelV v u → ∃ as, Reads s.heap u d.py as
  | _, .non, v, u, _, r, ru => by cases (show v = .non from r); cases (show u = .none from ru); exact ⟨_, .none⟩
  | _, .bl b, v, u, _, r, ru => by cases (show v = .bl b from r); cases (show u = .bool b from ru); exact ⟨_, .bool b⟩
  | _, .int i, v, u, _, r, ru => by cases (show v = .int i from r); obtain ⟨t, rfl⟩ := ru; exact ⟨_, .int i t⟩
  | _, .str x, v, u, _, r, ru => by cases (show v = .str x from r); obtain ⟨t, rfl⟩ := ru; exact ⟨_, .str x t⟩
  | l + 1, .tup ds, v, u, h, r, ru => by
    obtain ⟨a, vs, rfl, q, rs⟩ := r
    cases ru
    obtain ⟨its, rv, ht, hz⟩ := I.tuple q
    obtain ⟨o, e1, e2, n, e3⟩ := id ht
    obtain ⟨as, k⟩ := readss_of I l ds vs its (by simpa [D.pl] using h) rs rv
    exact ⟨_, .tuple e1 e2 e3 (by simpa using k)⟩
  | l + 1, .lst ds, v, u, h, r, ru => by
    obtain ⟨a, vs, rfl, q, rs⟩ := r
    cases ru
    obtain ⟨its, rv, ⟨o, n, e1, e2, _, e3⟩, hz⟩ := I.list q.sq
    obtain ⟨as, k⟩ := readss_of I l ds vs its (by simpa [D.pl] using h) rs rv
    exact ⟨_, .list e1 e2 e3 (by simpa using k)⟩
  | 0, .tup _, _, _, h, _, _ => by simp [D.pl] at h
  | 0, .lst _, _, _, h, _, _ => by simp [D.pl] at h
  | _, .cell _, _, _, h, _, _ => by simp [D.pl] at h
  | _, .ty _, _, _, h, _, _ => by simp [D.pl] at h
theorem readss_of (I : Inv X pins σ H s) : ∀ (l : Nat) (ds : List D) (vs : List V) (us : List Value), D.pls l ds = true → RelDs X.K H ca ds vs → Vals vs us → ∃ as, ReadsAll s.heap us (D.pys ds) as
  | _, [], vs, us, _, r, ru => by cases (show vs = [] from r); cases ru; exact ⟨_, .nil⟩
  | l, d :: ds, vs, us, h, r, ru => by
    obtain ⟨v, r', rfl, q, rs⟩ := r
    cases ru with
    | cons r1 r2 =>
      simp only [D.pls, Bool.and_eq_true] at h
      obtain ⟨as, k1⟩ := reads_of I l d v _ h.1 q r1
      obtain ⟨bs, k2⟩ := readss_of I l ds r' _ h.2 rs r2
      exact ⟨_, .cons k1 k2⟩
end
theorem readsX_of (I : Inv X pins σ H s) {l : Nat} {d : D} {v : V} {u : Value} (h : D.pl l d = true) (r : RelX X.K H ca d v) (ru : RelV v u) : ∃ as, Reads s.heap u d.py as := by
  cases d with
  | lst ds =>
    cases l with
    | zero => simp [D.pl] at h
    | succ l =>
      obtain ⟨a, vs, rfl, q, rs⟩ := r
      cases ru
      obtain ⟨its, rv, ⟨o, n, e1, e2, _, e3⟩, hz⟩ := I.list q.sq
      obtain ⟨as, k⟩ := readss_of I l ds vs its (by simpa [D.pl] using h) rs rv
      exact ⟨_, .list e1 e2 e3 (by simpa using k)⟩
  | _ => exact reads_of (ca := ca) I l _ v u h r ru
end
section
variable {X : Cx}
def dRepr : List D → Option RV
  | [.lst ds] => if (D.pl 60 (.lst ds) && (D.lst ds).py.showable && decide ((D.lst ds).py.shown.length ≤ sizeLine)) = true then per (.str (D.lst ds).py.shown) else none
  | [.tup ds] => if (D.pl 60 (.tup ds) && (D.tup ds).py.showable && decide ((D.tup ds).py.shown.length ≤ sizeLine)) = true then per (.str (D.tup ds).py.shown) else none
  | [.int i] => if i.natAbs.log2 < 1920 then per (.str (toString i)) else none
  | [.bl b] => per (.str (PyData.bool b).shown)
  | [.non] => per (.str PyData.none.shown)
  | [.str x] => if (reprText x).length ≤ sizeLine then per (.str (reprText x)) else none
  | _ => none
theorem cl_repr (hg : X.A.guards = some []) (hu : X.A.units + 65 < cLine) : CallR X (.builtin "repr") (rCl X.K dRepr) := by
  intro pins s σ H xs us Q I rv h
  obtain ⟨ca, st, as, r, sr, rx, e, g⟩ := id h
  have main : ∀ (d : D) (a : Addr), (D.pl 60 d && d.py.showable && decide (d.py.shown.length ≤ sizeLine)) = true → per (.str d.py.shown) = some r → RelX X.K H ca d (.ref a) → wpAny (model X.prog X.w) X.A (call (.builtin "repr") [.ref a]) (EP X pins σ Q) X.xe s := by
    intro d a hd er rd
    simp only [Bool.and_eq_true, decide_eq_true_eq] at hd
    obtain ⟨as, rds⟩ := readsX_of I hd.1.1 rd (u := .ref a) rfl
    have hdep := (D.pl_lay 60 d hd.1.1)
    cases er
    refine repr_of_reads' (h₀ := s.heap) rds hd.1.2 (PyData.noDict_hsm (PyData.hasDict_of_canLay d.py hdep.1)) hg (by omega) (fun _ _ e => e) (fun h' u tk hk => ?_) hd.2
    have I2 : Inv X pins σ H { s with heap := h', toks := tk } := I.kept hk
    exact ⟨.str d.py.shown, H, I2, ⟨u, rfl⟩, g.here sr rfl⟩
  unfold dRepr at e
  split at e
  · split at e
    · rename_i ds hl
      obtain ⟨v, r', rfl, q, rfl⟩ := rx
      obtain ⟨a, vs, rfl, q1, q2⟩ := id q
      obtain ⟨u, rfl, ru⟩ := rv.one
      cases ru
      exact main _ a hl e q
    · cases e
  · split at e
    · rename_i ds hl
      obtain ⟨v, r', rfl, q, rfl⟩ := rx
      obtain ⟨a, vs, rfl, q1, q2⟩ := id q
      obtain ⟨u, rfl, ru⟩ := rv.one
      cases ru
      exact main _ a hl e q
    · cases e
  · split at e
    · rename_i i hl
      cases e
      obtain ⟨v, r', rfl, q, rfl⟩ := rx
      cases (show v = .int i from q)
      exact SkE.call_repr_int pins s σ H _ us Q I rv ⟨i, rfl, hl, g.here sr rfl⟩
    · cases e
  · rename_i b
    cases e
    obtain ⟨v, r', rfl, q, rfl⟩ := rx
    cases (show v = .bl b from q)
    obtain ⟨u, rfl, ru⟩ := rv.one
    cases (show u = .bool b from ru)
    refine P.repr_of_bool ⟨.str _, H, I.tok _, ⟨_, rfl⟩, ?_⟩
    have e : (PyData.bool b).shown = ((if b then "True" else "False" : String) : Str) := by unfold PyData.shown; cases b <;> rfl
    rw [e] at g
    refine g.here sr ?_
    cases b <;> rfl
  · cases e
    obtain ⟨v, r', rfl, q, rfl⟩ := rx
    cases (show v = .non from q)
    obtain ⟨u, rfl, ru⟩ := rv.one
    cases (show u = .none from ru)
    refine P.repr_of_none ⟨.str _, H, I.tok _, ⟨_, rfl⟩, ?_⟩
    have e : PyData.none.shown = (("None" : String) : Str) := by unfold PyData.shown; rfl
    rw [e] at g
    exact g.here sr rfl
  · split at e
    · rename_i x hl
      cases e
      obtain ⟨v, r', rfl, q, rfl⟩ := rx
      cases (show v = .str x from q)
      obtain ⟨u, rfl, t, rfl⟩ := rv.one
      exact P.repr_of_str ⟨.str _, H, I.tok _, ⟨_, rfl⟩, g.here sr rfl⟩ hl
    · cases e
  · cases e
end
end Ev
/-! Defs and their calls. -/
namespace Ev
open PySem PySem.Spec PyProof.Rows L2
variable [Tbs] [Hnd]

/-- what is wanted of a call -/
def PostC (K : PySem.W.Frag) (fld : Str → List Str) (H : Hp) (ca : List Addr) (Q : VK) (E : XK) : R D → Prop
  | .ok d st => ∀ v ca' H', Stp ca ca' H H' → SR K st ca' H' → RelD K H' ca' d v → Q v H'
  | .exc c as st => ∀ cls dd ca' H', Stp ca ca' H H' → SR K st ca' H' → ExR K fld H' ca' c as cls dd → E cls dd H'
  | .bad => False
/-- a def keeps to F, with room for k more calls one within another -/
structure FnG (P : Program) (w : World) (K : PySem.W.Frag) (mg : Str → Option Value) (base : Heap) (fld : Str → List Str) (k : Nat) (f : Addr) (fd : FuncData) (ps : List Str) (F : List D → M D) : Prop where
  run : ∀ (A : Around) (outer : List Env) (s : Shared) (H : Hp) (args : Args) (us : List Value) (vs : List V) (Q : VK) (E : XK) (ds : List D) (st : Store) (ca : List Addr), Room k A → A.guards = some [] → Env0 P w K mg base A outer s H → BindsTo s fd args (ps.zip us) → Vals vs us →
    vs.length = ps.length → RelDs K H ca ds vs → SR K st ca H → PostC K fld H ca Q E (F ds st) → codeAny (model P w) A (.call (.ref f) args) (CR (L2.CX P w) outer P w H s Q E) s
theorem FnG.mono {P : Program} {w : World} {K : PySem.W.Frag} {mg : Str → Option Value} {base : Heap} {fld : Str → List Str} {j k : Nat} {f : Addr} {fd : FuncData} {ps : List Str} {F : List D → M D} (h : FnG P w K mg base fld j f fd ps F) (l : j ≤ k) : FnG P w K mg base fld k f fd ps F :=
  ⟨fun A outer s H args us vs Q E ds st ca hr => h.run A outer s H args us vs Q E ds st ca (hr.mono l)⟩
/-- a call's meaning -/
def sFn (F : List D → M D) (g : Env' → M (List D)) : Env' → M RV := fun ρ => M.bind (g ρ) fun as => M.bind (F as) fun d => M.pure (.per d)
section
variable {X : Cx} {fld : Str → List Str} {W : WX} {k : Nat} {f : Addr} {fd : FuncData} {ps : List Str} {F : List D → M D} {x : Str} {p pos : Pos} {e : Expr} {es : List Expr} {g : Env' → M (List D)}
theorem run_fnG {pins : List (Addr × Obj)} {σ : L2.St} {H : Hp} {s : Shared} {Q : VK} {us : List Value} {vs : List V} {ds : List D} {st : Store} {ca : List Addr} (G : FnG X.prog X.w X.K X.mg X.base fld k f fd ps F) (hr : Room k X.A) (hg : X.A.guards = some []) (hb : Binds X.K fd ps [])
    (tk : Takes X W) (I : L2.Inv X pins σ H s) (r : Vals vs us) (hl : vs.length = ps.length) (rd : RelDs X.K H ca ds vs) (sr : SR X.K st ca H)
    (h : Post X.K fld W σ H ca (fun d _ ca' H' => ∀ v, RelD X.K H' ca' d v → Q v H') (F ds st)) : wpAny (model X.prog X.w) X.A (call (.ref f) us) (EP X pins σ Q) X.xe s := by
  have hlu : (us ++ []).length = ps.length := by rw [List.append_nil, ← r.length]; exact hl
  have hbs := hb s us I.kIn hlu
  rw [List.append_nil] at hbs
  refine wpAny_call (codeAny_mono (G.run X.A X.stack s H ⟨us, []⟩ us vs Q (fun cls dd H' => W cls dd σ H') ds st ca hr hg I.env0 hbs r hl rd sr ?_) fun r s' hq => ?_)
  · cases hF : F ds st with
    | bad => rw [hF] at h; exact h
    | exc c as st1 => rw [hF] at h; exact h
    | ok d st1 => rw [hF] at h; exact fun v ca' H' t s q => h ca' H' t s v q
  · cases r with
    | error e => exact tk e s' (XE.of_call I (fun _ _ _ h => h) hq)
    | ok fl => cases fl <;> first | exact I.after hq | exact False.elim hq
theorem se_call (G : FnG X.prog X.w X.K X.mg X.base fld k f fd ps F) (hr : Room k X.A) (hgu : X.A.guards = some []) (hg : Gl X x) (hm : X.mg x = some (.ref f)) (hk : PySem.W.keepIn X.K (.ref f) = true) (hb : Binds X.K fd ps []) (tk : Takes X W)
    (ha : PA X (e :: es) (TAs X.K fld W g)) (hl : ∀ ρ st ds st', g ρ st = .ok ds st' → ds.length = ps.length) (hdb : (x == ("__debug__" : Str)) = false) (he : starEach (e :: es) X.env = (false, eval e X.env) :: starEach es X.env) (hpl : (backTo pos (starEach es X.env)).any (·.1) = false) :
    PE X (.Call (.Name x p) (e :: es) [] pos) (TN X.K fld W (sFn F g)) := by
  refine ⟨fun pins s σ H Q I h => ?_⟩
  refine wpAny_Call_Name_kw (ld_glob I hg hm ?_ hdb)
  obtain ⟨ρ, st, ca, hen, hs, hp⟩ := h
  have hA := ha.run pos pins s σ H (fun vs H1 => ∃ ds st1 ca1, Stp ca ca1 H H1 ∧ vs.length = ps.length ∧ RelDs X.K H1 ca1 ds vs ∧ SR X.K st1 ca1 H1 ∧ Post X.K fld W σ H1 ca1 (fun r _ ca' H' => ∀ v, RelRV X.K H H' ca' r v → Q v H') (M.bind (F ds) (fun d => M.pure (.per d)) st1)) I (by
    refine ⟨ρ, st, ca, hen, hs, ?_⟩
    have hp := Post.bind hp
    cases hgr : g ρ st with
    | bad => rw [hgr] at hp; exact hp
    | exc c as st1 => rw [hgr] at hp; exact hp
    | ok ds st1 =>
      rw [hgr] at hp
      exact fun ca1 H1 t1 s1 vs hvs => ⟨ds, st1, ca1, t1, by rw [hvs.length]; exact hl _ _ _ _ hgr, hvs, s1, hp ca1 H1 t1 s1⟩)
  refine PySem.W.callWith_K (h₀ := X.base) I.ok.mod.kin hk (thn hA fun us s1 ⟨vs, H1, I1, r, ds, st1, ca1, t1, hlv, rd, s1', q⟩ => ⟨I1.kIn, ?_⟩) he hpl
  refine run_fnG G hr hgu hb tk I1 r hlv rd s1' ((Post.bind q).mono fun d st2 ca2 H2 t2 s2 q v hv => ?_)
  exact Post.now q s2 v hv
end

/-! ### a def -/
def semF (n : Nat) (body : SS) : List D → M D := fun ds st => match body (ds.map .val ++ List.replicate (n - ds.length) .un) st with
  | .nx _ st' => .ok .non st'
  | .rt d st' => .ok d st'
  | .exc c as _ st' => .exc c as st'
  | _ => .bad
/-- the context of a def's body -/
structure BodyX (P : Program) (w : World) (K : PySem.W.Frag) (mg : Str → Option Value) (base : Heap) (k : Nat) (N : List Str) (sc : Scope) (W : WX) (X : Cx) : Prop where
  prog : X.prog = P
  w : X.w = w
  K : X.K = K
  mg : X.mg = mg
  base : X.base = base
  N : X.N = N
  sc : X.env.scope = sc
  calm : X.calm = true
  fn : ∀ x, X.fn x = true
  room : Room k X.A
  gd : X.A.guards = some []
  tk : Takes X W
  po : PassesOwn (model X.prog X.w) X.A X.env X.xe
  stk : X.stack = X.env :: X.outer ∧ X.env.frame = some X.env.locals
/-- the def's code object, its name -/
structure BodyL (K : PySem.W.Frag) (f : Addr) (qual : Str) (X : Cx) : Prop where
  cd : ∃ c fd oc od osl, X.env.code = .ref c ∧ K.lookup f = some ⟨oc, od, .func fd, osl⟩ ∧ fd.code = .ref c
  ql : X.env.qual = qual ++ ".<locals>."
section
variable {P : Program} {w : World} {K : PySem.W.Frag} {mg : Str → Option Value} {base : Heap} {fld : Str → List Str} {k : Nat} {f : Addr} {fd : FuncData} {x qual : Str} {params : Arguments} {body : List Stmt} {scope : Scope} {dvs : List V} {kws : List (Str × V)} {N ps : List Str} {F : SS}
theorem env_start {H : Hp} {ca : List Addr} : ∀ (n : Nat) (ds : List D) (vs : List V), RelDs K H ca ds vs → EnvR K H ca (ds.map .val ++ List.replicate (n - ds.length) .un) (vs.map some ++ List.replicate (n - vs.length) none) := by
  intro n ds vs r
  have hl := r.length
  have no : ∀ (i : Nat) (es : List D), (ds.map SV.val ++ List.replicate (n - ds.length) SV.un)[i]? ≠ some (.own es) := fun i es e => by
    by_cases hi : i < ds.length
    · rw [List.getElem?_append_left (by simpa using hi), List.getElem?_map, List.getElem?_eq_getElem hi] at e
      cases e
    · rw [List.getElem?_append_right (by simpa using Nat.le_of_not_lt hi)] at e
      have := List.mem_of_getElem? e
      rw [List.mem_replicate] at this
      cases this.2
  refine ⟨by simp; omega, fun i s e => ?_, fun i j ds' es a _ e1 _ _ => (no i ds' e1).elim⟩
  by_cases hi : i < ds.length
  · rw [List.getElem?_append_left (by simpa using hi), List.getElem?_map, List.getElem?_eq_getElem hi] at e
    cases e
    obtain ⟨v, hv, rv⟩ := r.get (List.getElem?_eq_getElem hi)
    exact ⟨some v, by rw [List.getElem?_append_left (by simp; omega), List.getElem?_map, hv]; rfl, v, rfl, rv⟩
  · rw [List.getElem?_append_right (by simpa using Nat.le_of_not_lt hi)] at e
    have hm := List.mem_of_getElem? e
    rw [List.mem_replicate] at hm
    cases hm.2
    have hlt : i < (vs.map some ++ List.replicate (n - vs.length) none).length := by
      have := (List.getElem?_eq_some_iff.mp e).1
      simp at this ⊢
      omega
    exact ⟨_, List.getElem?_eq_getElem hlt, trivial⟩
theorem fnG (FD : FunD K x qual params body scope dvs kws f fd) (S : FnScope N ps scope)
    (hbody : ∀ (X : Cx) (W : WX) (H0 : Hp) (ca0 : List Addr), BodyX P w K mg base k N scope W X → BodyL K f qual X → PSs X body (TSt K fld W H0 ca0 F)) : FnG P w K mg base fld (k + 1) f fd ps (semF N.length F) := by
  obtain ⟨oc, od, dV, kV, doc, pm, an, cdv, ct, osl, rfl, lk, hcd, _, _⟩ := FD.ex
  refine ⟨fun A outer s H args us vs Q E ds st ca hr hg e0 hb r hl rd sr hp => LamX.run_ofS lk hcd S hr e0 hb r hl fun hr2 => ⟨TSt K fld (fun cls dd _ H' => E cls dd H') H ca F, ?_, ?_⟩⟩
  · refine hbody _ _ _ _ ⟨rfl, rfl, rfl, rfl, rfl, rfl, rfl, rfl, fun _ => rfl, hr2, hg, ?_, ?_, ⟨rfl, rfl⟩⟩ ?_
    · exact takes_of rfl rfl rfl rfl
    · exact passes_of rfl
    · refine ⟨?_, rfl⟩
      cases cdv with
      | ref c => exact ⟨c, _, oc, od, osl, rfl, lk, rfl⟩
      | _ => cases hcd
  · have hpl : ps.length ≤ N.length := by have := congrArg List.length S.pre; rw [List.length_take] at this; omega
    refine ⟨_, st, ca, ⟨env_start N.length ds vs rd, Stp.refl, fun i ds' a e1 _ => ?_⟩, sr, ?_⟩
    · have no : ∀ (i : Nat) (es : List D), (ds.map SV.val ++ List.replicate (N.length - ds.length) SV.un)[i]? ≠ some (.own es) := fun i es e => by
        by_cases hi : i < ds.length
        · rw [List.getElem?_append_left (by simpa using hi), List.getElem?_map, List.getElem?_eq_getElem hi] at e
          cases e
        · rw [List.getElem?_append_right (by simpa using Nat.le_of_not_lt hi)] at e
          have := List.mem_of_getElem? e
          rw [List.mem_replicate] at this
          cases this.2
      exact (no i ds' e1).elim
    · unfold semF at hp
      cases hF : F (ds.map .val ++ List.replicate (N.length - ds.length) .un) st with
      | nx ρ st1 => rw [hF] at hp; exact fun σ ca' H' _ ff s1 => hp .non ca' H' ff.stp s1 rfl
      | rt d st1 => rw [hF] at hp; exact fun v ca' H' t s1 rv => hp v ca' H' t s1 rv
      | bk ρ st1 => rw [hF] at hp; exact hp.elim
      | ct ρ st1 => rw [hF] at hp; exact hp.elim
      | bad => rw [hF] at hp; exact hp.elim
      | exc c as ρ st1 => rw [hF] at hp; exact fun cls dd σ ca' H' _ ff s1 x => hp cls dd ca' H' ff.stp s1 x
end
end Ev
namespace Ev
open PySem PySem.Spec PyProof.Rows L2
variable [Tbs] [Hnd]
def nst : Expr → Bool
  | .Starred .. => false
  | _ => true
theorem star_cons {e : Expr} {es : List Expr} {env : Env} (h : nst e = true) : starEach (e :: es) env = (false, eval e env) :: starEach es env := by
  cases e <;> first | rfl | cases h
theorem star_any {pos : Pos} {env : Env} : ∀ {es : List Expr}, es.all nst = true → (backTo pos (starEach es env)).any (·.1) = false
  | [], _ => rfl
  | e :: es, h => by
    rw [List.all_cons, Bool.and_eq_true] at h
    rw [star_cons h.1]
    show (false || (backTo pos (starEach es env)).any (·.1)) = false
    rw [star_any h.2]; rfl
def pix : Expr → Bool
  | .Slice .. => false
  | .Tuple .. => false
  | _ => true
theorem plain_ix {e : Expr} (h : pix e = true) : PlainIx e := by
  cases e <;> first | (intro o i; rfl) | cases h
def nlc : Expr → Bool
  | .ListComp .. => false
  | .SetComp .. => false
  | .DictComp .. => false
  | _ => true
theorem sw_no {e : Expr} {t : Option Expr} {l : Nat} {env : Env} (h : nlc e = true) : swapsWith e t l env = pure false := by
  cases e <;> first | rfl | cases h
theorem sws_no {e t : Expr} {l : Nat} {env : Env} (h : nlc e = true) : swapsWithSole [t] e l env = pure false := sw_no h
def ntp : Expr → Bool
  | .Tuple .. => false
  | _ => true
theorem sst_no {e t : Expr} {env : Env} (h : ntp e = true) : swappedStores [t] e env = pure none := by
  unfold swappedStores
  cases e <;> first | (cases t <;> rfl) | cases h
theorem sst_sub {e o i : Expr} {p : Pos} {env : Env} : swappedStores [.Subscript o i p] e env = pure none := by
  unfold swappedStores
  cases e <;> rfl
def nset : Expr → Bool
  | .Set .. => false
  | _ => true
theorem fold_no {e : Expr} {env : Env} (h : nset e = true) : ∀ x, foldedSetIterable e env x = pure x := by
  intro x
  cases e <;> first | rfl | cases h
def trb : Expr → Bool
  | .Name .. => true
  | .Call .. => true
  | .Subscript .. => true
  | .Constant .. => true
  | .BinOp .. => true
  | .IfExp .. => false
  | .List .. => true
  | .Tuple .. => true
  | .ListComp .. => true
  | _ => false
theorem tr_ok {e : Expr} {env : Env} (h : trb e = true) : ∀ whole, isTrue e env whole = (do let v ← whole; standAt e.pos; holding [v] (truthy v)) := by
  intro whole
  cases e <;> first | rfl | cases h
theorem sw_two {x y : Str} {px py pt pt2 : Pos} {kt k2} {a b : Expr} {env : Env} (hb : env.blockKind = .function) (hx : env.kindOf x = some .local) (hy : env.kindOf y = some .local) (hl : px.line = py.line) (hxy : x ≠ y) (na : nst a = true) (nb : nst b = true)
    (hf : (foldedForSure 8 a && foldedForSure 8 b) = false) (hc : (constantsAlone 8 a && constantsAlone 8 b) = false) : swappedStores [.Tuple [.Name x px, .Name y py] kt pt] (.Tuple [a, b] k2 pt2) env = pure (some [x, y]) := by
  have h1 : ([a, b].all (foldedForSure 8)) = false := by simpa using hf
  have h2 : ([a, b].all (constantsAlone 8)) = false := by simpa using hc
  have h3 : ∀ (e : Expr), nst e = true → (match e with | .Starred .. => true | _ => false) = false := fun e h => by cases e <;> first | rfl | cases h
  have q1 : (env.kindOf x == some NameKind.local) = true := by rw [hx]; rfl
  have q2 : (env.kindOf y == some NameKind.local) = true := by rw [hy]; rfl
  have q3 : (y == x) = false := by simpa using Ne.symm hxy
  have h4 : ([a, b].any fun | .Starred .. => true | _ => false) = false := by
    rw [List.any_cons, List.any_cons]
    have e1 := h3 a na
    have e2 := h3 b nb
    exact (congrArg (fun z => z || _) e1).trans (congrArg (fun z => false || (z || false)) e2)
  unfold swappedStores
  simp [hb, h1, h2, q1, q2, q3, hl, Expr.pos, List.eraseDups_cons, List.filterMap_cons]
  rw [if_neg (by
    intro z
    rcases z with z | z
    · exact Bool.false_ne_true ((h3 a na).symm.trans z)
    · exact Bool.false_ne_true ((h3 b nb).symm.trans z))]
  simp [hx, hy, List.eraseDups_cons, q3]
theorem sw_three {x y z : Str} {px py pz pt pt2 : Pos} {kt k2} {a b c : Expr} {env : Env} (hb : env.blockKind = .function) (hx : env.kindOf x = some .local) (hy : env.kindOf y = some .local) (hz : env.kindOf z = some .local) (hl : px.line = py.line) (hl2 : px.line = pz.line)
    (hxy : x ≠ y) (hxz : x ≠ z) (hyz : y ≠ z) (na : nst a = true) (nb : nst b = true) (nc : nst c = true)
    (hf : (foldedForSure 8 a && (foldedForSure 8 b && foldedForSure 8 c)) = false) (hc : (constantsAlone 8 a && (constantsAlone 8 b && constantsAlone 8 c)) = false) :
    swappedStores [.Tuple [.Name x px, .Name y py, .Name z pz] kt pt] (.Tuple [a, b, c] k2 pt2) env = pure (some [x, y, z]) := by
  have h1 : ([a, b, c].all (foldedForSure 8)) = false := by simpa using hf
  have h2 : ([a, b, c].all (constantsAlone 8)) = false := by simpa using hc
  have h3 : ∀ (e : Expr), nst e = true → (match e with | .Starred .. => true | _ => false) = false := fun e h => by cases e <;> first | rfl | cases h
  have q1 : (env.kindOf x == some NameKind.local) = true := by rw [hx]; rfl
  have q2 : (env.kindOf y == some NameKind.local) = true := by rw [hy]; rfl
  have q4 : (env.kindOf z == some NameKind.local) = true := by rw [hz]; rfl
  have q3 : (y == x) = false := by simpa using Ne.symm hxy
  have q5 : (z == x) = false := by simpa using Ne.symm hxz
  have q6 : (z == y) = false := by simpa using Ne.symm hyz
  have l2 : pz.line = py.line := hl2.symm.trans hl
  unfold swappedStores
  simp [hb, h1, h2, q1, q2, q3, q4, q5, q6, hl, l2, Expr.pos, List.eraseDups_cons, List.filterMap_cons]
  rw [if_neg (by
    intro z
    rcases z with z | z | z
    · exact Bool.false_ne_true ((h3 a na).symm.trans z)
    · exact Bool.false_ne_true ((h3 b nb).symm.trans z)
    · exact Bool.false_ne_true ((h3 c nc).symm.trans z))]
  simp [hx, hy, hz, List.eraseDups_cons, q3, q5, q6]
/-- constants alone: the tuple is stored as it is -/
theorem sw_const {ts vs : List Expr} {kt k2} {pt pt2 : Pos} {env : Env} (hf : vs.all (foldedForSure 8) = true) : swappedStores [.Tuple ts kt pt] (.Tuple vs k2 pt2) env = pure none := by
  unfold swappedStores
  simp only [hf]
  simp

theorem as_cons {e : Expr} {es : List Expr} {env : Env} (h : nst e = true) : (assignEach (e :: es) env).map (·.2) = assign e env :: (assignEach es env).map (·.2) := by
  cases e <;> first | rfl | cases h
theorem as_len {env : Env} : ∀ es : List Expr, (assignEach es env).length = es.length
  | [] => rfl
  | e :: es => by
    have ih := as_len (env := env) es
    cases e <;> exact congrArg Nat.succ ih
theorem as_find {env : Env} : ∀ es : List Expr, es.all nst = true → (assignEach es env).findIdx? (·.1) = none
  | [], _ => rfl
  | e :: es, h => by
    rw [List.all_cons, Bool.and_eq_true] at h
    have ih := as_find (env := env) es h.2
    have : ∃ t, assignEach (e :: es) env = (false, t) :: assignEach es env := by
      have h1 := h.1
      cases e <;> first | exact ⟨_, rfl⟩ | cases h1
    obtain ⟨t, et⟩ := this
    rw [et, List.findIdx?_cons]
    simp [ih]
theorem few1 {e : Expr} {env : Env} {cpos : Pos} (h : nst e = true) : ((backTo cpos (starEach [e] env)).all (fun x => !x.1) && (backToKw cpos (keywordEach [] env)).all (fun x => x.1.isSome)
      && decide ([e].length + ([] : List Keyword).length + (if ([] : List Keyword).isEmpty then 0 else 1) < 30)) = true := by
  rw [star_cons h]
  rfl
def atb : Expr → Bool
  | .Name .. => true
  | .Subscript .. => true
  | _ => false
theorem at_base {o : Expr} {name : Str} {env : Env} (h : atb o = true) : attributeBase o name env (eval o env) = eval o env := by
  cases o <;> first | rfl | cases h

/-! ### a dict of the module -/
structure KDf (K : PySem.W.Frag) (w : World) (p : Addr) (tbl : List (Str × D)) : Prop where
  ex : ∃ es n, L2.KDict K w p es n
  here : ∀ z d, tbl.lookup z = some d → ∃ v u, PySem.W.nsIn K p z = some (some u) ∧ L2.RelV v u ∧ ∀ H ca, RelD K H ca d v
  gone : ∀ z, tbl.lookup z = none → PySem.W.nsIn K p z = some none
def kdIn (tbl : List (Str × D)) (neg : Bool) : D → Option RV
  | .str z => yes ((tbl.lookup z).isSome != neg)
  | _ => none
def kdIx (tbl : List (Str × D)) : D → Option RV
  | .str z => (tbl.lookup z).bind per
  | _ => none
section
variable {X : Cx} {fld : Str → List Str} {W : WX} {e : Expr} {x : Str} {xp pos : Pos} {f : Env' → M D} {tbl : List (Str × D)} {p : Addr}
theorem KDf.some? {K : PySem.W.Frag} {w : World} (k : KDf K w p tbl) (z : Str) : ∃ r, PySem.W.nsIn K p z = some r ∧ r.isSome = (tbl.lookup z).isSome := by
  cases h : tbl.lookup z with
  | none => exact ⟨none, k.gone z h, rfl⟩
  | some d =>
    obtain ⟨v, u, e, _⟩ := k.here z d h
    exact ⟨some u, e, rfl⟩
theorem se_kdin (kd : KDf X.K X.w p tbl) (hg : Gl X x) (hm : X.mg x = some (.ref p)) (hd : (x == ("__debug__" : Str)) = false) (he : PE X e (TR X.K fld W f)) : PE X (.Compare e [.In] [.Name x xp] pos) (TN X.K fld W (sUn (kdIn tbl false) f)) := by
  obtain ⟨es, n, D0⟩ := kd.ex
  refine PE.imp (pe_cmpR (op_in_kd D0) he (pe_glob hg hm (v := .ref p) rfl hd) rfl) fun σ H Q ⟨ρ, st, ca, hen, hs, hp⟩ => ⟨ρ, st, ca, hen, hs, (Post.bind hp).mono fun d st1 ca1 H1 t1 s1 q v hv => ?_⟩
  obtain ⟨r, er, g⟩ := q.rdr t1
  cases d with
  | str z =>
    obtain ⟨r0, e0, e1⟩ := kd.some? z
    cases er
    refine ⟨z, r0, hv, rfl, e0, ?_⟩
    rw [e1]
    exact g.here s1 (by simp [RelD])
  | cell j =>
    unfold deref at er
    split at er <;> first | (split at er <;> cases er) | cases er
  | _ => cases er
theorem se_kdnin (kd : KDf X.K X.w p tbl) (hg : Gl X x) (hm : X.mg x = some (.ref p)) (hd : (x == ("__debug__" : Str)) = false) (he : PE X e (TR X.K fld W f)) : PE X (.Compare e [.NotIn] [.Name x xp] pos) (TN X.K fld W (sUn (kdIn tbl true) f)) := by
  obtain ⟨es, n, D0⟩ := kd.ex
  refine PE.imp (pe_cmpR (op_notIn_kd D0) he (pe_glob hg hm (v := .ref p) rfl hd) rfl) fun σ H Q ⟨ρ, st, ca, hen, hs, hp⟩ => ⟨ρ, st, ca, hen, hs, (Post.bind hp).mono fun d st1 ca1 H1 t1 s1 q v hv => ?_⟩
  obtain ⟨r, er, g⟩ := q.rdr t1
  cases d with
  | str z =>
    obtain ⟨r0, e0, e1⟩ := kd.some? z
    cases er
    refine ⟨z, r0, hv, rfl, e0, ?_⟩
    rw [e1]
    exact g.here s1 (by simp [RelD])
  | cell j =>
    unfold deref at er
    split at er <;> first | (split at er <;> cases er) | cases er
  | _ => cases er
theorem tn_kd {neg : Bool} {r : R2} (hr : r = fun x y H Q => ∃ (z : Str) (r : Option Value), x = .str z ∧ y = .ref p ∧ PySem.W.nsIn X.K p z = some r ∧ Q (.bl (r.isSome != neg)) H) (kd : KDf X.K X.w p tbl) :
    ∀ σ H Q, TN X.K fld W (sUn (kdIn tbl neg) f) σ H Q → tOp r (TR X.K fld W f) (tC (.ref p)) σ H Q := by
  subst hr
  intro σ H Q ⟨ρ, st, ca, hen, hs, hp⟩
  refine ⟨ρ, st, ca, hen, hs, (Post.bind hp).mono fun d st1 ca1 H1 t1 s1 q v hv => ?_⟩
  obtain ⟨r, er, g⟩ := q.rdr t1
  cases d with
  | str z =>
    obtain ⟨r0, e0, e1⟩ := kd.some? z
    cases er
    refine ⟨z, r0, hv, rfl, e0, ?_⟩
    rw [e1]
    exact g.here s1 rfl
  | cell j =>
    unfold deref at er
    split at er <;> first | (split at er <;> cases er) | cases er
  | _ => cases er
theorem st_kdin (kd : KDf X.K X.w p tbl) (hg : Gl X x) (hm : X.mg x = some (.ref p)) (hd : (x == ("__debug__" : Str)) = false) (he : PE X e (TR X.K fld W f)) : PT X (.Compare e [.In] [.Name x xp] pos) (TT' X.K fld W (sBoolT (sUn (kdIn tbl false) f))) := by
  obtain ⟨es, n, D0⟩ := kd.ex
  refine st_bool (pt_cmpR (op_in_kd D0) he (pe_glob hg hm (v := .ref p) rfl hd) rfl) (tn_kd (neg := false) ?_ kd)
  funext x y H Q
  simp
theorem st_kdnin (kd : KDf X.K X.w p tbl) (hg : Gl X x) (hm : X.mg x = some (.ref p)) (hd : (x == ("__debug__" : Str)) = false) (he : PE X e (TR X.K fld W f)) : PT X (.Compare e [.NotIn] [.Name x xp] pos) (TT' X.K fld W (sBoolT (sUn (kdIn tbl true) f))) := by
  obtain ⟨es, n, D0⟩ := kd.ex
  refine st_bool (pt_cmpR (op_notIn_kd D0) he (pe_glob hg hm (v := .ref p) rfl hd) rfl) (tn_kd (neg := true) ?_ kd)
  funext x y H Q
  simp
theorem se_kdix (kd : KDf X.K X.w p tbl) (hg : Gl X x) (hm : X.mg x = some (.ref p)) (hd : (x == ("__debug__" : Str)) = false) (he : PE X e (TR X.K fld W f)) (hs : PlainIx e) : PE X (.Subscript (.Name x xp) e pos) (TN X.K fld W (sUn (kdIx tbl) f)) := by
  obtain ⟨es, n, D0⟩ := kd.ex
  refine PE.imp (pe_ix ix_kdict (pe_glob hg hm (v := .ref p) rfl hd) he hs) fun σ H Q ⟨ρ, st, ca, hen, hs, hp⟩ => ⟨ρ, st, ca, hen, hs, (Post.bind hp).mono fun d st1 ca1 H1 t1 s1 q v hv => ?_⟩
  obtain ⟨r, er, g⟩ := q.rdr t1
  cases d with
  | str z =>
    cases hz : tbl.lookup z with
    | none =>
      have er : (tbl.lookup z).bind per = some r := er
      rw [hz] at er
      cases er
    | some dd =>
      have er : (tbl.lookup z).bind per = some r := er
      rw [hz] at er
      cases er
      obtain ⟨v0, u0, e0, rv, rd0⟩ := kd.here z dd hz
      exact ⟨p, z, v0, rfl, hv, ⟨es, n, u0, D0.at_, D0.lit, e0, rv⟩, g.here s1 (rd0 _ _)⟩
  | cell j =>
    unfold deref at er
    split at er <;> first | (split at er <;> cases er) | cases er
  | _ => cases er
end
end Ev
/-! Comprehensions of two clauses. -/
namespace Ev
open PySem PySem.Spec PyProof.Rows L2
variable [Tbs] [Hnd]
def sLcO (g : D → Env' → Option Env') (c : Env' → M Bool) (it1 : Env' → M (List D)) (g1 : D → Env' → Option Env') (c1 : Env' → M Bool) (el : Env' → M D) (vs1 : List Nat) (ρ : Env') : List D → List D → M (List D)
  | [], acc => M.pure acc
  | d :: ds, acc => match g d ρ with
    | none => M.bad
    | some ρ1 => M.bind (M.ne (c ρ1)) fun b => if b = true then M.bind (M.ne (it1 ρ1)) fun es => M.bind (sLcN g1 c1 el (wipeE ρ1 vs1) es acc) fun acc' => sLcO g c it1 g1 c1 el vs1 ρ ds acc' else sLcO g c it1 g1 c1 el vs1 ρ ds acc
def sLc2 (it : Env' → M (List D)) (g : D → Env' → Option Env') (c : Env' → M Bool) (it1 : Env' → M (List D)) (g1 : D → Env' → Option Env') (c1 : Env' → M Bool) (el : Env' → M D) (vs vs1 : List Nat) : Env' → M RV :=
  fun ρ => M.bind (it ρ) fun ds => M.bind (sLcO g c it1 g1 c1 el vs1 (wipeE ρ vs) ds []) fun acc => M.pure (.fr acc)
theorem wipe_sub (σ τ : L2.St) {vs1 vs : List Nat} (hsub : ∀ i ∈ vs1, i ∈ vs) (h : L2.wipe σ vs1 = L2.wipe τ vs1) : L2.wipe σ vs = L2.wipe τ vs := by
  have key : ∀ (ρ : L2.St) (ws : List Nat), (∀ i ∈ ws, i ∈ vs) → L2.wipe (L2.wipe ρ ws) vs = L2.wipe ρ vs := by
    intro ρ ws
    induction ws with
    | nil => intro _; rfl
    | cons w ws ih =>
      intro hw
      show L2.wipe ((L2.wipe ρ ws).set w none) vs = _
      rw [wipe_set _ _ _ _ (hw w (by simp)), ih fun i hi => hw i (List.mem_cons_of_mem _ hi)]
  rw [← key σ vs1 hsub, h, key τ vs1 hsub]
theorem M.bind_assoc {α β γ : Type} (m : M α) (f : α → M β) (g : β → M γ) : M.bind (M.bind m f) g = M.bind m (fun a => M.bind (f a) g) := by
  funext st
  unfold M.bind
  cases m st <;> rfl
/-- the heap without a place -/
def hide (H : Hp) (L : Addr) : Hp := fun b => if b = L then none else H b
section
variable {K : PySem.W.Frag} {H H1 : Hp} {ca ca1 : List Addr} {L : Addr} {ρ : Env'} {σ : L2.St}
theorem hide_same : hide H L L = none := if_pos rfl
theorem hide_ne {b : Addr} (h : b ≠ L) : hide H L b = H b := if_neg h
theorem hide_of {b : Addr} {o : HO} (h : hide H L b = some o) : H b = some o ∧ b ≠ L := by
  by_cases e : b = L
  · rw [e, hide_same] at h; cases h
  · exact ⟨by rw [hide_ne e] at h; exact h, e⟩
theorem Stp.hid : Stp ca ca (hide H L) H := ⟨⟨[], by simp, fun a h => nomatch h⟩, fun a o h _ => (hide_of h).1, fun a o h _ _ => (hide_of h).1, fun a h => by
  by_cases e : a = L
  · rw [e]; exact hide_same
  · rw [hide_ne e]; exact h⟩
theorem RelD.hid {vs : List V} (hl : H L = some (.lst vs)) : (∀ a o, H a = some o → Fix o → hide H L a = some o) := fun a o h f => by
  rw [hide_ne]
  · exact h
  · rintro rfl
    rw [hl] at h; cases h; exact f.elim
theorem EnvR.hid {vs : List V} (hl : H L = some (.lst vs)) (h : EnvR K H ca ρ σ) (ap : ∀ (j : Nat) (es : List D), ρ[j]? = some (.own es) → σ[j]? ≠ some (some (.ref L))) : EnvR K (hide H L) ca ρ σ := by
  refine ⟨h.len, fun i s e => ?_, h.sep⟩
  obtain ⟨o, e1, q⟩ := h.at_ i s e
  refine ⟨o, e1, ?_⟩
  cases s with
  | un => trivial
  | val d =>
    obtain ⟨v, e2, r⟩ := q
    exact ⟨v, e2, RelD.fixed (RelD.hid hl) (fun _ _ z => z) _ _ r⟩
  | own ds =>
    obtain ⟨a, vs2, e2, q1, n, r⟩ := q
    refine ⟨a, vs2, e2, ?_, n, RelDs.fixed (RelD.hid hl) (fun _ _ z => z) _ _ r⟩
    rw [hide_ne]
    · exact q1
    · rintro rfl
      exact ap i ds e (by rw [e1, e2])
  | cl =>
    obtain ⟨e5, h5, n5, iv5⟩ := q
    refine ⟨e5, ?_, n5, Hnd.stay _ _ _ _ (RelD.hid hl) (fun _ _ z => z) iv5⟩
    rw [hide_ne]
    · exact h5
    · rintro rfl
      rw [hl] at h5
      unfold LamX.CodeO at h5
      cases h5
theorem Stp.fxh {vs : List V} (hl : H L = some (.lst vs)) (t : Stp ca ca1 (hide H L) H1) : Fx H ca H1 ca1 := ⟨fun a o h f => t.fix a o (RelD.hid hl a o h f) f, fun _ _ => t.sub⟩
end
section
variable {X : Cx} {K : PySem.W.Frag} {fld : Str → List Str} {W : WX} {σ : L2.St} {H : Hp} {Q : VK}
theorem lc_tr2 {it it1 : Env' → M (List D)} {is is1 vs vs1 : List Nat} {g g1 : D → Env' → Option Env'} {c c1 : Env' → M Bool} {el : Env' → M D} (hsub : ∀ i ∈ is, i ∈ vs) (hsub1 : ∀ i ∈ is1, i ∈ vs1) (hvs : ∀ i ∈ vs1, i ∈ vs)
    (h : TN K fld W (sLc2 it g c it1 g1 c1 el vs vs1) σ H Q) : tLc2 (TWk K fld W it) (TGd K is g) (TT' K fld WF c) (TWk K fld WF it1) (TGd K is1 g1) (TT' K fld WF c1) (TS' K fld WF el) vs vs1 σ H Q := by
  obtain ⟨ρ, st, ca, he, hs, hp⟩ := h
  refine ⟨ρ, st, ca, he, hs, (Post.bind hp).mono fun ds st1 ca1 H1 t1 s1 q J wk => fun L hL => ?_⟩
  have q := Post.bind q
  have hn : L ∉ ca1 := s1.notnew hL
  have he1 := he.stp t1
  refine ⟨fun i m H' => m = ds.length - i ∧ i ≤ ds.length ∧ ∃ st' ca' acc ws, Stp ca1 ca' H1 H' ∧ SR K st' ca' H' ∧ H' L = some (.lst ws) ∧ L ∉ ca' ∧ RelDs K H' ca' acc ws ∧
    Post K fld W σ H1 ca1 (fun a st1 ca1 H1 => Post K fld W σ H1 ca1 (fun r _ ca' H' => ∀ v, RelRV K H H' ca' r v → Q v H') (M.pure (.fr a) st1)) (sLcO g c it1 g1 c1 el vs1 (wipeE ρ vs) (ds.drop i) acc st'),
    ⟨_, rfl, Nat.zero_le _, st1, ca1, [], [], Stp.laid hL, s1.laid hL, upd_same, hn, rfl, q⟩, ?_⟩
  rintro i m H' ⟨rfl, hle, st', ca', acc, ws, t, s, hl, nl, ra, q⟩
  obtain ⟨w1, w2, w3⟩ := wk H' ca' t.fx
  by_cases hlt : i < ds.length
  · have ed : ds.drop i = ds[i] :: ds.drop (i + 1) := (List.getElem_cons_drop hlt).symm
    rw [ed] at q
    refine .inr ⟨w1 i hlt, fun H2 => ∃ st' ca' acc ws, Stp ca1 ca' H1 H2 ∧ SR K st' ca' H2 ∧ H2 L = some (.lst ws) ∧ L ∉ ca' ∧ RelDs K H2 ca' acc ws ∧
      Post K fld W σ H1 ca1 (fun a st1 ca1 H1 => Post K fld W σ H1 ca1 (fun r _ ca' H' => ∀ v, RelRV K H H' ca' r v → Q v H') (M.pure (.fr a) st1)) (sLcO g c it1 g1 c1 el vs1 (wipeE ρ vs) (ds.drop (i + 1)) acc st'),
      fun H2 hx => ⟨ds.length - (i + 1), by omega, rfl, hlt, hx⟩, fun x H2 y => ?_⟩
    obtain ⟨d, hd, ly, rd⟩ := w3 i x H2 y hlt
    have e : ds[i] = d := by rw [List.getElem?_eq_getElem hlt] at hd; exact Option.some.inj hd
    rw [e] at q
    unfold sLcO at q
    have t2 : Stp ca' ca' H' H2 := ly.stp
    have s2 := ly.sr s
    have l2 := ly L _ hl
    have ra2 := ra.stp t2
    have tt := t.trans t2
    have he2 := (he1.stp tt).wipe vs
    cases hg : g d (wipeE ρ vs) with
    | none => rw [hg] at q; exact q.elim
    | some ρ1 =>
      rw [hg] at q
      dsimp only at q
      refine ⟨wipeE ρ vs, d, ca', ρ1, he2, rd, hg, fun σ1 b1 => ⟨(b1.wip vs hsub).trans (wipe_idem σ vs), ρ1, st', ca', b1.env, s2, ?_⟩⟩
      refine (Post.ne' (σ' := σ1) (H := H2) (ca := ca') q).mono fun b st3 ca3 H3 t3 s3 q4 => ?_
      have tt3 := tt.trans t3
      have l3 := t3.keep L _ l2 nl trivial
      have nl3 := t3.notin l2 nl
      have ra3 := ra2.stp t3
      cases b with
      | false => exact ⟨st3, ca3, acc, ws, tt3, s3, l3, nl3, ra3, q4⟩
      | true =>
        have en3 := b1.env.stp t3
        refine ⟨ρ1, st3, ca3, en3, s3, (Post.ne' (σ' := σ1) (H := H3) (ca := ca3) q4).mono fun es st4 ca4 H4 t4 s4 q5 J1 wk1 => ?_⟩
        have en4 := en3.stp t4
        have tt4 := tt3.trans t4
        have l4 := t4.keep L _ l3 nl3 trivial
        have nl4 := t4.notin l3 nl3
        have ra4 := ra3.stp t4
        have ap : ∀ (j : Nat) (fs : List D), ρ1[j]? = some (.own fs) → σ1[j]? ≠ some (some (.ref L)) := fun j fs e2 => by
          obtain ⟨o1, o2⟩ := b1.own j fs e2
          rw [o2]
          exact EnvR.apart (H' := H1) (he1.wipe vs) hL j fs o1
        have enH := en4.hid l4 ap
        refine ⟨fun j m1 H' => m1 = es.length - j ∧ j ≤ es.length ∧ ∃ st' ca' acc ws, Stp ca4 ca' (hide H4 L) H' ∧ Stp ca1 ca' H1 H' ∧ SR K st' ca' H' ∧ H' L = some (.lst ws) ∧ L ∉ ca' ∧ RelDs K H' ca' acc ws ∧
          Post K fld W σ H1 ca1 (fun a st1 ca1 H1 => Post K fld W σ H1 ca1 (fun r _ ca' H' => ∀ v, RelRV K H H' ca' r v → Q v H') (M.pure (.fr a) st1)) (M.bind (sLcN g1 c1 el (wipeE ρ1 vs1) (es.drop j) acc) (fun acc' => sLcO g c it1 g1 c1 el vs1 (wipeE ρ vs) (ds.drop (i + 1)) acc') st'),
          ⟨_, rfl, Nat.zero_le _, st4, ca4, acc, ws, Stp.hid, tt4, s4, l4, nl4, ra4, q5⟩, ?_⟩
        rintro j m1 H5 ⟨rfl, hle1, st5, ca5, acc5, ws5, tA, tB, s5, l5, nl5, ra5, q6⟩
        have fx5 := tA.fxh l4
        obtain ⟨u1, u2, u3⟩ := wk1 H5 ca5 fx5
        by_cases hlt1 : j < es.length
        · have ed1 : es.drop j = es[j] :: es.drop (j + 1) := (List.getElem_cons_drop hlt1).symm
          rw [ed1] at q6
          refine .inr ⟨u1 j hlt1, fun H' => ∃ st' ca' acc ws, Stp ca4 ca' (hide H4 L) H' ∧ Stp ca1 ca' H1 H' ∧ SR K st' ca' H' ∧ H' L = some (.lst ws) ∧ L ∉ ca' ∧ RelDs K H' ca' acc ws ∧
            Post K fld W σ H1 ca1 (fun a st1 ca1 H1 => Post K fld W σ H1 ca1 (fun r _ ca' H' => ∀ v, RelRV K H H' ca' r v → Q v H') (M.pure (.fr a) st1)) (M.bind (sLcN g1 c1 el (wipeE ρ1 vs1) (es.drop (j + 1)) acc) (fun acc' => sLcO g c it1 g1 c1 el vs1 (wipeE ρ vs) (ds.drop (i + 1)) acc') st'),
            fun H' hx => ⟨es.length - (j + 1), by omega, rfl, hlt1, hx⟩, fun x1 H6 y1 => ?_⟩
          obtain ⟨d1, hd1, ly1, rd1⟩ := u3 j x1 H6 y1 hlt1
          have e1 : es[j] = d1 := by rw [List.getElem?_eq_getElem hlt1] at hd1; exact Option.some.inj hd1
          rw [e1] at q6
          unfold sLcN at q6
          have t6 : Stp ca5 ca5 H5 H6 := ly1.stp
          have s6 := ly1.sr s5
          have l6 := ly1 L _ l5
          have ra6 := ra5.stp t6
          have tA6 := tA.trans t6
          have tB6 := tB.trans t6
          have en6 := (enH.stp tA6).wipe vs1
          cases hg1 : g1 d1 (wipeE ρ1 vs1) with
          | none => rw [hg1] at q6; exact q6.elim
          | some ρ2 =>
            rw [hg1] at q6
            dsimp only at q6
            rw [M.bind_assoc] at q6
            refine ⟨wipeE ρ1 vs1, d1, ca5, ρ2, en6, rd1, hg1, fun σ3 b3 => ⟨(b3.wip vs1 hsub1).trans (wipe_idem σ1 vs1), ρ2, st5, ca5, b3.env, s6, ?_⟩⟩
            refine (Post.ne' (σ' := σ3) (H := H6) (ca := ca5) q6).mono fun b7 st7 ca7 H7 t7 s7 q7 => ?_
            have l7 := t7.keep L _ l6 nl5 trivial
            have nl7 := t7.notin l6 nl5
            have ra7 := ra6.stp t7
            have tA7 := tA6.trans t7
            have tB7 := tB6.trans t7
            cases b7 with
            | false => exact ⟨st7, ca7, acc5, ws5, tA7, tB7, s7, l7, nl7, ra7, q7⟩
            | true =>
              have q7 := q7
              rw [if_pos rfl, M.bind_assoc] at q7
              refine ⟨ρ2, st7, ca7, b3.env.stp t7, s7, (Post.ne' (σ' := σ3) (H := H7) (ca := ca7) q7).mono fun z st8 ca8 H8 t8 s8 q8 v hv => ?_⟩
              have l8 := t8.keep L _ l7 nl7 trivial
              have nl8 := t8.notin l7 nl7
              have ra8 := ra7.stp t8
              split at q8
              · rename_i hz
                have fw := fix_wr (o := .lst (ws5 ++ [v])) l8
                exact ⟨ws5, l8, by rw [ra8.length]; exact hz, st8, ca8, acc5 ++ [z], ws5 ++ [v], (tA7.trans t8).wr hide_same, (tB7.trans t8).wr hL, s8.wr l8 nl8, upd_same, nl8, RelDs.fixed fw (fun _ _ z => z) _ _ (ra8.snoc hv), q8⟩
              · exact q8.elim
        · have ej : j = es.length := by omega
          subst ej
          rw [List.drop_length] at q6
          exact .inl ⟨u2, st5, ca5, acc5, ws5, tB, s5, l5, nl5, ra5, q6⟩
  · have e : i = ds.length := by omega
    subst e
    rw [List.drop_length] at q
    refine .inl ⟨w2, ?_⟩
    have q2 : Post K fld W σ H' ca' (fun r _ ca' H' => ∀ v, RelRV K H H' ca' r v → Q v H') (M.pure (.fr acc) st') := (show ∀ ca2 H2, Stp ca1 ca2 H1 H2 → SR K st' ca2 H2 → _ from q) ca' H' t s
    exact Post.now q2 s _ ⟨L, ws, rfl, hl, t1.dom L hL, nl, ra⟩
variable {elt tg iter tg1 iter1 : Expr} {ifs ifs1 : List Expr} {scope : Scope} {own : List (Str × Nat)} {pos : Pos} {is is1 vs1 : List Nat} {it it1 : Env' → M (List D)} {g g1 : D → Env' → Option Env'} {c c1 : Env' → M Bool} {el : Env' → M D}
theorem se_lc2 (hc : X.calm = true) (hN : X.N.Nodup) (hi : PI X tg iter (TWk X.K fld W it)) (ok : BlkOk X.N X.env.scope scope own) (hsub : ∀ i ∈ is, i ∈ own.map (·.2)) (hsub1 : ∀ i ∈ is1, i ∈ vs1) (hvs : ∀ i ∈ vs1, i ∈ own.map (·.2))
    (hg : ∀ s H C cl fp, PG (bX X scope s H C cl fp) tg (TGd X.K is g)) (ht : ∀ s H C cl fp, PTs (bX X scope s H C cl fp) ifs (TT' X.K fld WF c)) (hi1 : ∀ s H C cl fp, PI (bX X scope s H C cl fp) tg1 iter1 (TWk X.K fld WF it1))
    (hg1 : ∀ s H C cl fp, PG (bX X scope s H C cl fp) tg1 (TGd X.K is1 g1)) (ht1 : ∀ s H C cl fp, PTs (bX X scope s H C cl fp) ifs1 (TT' X.K fld WF c1)) (he : ∀ s H C cl fp, PE (bX X scope s H C cl fp) elt (TS' X.K fld WF el))
    (hs : ∀ x, foldedSetIterable iter X.env x = pure x) (hs1 : ∀ env x, foldedSetIterable iter1 env x = pure x) : PE X (.ListComp elt [⟨tg, iter, ifs, 0⟩, ⟨tg1, iter1, ifs1, 0⟩] scope pos) (TN X.K fld W (sLc2 it g c it1 g1 c1 el (own.map (·.2)) vs1)) :=
  PE.imp (pe_lc2 hc hN hi ok hvs hg ht hi1 hg1 ht1 he hs hs1) fun σ H Q h => lc_tr2 hsub hsub1 hvs h
end
end Ev
/-! Comprehensions out of which an error may come. -/
namespace Ev
open PySem PySem.Spec PyProof.Rows L2
variable [Tbs] [Hnd]

/-- where one stands, some frame of the stack runs -/
def FrX (X : Cx) : Prop := ∃ f e0 rest, X.env.frame = some f ∧ X.stack = e0 :: rest ∧ e0.frame = some f
/-- an error in the air that frame f has noted -/
def XEh (X : Cx) (W : WX) (f : Addr) (u : Value) (s' : Shared) : Prop :=
  ∃ (a : Addr) (B : Heap) (sI : Shared) (pins : List (Addr × Obj)) (σ : L2.St) (H : Hp) (cls : Value) (d : Option Addr),
    u = .ref a ∧ L2.Inv X pins σ H sI ∧ (∀ b o, sI.heap.get? b = some o → b ∉ frs X.stack → B.get? b = some o) ∧ sI.heap.UpToSlots s'.heap ∧
      HandSPX.HeldZ B X.stack a (Zc cls d) f s'.heap ∧ H a = none ∧ s'.os = sI.os ∧ AllBare s'.gens ∧ W cls d σ H
def TakesH (X : Cx) (W : WX) : Prop := ∀ f u s', X.env.frame = some f → XEh X W f u s' → X.xe u s'
theorem TakesH.body {X : Cx} {W : WX} (t : Takes X W) (hf : X.env.frame = some X.env.locals) : TakesH X W := fun f u s' e x => by
  rw [hf] at e
  cases e
  obtain ⟨a, B, sI, pins, σ, H, cls, d, r, I, nb, up, hh, na, os, ag, w⟩ := x
  exact t u s' ⟨a, B, sI, pins, σ, H, cls, d, r, I, nb, up, .inr (.inr hh), na, os, ag, w⟩
theorem FrX.body {X : Cx} (hs : X.stack = X.env :: X.outer) (hf : X.env.frame = some X.env.locals) : FrX X := ⟨_, _, _, hf, hs, hf⟩
/-- a block's errors are the def's, at the def's slots -/
def WB (W : WX) (σ : L2.St) : WX := fun c d _ H => W c d σ H
/-- a block's context -/
def xeB (X : Cx) (f : Option Addr) (W : WX) (u : Value) (s' : Shared) : Prop := XE X W u s' ∨ ∃ g, f = some g ∧ XEh X W g u s'
abbrev bY (X : Cx) (W : WX) (σ : L2.St) (scope : Scope) (s : Shared) (H : Hp) (C : Addr) (cl : List (Str × Addr)) (fp : List Addr) : Cx :=
  (bX X scope s H C cl fp).tr [] (xeB (bX X scope s H C cl fp) X.env.frame (WB W σ))
section
variable {X : Cx} {W : WX} {σ : L2.St} {scope : Scope} {s : Shared} {H : Hp} {C : Addr} {cl : List (Str × Addr)} {fp : List Addr}
theorem unB {pins : List (Addr × Obj)} {σ1 : L2.St} {H1 : Hp} {s1 : Shared} (I : L2.Inv (bY X W σ scope s H C cl fp) pins σ1 H1 s1) : L2.Inv (bX X scope s H C cl fp) [] σ1 H1 s1 :=
  L2.Inv.ofTry (X := bX X scope s H C cl fp) (pins := []) I (L2.Cx.Ok.ofTry I.ok)
theorem toB {σ1 : L2.St} {H1 : Hp} {s1 : Shared} (I : L2.Inv (bX X scope s H C cl fp) [] σ1 H1 s1) : L2.Inv (bY X W σ scope s H C cl fp) [] σ1 H1 s1 :=
  L2.Inv.toTry (X := bX X scope s H C cl fp) (pins := []) I _
theorem takesB : Takes (bY X W σ scope s H C cl fp) (WB W σ) := fun u s' ⟨a, B, sI, pins, σ1, H1, cls, d, r, I, nb, up, sky, na, os, ag, w⟩ =>
  .inl ⟨a, B, sI, [], σ1, H1, cls, d, r, unB I, nb, up, sky, na, os, ag, w⟩
theorem takesHB : TakesH (bY X W σ scope s H C cl fp) (WB W σ) := fun f u s' e ⟨a, B, sI, pins, σ1, H1, cls, d, r, I, nb, up, hh, na, os, ag, w⟩ =>
  .inr ⟨f, e, a, B, sI, [], σ1, H1, cls, d, r, unB I, nb, up, hh, na, os, ag, w⟩
theorem FrX.blk (h : FrX X) : FrX (bY X W σ scope s H C cl fp) := h
end

/-! ### the frame notes what flies -/
theorem noteFrame_fr {e : Value} {env env' : Env} (h : env.frame = env'.frame) : noteFrame e env = noteFrame e env' := by
  simp only [noteFrame, PySem.frameOf, h]
theorem noted_any {M : Model} {A : Around} {E : Value → Shared → Prop} {s : Shared} {Z : Obj → Prop} {base : Heap} {env : Env} {outer : List Env} {L e : Addr} {fl : Value} {Q : Unit → Shared → Prop}
    (hZ : HandSPX.Steady Z) (hfr : A.frames = some (env :: outer)) (hf : env.frame = some L) (hkb : base.StaysIn s.heap) (hen : base.get? e = none) (hl : s.heap.FunFrames base (env :: outer)) (ht : HandSPX.TracedZ s.heap base e Z fl)
    (hQ : ∀ h', HandSPX.HeldZ base (env :: outer) e Z L h' → s.heap.UpToSlots h' → Q () { s with heap := h' }) : wpAny M A (noteFrame (.ref e) env) Q E s := by
  have ht0 := ht
  obtain ⟨oe, vs, T, oT, ts, he, hz, hd, h1, nT, ne, hT, dT, h3⟩ := ht
  unfold noteFrame
  simp only [hf]
  refine wpAny_bind (wpAny_field he hd h1 ?_)
  rw [if_pos (by simp)]
  refine wpAny_bind (wpAny_field hT dT h3 ?_)
  by_cases q : (fl == rawInt L) = true
  · rw [if_pos q]
    have q2 : fl = rawInt L := eq_of_beq q
    subst q2
    exact wpAny_pure (hQ s.heap ⟨hkb, hen, hl, ht0⟩ (Heap.UpToSlots.refl _))
  · rw [if_neg q]
    refine wpAny_bind (wpAny_setField hT dT (Array.getElem?_eq_some_iff.mp h3).1 ?_)
    have oth : ∀ b, b ≠ T → (s.heap.update T (Obj.mapFields (·.setIfInBounds 3 Value.none))).get? b = s.heap.get? b := fun b hb => Heap.get?_update_other _ _ (Ne.symm hb)
    have ntr : ∀ b o, s.heap.get? b = some o → (∀ us, o.data ≠ .fields us) → b ≠ T := fun b o hb hn z => by
      rw [z, hT] at hb
      cases hb
      exact hn ts dT
    refine HandSPX.wpAny_entryZ hZ hfr (hl.of_keeps fun b o hb hn => ⟨o, (oth b (ntr b o hb hn)).trans hb, rfl⟩) hf ((oth e (Ne.symm ne)).trans he) (fun b o hb => ?_) hen hd (Array.getElem?_eq_some_iff.mp h1).1 hz fun h' hN => ?_
    · refine (oth b fun z => ?_).trans (hkb b o hb)
      rw [z, nT] at hb
      cases hb
    · exact hQ h' ⟨hN.1, hen, hN.2.1, hN.2.2.1⟩ fun b o hb hn => hN.2.2.2 b o ((oth b (ntr b o hb hn)).trans hb) hn
/-- whichever way it flies -/
theorem noted_sky {M : Model} {A : Around} {E : Value → Shared → Prop} {s : Shared} {Z : Obj → Prop} {base : Heap} {env : Env} {outer : List Env} {L L' e : Addr} {Q : Unit → Shared → Prop}
    (hZ : HandSPX.Steady Z) (hfr : A.frames = some (env :: outer)) (hf : env.frame = some L) (x : Sky base (env :: outer) e Z L' s.heap)
    (hQ : ∀ h', HandSPX.HeldZ base (env :: outer) e Z L h' → s.heap.UpToSlots h' → Q () { s with heap := h' }) : wpAny M A (noteFrame (.ref e) env) Q E s := by
  rcases x with ⟨hB, hn, hl, oe, vs, he, hz, hd, h1⟩ | ⟨k1, k2, k3, k4⟩ | ⟨k1, k2, k3, k4⟩
  · exact HandSPX.look_newZ hZ hfr hl hf he hB hn hd h1 hz hQ
  · exact noted_any hZ hfr hf k1 k2 k3 k4 hQ
  · exact noted_any hZ hfr hf k1 k2 k3 k4 hQ

/-! ### a place is forgotten -/
section
variable {h h' B : Heap} {C a f : Addr} {Z : Obj → Prop} {l : List Env}
theorem ff_but (k : ∀ b, b ≠ C → h'.get? b = h.get? b) : ∀ {l : List Env}, C ∉ frs l → h.FunFrames B l → h'.FunFrames (PySem.W.hideAll B [C]) l
  | [], _, _ => trivial
  | e :: l, hn, ⟨h1, ⟨L, o, h2, h3, h4, h5⟩, h6⟩ => by
    have hL : L ∈ frs (e :: l) := List.mem_filterMap.mpr ⟨e, List.mem_cons_self, h2⟩
    refine ⟨h1, ⟨L, o, h2, ?_, ?_, h5⟩, ff_but k (fun hm => hn ?_) h6⟩
    · cases q : (PySem.W.hideAll B [C]).get? L with
      | none => rfl
      | some z =>
        have := PySem.W.of_hideAll _ q
        rw [h3] at this
        cases this
    · rw [k L fun z => hn (z ▸ hL)]
      exact h4
    · obtain ⟨e', m, q⟩ := List.mem_filterMap.mp hm
      exact List.mem_filterMap.mpr ⟨e', List.mem_cons_of_mem _ m, q⟩
theorem held_but (k : ∀ b, b ≠ C → h'.get? b = h.get? b) (hC : ∃ o, B.get? C = some o) (hn : C ∉ frs l) (x : HandSPX.HeldZ B l a Z f h) : HandSPX.HeldZ (PySem.W.hideAll B [C]) l a Z f h' := by
  obtain ⟨oC, hC⟩ := hC
  obtain ⟨k1, k2, k3, oe, vs, T, oT, ts, he, hz, hd, h1, nT, ne, hT, dT, h3⟩ := x
  have non : ∀ b, B.get? b = none → (PySem.W.hideAll B [C]).get? b = none := fun b e => by
    cases q : (PySem.W.hideAll B [C]).get? b with
    | none => rfl
    | some z =>
      have := PySem.W.of_hideAll _ q
      rw [e] at this
      cases this
  have neC : ∀ b, B.get? b = none → b ≠ C := fun b e z => by
    rw [z, hC] at e
    cases e
  refine ⟨fun b o e => ?_, non a k2, ff_but k hn k3, oe, vs, T, oT, ts, (k a (neC a k2)).trans he, hz, hd, h1, non T nT, ne, (k T (neC T nT)).trans hT, dT, h3⟩
  rw [k b fun z => ?_]
  · exact k1 b o (PySem.W.of_hideAll _ e)
  · rw [z, PySem.W.hideAll_none [C] (by simp)] at e
    cases e
end

section
variable {X : Cx} {pins : List (Addr × Obj)} {σ : L2.St} {H0 : Hp} {s3 : Shared} {W : WX} {scope : Scope} {fp : List Addr} {cl : List (Str × Addr)} {use : Option (Value → Sem Unit)} {Qf : Value → Shared → Prop} {acc u : Value} {s' : Shared}
/-- an error comes out of the block: its names go, it flies on in the def -/
theorem blk_fails (I0 : L2.Inv X pins σ H0 s3) (fr : FrX X) (th : TakesH X W) (f3 : ∀ b ∈ fp, FpOk X pins H0 b ∧ b < s3.heap.objs.size)
    (x : xeB (bX X scope s3 H0 s3.heap.objs.size cl fp) X.env.frame (WB W σ) u s') :
    notedBy (model X.prog X.w) X.A (compEnvC scope cl s3.heap.objs.size X.env) (fun e s'' => compEnds (model X.prog X.w) X.A X.xe use Qf acc (compEnvC scope cl s3.heap.objs.size X.env) (.error e) s'') u s' := by
  obtain ⟨f, e0, rest, hf, hst, h0⟩ := fr
  have hfr : X.A.frames = some (e0 :: rest) := by rw [I0.ok.frames, hst]
  have key : ∀ (a : Addr) (B : Heap) (sI : Shared) (σ1 : L2.St) (H1 : Hp) (cls : Value) (d : Option Addr), L2.Inv (bX X scope s3 H0 s3.heap.objs.size cl fp) [] σ1 H1 sI → (∀ b o, sI.heap.get? b = some o → b ∉ frs X.stack → B.get? b = some o) → sI.heap.UpToSlots s'.heap →
      (∃ L', Sky B (e0 :: rest) a (Zc cls d) L' s'.heap) → H1 a = none → s'.os = sI.os → AllBare s'.gens → W cls d σ H1 →
      notedBy (model X.prog X.w) X.A (compEnvC scope cl s3.heap.objs.size X.env) (fun e s'' => compEnds (model X.prog X.w) X.A X.xe use Qf acc (compEnvC scope cl s3.heap.objs.size X.env) (.error e) s'') (.ref a) s' := by
    intro a B sI σ1 H1 cls d J nb up sky na os ag w
    obtain ⟨L', sky⟩ := sky
    unfold notedBy
    rw [noteFrame_fr (show (compEnvC scope cl s3.heap.objs.size X.env).frame = e0.frame from hf.trans h0.symm)]
    refine noted_sky Zc.steady hfr h0 sky fun h2 hh2 up2 => ?_
    have I7 : L2.Inv X pins σ H1 sI := I0.call' (ch := fp) J.os J.base J.hok J.bare fun b hb => ⟨(f3 b hb).1.2.2.2.1, (f3 b hb).1.2.1, (f3 b hb).1.2.2.2.2.1, (f3 b hb).1.2.2.2.2.2⟩
    have nC : H1 s3.heap.objs.size = none := J.free
    obtain ⟨f0, f1, f2, g3, f4, f5⟩ := I0.fpOk (Nat.le_refl _) nC
    obtain ⟨m, hn, _⟩ := J.loc
    have hn : sI.heap.Ns s3.heap.objs.size m := hn
    have hCf : s3.heap.objs.size ∉ frs X.stack := fun hm => by
      rcases List.mem_cons.mp (I7.stkSub _ hm) with z | z
      · exact f1 z
      · exact f2 z
    have hCB : ∃ o, B.get? s3.heap.objs.size = some o := by
      obtain ⟨o, _, _, ho, _⟩ := hn
      exact ⟨o, nb _ o ho hCf⟩
    show CompFails _ _ _ _ _ _
    refine ⟨m, (up.trans up2).ns hn, fun h' m' hn' sb => ?_⟩
    have hk := held_but (h' := h') sb.2 hCB (by rw [← hst]; exact hCf) hh2
    obtain ⟨k1, k2, k3, oe, vs, T, oT, ts, he, hz, hd, h1, hr⟩ := id hk
    unfold PySem.passOn
    refine wpAny_bind (wpAny_field he hd h1 ?_)
    rw [if_neg (show ¬ ((Value.ref T == Value.none) = true) from by simp)]
    have fin : wpAny (model X.prog X.w) X.A (setFlight (.ref a) (compEnvC scope cl s3.heap.objs.size X.env).frame) (fun _ s4 => wpAny (model X.prog X.w) X.A (throw (.ref a) : Sem Value) (fun _ _ => False) X.xe s4) X.xe { s' with heap := h' } := by
      rw [show (compEnvC scope cl s3.heap.objs.size X.env).frame = some f from hf]
      refine HandSPX.setFlight_onZ hk fun h4 hh4 up4 => wpAny_throw (th f _ _ hf ?_)
      refine ⟨a, PySem.W.hideAll B [s3.heap.objs.size], { sI with heap := PySem.W.hideAll sI.heap [s3.heap.objs.size] }, pins, σ, H1, cls, d, rfl, ?_, fun b o e hb => ?_, fun b o e nf => ?_, by rw [hst]; exact hh4, na, os, ag, w⟩
      · exact I7.turned (t' := sI.toks) (fun b o hb e => PySem.W.hideAll_get _ e (by simpa using hb)) f0 f1 g3 f4 f5
      · have hbC : b ≠ s3.heap.objs.size := fun z => by
          rw [z, PySem.W.hideAll_none [s3.heap.objs.size] (by simp)] at e
          cases e
        exact PySem.W.hideAll_get _ (nb b o (PySem.W.of_hideAll _ e) hb) (by simpa using hbC)
      · have hbC : b ≠ s3.heap.objs.size := fun z => by
          rw [z, PySem.W.hideAll_none [s3.heap.objs.size] (by simp)] at e
          cases e
        obtain ⟨sl, e2⟩ := (up.trans up2) b o (PySem.W.of_hideAll _ e) nf
        obtain ⟨sl2, e4⟩ := up4 b { o with slots := sl } ((sb.2 b hbC).trans e2) nf
        exact ⟨sl2, e4⟩
    first
      | exact wpAny_bind (wpAny_pure (wpAny_bind fin))
      | exact wpAny_bind fin
  rcases x with ⟨a, B, sI, pz, σ1, H1, cls, d, rfl, J, nb, up, sky, na, os, ag, w⟩ | ⟨g, hg, a, B, sI, pz, σ1, H1, cls, d, rfl, J, nb, up, hh, na, os, ag, w⟩
  · have J' : L2.Inv (bX X scope s3 H0 s3.heap.objs.size cl fp) [] σ1 H1 sI := ⟨J.ok, J.os, J.bare, J.base, J.loc, J.cell, J.free, J.freeC, fun p hp => absurd (show p ∈ ([] : List (Addr × Obj)) ++ [] from hp) (by simp), J.hok, J.len⟩
    exact key a B sI σ1 H1 cls d J' nb up ⟨_, by rw [← hst]; exact sky⟩ na os ag w
  · have J' : L2.Inv (bX X scope s3 H0 s3.heap.objs.size cl fp) [] σ1 H1 sI := ⟨J.ok, J.os, J.bare, J.base, J.loc, J.cell, J.free, J.freeC, fun p hp => absurd (show p ∈ ([] : List (Addr × Obj)) ++ [] from hp) (by simp), J.hok, J.len⟩
    exact key a B sI σ1 H1 cls d J' nb up ⟨g, .inr (.inr (by rw [← hst]; exact hh))⟩ na os ag w
end

/-! ### one clause -/
/-- what a comprehension asks: the tests and the element may fail, by the def's own slots -/
def tLx (wi : TI) (g : TG) (tt : L2.St → TT) (te : L2.St → TE) (vs : List Nat) : TE := fun σ H Q => tLc wi g (tt σ) (te σ) vs σ H Q
section
variable {X : Cx} {W : WX} {elt tg iter : Expr} {ifs : List Expr} {scope : Scope} {own : List (Str × Nat)} {pos pos' : Pos} {wi : TI} {g : TG} {tt : L2.St → TT} {te : L2.St → TE}
theorem lcx_core {pins : List (Addr × Obj)} {s : Shared} {σ : L2.St} {H : Hp} {Q : VK} {use : Option (Value → Sem Unit)} {Qf : Value → Shared → Prop} (hc : X.calm = true) (hN : X.N.Nodup) (fr : FrX X) (th : TakesH X W) (I : L2.Inv X pins σ H s) (hi : PI X tg iter wi) (ok : BlkOk X.N X.env.scope scope own)
    (hg : ∀ s H C cl fp σ, PG (bY X W σ scope s H C cl fp) tg g) (ht : ∀ s H C cl fp σ, PTs (bY X W σ scope s H C cl fp) ifs (tt σ)) (he : ∀ s H C cl fp σ, PE (bY X W σ scope s H C cl fp) elt (te σ))
    (hs : ∀ x, foldedSetIterable iter X.env x = pure x) (h : tLx wi g tt te (own.map (·.2)) σ H Q)
    (fin : ∀ D C s' m H', L2.Inv X pins σ H' s' → Q (.ref D) H' → s'.heap.Ns C m → FpOk X pins H' C → ∀ ce : Env, ce.locals = C → compEnds (model X.prog X.w) X.A X.xe use Qf (.ref D) ce (.ok .next) s') :
    wpAny (model X.prog X.w) X.A (comprehension (.ListComp elt [⟨tg, iter, ifs, 0⟩] scope pos) scope X.env pos' (newList []) false (eval iter X.env) use) Qf X.xe s := by
  have free : ∀ y ∈ scope.names, y.2 = .free → ∃ c, X.env.cells.lookup y.1 = some c := fun y hy e => (ok.free y hy e).elim (fun k => I.ok.has _ (.inl k)) fun k => I.ok.has _ (.inr k)
  refine comprehension_at (use := use) rfl hs (closure_ok free) ok.kind (fun y hy e => by rw [ok.uniq y hy, e]) (wpAny_mono (hi.run pins s σ H _ I h) (fun xv s1 hx => wpAny_mono hx (fun itv s2 h2 => ?_) fun _ _ z => z) fun _ _ z => z)
  obtain ⟨it, fp, tn, J, H2, rfl, I2, T, st2, f2, q⟩ := h2
  refine wpAny_newObj_type (newEnv_comp ?_) (by show 0 ≤ sizeLine; decide)
  generalize hD : s2.heap.objs.size = D
  obtain ⟨Wv, ⟨m0, w0⟩, turn⟩ := q D (I2.hok.fresh (Nat.le_of_eq hD))
  generalize hs3 : ({ s2 with heap := s2.heap.push { cls := .type "list", data := .seq ([] : List Value).toArray } } : Shared) = s3
  have e3 : s3.heap = s2.heap.push { cls := .type "list", data := .seq ([] : List Value).toArray } := by rw [← hs3]
  have I3 : L2.Inv X pins σ (upd H2 D (.lst [])) s3 := by
    rw [← hs3]
    exact I2.laid (t' := s2.toks) (fun b o e => Heap.get?_push_of_some _ e) (Nat.le_of_eq hD) ⟨Nat.zero_le _, [], 0, .nil, by rw [← hD]; exact Heap.get?_push_size _ rfl⟩
  have f3 : ∀ b ∈ fp, FpOk X pins (upd H2 D (.lst [])) b ∧ b < s3.heap.objs.size := fun b hb => by
    obtain ⟨o, e, _⟩ := T.obj _ _ st2 b hb
    have lt := Heap.lt_size e
    refine ⟨⟨?_, (f2 b hb).2⟩, by rw [e3, Heap.size_push]; exact Nat.lt_succ_of_lt lt⟩
    rw [upd_ne (by rw [← hD]; exact Nat.ne_of_lt lt)]
    exact (f2 b hb).1
  have st3 : tn 0 s3.heap := T.keep _ _ _ st2 fun b _ o e => by rw [e3]; exact Heap.get?_push_of_some _ e
  have I4 := block_start I3 ok hN f3
  have nfp : ∀ b ∈ fp, (upd H2 D (.lst [])) b = none := fun b hb => (f3 b hb).1.1
  generalize hH3 : upd H2 D (.lst []) = H3 at I3 I4 w0 nfp f3
  have pg := hg s3 H3 s3.heap.objs.size (cellsFrom (s3.heap.objs.size + 1) scope.names (cloFrom X.env.cells scope.names [])) fp σ
  have pt := ht s3 H3 s3.heap.objs.size (cellsFrom (s3.heap.objs.size + 1) scope.names (cloFrom X.env.cells scope.names [])) fp σ
  have pe := he s3 H3 s3.heap.objs.size (cellsFrom (s3.heap.objs.size + 1) scope.names (cloFrom X.env.cells scope.names [])) fp σ
  have bad : ∀ u s', xeB (bX X scope s3 H3 s3.heap.objs.size (cellsFrom (s3.heap.objs.size + 1) scope.names (cloFrom X.env.cells scope.names [])) fp) X.env.frame (WB W σ) u s' → _ := fun u s' x => blk_fails (use := use) (Qf := Qf) (acc := .ref D) I3 fr th f3 x
  show codeAny _ _ (.compStart (.ListComp elt [⟨tg, iter, ifs, 0⟩] scope pos) 0 (.ref it) (.ref D) (compEnvC scope (cellsFrom (s3.heap.objs.size + 1) scope.names (cloFrom X.env.cells scope.names [])) s3.heap.objs.size X.env)) (compEnds (model X.prog X.w) X.A X.xe use Qf (.ref D) (compEnvC scope (cellsFrom (s3.heap.objs.size + 1) scope.names (cloFrom X.env.cells scope.names [])) s3.heap.objs.size X.env)) { s3 with heap := pushCells (s3.heap.push { cls := .type "dict", data := .dict #[] }) scope.names }
  generalize hcl : cellsFrom (s3.heap.objs.size + 1) scope.names (cloFrom X.env.cells scope.names []) = cl at I4 pg pt pe bad ⊢
  generalize hs4 : ({ s3 with heap := pushCells (s3.heap.push { cls := .type "dict", data := .dict #[] }) scope.names } : Shared) = s4 at I4 ⊢
  have st4 : tn 0 s4.heap := T.keep _ _ _ st3 fun b _ o e => by rw [← hs4]; exact pushCells_keeps _ _ _ _ (Heap.get?_push_of_some _ e)
  have I5 : L2.Inv (bY X W σ scope s3 H3 s3.heap.objs.size cl fp) [] (L2.wipe σ (own.map (·.2))) H3 s4 := toB I4
  have stat : ∀ {σ' : L2.St} {H' : Hp} {s' : Shared}, L2.Inv (bY X W σ scope s3 H3 s3.heap.objs.size cl fp) [] σ' H' s' → (∀ b ∈ fp, H' b = none) → ∀ b ∈ fp, FpOk (bY X W σ scope s3 H3 s3.heap.objs.size cl fp) [] H' b := fun {σ' H' s'} I' n b hb =>
    ⟨n b hb, (I'.ok.exf b hb).1, I'.ok.exfs b hb, .inl hb, (I'.ok.exf b hb).2, fun p hp => absurd (show p ∈ ([] : List (Addr × Obj)) ++ [] from hp) (by simp)⟩
  have loop : codeAny (model X.prog X.w) X.A (.compLoop (.ListComp elt [⟨tg, iter, ifs, 0⟩] scope pos) 0 (.ref it) (.ref D) (compEnvC scope cl s3.heap.objs.size X.env)) (compEnds (model X.prog X.w) X.A X.xe use Qf (.ref D) (compEnvC scope cl s3.heap.objs.size X.env)) s4 := by
    refine compLoop_any (fun n s' => ∃ i H', L2.Inv (bY X W σ scope s3 H3 s3.heap.objs.size cl fp) [] (L2.wipe σ (own.map (·.2))) H' s' ∧ tn i s'.heap ∧ (∀ b ∈ fp, H' b = none) ∧ Wv i n H') ?_ m0 ⟨0, H3, I5, st4, nfp, w0⟩
    rintro n s5 ⟨i, H5, J5, st5, n5, w5⟩
    rcases turn i n H5 w5 with ⟨stop, qq⟩ | ⟨go, Nx, hNx, step⟩
    · refine thnF (T.done (bY X W σ scope s3 H3 s3.heap.objs.size cl fp) rfl rfl rfl hc i [] s5 _ H5 (fun _ _ => False) J5 (stat J5 n5) st5 stop) fun r s6 ⟨hr, J6⟩ => ?_
      subst hr
      obtain ⟨m, hn, _⟩ := J6.loc
      have hn : s6.heap.Ns s3.heap.objs.size m := hn
      have nC : H5 s3.heap.objs.size = none := J6.free
      exact fin D s3.heap.objs.size s6 m H5 (I3.call' (ch := fp) J6.os J6.base J6.hok J6.bare fun b hb => ⟨(f3 b hb).1.2.2.2.1, (f3 b hb).1.2.1, (f3 b hb).1.2.2.2.2.1, (f3 b hb).1.2.2.2.2.2⟩) qq hn (I3.fpOk (Nat.le_refl _) nC) _ rfl
    · refine thnF (T.item (bY X W σ scope s3 H3 s3.heap.objs.size cl fp) rfl rfl rfl hc i [] s5 _ H5 (fun _ _ => False) J5 (stat J5 n5) st5 go) fun r s6 ⟨u, hr, h6⟩ => ?_
      subst hr
      refine thnF h6 fun _ s7 ⟨x, H7, J7, r7, y7, st7, n7⟩ => ?_
      have J7' := J7.pinned (stat J7 n7) (T.obj _ _ st7)
      refine wpAny_mono (pg.run _ s7 _ H7 x u _ J7' r7 (step x H7 y7)) (fun _ s8 ⟨σ8, H8, J8, hw8, q8⟩ => ?_) bad
      refine wpAny_mono (pt.run _ s8 σ8 H8 _ J8 q8) (fun b s9 ⟨H9, J9, q9⟩ => ?_) bad
      have close : ∀ {s' : Shared} {H' : Hp}, L2.Inv (bY X W σ scope s3 H3 s3.heap.objs.size cl fp) ([] ++ pinsAt fp s7.heap) σ8 H' s' → Nx H' → ∃ m, m < n ∧ ∃ i H', L2.Inv (bY X W σ scope s3 H3 s3.heap.objs.size cl fp) [] (L2.wipe σ (own.map (·.2))) H' s' ∧ tn i s'.heap ∧ (∀ b ∈ fp, H' b = none) ∧ Wv i m H' := fun {s' H'} J' nx => by
        obtain ⟨m', hm, w'⟩ := hNx H' nx
        have pin' : ∀ b ∈ fp, ∀ o, s7.heap.get? b = some o → s'.heap.get? b = some o ∧ H' b = none := fun b hb o e =>
          have z := J'.pin (b, o) (List.mem_append_right _ (List.mem_append_right _ (mem_pinsAt hb e)))
          ⟨z.1, z.2.1⟩
        refine ⟨m', hm, i + 1, H', (J'.unpinned (pins := [])).weak (by rw [← hw8, wipe_length]) (fun j v e => ?_), T.keep _ _ _ st7 fun b hb o e => (pin' b hb o e).1, fun b hb => ?_, w'⟩
        · rw [← hw8] at e
          exact (wipe_some e).1
        · obtain ⟨o, e, _⟩ := T.obj _ _ st7 b hb
          exact (pin' b hb o e).2
      cases b with
      | false =>
        simp only [Bool.false_eq_true, if_false] at q9 ⊢
        exact close J9 q9
      | true =>
        simp only [if_true] at q9 ⊢
        refine wpAny_mono (pe.run _ s9 σ8 H9 _ J9 q9) (fun z s10 ⟨yv, H10, J10, r10, acc, hD10, hz10, nx⟩ => ?_) bad
        exact app_ok (X := bY X W σ scope s3 H3 s3.heap.objs.size cl fp) J10 hD10 hz10 r10 fun s11 J11 => close J11 nx
  exact codeAny_compStart_list loop (T.self X.A 0 _ _ _ st4 loop)
/-- as a value -/
theorem pe_lcx (hc : X.calm = true) (hN : X.N.Nodup) (fr : FrX X) (th : TakesH X W) (hi : PI X tg iter wi) (ok : BlkOk X.N X.env.scope scope own)
    (hg : ∀ s H C cl fp σ, PG (bY X W σ scope s H C cl fp) tg g) (ht : ∀ s H C cl fp σ, PTs (bY X W σ scope s H C cl fp) ifs (tt σ)) (he : ∀ s H C cl fp σ, PE (bY X W σ scope s H C cl fp) elt (te σ))
    (hs : ∀ x, foldedSetIterable iter X.env x = pure x) : PE X (.ListComp elt [⟨tg, iter, ifs, 0⟩] scope pos) (tLx wi g tt te (own.map (·.2))) := by
  refine ⟨fun pins s σ H Q I h => ?_⟩
  rw [eval_ListComp]
  refine lcx_core hc hN fr th I hi ok hg ht he hs h fun D C s' m H' I' q hn ⟨f0, f1, f2, f3, f4, f5⟩ ce hce => ⟨m, by rw [hce]; exact hn, fun h'' sb => ?_⟩
  rw [hce] at sb
  exact ⟨.ref D, H', I'.turned (t' := s'.toks) (fun b o hb e => (sb.2 b hb).trans e) f0 f1 f3 f4 f5, rfl, q⟩
/-- a name is bound to it, on one line -/
theorem ps_setLcx {i : Nat} {y : Str} {py spos : Pos} (hc : X.calm = true) (hN : X.N.Nodup) (fr : FrX X) (th : TakesH X W) (hy : X.N[i]? = some y) (hyl : X.env.scope.names.lookup y = some .local)
    (hsw : swapsWith (.ListComp elt [⟨tg, iter, ifs, 0⟩] scope pos) (some (.Name y py)) spos.line X.env = pure true) (hi : PI X tg iter wi) (ok : BlkOk X.N X.env.scope scope own)
    (hg : ∀ s H C cl fp σ, PG (bY X W σ scope s H C cl fp) tg g) (ht : ∀ s H C cl fp σ, PTs (bY X W σ scope s H C cl fp) ifs (tt σ)) (he : ∀ s H C cl fp σ, PE (bY X W σ scope s H C cl fp) elt (te σ))
    (hs : ∀ x, foldedSetIterable iter X.env x = pure x) : PS X (.Assign [.Name y py] (.ListComp elt [⟨tg, iter, ifs, 0⟩] scope pos) spos) (tAsg (tLx wi g tt te (own.map (·.2))) (gName i)) := by
  constructor
  intro pins s σ H D I h
  rw [exec_Assign_Name_used _ _ _ _ hsw]
  apply wpAny_bind
  apply wpAny_standAt
  apply wpAny_bind
  show wpAny _ X.A (do let _ ← comprehension (.ListComp elt [⟨tg, iter, ifs, 0⟩] scope pos) scope X.env (firstIterPos [⟨tg, iter, ifs, 0⟩] pos) (newList []) false (eval iter X.env) (some (assign (.Name y py) X.env))) _ _ s
  have h : tLx wi g tt te (own.map (·.2)) σ H (fun x H1 => gName i x σ H1 D.nx) := h
  refine wpAny_bind (thn (lcx_core (Qf := fun _ s' => SP X pins D .next s') hc hN fr th I hi ok hg ht he hs h fun L C s' m H' I' q hn ⟨f0, f1, f2, f3, f4, f5⟩ ce hce => ?_) fun _ s' hq => wpAny_pure (wpAny_pure hq))
  show wpAny _ _ (assign (.Name y py) X.env (.ref L)) _ _ _
  refine wpAny_assign_Name (store_ok2 (v := V.ref L) I' hN hy (.inl hyl) rfl (fun s2 I2 ⟨a, sb, ha⟩ => ?_) (.inr hyl))
  have ne : C ≠ a := ha.elim (fun z => by rw [z]; exact f1) fun z e => f4 y a z e.symm
  refine ⟨m, by rw [hce]; exact hn.sameBut sb ne, fun h3 sb3 => ?_⟩
  rw [hce] at sb3
  exact ⟨_, H', I2.turned (t' := s2.toks) (fun b o hb e => (sb3.2 b hb).trans e) f0 f1 f3 f4 f5, q⟩
end

/-! ### its meaning -/
def sLcL (g : D → Env' → Option Env') (c : Env' → M Bool) (el : Env' → M D) (ρ : Env') : List D → List D → M (List D)
  | [], acc => M.pure acc
  | d :: ds, acc => match g d ρ with
    | none => M.bad
    | some ρ1 => M.bind (c ρ1) fun b => if b = true then M.bind (el ρ1) fun e => if acc.length < sizeLine then sLcL g c el ρ ds (acc ++ [e]) else M.bad else sLcL g c el ρ ds acc
def sLc (it : Env' → M (List D)) (g : D → Env' → Option Env') (c : Env' → M Bool) (el : Env' → M D) (vs : List Nat) : Env' → M RV := fun ρ => M.bind (it ρ) fun ds => M.bind (sLcL g c el (wipeE ρ vs) ds []) fun acc => M.pure (.fr acc)
section
variable {X : Cx} {K : PySem.W.Frag} {fld : Str → List Str} {W : WX} {σ : L2.St} {H : Hp} {elt tg iter : Expr} {ifs : List Expr} {scope : Scope} {own : List (Str × Nat)} {pos : Pos} {Q : VK}
/-- a part's end, seen from later on; errors are the whole's -/
theorem Post.blk' {α β : Type} {m : M α} {g : α → M β} {k : β → Store → List Addr → Hp → Prop} {H1 : Hp} {ca ca1 : List Addr} {st : Store} {σ' : L2.St} (t : Stp ca1 ca H1 H) (h : Post K fld W σ H1 ca1 k (M.bind m g st)) :
    Post K fld (WB W σ) σ' H ca (fun a st1 _ _ => Post K fld W σ H1 ca1 k (g a st1)) (m st) := by
  unfold M.bind at h
  cases e : m st with
  | bad => rw [e] at h; exact h
  | exc c as st1 =>
    rw [e] at h
    exact fun cls dd ca' H' t' s' x => (show ∀ cls dd ca' H', Stp ca1 ca' H1 H' → SR K st1 ca' H' → ExR K fld H' ca' c as cls dd → W cls dd σ H' from h) cls dd ca' H' (t.trans t') s' x
  | ok a st1 => rw [e] at h; exact fun _ _ _ _ => h
theorem lcx_tr {it : Env' → M (List D)} {is vs : List Nat} {g : D → Env' → Option Env'} {c : Env' → M Bool} {el : Env' → M D} (hsub : ∀ i ∈ is, i ∈ vs)
    (h : TN K fld W (sLc it g c el vs) σ H Q) : tLx (TWk K fld W it) (TGd K is g) (fun σ => TT' K fld (WB W σ) c) (fun σ => TS' K fld (WB W σ) el) vs σ H Q := by
  obtain ⟨ρ, st, ca, he, hs, hp⟩ := h
  refine ⟨ρ, st, ca, he, hs, (Post.bind hp).mono fun ds st1 ca1 H1 t1 s1 q J wk => fun L hL => ?_⟩
  have q := Post.bind q
  have hn : L ∉ ca1 := s1.notnew hL
  have he1 := he.stp t1
  generalize hk : (fun (a : List D) (st1 : Store) (ca1 : List Addr) (H1 : Hp) => Post K fld W σ H1 ca1 (fun r _ ca' H' => ∀ v, RelRV K H H' ca' r v → Q v H') (M.pure (.fr a) st1)) = kk at q
  refine ⟨fun i m H' => m = ds.length - i ∧ i ≤ ds.length ∧ ∃ st' ca' acc ws, Stp ca1 ca' H1 H' ∧ SR K st' ca' H' ∧ H' L = some (.lst ws) ∧ L ∉ ca' ∧ RelDs K H' ca' acc ws ∧ Post K fld W σ H1 ca1 kk (sLcL g c el (wipeE ρ vs) (ds.drop i) acc st'),
    ⟨_, rfl, Nat.zero_le _, st1, ca1, [], [], Stp.laid hL, s1.laid hL, upd_same, hn, rfl, q⟩, ?_⟩
  rintro i m H' ⟨rfl, hle, st', ca', acc, ws, t, s, hl, nl, ra, q⟩
  obtain ⟨w1, w2, w3⟩ := wk H' ca' t.fx
  by_cases hlt : i < ds.length
  · have ed : ds.drop i = ds[i] :: ds.drop (i + 1) := (List.getElem_cons_drop hlt).symm
    rw [ed] at q
    refine .inr ⟨w1 i hlt, fun H2 => ∃ st' ca' acc ws, Stp ca1 ca' H1 H2 ∧ SR K st' ca' H2 ∧ H2 L = some (.lst ws) ∧ L ∉ ca' ∧ RelDs K H2 ca' acc ws ∧ Post K fld W σ H1 ca1 kk (sLcL g c el (wipeE ρ vs) (ds.drop (i + 1)) acc st'),
      fun H2 hx => ⟨ds.length - (i + 1), by omega, rfl, hlt, hx⟩, fun x H2 y => ?_⟩
    obtain ⟨d, hd, ly, rd⟩ := w3 i x H2 y hlt
    have e : ds[i] = d := by rw [List.getElem?_eq_getElem hlt] at hd; exact Option.some.inj hd
    rw [e] at q
    unfold sLcL at q
    have s2 := ly.sr s
    have l2 := ly L _ hl
    have ra2 := ra.stp (ly.stp (ca := ca'))
    have tt := t.trans (ly.stp (ca := ca'))
    cases hg : g d (wipeE ρ vs) with
    | none => rw [hg] at q; exact q.elim
    | some ρ1 =>
      rw [hg] at q
      dsimp only at q
      refine ⟨wipeE ρ vs, d, ca', ρ1, (he1.stp tt).wipe vs, rd, hg, fun σ1 b1 => ⟨(b1.wip vs hsub).trans (wipe_idem σ vs), ρ1, st', ca', b1.env, s2, ?_⟩⟩
      refine (Post.blk' (σ' := σ1) tt q).mono fun b st3 ca3 H3 t3 s3 q4 => ?_
      have tt3 := tt.trans t3
      have l3 := t3.keep L _ l2 nl trivial
      have nl3 := t3.notin l2 nl
      have ra3 := ra2.stp t3
      cases b with
      | false => exact ⟨st3, ca3, acc, ws, tt3, s3, l3, nl3, ra3, q4⟩
      | true =>
        refine ⟨ρ1, st3, ca3, b1.env.stp t3, s3, (Post.blk' (σ' := σ1) tt3 q4).mono fun z st4 ca4 H4 t4 s4 q5 v hv => ?_⟩
        have l4 := t4.keep L _ l3 nl3 trivial
        have nl4 := t4.notin l3 nl3
        have ra4 := ra3.stp t4
        split at q5
        · rename_i hz
          exact ⟨ws, l4, by rw [ra4.length]; exact hz, st4, ca4, acc ++ [z], ws ++ [v], (tt3.trans t4).wr (o := .lst (ws ++ [v])) hL, s4.wr l4 nl4, upd_same, nl4, RelDs.fixed (fix_wr (o := .lst (ws ++ [v])) l4) (fun _ _ z => z) _ _ (ra4.snoc hv), q5⟩
        · exact q5.elim
  · have e : i = ds.length := by omega
    subst e
    rw [List.drop_length] at q
    subst hk
    refine .inl ⟨w2, ?_⟩
    have q2 : Post K fld W σ H' ca' (fun r _ ca' H' => ∀ v, RelRV K H H' ca' r v → Q v H') (M.pure (.fr acc) st') := (show ∀ ca2 H2, Stp ca1 ca2 H1 H2 → SR K st' ca2 H2 → _ from q) ca' H' t s
    exact Post.now q2 s _ ⟨L, ws, rfl, hl, t1.dom L hL, nl, ra⟩
variable {is : List Nat} {it : Env' → M (List D)} {g : D → Env' → Option Env'} {c : Env' → M Bool} {el : Env' → M D}
theorem se_lc (hc : X.calm = true) (hN : X.N.Nodup) (fr : FrX X) (th : TakesH X W) (hi : PI X tg iter (TWk K fld W it)) (ok : BlkOk X.N X.env.scope scope own) (hsub : ∀ i ∈ is, i ∈ own.map (·.2))
    (hg : ∀ s H C cl fp σ, PG (bY X W σ scope s H C cl fp) tg (TGd K is g)) (ht : ∀ s H C cl fp σ, PTs (bY X W σ scope s H C cl fp) ifs (TT' K fld (WB W σ) c)) (he : ∀ s H C cl fp σ, PE (bY X W σ scope s H C cl fp) elt (TS' K fld (WB W σ) el))
    (hs : ∀ x, foldedSetIterable iter X.env x = pure x) : PE X (.ListComp elt [⟨tg, iter, ifs, 0⟩] scope pos) (TN K fld W (sLc it g c el (own.map (·.2)))) :=
  PE.imp (pe_lcx (tt := fun σ => TT' K fld (WB W σ) c) (te := fun σ => TS' K fld (WB W σ) el) hc hN fr th hi ok hg ht he hs) fun σ H Q h => lcx_tr hsub h
theorem ss_setLc {H0 : Hp} {ca0 : List Addr} {i : Nat} {y : Str} {py spos : Pos} (hc : X.calm = true) (hN : X.N.Nodup) (fr : FrX X) (th : TakesH X W) (hy : X.N[i]? = some y) (hyl : X.env.scope.names.lookup y = some .local)
    (hsw : swapsWith (.ListComp elt [⟨tg, iter, ifs, 0⟩] scope pos) (some (.Name y py)) spos.line X.env = pure true) (hi : PI X tg iter (TWk K fld W it)) (ok : BlkOk X.N X.env.scope scope own) (hsub : ∀ i ∈ is, i ∈ own.map (·.2))
    (hg : ∀ s H C cl fp σ, PG (bY X W σ scope s H C cl fp) tg (TGd K is g)) (ht : ∀ s H C cl fp σ, PTs (bY X W σ scope s H C cl fp) ifs (TT' K fld (WB W σ) c)) (he : ∀ s H C cl fp σ, PE (bY X W σ scope s H C cl fp) elt (TS' K fld (WB W σ) el))
    (hs : ∀ x, foldedSetIterable iter X.env x = pure x) : PS X (.Assign [.Name y py] (.ListComp elt [⟨tg, iter, ifs, 0⟩] scope pos) spos) (TSt K fld W H0 ca0 (sSet i (sLc it g c el (own.map (·.2))))) := by
  refine PS.imp (ps_setLcx (tt := fun σ => TT' K fld (WB W σ) c) (te := fun σ => TS' K fld (WB W σ) el) hc hN fr th hy hyl hsw hi ok hg ht he hs) fun D σ H ⟨ρ, st, ca, hf, hsr, hp⟩ => ?_
  show tLx _ _ _ _ _ σ H (fun v H1 => gName i v σ H1 D.nx)
  refine lcx_tr hsub ⟨ρ, st, ca, hf.env, hsr, (PostS.then hf hp).mono fun r st1 ca1 H1 t1 s1 q v hv => ?_⟩
  obtain ⟨q1, q2⟩ := q
  cases hr : slot r with
  | none => rw [hr] at q2; exact q2.elim
  | some sv =>
    rw [hr] at q2
    exact q2 _ ca1 H1 Fx.refl (hf.store t1 hv hr) s1
end
omit [Tbs] [Hnd] in
theorem ne_bind {α β : Type} (m : M α) (f : α → M β) : M.ne (M.bind m f) = M.bind (M.ne m) fun a => M.ne (f a) := by
  funext st
  unfold M.ne M.bind
  dsimp only
  cases m st <;> rfl
omit [Tbs] [Hnd] in
theorem sLcN_eq {g : D → Env' → Option Env'} {c : Env' → M Bool} {el : Env' → M D} {ρ : Env'} : ∀ (ds acc : List D), sLcN g c el ρ ds acc = M.ne (sLcL g c el ρ ds acc)
  | [], acc => rfl
  | d :: ds, acc => by
    unfold sLcN sLcL
    cases g d ρ with
    | none => rfl
    | some ρ1 =>
      dsimp only
      rw [ne_bind]
      refine congrArg _ (funext fun b => ?_)
      cases b with
      | false => exact sLcN_eq ds acc
      | true =>
        rw [if_pos rfl, if_pos rfl, ne_bind]
        refine congrArg _ (funext fun e => ?_)
        split
        · exact sLcN_eq ds (acc ++ [e])
        · rfl
end Ev
/-! sorted(set(..)) of a list of tuples of ints. -/
namespace Ev
open PySem PySem.Spec PyProof.Rows L2
variable [Tbs] [Hnd]
def tups? : List D → Option (List (List Int))
  | [] => some []
  | .tup ds :: r => (ints? ds).bind fun k => (tups? r).map (k :: ·)
  | _ :: _ => none
/-- each thing once -/
def onceT : List (List Int) → List (List Int)
  | [] => []
  | k :: r => if k ∈ r then onceT r else k :: onceT r
def insT (k : List Int) : List (List Int) → List (List Int)
  | [] => [k]
  | x :: r => if TS.code 100 k ≤ TS.code 100 x then k :: x :: r else x :: insT k r
def sortT : List (List Int) → List (List Int)
  | [] => []
  | k :: r => insT k (sortT r)
def tupOk (d : Nat) (k : List Int) : Bool := decide (k.length = d) && k.all fun m => decide (0 ≤ m) && decide (m < 100)
def dSortSet : D → Option RV
  | .lst ds => (tups? ds).bind fun ks => match ks with
    | [] => none
    | k :: _ => if decide (1 ≤ k.length) && decide (ks.length < 64) && ks.all (tupOk k.length) then some (.fr ((sortT (onceT ks)).map fun k => .tup (k.map .int))) else none
  | _ => none
/-! ### lists -/
theorem once_mem {x : List Int} : ∀ {l : List (List Int)}, x ∈ onceT l ↔ x ∈ l
  | [] => by simp [onceT]
  | k :: r => by
    unfold onceT
    split
    · rename_i h
      rw [once_mem, List.mem_cons]
      exact ⟨.inr, fun z => z.elim (fun e => e ▸ h) id⟩
    · rw [List.mem_cons, List.mem_cons, once_mem]
theorem once_nodup : ∀ l : List (List Int), (onceT l).Nodup
  | [] => by simp [onceT]
  | k :: r => by
    unfold onceT
    split
    · exact once_nodup r
    · rename_i h
      rw [List.nodup_cons]
      exact ⟨fun z => h (once_mem.mp z), once_nodup r⟩
theorem insT_perm (k : List Int) : ∀ l : List (List Int), (insT k l).Perm (k :: l)
  | [] => .refl _
  | x :: r => by
    unfold insT
    split
    · exact .refl _
    · exact ((insT_perm k r).cons x).trans (.swap _ _ _)
theorem sortT_perm : ∀ l : List (List Int), (sortT l).Perm l
  | [] => .refl _
  | k :: r => (insT_perm k _).trans ((sortT_perm r).cons k)
theorem insT_pw (k : List Int) : ∀ l : List (List Int), l.Pairwise (fun a b => TS.code 100 a ≤ TS.code 100 b) → (insT k l).Pairwise (fun a b => TS.code 100 a ≤ TS.code 100 b)
  | [], _ => by simp [insT]
  | x :: r, h => by
    rw [List.pairwise_cons] at h
    unfold insT
    split
    · rename_i hk
      rw [List.pairwise_cons, List.pairwise_cons]
      refine ⟨fun y hy => ?_, h⟩
      rcases List.mem_cons.mp hy with e | hy
      · rw [e]; exact hk
      · exact Int.le_trans hk (h.1 y hy)
    · rename_i hk
      rw [List.pairwise_cons]
      refine ⟨fun y hy => ?_, insT_pw k r h.2⟩
      rcases List.mem_cons.mp ((insT_perm k r).mem_iff.mp hy) with e | hy
      · rw [e]; omega
      · exact h.1 y hy
theorem sortT_pw : ∀ l : List (List Int), (sortT l).Pairwise (fun a b => TS.code 100 a ≤ TS.code 100 b)
  | [] => .nil
  | k :: r => insT_pw k _ (sortT_pw r)
theorem code_inj : ∀ (a b : List Int), a.length = b.length → TS.Bd 100 a → TS.Bd 100 b → TS.code 100 a = TS.code 100 b → a = b
  | [], [], _, _, _, _ => rfl
  | [], _ :: _, h, _, _, _ => by simp at h
  | _ :: _, [], h, _, _, _ => by simp at h
  | x :: a, y :: b, h, ha, hb, e => by
    have hl : a.length = b.length := by simpa using h
    rcases Int.lt_trichotomy x y with z | z | z
    · have := TS.code_lt hl ha.tail hb.tail z
      omega
    · subst z
      have e2 : x * 100 ^ a.length + TS.code 100 a = x * 100 ^ b.length + TS.code 100 b := e
      rw [hl] at e2
      rw [code_inj a b hl ha.tail hb.tail (by omega)]
    · have := TS.code_lt hl.symm hb.tail ha.tail z
      omega
theorem bd_of {d : Nat} {k : List Int} (h : tupOk d k = true) : k.length = d ∧ TS.Bd 100 k := by
  simp only [tupOk, Bool.and_eq_true, decide_eq_true_eq, List.all_eq_true] at h
  exact h
section
variable {K : PySem.W.Frag} {H : Hp} {ca : List Addr}
theorem tups_rel : ∀ {ds : List D} {vs : List V} {ks : List (List Int)}, RelDs K H ca ds vs → tups? ds = some ks → ∃ ps : List (Addr × List Int), vs = ps.map (fun p => V.ref p.1) ∧ ps.map (·.2) = ks ∧ ∀ p ∈ ps, SqT K H p.1 (p.2.map V.int)
  | [], _, _, h, e => by
    cases h
    cases e
    exact ⟨[], rfl, rfl, fun p hp => nomatch hp⟩
  | .tup ds :: r, _, _, h, e => by
    obtain ⟨v, t, rfl, ⟨a, ws, rfl, q, q2⟩, g⟩ := h
    unfold tups? at e
    obtain ⟨k, h1, h2⟩ := bk e
    cases h3 : tups? r with
    | none => rw [h3] at h2; cases h2
    | some js =>
      rw [h3] at h2
      cases h2
      obtain ⟨ps, e1, e2, e3⟩ := tups_rel g h3
      have := ints_vs q2 h1
      subst this
      refine ⟨(a, k) :: ps, by rw [e1]; rfl, by rw [← e2]; rfl, fun p hp => ?_⟩
      rcases List.mem_cons.mp hp with z | hp
      · rw [z]; exact q
      · exact e3 p hp
  | .non :: _, _, _, _, e => by cases e
  | .bl _ :: _, _, _, _, e => by cases e
  | .int _ :: _, _, _, _, e => by cases e
  | .str _ :: _, _, _, _, e => by cases e
  | .lst _ :: _, _, _, _, e => by cases e
  | .cell _ :: _, _, _, _, e => by cases e
  | .ty _ :: _, _, _, _, e => by cases e
theorem tups_back : ∀ (ps : List (Addr × List Int)), (∀ p ∈ ps, SqT K H p.1 (p.2.map V.int)) → RelDs K H ca ((ps.map (·.2)).map fun k => D.tup (k.map .int)) (ps.map fun p => V.ref p.1)
  | [], _ => rfl
  | p :: ps, h => by
    refine ⟨_, _, rfl, ⟨p.1, p.2.map V.int, rfl, h p (by simp), ?_⟩, tups_back ps fun q hq => h q (List.mem_cons_of_mem _ hq)⟩
    have : ∀ l : List Int, RelDs K H ca (l.map .int) (l.map V.int) := fun l => by
      induction l with
      | nil => rfl
      | cons i l ih => exact ⟨_, _, rfl, rfl, ih⟩
    exact this p.2
end
def sSortSet (f : Env' → M D) : Env' → M RV := sUn dSortSet f
section
variable {X : Cx} {fld : Str → List Str} {W : WX} {e : Expr} {p q pos pos1 : Pos} {f : Env' → M D}
theorem se_sortSet (hc : X.calm = true) (hu : X.A.units + 65 < cLine) (hg : Gl X "sorted") (hm : X.mg "sorted" = none) (hg2 : Gl X "set") (hm2 : X.mg "set" = none) (he : PE X e (TR X.K fld W f)) (na : starEach [e] X.env = (false, eval e X.env) :: starEach [] X.env)
    (nb : starEach [.Call (.Name "set" q) [e] [] pos1] X.env = (false, eval (.Call (.Name "set" q) [e] [] pos1) X.env) :: starEach [] X.env) : PE X (.Call (.Name "sorted" p) [.Call (.Name "set" q) [e] [] pos1] [] pos) (TN X.K fld W (sSortSet f)) := by
  have h1 := pe_callTy (cr_setOfT hc (by omega)) hg2 hm2 (by rfl) (pa_cons he pa_nil na) (by decide) (by decide) na rfl (pos := pos1) (p := q)
  have h2 := pe_callB (cr_sortedT hc) hg hm (by rfl) (pa_cons h1 pa_nil nb) (by decide) (by decide) nb rfl (pos := pos) (p := p)
  refine PE.imp h2 fun σ H Q ⟨ρ, st, ca, hen, hs, hp⟩ => ⟨ρ, st, ca, hen, hs, (Post.bind hp).mono fun d st1 ca1 H1 t1 s1 qq v hv => ?_⟩
  obtain ⟨r, er, g⟩ := qq.rdr t1
  have hx := hv.x s1
  unfold dSortSet at er
  split at er
  · rename_i ds hd
    rw [hd] at hx
    obtain ⟨a, vs, rfl, ql, rl⟩ := hx
    obtain ⟨ks, hk, er⟩ := bk er
    obtain ⟨ps, e1, e2, e3⟩ := tups_rel rl hk
    cases hks : ks with
    | nil => rw [hks] at er; cases er
    | cons k0 kr =>
      rw [hks] at er
      dsimp only at er
      split at er
      · rename_i hcond
        simp only [Bool.and_eq_true, decide_eq_true_eq, List.all_eq_true] at hcond
        obtain ⟨⟨hd1, h64⟩, hok⟩ := hcond
        rw [← hks] at er hok h64
        cases er
        have hlen : ps.length < 64 := by rw [← List.length_map (f := fun p : Addr × List Int => p.2), e2]; exact h64
        refine ⟨a, ps, rfl, by rw [← e1]; exact ql.sq, e3, hlen, fun b L hb hL1 hL2 => ?_⟩
        have tb := Stp.laid (ca := ca1) (o := SetTO X.prog X.w b L) hb
        have sqL : ∀ p ∈ L, SqT X.K (upd H1 b (SetTO X.prog X.w b L)) p.1 (p.2.map V.int) := fun p hp => SqT.fixed tb.fix (e3 p (hL1 p hp))
        refine ⟨b, L, k0.length, 100, rfl, upd_same, sqL, hd1, fun p hp => bd_of (hok p.2 ?_), fun L' c pm nd hfew pw hcn => ?_⟩
        · rw [← e2]; exact List.mem_map_of_mem (hL1 p hp)
        · have hc1 : H1 c = none := tb.dom c hcn
          have tc := Stp.laid (ca := ca1) (o := .lst (L'.map fun q => V.ref q.1)) hcn
          have memK : ∀ k : List Int, k ∈ L'.map (·.2) ↔ k ∈ ks := fun k => by
            rw [List.mem_map]
            constructor
            · rintro ⟨p, hp, rfl⟩
              rw [← e2]
              exact List.mem_map_of_mem (hL1 p (pm.mem_iff.mp hp))
            · intro hk'
              rw [← e2] at hk'
              obtain ⟨p, hp, rfl⟩ := List.mem_map.mp hk'
              obtain ⟨p2, hp2, e4⟩ := List.mem_map.mp (hL2 p hp)
              exact ⟨p2, pm.mem_iff.mpr hp2, e4⟩
          have okL : ∀ k ∈ L'.map (·.2), k.length = k0.length ∧ TS.Bd 100 k := fun k hk' => bd_of (hok k ((memK k).mp hk'))
          have eqL : L'.map (·.2) = sortT (onceT ks) := by
            have pm2 : (L'.map (·.2)).Perm (sortT (onceT ks)) := by
              refine (List.perm_ext_iff_of_nodup nd ((sortT_perm _).nodup_iff.mpr (once_nodup _))).mpr fun k => ?_
              rw [memK, (sortT_perm _).mem_iff, once_mem]
            refine pm2.eq_of_pairwise (le := fun a b => TS.code 100 a ≤ TS.code 100 b) (fun x y hx hy h1 h2 => ?_) (List.pairwise_map.mpr pw) (sortT_pw _)
            have hy' := pm2.mem_iff.mpr hy
            exact code_inj x y ((okL x hx).1.trans (okL y hy').1.symm) (okL x hx).2 (okL y hy').2 (Int.le_antisymm h1 h2)
          rw [← eqL] at g
          have t12 : Stp ca1 ca1 H1 (upd (upd H1 b (SetTO X.prog X.w b L)) c (.lst (L'.map fun q => V.ref q.1))) := tb.trans tc
          refine g _ _ t12 ((s1.laid hb).laid hcn) ⟨c, _, rfl, upd_same, hc1, s1.notnew hc1, tups_back L' fun p hp => SqT.fixed tc.fix (sqL p (pm.mem_iff.mp hp))⟩
      · cases er
  · cases er
end
end Ev
/-! enumerate with no start; while; count, index, remove on lists. -/
namespace Ev
open PySem PySem.Spec PyProof.Rows L2
variable [Tbs] [Hnd]

/-! ### enumerate(e) -/
theorem enum0_new {v : Value} {o : Obj} {G : Heap → Prop} (B : Begins v o G) :
    Meets (Builtin.«enumerate.__new__» ⟨[.type "enumerate", v], []⟩) (fun _ R s => G s.heap ∧
      R (.ok (.ret (.ref (s.heap.push o).objs.size))) { s with heap := (s.heap.push o).push { cls := .type "enumerate", data := .fields #[.none, .bool false, .ref s.heap.objs.size, rawInt 0, .none, .none] } }) := by
  refine .of_wp fun prog w A R s h => ?_
  obtain ⟨hp, gg, dd, tk, os⟩ := s
  obtain ⟨h1, h⟩ := h
  have e1 := sub_enumerate
  have q1 : ∀ {A' : Around} {E : Value → Shared → Prop} {Q : Value → Shared → Prop}, Q (.ref hp.objs.size) ⟨hp.push o, gg, dd, tk, os⟩ → wpAny (model prog w) A' (pyIter v) Q E ⟨hp, gg, dd, tk, os⟩ :=
    fun q => B.iter prog w _ _ ⟨hp, gg, dd, tk, os⟩ _ h1 q
  wp_walk using q1
  refine wpAny_stack_any fun _ => wpAny_pure ?_
  split
  · rename_i c _ _ _ _ _
    cases (c == Value.type "enumerate") <;> (wp_walk using q1; exact ⟨_, rfl, h⟩)
  · wp_walk using q1
    exact ⟨_, rfl, h⟩
theorem enum0_begins {prog : Program} {w : World} {A : Around} {E : Value → Shared → Prop} {s : Shared} {v : Value} {o : Obj} {G : Heap → Prop} {Q : Value → Shared → Prop} (B : Begins v o G) (h1 : G s.heap)
    (h : ∀ h2, IsEnum h2 (s.heap.objs.size + 1) s.heap.objs.size 0 .none → h2.get? s.heap.objs.size = some o → (∀ b u, s.heap.get? b = some u → h2.get? b = some u) → Q (.ref (s.heap.objs.size + 1)) { s with heap := h2 }) :
    wpAny (model prog w) A (call (.type "enumerate") [v]) Q E s := by
  have z1 : (s.heap.push o).objs.size = s.heap.objs.size + 1 := Heap.size_push ..
  have z2 := Heap.get?_push_size (s.heap.push o) (o := { cls := .type "enumerate", data := .fields #[.none, .bool false, .ref s.heap.objs.size, rawInt 0, .none, .none] }) rfl
  rw [z1] at z2
  refine callType_new F.called_enumerate (by decide) (F.typeCall_enumerate_1 _) (F.newCall_enumerate_1 _) (fun u => F.args_object_init_2 u _) F.entry_enumerate_new (enum0_new B) ⟨h1, ?_⟩
  show _ ∧ _
  rw [z1]
  exact ⟨⟨_, z2, rfl⟩, h _ z2 (Heap.get?_push_of_some _ (Heap.get?_push_size _ B.free)) fun b u x => Heap.get?_push_of_some _ (Heap.get?_push_of_some _ x)⟩
section
variable {X : Cx} {fld : Str → List Str} {W : WX} {e : Expr} {p pos tpos : Pos} {elts : List Expr} {kk : Nat}
theorem pi_en0 {ta : TA} (hg : Gl X "enumerate") (hm : X.mg "enumerate" = none) (ha : PA X [e] ta) (hs : starEach [e] X.env = [(false, eval e X.env)]) :
    PI X (.Tuple elts kk tpos) (.Call (.Name "enumerate" p) [e] [] pos) (iEnB X.K 0 ta) := by
  refine ⟨fun pn s σ H R I h => ?_⟩
  refine Call_ (ld_blt I hg hm boot_enumerate (PyProof.Rows.callWith_type1 (thn (ha.run pos pn s σ H _ I h) fun us sB ⟨vs, H1, J1, rel1, a, k, xs, ex, sq0, q⟩ => ?_) hs rfl))
  subst ex
  cases rel1 with
  | cons r rr =>
    cases rr
    cases r
    obtain ⟨us, rel, p2, lenOk⟩ := Inv.seqB J1 sq0
    obtain ⟨o, B, hB⟩ := beginsB k a us.toArray
    exact enum0_begins B p2 fun h2 he ho kp2 => wpAny_pyIter_enum he (en_made (o := o) J1 q he (hB _ _ ho) kp2)
theorem si_en0 {g : Env' → M (List D)} (hg : Gl X "enumerate") (hm : X.mg "enumerate" = none) (ha : PA X [e] (TAs X.K fld W g)) (hs : starEach [e] X.env = [(false, eval e X.env)]) :
    PI X (.Tuple elts kk tpos) (.Call (.Name "enumerate" p) [e] [] pos) (TWk X.K fld W (itEn 0 g)) := by
  refine PI.imp (pi_en0 hg hm ha hs) fun σ H R ⟨ρ, st, ca, he, hs, hp⟩ => ⟨ρ, st, ca, he, hs, (Post.bind hp).mono fun as st1 ca1 H1 t1 s1 q vs hv => ?_⟩
  split at q
  · obtain ⟨v, r, rfl, hv, rfl⟩ := hv
    have q := Post.now q s1
    obtain ⟨a, k, rfl, f⟩ := RelD.sq (.inl hv)
    obtain ⟨vs, q1, _⟩ := f H1 ca1 Fx.refl
    exact ⟨a, k, vs, rfl, q1, q _ (wk_enB f)⟩
  · obtain ⟨v, r, rfl, hv, rfl⟩ := hv
    have q := Post.now q s1
    obtain ⟨a, k, rfl, f⟩ := RelD.sq (.inr hv)
    obtain ⟨vs, q1, _⟩ := f H1 ca1 Fx.refl
    exact ⟨a, k, vs, rfl, q1, q _ (wk_enB f)⟩
  · exact q.elim
end

/-! ### while -/
def sWhileN (t : Env' → M Bool) (f : SS) : Nat → SS
  | 0 => fun _ _ => .bad
  | n + 1 => thenS t fun b => if b = true then (fun ρ st => match f ρ st with
      | .nx ρ2 st2 => sWhileN t f n ρ2 st2
      | .ct ρ2 st2 => sWhileN t f n ρ2 st2
      | .bk ρ2 st2 => .nx ρ2 st2
      | r => r) else sSkip
/-- at most so many turns -/
def sWhile (t : Env' → M Bool) (f : SS) : SS := sWhileN t f 1000
section
variable {X : Cx} {K : PySem.W.Frag} {fld : Str → List Str} {W : WX} {H0 : Hp} {ca0 : List Addr} {c : Expr} {body : List Stmt} {pos : Pos}
theorem ss_while {t : Env' → M Bool} {f : SS} (hp : PassesOwn (model X.prog X.w) X.A X.env X.xe) (hc : PT X c (TT' K fld W t)) (hb : PSs X body (TSt K fld W H0 ca0 f)) : PS X (.While c body [] pos) (TSt K fld W H0 ca0 (sWhile t f)) := by
  refine PS.imp (ps_while hp hc hb) fun E σ H ⟨ρ, st, ca, hf, hsr, hp⟩ => ?_
  refine ⟨fun n σ' H' => ∃ ρ' st' ca', FrR K H0 ca0 H' ca' ρ' σ' ∧ SR K st' ca' H' ∧ PostS K fld W H0 ca0 H' ca' E (sWhileN t f n ρ' st'), ⟨1000, ρ, st, ca, hf, hsr, hp⟩, ?_⟩
  rintro n σ' H' ⟨ρ', st', ca', hf', hs', hq'⟩
  cases n with
  | zero => exact hq'.elim
  | succ n =>
    refine ⟨ρ', st', ca', hf'.env, hs', (PostS.then hf' hq').mono fun b st1 ca1 H1 t1 s1 q => ?_⟩
    obtain ⟨hf1, hq⟩ := q
    cases b with
    | false =>
      rw [if_neg (by decide)]
      exact (show ∀ σ' ca' H', Fx H1 ca1 H' ca' → FrR K H0 ca0 H' ca' ρ' σ' → SR K st1 ca' H' → E.nx σ' H' from hq) σ' ca1 H1 Fx.refl hf1 s1
    | true =>
      rw [if_pos rfl]
      refine ⟨fun σ2 H2 => ∃ ρ2 st2 ca2, FrR K H0 ca0 H2 ca2 ρ2 σ2 ∧ SR K st2 ca2 H2 ∧ PostS K fld W H0 ca0 H2 ca2 E (sWhileN t f n ρ2 st2), fun σ2 H2 h2 => ⟨n, Nat.lt_succ_self n, h2⟩, ρ', st1, ca1, hf1, s1, ?_⟩
      have hq : PostS K fld W H0 ca0 H1 ca1 E (match f ρ' st1 with
        | .nx ρ2 st2 => sWhileN t f n ρ2 st2
        | .ct ρ2 st2 => sWhileN t f n ρ2 st2
        | .bk ρ2 st2 => .nx ρ2 st2
        | r => r) := hq
      cases hr : f ρ' st1 with
      | nx ρ2 st2 => rw [hr] at hq; exact fun σ3 ca3 H3 x3 f3 s3 => ⟨ρ2, st2, ca3, f3, s3, PostS.mv x3 hq⟩
      | ct ρ2 st2 => rw [hr] at hq; exact fun σ3 ca3 H3 x3 f3 s3 => ⟨ρ2, st2, ca3, f3, s3, PostS.mv x3 hq⟩
      | bk ρ2 st2 => rw [hr] at hq; exact hq
      | rt d2 st2 => rw [hr] at hq; exact hq
      | exc c as st2 => rw [hr] at hq; exact hq
      | bad => rw [hr] at hq; exact hq
end

/-! ### methods that look at a list -/
def lstD : D → Option Unit
  | .lst _ => some ()
  | _ => none
def sMethL (op : D → List D → Option RV) (f : Env' → M D) (g : Env' → M (List D)) : Env' → M RV := fun ρ => M.bind (f ρ) fun a => M.bind (M.opt' fun st => lstD (deref st a)) fun _ => M.bind (g ρ) fun as => M.rdr fun st => op (deref st a) (as.map (deref st))
def dCount : D → List D → Option RV
  | .lst ds, [x] => if D.pls 59 ds = true ∧ D.pl 60 x = true then some (.per (.int (ds.countP fun z => D.eqv z x : Nat))) else none
  | _, _ => none
def dIndex : D → List D → Option RV
  | .lst ds, [x] => if D.pls 59 ds = true ∧ D.pl 60 x = true then (ds.findIdx? fun z => D.eqv z x).map fun j => .per (.int (j : Nat)) else none
  | _, _ => none
def lRemove : LOp := fun ds as => match as with
  | [x] => if D.pls 59 ds = true ∧ D.pl 60 x = true then (ds.findIdx? fun z => D.eqv z x).map fun j => (.non, ds.eraseIdx j) else none
  | _ => none
theorem D.count_py {x : D} {l m : Nat} (hx : D.pl l x = true) : ∀ {ds : List D}, D.pls m ds = true → (D.pys ds).countP (fun z => PyData.eqv z x.py) = ds.countP fun z => D.eqv z x
  | [], _ => rfl
  | d :: ds, h => by
    simp only [D.pls, Bool.and_eq_true] at h
    simp only [D.pys, List.countP_cons, D.eqv_py m l d x h.1 hx, D.count_py hx h.2]
theorem D.find_py {x : D} {l m : Nat} (hx : D.pl l x = true) : ∀ {ds : List D}, D.pls m ds = true → (D.pys ds).findIdx? (fun z => PyData.eqv z x.py) = ds.findIdx? fun z => D.eqv z x
  | [], _ => rfl
  | d :: ds, h => by
    simp only [D.pls, Bool.and_eq_true] at h
    simp only [D.pys, List.findIdx?_cons, D.eqv_py m l d x h.1 hx, D.find_py hx h.2]
theorem relX1 {K : PySem.W.Frag} {H : Hp} {ca : List Addr} {x : D} {vs : List V} (h : RelXs K H ca [x] vs) : ∃ v, vs = [v] ∧ RelX K H ca x v := by
  obtain ⟨v, r, rfl, q, e⟩ := h
  cases e
  exact ⟨v, rfl, q⟩
theorem relD1 {K : PySem.W.Frag} {H : Hp} {ca : List Addr} {x : D} {vs : List V} (h : RelDs K H ca [x] vs) : ∃ v, vs = [v] ∧ RelD K H ca x v := by
  obtain ⟨v, r, rfl, q, e⟩ := h
  cases e
  exact ⟨v, rfl, q⟩
section
variable {X : Cx} {pins : List (Addr × Obj)} {σ : L2.St} {H : Hp} {s : Shared} {ca : List Addr}
/-- what a list's data laws need -/
theorem list_data (I : Inv X pins σ H s) {a : Addr} {vs : List V} {ds : List D} (q : SqL X.K H a vs) (r : RelDs X.K H ca ds vs) (h : D.pls 59 ds = true) :
    ∃ (its : List Value) (as : List Addr), Vals vs its ∧ s.heap.IsList a its.toArray ∧ its.length ≤ sizeLine ∧ ReadsAll s.heap its (D.pys ds) as ∧ PyData.canLayAll0 (D.pys ds) = true ∧ PyData.depthAll (D.pys ds) ≤ 59 := by
  obtain ⟨its, rv, pl, hz⟩ := I.list q
  obtain ⟨as, h4⟩ := Dp.readsAll I _ _ its (RelDs.dp 59 ds vs h r) rv
  obtain ⟨p1, p2⟩ := D.pls_lay 59 ds h
  exact ⟨its, as, rv, pl.isList, by rw [← rv.length]; exact hz, h4, p1, p2⟩
theorem mt_dCount (hu : X.A.units + 65 < cLine) : MtR X "list.count" (rMe X.K dCount) := by
  intro pins s σ H x xs v us Q I rx rxs h
  obtain ⟨ca, st, a, as, r, sr, ra, rx2, e, g⟩ := h
  unfold dCount at e
  split at e
  · rename_i ds d
    split at e
    · rename_i hc
      cases e
      obtain ⟨p, vs, rfl, ql, rr⟩ := ra
      obtain ⟨y, rfl, ry⟩ := relX1 rx2
      cases rx
      obtain ⟨u1, rfl, ru⟩ := rxs.one
      obtain ⟨its, bs, rv, pl, hz, h4, p1, p2⟩ := list_data I ql.sq rr hc.1
      obtain ⟨cs, r1⟩ := Dp.reads I d.py y u1 (ry.dp hc.2) ru
      have sd := D.shaped hc.2
      refine SeqAt.count_list_data pl h4 r1 (PyData.plainAll_of_canLay0 _ p1) (PyData.plain_of_canLay0 _ (SeqAt.canLay_of_shaped sd)) (room_in_shaped sd hu) ?_
      rw [D.count_py hc.2 hc.1]
      exact ⟨.int _, H, I.tok _, ⟨_, rfl⟩, g.here sr rfl⟩
    · cases e
  · cases e
theorem mt_dIndex (hu : X.A.units + 65 < cLine) : MtR X "list.index" (rMe X.K dIndex) := mti (mt_indexD hu) fun x xs H Q h => by
  obtain ⟨ca, st, a, as, r, sr, ra, rx2, e, g⟩ := h
  unfold dIndex at e
  split at e
  · rename_i ds d
    split at e
    · rename_i hc
      rw [← D.find_py hc.2 hc.1] at e
      cases hj : (D.pys ds).findIdx? (fun z => PyData.eqv z d.py) with
      | none => rw [hj] at e; cases e
      | some j =>
        rw [hj] at e
        cases e
        obtain ⟨p, vs, rfl, ql, rr⟩ := ra
        obtain ⟨y, rfl, ry⟩ := relX1 rx2
        obtain ⟨h1, h2, h3⟩ := List.findIdx?_eq_some_iff_getElem.mp hj
        have h60 : D.pl 60 (.lst ds) = true := by simp only [D.pl]; exact hc.1
        refine ⟨p, y, d.py, D.pys ds, j, (D.pys ds)[j], rfl, rfl, .lst ql.sq (RelDs.dp 59 ds vs hc.1 rr), ry.dp hc.2, by have := D.shaped h60; simpa only [D.py] using this, D.shaped hc.2, List.getElem?_eq_getElem h1, h2, fun m z hm hz => ?_, g.here sr rfl⟩
        have h4 := h3 m hm
        rw [List.getElem?_eq_getElem (by omega)] at hz
        cases hz
        simpa using h4
    · cases e
  · cases e
def rRemD (X : Cx) : V → List V → Hp → VK → Prop := fun x xs H Q => ∃ (ca : List Addr) (a : Addr) (vs : List V) (ds : List D) (d : D) (y : V) (j : Nat), x = .ref a ∧ xs = [y] ∧ H a = some (.lst vs) ∧ RelDs X.K H ca ds vs ∧ RelD X.K H ca d y ∧
  D.pls 59 ds = true ∧ D.pl 60 d = true ∧ (ds.findIdx? fun z => D.eqv z d) = some j ∧ Q .non (upd H a (.lst (vs.eraseIdx j)))
theorem mt_dRemove (hu : X.A.units + 65 < cLine) : MtR X "list.remove" (rRemD X) := by
  intro pins s σ H x xs v us Q I rx rxs h
  obtain ⟨ca, a, vs, ds, d, y, j, rfl, rfl, ha, rr, ry, h1, h2, hj, q⟩ := h
  cases rx
  obtain ⟨u1, rfl, ru⟩ := rxs.one
  obtain ⟨z, its, n, rv, hl, eo⟩ := I.lstM ha
  obtain ⟨bs, h4⟩ := Dp.readsAll I _ _ its (RelDs.dp 59 ds vs h1 rr) rv
  obtain ⟨p1, p2⟩ := D.pls_lay 59 ds h1
  obtain ⟨cs, r1⟩ := Dp.reads I d.py y u1 (ry.x.dp h2) ru
  have sd := D.shaped h2
  have pl : s.heap.IsList a its.toArray := ⟨_, eo, rfl, n, rfl⟩
  refine SeqAt.remove_list_data pl h4 r1 (PyData.plainAll_of_canLay0 _ p1) (PyData.plain_of_canLay0 _ (SeqAt.canLay_of_shaped sd)) (room_in_shaped sd hu) (j := j) ?_ (by rw [List.size_toArray]; omega) ?_
  · rw [← hj]
    exact D.find_py h2 h1
  · refine ⟨.non, _, I.lset (its' := its.eraseIdx j) ha eo ?_ (rv.eraseIdx j) ?_, rfl, q⟩
    · show its.toArray.eraseIdxIfInBounds j = (its.eraseIdx j).toArray
      rw [List.eraseIdxIfInBounds_toArray]
    · have := len_erase vs j
      omega
theorem RelDs.erase {K : PySem.W.Frag} : ∀ (j : Nat) {ds : List D} {vs : List V}, RelDs K H ca ds vs → RelDs K H ca (ds.eraseIdx j) (vs.eraseIdx j)
  | _, [], _, h => by cases h; rfl
  | 0, _ :: _, _, h => by obtain ⟨v, r, rfl, _, g⟩ := h; exact g
  | j + 1, d :: ds, _, h => by
    obtain ⟨v, r, rfl, q, g⟩ := h
    exact ⟨v, r.eraseIdx j, rfl, q, RelDs.erase j g⟩
theorem ok_remove : LopOk X.K (rRemD X) lRemove := fun H ca a vs xs ds as ds' d Q ha r ra e q => by
  unfold lRemove at e
  split at e
  · split at e
    · rename_i x hc
      cases hj : ds.findIdx? (fun z => D.eqv z x) with
      | none => rw [hj] at e; cases e
      | some j =>
        rw [hj] at e
        cases e
        obtain ⟨y, rfl, ry⟩ := relD1 ra
        exact ⟨ca, a, vs, ds, x, y, j, rfl, rfl, ha, r, ry, hc.1, hc.2, hj, q _ _ rfl (RelDs.erase j r)⟩
    · cases e
  · cases e
end
section
variable {X : Cx} {fld : Str → List Str} {W : WX} {o e : Expr} {es : List Expr} {apos cpos : Pos} {name : Str} {id : String} {op : D → List D → Option RV}
theorem se_methL {f : Env' → M D} {g : Env' → M (List D)} (hf : PE X o (TR X.K fld W f)) (slot : Slot "list" name id) (hty : typeOf (.builtin id) = pure (.type "method_descriptor")) (hm : MtR X id (rMe X.K op)) (ha : PA X (e :: es) (TAr X.K fld W g))
    (hbase : attributeBase o name X.env (eval o X.env) = eval o X.env)
    (hfew : ((backTo cpos (starEach (e :: es) X.env)).all (fun x => !x.1) && (backToKw cpos (keywordEach [] X.env)).all (fun x => x.1.isSome)
      && decide ((e :: es).length + ([] : List Keyword).length + (if ([] : List Keyword).isEmpty then 0 else 1) < 30)) = true)
    (hline : (apos.endLine == cpos.line) = true) (hs : starEach (e :: es) X.env = (false, eval e X.env) :: starEach es X.env) (hplain : (backTo cpos (starEach es X.env)).any (·.1) = false) :
    PE X (.Call (.Attribute o name apos) (e :: es) [] cpos) (TN X.K fld W (sMethL op f g)) := by
  refine PE.imp (pe_bm F.plainAttrs_list slot hty hm hf ha hbase hfew hline hs hplain) fun σ H Q ⟨ρ, st, ca, he, hsr, hp⟩ => ⟨ρ, st, ca, he, hsr, (Post.bind hp).mono fun d st1 ca1 H1 t1 s1 q v hv => ?_⟩
  obtain ⟨_, e1, q⟩ := (Post.bind q).opt2
  have q := Post.now q s1
  have hx := hv.x s1
  cases hd : deref st1 d with
  | lst ds =>
    rw [hd] at hx
    obtain ⟨a, vs, rfl, ql, rr⟩ := hx
    refine ⟨.inl ⟨rfl, vs, ql.sq⟩, ρ, st1, ca1, he.stp t1, s1, (Post.bind q).mono fun as st2 ca2 H2 t2 s2 q xs hxs => ?_⟩
    obtain ⟨r, er, g⟩ := q.rdr (t1.trans t2)
    exact ⟨ca2, st2, _, _, r, s2, (hv.stp t2).x s2, hxs.x s2, er, g⟩
  | _ => rw [hd] at e1; cases e1
end
end Ev
/-! sorted(e) of a list of data of one shape. -/
namespace Ev
open PySem PySem.Spec PyProof.Rows L2
variable [Tbs] [Hnd]

def D.isI : D → Bool
  | .int _ => true
  | _ => false
mutual
/-- of one shape -/
def D.sm : D → D → Bool
  | .int _, .int _ => true
  | .str _, .str _ => true
  | .bl _, .bl _ => true
  | .tup a, .tup b => (a.all D.isI && b.all D.isI) || D.sms a b
  | _, _ => false
def D.sms : List D → List D → Bool
  | [], [] => true
  | x :: xs, y :: ys => D.sm x y && D.sms xs ys
  | _, _ => false
end
def D.hd1 : D → Bool
  | .tup (_ :: _) => true
  | .tup [] => false
  | .int _ => true
  | .str _ => true
  | .bl _ => true
  | _ => false
def srtOk (ds : List D) : Bool := D.pls 59 ds && (match ds with
  | [] => true
  | d :: _ => ds.all fun e => D.sm d e && e.hd1)
def insD (x : D) : List D → List D
  | [] => [x]
  | y :: ys => if D.lt y x = true then y :: insD x ys else x :: y :: ys
def isD : List D → List D
  | [] => []
  | x :: xs => insD x (isD xs)
def dSorted : List D → Option RV
  | [.lst ds] => if srtOk ds = true then some (.fr (isD ds)) else none
  | _ => none
theorem als_ints : ∀ {a b : List D}, a.all D.isI = true → b.all D.isI = true → D.als a b = true
  | [], _, _, _ => by simp [D.als]
  | _ :: _, [], _, _ => by simp [D.als]
  | x :: xs, y :: ys, h, g => by
    simp only [List.all_cons, Bool.and_eq_true] at h g
    obtain ⟨h1, h2⟩ := h
    obtain ⟨g1, g2⟩ := g
    simp only [D.als, als_ints h2 g2, Bool.and_true]
    cases x <;> first | (cases h1; done) | skip
    cases y <;> first | (cases g1; done) | skip
    simp [D.al]
theorem sms_ints : ∀ {a b : List D}, a.all D.isI = true → D.sms a b = true → b.all D.isI = true
  | [], [], _, _ => rfl
  | [], _ :: _, _, h => by simp [D.sms] at h
  | _ :: _, [], _, h => by simp [D.sms] at h
  | x :: xs, y :: ys, h, g => by
    simp only [List.all_cons, Bool.and_eq_true] at h ⊢
    simp only [D.sms, Bool.and_eq_true] at g
    refine ⟨?_, sms_ints h.2 g.2⟩
    cases x <;> first | (cases h.1; done) | skip
    cases y <;> first | rfl | (simp [D.sm] at g)
mutual
theorem sm_al : ∀ (d x y : D), D.sm d x = true → D.sm d y = true → D.al x y = true
  | .int _, x, y, h, g => by cases x <;> first | (simp [D.sm] at h; done) | (cases y <;> first | (simp [D.sm] at g; done) | simp [D.al])
  | .str _, x, y, h, g => by cases x <;> first | (simp [D.sm] at h; done) | (cases y <;> first | (simp [D.sm] at g; done) | simp [D.al])
  | .bl _, x, y, h, g => by cases x <;> first | (simp [D.sm] at h; done) | (cases y <;> first | (simp [D.sm] at g; done) | simp [D.al])
  | .non, x, y, h, g => by cases x <;> simp [D.sm] at h
  | .lst _, x, y, h, g => by cases x <;> simp [D.sm] at h
  | .cell _, x, y, h, g => by cases x <;> simp [D.sm] at h
  | .ty _, x, y, h, g => by cases x <;> simp [D.sm] at h
  | .tup ds, x, y, h, g => by
    cases x <;> first | (simp [D.sm] at h; done) | skip
    cases y <;> first | (simp [D.sm] at g; done) | skip
    rename_i xs ys
    simp only [D.sm, Bool.or_eq_true, Bool.and_eq_true] at h g
    simp only [D.al]
    rcases h with ⟨h1, h2⟩ | h
    · rcases g with ⟨_, g2⟩ | g
      · exact als_ints h2 g2
      · exact als_ints h2 (sms_ints h1 g)
    · rcases g with ⟨g1, g2⟩ | g
      · exact als_ints (sms_ints g1 h) g2
      · exact sms_als ds xs ys h g
theorem sms_als : ∀ (d x y : List D), D.sms d x = true → D.sms d y = true → D.als x y = true
  | [], [], _, _, _ => by simp [D.als]
  | [], _ :: _, _, h, _ => by simp [D.sms] at h
  | _ :: _, [], _, h, _ => by simp [D.sms] at h
  | _ :: _, _ :: _, [], _, g => by simp [D.sms] at g
  | d :: ds, x :: xs, y :: ys, h, g => by
    simp only [D.sms, Bool.and_eq_true] at h g
    simp only [D.als, Bool.and_eq_true]
    exact ⟨sm_al d x y h.1 g.1, sms_als ds xs ys h.2 g.2⟩
end
mutual
theorem sm_al2 : ∀ (x y : D), D.sm x y = true → D.al x y = true
  | .int _, y, g => by cases y <;> first | (simp [D.sm] at g; done) | simp [D.al]
  | .str _, y, g => by cases y <;> first | (simp [D.sm] at g; done) | simp [D.al]
  | .bl _, y, g => by cases y <;> first | (simp [D.sm] at g; done) | simp [D.al]
  | .non, y, h => by cases y <;> simp [D.sm] at h
  | .lst _, y, h => by cases y <;> simp [D.sm] at h
  | .cell _, y, h => by cases y <;> simp [D.sm] at h
  | .ty _, y, h => by cases y <;> simp [D.sm] at h
  | .tup xs, y, h => by
    cases y <;> first | (simp [D.sm] at h; done) | skip
    simp only [D.sm, Bool.or_eq_true, Bool.and_eq_true] at h
    simp only [D.al]
    rcases h with ⟨h1, h2⟩ | h
    · exact als_ints h1 h2
    · exact sms_als2 xs _ h
theorem sms_als2 : ∀ (x y : List D), D.sms x y = true → D.als x y = true
  | [], _, _ => by simp [D.als]
  | _ :: _, [], _ => by simp [D.als]
  | x :: xs, y :: ys, h => by
    simp only [D.sms, Bool.and_eq_true] at h
    simp only [D.als, Bool.and_eq_true]
    exact ⟨sm_al2 x y h.1, sms_als2 xs ys h.2⟩
end
mutual
theorem eqv_eq : ∀ (a b : D), D.al a b = true → a.isN = false → D.eqv a b = true → D.sm a b = true → a = b
  | .int _, b, h, _, e, _ => by cases b <;> first | (simp [D.al] at h; done) | (simp [D.eqv] at e; rw [e])
  | .str _, b, h, _, e, _ => by cases b <;> first | (simp [D.al] at h; done) | (simp [D.eqv] at e; rw [e])
  | .bl _, b, h, _, e, _ => by cases b <;> first | (simp [D.al] at h; done) | (simp [D.eqv] at e; rw [e])
  | .non, _, _, h, _, _ => by simp [D.isN] at h
  | .lst _, b, _, _, _, s => by cases b <;> simp [D.sm] at s
  | .cell _, b, h, _, _, _ => by cases b <;> simp [D.al] at h
  | .ty _, b, h, _, _, _ => by cases b <;> simp [D.al] at h
  | .tup xs, b, h, _, e, s => by
    cases b <;> first | (simp [D.al] at h; done) | skip
    rename_i ys
    simp only [D.eqv] at e
    simp only [D.sm, Bool.or_eq_true, Bool.and_eq_true] at s
    congr 1
    exact eqvs_eq xs ys e (s.imp id id)
theorem eqvs_eq : ∀ (a b : List D), D.eqvs a b = true → ((a.all D.isI = true ∧ b.all D.isI = true) ∨ D.sms a b = true) → a = b
  | [], [], _, _ => rfl
  | [], _ :: _, e, _ => by simp [D.eqvs] at e
  | _ :: _, [], e, _ => by simp [D.eqvs] at e
  | x :: xs, y :: ys, e, s => by
    simp only [D.eqvs, Bool.and_eq_true] at e
    have h : D.sm x y = true ∧ ((xs.all D.isI = true ∧ ys.all D.isI = true) ∨ D.sms xs ys = true) := by
      rcases s with ⟨s1, s2⟩ | s
      · simp only [List.all_cons, Bool.and_eq_true] at s1 s2
        refine ⟨?_, .inl ⟨s1.2, s2.2⟩⟩
        cases x <;> first | (cases s1.1; done) | skip
        cases y <;> first | (cases s2.1; done) | skip
        simp [D.sm]
      · simp only [D.sms, Bool.and_eq_true] at s
        exact ⟨s.1, .inr s.2⟩
    have hn : x.isN = false := by cases x <;> first | rfl | (cases y <;> simp [D.sm] at h)
    have ha : D.al x y = true := sm_al2 x y h.1
    rw [eqv_eq x y ha hn e.1 h.1, eqvs_eq xs ys e.2 h.2]
end
/-! ### the sort -/
mutual
theorem sm_sm : ∀ (d x y : D), D.sm d x = true → D.sm d y = true → D.sm x y = true
  | .int _, x, y, h, g => by cases x <;> first | (simp [D.sm] at h; done) | (cases y <;> first | (simp [D.sm] at g; done) | simp [D.sm])
  | .str _, x, y, h, g => by cases x <;> first | (simp [D.sm] at h; done) | (cases y <;> first | (simp [D.sm] at g; done) | simp [D.sm])
  | .bl _, x, y, h, g => by cases x <;> first | (simp [D.sm] at h; done) | (cases y <;> first | (simp [D.sm] at g; done) | simp [D.sm])
  | .non, x, y, h, g => by cases x <;> simp [D.sm] at h
  | .lst _, x, y, h, g => by cases x <;> simp [D.sm] at h
  | .cell _, x, y, h, g => by cases x <;> simp [D.sm] at h
  | .ty _, x, y, h, g => by cases x <;> simp [D.sm] at h
  | .tup ds, x, y, h, g => by
    cases x <;> first | (simp [D.sm] at h; done) | skip
    cases y <;> first | (simp [D.sm] at g; done) | skip
    rename_i xs ys
    simp only [D.sm, Bool.or_eq_true, Bool.and_eq_true] at h g ⊢
    rcases h with ⟨h1, h2⟩ | h
    · rcases g with ⟨_, g2⟩ | g
      · exact .inl ⟨h2, g2⟩
      · exact .inl ⟨h2, sms_ints h1 g⟩
    · rcases g with ⟨g1, g2⟩ | g
      · exact .inl ⟨sms_ints g1 h, g2⟩
      · exact .inr (sms_sms ds xs ys h g)
theorem sms_sms : ∀ (d x y : List D), D.sms d x = true → D.sms d y = true → D.sms x y = true
  | [], [], [], _, _ => by simp [D.sms]
  | [], [], _ :: _, _, g => by simp [D.sms] at g
  | [], _ :: _, _, h, _ => by simp [D.sms] at h
  | _ :: _, [], _, h, _ => by simp [D.sms] at h
  | _ :: _, _ :: _, [], _, g => by simp [D.sms] at g
  | d :: ds, x :: xs, y :: ys, h, g => by
    simp only [D.sms, Bool.and_eq_true] at h g ⊢
    exact ⟨sm_sm d x y h.1 g.1, sms_sms ds xs ys h.2 g.2⟩
end
theorem insD_perm (x : D) : ∀ l : List D, (insD x l).Perm (x :: l)
  | [] => .refl _
  | y :: ys => by
    unfold insD
    split
    · exact ((insD_perm x ys).cons y).trans (.swap _ _ _)
    · exact .refl _
theorem isD_perm : ∀ l : List D, (isD l).Perm l
  | [] => .refl _
  | x :: xs => (insD_perm x _).trans ((isD_perm xs).cons x)
/-- not above, by what is kept of it -/
def leD (x y : D) : Prop := PySem.W.dataLt y.py x.py = false
theorem leD_trans {x y z : D} (h : leD x y) (g : leD y z) : leD x z := by
  unfold leD at *
  cases q : PySem.W.dataLt z.py x.py with
  | false => rfl
  | true =>
    rcases lex_negTrans _ (PySem.W.keyToks y.py) _ q with p | p
    · rw [show PySem.W.dataLt z.py y.py = true from p] at g; cases g
    · rw [show PySem.W.dataLt y.py x.py = true from p] at h; cases h
theorem leD_of_lt {x y : D} (h : PySem.W.dataLt x.py y.py = true) : leD x y := by
  unfold leD
  cases q : PySem.W.dataLt y.py x.py with
  | false => rfl
  | true =>
    have := lex_trans _ _ _ h q
    rw [lex_irrefl] at this
    cases this
theorem insD_pw (P : D → Prop) (hP : ∀ x y, P x → P y → PySem.W.dataLt x.py y.py = D.lt x y) (x : D) (hx : P x) : ∀ l : List D, (∀ y ∈ l, P y) → l.Pairwise leD → (insD x l).Pairwise leD
  | [], _, _ => by simp [insD]
  | y :: ys, hl, h => by
    rw [List.pairwise_cons] at h
    have hy := hl y (by simp)
    unfold insD
    split
    · rename_i hk
      rw [List.pairwise_cons]
      refine ⟨fun z hz => ?_, insD_pw P hP x hx ys (fun z hz => hl z (List.mem_cons_of_mem _ hz)) h.2⟩
      rcases List.mem_cons.mp ((insD_perm x ys).mem_iff.mp hz) with e | hz
      · subst e
        exact leD_of_lt ((hP y z hy hx).trans hk)
      · exact h.1 z hz
    · rename_i hk
      have hk : leD x y := (hP y x hy hx).trans (by simpa using hk)
      rw [List.pairwise_cons, List.pairwise_cons]
      refine ⟨fun z hz => ?_, h⟩
      rcases List.mem_cons.mp hz with e | hz
      · rw [e]; exact hk
      · exact leD_trans hk (h.1 z hz)
theorem isD_pw (P : D → Prop) (hP : ∀ x y, P x → P y → PySem.W.dataLt x.py y.py = D.lt x y) : ∀ l : List D, (∀ y ∈ l, P y) → (isD l).Pairwise leD
  | [], _ => .nil
  | x :: xs, hl => insD_pw P hP x (hl x (by simp)) _ (fun y hy => hl y (List.mem_cons_of_mem _ ((isD_perm xs).mem_iff.mp hy))) (isD_pw P hP xs fun y hy => hl y (List.mem_cons_of_mem _ hy))
theorem srtOk_of {ds : List D} (h : srtOk ds = true) : D.pls 59 ds = true ∧ ∃ d0 : D, ∀ x ∈ ds, D.sm d0 x = true ∧ x.hd1 = true := by
  unfold srtOk at h
  rw [Bool.and_eq_true] at h
  refine ⟨h.1, ?_⟩
  cases ds with
  | nil => exact ⟨.non, fun _ h => nomatch h⟩
  | cons d ds =>
    have := h.2
    simp only [List.all_eq_true, Bool.and_eq_true] at this
    exact ⟨d, this⟩
theorem pls_mem {l : Nat} : ∀ {ds : List D}, D.pls l ds = true → ∀ x ∈ ds, D.pl l x = true
  | [], _, _, h => nomatch h
  | d :: ds, h, x, hx => by
    simp only [D.pls, Bool.and_eq_true] at h
    rcases List.mem_cons.mp hx with e | hx
    · rw [e]; exact h.1
    · exact pls_mem h.2 x hx
theorem isD_eq {ds es : List D} (h : srtOk ds = true) (pm : es.Perm ds) (pw : es.Pairwise leD) : es = isD ds := by
  obtain ⟨h1, d0, h2⟩ := srtOk_of h
  have hm : ∀ x y : D, x ∈ ds → y ∈ ds → PySem.W.dataLt x.py y.py = D.lt x y := fun x y hx hy => D.lt_py 59 59 x y (pls_mem h1 x hx) (pls_mem h1 y hy) (sm_al d0 x y (h2 x hx).1 (h2 y hy).1)
  have pw2 := isD_pw (· ∈ ds) hm ds fun _ h => h
  refine (pm.trans (isD_perm ds).symm).eq_of_pairwise (le := leD) (fun x y hx hy a b => ?_) pw pw2
  have hx := pm.mem_iff.mp hx
  have hy := (isD_perm ds).mem_iff.mp hy
  have hs := sm_sm d0 x y (h2 x hx).1 (h2 y hy).1
  have ha := sm_al2 x y hs
  have et : PySem.W.keyToks x.py = PySem.W.keyToks y.py := lex_total _ _ b a
  have hap := D.al_py 59 x y (pls_mem h1 x hx) ha
  have he : PyData.eqv x.py y.py = true := by
    cases q : PyData.eqv x.py y.py with
    | true => rfl
    | false =>
      have := (PySem.W.toks_eqv _ _ hap).2 q [] [.inl 0]
      rw [et, PySem.W.lex_pre, lex_irrefl] at this
      exact absurd this (by decide)
  rw [D.eqv_py 59 59 x y (pls_mem h1 x hx) (pls_mem h1 y hy)] at he
  exact eqv_eq x y ha (by cases x <;> first | rfl | (cases y <;> simp [D.sm] at hs)) he hs
section
variable {X : Cx} {K : PySem.W.Frag} {H : Hp} {ca : List Addr}
/-- the values by their data -/
theorem zip_each : ∀ {ds : List D} {vs : List V} {its : List Value}, RelDs K H ca ds vs → Vals vs its → PySem.W.EachIs (fun u (p : V × D) => RelV p.1 u ∧ RelD K H ca p.2 p.1) its (vs.zip ds) ∧ (vs.zip ds).map (·.2) = ds
  | [], _, _, h, r => by cases h; cases r; exact ⟨.nil, rfl⟩
  | d :: ds, _, _, h, r => by
    obtain ⟨v, rest, rfl, q, g⟩ := h
    cases r with
    | cons r1 r2 =>
      obtain ⟨a, b⟩ := zip_each g r2
      exact ⟨.cons ⟨r1, q⟩ a, by simp only [List.zip_cons_cons, List.map_cons, b]⟩
theorem each_rel : ∀ {out : List Value} {ps : List (V × D)}, PySem.W.EachIs (fun u (p : V × D) => RelV p.1 u ∧ RelD K H ca p.2 p.1) out ps → Vals (ps.map (·.1)) out ∧ RelDs K H ca (ps.map (·.2)) (ps.map (·.1))
  | _, _, .nil => ⟨.nil, rfl⟩
  | _, _, .cons h t => let ⟨a, b⟩ := each_rel t; ⟨.cons h.1 a, _, _, rfl, h.2, b⟩
theorem each_reads {pins : List (Addr × Obj)} {σ : L2.St} {s : Shared} (I : Inv X pins σ H s) : ∀ {out : List Value} {ps : List (V × D)}, (∀ p ∈ ps, D.pl 59 p.2 = true) → PySem.W.EachIs (fun u (p : V × D) => RelV p.1 u ∧ RelD X.K H ca p.2 p.1) out ps →
    PySem.W.EachIs (fun u (p : V × D) => ∃ as, Reads s.heap u p.2.py as) out ps
  | _, _, _, .nil => .nil
  | _, b :: _, hp, .cons h t => .cons (Dp.reads I _ _ _ (RelD.dp 59 _ _ (hp b (by simp)) h.2) h.1) (each_reads I (fun p hm => hp p (List.mem_cons_of_mem _ hm)) t)
def rSortD (K : PySem.W.Frag) : List V → Hp → VK → Prop := fun xs H Q => ∃ (a : Addr) (ca : List Addr) (ds : List D) (vs : List V), xs = [.ref a] ∧ SqL K H a vs ∧ RelDs K H ca ds vs ∧ srtOk ds = true ∧
  ∀ l ws, H l = none → RelDs K H ca (isD ds) ws → Q (.ref l) (upd H l (.lst ws))
theorem cr_sortedD (hu : X.A.units + 65 < cLine) : CallR X (.builtin "sorted") (rSortD X.K) := by
  intro pins s σ H xs us Q I rx ⟨a, ca, ds, vs, e0, ql, rr, hs, q⟩
  subst e0
  obtain rfl := Vals.ref1 rx
  obtain ⟨its, rv, pl, hz⟩ := I.list ql
  obtain ⟨e, em⟩ := zip_each rr rv
  obtain ⟨h1, d0, h2⟩ := srtOk_of hs
  have mem : ∀ p ∈ vs.zip ds, p.2 ∈ ds := fun p hp => by rw [← em]; exact List.mem_map_of_mem hp
  have ml := rr.length
  have zl : (vs.zip ds).length = vs.length := by rw [List.length_zip]; omega
  refine PySem.W.sorted_data (bs := vs.zip ds) (enc := fun p => p.2.py) pl.isList e (each_reads I (fun p hp => pls_mem h1 _ (mem p hp)) e) ?_ ?_ (by rw [zl]; exact hz) ?_ fun out ho eo => ?_
  · intro d hd d' hd'
    obtain ⟨p, hp, rfl⟩ := List.mem_map.mp hd
    obtain ⟨p', hp', rfl⟩ := List.mem_map.mp hd'
    exact D.al_py 59 _ _ (pls_mem h1 _ (mem p hp)) (sm_al d0 _ _ (h2 _ (mem p hp)).1 (h2 _ (mem p' hp')).1)
  · have key : ∀ x ∈ ds, (∃ y r, x = .tup (y :: r)) ∨ (x.isN = false ∧ ∀ r, x.py ≠ .tuple r ∧ x.py ≠ .none) := fun x hx => by
      have := (h2 x hx).2
      have h3 := (h2 x hx).1
      cases x with
      | tup xs => cases xs with
        | nil => cases this
        | cons y r => exact .inl ⟨y, r, rfl⟩
      | int _ => exact .inr ⟨rfl, fun r => by simp [D.py]⟩
      | str _ => exact .inr ⟨rfl, fun r => by simp [D.py]⟩
      | bl _ => exact .inr ⟨rfl, fun r => by simp [D.py]⟩
      | _ => cases this
    by_cases ht : ∃ ys, d0 = .tup ys
    · obtain ⟨ys, rfl⟩ := ht
      refine .inl fun d hd => ?_
      obtain ⟨p, hp, rfl⟩ := List.mem_map.mp hd
      rcases key _ (mem p hp) with ⟨y, r, e1⟩ | ⟨_, e1⟩
      · refine ⟨y.py, D.pys r, ?_⟩
        show p.2.py = _
        rw [e1]
        simp [D.py, D.pys]
      · have h3 := (h2 _ (mem p hp)).1
        cases hp2 : p.2 with
        | tup zs => rw [hp2] at e1; exact absurd (by simp [D.py]) (e1 (D.pys zs)).1
        | _ => rw [hp2] at h3; simp [D.sm] at h3
    · refine .inr fun d hd => ?_
      obtain ⟨p, hp, rfl⟩ := List.mem_map.mp hd
      rcases key _ (mem p hp) with ⟨y, r, e1⟩ | ⟨_, e1⟩
      · have h3 := (h2 _ (mem p hp)).1
        rw [e1] at h3
        cases d0 with
        | tup ys => exact absurd ⟨ys, rfl⟩ ht
        | _ => simp [D.sm] at h3
      · exact ⟨(e1 []).2, fun xs => (e1 xs).1⟩
  · intro p hp
    obtain ⟨_, b⟩ := D.pl_lay 59 _ (pls_mem h1 _ (mem p hp))
    show X.A.units + 2 + p.2.py.depth < cLine
    omega
  · obtain ⟨a1, a2⟩ := each_rel eo
    have pm := List.mergeSort_perm (vs.zip ds) (PySem.W.dataLe false fun p => p.2.py)
    have pw := PySem.W.sort_pairwise (PySem.W.sortLe_total (PyProof.Rows.listOrd itemOrd) false fun p : V × D => PySem.W.keyToks p.2.py) (vs.zip ds)
    have es : ((vs.zip ds).mergeSort (PySem.W.dataLe false fun p => p.2.py)).map (·.2) = isD ds := by
      refine isD_eq hs (by have := pm.map (·.2); rwa [em] at this) (List.pairwise_map.mpr (pw.imp fun {p q} h => ?_))
      have h : PySem.W.dataLe false (fun p : V × D => p.2.py) p q = true := h
      rw [PySem.W.dataLe_eq] at h
      show PySem.W.dataLt q.2.py p.2.py = false
      simpa using h
    rw [es] at a2
    obtain ⟨ep, he⟩ := PyProof.Rows.sortedAll_at s.heap its out.toArray
    have hlen : (((vs.zip ds).mergeSort (PySem.W.dataLe false fun p => p.2.py)).map (·.1)).length ≤ sizeLine := by
      rw [List.length_map, pm.length_eq, zl]
      exact hz
    exact ⟨.ref _, upd H (s.heap.objs.size + 1) (.lst _), I.laid (t' := s.toks) (fun _ _ => PyProof.Rows.sortedAll_old) (Nat.le_succ _) ⟨hlen, out, ep, a1, he⟩, rfl, q _ _ (I.hok.fresh (Nat.le_succ _)) a2⟩
theorem cl_sorted (hu : X.A.units + 65 < cLine) : CallR X (.builtin "sorted") (rCl X.K dSorted) := cai (cr_sortedD hu) fun xs H Q h => by
  obtain ⟨ca, st, as, r, s, ra, e, g⟩ := h
  unfold dSorted at e
  split at e
  · split at e
    · rename_i ds hs
      cases e
      obtain ⟨v, rfl, p, vs, rfl, q, q2⟩ := relX1 ra
      exact ⟨p, ca, ds, vs, rfl, q.sq, q2, hs, fun l ws hl rw' => g.newL s rw' hl⟩
    · cases e
  · cases e
end
/-! ### len(set(e)) of tuples of ints -/
def dLenSet : D → Option RV
  | .lst ds => (tups? ds).bind fun ks => if ks.length < 64 then some (.per (.int ((onceT ks).length : Nat))) else none
  | _ => none
def sLenSet (f : Env' → M D) : Env' → M RV := sUn dLenSet f
def rLenT (K : PySem.W.Frag) (P : Program) (w : World) : List V → Hp → VK → Prop := fun vs H Q => ∃ (a : Addr) (L : List (Addr × List Int)), vs = [V.ref a] ∧ H a = some (SetTO P w a L) ∧ (∀ p ∈ L, SqT K H p.1 (p.2.map V.int)) ∧ ((L.map (·.2)).Nodup → Q (.int (L.length : Nat)) H)
section
variable {X : Cx} {fld : Str → List Str} {W : WX} {e : Expr} {p q pos pos1 : Pos} {f : Env' → M D}
theorem cr_lenT : CallR X (.builtin "len") (rLenT X.K X.prog X.w) := by
  intro pins s σ H vs us Q I r h
  obtain ⟨a, L, rfl, ha, hk, qq⟩ := h
  have R0 : SetT0 X.prog X.w s.heap a L := (I.hok a _ ha).1
  obtain ⟨es, ep, t, R⟩ := R0.full fun p hp => I.isT (hk p hp)
  rw [Vals.ref1 r]
  obtain ⟨o, ho, hex, hd⟩ := R.ob
  have hl : es.size = L.length := by
    have := congrArg List.length R.rows
    simpa [rowsOf] using this
  have hfew := R.few
  exact call_len_set ho hex hd R.fits (by omega) ⟨.int (L.length : Nat), H, I.tok _, ⟨_, by rw [hl]⟩, qq R.nd⟩
theorem se_lenSet (hc : X.calm = true) (hu : X.A.units + 65 < cLine) (hg : Gl X "len") (hm : X.mg "len" = none) (hg2 : Gl X "set") (hm2 : X.mg "set" = none) (he : PE X e (TR X.K fld W f)) (na : starEach [e] X.env = (false, eval e X.env) :: starEach [] X.env)
    (nb : starEach [.Call (.Name "set" q) [e] [] pos1] X.env = (false, eval (.Call (.Name "set" q) [e] [] pos1) X.env) :: starEach [] X.env) : PE X (.Call (.Name "len" p) [.Call (.Name "set" q) [e] [] pos1] [] pos) (TN X.K fld W (sLenSet f)) := by
  have h1 := pe_callTy (cr_setOfT hc (by omega)) hg2 hm2 (by rfl) (pa_cons he pa_nil na) (by decide) (by decide) na rfl (pos := pos1) (p := q)
  have h2 := pe_callB cr_lenT hg hm (by rfl) (pa_cons h1 pa_nil nb) (by decide) (by decide) nb rfl (pos := pos) (p := p)
  refine PE.imp h2 fun σ H Q ⟨ρ, st, ca, hen, hs, hp⟩ => ⟨ρ, st, ca, hen, hs, (Post.bind hp).mono fun d st1 ca1 H1 t1 s1 qq v hv => ?_⟩
  obtain ⟨r, er, g⟩ := qq.rdr t1
  have hx := hv.x s1
  unfold dLenSet at er
  split at er
  · rename_i ds hd
    rw [hd] at hx
    obtain ⟨a, vs, rfl, ql, rl⟩ := hx
    obtain ⟨ks, hk, er⟩ := bk er
    obtain ⟨ps, e1, e2, e3⟩ := tups_rel rl hk
    split at er
    · rename_i h64
      cases er
      have hlen : ps.length < 64 := by rw [← List.length_map (f := fun p : Addr × List Int => p.2), e2]; exact h64
      refine ⟨a, ps, rfl, by rw [← e1]; exact ql.sq, e3, hlen, fun b L hb hL1 hL2 => ?_⟩
      have tb := Stp.laid (ca := ca1) (o := SetTO X.prog X.w b L) hb
      have sqL : ∀ p ∈ L, SqT X.K (upd H1 b (SetTO X.prog X.w b L)) p.1 (p.2.map V.int) := fun p hp => SqT.fixed tb.fix (e3 p (hL1 p hp))
      refine ⟨b, L, rfl, upd_same, sqL, fun nd => ?_⟩
      have memK : ∀ k : List Int, k ∈ L.map (·.2) ↔ k ∈ ks := fun k => by
        rw [List.mem_map]
        constructor
        · rintro ⟨p, hp, rfl⟩
          rw [← e2]
          exact List.mem_map_of_mem (hL1 p hp)
        · intro hk'
          rw [← e2] at hk'
          obtain ⟨p, hp, rfl⟩ := List.mem_map.mp hk'
          obtain ⟨p2, hp2, e4⟩ := List.mem_map.mp (hL2 p hp)
          exact ⟨p2, hp2, e4⟩
      have pm : (L.map (·.2)).Perm (onceT ks) := (List.perm_ext_iff_of_nodup nd (once_nodup _)).mpr fun k => by rw [memK, once_mem]
      have hl : L.length = (onceT ks).length := by rw [← pm.length_eq, List.length_map]
      rw [hl]
      exact g _ _ tb (s1.laid hb) rfl
    · cases er
  · cases er
end
end Ev
/-! x[i], x[j] = e of a list of the frame's own. -/
namespace Ev
open PySem PySem.Spec PyProof.Rows L2
variable [Tbs] [Hnd]
def sItem (k : Nat) (fi : Env' → M D) (a : D) : SS := thenS fi fun id ρ st => match ρ[k]?, id with
  | some (.own ds), .int j => match ixN ds.length j with
    | some n => .nx (ρ.set k (.own (ds.set n a))) st
    | none => .bad
  | _, _ => .bad
def sSetTwo (k : Nat) (f f1 f2 : Env' → M D) : SS := fun ρ st => match ρ[k]? with
  | some (.own _) => thenS f (fun d => match d with
    | .tup [a, b] => sSeq (sItem k f1 a) (sSeq (sItem k f2 b) sSkip)
    | _ => fun _ _ => .bad) ρ st
  | _ => .bad
section
variable {X : Cx} {fld : Str → List Str} {W : WX} {H0 : Hp} {ca0 : List Addr} {k : Nat} {x : Str} {p1 p2 tp1 tp2 pos pt : Pos} {kt : Nat} {i j e : Expr} {f f1 f2 : Env' → M D}
abbrev SubA (X : Cx) (x : Str) (xp : Pos) (i : Expr) (tpos : Pos) : Prop := ∀ v, assign (.Subscript (.Name x xp) i tpos) X.env v = (do
      let ov ← holding [v] (eval (.Name x xp) X.env)
      let iv ← holding [v, ov] (eval i X.env)
      standAt tpos
      holding [v, ov, iv] (setItem ov iv v)
      release [v, ov, iv] [])
theorem pg_item {xp tpos : Pos} {fi : Env' → M D} (hN : X.N[k]? = some x) (hv : Vis X.env.scope x) (hd : (x == ("__debug__" : Str)) = false) (hcd : (x == ("__classdict__" : Str)) = false) (hi : PE X i (TR X.K fld W fi)) (ha : SubA X x xp i tpos) :
    PG X (.Subscript (.Name x xp) i tpos) (fun v σ H Q => ∃ ρ st ca d E g, FrR X.K H0 ca0 H ca ρ σ ∧ SR X.K st ca H ∧ RelD X.K H ca d v ∧ (∃ ds, ρ[k]? = some (.own ds)) ∧ PostS X.K fld W H0 ca0 H ca E (sSeq (sItem k fi d) g ρ st) ∧
      ∀ ρ' st' ca' H', Fx H ca H' ca' → FrR X.K H0 ca0 H' ca' ρ' σ → SR X.K st' ca' H' → (∃ ds, ρ'[k]? = some (.own ds)) → PostS X.K fld W H0 ca0 H' ca' E (g ρ' st') → Q σ H') := by
  refine PG.imp (pg_sub (pe_var hN hv hd hcd) hi set_list ha) fun v σ H Q ⟨ρ, st, ca, d, E, g, hf, hs, hr, ⟨ds0, hk⟩, hp, hQ⟩ => ?_
  obtain ⟨o, h1, a, vs, e1, qa, n, rr⟩ := hf.env.at_ k _ hk
  subst e1
  have hp : PostS X.K fld W H0 ca0 H ca E (match sItem k fi d ρ st with
    | .nx ρ' st' => g ρ' st'
    | r => r) := hp
  refine ⟨.ref a, h1, ρ, st, ca, hf.env, hs, ?_⟩
  have hp2 : PostS X.K fld W H0 ca0 H ca E (thenS fi (fun id ρ st => match (match ρ[k]?, id with
    | some (.own ds), .int j => match ixN ds.length j with
      | some n => .nx (ρ.set k (.own (ds.set n d))) st
      | none => .bad
    | _, _ => .bad : RS) with
    | .nx ρ' st' => g ρ' st'
    | r => r) ρ st) := by
    unfold sItem thenS at hp
    unfold thenS
    cases hr2 : fi ρ st with
    | bad => rw [hr2] at hp; exact hp
    | exc c as st1 => rw [hr2] at hp; exact hp
    | ok id st1 => rw [hr2] at hp; exact hp
  refine (PostS.then hf hp2).mono fun id st1 ca1 H1 t1 s1 q y hy => ?_
  obtain ⟨hf1, q⟩ := q
  rw [hk] at q
  have qa1 := t1.keep a _ qa n trivial
  have n1 := t1.notin qa n
  have rr1 := rr.stp t1
  cases id with
  | int j =>
    dsimp only at q
    cases hm : ixN ds0.length j with
    | none => rw [hm] at q; exact q.elim
    | some m =>
      rw [hm] at q
      obtain ⟨w1, w2, w3⟩ := hf1.ownWr s1 hk h1 qa1 n1 (RelDs.set (hr.stp t1) m rr1)
      refine ⟨a, vs, j, m, rfl, hy, qa1, by rw [rr1.length]; exact hm, hQ _ _ _ _ (t1.fx.trans w3) w1 w2 ⟨ds0.set m d, ?_⟩ (PostS.mv w3 q)⟩
      rw [List.getElem?_set_self (List.getElem?_eq_some_iff.mp hk).1]
  | _ => exact q.elim
theorem ss_setTwo (hc : X.calm = true) (hN : X.N[k]? = some x) (hv : Vis X.env.scope x) (hd : (x == ("__debug__" : Str)) = false) (hcd : (x == ("__classdict__" : Str)) = false) (he : PE X e (TS' X.K fld W f)) (hi : PE X i (TR X.K fld W f1)) (hj : PE X j (TR X.K fld W f2))
    (ha : SubA X x p1 i tp1) (hb : SubA X x p2 j tp2)
    (hs : swapsWithSole [.Tuple [.Subscript (.Name x p1) i tp1, .Subscript (.Name x p2) j tp2] kt pt] e pos.line X.env = pure false) (hw : swappedStores [.Tuple [.Subscript (.Name x p1) i tp1, .Subscript (.Name x p2) j tp2] kt pt] e X.env = pure none) :
    PS X (.Assign [.Tuple [.Subscript (.Name x p1) i tp1, .Subscript (.Name x p2) j tp2] kt pt] e pos) (TSt X.K fld W H0 ca0 (sSetTwo k f f1 f2)) := by
  refine PS.imp (ps_asg he (pg_tup hc (pgs_cons (pg_item (H0 := H0) (ca0 := ca0) hN hv hd hcd hi ha) (pgs_cons (pg_item (H0 := H0) (ca0 := ca0) hN hv hd hcd hj hb) pgs_nil))) hs hw rfl) fun E σ H ⟨ρ, st, ca, hf, hsr, hp⟩ => ?_
  unfold sSetTwo at hp
  split at hp
  · rename_i ds0 hr
    refine ⟨ρ, st, ca, hf.env, hsr, (PostS.then hf hp).mono fun d st1 ca1 H1 t1 s1 q v hv => ?_⟩
    obtain ⟨hf1, q⟩ := q
    split at q
    · rename_i a b
      obtain ⟨l, vs, rfl, ql, u, rest, rfl, ru, u2, rest2, rfl, ru2, e2⟩ := hv
      cases e2
      refine ⟨l, [u, u2], rfl, ql, rfl, u, [u2], rfl, ρ, st1, ca1, a, E, _, hf1, s1, ru, ⟨ds0, hr⟩, q, fun ρ2 st2 ca2 H2 fx hf2 s2 hk2 q2 => ?_⟩
      refine ⟨u2, [], rfl, ρ2, st2, ca2, b, E, _, hf2, s2, RelD.fixed fx.fix fx.sub _ _ ru2, hk2, q2, fun ρ3 st3 ca3 H3 fx3 hf3 s3 _ q3 => ⟨rfl, ?_⟩⟩
      exact q3 σ ca3 H3 Fx.refl hf3 s3
    · exact q.elim
  · exact hp.elim
end
end Ev
/-! x, y = e, f where the values may be new lists. -/
namespace Ev
open PySem PySem.Spec PyProof.Rows L2
variable [Tbs] [Hnd]
def sParR (i j : Nat) (f g : Env' → M RV) : SS := thenS (fun ρ => M.bind (f ρ) fun r => M.bind (g ρ) fun r2 => M.pure (r, r2)) fun p ρ st => match slot p.1, slot p.2 with
  | some s, some s2 => .nx ((ρ.set i s).set j s2) st
  | _, _ => .bad
section
variable {X : Cx} {fld : Str → List Str} {W : WX} {H0 : Hp} {ca0 : List Addr}
theorem ss_parR {i j : Nat} {x y : Str} {a b : Expr} {f g : Env' → M RV} {px py pt pos : Pos} {kt k2 pt2} (hc : X.calm = true) (hN : X.N.Nodup) (hi : X.N[i]? = some x) (hj : X.N[j]? = some y) (hij : i ≠ j)
    (hx : X.env.scope.names.lookup x = some .local) (hy : X.env.scope.names.lookup y = some .local) (ha : PE X a (TN X.K fld W f)) (hb : PE X b (TN X.K fld W g)) (na : starEach [a, b] X.env = (false, eval a X.env) :: starEach [b] X.env) (nb : starEach [b] X.env = (false, eval b X.env) :: starEach [] X.env)
    (hw : swappedStores [.Tuple [.Name x px, .Name y py] kt pt] (.Tuple [a, b] k2 pt2) X.env = pure (some [x, y]))
    (hs : swapsWithSole [.Tuple [.Name x px, .Name y py] kt pt] (.Tuple [a, b] k2 pt2) pos.line X.env = pure false) :
    PS X (.Assign [.Tuple [.Name x px, .Name y py] kt pt] (.Tuple [a, b] k2 pt2) pos) (TSt X.K fld W H0 ca0 (sParR i j f g)) := by
  refine PS.imp (ps_par hc hN hi hj hij hx hy (pa_cons ha (pa_cons hb pa_nil nb) na) hw hs) fun E σ H ⟨ρ, st, ca, hf, hsr, hp⟩ => ?_
  refine ⟨ρ, st, ca, hf.env, hsr, (Post.bind (PostS.then hf hp)).mono fun r st1 ca1 H1 t1 s1 q v hv => ⟨ρ, st1, ca1, hf.env.stp t1, s1, (Post.bind q).mono fun r2 st2 ca2 H2 t2 s2 q w hw2 => ?_⟩⟩
  obtain ⟨q1, q2⟩ := Post.now q s2
  refine ⟨v, w, rfl, ?_⟩
  cases hr : slot r with
  | none => rw [hr] at q2; exact q2.elim
  | some sv =>
    rw [hr] at q2
    cases hr2 : slot r2 with
    | none => rw [hr2] at q2; exact q2.elim
    | some sw =>
      rw [hr2] at q2
      exact q2 _ ca2 H2 Fx.refl ((hf.store t1 hv hr).store t2 hw2 hr2) s2
/-- the same by a tuple, where a name is captured -/
theorem ss_parT {i j : Nat} {x y : Str} {a b : Expr} {f g : Env' → M RV} {px py pt pos : Pos} {kt k2 pt2} (hc : X.calm = true) (hN : X.N.Nodup) (hi : X.N[i]? = some x) (hj : X.N[j]? = some y)
    (hx : Loc X.env.scope x) (hy : Loc X.env.scope y) (hfx : X.fn x = true ∨ X.env.scope.names.lookup x = some .local) (hfy : X.fn y = true ∨ X.env.scope.names.lookup y = some .local)
    (ha : PE X a (TN X.K fld W f)) (hb : PE X b (TN X.K fld W g)) (na : starEach [a, b] X.env = (false, eval a X.env) :: starEach [b] X.env) (nb : starEach [b] X.env = (false, eval b X.env) :: starEach [] X.env)
    (hw : swappedStores [.Tuple [.Name x px, .Name y py] kt pt] (.Tuple [a, b] k2 pt2) X.env = pure none)
    (hs : swapsWithSole [.Tuple [.Name x px, .Name y py] kt pt] (.Tuple [a, b] k2 pt2) pos.line X.env = pure false) :
    PS X (.Assign [.Tuple [.Name x px, .Name y py] kt pt] (.Tuple [a, b] k2 pt2) pos) (TSt X.K fld W H0 ca0 (sParR i j f g)) := by
  refine PS.imp (ps_asg (pe_tup (pa_cons ha (pa_cons hb pa_nil nb) na)) (pg_tup hc (pgs_cons (pg_name hN hi hx hfx) (pgs_cons (pg_name hN hj hy hfy) pgs_nil))) hs hw rfl) fun E σ H ⟨ρ, st, ca, hf, hsr, hp⟩ => ?_
  refine ⟨ρ, st, ca, hf.env, hsr, (Post.bind (PostS.then hf hp)).mono fun r st1 ca1 H1 t1 s1 q v hv => ⟨ρ, st1, ca1, hf.env.stp t1, s1, (Post.bind q).mono fun r2 st2 ca2 H2 t2 s2 q w hw2 => ?_⟩⟩
  obtain ⟨q1, q2⟩ := Post.now q s2
  refine ⟨show 2 ≤ sizeLine by decide, fun p hp => ⟨p, [v, w], rfl, SqT.of upd_same, rfl, v, [w], rfl, w, [], rfl, rfl, ?_⟩⟩
  have t3 := Stp.laid (ca := ca2) (o := .tup [v, w]) hp
  cases hr : slot r with
  | none => rw [hr] at q2; exact q2.elim
  | some sv =>
    rw [hr] at q2
    cases hr2 : slot r2 with
    | none => rw [hr2] at q2; exact q2.elim
    | some sw =>
      rw [hr2] at q2
      exact q2 _ ca2 _ t3.fx (((hf.store t1 hv hr).store t2 hw2 hr2).go t3) (s2.laid hp)
end
end Ev
/-! name += e, name -= e of numbers; extend. -/
namespace Ev
open PySem PySem.Spec PyProof.Rows L2
variable [Tbs] [Hnd]
def sAug (i : Nat) (f : Int → Int → Int) (g : Env' → M D) : SS := fun ρ st => match ρ[i]? with
  | some (.val (.int k)) => thenS g (fun d ρ st => match d with
    | .int j => .nx (ρ.set i (.val (.int (f k j)))) st
    | _ => .bad) ρ st
  | _ => .bad
section
variable {X : Cx} {fld : Str → List Str} {W : WX} {H0 : Hp} {ca0 : List Addr}
theorem ss_aug {i : Nat} {x : Str} {e : Expr} {op : Operator} {f : Int → Int → Int} {g : Env' → M D} {p pos : Pos} (hN : X.N.Nodup) (hi : X.N[i]? = some x) (hx : Loc X.env.scope x) (he : PE X e (TR X.K fld W g)) (ho : PIp X op (ipI f)) (hfn : X.fn x = true ∨ X.env.scope.names.lookup x = some .local) :
    PS X (.AugAssign (.Name x p) op e pos) (TSt X.K fld W H0 ca0 (sAug i f g)) := by
  refine PS.imp (ps_aug hN hi hx he ho hfn) fun E σ H ⟨ρ, st, ca, hf, hsr, hp⟩ => ?_
  unfold sAug at hp
  split at hp
  · rename_i k hr
    obtain ⟨o, h1, v, e1, r⟩ := hf.env.at_ i _ hr
    subst e1
    cases (show v = .int k from r)
    refine ⟨.int k, h1, ρ, st, ca, hf.env, hsr, (PostS.then hf hp).mono fun d st1 ca1 H1 t1 s1 q y hy => ?_⟩
    obtain ⟨q1, q2⟩ := q
    cases d with
    | int j =>
      cases (show y = .int j from hy)
      exact ⟨k, j, rfl, rfl, q2 _ ca1 H1 Fx.refl (q1.put (v := .int (f k j)) rfl) s1⟩
    | _ => exact q2.elim
  · exact hp.elim
end
/-! ### extend -/
def lExtend : LOp := fun ds as => match as with
  | [.lst es] => if ds.length + es.length ≤ sizeLine then some (.non, ds ++ es) else none
  | _ => none
def rExtR (K : PySem.W.Frag) : V → List V → Hp → VK → Prop := fun x vs H Q => ∃ l b xs zs, x = .ref l ∧ vs = [.ref b] ∧ H l = some (.lst xs) ∧ RdL K H b zs ∧ xs.length + zs.length ≤ sizeLine ∧ Q .non (upd H l (.lst (xs ++ zs)))
section
variable {X : Cx}
theorem mt_extR : MtR X "list.extend" (rExtR X.K) := by
  intro pins s σ H x vs v us Q I rx rv ⟨l, b, xs, zs, e1, e2, hl, hb, hz, q⟩
  subst e1 e2
  cases rx
  obtain ⟨u, rfl, ru⟩ := rv.one
  cases ru
  obtain ⟨z, its, n, r, hll, e⟩ := I.lstM hl
  obtain ⟨its2, n2, r2, e3, _⟩ := hb.ok I
  have l2 := r2.length
  have big : its.toArray.size + its2.toArray.size ≤ sizeLine := by rw [List.size_toArray, List.size_toArray]; omega
  have short : ¬ (!its.toArray.isEmpty && Builtin.List.listTooLong (its.toArray.size + its2.toArray.size)) = true := by
    rw [notLongL big, Bool.and_false]
    decide
  refine call_meets F.slot_list_extend ⟨_, e, rfl⟩ F.entry_list_extend (F.args_list_extend_2 _ _) (AutoSeq1.list_extend_list_list_0 l its.toArray n b its2.toArray n2 short (by rw [List.size_toArray]; omega) (by omega)) ⟨e, e3, ?_⟩
  exact ⟨.non, _, I.lset (its' := its ++ its2) hl e (by simp) (r.append r2) (by rw [List.length_append]; exact hz), rfl, q⟩
theorem ok_extend : LopOk X.K (rExtR X.K) lExtend := fun H ca a vs xs ds as ds' d Q ha r ra e q => by
  unfold lExtend at e
  split at e
  · split at e
    · rename_i es hc
      cases e
      obtain ⟨y, rfl, b, zs, rfl, fz, rz⟩ := relD1 ra
      exact ⟨a, b, vs, zs, rfl, rfl, ha, fz.rd, by rw [r.length, rz.length]; exact hc, q _ _ rfl (r.append rz)⟩
    · cases e
  · cases e
/-- the arguments are read -/
def LopOkX (K : PySem.W.Frag) (r : V → List V → Hp → VK → Prop) (lop : LOp) : Prop := ∀ (H : Hp) (ca : List Addr) (a : Addr) (vs xs : List V) (ds as ds' : List D) (d : D) (Q : VK), H a = some (.lst vs) → RelDs K H ca ds vs → RelXs K H ca as xs → lop ds as = some (d, ds') →
  (∀ v vs', RelD K H ca d v → RelDs K H ca ds' vs' → Q v (upd H a (.lst vs'))) → r (.ref a) xs H Q
theorem ok_extendX : LopOkX X.K (rExtR X.K) lExtend := fun H ca a vs xs ds as ds' d Q ha r ra e q => by
  unfold lExtend at e
  split at e
  · split at e
    · rename_i es hc
      cases e
      obtain ⟨y, t, rfl, ⟨b, zs, rfl, fz, rz⟩, q3⟩ := ra
      cases q3
      exact ⟨a, b, vs, zs, rfl, rfl, ha, fz, by rw [r.length, rz.length]; exact hc, q _ _ rfl (r.append rz)⟩
    · cases e
  · cases e
end
def sMutR (i : Nat) (lop : LOp) (g : Env' → M (List D)) : SS := fun ρ st => match ρ[i]? with
  | some (.own ds) => thenS g (fun as ρ st => match lop ds (as.map (deref st)) with
    | some p => .nx (ρ.set i (.own p.2)) st
    | none => .bad) ρ st
  | some (.val (.cell k)) => match st[k]? with
    | some (.lst _) => thenS g (fun as ρ st => match st[k]? with
      | some (.lst ds) => match lop ds (as.map (deref st)) with
        | some p => .nx ρ (st.set k (.lst p.2))
        | none => .bad
      | _ => .bad) ρ st
    | _ => .bad
  | _ => .bad
section
variable {X : Cx} {fld : Str → List Str} {W : WX} {H0 : Hp} {ca0 : List Addr} {o e : Expr} {es : List Expr} {pos apos cpos xp : Pos} {name : Str} {id : String} {r : V → List V → Hp → VK → Prop} {lop : LOp}
theorem ss_mutR {i : Nat} {x : Str} {g : Env' → M (List D)} (hN : X.N[i]? = some x) (hv : Vis X.env.scope x) (hd : (x == ("__debug__" : Str)) = false) (hcd : (x == ("__classdict__" : Str)) = false)
    (slot : Slot "list" name id) (hty : typeOf (.builtin id) = pure (.type "method_descriptor")) (hm : MtR X id r) (hop : LopOkX X.K r lop) (ha : PA X (e :: es) (TAr X.K fld W g))
    (hbase : attributeBase (.Name x xp) name X.env (eval (.Name x xp) X.env) = eval (.Name x xp) X.env)
    (hfew : ((backTo cpos (starEach (e :: es) X.env)).all (fun x => !x.1) && (backToKw cpos (keywordEach [] X.env)).all (fun x => x.1.isSome)
      && decide ((e :: es).length + ([] : List Keyword).length + (if ([] : List Keyword).isEmpty then 0 else 1) < 30)) = true)
    (hline : (apos.endLine == cpos.line) = true) (hs : starEach (e :: es) X.env = (false, eval e X.env) :: starEach es X.env) (hplain : (backTo cpos (starEach es X.env)).any (·.1) = false)
    (hw : swapsWith (.Call (.Attribute (.Name x xp) name apos) (e :: es) [] cpos) none pos.line X.env = pure false) :
    PS X (.Expr (.Call (.Attribute (.Name x xp) name apos) (e :: es) [] cpos) pos) (TSt X.K fld W H0 ca0 (sMutR i lop g)) := by
  refine PS.imp (ps_expr (pe_bm F.plainAttrs_list slot hty hm (pe_var hN hv hd hcd) ha hbase hfew hline hs hplain) hw) fun E σ H ⟨ρ, st, ca, hf, hsr, hp⟩ => ?_
  unfold sMutR at hp
  split at hp
  · rename_i ds hr
    obtain ⟨o, h1, a, vs, e1, q, n, rr⟩ := hf.env.at_ i _ hr
    subst e1
    refine ⟨.ref a, h1, .inl ⟨rfl, vs, .inl (.inl q)⟩, ρ, st, ca, hf.env, hsr, (PostS.then hf hp).mono fun as st1 ca1 H1 t1 s1 hq xs hxs => ?_⟩
    obtain ⟨hf1, hq⟩ := hq
    have q1 := t1.keep a _ q n trivial
    have n1 := t1.notin q n
    cases hl : lop ds (as.map (deref st1)) with
    | none => rw [hl] at hq; exact hq.elim
    | some p =>
      rw [hl] at hq
      refine hop H1 ca1 a vs xs ds (as.map (deref st1)) p.2 p.1 _ q1 (rr.stp t1) (hxs.x s1) hl fun v vs' _ rv => ?_
      obtain ⟨w1, w2, w3⟩ := hf1.ownWr s1 hr h1 q1 n1 rv
      exact hq _ _ _ w3 w1 w2
  · rename_i k hr
    split at hp
    · rename_i ds0 hk
      obtain ⟨o, h1, v, e1, a, rfl, ek⟩ := hf.env.at_ i _ hr
      subst e1
      obtain ⟨vs0, q0, _⟩ := hsr.cell k _ a hk ek
      refine ⟨.ref a, h1, .inl ⟨rfl, vs0, .inl (.inl q0)⟩, ρ, st, ca, hf.env, hsr, (PostS.then hf hp).mono fun as st1 ca1 H1 t1 s1 hq xs hxs => ?_⟩
      obtain ⟨hf1, hq⟩ := hq
      split at hq
      · rename_i ds hk1
        have ek1 := t1.sub ek
        obtain ⟨vs, q1, rr⟩ := s1.cell k _ a hk1 ek1
        cases hl : lop ds (as.map (deref st1)) with
        | none => rw [hl] at hq; exact hq.elim
        | some p =>
          rw [hl] at hq
          refine hop H1 ca1 a vs xs ds (as.map (deref st1)) p.2 p.1 _ q1 rr (hxs.x s1) hl fun v vs' _ rv => ?_
          obtain ⟨w1, w2⟩ := cellW s1 ek1 q1 rv
          exact hq _ _ _ w2.fx (hf1.go w2) w1
      · exact hq.elim
    · exact hp.elim
  · exact hp.elim
end
end Ev
/-! zip of a list and a tuple; the sum of a tuple. -/
namespace Ev
open PySem PySem.Spec PyProof.Rows L2
variable [Tbs] [Hnd]
/-- things by turns of a and of b, in new pairs -/
def ItzB (k1 k2 : Bool) (K : PySem.W.Frag) (a b : Addr) : It :=
  ⟨fun i H => ∃ (xs ys : List V) (x y : V), SqB k1 K H a xs ∧ SqB k2 K H b ys ∧ xs[i]? = some x ∧ ys[i]? = some y,
    fun i H v H' => ∃ T x y, v = .ref T ∧ H T = none ∧ H' = upd H T (.tup [x, y]) ∧ (∀ xs, SqB k1 K H a xs → xs[i]? = some x) ∧ ∀ ys, SqB k2 K H b ys → ys[i]? = some y,
    fun i H => ∃ xs ys : List V, SqB k1 K H a xs ∧ SqB k2 K H b ys ∧ (xs.length = i ∨ ys.length = i) ∧ i ≤ xs.length ∧ i ≤ ys.length⟩
theorem IsB.at' {k : Bool} {h h' : Heap} {a : Addr} {its : Array Value} (t : IsB k h a its) (q : ∀ o, h.get? a = some o → h'.get? a = some o) : IsB k h' a its := by
  cases k with
  | true => exact Heap.IsList.at t q
  | false => exact Heap.IsTuple.at t q
theorem sep_of {z TI TO i1 i2 a b : Addr} (D : ZipApart z TI TO i1 i2 a b) : ZipSep2 z TI TO i1 i2 [i1, a] [i2, b] where
  TIz := D.TIz
  TOz := D.TOz
  TITO := D.TITO
  TIi1 := D.TIi1
  mem1 := by simp
  zf1 := by simp only [List.mem_cons, List.not_mem_nil, or_false, not_or]; exact ⟨Ne.symm D.i1z, Ne.symm D.l1z⟩
  Tf1 := by simp only [List.mem_cons, List.not_mem_nil, or_false, not_or]; exact ⟨D.TOi1, Ne.symm D.l1TO⟩
  TIi2 := D.TIi2
  mem2 := by simp
  zf2 := by simp only [List.mem_cons, List.not_mem_nil, or_false, not_or]; exact ⟨Ne.symm D.i2z, Ne.symm D.l2z⟩
  Tf2 := by simp only [List.mem_cons, List.not_mem_nil, or_false, not_or]; exact ⟨D.TOi2, Ne.symm D.l2TO⟩
  sep1_2 := by simp only [List.mem_cons, List.not_mem_nil, or_false, not_or]; exact ⟨D.i12, Ne.symm D.l2i1⟩
  sep2_1 := by simp only [List.mem_cons, List.not_mem_nil, or_false, not_or]; exact ⟨Ne.symm D.i12, Ne.symm D.l1i2⟩
theorem turn_zB {P : Program} {w : World} {K : PySem.W.Frag} {elts : List Expr} {kk : Nat} {tpos : Pos} (k1 k2 : Bool) {a b z TI TO i1 i2 : Addr} (D : ZipApart z TI TO i1 i2 a b) :
    Turn P w K (.Tuple elts kk tpos) (ItzB k1 k2 K a b) [z, TI, TO, i1, i2] z (fun i h => IsZip h z TI TO .none ∧ IsPair h TI (.ref i1) (.ref i2) ∧ (∃ x y, IsPair h TO x y) ∧ ItB k1 h i1 a i ∧ ItB k2 h i2 b i) where
  mem := by simp
  obj := fun i h now c cm => by
    obtain ⟨hzz, hti, ⟨x, y, hto⟩, hi1, hi2⟩ := now
    obtain ⟨o1, e1, _, vs1, d1⟩ := hi1.get
    obtain ⟨o2, e2, _, vs2, d2⟩ := hi2.get
    have eqs : c = z ∨ c = TI ∨ c = TO ∨ c = i1 ∨ c = i2 := by simpa using cm
    rcases eqs with q | q | q | q | q
    · subst q; exact ⟨_, hzz, fun v q => nomatch q⟩
    · subst q; exact ⟨_, hti, fun v q => nomatch q⟩
    · subst q; exact ⟨_, hto, fun v q => nomatch q⟩
    · exact ⟨o1, q ▸ e1, fun v q => by rw [d1] at q; cases q⟩
    · exact ⟨o2, q ▸ e2, fun v q => by rw [d2] at q; cases q⟩
  keep := fun i h h' now kp => by
    obtain ⟨hzz, hti, ⟨x, y, hto⟩, hi1, hi2⟩ := now
    exact ⟨kp z (by simp) _ hzz, kp TI (by simp) _ hti, ⟨x, y, kp TO (by simp) _ hto⟩, hi1.at' fun o q => kp i1 (by simp) o q, hi2.at' fun o q => kp i2 (by simp) o q⟩
  item := by
    intro X eP eW eK calm i pins s σ H E I fOk now gOk
    subst eP eW eK
    obtain ⟨hzz, hti, ⟨x0, y0, hto⟩, hi1, hi2⟩ := now
    obtain ⟨xs, ys, x, y, sqx, sqy, xat, yat⟩ := gOk
    obtain ⟨us, rel, px, lenx⟩ := Inv.seqB I sqx
    obtain ⟨ws, rel2, py, leny⟩ := Inv.seqB I sqy
    obtain ⟨u, uat, urel⟩ := rel.get xat
    obtain ⟨u2, uat2, urel2⟩ := rel2.get yat
    have zLt : z < s.heap.objs.size := Heap.lt_size hzz
    have l1 : i < us.toArray.size := by simpa using (List.getElem?_eq_some_iff.mp uat).1
    have l2 : i < ws.toArray.size := by simpa using (List.getElem?_eq_some_iff.mp uat2).1
    have hd : X.A.in1.handled = none := I.ok.hd calm
    refine wpAny_pyNext_zipD2_item (sep_of D) (drawsB (A := X.A.in1) hd k1 i1 a D.l1i1 us.toArray) (drawsB (A := X.A.in1) hd k2 i2 b D.l2i2 ws.toArray) hzz hti hto ⟨hi1, px⟩ ⟨hi2, py⟩ l1 l2 fun v1 v2 h' tk1 hv1 hv2 z1 TO1 st1 st2 pr hsz hk => ?_
    have ev1 : v1 = u := by
      have hv1 : us[i]? = some v1 := by simpa using hv1
      rw [uat] at hv1
      exact (Option.some.inj hv1).symm
    have ev2 : v2 = u2 := by
      have hv2 : ws[i]? = some v2 := by simpa using hv2
      rw [uat2] at hv2
      exact (Option.some.inj hv2).symm
    subst ev1 ev2
    refine ⟨_, rfl, wpAny_letOwnedTupleGo_zip (s := { s with heap := h', toks := tk1 }) z1 fun h2 z2 sb => ?_⟩
    have tupAt : h2.get? s.heap.objs.size = some { cls := .type "tuple", data := .seq #[v1, v2] } := (sb.2 _ (Nat.ne_of_gt zLt)).trans pr
    have fresh1 : ObjOk X.prog X.w (upd H s.heap.objs.size (.tup [x, y])) h2 s.heap.objs.size (.tup [x, y]) :=
      ⟨by show 2 ≤ sizeLine; decide, [v1, v2], .cons urel (.cons urel2 .nil), ⟨_, tupAt, rfl, _, rfl⟩⟩
    have J1 : Inv X pins σ (upd H s.heap.objs.size (.tup [x, y])) { s with heap := h2, toks := tk1 } :=
      I.turnedNew (ch := [z, TI, TO, i1, i2]) (fun c o bm q => (sb.2 c (fun e => bm (by simp [e]))).trans (hk c o (fun e => bm (by simp [e])) (fun e => bm (by simp [e])) (fun e => bm (by simp [e])) (fun e => bm (by simp [e])) q)) fOk (Nat.le_refl _) fresh1
    refine ⟨.ref s.heap.objs.size, _, J1, rfl, ⟨_, x, y, rfl, I.hok.fresh (Nat.le_refl _), rfl, fun l hl => by rw [Inv.seqB_inj I hl sqx]; exact xat, fun l hl => by rw [Inv.seqB_inj I hl sqy]; exact yat⟩, ⟨z2, ?_, ⟨v1, v2, ?_⟩, ?_, ?_⟩, fun c cm => ?_⟩
    · exact (sb.2 _ D.TIz).trans (hk _ _ D.TIz D.TITO D.TIi1 D.TIi2 hti)
    · exact (sb.2 _ D.TOz).trans TO1
    · exact st1.1.at' fun o q => (sb.2 _ D.i1z).trans q
    · exact st2.1.at' fun o q => (sb.2 _ D.i2z).trans q
    · have cLt : c < s.heap.objs.size := by
        obtain ⟨o1, e1, _⟩ := hi1.get
        obtain ⟨o2, e2, _⟩ := hi2.get
        have eqs : c = z ∨ c = TI ∨ c = TO ∨ c = i1 ∨ c = i2 := by simpa using cm
        rcases eqs with q | q | q | q | q
        · exact q ▸ zLt
        · exact q ▸ Heap.lt_size hti
        · exact q ▸ Heap.lt_size hto
        · exact q ▸ Heap.lt_size e1
        · exact q ▸ Heap.lt_size e2
      rw [upd_ne (Nat.ne_of_lt cLt)]
      exact (fOk c cm).1
  done := by
    intro X eP eW eK calm i pins s σ H E I fOk now gOk
    subst eP eW eK
    obtain ⟨hzz, hti, ⟨x0, y0, hto⟩, hi1, hi2⟩ := now
    obtain ⟨xs, ys, sqx, sqy, hend, le1, le2⟩ := gOk
    obtain ⟨us, rel, px, lenx⟩ := Inv.seqB I sqx
    obtain ⟨ws, rel2, py, leny⟩ := Inv.seqB I sqy
    have n1 := rel.length
    have n2 := rel2.length
    have hd : X.A.in1.handled = none := I.ok.hd calm
    exact wpAny_pyNext_zipD2_end (sep_of D) (drawsB (A := X.A.in1) hd k1 i1 a D.l1i1 us.toArray) (drawsB (A := X.A.in1) hd k2 i2 b D.l2i2 ws.toArray) hzz hti hto ⟨hi1, px⟩ ⟨hi2, py⟩ (by simp; omega) (by simp; omega) (by simp; omega) fun h' tk1 hk =>
      ⟨rfl, I.turnedL (ch := [z, TI, TO, i1, i2]) (fun c o bm q => hk c o (fun e => bm (by simp [e])) (fun e => bm (by simp [e])) (fun e => bm (by simp [e])) (fun e => bm (by simp [e])) q) fOk⟩
  self := fun A i s Q E now h => wpAny_pyIter_zip now.1 h
/-! ### it is made -/
abbrev zm1 (h : Heap) (p : Addr) : Heap := h.push { cls := .type "list_iterator", data := .fields #[.ref p, .int 0 0] }
abbrev zm2 (h : Heap) (p q : Addr) : Heap := (zm1 h p).push { cls := .type "tuple_iterator", data := .fields #[.ref q, .int 0 0] }
abbrev zm3 (h : Heap) (p q : Addr) : Heap := (zm2 h p q).push { cls := .type "tuple", data := .seq #[.ref h.objs.size, .ref (zm1 h p).objs.size] }
abbrev zm4 (h : Heap) (p q : Addr) : Heap := (zm3 h p q).push { cls := .type "tuple", data := .seq #[.none, .none] }
abbrev zm5 (h : Heap) (p q : Addr) : Heap := (zm4 h p q).push { cls := .type "zip", data := .fields #[.none, .bool false, .bool false, .ref (zm2 h p q).objs.size, .ref (zm3 h p q).objs.size] }
theorem meets_zm (p q : Addr) (xs ys : Array Value) :
    Meets (Builtin.«zip.__new__» ⟨[.type "zip", .ref p, .ref q], []⟩) (fun _ R s => s.heap.IsList p xs ∧ s.heap.IsTuple q ys ∧ R (.ok (.ret (.ref (zm4 s.heap p q).objs.size))) { s with heap := zm5 s.heap p q }) :=
  .of_wp fun prog w A R s hs => by
    obtain ⟨hp, gg, dd, tk, os⟩ := s; obtain ⟨hp1, hq1, fin⟩ := hs
    have hsub := sub_zip
    have hL1 : Heap.IsList (Shared.heap ⟨hp, gg, dd, tk, os⟩) p xs := hp1
    have hL2 : Heap.IsTuple (Shared.heap ⟨hp.push { cls := .type "list_iterator", data := .fields #[.ref p, .int 0 0] }, gg, dd, tk, os⟩) q ys := Heap.IsTuple.push hq1 _
    wp_walk using wpAny_pyIter_list hL1, wpAny_pyIter_tuple hL2
    exact ⟨_, rfl, fin⟩
section
variable {prog : Program} {w : World} {A : Around} {E : Value → Shared → Prop} {s : Shared}
theorem call_zm {p q : Addr} {xs ys : Array Value} {Q : Value → Shared → Prop} (hp : s.heap.IsList p xs) (hq : s.heap.IsTuple q ys)
    (h : ∀ h', IsZip h' (s.heap.objs.size + 4) (s.heap.objs.size + 2) (s.heap.objs.size + 3) .none → IsPair h' (s.heap.objs.size + 2) (.ref s.heap.objs.size) (.ref (s.heap.objs.size + 1)) →
      IsPair h' (s.heap.objs.size + 3) .none .none → h'.IsListIter s.heap.objs.size p 0 → h'.IsTupleIter (s.heap.objs.size + 1) q 0 → (∀ c o, s.heap.get? c = some o → h'.get? c = some o) → Q (.ref (s.heap.objs.size + 4)) { s with heap := h' }) :
    wpAny (model prog w) A (call (.type "zip") [.ref p, .ref q]) Q E s := by
  refine callType_new F.called_zip (by decide) (F.typeCall_zip_2 _ _) (F.newCall_zip_2 _ _) (fun obj => F.args_object_init_3 obj _ _) F.entry_zip_new (meets_zm p q xs ys) ⟨hp, hq, ?_⟩
  have n1 : (zm1 s.heap p).objs.size = s.heap.objs.size + 1 := Heap.size_push ..
  have n2 : (zm2 s.heap p q).objs.size = s.heap.objs.size + 2 := by rw [Heap.size_push, n1]
  have n3 : (zm3 s.heap p q).objs.size = s.heap.objs.size + 3 := by rw [Heap.size_push, n2]
  have n4 : (zm4 s.heap p q).objs.size = s.heap.objs.size + 4 := by rw [Heap.size_push, n3]
  have k5 : (zm5 s.heap p q).get? (zm4 s.heap p q).objs.size = some _ := Heap.get?_push_size _ rfl
  have k4 : (zm5 s.heap p q).get? (zm3 s.heap p q).objs.size = some _ := Heap.get?_push_of_some _ (Heap.get?_push_size _ rfl)
  have k3 : (zm5 s.heap p q).get? (zm2 s.heap p q).objs.size = some _ := Heap.get?_push_of_some _ (Heap.get?_push_of_some _ (Heap.get?_push_size _ rfl))
  have k2 : (zm5 s.heap p q).get? (zm1 s.heap p).objs.size = some _ := Heap.get?_push_of_some _ (Heap.get?_push_of_some _ (Heap.get?_push_of_some _ (Heap.get?_push_size _ rfl)))
  have k1 : (zm5 s.heap p q).get? s.heap.objs.size = some _ := Heap.get?_push_of_some _ (Heap.get?_push_of_some _ (Heap.get?_push_of_some _ (Heap.get?_push_of_some _ (Heap.get?_push_size _ rfl))))
  show _ ∧ _
  rw [n2, n3, n4] at k5
  rw [n1, n2] at k3
  rw [n3] at k4
  rw [n1] at k2
  rw [n4]
  exact ⟨⟨_, k5, rfl⟩, h _ k5 k3 k4 ⟨_, k1, rfl, rfl⟩ ⟨_, k2, rfl, rfl⟩ fun c o x => Heap.get?_push_of_some _ (Heap.get?_push_of_some _ (Heap.get?_push_of_some _ (Heap.get?_push_of_some _ (Heap.get?_push_of_some _ x))))⟩
end
section
variable {K : PySem.W.Frag} {H : Hp} {ca : List Addr} {a b : Addr} {ds es : List D}
theorem SqB.fixed {k : Bool} {vs : List V} {H1 : Hp} (f : ∀ a o, H a = some o → Fix o → H1 a = some o) (h : if k = true then FzL K H a vs else SqT K H a vs) : SqB k K H1 a vs := by
  unfold SqB
  cases k with
  | true => exact (FzL.fixed f h).sq
  | false => exact SqT.fixed f h
theorem wk_zB (k1 k2 : Bool) (h : ∀ H1 ca1, Fx H ca H1 ca1 → ∃ vs ws, SqB k1 K H1 a vs ∧ SqB k2 K H1 b ws ∧ RelDs K H1 ca1 ds vs ∧ RelDs K H1 ca1 es ws) : Wk K (ItzB k1 k2 K a b) (zipD ds es) H ca := by
  intro H1 ca1 fx
  obtain ⟨vs, ws, q1, q2, r1, r2⟩ := h H1 ca1 fx
  have e1 := r1.length
  have e2 := r2.length
  rw [zipD_length]
  refine ⟨fun i hi => ?_, ⟨vs, ws, q1, q2, by omega, by omega, by omega⟩, fun i x H2 hy hi => ?_⟩
  · exact ⟨vs, ws, _, _, q1, q2, List.getElem?_eq_getElem (by omega), List.getElem?_eq_getElem (by omega)⟩
  · obtain ⟨T, x, y, rfl, hT, rfl, hx, hyy⟩ := hy
    have t : Stp ca1 ca1 H1 (upd H1 T (.tup [x, y])) := Stp.laid hT
    obtain ⟨v, hv, rv⟩ := r1.get (List.getElem?_eq_getElem (show i < ds.length by omega))
    obtain ⟨u, hu, ru⟩ := r2.get (List.getElem?_eq_getElem (show i < es.length by omega))
    rw [hx vs q1] at hv
    rw [hyy ws q2] at hu
    cases hv
    cases hu
    exact ⟨_, zipD_get ds es i _ _ (List.getElem?_eq_getElem (show i < ds.length by omega)) (List.getElem?_eq_getElem (show i < es.length by omega)), Lay.upd hT, T, _, rfl, SqT.of upd_same, _, _, rfl, rv.stp t, _, _, rfl, ru.stp t, rfl⟩
end
/-- zip(list, tuple) -/
def itZipM (g : Env' → M (List D)) : Env' → M (List D) := fun ρ => M.bind (g ρ) fun as => match as with
  | [.lst ds, .lst es] => M.pure (zipD ds es)
  | [.tup ds, .tup es] => M.pure (zipD ds es)
  | [.lst ds, .tup es] => M.pure (zipD ds es)
  | _ => M.bad
section
variable {X : Cx} {fld : Str → List Str} {W : WX} {e e2 : Expr} {p pos tpos : Pos} {elts : List Expr} {kk : Nat}
def iZM (K : PySem.W.Frag) (ta : TA) : TI := fun σ H R => ta σ H fun vs H1 => ∃ a b xs ys, vs = [.ref a, .ref b] ∧ SqL K H1 a xs ∧ SqT K H1 b ys ∧ R (ItzB true false K a b) H1
theorem pi_zm {ta : TA} (hg : Gl X "zip") (hm : X.mg "zip" = none) (ha : PA X [e, e2] ta) (hs : starEach [e, e2] X.env = (false, eval e X.env) :: starEach [e2] X.env) (hpl : (backTo pos (starEach [e2] X.env)).any (·.1) = false) :
    PI X (.Tuple elts kk tpos) (.Call (.Name "zip" p) [e, e2] [] pos) (iZM X.K ta) := by
  refine ⟨fun pn s σ H R I hq => ?_⟩
  refine Call_ (ld_blt I hg hm PyProof.Rows.boot_zip (PyProof.Rows.callWith_type1 (thn (ha.run pos pn s σ H _ I hq) fun us s1 ⟨vs, H1, J1, r1, a, b, xs, ys, ex, sqx, sqy, q⟩ => ?_) hs hpl))
  subst ex
  cases r1 with
  | cons r rr =>
    cases rr with
    | cons r' rr =>
      cases rr
      cases r
      cases r'
      obtain ⟨its, rv, p1, _⟩ := J1.list sqx
      obtain ⟨its2, rv2, p2, _⟩ := J1.tuple sqy
      obtain ⟨o2, ho2, _⟩ := id p2
      refine call_zm p1.isList (show s1.heap.IsTuple b its2.toArray from p2) fun h' hzz hti hto hi1 hi2 hk => wpAny_pyIter_zip hzz ?_
      have J2 : Inv X pn σ H1 { s1 with heap := h' } := J1.kept (t' := s1.toks) hk
      refine ⟨s1.heap.objs.size + 4, [s1.heap.objs.size + 4, s1.heap.objs.size + 2, s1.heap.objs.size + 3, s1.heap.objs.size, s1.heap.objs.size + 1], _, _, H1, rfl, J2, turn_zB true false (PySem.W.ktu_apart s1.heap.objs.size a b p1.lt (Heap.lt_size ho2)), ⟨hzz, hti, ⟨_, _, hto⟩, hi1, hi2⟩, fun c cm => ?_, q⟩
      have cLe : s1.heap.objs.size ≤ c := by
        simp only [List.mem_cons, List.not_mem_nil, or_false] at cm
        rcases cm with e' | e' | e' | e' | e' <;> (rw [e']; first | exact Nat.le_add_right _ _ | exact Nat.le_refl _)
      exact J1.fpOk cLe (J1.hok.fresh cLe)
theorem PI.or {X : Cx} {tg e : Expr} {t u : TI} (h : PI X tg e t) (g : PI X tg e u) : PI X tg e (fun σ H R => t σ H R ∨ u σ H R) := ⟨fun pins s σ H R I q => by
  rcases q with q | q
  · exact h.run pins s σ H R I q
  · exact g.run pins s σ H R I q⟩
theorem si_zipM {g : Env' → M (List D)} (hg : Gl X "zip") (hm : X.mg "zip" = none) (ha : PA X [e, e2] (TAs X.K fld W g)) (hs : starEach [e, e2] X.env = (false, eval e X.env) :: starEach [e2] X.env) (hpl : (backTo pos (starEach [e2] X.env)).any (·.1) = false) :
    PI X (.Tuple elts kk tpos) (.Call (.Name "zip" p) [e, e2] [] pos) (TWk X.K fld W (itZipM g)) := by
  refine PI.imp (PI.or (si_zip hg hm ha hs hpl) (pi_zm hg hm ha hs hpl)) fun σ H R ⟨ρ, st, ca, he, hs, hp⟩ => ?_
  have hb := Post.bind hp
  unfold itZipM M.bind at hp
  cases hr : g ρ st with
  | bad => rw [hr] at hp; exact hp.elim
  | exc c as st1 =>
    rw [hr] at hp
    refine .inl ⟨ρ, st, ca, he, hs, ?_⟩
    unfold itZip M.bind
    rw [hr]
    exact hp
  | ok as st1 =>
    rw [hr] at hp hb
    dsimp only at hp
    split at hp
    · refine .inl ⟨ρ, st, ca, he, hs, ?_⟩
      unfold itZip M.bind
      rw [hr]
      exact hp
    · refine .inl ⟨ρ, st, ca, he, hs, ?_⟩
      unfold itZip M.bind
      rw [hr]
      exact hp
    · rename_i ds es
      refine .inr ⟨ρ, st, ca, he, hs, ?_⟩
      rw [hr]
      refine fun ca1 H1 t1 s1 vs hv => ?_
      obtain ⟨v, r, rfl, ⟨a, xs, rfl, q1, r1⟩, w, r2, rfl, ⟨b, ys, rfl, q2, r2'⟩, rfl⟩ := hv
      have q : ∀ J, Wk X.K J (zipD ds es) H1 ca1 → R J H1 := (show ∀ ca' H', Stp ca ca' H H' → SR X.K st1 ca' H' → ∀ J, Wk X.K J (zipD ds es) H' ca' → R J H' from hp) ca1 H1 t1 s1
      exact ⟨a, b, xs, ys, rfl, q1.sq, q2, q _ (wk_zB true false fun H2 ca2 f => ⟨xs, ys, (FzL.fixed f.fix q1).sq, SqT.fixed f.fix q2, RelDs.fixed f.fix f.sub _ _ r1, RelDs.fixed f.fix f.sub _ _ r2'⟩)⟩
    · exact hp.elim
end
end Ev
/-! Calls of defs with keyword-only parameters: all left out, or all given in their order. -/
namespace Ev
open PySem PySem.Spec PyProof.Rows L2
variable [Tbs] [Hnd]
/-- what a call with the keywords ks binds behind n values -/
def BindsK (K : PySem.W.Frag) (fd : FuncData) (ps ks : List Str) (n : Nat) : Prop := ∀ (s : Shared) (us ws : List Value), K.In s.heap → us.length = n → ws.length = ks.length → BindsTo s fd ⟨us, ks.zip ws⟩ (ps.zip (us ++ ws))
def TKs (K : PySem.W.Frag) (fld : Str → List Str) (W : WX) (f : Env' → M (List D)) : TA := TAs K fld W f
section
variable {X : Cx} {fld : Str → List Str} {W : WX} {k n : Nat} {f : Addr} {fd : FuncData} {ps ks : List Str} {F : List D → M D} {x : Str} {p pos : Pos} {e : Expr} {es : List Expr} {g gk : Env' → M (List D)} {kws : List Keyword}
theorem run_fnB {pins : List (Addr × Obj)} {σ : L2.St} {H : Hp} {s : Shared} {Q : VK} {args : Args} {us : List Value} {vs : List V} {ds : List D} {st : Store} {ca : List Addr} (G : FnG X.prog X.w X.K X.mg X.base fld k f fd ps F) (hr : Room k X.A) (hg : X.A.guards = some []) (hb : BindsTo s fd args (ps.zip us))
    (tk : Takes X W) (I : L2.Inv X pins σ H s) (r : Vals vs us) (hl : vs.length = ps.length) (rd : RelDs X.K H ca ds vs) (sr : SR X.K st ca H)
    (h : Post X.K fld W σ H ca (fun d _ ca' H' => ∀ v, RelD X.K H' ca' d v → Q v H') (F ds st)) : wpAny (model X.prog X.w) X.A (call (.ref f) args.pos args.kw) (EP X pins σ Q) X.xe s := by
  refine wpAny_call (codeAny_mono (G.run X.A X.stack s H ⟨args.pos, args.kw⟩ us vs Q (fun cls dd H' => W cls dd σ H') ds st ca hr hg I.env0 hb r hl rd sr ?_) fun r s' hq => ?_)
  · cases hF : F ds st with
    | bad => rw [hF] at h; exact h
    | exc c as st1 => rw [hF] at h; exact h
    | ok d st1 => rw [hF] at h; exact fun v ca' H' t s q => h ca' H' t s v q
  · cases r with
    | error e => exact tk e s' (XE.of_call I (fun _ _ _ h => h) hq)
    | ok fl => cases fl <;> first | exact I.after hq | exact False.elim hq
/-- the call's meaning: dd the defaults -/
def sFnD (F : List D → M D) (dd : List D) (g : Env' → M (List D)) : Env' → M RV := fun ρ => M.bind (g ρ) fun as => M.bind (F (as ++ dd)) fun d => M.pure (.per d)
theorem se_callD {dd : List D} {dvs : List V} {dus : List Value} (G : FnG X.prog X.w X.K X.mg X.base fld k f fd ps F) (hr : Room k X.A) (hgu : X.A.guards = some []) (hg : Gl X x) (hm : X.mg x = some (.ref f)) (hk : PySem.W.keepIn X.K (.ref f) = true) (hb : Binds X.K fd ps dus) (hdv : Vals dvs dus) (hdd : ∀ H ca, RelDs X.K H ca dd dvs) (tk : Takes X W)
    (ha : PA X (e :: es) (TAs X.K fld W g)) (hl : ∀ ρ st ds st', g ρ st = .ok ds st' → ds.length + dd.length = ps.length) (hdb : (x == ("__debug__" : Str)) = false) (he : starEach (e :: es) X.env = (false, eval e X.env) :: starEach es X.env) (hpl : (backTo pos (starEach es X.env)).any (·.1) = false) :
    PE X (.Call (.Name x p) (e :: es) [] pos) (TN X.K fld W (sFnD F dd g)) := by
  refine ⟨fun pins s σ H Q I h => ?_⟩
  refine wpAny_Call_Name_kw (ld_glob I hg hm ?_ hdb)
  obtain ⟨ρ, st, ca, hen, hs, hp⟩ := h
  have hA := ha.run pos pins s σ H (fun vs H1 => ∃ ds st1 ca1, Stp ca ca1 H H1 ∧ vs.length + dvs.length = ps.length ∧ RelDs X.K H1 ca1 ds vs ∧ SR X.K st1 ca1 H1 ∧ Post X.K fld W σ H1 ca1 (fun r _ ca' H' => ∀ v, RelRV X.K H H' ca' r v → Q v H') (M.bind (F (ds ++ dd)) (fun d => M.pure (.per d)) st1)) I (by
    refine ⟨ρ, st, ca, hen, hs, ?_⟩
    have hp := Post.bind hp
    cases hgr : g ρ st with
    | bad => rw [hgr] at hp; exact hp
    | exc c as st1 => rw [hgr] at hp; exact hp
    | ok ds st1 =>
      rw [hgr] at hp
      exact fun ca1 H1 t1 s1 vs hvs => ⟨ds, st1, ca1, t1, by rw [hvs.length, (hdd H ca).length]; exact hl _ _ _ _ hgr, hvs, s1, hp ca1 H1 t1 s1⟩)
  refine PySem.W.callWith_K (h₀ := X.base) I.ok.mod.kin hk (thn hA fun us s1 ⟨vs, H1, I1, r, ds, st1, ca1, t1, hlv, rd, s1', q⟩ => ⟨I1.kIn, ?_⟩) he hpl
  have hlu : (us ++ dus).length = ps.length := by rw [List.length_append, ← r.length, ← hdv.length]; exact hlv
  refine run_fnB (args := ⟨us, []⟩) (us := us ++ dus) (vs := vs ++ dvs) G hr hgu (hb s1 us I1.kIn hlu) tk I1 (r.append hdv) (by rw [List.length_append]; exact hlv) (rd.append (hdd H1 ca1)) s1' ((Post.bind q).mono fun d st2 ca2 H2 t2 s2 q v hv => ?_)
  exact Post.now q s2 v hv
/-! ### keywords -/
theorem sk_nil : PK X [] (TAs X.K fld W sNil) := ⟨fun pos pins s σ H Q I ⟨ρ, st, ca, he, hs, hp⟩ => pk_nil.run pos pins s σ H Q I (Post.now hp hs [] rfl)⟩
theorem sk_cons {nm : Option Str} {kpos : Pos} {h : Env' → M D} {g : Env' → M (List D)} (ha : PE X e (TS' X.K fld W h)) (hr : PK X kws (TAs X.K fld W g)) : PK X (⟨nm, e, kpos⟩ :: kws) (TAs X.K fld W (sCons h g)) := by
  refine ⟨fun pos pins s σ H Q I ⟨ρ, st, ca, he, hs, hp⟩ => (pk_cons ha hr).run pos pins s σ H Q I ⟨ρ, st, ca, he, hs, (Post.bind hp).mono fun d st1 ca1 H1 t1 s1 q v hv => ?_⟩⟩
  refine ⟨ρ, st1, ca1, he.stp t1, s1, (Post.bind q).mono fun ds st2 ca2 H2 t2 s2 q vs hvs => ?_⟩
  exact Post.now q s2 _ ⟨v, vs, rfl, hv.stp t2, hvs⟩
def sFnK (F : List D → M D) (g gk : Env' → M (List D)) : Env' → M RV := fun ρ => M.bind (g ρ) fun as => M.bind (gk ρ) fun bs => M.bind (F (as ++ bs)) fun d => M.pure (.per d)
theorem se_callK (G : FnG X.prog X.w X.K X.mg X.base fld k f fd ps F) (hr : Room k X.A) (hgu : X.A.guards = some []) (hg : Gl X x) (hm : X.mg x = some (.ref f)) (hk : PySem.W.keepIn X.K (.ref f) = true) (hb : BindsK X.K fd ps ks n) (tk : Takes X W)
    (ha : PA X (e :: es) (TAs X.K fld W g)) (hkw : PK X kws (TAs X.K fld W gk)) (hps : ps.length = n + ks.length) (hl : ∀ ρ st ds st', g ρ st = .ok ds st' → ds.length = n) (hlk : ∀ ρ st ds st', gk ρ st = .ok ds st' → ds.length = ks.length) (hall : (backToKw pos (keywordEach kws X.env)).all (·.1.isSome) = true) (hks : (backToKw pos (keywordEach kws X.env)).filterMap (·.1) = ks)
    (hdb : (x == ("__debug__" : Str)) = false) (he : starEach (e :: es) X.env = (false, eval e X.env) :: starEach es X.env) (hpl : ((backTo pos (starEach (e :: es) X.env)).any (·.1) || (backToKw pos (keywordEach kws X.env)).any (·.1.isNone)) = false) :
    PE X (.Call (.Name x p) (e :: es) kws pos) (TN X.K fld W (sFnK F g gk)) := by
  refine ⟨fun pins s σ H Q I h => ?_⟩
  refine wpAny_Call_Name_kw (ld_glob I hg hm ?_ hdb)
  obtain ⟨ρ, st, ca, hen, hs, hp⟩ := h
  have hA := ha.run pos pins s σ H (fun vs H1 => TAs X.K fld W gk σ H1 (fun zs H2 => ∃ ds es st2 ca2, Stp ca ca2 H H2 ∧ vs.length = n ∧ zs.length = ks.length ∧ RelDs X.K H2 ca2 ds vs ∧ RelDs X.K H2 ca2 es zs ∧ SR X.K st2 ca2 H2 ∧
      Post X.K fld W σ H2 ca2 (fun r _ ca' H' => ∀ v, RelRV X.K H H' ca' r v → Q v H') (M.bind (F (ds ++ es)) (fun d => M.pure (.per d)) st2))) I (by
    refine ⟨ρ, st, ca, hen, hs, ?_⟩
    have hp := Post.bind hp
    cases hgr : g ρ st with
    | bad => rw [hgr] at hp; exact hp
    | exc c as st1 => rw [hgr] at hp; exact hp
    | ok ds st1 =>
      rw [hgr] at hp
      refine fun ca1 H1 t1 s1 vs hvs => ⟨ρ, st1, ca1, hen.stp t1, s1, ?_⟩
      have hp2 := Post.bind (hp ca1 H1 t1 s1)
      cases hgk : gk ρ st1 with
      | bad => rw [hgk] at hp2; exact hp2
      | exc c as st2 => rw [hgk] at hp2; exact hp2
      | ok es st2 =>
        rw [hgk] at hp2
        exact fun ca2 H2 t2 s2 zs hzs => ⟨ds, es, st2, ca2, t1.trans t2, by rw [hvs.length]; exact hl _ _ _ _ hgr, by rw [hzs.length]; exact hlk _ _ _ _ hgk, hvs.stp t2, hzs, s2, hp2 ca2 H2 t2 s2⟩)
  refine PySem.W.callWith_KW (h₀ := X.base) I.ok.mod.kin hk hall (thn hA fun us s1 ⟨vs, H1, I1, r, q⟩ => ?_) hpl he
  refine thn (hkw.run pos pins s1 σ H1 _ I1 q) fun ws s2 ⟨zs, H2, I2, rz, ds, es, st2, ca2, t2, l1, l2, rd, re, s2', q2⟩ => ⟨I2.kIn, ?_⟩
  rw [hks]
  refine run_fnB (args := ⟨us, ks.zip ws⟩) (us := us ++ ws) (vs := vs ++ zs) G hr hgu (hb s2 us ws I2.kIn (by rw [← r.length]; exact l1) (by rw [← rz.length]; exact l2)) tk I2 (r.append rz) (by rw [List.length_append, l1, l2, hps]) (rd.append re) s2' ((Post.bind q2).mono fun d st3 ca3 H3 t3 s3 q v hv => ?_)
  exact Post.now q s3 v hv
end
end Ev
/-! Own errors: their classes, raise. -/
namespace Ev
open PySem PySem.Spec PyProof.Rows L2
variable [Tbs] [Hnd]
def CXn : CXT := fun _ _ _ _ _ _ => False
theorem passn {X : Cx} {E : XK} : Passes CXn X E := fun _ _ _ _ _ _ _ h => h.elim
/-- what an error's __init__ does -/
def spI (K : PySem.W.Frag) (fs : List Str) : Sp := fun us H Q _ => ∃ (a C : Addr) (ws : List V), us = .ref a :: ws ∧ ws.length = fs.length ∧ OexC K C ∧ (∀ f ∈ fs, PySem.W.findIn K (.ref C) f = some none) ∧ H a = some (exo a C none) ∧
  ∀ (d : Addr) (kvs : List (Str × V)) (H' : Hp), H d = none → d ≠ a → (∀ (i : Nat) (f : Str) (v : V), fs[i]? = some f → ws[i]? = some v → kvs.lookup f = some v) → H' = upd (upd H d (exd d kvs)) a (exo a C (some d)) → Q .non H'
/-- self.f = f -/
def stoB (f : Str) : Stmt → Bool
  | .Assign [.Attribute (.Name z _) g _] (.Name h _) _ => decide (z = "self") && decide (g = f) && decide (h = f)
  | _ => false
theorem stoB_ok {f : Str} {s : Stmt} (h : stoB f s = true) : ∃ p1 p2 p3 p4, s = .Assign [.Attribute (.Name "self" p1) f p2] (.Name f p3) p4 := by
  unfold stoB at h
  split at h
  · simp only [Bool.and_eq_true, decide_eq_true_eq] at h
    obtain ⟨⟨h1, h2⟩, h3⟩ := h
    subst h1 h2 h3
    exact ⟨_, _, _, _, rfl⟩
  · cases h
def iniB (fs : List Str) (body : List Stmt) : Bool := match fs, body with
  | [f], [s] => stoB f s && !(f == ("__debug__" : Str)) && !(f == ("__classdict__" : Str)) && decide (f ≠ "self")
  | [f, g], [s, t] => stoB f s && stoB g t && (!(f == ("__debug__" : Str)) && !(f == ("__classdict__" : Str)) && (!(g == ("__debug__" : Str)) && !(g == ("__classdict__" : Str)) && (decide (f ≠ g) && (decide (f ≠ "self") && decide (g ≠ "self")))))
  | _, _ => false
section
variable {P : Program} {w : World} {K : PySem.W.Frag} {mg : Str → Option Value} {base : Heap} {qual : Str} {params : Arguments} {body : List Stmt} {scope : Scope} {fI : Addr} {fd : FuncData}
theorem up2 {H : Hp} {a d : Addr} {o u v : HO} (n : d ≠ a) : upd (upd (upd H d o) a u) d v = upd (upd H d v) a u := by
  funext b
  by_cases h1 : b = d
  · subst h1
    rw [upd_same, upd_ne n, upd_same]
  · rw [upd_ne h1]
    by_cases h2 : b = a
    · subst h2
      rw [upd_same, upd_same]
    · rw [upd_ne h2, upd_ne h1, upd_ne h2, upd_ne h1]
theorem ini_ok {fs : List Str} (FD : FunD K "__init__" qual params body scope [] [] fI fd) (S : FnScope ("self" :: fs) ("self" :: fs) scope) (hb : iniB fs body = true) : FnOk P w K mg base CXn 1 fI fd ("self" :: fs) (spI K fs) := by
  refine FunD.ok (k := 0) FD S (fun vs H Q E ⟨a, C, ws, e, hl, _⟩ => by rw [e]; exact congrArg Nat.succ hl) fun cdv A outer s H vs Q E hr ⟨a, C, ws, e, hl, T, hno, ha, q⟩ => ?_
  subst e
  have vis : ∀ x : Str, x ∈ (("self" : Str) :: fs) → Vis scope x := fun x hx => (S.par x hx).elim .inl fun h => .inr (.inl h)
  unfold iniB at hb
  split at hb
  · rename_i _ _ f s1 _
    simp only [Bool.and_eq_true, Bool.not_eq_true', decide_eq_true_eq] at hb
    obtain ⟨⟨⟨h1, h2⟩, h3⟩, h4⟩ := hb
    obtain ⟨p1, p2, p3, p4, rfl⟩ := stoB_ok h1
    match ws, hl with
    | [y], _ =>
      refine ⟨_, pss_cons (ps_ost (pe_var (i := 0) rfl (vis _ (by simp))) (pe_var (i := 1) rfl (vis _ (by simp)) h2 h3)) pss_nil, ?_⟩
      refine ⟨y, rfl, .ref a, rfl, a, C, rfl, T, hno f (by simp), .inl ⟨ha, fun dx n ne => ?_⟩⟩
      refine q dx [(f, y)] _ n ne (fun i g v e1 e2 => ?_) rfl
      cases i with
      | zero =>
        cases e1
        cases e2
        simp [List.lookup]
      | succ i => simp at e1
  · rename_i _ _ f g s1 s2 _
    simp only [Bool.and_eq_true, Bool.not_eq_true', decide_eq_true_eq] at hb
    obtain ⟨⟨h1, h1'⟩, ⟨h2, h3⟩, ⟨⟨h2', h3'⟩, h4, h5, h6⟩⟩ := hb
    obtain ⟨p1, p2, p3, p4, rfl⟩ := stoB_ok h1
    obtain ⟨r1, r2, r3, r4, rfl⟩ := stoB_ok h1'
    match ws, hl with
    | [y, z], _ =>
      refine ⟨_, pss_cons (ps_ost (pe_var (i := 0) rfl (vis _ (by simp))) (pe_var (i := 1) rfl (vis _ (by simp)) h2 h3)) (pss_cons (ps_ost (pe_var (i := 0) rfl (vis _ (by simp))) (pe_var (i := 2) rfl (vis _ (by simp)) h2' h3')) pss_nil), ?_⟩
      refine ⟨y, rfl, .ref a, rfl, a, C, rfl, T, hno f (by simp), .inl ⟨ha, fun dx n ne => ?_⟩⟩
      refine ⟨z, rfl, .ref a, rfl, a, C, rfl, T, hno g (by simp), .inr ⟨dx, [(f, y)], upd_same, by rw [upd_ne ne, upd_same], by simp, ?_⟩⟩
      refine q dx [(g, z), (f, y)] _ n ne (fun i k v e1 e2 => ?_) (up2 ne)
      match i with
      | 0 =>
        cases e1
        cases e2
        have : (f == g) = false := by simpa using h4
        simp [List.lookup, this]
      | 1 =>
        cases e1
        cases e2
        simp [List.lookup]
      | i + 2 => simp at e1
  · cases hb
end
/-- an own error class, its fields laid by its own __init__ -/
structure ErrC (P : Program) (w : World) (K : PySem.W.Frag) (mg : Str → Option Value) (base : Heap) (x : Str) (fs : List Str) : Prop where
  oex : OexC K (He.ga K x)
  no : ∀ f ∈ fs, PySem.W.findIn K (.ref (He.ga K x)) f = some none
  ini : ∃ fI fd, PySem.W.findIn K (.ref (He.ga K x)) "__init__" = some (some (.ref fI)) ∧ PySem.W.typeIn K (.ref fI) = some (.type "function") ∧ FnOk P w K mg base CXn 1 fI fd ("self" :: fs) (spI K fs) ∧ Binds K fd ("self" :: fs) []
  xf : XfC K (He.ga K x)
/-- raise x(..) -/
def sRaise (x : Str) (n : Nat) (g : Env' → M (List D)) : SS := thenS g fun as ρ st => if as.length = n then .exc x as ρ st else .bad
section
variable {X : Cx} {fld : Str → List Str} {W : WX} {x : Str} {fs : List Str} {p pos pos2 : Pos} {e : Expr} {es : List Expr} {g : Env' → M (List D)} {k : Nat}
theorem upd_del {H1 : Hp} {a d : Addr} {o u v : HO} (ha : H1 a = none) (n : d ≠ a) : upd (del (upd (upd (upd H1 a o) d u) a o) a) d v = upd H1 d v := by
  funext b
  by_cases h1 : b = d
  · subst h1
    rw [upd_same, upd_same]
  · rw [upd_ne h1, upd_ne h1]
    by_cases h2 : b = a
    · subst h2
      rw [del_same, ha]
    · rw [del_ne h2, upd_ne h2, upd_ne h1, upd_ne h2]
theorem upd_del2 {H1 : Hp} {a d : Addr} {o o2 u v : HO} (ha : H1 a = none) (n : d ≠ a) : upd (del (upd (upd (upd H1 a o) d u) a o2) a) d v = upd H1 d v := by
  funext b
  by_cases h1 : b = d
  · subst h1
    rw [upd_same, upd_same]
  · rw [upd_ne h1, upd_ne h1]
    by_cases h2 : b = a
    · subst h2
      rw [del_same, ha]
    · rw [del_ne h2, upd_ne h2, upd_ne h1, upd_ne h2]
theorem ss_raise {H0 : Hp} {ca0 : List Addr} (EC : ErrC X.prog X.w X.K X.mg X.base x fs) (hf : fld x = fs) (hs : fs.length ≤ 100) (hr : Room 2 X.A) (hc : X.calm = true) (tk : Takes X W) (hg : Gl X x) (hm : X.mg x = some (.ref (He.ga X.K x))) (ha : PA X (e :: es) (TAs X.K fld W g))
    (hdb : (x == ("__debug__" : Str)) = false) (he : starEach (e :: es) X.env = (false, eval e X.env) :: starEach es X.env) (hpl : (backTo pos (starEach es X.env)).any (·.1) = false) :
    PS X (.Raise (some (.Call (.Name x p) (e :: es) [] pos)) none pos2) (TSt X.K fld W H0 ca0 (sRaise x fs.length g)) := by
  obtain ⟨fI, fd, iC, tI, F1, hb⟩ := EC.ini
  refine PS.imp (ps_raise hc tk (pmk_oex (CX := CXn) (sp := spI X.K fs) EC.oex iC tI F1 hr hb .nil passn hg hm ha hdb he hpl)) fun D σ H ⟨ρ, st, ca, hfr, hsr, hp⟩ => ⟨ρ, st, ca, hfr.env, hsr, (PostS.then hfr hp).mono fun as st1 ca1 H1 t1 s1 q vs hvs => ?_⟩
  obtain ⟨q1, q2⟩ := q
  split at q2
  · rename_i hlen
    have hlv : vs.length = fs.length := by rw [hvs.length]; exact hlen
    refine ⟨by omega, fun a hna => ⟨a, He.ga X.K x, vs, by rw [List.append_nil], hlv, EC.oex, EC.no, upd_same, fun d kvs H' hd ne lk e' => ?_⟩⟩
    have hd1 : H1 d = none := by rw [upd_ne ne] at hd; exact hd
    refine ⟨rfl, d, kvs, by rw [e']; exact upd_same, by rw [e', upd_ne ne, upd_same], hd1, ?_⟩
    rw [e', upd_del2 hna ne]
    have t2 := Stp.laid (ca := ca1) (o := .xd kvs) hd1
    exact q2 _ _ σ ca1 _ t2.fx (q1.go t2) (s1.laid hd1) ⟨rfl, d, kvs, vs, rfl, upd_same, by rw [hf]; exact lk, by rw [hf]; exact hlv, hvs.stp t2⟩
  · exact q2.elim
end
end Ev
/-! try: several clauses, with names or without. -/
namespace Ev
open PySem PySem.Spec PyProof.Rows L2
variable [Tbs] [Hnd]
/-- one clause: the class, the slot of its name, what its suite does -/
structure Cla where
  cs : List Value
  i : Option Nat
  ts : Addr → Value → Option Addr → TS
def asE (i : Nat) (Dz : Ends) : Ends := { nx := fun σz Hz => Dz.nx (σz.set i none) Hz, rt := Dz.rt, bk := fun σz Hz => Dz.bk (σz.set i none) Hz, ct := fun σz Hz => Dz.ct (σz.set i none) Hz }
def claW (q : Cla) (Dz : Ends) (ax : Addr) (cl : Value) (dz : Option Addr) (σz : L2.St) (Hz : Hp) : Prop := match q.i with
  | none => q.ts ax cl dz Dz σz Hz
  | some i => q.ts ax cl dz (asE i Dz) (σz.set i (some (.ref ax))) Hz
def wCl (K : PySem.W.Frag) (Wo : WX) (Dz : Ends) : List Cla → WX
  | [] => Wo
  | q :: qs => fun cl dz σz Hz => ∃ bz, PySem.W.exmAny K cl q.cs = some bz ∧ (bz = true → ∀ ax, Hz ax = none → claW q Dz ax cl dz σz Hz) ∧ (bz = false → wCl K Wo Dz qs cl dz σz Hz)
/-- the name of a clause -/
def AsOk (X : Cx) : Option Str → Option Nat → Prop
  | none, none => True
  | some n, some i => X.N.Nodup ∧ X.N[i]? = some n ∧ X.env.kindOf n = some .local
  | _, _ => False
/-- a clause's classes -/
inductive TstOk (X : Cx) : Expr → List Value → Prop
  | one {xn : Str} {c : Value} {np : Pos} : Names X xn c → TstOk X (.Name xn np) [c]
  | two {x1 x2 : Str} {c1 c2 : Value} {p1 p2 tpos : Pos} {kk : Nat} : Names X x1 c1 → Names X x2 c2 → TstOk X (.Tuple [.Name x1 p1, .Name x2 p2] kk tpos) [c1, c2]
theorem exm_one_of {K : PySem.W.Frag} {cl c : Value} {b : Bool} (h : PySem.W.exmAny K cl [c] = some b) : PySem.W.exmOne K cl c = some b := by
  obtain ⟨b1, d1, h1, h2, h3⟩ := PySem.W.exmAny_cons h
  cases (show some false = some d1 from h2)
  rw [h1, h3, Bool.or_false]
theorem fly_push {base h : Heap} {l : List Env} {e : Addr} {Z : Obj → Prop} {o : Obj} (x : HandSPX.FlyingZ base l e Z h) : HandSPX.FlyingZ base l e Z (h.push o) := by
  obtain ⟨h1, h2, h3, oe, vs, T, oT, ts, a1, a2, a3, a4, a5, a6, a7, a8, a9⟩ := x
  have k : ∀ b u, h.get? b = some u → (h.push o).get? b = some u := fun b u q => Heap.get?_push_of_some _ q
  exact ⟨fun b u q => k b u (h1 b u q), h2, Heap.FunFrames.of_keeps (fun b u q _ => ⟨u, k b u q, rfl⟩) h3, oe, vs, T, oT, ts, k _ _ a1, a2, a3, a4, a5, a6, k _ _ a7, a8, a9⟩
inductive ClaOk (X : Cx) : List ExceptHandler → List Cla → Prop
  | nil : ClaOk X [] []
  | cons {te : Expr} {nm : Option Str} {q : Cla} {st0 : Stmt} {sts : List Stmt} {posz : Pos} {hdz : List ExceptHandler} {qs : List Cla} (hcz : TstOk X te q.cs) (has : AsOk X nm q.i)
      (hsz : ∀ (ax : Addr) (ox : Obj) (cl : Value) (dz : Option Addr) (pz : List (Addr × Obj)), Zc cl dz ox → (∃ vz, ox.data = .fields vz) → PSs (X.suite ax ((ax, ox) :: pz)) (st0 :: sts) (q.ts ax cl dz)) (rz : ClaOk X hdz qs) :
      ClaOk X (.ExceptHandler (some te) nm (st0 :: sts) posz :: hdz) (q :: qs)
section
variable {X : Cx} {bodyz : List Stmt} {hd0 : ExceptHandler} {hdz : List ExceptHandler} {qs : List Cla} {posz : Pos} {tz : WX → TS} {Wo : WX}
theorem ps_try_cl (hst : X.stack = X.env :: X.outer) (hfz : X.env.frame = some X.env.locals) (tkz : Takes X Wo)
    (hbz : ∀ (Wz : WX) (pz : List (Addr × Obj)) (xz : Value → Shared → Prop), Takes (X.tr pz xz) Wz → PassesOwn (model X.prog X.w) X.A X.env xz → PSs (X.tr pz xz) bodyz (tz Wz))
    (hhz : ClaOk X (hd0 :: hdz) qs) : PS X (.Try bodyz (hd0 :: hdz) [] [] posz) (fun Dz σz Hz => tz (wCl X.K Wo Dz qs) Dz σz Hz) := by
  refine ⟨fun pins sz σz Hz Dz Iz hz0 => ?_⟩
  have okz := Iz.ok
  have hfr : X.A.frames = some (X.env :: X.outer) := okz.frames.trans (congrArg some hst)
  refine wpAny_Try_except ?_
  refine wpAny_mono ((hbz (wCl X.K Wo Dz qs) (X.pn ++ pins) (fun ez s1 => wpAny (model X.prog X.w) X.A (noteFrame ez X.env) (fun _ s2 => wpAny (model X.prog X.w) X.A (setFlight ez none) (fun _ s3 =>
    wpAny (model X.prog X.w) X.A (handleBy ez X.env (hd0 :: hdz)) (SP X pins Dz) X.xe s3) X.xe s2) X.xe s1) (fun uz sy xz => ?_) PassesOwn.looking).run [] sz σz Hz Dz (Iz.toTry _) hz0) (fun fz s1 hspz => ?_) (fun ez s1 hez => hez)
  · obtain ⟨ax, Bz, sJ, pz, σy, Hy, cl, dz, rfl, Jy, nbz, upz, skyz, naz, osz, agz, wz⟩ := xz
    have Jz : Inv X pins σy Hy sJ := Jy.ofTry okz
    have sky2 : Sky Bz (X.env :: X.outer) ax (Zc cl dz) X.env.locals sy.heap := hst ▸ skyz
    show wpAny (model X.prog X.w) X.A (noteFrame (.ref ax) X.env) _ _ _
    refine Sky.land Zc.steady hfr hfz sky2 fun h3 fl3 up3 => ?_
    have J3z : Inv X pins σy Hy { sy with heap := h3 } := Jz.landed nbz fl3.1 (upz.trans up3) osz agz
    obtain ⟨ox3, vz3, hox3, hzc3, hdt3⟩ := fl3.there
    have notIn : ∀ {hh : Heap} {o : Obj} {vz : Array Value}, hh.FunFrames Bz (X.env :: X.outer) → hh.get? ax = some o → o.data = .fields vz → ax ∉ frs (X.env :: X.outer) := fun {hh o vz} ffz ez ddz hmz => by
      obtain ⟨_, o2, e2, hnz⟩ := ffz.mem hmz
      rw [ez] at e2
      cases e2
      exact hnz _ ddz
    have nfz := notIn fl3.2.2.1 hox3 hdt3
    have nLz : ax ≠ X.env.locals := fun zz => nfz (List.mem_filterMap.mpr ⟨X.env, List.mem_cons_self, zz ▸ hfz⟩)
    have nFz : ax ∉ X.fs := fun hmz => by
      obtain ⟨ez, hez, qz⟩ := List.mem_filterMap.mp hmz
      exact nfz (List.mem_filterMap.mpr ⟨ez, List.mem_cons_of_mem _ hez, qz⟩)
    have S3z := J3z.suite hox3 hdt3 naz nLz nFz
    have goz : ∀ {hdy : List ExceptHandler} {qy : List Cla}, ClaOk X hdy qy → wCl X.K Wo Dz qy cl dz σy Hy → ∀ h3 : Heap, HandSPX.FlyingZ Bz (X.env :: X.outer) ax (Zc cl dz) h3 → sy.heap.UpToSlots h3 →
        wpAny (model X.prog X.w) X.A (handleBy (.ref ax) X.env hdy) (SP X pins Dz) X.xe { sy with heap := h3 } := by
      intro hdy qy hky
      induction hky with
      | nil =>
        intro wz h3 fl3 up3
        refine wpAny_handleBy_nil ?_
        obtain ⟨k1, k2, k3, oz, vz, Tz, oTz, tz2, hgz, hz2, hdz2, h1z, hrz⟩ := id fl3
        unfold PySem.passOn
        refine wpAny_bind (wpAny_field hgz hdz2 h1z ?_)
        rw [if_neg (show ¬ ((Value.ref Tz == Value.none) = true) from by simp)]
        have finz : wpAny (model X.prog X.w) X.A (setFlight (.ref ax) X.env.frame) (fun _ s4 => wpAny (model X.prog X.w) X.A (throw (.ref ax) : Sem Flow) (SP X pins Dz) X.xe s4) X.xe { sy with heap := h3 } := by
          rw [hfz]
          refine HandSPX.setFlight_upZ fl3 fun h4 hh4 up4 => wpAny_throw (tkz _ _ ?_)
          exact ⟨ax, Bz, sJ, pins, σy, Hy, cl, dz, rfl, Jz, nbz, (upz.trans up3).trans up4, .inr (.inr (hst ▸ hh4)), naz, osz, agz, wz⟩
        first
          | exact wpAny_bind (wpAny_pure (wpAny_bind finz))
          | exact wpAny_bind finz
      | @cons te nm q st0 sts posy hd2 q2 hcz has hsz rz ih =>
        intro wz h3 fl3 up3
        obtain ⟨bz, hb1z, hyes, hno⟩ := wz
        have J3z : Inv X pins σy Hy { sy with heap := h3 } := Jz.landed nbz fl3.1 (upz.trans up3) osz agz
        obtain ⟨ox3, vz3, hox3, hzc3, hdt3⟩ := fl3.there
        have nfz := notIn fl3.2.2.1 hox3 hdt3
        have S3z := J3z.suite hox3 hdt3 naz nLz nFz
        refine wpAny_handleBy_cons (codeAny_handlers_test ?_) (by intro zz; cases zz)
        have LTz : PySem.W.Looks (model X.prog X.w) h3 (typeOf (.ref ax)) cl := fun A Q E s k qz => wpAny_typeOf_ref (k _ _ hox3) (by rw [hzc3.1]; exact qz)
        have tst : ∀ {xn : Str} {c : Value} {np : Pos} (_ : Names X xn c) {Q : Value → Shared → Prop} {E : Value → Shared → Prop}, Q c { sy with heap := h3 } → wpAny (model X.prog X.w) (X.A.mark (some (.ref ax))) (eval (.Name xn np) X.env) Q E { sy with heap := h3 } := fun {xn c np} hcn {Q E} qz => by
          obtain ⟨hgz, hdbz, hmz | ⟨hmz, hvz, hnz⟩⟩ := hcn
          · exact ld_glob (X := X.suite ax ((ax, ox3) :: (X.pn ++ pins))) S3z hgz hmz qz hdbz
          · exact ld_blt (X := X.suite ax ((ax, ox3) :: (X.pn ++ pins))) S3z hgz hmz hvz qz hnz hdbz
        have fin : ∀ {E' : Value → Shared → Prop} {Q' : Bool → Shared → Prop}, (∀ h4 : Heap, HandSPX.FlyingZ Bz (X.env :: X.outer) ax (Zc cl dz) h4 → sy.heap.UpToSlots h4 → Q' bz { sy with heap := h4 }) → wpAny (model X.prog X.w) (X.A.mark (some (.ref ax))) (eval te X.env) (fun c s₁ => wpAny (model X.prog X.w) (X.A.mark (some (.ref ax))) (excMatches (.ref ax) c) Q' E' s₁) E' { sy with heap := h3 } := fun {E' Q'} hq => by
          generalize hcs : q.cs = cs at hcz hb1z
          cases hcz with
          | one hn => exact tst hn ((PySem.W.exm_one (M := model X.prog X.w) (J3z.kIn) LTz (exm_one_of hb1z)).here (hq h3 fl3 up3))
          | @two x1 x2 c1 c2 p1 p2 tpos kk n1 n2 =>
            refine wpAny_Tuple ?_
            refine wpAny_items_cons (tst n1 ?_)
            refine wpAny_items_cons (tst n2 ?_)
            refine wpAny_items_nil ⟨by size_fits, ?_⟩
            have kp : ∀ (q : Addr) (o : Obj), h3.get? q = some o → (h3.push { cls := .type "tuple", data := .seq [c1, c2].toArray }).get? q = some o := fun _ _ z => Heap.get?_push_of_some _ z
            exact (PySem.W.exm_tup2 (M := model X.prog X.w) ((J3z.kIn).keeps kp) (LTz.keeps kp) (Heap.get?_push_size h3 rfl) hb1z).here (hq _ (fly_push fl3) (up3.trans fun b u e hd => ⟨u.slots, by rw [Heap.get?_push_of_some _ e] <;> rfl⟩))
        refine fin fun h3 fl3 up3 => ?_
        have J3z : Inv X pins σy Hy { sy with heap := h3 } := Jz.landed nbz fl3.1 (upz.trans up3) osz agz
        cases bz with
        | false =>
          show wpAny _ X.A (handleBy (.ref ax) X.env hd2) _ _ _
          exact ih (hno rfl) h3 fl3 up3
        | true =>
          have hy2 := hyes rfl ax naz
          unfold claW at hy2
          cases hqi : q.i with
          | none =>
            rw [hqi] at has hy2
            cases nm with
            | some n => exact has.elim
            | none =>
              refine codeAny_handlers_suite ?_
              refine HandSPX.lands_againZ fl3 fun h4 fl4 up4 => ?_
              have J4z : Inv X pins σy Hy { sy with heap := h4 } := Jz.landed nbz fl4.1 ((upz.trans up3).trans up4) osz agz
              obtain ⟨ox4, vz4, hox4, hzc4, hdt4⟩ := fl4.there
              have S4z := J4z.suite hox4 hdt4 naz nLz nFz
              refine wpAny_mono ((hsz ax ox4 cl dz (X.pn ++ pins) hzc4 ⟨_, hdt4⟩).run [] _ _ Hy _ S4z hy2) (fun fz s6 hspz => ?_) (fun _ _ zz => False.elim zz)
              cases fz with
              | next =>
                obtain ⟨σ6, H6, S6, q6⟩ := hspz
                exact ⟨σ6, H6, S6.unsuite okz, q6⟩
              | brk =>
                obtain ⟨σ6, H6, S6, q6⟩ := hspz
                exact ⟨σ6, H6, S6.unsuite okz, q6⟩
              | cont =>
                obtain ⟨σ6, H6, S6, q6⟩ := hspz
                exact ⟨σ6, H6, S6.unsuite okz, q6⟩
              | ret u =>
                obtain ⟨v6, σ6, H6, S6, r6, q6⟩ := hspz
                exact ⟨v6, σ6, H6, S6.unsuite okz, r6, q6⟩
          | some i =>
            rw [hqi] at has hy2
            cases nm with
            | none => exact has.elim
            | some n =>
              obtain ⟨hNz, hiz, hlz⟩ := has
              refine codeAny_handlers_suite_as ?_
              refine HandSPX.lands_againZ fl3 fun h4 fl4 up4 => ?_
              have J4z : Inv X pins σy Hy { sy with heap := h4 } := Jz.landed nbz fl4.1 ((upz.trans up3).trans up4) osz agz
              obtain ⟨ox4, vz4, hox4, hzc4, hdt4⟩ := fl4.there
              have S4z := J4z.suite hox4 hdt4 naz nLz nFz
              refine store_ok (X := X.suite ax ((ax, ox4) :: (X.pn ++ pins))) (v := .ref ax) S4z hNz hiz (.inl hlz) rfl (fun s5 S5z => ?_) (.inr hlz)
              refine wpAny_mono ((hsz ax ox4 cl dz (X.pn ++ pins) hzc4 ⟨_, hdt4⟩).run [] s5 _ Hy _ S5z hy2) (fun fz s6 hspz => ?_) (fun _ _ zz => False.elim zz)
              have endz : ∀ {σ6 : L2.St} {H6 : Hp} {Q : Shared → Prop}, Inv (X.suite ax ((ax, ox4) :: (X.pn ++ pins))) [] σ6 H6 s6 → (∀ s7, Inv X pins (σ6.set i none) H6 s7 → Q s7) →
                  wpAny (model X.prog X.w) X.A (do bindName X.env n .none; unbindBehindTheSuite X.env n posy) (fun _ s7 => Q s7) X.xe s6 := fun {σ6 H6 Q} S6 hqz => gone_ok (S6.unsuite okz) hNz hiz hlz hqz
              cases fz with
              | next =>
                obtain ⟨σ6, H6, S6, q6⟩ := hspz
                exact endz S6 fun s7 J7 => ⟨σ6.set i none, H6, J7, q6⟩
              | brk =>
                obtain ⟨σ6, H6, S6, q6⟩ := hspz
                exact endz S6 fun s7 J7 => ⟨σ6.set i none, H6, J7, q6⟩
              | cont =>
                obtain ⟨σ6, H6, S6, q6⟩ := hspz
                exact endz S6 fun s7 J7 => ⟨σ6.set i none, H6, J7, q6⟩
              | ret u =>
                obtain ⟨v6, σ6, H6, S6, r6, q6⟩ := hspz
                exact endz S6 fun s7 J7 => ⟨v6, σ6.set i none, H6, J7, r6, q6⟩
    exact goz hhz wz h3 fl3 up3
  · cases fz with
    | next =>
      obtain ⟨σy, Hy, Jy, qz⟩ := hspz
      exact wpAny_execs_nil ⟨σy, Hy, Jy.ofTry okz, qz⟩
    | brk =>
      obtain ⟨σy, Hy, Jy, qz⟩ := hspz
      exact ⟨σy, Hy, Jy.ofTry okz, qz⟩
    | cont =>
      obtain ⟨σy, Hy, Jy, qz⟩ := hspz
      exact ⟨σy, Hy, Jy.ofTry okz, qz⟩
    | ret u =>
      obtain ⟨vy, σy, Hy, Jy, rz, qz⟩ := hspz
      exact ⟨vy, σy, Hy, Jy.ofTry okz, rz, qz⟩
end
end Ev
/-! What an except suite does; try as a whole. -/
namespace Ev
open PySem PySem.Spec PyProof.Rows L2
variable [Tbs] [Hnd]
/-- what is known in a suite: of the slots, the heap, the cells; it stays -/
structure Ph where
  p : L2.St → Hp → List Addr → Prop
  st : ∀ (σ : L2.St) (H H' : Hp) (ca ca' : List Addr), Stp ca ca' H H' → p σ H ca → p σ H' ca'
def TH (Φ : Ph) (K : PySem.W.Frag) (fld : Str → List Str) (W : WX) (f : Env' → M RV) : TE := fun σ H Q => ∃ ρ st ca, EnvR K H ca ρ σ ∧ SR K st ca H ∧ Φ.p σ H ca ∧ Post K fld W σ H ca (fun r _ ca' H' => ∀ v, RelRV K H H' ca' r v → Q v H') (f ρ st)
def THs (Φ : Ph) (K : PySem.W.Frag) (fld : Str → List Str) (W : WX) (f : Env' → M D) : TE := fun σ H Q => ∃ ρ st ca, EnvR K H ca ρ σ ∧ SR K st ca H ∧ Φ.p σ H ca ∧ Post K fld W σ H ca (fun r _ ca' H' => ∀ v, RelD K H' ca' r v → Q v H') (f ρ st)
def THr (Φ : Ph) (K : PySem.W.Frag) (fld : Str → List Str) (W : WX) (f : Env' → M D) : TE := fun σ H Q => ∃ ρ st ca, EnvR K H ca ρ σ ∧ SR K st ca H ∧ Φ.p σ H ca ∧ Post K fld W σ H ca (fun r _ ca' H' => ∀ v, RelR K H' ca' r v → Q v H') (f ρ st)
def THa (Φ : Ph) (K : PySem.W.Frag) (fld : Str → List Str) (W : WX) (f : Env' → M (List D)) : TA := fun σ H Q => ∃ ρ st ca, EnvR K H ca ρ σ ∧ SR K st ca H ∧ Φ.p σ H ca ∧ Post K fld W σ H ca (fun ds _ ca' H' => ∀ vs, RelDs K H' ca' ds vs → Q vs H') (f ρ st)
section
variable {Φ : Ph} {K : PySem.W.Frag} {fld : Str → List Str} {W : WX} {X : Cx} {e a b : Expr} {es : List Expr} {pos : Pos}
theorem TN.h {f : Env' → M RV} (h : PE X e (TN K fld W f)) : PE X e (TH Φ K fld W f) := PE.imp h fun σ H Q ⟨ρ, st, ca, he, hs, _, hp⟩ => ⟨ρ, st, ca, he, hs, hp⟩
theorem TH.rd {f : Env' → M RV} (h : PE X e (TH Φ K fld W f)) : PE X e (THr Φ K fld W (rd f)) := by
  refine PE.imp h fun σ H Q ⟨ρ, st, ca, he, hs, hφ, hp⟩ => ⟨ρ, st, ca, he, hs, hφ, (Post.bind hp).mono fun r st1 ca1 H1 t1 s1 q v hv => ?_⟩
  exact Post.now q s1 v hv.r
theorem TH.kp {f : Env' → M RV} (h : PE X e (TH Φ K fld W f)) : PE X e (THs Φ K fld W (kp f)) := by
  refine PE.imp (pe_frz h) fun σ H Q ⟨ρ, st, ca, he, hs, hφ, hp⟩ => ⟨ρ, st, ca, he, hs, hφ, ?_⟩
  have hp : Post K fld W σ H ca (fun r _ ca' H' => ∀ v, RelD K H' ca' r v → Q v H') (M.bind (f ρ) (fun r => match r with
    | .per d => M.pure d
    | .fr ds => M.pure (.lst ds)
    | .bor _ => M.bad) st) := hp
  unfold M.bind at hp
  cases hr : f ρ st with
  | bad => rw [hr] at hp; exact hp
  | exc c as st1 => rw [hr] at hp; exact hp
  | ok r st1 =>
    rw [hr] at hp
    intro ca1 H1 t1 s1 v hv
    cases r with
    | per d => exact .inl (hp ca1 H1 t1 s1 v hv)
    | bor ds => exact (show False from hp).elim
    | fr ds =>
      obtain ⟨a, vs, e1, q1, n0, n1, r1⟩ := hv
      refine .inr ⟨a, vs, e1, q1, fun o => ?_⟩
      refine (show ∀ ca' H', Stp ca ca' H H' → SR K st1 ca' H' → ∀ v, RelD K H' ca' (.lst ds) v → Q v H' from hp) ca1 _ (Stp.froze q1 n0 t1) (s1.froze q1 n1) v ⟨a, vs, e1, Or.inl ⟨o, upd_same⟩, RelDs.fixed (Stp.froze0 q1) (fun _ _ z => z) _ _ r1⟩
/-- bound, and written no more -/
def keepR (f : Env' → M RV) : Env' → M RV := fun ρ => M.bind (Ev.kp f ρ) fun d => M.pure (.per d)
theorem TH.keep {f : Env' → M RV} (h : PE X e (TH Φ K fld W f)) : PE X e (TH Φ K fld W (keepR f)) := by
  refine PE.imp (TH.kp h) fun σ H Q ⟨ρ, st, ca, he, hs, hφ, hp⟩ => ⟨ρ, st, ca, he, hs, hφ, (Post.bind hp).mono fun d st1 ca1 H1 t1 s1 q v hv => ?_⟩
  exact Post.now q s1 v hv
theorem sh_nil : PA X [] (THa Φ K fld W sNil) := PA.imp pa_nil fun σ H Q ⟨ρ, st, ca, he, hs, hφ, hp⟩ => Post.now hp hs [] rfl
theorem sh_cons {f : Env' → M D} {g : Env' → M (List D)} (ha : PE X e (THs Φ K fld W f)) (hr : PA X es (THa Φ K fld W g)) (hs : starEach (e :: es) X.env = (false, eval e X.env) :: starEach es X.env) : PA X (e :: es) (THa Φ K fld W (sCons f g)) := by
  refine PA.imp (pa_cons ha hr hs) fun σ H Q ⟨ρ, st, ca, he, hs, hφ, hp⟩ => ⟨ρ, st, ca, he, hs, hφ, (Post.bind hp).mono fun d st1 ca1 H1 t1 s1 q v hv => ?_⟩
  refine ⟨ρ, st1, ca1, he.stp t1, s1, Φ.st _ _ _ _ _ t1 hφ, (Post.bind q).mono fun ds st2 ca2 H2 t2 s2 q vs hvs => ?_⟩
  exact Post.now q s2 _ ⟨v, vs, rfl, hv.stp t2, hvs⟩
theorem sh_tup {k : Nat} {g : Env' → M (List D)} (h : PA X es (THa Φ K fld W g)) : PE X (.Tuple es k pos) (TH Φ K fld W (sTup g)) := by
  refine PE.imp (pe_tup h) fun σ H Q ⟨ρ, st, ca, he, hs, hφ, hp⟩ => ⟨ρ, st, ca, he, hs, hφ, (Post.bind hp).mono fun ds st1 ca1 H1 t1 s1 q vs hvs => ?_⟩
  split at q
  · rename_i hl
    refine ⟨by rw [hvs.length]; exact hl, fun p hp => ?_⟩
    have t2 := Stp.laid (ca := ca1) (o := .tup vs) hp
    exact q ca1 _ t2 (s1.laid hp) _ ⟨p, vs, rfl, SqT.of upd_same, hvs.stp t2⟩
  · exact q.elim
theorem sh_lst {g : Env' → M (List D)} (h : PA X es (THa Φ K fld W g)) : PE X (.List es pos) (TH Φ K fld W (sLst g)) := by
  refine PE.imp (pe_lst h) fun σ H Q ⟨ρ, st, ca, he, hs, hφ, hp⟩ => ⟨ρ, st, ca, he, hs, hφ, (Post.bind hp).mono fun ds st1 ca1 H1 t1 s1 q vs hvs => ?_⟩
  split at q
  · rename_i hl
    refine ⟨by rw [hvs.length]; exact hl, fun p hp => ?_⟩
    have t2 := Stp.laid (ca := ca1) (o := .lst vs) hp
    exact q ca1 _ t2 (s1.laid hp) _ ⟨p, vs, rfl, upd_same, t1.dom p hp, s1.notnew hp, hvs.stp t2⟩
  · exact q.elim
theorem sh_bin {o : Operator} {op : D → D → Option RV} {f g : Env' → M D} (ho : OpR X (binaryOp o) (rO K op)) (ha : PE X a (THr Φ K fld W f)) (hb : PE X b (THr Φ K fld W g)) : PE X (.BinOp a o b pos) (TH Φ K fld W (sBin op f g)) := by
  refine PE.imp (pe_op ho ha hb) fun σ H Q ⟨ρ, st, ca, he, hs, hφ, hp⟩ => ⟨ρ, st, ca, he, hs, hφ, (Post.bind hp).mono fun d st1 ca1 H1 t1 s1 q v hv => ?_⟩
  refine ⟨ρ, st1, ca1, he.stp t1, s1, Φ.st _ _ _ _ _ t1 hφ, (Post.bind q).mono fun d2 st2 ca2 H2 t2 s2 q w hw => ?_⟩
  obtain ⟨r, e, g⟩ := q.rdr (t1.trans t2)
  exact ⟨ca2, st2, _, _, r, s2, (hv.stp t2).x s2, hw.x s2, e, g⟩
end
/-! ### the caught error's fields -/
/-- the error caught: its place, its class, its fields' values; its name's slot -/
def ExP (K : PySem.W.Frag) (fld : Str → List Str) (i : Nat) (ax : Addr) (cl : Value) (dz : Option Addr) (c : Str) (as : List D) (σ : L2.St) (H : Hp) (ca : List Addr) : Prop := σ[i]? = some (some (.ref ax)) ∧ ExR K fld H ca c as cl dz ∧ ∀ d, dz = some d → d ∉ ca
theorem ExR.notin {K : PySem.W.Frag} {fld : Str → List Str} {H : Hp} {ca : List Addr} {st : Store} {c : Str} {as : List D} {cl : Value} {dz : Option Addr} (s : SR K st ca H) (h : ExR K fld H ca c as cl dz) : ∀ d, dz = some d → d ∉ ca := by
  obtain ⟨_, d, kvs, vs, e1, e2, _⟩ := h
  subst e1
  intro d' e hm
  cases e
  obtain ⟨k, hk⟩ := List.getElem?_of_mem hm
  have hl : k < st.length := by rw [← s.len]; exact (List.getElem?_eq_some_iff.mp hk).1
  have := s.cell k st[k] d (List.getElem?_eq_getElem hl) hk
  cases hc : st[k] with
  | lst ds => rw [hc] at this; obtain ⟨vs, e, _⟩ := this; rw [e2] at e; cases e
  | dct ds => rw [hc] at this; obtain ⟨vs, e, _⟩ := this; rw [e2] at e; cases e
theorem ExP.stp {K : PySem.W.Frag} {fld : Str → List Str} {i : Nat} {ax : Addr} {cl : Value} {dz : Option Addr} {c : Str} {as : List D} (σ : L2.St) (H H' : Hp) (ca ca' : List Addr) (t : Stp ca ca' H H') (h : ExP K fld i ax cl dz c as σ H ca) : ExP K fld i ax cl dz c as σ H' ca' := by
  obtain ⟨h1, ⟨h2, d, kvs, vs, e1, e2, lk, hl, r⟩, h3⟩ := h
  have hn := h3 d e1
  refine ⟨h1, ⟨h2, d, kvs, vs, e1, t.keep d _ e2 hn trivial, lk, hl, r.stp t⟩, fun d' e => ?_⟩
  rw [e1] at e
  cases e
  exact t.notin e2 hn
def phX (K : PySem.W.Frag) (fld : Str → List Str) (i : Nat) (ax : Addr) (cl : Value) (dz : Option Addr) (c : Str) (as : List D) : Ph := ⟨ExP K fld i ax cl dz c as, ExP.stp⟩
def ph0 : Ph := ⟨fun _ _ _ => True, fun _ _ _ _ _ _ _ => trivial⟩
/-- e.f -/
def ixOf (f : Str) : List Str → Option Nat
  | [] => none
  | g :: r => if g = f then some 0 else (ixOf f r).map (· + 1)
theorem ixOf_ok {f : Str} : ∀ {l : List Str} {j : Nat}, ixOf f l = some j → l[j]? = some f
  | [], _, h => by cases h
  | g :: r, j, h => by
    unfold ixOf at h
    split at h
    · rename_i e
      cases h
      rw [e]; rfl
    · cases h2 : ixOf f r with
      | none => rw [h2] at h; cases h
      | some k =>
        rw [h2] at h
        cases h
        simpa using ixOf_ok h2
def sFld (as : List D) (j : Nat) : Env' → M RV := fun _ => match as[j]? with
  | some d => M.pure (.per d)
  | none => M.bad
theorem sh_fld {X : Cx} {fld : Str → List Str} {W : WX} {i j : Nat} {ax : Addr} {ox : Obj} {cl : Value} {dz : Option Addr} {pz : List (Addr × Obj)} {c n f : Str} {fs : List Str} {as : List D} {p pos : Pos} (hfs : fld c = fs) (hj : fs[j]? = some f) (T : XfC X.K (He.ga X.K c)) (hno : PySem.W.findIn X.K (.ref (He.ga X.K c)) f = some none)
    (hz : Zc cl dz ox) (hd : ∃ vz, ox.data = .fields vz) (hN : X.N[i]? = some n) (hv : Vis X.env.scope n) (h1 : (n == ("__debug__" : Str)) = false) (h2 : (n == ("__classdict__" : Str)) = false) :
    PE (X.suite ax ((ax, ox) :: pz)) (.Attribute (.Name n p) f pos) (TH (phX X.K fld i ax cl dz c as) X.K fld W (sFld as j)) := by
  refine PE.imp (pe_xf T hno hz hd (pe_var (i := i) hN hv h1 h2)) fun σ H Q ⟨ρ, st, ca, he, hs, ⟨g1, ⟨g2, d, kvs, vs, e1, e2, lk, hl, r⟩, _⟩, hp⟩ => ?_
  unfold sFld at hp
  cases ha : as[j]? with
  | none => rw [ha] at hp; exact hp.elim
  | some dd =>
    rw [ha] at hp
    obtain ⟨v, hv, rv⟩ := r.get ha
    exact ⟨_, g1, rfl, g2, d, kvs, v, e1, e2, lk j f v (by rw [hfs]; exact hj) hv, Post.now hp hs v rv⟩
/-! ### statements of a suite -/
def THS (Φ : Ph) (K : PySem.W.Frag) (fld : Str → List Str) (H0 : Hp) (ca0 : List Addr) (f : SS) : TS := fun E σ H => ∃ ρ st ca, FrR K H0 ca0 H ca ρ σ ∧ SR K st ca H ∧ Φ.p σ H ca ∧ PostS K fld WF H0 ca0 H ca E (f ρ st)
section
variable {Φ : Ph} {X : Cx} {K : PySem.W.Frag} {fld : Str → List Str} {H0 : Hp} {ca0 : List Addr} {e : Expr} {pos : Pos}
theorem sh_one {s : Stmt} {f : SS} (h : PS X s (THS Φ K fld H0 ca0 f)) : PSs X [s] (THS Φ K fld H0 ca0 (sSeq f sSkip)) := by
  refine PSs.imp (pss_cons h pss_nil) fun D σ H ⟨ρ, st, ca, hf, hs, hφ, hp⟩ => ⟨ρ, st, ca, hf, hs, hφ, ?_⟩
  unfold sSeq at hp
  cases hr : f ρ st with
  | nx ρ' st' => rw [hr] at hp; exact fun σ' ca' H' x hf' hs' => hp σ' ca' H' x hf' hs'
  | _ => rw [hr] at hp; exact hp
theorem sh_ret {f : Env' → M RV} (he : PE X e (TH Φ K fld WF f)) : PS X (.Return (some e) pos) (THS Φ K fld H0 ca0 (sRet f)) := by
  refine PS.imp (ps_ret (TH.kp he)) fun D σ H ⟨ρ, st, ca, hf, hs, hφ, hp⟩ => ⟨ρ, st, ca, hf.env, hs, hφ, (PostS.then hf hp).mono fun d st1 ca1 H1 t1 s1 q v hv => ?_⟩
  exact q.2 v ca1 H1 q.1.stp s1 hv
theorem sh_set {i : Nat} {x : Str} {pos' : Pos} {f : Env' → M RV} (hN : X.N.Nodup) (hi : X.N[i]? = some x) (hx : Loc X.env.scope x) (he : PE X e (TH Φ K fld WF f)) (hw : swapsWith e (some (.Name x pos')) pos.line X.env = pure false)
    (hf : X.fn x = true ∨ X.env.scope.names.lookup x = some .local) : PS X (.Assign [.Name x pos'] e pos) (THS Φ K fld H0 ca0 (sSet i f)) := by
  refine PS.imp (ps_set hN hi hx he hw hf) fun D σ H ⟨ρ, st, ca, hf, hs, hφ, hp⟩ => ⟨ρ, st, ca, hf.env, hs, hφ, (PostS.then hf hp).mono fun r st1 ca1 H1 t1 s1 q v hv => ?_⟩
  obtain ⟨q1, q2⟩ := q
  cases hr : slot r with
  | none => rw [hr] at q2; exact q2.elim
  | some sv =>
    rw [hr] at q2
    exact q2 _ ca1 H1 Fx.refl (hf.store t1 hv hr) s1
theorem sh_pass : PS X (.Pass pos) (THS Φ K fld H0 ca0 sSkip) := PS.imp ps_pass fun D σ H ⟨ρ, st, ca, hf, hs, _, hp⟩ => hp σ ca H Fx.refl hf hs
theorem sh_cnt : PS X (.Continue pos) (THS Φ K fld H0 ca0 sCnt) := PS.imp ps_continue fun D σ H ⟨ρ, st, ca, hf, hs, _, hp⟩ => hp σ ca H Fx.refl hf hs
end
/-! ### try -/
/-- a clause's meaning: its class, the slot of its name, its suite -/
structure Hc where
  x : Str
  /-- a second class beside it -/
  y : Option Str := none
  i : Option Nat
  m : Str → List D → SS
def unset (o : Option Nat) (ρ : Env') : Env' := match o with
  | none => ρ
  | some i => ρ.set i .un
/-- no error leaves a suite -/
def endS (o : Option Nat) : RS → RS
  | .nx ρ st => .nx (unset o ρ) st
  | .bk ρ st => .bk (unset o ρ) st
  | .ct ρ st => .ct (unset o ρ) st
  | .rt d st => .rt d st
  | _ => .bad
def inR (o : Option Nat) (ρ : Env') : Bool := match o with
  | none => true
  | some i => decide (i < ρ.length)
/-- whether the clause takes an error of the class -/
def subH (sub : Str → Str → Option Bool) (c : Str) (h : Hc) : Option Bool := match h.y with
  | none => sub c h.x
  | some y => match sub c h.x, sub c y with
    | some a, some b => some (a || b)
    | _, _ => none
def sHs (sub : Str → Str → Option Bool) (c : Str) (as : List D) : List Hc → SS
  | [] => fun ρ st => .exc c as ρ st
  | h :: hs => match subH sub c h with
    | some true => fun ρ st => if inR h.i ρ = true then endS h.i (h.m c as (unset h.i ρ) st) else .bad
    | some false => sHs sub c as hs
    | none => fun _ _ => .bad
def sTry (sub : Str → Str → Option Bool) (body : SS) (hs : List Hc) : SS := fun ρ st => match body ρ st with
  | .exc c as ρ' st' => sHs sub c as hs ρ' st'
  | r => r
section
variable {K : PySem.W.Frag} {fld : Str → List Str} {W : WX} {H0 : Hp} {ca0 : List Addr} {σ : L2.St} {H : Hp} {ca : List Addr} {ρ : Env'} {st : Store}
theorem FrR.unset1 {i : Nat} {o : Option V} (h : FrR K H0 ca0 H ca ρ σ) : FrR K H0 ca0 H ca (ρ.set i .un) (σ.set i o) := by
  have own : ∀ (j : Nat) (ds : List D), (ρ.set i .un)[j]? = some (.own ds) → j ≠ i ∧ ρ[j]? = some (.own ds) := fun j ds e => by
    by_cases hj : i = j
    · subst hj
      rw [List.getElem?_set] at e
      simp at e
    · rw [List.getElem?_set_ne hj] at e
      exact ⟨fun z => hj z.symm, e⟩
  refine ⟨⟨by simp [h.env.len], fun j s e => ?_, fun j k ds es a hjk e1 e2 e3 => ?_⟩, h.stp, fun j ds a e1 e2 => ?_⟩
  · by_cases hj : i = j
    · subst hj
      by_cases hl : i < ρ.length
      · rw [List.getElem?_set_self hl] at e
        cases e
        exact ⟨o, List.getElem?_set_self (by rw [← h.env.len]; exact hl), trivial⟩
      · rw [List.getElem?_eq_none (by simp; omega)] at e
        cases e
    · rw [List.getElem?_set_ne hj] at e ⊢
      exact h.env.at_ j s e
  · obtain ⟨n1, f1⟩ := own j ds e1
    obtain ⟨n2, f2⟩ := own k es e2
    rw [List.getElem?_set_ne (Ne.symm n1)] at e3
    rw [List.getElem?_set_ne (Ne.symm n2)]
    exact h.env.sep j k ds es a hjk f1 f2 e3
  · obtain ⟨n1, f1⟩ := own j ds e1
    rw [List.getElem?_set_ne (Ne.symm n1)] at e2
    exact h.fresh j ds a f1 e2
/-- a suite's end -/
theorem PostS.asE {i : Nat} {E : Ends} {Hs : Hp} {cs : List Addr} {r : RS} (h : PostS K fld W H0 ca0 Hs cs E (endS (some i) r)) : PostS K fld WF H0 ca0 Hs cs (asE i E) r := by
  cases r with
  | nx ρ st => exact fun σ ca H x f s => h _ ca H x f.unset1 s
  | bk ρ st => exact fun σ ca H x f s => h _ ca H x f.unset1 s
  | ct ρ st => exact fun σ ca H x f s => h _ ca H x f.unset1 s
  | rt d st => exact h
  | exc c as ρ st => exact h.elim
  | bad => exact h
theorem PostS.as0 {E : Ends} {Hs : Hp} {cs : List Addr} {r : RS} (h : PostS K fld W H0 ca0 Hs cs E (endS none r)) : PostS K fld WF H0 ca0 Hs cs E r := by
  cases r with
  | exc c as ρ st => exact h.elim
  | _ => exact h
end
/-- a suite keeps to its meaning, whatever error of the class is caught -/
def SuOk (X : Cx) (fld : Str → List Str) (H0 : Hp) (ca0 : List Addr) (sub : Str → Str → Option Bool) (h : Hc) (ss : List Stmt) : Prop :=
  ∀ (ax : Addr) (ox : Obj) (cl : Value) (dz : Option Addr) (pz : List (Addr × Obj)), Zc cl dz ox → (∃ vz, ox.data = .fields vz) → ∀ (c : Str) (as : List D), subH sub c h = some true → cl = .ref (He.ga X.K c) → match h.i with
    | none => PSs (X.suite ax ((ax, ox) :: pz)) ss (THS ph0 X.K fld H0 ca0 (h.m c as))
    | some i => PSs (X.suite ax ((ax, ox) :: pz)) ss (THS (phX X.K fld i ax cl dz c as) X.K fld H0 ca0 (h.m c as))
/-- the suites' wishes, one clause behind the other -/
def suT (X : Cx) (fld : Str → List Str) (H0 : Hp) (ca0 : List Addr) (sub : Str → Str → Option Bool) (h : Hc) : Addr → Value → Option Addr → TS := fun ax cl dz E σ H => ∃ c as, subH sub c h = some true ∧ cl = .ref (He.ga X.K c) ∧ match h.i with
  | none => THS ph0 X.K fld H0 ca0 (h.m c as) E σ H
  | some i => THS (phX X.K fld i ax cl dz c as) X.K fld H0 ca0 (h.m c as) E σ H
theorem PSs.ex {X : Cx} {ss : List Stmt} {ι : Sort _} {t : ι → TS} (h : ∀ i, PSs X ss (t i)) : PSs X ss (fun D σ H => ∃ i, t i D σ H) := ⟨fun pins s σ H D I ⟨i, q⟩ => (h i).run pins s σ H D I q⟩
theorem suT_ok {X : Cx} {fld : Str → List Str} {H0 : Hp} {ca0 : List Addr} {sub : Str → Str → Option Bool} {h : Hc} {ss : List Stmt} (S : SuOk X fld H0 ca0 sub h ss) (ax : Addr) (ox : Obj) (cl : Value) (dz : Option Addr) (pz : List (Addr × Obj)) (hz : Zc cl dz ox) (hd : ∃ vz, ox.data = .fields vz) :
    PSs (X.suite ax ((ax, ox) :: pz)) ss (suT X fld H0 ca0 sub h ax cl dz) := by
  refine ⟨fun pins s σ H D I ⟨c, as, h1, h2, q⟩ => ?_⟩
  have := S ax ox cl dz pz hz hd c as h1 h2
  cases hi : h.i with
  | none => rw [hi] at this q; exact this.run pins s σ H D I q
  | some i => rw [hi] at this q; exact this.run pins s σ H D I q
/-- a clause of the text beside its meaning -/
inductive HcOk (X : Cx) (fld : Str → List Str) (H0 : Hp) (ca0 : List Addr) (sub : Str → Str → Option Bool) : List ExceptHandler → List Hc → Prop
  | nil : HcOk X fld H0 ca0 sub [] []
  | cons {h : Hc} {nm : Option Str} {st0 : Stmt} {sts : List Stmt} {np pos : Pos} {hds : List ExceptHandler} {hs : List Hc} (hy : h.y = none) (hc : Names X h.x (.ref (He.ga X.K h.x))) (ha : AsOk X nm h.i) (S : SuOk X fld H0 ca0 sub h (st0 :: sts)) (r : HcOk X fld H0 ca0 sub hds hs) :
      HcOk X fld H0 ca0 sub (.ExceptHandler (some (.Name h.x np)) nm (st0 :: sts) pos :: hds) (h :: hs)
  | two {h : Hc} {y : Str} {nm : Option Str} {st0 : Stmt} {sts : List Stmt} {p1 p2 tp pos : Pos} {kk : Nat} {hds : List ExceptHandler} {hs : List Hc} (hy : h.y = some y) (hc : Names X h.x (.ref (He.ga X.K h.x))) (hc2 : Names X y (.ref (He.ga X.K y))) (ha : AsOk X nm h.i) (S : SuOk X fld H0 ca0 sub h (st0 :: sts)) (r : HcOk X fld H0 ca0 sub hds hs) :
      HcOk X fld H0 ca0 sub (.ExceptHandler (some (.Tuple [.Name h.x p1, .Name y p2] kk tp)) nm (st0 :: sts) pos :: hds) (h :: hs)
section
variable {X : Cx} {fld : Str → List Str} {W : WX} {H0 : Hp} {ca0 : List Addr} {sub : Str → Str → Option Bool}
def toCla (X : Cx) (fld : Str → List Str) (H0 : Hp) (ca0 : List Addr) (sub : Str → Str → Option Bool) (h : Hc) : Cla := ⟨match h.y with
  | none => [.ref (He.ga X.K h.x)]
  | some y => [.ref (He.ga X.K h.x), .ref (He.ga X.K y)], h.i, suT X fld H0 ca0 sub h⟩
theorem HcOk.cla {hds : List ExceptHandler} {hs : List Hc} (h : HcOk X fld H0 ca0 sub hds hs) : ClaOk X hds (hs.map (toCla X fld H0 ca0 sub)) := by
  induction h with
  | nil => exact .nil
  | cons hy hc ha S r ih => exact .cons (q := toCla X fld H0 ca0 sub _) (by unfold toCla; rw [hy]; exact .one hc) ha (fun ax ox cl dz pz hz hd => suT_ok S ax ox cl dz pz hz hd) ih
  | two hy hc hc2 ha S r ih => exact .cons (q := toCla X fld H0 ca0 sub _) (by unfold toCla; rw [hy]; exact .two hc hc2) ha (fun ax ox cl dz pz hz hd => suT_ok S ax ox cl dz pz hz hd) ih
theorem wCl_of (hx : ∀ x y b, sub x y = some b → PySem.W.exmOne X.K (.ref (He.ga X.K x)) (.ref (He.ga X.K y)) = some b) {E : Ends} {Hs : Hp} {cs : List Addr} {c : Str} {as : List D} {cl : Value} {dz : Option Addr} {σ : L2.St} {H : Hp} {ca : List Addr} {ρ : Env'} {st : Store} :
    ∀ {hs : List Hc}, Fx Hs cs H ca → FrR X.K H0 ca0 H ca ρ σ → SR X.K st ca H → ExR X.K fld H ca c as cl dz → PostS X.K fld W H0 ca0 Hs cs E (sHs sub c as hs ρ st) → wCl X.K W E (hs.map (toCla X fld H0 ca0 sub)) cl dz σ H
  | [], x, hf, hs, ex, q => q cl dz σ ca H x hf hs ex
  | h :: hs, x, hf, hsr, ex, q => by
    have ecl := ex.1
    unfold sHs at q
    cases hb : subH sub c h with
    | none => rw [hb] at q; exact q.elim
    | some b =>
      rw [hb] at q
      have hany : PySem.W.exmAny X.K cl (toCla X fld H0 ca0 sub h).cs = some b := by
        rw [ecl]
        unfold subH at hb
        unfold toCla
        cases hy : h.y with
        | none =>
          rw [hy] at hb
          show PySem.W.exmAny X.K (.ref (He.ga X.K c)) [.ref (He.ga X.K h.x)] = some b
          unfold PySem.W.exmAny
          rw [hx _ _ _ hb]
          show some (b || false) = some b
          rw [Bool.or_false]
        | some y =>
          rw [hy] at hb
          have hb : (match sub c h.x, sub c y with
            | some a, some b => some (a || b)
            | _, _ => none) = some b := hb
          show PySem.W.exmAny X.K (.ref (He.ga X.K c)) [.ref (He.ga X.K h.x), .ref (He.ga X.K y)] = some b
          cases h1 : sub c h.x with
          | none => rw [h1] at hb; cases hb
          | some b1 =>
            cases h2 : sub c y with
            | none => rw [h1, h2] at hb; cases hb
            | some b2 =>
              rw [h1, h2] at hb
              cases hb
              unfold PySem.W.exmAny
              rw [hx _ _ _ h1]
              unfold PySem.W.exmAny
              rw [hx _ _ _ h2]
              show some (b1 || (b2 || false)) = some (b1 || b2)
              rw [Bool.or_false]
      refine ⟨b, hany, fun e ax na => ?_, fun e => ?_⟩
      · subst e
        show claW (toCla X fld H0 ca0 sub h) E ax cl dz σ H
        unfold claW toCla
        dsimp only at q ⊢
        split at q
        · rename_i hin
          cases hi : h.i with
          | none =>
            rw [hi] at q
            refine ⟨c, as, hb, ecl, ?_⟩
            rw [hi]
            exact ⟨ρ, st, ca, hf, hsr, trivial, PostS.mv x (PostS.as0 q)⟩
          | some i =>
            rw [hi] at q hin
            refine ⟨c, as, hb, ecl, ?_⟩
            rw [hi]
            have hil : i < ρ.length := of_decide_eq_true hin
            exact ⟨_, st, ca, hf.unset1, hsr, ⟨List.getElem?_set_self (by rw [← hf.env.len]; exact hil), ex, ex.notin hsr⟩, PostS.mv x (PostS.asE q)⟩
        · exact q.elim
      · subst e
        exact wCl_of hx x hf hsr ex q
theorem ss_try {body : List Stmt} {h0 : ExceptHandler} {hds : List ExceptHandler} {hs : List Hc} {pos : Pos} {f : SS} (hst : X.stack = X.env :: X.outer) (hfz : X.env.frame = some X.env.locals) (tk : Takes X W) (hx : ∀ x y b, sub x y = some b → PySem.W.exmOne X.K (.ref (He.ga X.K x)) (.ref (He.ga X.K y)) = some b)
    (hb : ∀ (Wz : WX) (pz : List (Addr × Obj)) (xz : Value → Shared → Prop), Takes (X.tr pz xz) Wz → PassesOwn (model X.prog X.w) X.A X.env xz → PSs (X.tr pz xz) body (TSt X.K fld Wz H0 ca0 f)) (hh : HcOk X fld H0 ca0 sub (h0 :: hds) hs) :
    PS X (.Try body (h0 :: hds) [] [] pos) (TSt X.K fld W H0 ca0 (sTry sub f hs)) := by
  refine ⟨fun pins s σ H D I ⟨ρ, st, ca, hf, hsr, hp⟩ => ?_⟩
  refine (ps_try_cl hst hfz tk hb hh.cla).run pins s σ H D I ⟨ρ, st, ca, hf, hsr, ?_⟩
  unfold sTry at hp
  cases hr : f ρ st with
  | exc c as ρ' st' =>
    rw [hr] at hp
    intro cls dd σ1 ca1 H1 x1 f1 s1 ex
    exact wCl_of hx x1 f1 s1 ex hp
  | _ => rw [hr] at hp; exact hp
end
end Ev
/-! isinstance of a caught error that has a dict. -/
namespace PySem.W
open PySem PySem.Spec PySem.Calls PyProof.Rows
section
variable {prog : Program} {w : World} {A : Around} {E : Value → Shared → Prop} {s : Shared} {K : Frag} {x D : Addr} {ox : Obj} {od : Option Obj}
theorem kitx_some {v t : Value} {H : Option Obj → Heap → Prop} (h : ∀ od, KitX K v t (H od)) : KitX K v t (fun hp => ∃ od, H od hp) :=
  ⟨fun M hp X ⟨od, I⟩ => (h od).ty M hp X I, fun M hp X ⟨od, I⟩ => (h od).it M hp X I, fun hp tp dd its n sl X q => (h none).ne hp tp dd its n sl X q, fun X ⟨od, I⟩ k => (h od).ca X I k⟩
theorem kitx_excG (hga : findIn K (.ref D) "__getattribute__" = some (some (.builtin "BaseException.__getattribute__"))) (hgt : findIn K (.ref D) "__getattr__" = some none) (hsub : subIn K (.ref D) (.type "BaseException") = some true) (hdct : hasDictIn K D = true) (ha : findIn K (.ref D) "__class__" = some (some (.builtin "object.__class__")))
    (hn : specialIn K (.builtin "object.__class__") "__get__" = some (some (.builtin "getset_descriptor.__get__"))) (htk : takesIn K (.builtin "object.__class__") = some true) (hm : mroIn K D (.type "object") = some true) :
    KitX K (.ref x) (.ref D) (fun h => ∃ od, InstAt h x ox D od) :=
  kitx_some fun od => kitx_exc (od := od) (by obtain ⟨cd, hc, _⟩ := any_some hdct; rw [hc]; rfl) hga hgt hsub ha hn htk hm
end
end PySem.W
namespace Ev
open PySem PySem.Spec PyProof.Rows L2
variable [Tbs] [Hnd]
def excCB (K : PySem.W.Frag) (D : Addr) : Bool := decide (PySem.W.findIn K (.ref D) "__getattribute__" = some (some (.builtin "BaseException.__getattribute__"))) && (decide (PySem.W.findIn K (.ref D) "__getattr__" = some none) && (decide (PySem.W.subIn K (.ref D) (.type "BaseException") = some true) && (PySem.W.hasDictIn K D &&
  (decide (PySem.W.findIn K (.ref D) "__class__" = some (some (.builtin "object.__class__"))) && (decide (PySem.W.specialIn K (.builtin "object.__class__") "__get__" = some (some (.builtin "getset_descriptor.__get__"))) && (decide (PySem.W.takesIn K (.builtin "object.__class__") = some true) && decide (PySem.W.mroIn K D (.type "object") = some true)))))))
theorem excCB_ok {K : PySem.W.Frag} {D : Addr} (h : excCB K D = true) : ExcC K D := by
  unfold excCB at h
  simp only [Bool.and_eq_true, decide_eq_true_eq] at h
  obtain ⟨h1, h2, h3, h4, h5, h6, h7, h8⟩ := h
  exact ⟨h1, h2, h3, h4, h5, h6, h7, h8⟩
/-- a class as isinstance's second argument: of the module, or of Python's own -/
def isOwnT (y : Str) : Bool := y == ("ValueError" : Str)
def ckV (K : PySem.W.Frag) (y : Str) : Value := if isOwnT y = true then .type "ValueError" else .ref (He.ga K y)
def kitB (K : PySem.W.Frag) (p : (Str × Str) × Bool) : Bool := excCB K (He.ga K p.1.1) && decide (PySem.W.kitOne K (.ref (He.ga K p.1.1)) (ckV K p.1.2) = some p.2)
def tkLook (c y : Str) : Option Bool := (Tbs.tk.find? fun p => decide (p.1.1 = c) && decide (p.1.2 = y)).map (·.2)
theorem tk_ok {K : PySem.W.Frag} (hk : ∀ p ∈ Tbs.tk, kitB K p = true) {c y : Str} {b : Bool} (h : tkLook c y = some b) : ExcC K (He.ga K c) ∧ PySem.W.kitOne K (.ref (He.ga K c)) (ckV K y) = some b := by
  unfold tkLook at h
  obtain ⟨p, hp, e⟩ := Option.map_eq_some_iff.mp h
  have hm := List.mem_of_find?_eq_some hp
  have hq := List.find?_some hp
  simp only [Bool.and_eq_true, decide_eq_true_eq] at hq
  have q := hk p hm
  unfold kitB at q
  rw [Bool.and_eq_true] at q
  rw [hq.1, hq.2, e] at q
  exact ⟨excCB_ok q.1, of_decide_eq_true q.2⟩
theorem call_isG {X : Cx} {a D : Addr} {oe : Obj} {dz : Option Addr} {pn : List (Addr × Obj)} (C : ExcC X.K D) (hz : Zc (.ref D) dz oe) (hf : ∃ vs, oe.data = .fields vs) : CallR (X.suite a ((a, oe) :: pn)) (.builtin "isinstance") (fun xs H Q => rIsE X.K D a xs H Q ∧ ∀ d, dz = some d → ∃ fs, H d = some (.xd fs)) := by
  intro pins s σ H xs us Q I r ⟨h, hd⟩
  obtain ⟨c, cv, b, rfl, hcv, e, q⟩ := h
  cases r with
  | cons rx rr =>
    cases rr with
    | cons rt rr =>
      cases rr
      cases rx
      have ec := hcv _ rt
      subst ec
      obtain ⟨hget, _⟩ := I.pin (a, oe) (List.mem_append.mpr (.inl List.mem_cons_self))
      obtain ⟨vs, hv⟩ := hf
      have J : ∃ od, PySem.W.InstAt s.heap a oe D od := by
        obtain ⟨oc, od, oda, osl⟩ := oe
        obtain ⟨h1, h2⟩ := hz
        dsimp only at h1 h2 hv
        subst h1 h2 hv
        cases od with
        | none => exact ⟨none, hget, rfl, rfl, trivial⟩
        | some d =>
          obtain ⟨fs, hfs⟩ := hd d rfl
          obtain ⟨_, ⟨o, _, _, ho, _⟩, _⟩ := I.hok d _ hfs
          exact ⟨some o, hget, rfl, rfl, ho⟩
      exact PySem.W.kia_one (PySem.W.kitx_excG C.hg C.hk C.hs C.hd C.ha C.hn C.ht C.hm) I.kIn J e (fun z => nomatch z) fun tk => ⟨.bl b, H, I.kept (t' := tk) fun _ _ z => z, rfl, q⟩
/-- isinstance(n, y), n the caught error -/
theorem sh_is {X : Cx} {fld : Str → List Str} {i : Nat} {ax : Addr} {ox : Obj} {cl : Value} {dz : Option Addr} {pz : List (Addr × Obj)} {c n y : Str} {as : List D} {np yp p pos : Pos} {b : Bool} (hk : ∀ p ∈ Tbs.tk, kitB X.K p = true) (hb : tkLook c y = some b) (ecl : cl = .ref (He.ga X.K c))
    (hgI : Gl X "isinstance") (hmI : X.mg "isinstance" = none) (hy : Names X y (ckV X.K y)) (hz : Zc cl dz ox) (hd : ∃ vz, ox.data = .fields vz) (hN : X.N[i]? = some n) (hv : Vis X.env.scope n) (h1 : (n == ("__debug__" : Str)) = false) (h2 : (n == ("__classdict__" : Str)) = false) :
    PE (X.suite ax ((ax, ox) :: pz)) (.Call (.Name "isinstance" p) [.Name n np, .Name y yp] [] pos) (TH (phX X.K fld i ax cl dz c as) X.K fld WF (sC (.bl b))) := by
  subst ecl
  obtain ⟨C, e⟩ := tk_ok hk hb
  have py : ∃ v : V, (∀ u, RelV v u → u = ckV X.K y) ∧ PE (X.suite ax ((ax, ox) :: pz)) (.Name y yp) (tC v) := by
    obtain ⟨hgy, hdby, hmy | ⟨hmy, hvy, hny⟩⟩ := hy
    · unfold ckV at hmy ⊢
      by_cases ho : isOwnT y = true
      · rw [if_pos ho] at hmy ⊢
        exact ⟨.ty "ValueError", fun u r => r, pe_glob (X := X.suite ax ((ax, ox) :: pz)) hgy hmy rfl hdby⟩
      · rw [if_neg ho] at hmy ⊢
        exact ⟨.ref (He.ga X.K y), fun u r => r, pe_glob (X := X.suite ax ((ax, ox) :: pz)) hgy hmy rfl hdby⟩
    · unfold ckV at hvy ⊢
      by_cases ho : isOwnT y = true
      · rw [if_pos ho] at hvy ⊢
        exact ⟨.ty "ValueError", fun u r => r, pe_bltn (X := X.suite ax ((ax, ox) :: pz)) hgy hmy hvy rfl hny hdby⟩
      · rw [if_neg ho] at hvy ⊢
        exact ⟨.ref (He.ga X.K y), fun u r => r, pe_bltn (X := X.suite ax ((ax, ox) :: pz)) hgy hmy hvy rfl hny hdby⟩
  obtain ⟨v, hv1, pv⟩ := py
  refine PE.imp (pe_callB (X := X.suite ax ((ax, ox) :: pz)) (call_isG C hz hd) hgI hmI rfl (pa_cons (pe_var (X := X.suite ax ((ax, ox) :: pz)) (i := i) hN hv h1 h2) (pa_cons pv pa_nil rfl) rfl)) fun σ H Q ⟨ρ, st, ca, he, hs, ⟨g1, ⟨g2, d, kvs, vs, e1, e2, lk, hl, r⟩, _⟩, hp⟩ => ?_
  refine ⟨.ref ax, g1, ?_⟩
  refine ⟨⟨v, _, b, rfl, hv1, e, Post.now hp hs (.bl b) rfl⟩, fun d' hd' => ?_⟩
  rw [e1] at hd'
  cases hd'
  exact ⟨kvs, e2⟩
/-! ### suites of several statements -/
def THt (Φ : Ph) (K : PySem.W.Frag) (fld : Str → List Str) (W : WX) (f : Env' → M Bool) : TT := fun σ H Q => ∃ ρ st ca, EnvR K H ca ρ σ ∧ SR K st ca H ∧ Φ.p σ H ca ∧ Post K fld W σ H ca (fun b _ _ H' => Q b H') (f ρ st)
section
variable {Φ : Ph} {X : Cx} {fld : Str → List Str} {W : WX} {e a b c : Expr} {pos : Pos}
theorem sh_tru {f : Env' → M RV} (ha : PE X e (TH Φ X.K fld W f)) (he : ∀ whole, isTrue e X.env whole = (do let v ← whole; standAt e.pos; holding [v] (truthy v))) : PT X e (THt Φ X.K fld W (sTru f)) := by
  refine PT.imp (pt_truth ha he) fun σ H Q ⟨ρ, st, ca, he, hs, hφ, hp⟩ => ⟨ρ, st, ca, he, hs, hφ, (Post.bind hp).mono fun r st1 ca1 H1 t1 s1 q v hv => ?_⟩
  obtain ⟨k, e, q⟩ := q.opt' s1
  exact ⟨k, tru_of s1 hv e, q⟩
theorem sh_if {t : Env' → M Bool} {f g : Env' → M RV} (hc : PT X c (THt Φ X.K fld W t)) (ha : PE X a (TH Φ X.K fld W f)) (hb : PE X b (TH Φ X.K fld W g)) : PE X (.IfExp c a b pos) (TH Φ X.K fld W (sIf t f g)) := by
  refine PE.imp (pe_ifExp hc ha hb) fun σ H Q ⟨ρ, st, ca, he, hs, hφ, hp⟩ => ⟨ρ, st, ca, he, hs, hφ, (Post.bind hp).mono fun k st1 ca1 H1 t1 s1 q => ?_⟩
  cases k with
  | true => exact ⟨ρ, st1, ca1, he.stp t1, s1, Φ.st _ _ _ _ _ t1 hφ, q.mono fun r2 st2 ca2 H2 t2 s2 q w hw => q w (hw.back t1)⟩
  | false => exact ⟨ρ, st1, ca1, he.stp t1, s1, Φ.st _ _ _ _ _ t1 hφ, q.mono fun r2 st2 ca2 H2 t2 s2 q w hw => q w (hw.back t1)⟩
theorem sh_ix {op : D → D → Option RV} {f g : Env' → M D} (hr : IxR X (rO X.K op)) (ha : PE X a (THr Φ X.K fld W f)) (hb : PE X b (THr Φ X.K fld W g)) (hs : PlainIx b) : PE X (.Subscript a b pos) (TH Φ X.K fld W (sBin op f g)) := by
  refine PE.imp (pe_ix hr ha hb hs) fun σ H Q ⟨ρ, st, ca, he, hs, hφ, hp⟩ => ⟨ρ, st, ca, he, hs, hφ, (Post.bind hp).mono fun d st1 ca1 H1 t1 s1 q v hv => ?_⟩
  refine ⟨ρ, st1, ca1, he.stp t1, s1, Φ.st _ _ _ _ _ t1 hφ, (Post.bind q).mono fun d2 st2 ca2 H2 t2 s2 q w hw => ?_⟩
  obtain ⟨r, e, g⟩ := q.rdr (t1.trans t2)
  exact ⟨ca2, st2, _, _, r, s2, (hv.stp t2).x s2, hw.x s2, e, g⟩
theorem sh_and {f g : Env' → M RV} {rest : List Expr} (ha : PE X a (TH Φ X.K fld W f)) (hb : PE X (.BoolOp .And (b :: rest) pos) (TH Φ X.K fld W g)) : PE X (.BoolOp .And (a :: b :: rest) pos) (TH Φ X.K fld W (sAndV f g)) := by
  refine PE.imp (pe_andT ha hb) fun σ H Q ⟨ρ, st, ca, he, hs, hφ, hp⟩ => ⟨ρ, st, ca, he, hs, hφ, (Post.bind hp).mono fun r st1 ca1 H1 t1 s1 q v hv => ?_⟩
  obtain ⟨k, e, q⟩ := (Post.bind q).opt' s1
  refine ⟨k, tru_of s1 hv e, ?_⟩
  cases k with
  | true => exact ⟨ρ, st1, ca1, he.stp t1, s1, Φ.st _ _ _ _ _ t1 hφ, q.mono fun r2 st2 ca2 H2 t2 s2 q w hw => q w (hw.back t1)⟩
  | false => exact Post.now q s1 v hv
theorem sh_one' {o : BoolOp} {f : Env' → M RV} (h : PE X a (TH Φ X.K fld W f)) : PE X (.BoolOp o [a] pos) (TH Φ X.K fld W f) := pe_one h
end
section
variable {X : Cx} {K : PySem.W.Frag} {fld : Str → List Str} {H0 : Hp} {ca0 : List Addr} {e : Expr} {pos : Pos}
/-- what is known of the error stays where another name is set -/
def PhSet (Φ : Ph) (j : Nat) : Prop := ∀ (σ : L2.St) (H : Hp) (ca : List Addr) (v : Option V), Φ.p σ H ca → Φ.p (σ.set j v) H ca
theorem phset_0 {j : Nat} : PhSet ph0 j := fun _ _ _ _ _ => trivial
theorem phset_X {K : PySem.W.Frag} {fld : Str → List Str} {i j : Nat} {ax : Addr} {cl : Value} {dz : Option Addr} {c : Str} {as : List D} (h : j ≠ i) : PhSet (phX K fld i ax cl dz c as) j := fun σ H ca v ⟨h1, h2⟩ => ⟨by rw [List.getElem?_set_ne h]; exact h1, h2⟩
theorem sh_setc {Φ : Ph} {i : Nat} {x : Str} {pos' : Pos} {f : Env' → M RV} {g : SS} {ss : List Stmt} (hset : PhSet Φ i) (hN : X.N.Nodup) (hi : X.N[i]? = some x) (hx : Loc X.env.scope x) (he : PE X e (TH Φ K fld WF f)) (hw : swapsWith e (some (.Name x pos')) pos.line X.env = pure false)
    (hf : X.fn x = true ∨ X.env.scope.names.lookup x = some .local) (hr : PSs X ss (THS Φ K fld H0 ca0 g)) : PSs X (.Assign [.Name x pos'] e pos :: ss) (THS Φ K fld H0 ca0 (sSeq (sSet i f) g)) := by
  refine PSs.imp (pss_cons (ps_set hN hi hx he hw hf) hr) fun D σ H ⟨ρ, st, ca, hf, hs, hφ, hp⟩ => ?_
  refine ⟨ρ, st, ca, hf.env, hs, hφ, ?_⟩
  unfold sSeq sSet thenS at hp
  cases hF : f ρ st with
  | bad => rw [hF] at hp; exact hp.elim
  | exc c as st1 => rw [hF] at hp; exact fun cls dd ca' H' t s x => (hp cls dd σ ca' H' t.fx (hf.go t) s x).elim
  | ok r st1 =>
    rw [hF] at hp
    intro ca1 H1 t1 s1 v hv
    dsimp only at hp
    cases hr : slot r with
    | none => rw [hr] at hp; exact hp.elim
    | some sv =>
      rw [hr] at hp
      exact ⟨ρ.set i sv, st1, ca1, hf.store t1 hv hr, s1, hset _ _ _ _ (Φ.st _ _ _ _ _ t1 hφ), PostS.mv t1.fx hp⟩
end
end Ev
/-! The making of a lambda that may have one name with a number as its default. -/
namespace Ev
open PySem PySem.Spec PyProof.Rows L2 LamX
variable [Tbs] [Hnd]
/-- a lambda's names of its own -/
inductive LPar where
  | no | one (x : Str) (i : Int)
abbrev lmFn (q : Str) (params : Arguments) (body : Expr) (scope : Scope) (cl : List (Str × Addr)) (pm : Value × Value) (dV cv ctv : Value) : FuncData := PySem.W.kdv_fn "<lambda>" q params (.expr body) scope cl dV pm.2 pm.1 cv ctv
abbrev lmObj (q : Str) (params : Arguments) (body : Expr) (scope : Scope) (cl : List (Str × Addr)) (pm : Value × Value) (dV : Value) (c' : Addr) (ctv : Value) : Obj := { cls := .type "function", data := .func (lmFn q params body scope cl pm dV (.ref c') ctv) }
/-- the value of the defaults -/
def DvS (h : Heap) (dV : Value) : LPar → Prop
  | .no => dV = .none
  | .one _ i => ∃ d t, dV = .ref d ∧ h.get? d = some { cls := .type "tuple", data := .seq #[.int i t] }
def DvAt (h : Heap) (H : Hp) (fr : List Addr) (dV : Value) : LPar → Prop
  | .no => dV = .none
  | .one _ i => ∃ d t, dV = .ref d ∧ h.get? d = some { cls := .type "tuple", data := .seq #[.int i t] } ∧ H d = none ∧ d ∉ fr
def LDef (params : Arguments) (env : Env) : LPar → Prop
  | .no => defaultsOf params env = ([], [])
  | .one _ i => ∃ j p, defaultsOf params env = ([eval (.Constant (.int i) j p) env], [])
/-- what the lambda's call binds -/
def LBind (params : Arguments) (lp : LPar) : Prop := ∀ (M : Model) (A : Around) (E : Value → Shared → Prop) (s : Shared) (q : Str) (body : Expr) (scope : Scope) (cl : List (Str × Addr)) (pm : Value × Value) (dV cv ctv : Value) (Q : List (Str × Value) → Shared → Prop), DvS s.heap dV lp →
  (match lp with
    | .no => Q [] s
    | .one x i => ∀ t, Q [(x, .int i t)] s) → wpAny M A (bindArgs (lmFn q params body scope cl pm dV cv ctv) ⟨[], []⟩) Q E s
theorem lbind_no : LBind ⟨[], [], none, [], [], none, []⟩ .no := fun M A E s q body scope cl pm dV cv ctv Q hd h => by
  obtain rfl : dV = .none := hd
  have e : bindArgs (lmFn q ⟨[], [], none, [], [], none, []⟩ body scope cl pm .none cv ctv) ⟨[], []⟩ = pure [] := rfl
  rw [e]
  exact wpAny_pure h
theorem lbind_one {a : Arg} {d : Expr} {i : Int} : LBind ⟨[], [a], none, [], [], none, [d]⟩ (.one a.arg i) := fun M A E s q body scope cl pm dV cv ctv Q hd h => by
  obtain ⟨d0, t, rfl, hg⟩ := hd
  have h : ∀ t, Q [(a.arg, .int i t)] s := h
  unfold bindArgs
  simp only [List.map_nil, List.nil_append, List.map_cons, List.zip_nil_right, List.length_nil, List.length_cons]
  refine wpAny_bind (wpAny_pure ?_)
  refine wpAny_bind (wpAny_seqItems hg rfl ?_)
  refine wpAny_pure ?_
  have e : List.lookup a.arg [(a.arg, Value.int i t)] = some (Value.int i t) := by simp [List.lookup]
  show Q (List.filterMap (fun n => Option.map (fun x => (n, x)) (List.lookup n [(a.arg, Value.int i t)])) [a.arg]) s
  simp only [List.filterMap_cons, List.filterMap_nil, e, Option.map_some]
  exact h t
section
variable {M : Model} {A : Around} {E : Value → Shared → Prop} {s : Shared} {qual : Str} {params : Arguments} {body : Expr} {scope : Scope} {env : Env} {c P : Addr} {ps : Array Value} {pos : Pos} {fl : Nat} {mg : Str → Option Value} {clos : List (Str × Addr)} {dV : Value} {Q : Value → Shared → Prop}
theorem lm_tail (hcl : closureFor scope env = pure clos) (hge0 : env.globals = mainGlobals) (hg : s.heap.Ns mainGlobals mg) (hcode : env.code = .ref c) (C : PySem.W.CodeHd s.heap c P) (hP : s.heap.get? P = some (PySem.W.tabObj ps)) (ht : TriplesOk ps.toList) (hgP : mainGlobals ≠ P) (hb : s.heap.BuiltinsAt mg P)
    (h1 : codeAmong pos ps.toList = none → ∀ (c' : Addr) (ctv doc : Value) (h' : Heap) (tk : Tok), Heap.ExtBut P s.heap h' → s.heap.objs.size ≤ c' → c' < h'.objs.size → h'.CodeRec (.ref c') qual → h'.get? P = some (PySem.W.tabObj (ps ++ #[rawInt pos.line, rawInt pos.col, .ref c'])) → Q (.ref h'.objs.size) { s with heap := h'.push (lmObj qual params body scope clos ((mg "__name__").getD .none, doc) dV c' ctv), toks := tk })
    (h2 : ∀ cv, codeAmong pos ps.toList = some cv → ∀ (ctv doc : Value) (h' : Heap) (tk : Tok), (∀ b o, s.heap.get? b = some o → h'.get? b = some o) → s.heap.objs.size ≤ h'.objs.size → Q (.ref h'.objs.size) { s with heap := h'.push { cls := .type "function", data := .func (lmFn qual params body scope clos ((mg "__name__").getD .none, doc) dV cv ctv) }, toks := tk }) :
    wpAny M A (makeTail "<lambda>" qual params (.expr body) scope env dV .none none pos fl) Q E s := by
  cases hf : codeAmong pos ps.toList with
  | none => exact PySem.W.kdv_makeTail hcl hge0 hg hcode C hP ht hf hgP hb (h1 hf)
  | some cv => exact PySem.W.kdv_makeTailHit hcl hge0 hg hcode C hP ht hf hb (h2 cv hf)
end
section
variable {X : Cx} {pins : List (Addr × Obj)} {σ : L2.St} {H : Hp} {s : Shared}
theorem lm_nofr (I : Inv X pins σ H s) {f : Addr} (hf : s.heap.objs.size ≤ f) : f ∉ frs X.stack := fun z => by
  rcases List.mem_cons.mp (I.stkSub _ z) with e | e
  · have h1 := I.lt
    rw [← e] at h1
    exact Nat.lt_irrefl _ (Nat.lt_of_lt_of_le h1 hf)
  · exact I.nofs hf e
/-- the tables behind a new code object: P's has one row more -/
theorem tabs_row {T : List (Addr × Str)} {P c' : Addr} {q : Str} {ps : Array Value} {pos : Pos} (tabs : Tabs T H) (atP : H P = some (.tbl ps)) (new : H c' = none) (triples : TriplesOk ps.toList)
    (codes : ∀ (at_ : Pos) (cv : Value), codeAmong at_ ps.toList = some cv → ∃ c, cv = .ref c ∧ H c = some (CodeO c q)) (one : ∀ p ∈ T, p.1 = P → p.2 = q) :
    ExtN H (upd (upd H P (.tbl (ps ++ #[rawInt pos.line, rawInt pos.col, .ref c']))) c' (CodeO c' q)) ∧ Tabs T (upd (upd H P (.tbl (ps ++ #[rawInt pos.line, rawInt pos.col, .ref c']))) c' (CodeO c' q)) := by
  have old : ∀ b o, H b = some o → b ≠ P → upd (upd H P (.tbl (ps ++ #[rawInt pos.line, rawInt pos.col, .ref c']))) c' (CodeO c' q) b = some o := by
    intro b o was other
    have away : b ≠ c' := by
      rintro rfl
      rw [new] at was
      cases was
    rw [upd_ne away, upd_ne other]
    exact was
  have ext : ExtN H (upd (upd H P (.tbl (ps ++ #[rawInt pos.line, rawInt pos.col, .ref c']))) c' (CodeO c' q)) := fun b o was no => old b o was (by
    rintro rfl
    rw [atP] at was
    cases was
    exact no ps rfl)
  refine ⟨ext, fun r hr => ?_⟩
  by_cases same : r.1 = P
  · have apart : P ≠ c' := by
      rintro rfl
      rw [new] at atP
      cases atP
    have rows : (ps ++ #[rawInt pos.line, rawInt pos.col, .ref c']).toList = ps.toList ++ [rawInt pos.line, rawInt pos.col, .ref c'] := by simp
    rw [one r hr same, same]
    refine ⟨_, (upd_ne apart).trans upd_same, rows ▸ PySem.TriplesOk_snoc _ _ _ _ triples, fun at_ cv found => ?_⟩
    rw [rows] at found
    exact (among_app _ triples found).elim (fun was => (codes at_ cv was).imp fun d w => ⟨w.1, ext d _ w.2 codeO_ne⟩) fun now => ⟨c', now, upd_same⟩
  · obtain ⟨rs, w1, w2, w3⟩ := tabs r hr
    exact ⟨rs, old _ _ w1 same, w2, fun at_ cv found => (w3 at_ cv found).imp fun d w => ⟨w.1, ext d _ w.2 codeO_ne⟩⟩
theorem lm_mk0 {T : List (Addr × Str)} {c P : Addr} {params : Arguments} {body : Expr} {scope : Scope} {pos : Pos} {dV : Value} {E : Value → Shared → Prop} {Q : Value → Shared → Prop} (I : Inv X pins σ H s) (TB : TabB X.base X.mg c P) (hcode : X.env.code = .ref c)
    (hm : (P, X.env.qual ++ "<lambda>") ∈ T) (hu : ∀ p ∈ T, p.1 = P → p.2 = X.env.qual ++ "<lambda>") (hT : Tabs T H) (hfree : ∀ y ∈ scope.names, y.2 = .free → ∃ c, X.env.cells.lookup y.1 = some c)
    (h : ∀ (f c' : Addr) (pm : Value × Value) (ctv : Value) (H1 : Hp) (s' : Shared), Inv X pins σ H1 s' → ExtN H H1 → Tabs T H1 → (∀ b, H1 b = none → H b = none) → (∀ b, H b = none → b ≠ c' → H1 b = none) → (∀ b o, b ≠ P → s.heap.get? b = some o → s'.heap.get? b = some o) →
      s'.heap.get? f = some (lmObj (X.env.qual ++ "<lambda>") params body scope (cloFrom X.env.cells scope.names []) pm dV c' ctv) → s.heap.objs.size ≤ f → f ≠ c' → f ∉ frs X.stack → H1 c' = some (CodeO c' (X.env.qual ++ "<lambda>")) → (H c' = none → s.heap.objs.size ≤ c') → Q (.ref f) s') :
    wpAny (model X.prog X.w) X.A (makeTail "<lambda>" (X.env.qual ++ "<lambda>") params (.expr body) scope X.env dV .none none pos pos.line) Q E s := by
  obtain ⟨ps, hP, ht, ha⟩ := hT (P, X.env.qual ++ "<lambda>") hm
  have there : s.heap.get? P = some (PySem.W.tabObj ps) := I.hok P (.tbl ps) hP
  have off : ∀ f, s.heap.objs.size ≤ f → f ∉ frs X.stack := fun _ => lm_nofr I
  refine lm_tail (mg := X.mg) (c := c) (P := P) (ps := ps) (closure_ok hfree) I.ok.glob (I.mod.glob.keeps I.bk) hcode (TB.code.keeps I.bk) there ht TB.gP (TB.bm.keeps I.bk) (fun hc c' ctv doc h' tk hx hge hlt hrec htb => ?_) (fun cv hc ctv doc h' tk hx hsz => ?_)
  · obtain ⟨_, oc, vs, t, its, hoc, hd, hv⟩ := hrec
    cases its
    have hsz : s.heap.objs.size ≤ h'.objs.size := Nat.le_trans hge (Nat.le_of_lt hlt)
    have nC : H c' = none := I.hok.fresh hge
    have up : ∀ {b o} (x : Obj), h'.get? b = some o → (h'.push x).get? b = some o := fun x e => Heap.get?_push_of_some _ e
    have I1 := inv_table (t' := tk) (more := #[rawInt pos.line, rawInt pos.col, .ref c']) (h' := h'.push (lmObj (X.env.qual ++ "<lambda>") params body scope (cloFrom X.env.cells scope.names []) ((X.mg "__name__").getD .none, doc) dV c' ctv)) I hP (fun b o hb e => up _ (hx b o hb e)) (up _ htb) hge ⟨oc, vs, t, up _ hoc, hd, hv⟩
    obtain ⟨hE, hTabs⟩ := tabs_row (pos := pos) hT hP nC ht ha hu
    refine h h'.objs.size c' ((X.mg "__name__").getD .none, doc) ctv _ _ I1 hE hTabs (fun b hb => ?_) (fun b hb hne => ?_) (fun b o hb e => up _ (hx b o hb e)) (Heap.get?_push_size _ rfl) hsz (Nat.ne_of_gt hlt) (off _ hsz) upd_same (fun _ => hge)
    · by_cases z1 : b = c'
      · rw [z1]
        exact nC
      · by_cases z2 : b = P
        · rw [upd_ne z1, z2, upd_same] at hb
          cases hb
        · rw [upd_ne z1, upd_ne z2] at hb
          exact hb
    · rw [upd_ne hne, upd_ne (fun z => by rw [z, hP] at hb; cases hb)]
      exact hb
  · obtain ⟨c', e, hco⟩ := ha pos cv hc
    subst e
    have I1 : Inv X pins σ H { s with heap := h'.push (lmObj (X.env.qual ++ "<lambda>") params body scope (cloFrom X.env.cells scope.names []) ((X.mg "__name__").getD .none, doc) dV c' ctv), toks := tk } := I.kept fun b o e => Heap.get?_push_of_some _ (hx b o e)
    have hc1 : c' < s.heap.objs.size := Nat.lt_of_not_le fun z => by
      rw [I.hok.fresh z] at hco
      cases hco
    exact h h'.objs.size c' ((X.mg "__name__").getD .none, doc) ctv H _ I1 (ExtN.refl H) hT (fun b hb => hb) (fun b hb _ => hb) (fun b o _ e => Heap.get?_push_of_some _ (hx b o e)) (Heap.get?_push_size _ rfl) hsz (fun z => Nat.lt_irrefl _ (Nat.lt_of_lt_of_le hc1 (by rw [← z]; exact hsz))) (off _ hsz) hco (fun z => by rw [hco] at z; cases z)
theorem lm_make {T : List (Addr × Str)} {c P : Addr} {params : Arguments} {body : Expr} {scope : Scope} {pos : Pos} {lp : LPar} {E : Value → Shared → Prop} {Q : Value → Shared → Prop} (I : Inv X pins σ H s) (TB : TabB X.base X.mg c P) (hcode : X.env.code = .ref c)
    (hm : (P, X.env.qual ++ "<lambda>") ∈ T) (hu : ∀ p ∈ T, p.1 = P → p.2 = X.env.qual ++ "<lambda>") (hT : Tabs T H) (hdef : LDef params X.env lp) (hfree : ∀ y ∈ scope.names, y.2 = .free → ∃ c, X.env.cells.lookup y.1 = some c)
    (h : ∀ (f c' : Addr) (pm : Value × Value) (dV ctv : Value) (H1 : Hp) (s' : Shared), Inv X pins σ H1 s' → ExtN H H1 → Tabs T H1 → (∀ b, H1 b = none → H b = none) → DvAt s'.heap H1 (frs X.stack) dV lp →
      s'.heap.get? f = some (lmObj (X.env.qual ++ "<lambda>") params body scope (cloFrom X.env.cells scope.names []) pm dV c' ctv) → H1 f = none → f ∉ frs X.stack → H1 c' = some (CodeO c' (X.env.qual ++ "<lambda>")) → Q (.ref f) s') :
    wpAny (model X.prog X.w) X.A (eval (.Lambda params body scope pos) X.env) Q E s := by
  cases lp with
  | no =>
    have hdef : defaultsOf params X.env = ([], []) := hdef
    refine PySem.W.kla_eval hdef ?_
    rw [makeFunction_eq]
    simp only [List.zip_nil_right, List.filterMap_nil, List.isEmpty_nil, if_true, pure_bind]
    refine lm_mk0 I TB hcode hm hu hT hfree fun f c' pm ctv H1 s' I1 eN T1 dm hfr _ hf hsz hfc hff hco _ => ?_
    exact h f c' pm .none ctv H1 s' I1 eN T1 dm rfl hf (hfr f (I.hok.fresh hsz) hfc) hff hco
  | one x i =>
    obtain ⟨j, p, hdef⟩ := hdef
    rw [arm_eval_Lambda, hdef]
    show wpAny _ _ (do let dv ← evalAll [eval (.Constant (.int i) j p) X.env]; let kdv ← holding dv (evalAllOpt []); makeFunction "<lambda>" (X.env.qual ++ "<lambda>") params (.expr body) scope X.env dv kdv [] pos pos.line) Q E s
    refine wpAny_bind ?_
    show wpAny _ _ (do let v ← eval (.Constant (.int i) j p) X.env; return v :: (← holding [v] (evalAll []))) _ _ s
    refine wpAny_bind (thn ((pe_int (X := X) (i := i) (j := j) (pos := p)).run pins s σ H (fun v H1 => v = .int i ∧ H1 = H) I ⟨rfl, rfl⟩) fun u s1 ⟨v, H1, I1, r1, q1⟩ => ?_)
    obtain ⟨rfl, rfl⟩ := q1
    obtain ⟨t, rfl⟩ := r1
    refine wpAny_bind (wpAny_holding (wpAny_pure (wpAny_pure (wpAny_bind (wpAny_holding (wpAny_pure ?_))))))
    rw [makeFunction_eq]
    simp only [List.zip_nil_right, List.filterMap_nil, List.isEmpty_nil, List.isEmpty_cons, Bool.false_eq_true, if_false, if_true, pure_bind]
    refine wpAny_bind (wpAny_newTextTuple ?_)
    have I2 : Inv X pins σ H1 { s1 with heap := s1.heap.push { cls := .type "tuple", data := .seq #[.int i t] } } := I1.kept fun b o e => Heap.get?_push_of_some _ e
    have hP0 : ∃ ps, H1 P = some (.tbl ps) := let ⟨ps, hP, _⟩ := hT _ hm; ⟨ps, hP⟩
    obtain ⟨ps, hP⟩ := hP0
    have ltP := Heap.lt_size (I1.hok P _ hP)
    have hd0 : H1 s1.heap.objs.size = none := I1.hok.fresh (Nat.le_refl _)
    have hsp : ({ s1 with heap := s1.heap.push { cls := .type "tuple", data := .seq #[.int i t] } } : Shared).heap.objs.size = s1.heap.objs.size + 1 := Heap.size_push ..
    refine lm_mk0 I2 TB hcode hm hu hT hfree fun f c' pm ctv H2 s' I3 eN T1 dm hfr hk hf hsz hfc hff hco hc2 => ?_
    refine h f c' pm (.ref s1.heap.objs.size) ctv H2 s' I3 eN T1 dm ⟨s1.heap.objs.size, t, rfl, hk _ _ (Nat.ne_of_gt ltP) (Heap.get?_push_size _ rfl), ?_, ?_⟩ hf (hfr f (I2.hok.fresh hsz) hfc) hff hco
    · refine hfr _ hd0 fun z => ?_
      have h3 := hc2 (by rw [← z]; exact hd0)
      rw [hsp, ← z] at h3
      omega
    · exact lm_nofr I1 (Nat.le_refl _)
end
/-! ### the lambda's names -/
structure LamL (N : List Str) (lp : LPar) (sc scope : Scope) : Prop where
  kind : scope.kind = .function
  plain : scope.isCoroutine = false ∧ scope.isGenerator = false
  own : ∀ y ∈ scope.names, (y.2 = .local → y.1 ∉ N) ∧ y.2 ≠ .cell
  free : ∀ y ∈ scope.names, y.2 = .free → sc.names.lookup y.1 = some .cell ∨ sc.names.lookup y.1 = some .free
  par : ∀ x i, lp = .one x i → scope.names.lookup x = some .local
def lamLB (N : List Str) (lp : LPar) (sc scope : Scope) : Bool :=
  decide (scope.kind = .function) && !scope.isCoroutine && !scope.isGenerator && (scope.names.all fun y => (!decide (y.2 = .local) || !decide (y.1 ∈ N)) && !decide (y.2 = .cell) && (!decide (y.2 = .free) || decide (sc.names.lookup y.1 = some .cell) || decide (sc.names.lookup y.1 = some .free))) && (match lp with
    | .no => true
    | .one x _ => decide (scope.names.lookup x = some .local))
theorem lamL_by {N : List Str} {lp : LPar} {sc scope : Scope} (h : lamLB N lp sc scope = true) : LamL N lp sc scope := by
  unfold lamLB at h
  simp only [Bool.and_eq_true, Bool.or_eq_true, Bool.not_eq_true', decide_eq_true_eq, decide_eq_false_iff_not, List.all_eq_true] at h
  obtain ⟨⟨⟨⟨h1, h2⟩, h3⟩, h4⟩, h5⟩ := h
  refine ⟨h1, ⟨h2, h3⟩, fun y hy => ⟨fun e => (h4 y hy).1.1.resolve_left fun z => z e, (h4 y hy).1.2⟩, fun y hy e => ?_, fun x i e => ?_⟩
  · rcases (h4 y hy).2 with (z | z) | z
    · exact absurd e z
    · exact .inl z
    · exact .inr z
  · subst e
    simpa using h5
theorem LamL.has {N : List Str} {lp : LPar} {X : Cx} {scope : Scope} (L : LamL N lp X.env.scope scope) (ok : X.Ok) : ∀ y ∈ scope.names, y.2 = .free → ∃ c, X.env.cells.lookup y.1 = some c := fun y hy e => (L.free y hy e).elim (fun k => ok.has _ (.inl k)) fun k => ok.has _ (.inr k)
section
variable {X : Cx} {pins : List (Addr × Obj)} {σ : L2.St} {H HZ : Hp} {s s1 : Shared}
theorem lm_start {lp : LPar} {A : Around} {outer : List Env} {E : XK} {scope : Scope} {f c' : Addr} {h₁ : Heap} {tk : Nat} {nsm : Str → Option Value} (I : Inv X pins σ H s) (L : LamL X.N lp X.env.scope scope) (e0 : Env0 X.prog X.w X.K X.mg X.base A outer s1 HZ) (hd : A.handled = none)
    (un : Un (frs X.stack) [] H HZ s.heap s1.heap) (hns : h₁.Ns s1.heap.objs.size nsm) (kp : ∀ b o, s1.heap.get? b = some o → h₁.get? b = some o) :
    Inv (lamCx X A outer s1 HZ E scope f c') [] σ HZ { s1 with heap := h₁, toks := tk } := by
  have given := L.has I.ok
  have back : ∀ {y c}, (cloFrom X.env.cells scope.names []).lookup y = some c → X.env.cells.lookup y = some c := by
    intro y c found
    rcases cloFrom_mem (PySem.mem_of_lookup found) with no | ⟨isFree, is⟩
    · cases no
    · obtain ⟨d, hd⟩ := given _ isFree rfl
      have hd : X.env.cells.lookup y = some d := hd
      rw [is, hd] <;> rfl
  have front : ∀ {y}, scope.names.lookup y = some .free → ∃ c, (cloFrom X.env.cells scope.names []).lookup y = some c := fun {y} isFree =>
    mem_lookup (cloFrom_has (cells := X.env.cells) (acc := []) (show (y, NameKind.free) ∈ scope.names from PySem.mem_of_lookup isFree))
  have stay : ∀ {c : Addr} {v : Option Value}, H c = none → s.heap.IsCell c v → h₁.IsCell c v := by
    rintro c v free ⟨o, there, cell⟩
    exact (un.any there free (by simp)).elim fun _ same => ⟨_, kp _ _ same, cell⟩
  have bare : ∀ b : Addr, b ∉ (lamCx X A outer s1 HZ E scope f c').ex := fun b (z : b ∈ ([] : List Addr)) => List.not_mem_nil z
  have cellNo : ∀ {y}, ¬ scope.names.lookup y = some .cell := fun {y} k => (L.own _ (PySem.mem_of_lookup k)).2 rfl
  refine ⟨⟨e0.mod, L.kind, rfl, rfl, Nat.le_refl _, fun y z c e1 e2 => I.ok.inj y z c (back e1) (back e2), fun y hy => ?_, fun y c z _ => ?_, fun _ => hd, Around.frames_deeper e0.frames, .inr ⟨rfl, rfl⟩, fun b z => (bare b z).elim, e0.bs, e0.bsz, fun b _ _ => bare b, fun b z => (bare b z).elim, e0.funs, e0.frf⟩,
    rfl, e0.bare, Un.kept kp, ⟨_, hns, fun i y v e1 e2 e3 => ?_⟩, fun y c e => ?_, e0.hok.fresh (Nat.le_refl _), fun y c e => ?_, fun q hq => absurd (show q ∈ ([] : List (Addr × Obj)) ++ [] from hq) (by simp), e0.hok.kept kp, I.len⟩
  · exact (show scope.names.lookup y = some .cell ∨ scope.names.lookup y = some .free from hy).elim (fun k => (cellNo k).elim) front
  · exact Bool.noConfusion (show false = true from z)
  · rcases (show Vis scope y from e3) with k | k | k
    · exact ((L.own _ (PySem.mem_of_lookup k)).1 rfl (List.mem_of_getElem? (show X.N[i]? = some y from e1))).elim
    · exact (cellNo k).elim
    · have outer_ := L.free _ (PySem.mem_of_lookup k) rfl
      obtain ⟨m, hn, hl⟩ := I.loc
      obtain ⟨w', r, at_⟩ := hl i y v e1 e2 (.inr outer_)
      obtain ⟨c2, h2⟩ := front k
      refine ⟨w', r, .inr ⟨.inr k, c2, h2, ?_⟩⟩
      rcases at_ with ⟨isLocal, _⟩ | ⟨_, c3, e', z⟩
      · have isLocal : X.env.scope.names.lookup y = some .local := isLocal
        rcases outer_ with q | q
        · exact nomatch isLocal.symm.trans q
        · exact nomatch isLocal.symm.trans q
      · cases (back h2).symm.trans e'
        exact stay (I.freeC y _ (back h2)) z
  · exact (I.cell y c (back e)).imp fun _ z => stay (I.freeC y c (back e)) z
  · obtain ⟨v, o, there, cell⟩ := I.cell y c (back e)
    exact un.free c o there (I.freeC y c (back e)) (by simp)
end
end Ev
/-! A lambda handed to a def: `a()` in that def. -/
namespace Ev
open PySem PySem.Spec PyProof.Rows L2 LamX
variable [Tbs] [Hnd]

theorem Room.deep2 {k : Nat} {A : Around} (r : Room (k + 1) A) (e e2 : Env) : Room k ((A.deeper e).deeper e2) := ⟨r.hd, by have := r.dp; show A.depth + 1 + 1 + 3 * k + 5 < _; omega, by have := r.un; show A.units + 3 + 3 + 16 * k + 200 < _; omega⟩
/-- `a()`: a, the first name, holds the lambda, which means th -/
def sTh (th : M D) : Env' → M RV := fun ρ => match ρ[0]? with
  | some SV.cl => M.bind th fun d => M.pure (.per d)
  | _ => M.bad
section
variable {X : Cx} {pins : List (Addr × Obj)} {σ : L2.St} {H : Hp} {s : Shared}
/-- a(), told of the very state -/
theorem pe_actW {lp : LPar} {dV : Value} {CXg : CXT} {Eg : XK} {Ng : List Str} {qg : Str} {sg : Scope} {g f c' : Addr} {cdg ctv : Value} {pm : Value × Value} {params : Arguments} {body : Expr} {scope : Scope} {k i : Nat} {a : Str} {pn : List (Addr × Obj)} {xe : Value → Shared → Prop} {W : WX} {tb : XK → TE} {p1 p2 : Pos}
    (I : Inv X pins σ H s) (L : LamL X.N lp X.env.scope scope) (hdv : DvAt s.heap H (frs X.stack) dV lp) (hf : s.heap.get? f = some (lmObj (X.env.qual ++ "<lambda>") params body scope (cloFrom X.env.cells scope.names []) pm dV c' ctv)) (hfn : H f = none) (hfr : f ∉ frs X.stack)
    (hbind : LBind params lp)
    (tk : Takes ((cxOf CXg X.prog X.w X.K X.mg X.base Ng qg sg g cdg X.A X.stack s H Eg).tr pn xe) W) (hr0 : Room (k + 1) X.A) (hgd : X.A.guards = some [])
    (hbody : ∀ (A : Around) (outer : List Env) (s : Shared) (H : Hp) (E : XK), Room k (A.deeper (lamEnv X scope s.heap.objs.size f c')) → A.guards = some [] → PE (lamCx X A outer s H E scope f c') body (tb E))
    (hN : Ng[i]? = some a) (hv : Vis sg a) (hd : (a == ("__debug__" : Str)) = false := by decide) (hcd : (a == ("__classdict__" : Str)) = false := by decide) :
    PE ((cxOf CXg X.prog X.w X.K X.mg X.base Ng qg sg g cdg X.A X.stack s H Eg).tr pn xe) (.Call (.Name a p1) [] [] p2)
      (fun σZ HZ Q => σZ[i]? = some (some (.ref f)) ∧ HZ c' = some (CodeO c' (X.env.qual ++ "<lambda>")) ∧ tb (fun cls dd H' => W cls dd σZ H') σ HZ Q) := by
  refine ⟨fun pinsZ sZ σZ HZ Q IZ h => ?_⟩
  obtain ⟨hs, hc, ht⟩ := h
  refine wpAny_Call_Name_kw (thn ((pe_var (pos := p1) (i := i) hN hv hd hcd).run pinsZ sZ σZ HZ (fun v H1 => v = .ref f ∧ H1 = HZ) IZ ⟨.ref f, hs, rfl, rfl⟩) fun u s1 ⟨v, H1, I1, r1, q1⟩ => ?_)
  obtain ⟨ev, eH⟩ := q1
  subst ev
  rw [eH] at I1
  obtain rfl : u = Value.ref f := r1
  have of1 : s1.heap.get? f = some (lmObj (X.env.qual ++ "<lambda>") params body scope (cloFrom X.env.cells scope.names []) pm dV c' ctv) := I1.base.keep f _ hf hfn hfr (fun z => nomatch (show f ∈ ([] : List Addr) from z))
  have dv1 : DvS s1.heap dV lp := by
    cases lp with
    | no => exact hdv
    | one x i =>
      obtain ⟨d, t, e, hg, hn, hr⟩ := hdv
      exact ⟨d, t, e, I1.base.keep d _ hg hn hr (fun z => nomatch (show d ∈ ([] : List Addr) from z))⟩
  refine PySem.W.callWith_F0 ⟨_, _, _, _, of1⟩ ?_
  have un : Un (frs X.stack) [] H HZ s.heap s1.heap := I1.base
  have hr := hr0.deeper (envOfC qg sg s.heap.objs.size g cdg)
  obtain ⟨⟨oc, vs, t, hoc, hdc, hvc⟩, _, _⟩ := I1.hok c' _ hc
  have rc : codeAny (model X.prog X.w) (X.A.deeper (envOfC qg sg s.heap.objs.size g cdg)) (.call (.ref f) ⟨[], []⟩) (CR (L2.CX X.prog X.w) (envOfC qg sg s.heap.objs.size g cdg :: X.stack) X.prog X.w HZ s1 Q (fun cls dd H' => W cls dd σZ H')) s1 := by
    refine PySem.W.kla_callFunE hr.depth of1 rfl L.plain.1 L.plain.2 rfl ⟨c', oc, vs, t, rfl, hoc, hdc, hvc⟩ ?_
    have go : ∀ bs : List (Str × Value), (∀ y ∈ bs, scope.names.lookup y.1 = some .local) → wpAny (model X.prog X.w) (X.A.deeper (envOfC qg sg s.heap.objs.size g cdg)).in1 (newFunctionEnv scope mainGlobals (cloFrom X.env.cells scope.names []) bs (X.env.qual ++ "<lambda>" ++ ".<locals>.") (some f) (.ref c') none builtinsNs)
        (fun env s₂ => s₂.heap.NoLimit ∧ codeAny (model X.prog X.w) (X.A.deeper (envOfC qg sg s.heap.objs.size g cdg)) (.expr body env) (CR (L2.CX X.prog X.w) (envOfC qg sg s.heap.objs.size g cdg :: X.stack) X.prog X.w HZ s1 Q (fun cls dd H' => W cls dd σZ H')) s₂) (fun e s' => CR (L2.CX X.prog X.w) (envOfC qg sg s.heap.objs.size g cdg :: X.stack) X.prog X.w HZ s1 Q (fun cls dd H' => W cls dd σZ H') (.error e) s') s1 := fun bs hbs => by
      refine wpAny_newFunctionEnv (fun y hy => (L.own y hy).2) hbs (fun h₁ hns hsb => ⟨I1.nolimit.fresh _ hsb, ?_⟩) L.kind
      show codeAny _ _ (.expr body (lamEnv X scope s1.heap.objs.size f c')) _ _
      have kp : ∀ b o, s1.heap.get? b = some o → h₁.get? b = some o := fun b o e => hsb.extBut b o (Nat.ne_of_lt (Heap.lt_size e)) (Heap.get?_push_of_some _ e)
      have J : Inv (lamCx X (X.A.deeper (envOfC qg sg s.heap.objs.size g cdg)) (envOfC qg sg s.heap.objs.size g cdg :: X.stack) s1 HZ (fun cls dd H' => W cls dd σZ H') scope f c') [] σ HZ { s1 with heap := h₁, toks := s1.toks + bs.length } :=
        lm_start I L I1.env0 hr.hd un hns kp
      refine PySem.W.kla_codeExpr (wpAny_mono ((hbody _ _ s1 HZ _ (Room.deep2 hr0 _ _) hgd).run [] _ _ HZ Q J ht) (fun v s' hq => ?_) fun e s' hq => hq)
      obtain ⟨w', H', J', rv, q⟩ := hq
      exact ⟨w', H', J'.os, J'.bare, J'.base, J'.hok, rv, q⟩
    refine hbind _ _ _ s1 _ body scope _ pm dV _ ctv _ dv1 ?_
    cases lp with
    | no => exact go [] (fun y hy => absurd hy (by simp))
    | one x i => exact fun t => go [(x, .int i t)] (fun y hy => by
        rw [List.mem_singleton] at hy
        rw [hy]
        exact L.par x i rfl)
  refine wpAny_call (codeAny_mono rc fun r s' hq => ?_)
  cases r with
  | error e => exact tk e s' (XE.of_call I1 (fun _ _ _ h => h) hq)
  | ok fl => cases fl <;> first | exact I1.after hq | exact False.elim hq
end
/-- a(), by its meaning -/
theorem pe_sTh {Z : Cx} {W : WX} {fld : Str → List Str} {a : Str} {p1 p2 : Pos} {th : M D} {tl : XK → Hp → VK → Prop}
    (h : PE Z (.Call (.Name a p1) [] [] p2) (fun σZ HZ Q => σZ[0]? = some (some (.ref Hnd.f)) ∧ HZ Hnd.c = some (CodeO Hnd.c Hnd.q) ∧ tl (fun cls dd H' => W cls dd σZ H') HZ Q))
    (htl : ∀ (E : XK) (H : Hp) (Q : VK) (st : Store) (ca : List Addr), SR Z.K st ca H → Hnd.inv H ca → PostC Z.K fld H ca Q E (th st) → tl E H Q) :
    PE Z (.Call (.Name a p1) [] [] p2) (TN Z.K fld W (sTh th)) := by
  refine ⟨fun pins s σ H Q I hh => h.run pins s σ H Q I ?_⟩
  obtain ⟨ρ, st, ca, en, sr, hp⟩ := hh
  unfold sTh at hp
  cases e0 : ρ[0]? with
  | none => rw [e0] at hp; exact hp.elim
  | some sv =>
    rw [e0] at hp
    cases sv with
    | un => exact False.elim hp
    | val d => exact False.elim hp
    | own ds => exact False.elim hp
    | cl =>
      obtain ⟨o, ho, rfl, hc, _, iv⟩ := en.at_ 0 _ e0
      refine ⟨ho, hc, htl _ _ _ st ca sr iv ?_⟩
      have hp := Post.bind hp
      cases hF : th st with
      | bad => rw [hF] at hp; exact hp
      | exc c as st1 => rw [hF] at hp; exact hp
      | ok d st1 =>
        rw [hF] at hp
        exact fun v ca' H' t s1 rv => Post.now (hp ca' H' t s1) s1 v rv
/-- the def that takes a lambda q, and calls it by a: TT, what it makes of the lambda's reading -/
def GivesW (X : Cx) (Ng : List Str) (x : Str) (sg : Scope) (g : Addr) (cdg : Value) (bg : List Stmt) (a : Str) (q : Str) (TT : (XK → Hp → VK → Prop) → XK → Hp → VK → Prop) : Prop :=
  ∀ (f c' : Addr) (s : Shared) (H : Hp) (Q : VK) (E : XK) (tl : XK → Hp → VK → Prop),
    (∀ (W : WX) (pn : List (Addr × Obj)) (xe : Value → Shared → Prop) (p1 p2 : Pos), Takes ((cxOf (L2.CX X.prog X.w) X.prog X.w X.K X.mg X.base Ng x sg g cdg X.A X.stack s H E).tr pn xe) W →
      PE ((cxOf (L2.CX X.prog X.w) X.prog X.w X.K X.mg X.base Ng x sg g cdg X.A X.stack s H E).tr pn xe) (.Call (.Name a p1) [] [] p2) (fun σZ HZ Q => σZ[0]? = some (some (.ref f)) ∧ HZ c' = some (CodeO c' q) ∧ tl (fun cls dd H' => W cls dd σZ H') HZ Q)) →
    H c' = some (CodeO c' q) → TT tl E H Q →
    ∃ t, PSs (cxOf (L2.CX X.prog X.w) X.prog X.w X.K X.mg X.base Ng x sg g cdg X.A X.stack s H E) bg t ∧ t { nx := fun _ H' => Q .non H', rt := Q } (L2.start Ng [.ref f]) H
def tLamW (W : WX) (T : List (Addr × Str)) (TT : (XK → Hp → VK → Prop) → XK → Hp → VK → Prop) (t : XK → TE) : TE := fun σ H Q => Tabs T H ∧ ∀ H1, ExtN H H1 → Tabs T H1 → (∀ b, H1 b = none → H b = none) → TT (fun E H' Q' => t E σ H' Q') (fun cls dd H' => W cls dd σ H') H1 Q
section
variable {X : Cx}
/-- x(lambda: body) -/
theorem pe_lamcallW {lp : LPar} {W : WX} {T : List (Addr × Str)} {TT : (XK → Hp → VK → Prop) → XK → Hp → VK → Prop} {x a : Str} {g c P : Addr} {k : Nat} {pg : Arguments} {bg : List Stmt} {sg : Scope} {dV kV doc pm cdv ct oc : Value} {an od : Option Addr} {osl : Array (Option Value)} {Ng : List Str}
    {params : Arguments} {body : Expr} {scope : Scope} {t : XK → TE} {p lpos pos : Pos} (hg : Gl X x) (hm : X.mg x = some (.ref g)) (hk : PySem.W.keepIn X.K (.ref g) = true)
    (lk : X.K.lookup g = some ⟨oc, od, .func (PySem.W.fnOf x x pg bg sg dV kV doc pm an cdv ct), osl⟩) (hcg : PySem.W.codeIn X.K cdv x = true) (hb : L2.Binds X.K (PySem.W.fnOf x x pg bg sg dV kV doc pm an cdv ct) [a] []) (Sg : FnScope Ng [a] sg) (hNg : Ng[0]? = some a) (hva : Vis sg a)
    (tk : Takes X W) (hG : GivesW X Ng x sg g cdv bg a (X.env.qual ++ "<lambda>") TT)
    (TB : TabB X.base X.mg c P) (hcode : X.env.code = .ref c) (hmT : (P, X.env.qual ++ "<lambda>") ∈ T) (hu : ∀ p ∈ T, p.1 = P → p.2 = X.env.qual ++ "<lambda>") (hr : Room (k + 1) X.A) (hgd : X.A.guards = some []) (L : LamL X.N lp X.env.scope scope) (hdef : LDef params X.env lp)
    (hbind : LBind params lp)
    (hbody : ∀ (A : Around) (outer : List Env) (s : Shared) (H : Hp) (E : XK) (f c' : Addr), Room k (A.deeper (lamEnv X scope s.heap.objs.size f c')) → A.guards = some [] → PE (lamCx X A outer s H E scope f c') body (t E))
    (hdb : (x == ("__debug__" : Str)) = false := by decide) (hd : (a == ("__debug__" : Str)) = false := by decide) (hcd : (a == ("__classdict__" : Str)) = false := by decide) :
    PE X (.Call (.Name x p) [.Lambda params body scope lpos] [] pos) (tLamW W T TT t) := by
  refine ⟨fun pins s σ H Q I h => ?_⟩
  obtain ⟨hT, h⟩ := h
  refine wpAny_Call_Name_kw (ld_glob I hg hm (PySem.W.callWith_K (h₀ := X.base) I.ok.mod.kin hk ?_ (by rfl) (by rfl)) hdb)
  show wpAny (model X.prog X.w) X.A (spliced ((false, eval (.Lambda params body scope lpos) X.env) :: backTo pos (starEach [] X.env))) _ _ s
  refine Calls.spliced_cons (lm_make I TB hcode hmT hu hT hdef (L.has I.ok) fun f c' pm' dV' ctv H1 s' I1 eN T1 dm hdv hf hfn hfr hco => ?_)
  refine Calls.spliced_nil ⟨I1.kIn, ?_⟩
  have rc : codeAny (model X.prog X.w) X.A (.call (.ref g) ⟨[.ref f], []⟩) (CR (L2.CX X.prog X.w) X.stack X.prog X.w H1 s' Q (fun cls dd H' => W cls dd σ H')) s' := by
    refine run_ofS (N := Ng) (ps := [a]) (us := [.ref f]) (vs := [.ref f]) lk hcg Sg hr I1.env0 (hb s' [.ref f] I1.kIn rfl) (.cons rfl .nil) rfl fun hr' => ?_
    obtain ⟨t', ht', hq'⟩ := hG f c' s' H1 Q (fun cls dd H' => W cls dd σ H') (fun E H' Q' => t E σ H' Q') (fun W pn xe p1 p2 tk => pe_actW (i := 0) I1 L hdv hf hfn hfr hbind tk hr hgd (fun A outer s H E hr2 hg2 => hbody A outer s H E f c' hr2 hg2) hNg hva hd hcd) hco (h H1 eN T1 dm)
    exact ⟨t', ht', hq'⟩
  refine wpAny_call (codeAny_mono rc fun r s2 hq => ?_)
  cases r with
  | error e => exact tk e s2 (XE.of_call I1 (fun _ _ _ h => h) hq)
  | ok fl => cases fl <;> first | exact I1.after hq | exact False.elim hq
end
end Ev
/-! A def that takes a lambda: what it gives. -/
namespace Ev
open PySem PySem.Spec PyProof.Rows L2 LamX
variable [Tbs]
/-- the meaning of a def whose first name is a lambda -/
def semT (n : Nat) (body : SS) : M D := fun st => match body (.cl :: List.replicate (n - 1) .un) st with
  | .nx _ st' => .ok .non st'
  | .rt d st' => .ok d st'
  | .exc c as _ st' => .exc c as st'
  | _ => .bad
def TTm (K : PySem.W.Frag) (fld : Str → List Str) (F : M D → M D) : (XK → Hp → VK → Prop) → XK → Hp → VK → Prop := fun tl E H Q =>
  ∃ (th : M D) (st : Store) (ca : List Addr) (inv : Hp → List Addr → Prop), (∀ (H : Hp) (ca : List Addr) (H1 : Hp) (ca1 : List Addr), (∀ a o, H a = some o → Fix o → H1 a = some o) → (∀ (k : Nat) (x : Addr), ca[k]? = some x → ca1[k]? = some x) → inv H ca → inv H1 ca1) ∧ inv H ca ∧ SR K st ca H ∧ (∀ (E : XK) (H : Hp) (Q : VK) (st : Store) (ca : List Addr), SR K st ca H → inv H ca → PostC K fld H ca Q E (th st) → tl E H Q) ∧ PostC K fld H ca Q E (F th st)
theorem SR.noCode {K : PySem.W.Frag} {st : Store} {ca : List Addr} {H : Hp} {c' : Addr} {q : Str} (sr : SR K st ca H) (h : H c' = some (CodeO c' q)) : c' ∉ ca := fun z => by
  obtain ⟨i, hi, e⟩ := List.getElem_of_mem z
  have hs : i < st.length := by rw [← sr.len]; exact hi
  have r := sr.cell i _ c' (List.getElem?_eq_getElem hs) (by rw [List.getElem?_eq_getElem hi, e])
  cases hc : st[i] with
  | lst ds =>
    rw [hc] at r
    obtain ⟨vs, hv, _⟩ := r
    rw [h] at hv
    unfold CodeO at hv
    cases hv
  | dct kvs =>
    rw [hc] at r
    obtain ⟨vs, hv, _⟩ := r
    rw [h] at hv
    unfold CodeO at hv
    cases hv
theorem givesT {X : Cx} {Ng : List Str} {x a q : Str} {sg : Scope} {g : Addr} {cdg : Value} {bg : List Stmt} {fld : Str → List Str} {k : Nat} {B : M D → SS} (hr : Room (k + 1) X.A) (hg : X.A.guards = some []) (hN : 1 ≤ Ng.length)
    (hbody : ∀ [Hnd] (Z : Cx) (W : WX) (H0 : Hp) (ca0 : List Addr) (th : M D), BodyX X.prog X.w X.K X.mg X.base k Ng sg W Z →
      (∀ (W' : WX) (pn : List (Addr × Obj)) (xe : Value → Shared → Prop) (p1 p2 : Pos), Takes (Z.tr pn xe) W' → PE (Z.tr pn xe) (.Call (.Name a p1) [] [] p2) (TN Z.K fld W' (sTh th))) → PSs Z bg (TSt X.K fld W H0 ca0 (B th))) :
    GivesW X Ng x sg g cdg bg a q (TTm X.K fld fun th => semT Ng.length (B th)) := by
  intro f c' s H Q E tl hpe hc htt
  obtain ⟨th, st, ca, inv, stay, iv, sr, htl, hp⟩ := htt
  letI : Hnd := ⟨f, c', q, inv, stay⟩
  refine ⟨TSt X.K fld (fun cls dd _ H' => E cls dd H') H ca (B th), hbody _ _ _ _ th ⟨rfl, rfl, rfl, rfl, rfl, rfl, rfl, rfl, fun _ => rfl, hr.deeper _, hg, ?_, ?_, ⟨rfl, rfl⟩⟩ ?_, ?_⟩
  · exact takes_of rfl rfl rfl rfl
  · exact passes_of rfl
  · exact fun W' pn xe p1 p2 tk => pe_sTh (hpe W' pn xe p1 p2 tk) htl
  · have hgt : ∀ (i : Nat) (sv : SV), (SV.cl :: List.replicate (Ng.length - 1) SV.un)[i]? = some sv → (i = 0 ∧ sv = .cl) ∨ (sv = .un ∧ i < Ng.length) := fun i sv e => by
      cases i with
      | zero => exact .inl ⟨rfl, (Option.some.inj e).symm⟩
      | succ j =>
        rw [List.getElem?_cons_succ] at e
        have hm := List.mem_of_getElem? e
        rw [List.mem_replicate] at hm
        have hl := (List.getElem?_eq_some_iff.mp e).1
        simp at hl
        exact .inr ⟨hm.2, by omega⟩
    have no : ∀ (i : Nat) (es : List D), (SV.cl :: List.replicate (Ng.length - 1) SV.un)[i]? ≠ some (.own es) := fun i es e => by
      rcases hgt i _ e with h | h
      · cases h.2
      · cases h.1
    have hlen : (L2.start Ng [V.ref f]).length = Ng.length := by simp [L2.start]; omega
    refine ⟨_, st, ca, ⟨⟨by rw [hlen]; simp; omega, fun i sv e => ?_, fun i j ds' es a _ e1 _ _ => (no i ds' e1).elim⟩, Stp.refl, fun i ds' a e1 _ => (no i ds' e1).elim⟩, sr, ?_⟩
    · rcases hgt i sv e with h | h
      · obtain ⟨rfl, rfl⟩ := h
        exact ⟨some (.ref f), by simp [L2.start], rfl, hc, sr.noCode hc, iv⟩
      · obtain ⟨rfl, hl⟩ := h
        exact ⟨_, List.getElem?_eq_getElem (by rw [hlen]; exact hl), trivial⟩
    · simp only [semT] at hp
      cases hF : B th (.cl :: List.replicate (Ng.length - 1) .un) st with
      | nx ρ st1 => rw [hF] at hp; exact fun σ ca' H' _ ff s1 => hp .non ca' H' ff.stp s1 rfl
      | rt d st1 => rw [hF] at hp; exact fun v ca' H' t s1 rv => hp v ca' H' t s1 rv
      | bk ρ st1 => rw [hF] at hp; exact hp.elim
      | ct ρ st1 => rw [hF] at hp; exact hp.elim
      | bad => rw [hF] at hp; exact hp.elim
      | exc c as ρ st1 => rw [hF] at hp; exact fun cls dd σ ca' H' _ ff s1 x => hp cls dd ca' H' ff.stp s1 x
variable [Hnd]
/-- what a lambda may look at: values, no lists of the frame alone -/
def maskS : SV → SV
  | .val d => .val d
  | _ => .un
def mask (ρ : Env') : Env' := ρ.map maskS
theorem EnvR.mask {K : PySem.W.Frag} {H : Hp} {ca : List Addr} {ρ : Env'} {σ : L2.St} (h : EnvR K H ca ρ σ) : EnvR K H ca (mask ρ) σ := by
  refine ⟨by rw [← h.len]; simp [Ev.mask], fun i s e => ?_, fun i j ds es a _ e1 _ _ => ?_⟩
  · unfold Ev.mask at e
    rw [List.getElem?_map] at e
    obtain ⟨s0, e0, e1⟩ := Option.map_eq_some_iff.mp e
    obtain ⟨o, ho, r⟩ := h.at_ i s0 e0
    refine ⟨o, ho, ?_⟩
    cases s0 with
    | val d => cases e1; exact r
    | un => cases e1; trivial
    | own ds => cases e1; trivial
    | cl => cases e1; trivial
  · unfold Ev.mask at e1
    rw [List.getElem?_map] at e1
    obtain ⟨s0, e0, e2⟩ := Option.map_eq_some_iff.mp e1
    cases s0 <;> cases e2
theorem EnvR.maskFix {K : PySem.W.Frag} {H H1 : Hp} {ca ca1 : List Addr} {ρ : Env'} {σ : L2.St} (f : ∀ a o, H a = some o → Fix o → H1 a = some o) (g : ∀ (k : Nat) (x : Addr), ca[k]? = some x → ca1[k]? = some x) (h : EnvR K H ca (Ev.mask ρ) σ) : EnvR K H1 ca1 (Ev.mask ρ) σ := by
  have no : ∀ (i : Nat) (s : SV), (Ev.mask ρ)[i]? = some s → s = .un ∨ ∃ d, s = .val d := fun i s e => by
    unfold Ev.mask at e
    rw [List.getElem?_map] at e
    obtain ⟨s0, e0, e1⟩ := Option.map_eq_some_iff.mp e
    cases s0 with
    | val d => cases e1; exact .inr ⟨d, rfl⟩
    | _ => cases e1; exact .inl rfl
  refine ⟨h.len, fun i s e => ?_, fun i j ds es a _ e1 _ _ => ?_⟩
  · obtain ⟨o, ho, r⟩ := h.at_ i s e
    refine ⟨o, ho, ?_⟩
    rcases no i s e with rfl | ⟨d, rfl⟩
    · trivial
    · obtain ⟨v, e1, q⟩ := r
      exact ⟨v, e1, RelD.fixed f g d v q⟩
  · rcases no i _ e1 with z | ⟨d, z⟩ <;> cases z
/-- x(lambda: g) -/
def sLam (F : M D → M D) (g : Env' → M D) : Env' → M RV := fun ρ => M.bind (F (g (mask ρ))) fun d => M.pure (.per d)
theorem se_lam {X : Cx} {fld : Str → List Str} {W : WX} {lp : LPar} {x a : Str} {g c P : Addr} {k : Nat} {pg : Arguments} {bg : List Stmt} {sg : Scope} {dV kV doc pm cdv ct oc : Value} {an od : Option Addr} {osl : Array (Option Value)} {Ng : List Str} {F : M D → M D} {f : Env' → M D}
    {params : Arguments} {body : Expr} {scope : Scope} {p lpos pos : Pos} (hg : Gl X x) (hm : X.mg x = some (.ref g)) (hk : PySem.W.keepIn X.K (.ref g) = true)
    (lk : X.K.lookup g = some ⟨oc, od, .func (PySem.W.fnOf x x pg bg sg dV kV doc pm an cdv ct), osl⟩) (hcg : PySem.W.codeIn X.K cdv x = true) (hb : L2.Binds X.K (PySem.W.fnOf x x pg bg sg dV kV doc pm an cdv ct) [a] []) (Sg : FnScope Ng [a] sg) (hNg : Ng[0]? = some a) (hva : Vis sg a)
    (tk : Takes X W) (hG : GivesW X Ng x sg g cdv bg a (X.env.qual ++ "<lambda>") (TTm X.K fld F))
    (TB : TabB X.base X.mg c P) (hcode : X.env.code = .ref c) (hmT : (P, X.env.qual ++ "<lambda>") ∈ tabT X.K) (hu : ∀ p ∈ tabT X.K, p.1 = P → p.2 = X.env.qual ++ "<lambda>") (hr : Room (k + 1) X.A) (hgd : X.A.guards = some []) (L : LamL X.N lp X.env.scope scope) (hdef : LDef params X.env lp) (hbind : LBind params lp)
    (hbody : ∀ (A : Around) (outer : List Env) (s : Shared) (H : Hp) (E : XK) (fa c' : Addr), Room k (A.deeper (lamEnv X scope s.heap.objs.size fa c')) → A.guards = some [] → PE (lamCx X A outer s H E scope fa c') body (TS' X.K fld (fun cls dd _ H' => E cls dd H') f))
    (hdb : (x == ("__debug__" : Str)) = false) (hd : (a == ("__debug__" : Str)) = false) (hcd : (a == ("__classdict__" : Str)) = false) :
    PE X (.Call (.Name x p) [.Lambda params body scope lpos] [] pos) (TN X.K fld W (sLam F f)) := by
  refine PE.imp (pe_lamcallW (TT := TTm X.K fld F) (t := fun E => TS' X.K fld (fun cls dd _ H' => E cls dd H') f) hg hm hk lk hcg hb Sg hNg hva tk hG TB hcode hmT hu hr hgd L hdef hbind hbody hdb hd hcd) fun σ H Q ⟨ρ, st, ca, en, sr, hp⟩ => ?_
  refine ⟨sr.tabs, fun H1 ex tb dm => ?_⟩
  have fx : ∀ a o, H a = some o → Fix o → H1 a = some o := fun a o h hf => ex a o h (fun ps z => by rw [z] at hf; exact hf)
  have s0 : Stp ca ca H H1 := ⟨⟨[], by simp, fun a h => nomatch h⟩, fx, fun a o h _ hn => ex a o h (fun ps z => by rw [z] at hn; exact hn), dm⟩
  have sr1 : SR X.K st ca H1 := sr.stay s0 tb fun a ha => by
    obtain ⟨i, hi, e⟩ := List.getElem_of_mem ha
    have hs : i < st.length := by rw [← sr.len]; exact hi
    have r := sr.cell i _ a (List.getElem?_eq_getElem hs) (by rw [List.getElem?_eq_getElem hi, e])
    cases hc : st[i] with
    | lst ds =>
      rw [hc] at r
      obtain ⟨vs, hv, _⟩ := r
      rw [hv]
      exact ex a _ hv (fun ps z => nomatch z)
    | dct kvs =>
      rw [hc] at r
      obtain ⟨vs, hv, _⟩ := r
      rw [hv]
      exact ex a _ hv (fun ps z => nomatch z)
  refine ⟨f (Ev.mask ρ), st, ca, fun H' ca' => EnvR X.K H' ca' (Ev.mask ρ) σ, fun H' ca' H2 ca2 ff gg h => EnvR.maskFix ff gg h, EnvR.maskFix fx (fun _ _ h => h) en.mask, sr1, fun E H' Q' st' ca' sr' iv hp' => ?_, ?_⟩
  · refine ⟨Ev.mask ρ, st', ca', iv, sr', ?_⟩
    cases hF : f (Ev.mask ρ) st' with
    | bad => rw [hF] at hp'; exact hp'
    | exc c as st1 => rw [hF] at hp'; exact fun cls dd ca2 H2 t2 s2 x => hp' cls dd ca2 H2 t2 s2 x
    | ok d st1 => rw [hF] at hp'; exact fun ca2 H2 t2 s2 v hv => hp' v ca2 H2 t2 s2 hv
  · unfold sLam at hp
    have hp := Post.bind hp
    cases hF : F (f (Ev.mask ρ)) st with
    | bad => rw [hF] at hp; exact hp
    | exc c as st1 => rw [hF] at hp; exact fun cls dd ca2 H2 t2 s2 x => hp cls dd ca2 H2 (s0.trans t2) s2 x
    | ok d st1 =>
      rw [hF] at hp
      exact fun v ca2 H2 t2 s2 hv => Post.now (hp ca2 H2 (s0.trans t2) s2) s2 v hv
end Ev
/-! From the text to its meaning: expressions. -/
namespace Ev
open PySem PySem.Spec PyProof.Rows L2
variable [Tbs] [Hnd]

inductive Bf where
  | len | all | any | sum | max | min | abs | divmod | isi | repr | sorted
def Bf.id : Bf → String
  | .len => "len" | .all => "all" | .any => "any" | .sum => "sum" | .max => "max" | .min => "min" | .abs => "abs" | .divmod => "divmod" | .isi => "isinstance" | .repr => "repr" | .sorted => "sorted"
def Bf.op : Bf → List D → Option RV
  | .len => dLen | .all => dAll | .any => dAny | .sum => dSum | .max => dMax | .min => dMin | .abs => dAbs | .divmod => dDivmod | .isi => dIsi | .repr => dRepr | .sorted => dSorted
theorem Bf.ok (b : Bf) {X : Cx} (hc : X.calm = true) (hg : X.A.guards = some []) (hu : X.A.units + 65 < cLine) : CallR X (.builtin b.id) (rCl X.K b.op) := by
  cases b
  · exact cl_len
  · exact cl_all hc
  · exact cl_any hc
  · exact cl_sum hc
  · exact cl_max hc hu
  · exact cl_min hc hu
  · exact cl_abs
  · exact cl_divmod
  · exact cl_isi
  · exact cl_repr hg hu
  · exact cl_sorted hu
inductive Bt where
  | int | list | tuple | str | bool | dict
def Bt.nm : Bt → String
  | .int => "int" | .list => "list" | .tuple => "tuple" | .str => "str" | .bool => "bool" | .dict => "dict"
def Bt.op : Bt → List D → Option RV
  | .int => dInt | .list => dList | .tuple => dTuple | _ => fun _ => none
theorem Bt.ok (b : Bt) {X : Cx} : CallR X (.type b.nm) (rCl X.K b.op) := by
  have no : ∀ n, CallR X (.type n) (rCl X.K fun _ => none) := fun n pins s σ H xs us Q I rv h => by
    obtain ⟨ca, st, as, r, sr, rx, e, g⟩ := h
    cases e
  cases b
  · exact cl_int
  · exact cl_list
  · exact cl_tuple
  · exact no _
  · exact no _
  · exact no _
/-- what a global name stands for -/
inductive GV where
  | int (i : Int) | bty (t : Bt) | bfn (b : Bf) | comb | fn (i n : Nat) | kd (tbl : List (Str × D)) | it | fnK (i n : Nat) (kws : List (Str × D)) | exc (fs : List Str) | base | fnT (i : Nat) | bx | fnD (i n : Nat) (df : List D)
structure Con where
  gl : Str → Option GV
  run : Nat → List D → M D
  fld : Str → List Str
  k : Nat
  sub : Str → Str → Option Bool
  /-- the def takes a lambda: its name, and what calling it means -/
  th : Option (Str × M D)
  /-- what the defs that take a lambda make of it -/
  runT : Nat → M D → M D
def GVp (P : Program) (w : World) (K : PySem.W.Frag) (mg : Str → Option Value) (base : Heap) (C : Con) (x : Str) : GV → Prop
  | .int i => ∃ u, mg x = some u ∧ L2.RelV (.int i) u
  | .bty t => mg x = none ∧ bootBuiltins x = some (.type t.nm)
  | .bfn b => mg x = none ∧ bootBuiltins x = some (.builtin b.id)
  | .comb => mg x = some (.builtin "math.comb")
  | .fn i n => ∃ f fd ps, mg x = some (.ref f) ∧ ps.length = n ∧ PySem.W.keepIn K (.ref f) = true ∧ Binds K fd ps [] ∧ FnG P w K mg base C.fld C.k f fd ps (C.run i)
  | .kd tbl => ∃ p, mg x = some (.ref p) ∧ KDf K w p tbl
  | .it => mg x = none
  | .fnK i n kws => ∃ f fd ps dus dvs, mg x = some (.ref f) ∧ ps.length = n + kws.length ∧ PySem.W.keepIn K (.ref f) = true ∧ Binds K fd ps dus ∧ Vals dvs dus ∧ (∀ H ca, RelDs K H ca (kws.map (·.2)) dvs) ∧ BindsK K fd ps (kws.map (·.1)) n ∧ FnG P w K mg base C.fld C.k f fd ps (C.run i)
  | .fnD i n df => ∃ f fd ps dus dvs, mg x = some (.ref f) ∧ ps.length = n + df.length ∧ PySem.W.keepIn K (.ref f) = true ∧ Binds K fd ps [] ∧ Binds K fd ps dus ∧ Vals dvs dus ∧ (∀ H ca, RelDs K H ca df dvs) ∧ FnG P w K mg base C.fld C.k f fd ps (C.run i)
  | .exc fs => mg x = some (.ref (He.ga K x)) ∧ ErrC P w K mg base x fs ∧ C.fld x = fs ∧ fs.length ≤ 100
  | .base => mg x = some (.ref (He.ga K x))
  | .bx => mg x = none ∧ bootBuiltins x = some (.type "ValueError")
  | .fnT i => ∃ (g : Addr) (a : Str) (Ng : List Str) (pg : Arguments) (bg : List Stmt) (sg : Scope) (dV kV doc pm cdv ct oc : Value) (an od : Option Addr) (osl : Array (Option Value)), mg x = some (.ref g) ∧ PySem.W.keepIn K (.ref g) = true ∧
      K.lookup g = some ⟨oc, od, .func (PySem.W.fnOf x x pg bg sg dV kV doc pm an cdv ct), osl⟩ ∧ PySem.W.codeIn K cdv x = true ∧ L2.Binds K (PySem.W.fnOf x x pg bg sg dV kV doc pm an cdv ct) [a] [] ∧ FnScope Ng [a] sg ∧ Ng[0]? = some a ∧ Vis sg a ∧ (a == ("__debug__" : Str)) = false ∧ (a == ("__classdict__" : Str)) = false ∧
      ∀ (X : Cx) (q : Str), X.prog = P → X.w = w → X.K = K → X.mg = mg → X.base = base → Room (C.k + 1) X.A → X.A.guards = some [] → GivesW X Ng x sg g cdv bg a q (TTm K C.fld (C.runT i))
def GVok (C : Con) (X : Cx) (x : Str) (g : GV) : Prop := GVp X.prog X.w X.K X.mg X.base C x g
/-- the block: its scope, its names by place, which cells it may write; whether it is a def's body; the new lists (by row and column) that are cells -/
structure Sta where
  sc : Scope
  N : List Str
  st : Str → Bool
  bd : Bool
  cl : List (Nat × Nat)
  /-- a def that holds lambdas -/
  lm : Bool
structure XO (C : Con) (S : Sta) (W : WX) (X : Cx) : Prop where
  N : X.N = S.N
  nd : S.N.Nodup
  kind : S.sc.kind = .function
  sc : X.env.scope = S.sc
  calm : X.calm = true
  fn : ∀ x, S.st x = true → X.fn x = true
  room : Room C.k X.A
  gd : X.A.guards = some []
  tk : Takes X W
  gv : ∀ x g, C.gl x = some g → GVok C X x g
  po : S.bd = true → PassesOwn (model X.prog X.w) X.A X.env X.xe
  lv : 2 ≤ C.k
  sub : ∀ x y b, C.sub x y = some b → PySem.W.exmOne X.K (.ref (He.ga X.K x)) (.ref (He.ga X.K y)) = some b
  stk : S.bd = true → X.stack = X.env :: X.outer ∧ X.env.frame = some X.env.locals
  th : S.bd = true → ∀ a m, C.th = some (a, m) → ∀ (W' : WX) (pn : List (Addr × Obj)) (xe : Value → Shared → Prop) (p1 p2 : Pos), Takes (X.tr pn xe) W' → PE (X.tr pn xe) (.Call (.Name a p1) [] [] p2) (TN X.K C.fld W' (sTh m))
  room1 : S.bd = true → Room (C.k + 1) X.A
  lam : S.bd = true → S.lm = true → ∃ c P, LamX.TabB X.base X.mg c P ∧ X.env.code = .ref c ∧ (P, X.env.qual ++ "<lambda>") ∈ tabT X.K ∧ ∀ p ∈ tabT X.K, p.1 = P → p.2 = X.env.qual ++ "<lambda>"
  kit : ∀ p ∈ Tbs.tk, kitB X.K p = true
  fx : FrX X
  tkh : TakesH X W
def Sta.blk (S : Sta) (scope : Scope) : Sta := ⟨relS scope S.sc, S.N, fun x => scope.names.lookup x == some .cell, false, S.cl, false⟩
theorem XO.blk {C : Con} {S : Sta} {W : WX} {X : Cx} (h : XO C S W X) (scope : Scope) (hk : scope.kind = .function) (s : Shared) (H : Hp) (Ca : Addr) (cl : List (Str × Addr)) (fp : List Addr) : XO C (S.blk scope) WF (bX X scope s H Ca cl fp) where
  N := h.N
  nd := h.nd
  kind := hk
  sc := by
    show relS scope X.env.scope = relS scope S.sc
    rw [h.sc]
  calm := h.calm
  fn := fun x e => e
  room := h.room
  gd := h.gd
  tk := fun _ _ ⟨_, _, _, _, _, _, _, _, _, _, _, _, _, _, _, _, w⟩ => w.elim
  gv := fun x g e => by
    have := h.gv x g e
    cases g <;> exact this
  po := fun e => by cases e
  lv := h.lv
  sub := h.sub
  stk := fun e => by cases e
  th := fun e => by cases e
  room1 := fun e => by cases e
  lam := fun e => by cases e
  kit := h.kit
  fx := h.fx
  tkh := fun _ _ _ _ ⟨_, _, _, _, _, _, _, _, _, _, _, _, _, _, _, _, w⟩ => w.elim
theorem XO.blkE {C : Con} {S : Sta} {W : WX} {X : Cx} (h : XO C S W X) (scope : Scope) (hk : scope.kind = .function) (s : Shared) (H : Hp) (Ca : Addr) (cl : List (Str × Addr)) (fp : List Addr) (σ : L2.St) : XO C (S.blk scope) (WB W σ) (bY X W σ scope s H Ca cl fp) where
  N := h.N
  nd := h.nd
  kind := hk
  sc := by
    show relS scope X.env.scope = relS scope S.sc
    rw [h.sc]
  calm := h.calm
  fn := fun x e => e
  room := h.room
  gd := h.gd
  tk := takesB
  gv := fun x g e => by
    have := h.gv x g e
    cases g <;> exact this
  po := fun e => by cases e
  lv := h.lv
  sub := h.sub
  stk := fun e => by cases e
  th := fun e => by cases e
  room1 := fun e => by cases e
  lam := fun e => by cases e
  kit := h.kit
  fx := h.fx.blk
  tkh := takesHB
theorem XO.tr {C : Con} {S : Sta} {W Wz : WX} {X : Cx} (h : XO C S W X) (hb : S.bd = true) (pz : List (Addr × Obj)) (xz : Value → Shared → Prop) (tz : Takes (X.tr pz xz) Wz) (pz2 : PassesOwn (model X.prog X.w) X.A X.env xz) : XO C S Wz (X.tr pz xz) where
  N := h.N
  nd := h.nd
  kind := h.kind
  sc := h.sc
  calm := h.calm
  fn := h.fn
  room := h.room
  gd := h.gd
  tk := tz
  gv := fun x g e => by
    have := h.gv x g e
    cases g <;> exact this
  po := fun _ => pz2
  lv := h.lv
  sub := h.sub
  stk := h.stk
  th := h.th
  room1 := h.room1
  lam := h.lam
  kit := h.kit
  fx := h.fx
  tkh := TakesH.body tz (h.stk hb).2
/-- in a lambda -/
def Sta.lam (S : Sta) (scope : Scope) : Sta := ⟨scope, S.N, fun _ => false, false, S.cl, false⟩
theorem XO.inLam {C : Con} {S : Sta} {W : WX} {X : Cx} (h : XO C S W X) (scope : Scope) (hk : scope.kind = .function) (A : Around) (outer : List Env) (s : Shared) (H : Hp) (E : XK) (fa c' : Addr) (hr : Room C.k (A.deeper (LamX.lamEnv X scope s.heap.objs.size fa c'))) (hg : A.guards = some []) : XO C (S.lam scope) (fun cls dd _ H' => E cls dd H') (LamX.lamCx X A outer s H E scope fa c') where
  N := h.N
  nd := h.nd
  kind := hk
  sc := rfl
  calm := rfl
  fn := fun x e => by cases e
  room := hr
  gd := hg
  tk := takes_of rfl rfl rfl rfl
  gv := fun x g e => by
    have := h.gv x g e
    cases g <;> exact this
  po := fun e => by cases e
  lv := h.lv
  sub := h.sub
  stk := fun e => by cases e
  th := fun e => by cases e
  room1 := fun e => by cases e
  lam := fun e => by cases e
  kit := h.kit
  fx := FrX.body rfl rfl
  tkh := TakesH.body (takes_of rfl rfl rfl rfl) rfl
def lparOf : Arguments → Option LPar
  | ⟨[], [], none, [], [], none, []⟩ => some .no
  | ⟨[], [a], none, [], [], none, [.Constant (.int i) _ _]⟩ => some (.one a.arg i)
  | _ => none
theorem lpar_ok {params : Arguments} {lp : LPar} (h : lparOf params = some lp) : LBind params lp ∧ ∀ env, LDef params env lp := by
  unfold lparOf at h
  split at h
  · cases h
    exact ⟨lbind_no, fun env => rfl⟩
  · cases h
    exact ⟨lbind_one, fun env => ⟨_, _, rfl⟩⟩
  · cases h
section
variable {C : Con} {S : Sta} {W : WX} {X : Cx}
theorem XO.un (h : XO C S W X) : X.A.units + 65 < cLine := by have := h.room.un; omega
def visB (sc : Scope) (x : Str) : Bool := match sc.names.lookup x with
  | some .local => true
  | some .cell => true
  | some .free => true
  | _ => false
def locB (sc : Scope) (x : Str) : Bool := match sc.names.lookup x with
  | some .local => true
  | some .cell => true
  | _ => false
def dbg (x : Str) : Bool := !(x == ("__debug__" : Str)) && !(x == ("__classdict__" : Str)) && decide (x ≠ "__name__")
theorem dbg_1 {x : Str} (h : dbg x = true) : (x == ("__debug__" : Str)) = false := by
  simp only [dbg, Bool.and_eq_true, Bool.not_eq_true'] at h
  exact h.1.1
theorem dbg_2 {x : Str} (h : dbg x = true) : (x == ("__classdict__" : Str)) = false := by
  simp only [dbg, Bool.and_eq_true, Bool.not_eq_true'] at h
  exact h.1.2
theorem dbg_3 {x : Str} (h : dbg x = true) : x ≠ "__name__" := by
  simp only [dbg, Bool.and_eq_true, Bool.not_eq_true', decide_eq_true_eq] at h
  exact h.2
theorem vis_of {sc : Scope} {x : Str} (h : visB sc x = true) : Vis sc x := by
  unfold visB at h
  split at h
  · exact .inl (by assumption)
  · exact .inr (.inl (by assumption))
  · exact .inr (.inr (by assumption))
  · cases h
theorem loc_of {sc : Scope} {x : Str} (h : locB sc x = true) : Loc sc x := by
  unfold locB at h
  split at h
  · exact .inl (by assumption)
  · exact .inr (by assumption)
  · cases h
/-- a global name of the block -/
def glB (sc : Scope) (x : Str) : Bool := decide (sc.names.lookup x = some .globalImplicit) && dbg x
theorem XO.gl (h : XO C S W X) {x : Str} (hg : glB S.sc x = true) : Gl X x := by
  simp only [glB, Bool.and_eq_true, decide_eq_true_eq] at hg
  show X.env.scope.names.lookup x = _
  rw [h.sc]
  exact hg.1
theorem glB_d {sc : Scope} {x : Str} (hg : glB sc x = true) : dbg x = true := by
  simp only [glB, Bool.and_eq_true] at hg
  exact hg.2
end
abbrev OE (C : Con) (S : Sta) (e : Expr) := Option { f : Env' → M RV // ∀ W X, XO C S W X → PE X e (TN X.K C.fld W f) }
abbrev OT (C : Con) (S : Sta) (e : Expr) := Option { f : Env' → M Bool // ∀ W X, XO C S W X → PT X e (TT' X.K C.fld W f) }
abbrev OAs (C : Con) (S : Sta) (es : List Expr) := Option { g : Env' → M (List D) // (∀ W X, XO C S W X → PA X es (TAs X.K C.fld W g)) ∧ ∀ ρ st ds st', g ρ st = .ok ds st' → ds.length = es.length }
abbrev OAr (C : Con) (S : Sta) (es : List Expr) := Option { g : Env' → M (List D) // ∀ W X, XO C S W X → PA X es (TAr X.K C.fld W g) }
abbrev OI (C : Con) (S : Sta) (tg e : Expr) := Option { it : Env' → M (List D) // ∀ W X, XO C S W X → PI X tg e (TWk X.K C.fld W it) }
abbrev OG (C : Con) (S : Sta) (tg : Expr) := Option { p : List Nat × (D → Env' → Option Env') // ∀ W X, XO C S W X → PG X tg (TGd X.K p.1 p.2) }
abbrev OGs (C : Con) (S : Sta) (es : List Expr) := Option { p : List Nat × (List D → Env' → Option Env') // (∀ W X, XO C S W X → PGs X es (TGds X.K p.1 p.2)) ∧ ∀ ds ρ ρ', p.2 ds ρ = some ρ' → ds.length = es.length }
structure Cmp (C : Con) where
  e : (S : Sta) → (e : Expr) → OE C S e
  t : (S : Sta) → (e : Expr) → OT C S e
section
variable {C : Con}
theorem cons_len {f : Env' → M D} {g : Env' → M (List D)} {n : Nat} (h : ∀ ρ st ds st', g ρ st = .ok ds st' → ds.length = n) : ∀ ρ st ds st', sCons f g ρ st = .ok ds st' → ds.length = n + 1 := fun ρ st ds st' e => by
  unfold sCons M.bind at e
  cases h1 : f ρ st with
  | bad => rw [h1] at e; cases e
  | exc c as st1 => rw [h1] at e; cases e
  | ok d st1 =>
    rw [h1] at e
    dsimp only at e
    cases h2 : g ρ st1 with
    | bad => rw [h2] at e; cases e
    | exc c as st2 => rw [h2] at e; cases e
    | ok es st2 =>
      rw [h2] at e
      cases e
      exact congrArg Nat.succ (h _ _ _ _ h2)
/-- values kept -/
def cAs (c : Cmp C) (S : Sta) : (es : List Expr) → OAs C S es
  | [] => some ⟨sNil, fun _ _ _ => se_nil, fun ρ st ds st' e => by cases e; rfl⟩
  | e :: es => if hn : nst e = true then match c.e S e, cAs c S es with
    | some f, some g => some ⟨sCons (kp f.1) g.1, fun W X h => se_cons (TN.kp (f.2 W X h)) (g.2.1 W X h) (star_cons hn), cons_len g.2.2⟩
    | _, _ => none
    else none
/-- values read -/
def cAr (c : Cmp C) (S : Sta) : (es : List Expr) → OAr C S es
  | [] => some ⟨sNil, fun _ _ _ => se_nilr⟩
  | e :: es => if hn : nst e = true then match c.e S e, cAr c S es with
    | some f, some g => some ⟨sCons (rd f.1) g.1, fun W X h => se_consr (TN.rd (f.2 W X h)) (g.2 W X h) (star_cons hn)⟩
    | _, _ => none
    else none
def opB (o : Operator) : Option { op : D → D → Option RV // ∀ X : Cx, OpR X (binaryOp o) (rO X.K op) } := match o with
  | .Add => some ⟨dAdd, fun _ => op_dAdd⟩
  | .Sub => some ⟨dSub, fun _ => op_dSub⟩
  | .Mult => some ⟨dMulA, fun _ => op_dMul⟩
  | .FloorDiv => some ⟨dDiv, fun _ => op_dDiv⟩
  | .Mod => some ⟨dMod, fun _ => op_dMod⟩
  | .Pow => some ⟨dPow, fun _ => op_dPow⟩
  | _ => none
def opC (o : CmpOp) : Option { op : D → D → Option RV // ∀ X : Cx, X.A.units + 65 < cLine → OpR X (compareOp o) (rO X.K op) } := match o with
  | .Eq => some ⟨dEq, fun _ h => op_dEq h⟩
  | .NotEq => some ⟨dNe, fun _ h => op_dNe h⟩
  | .Lt => some ⟨dLt, fun _ h => op_dLt h⟩
  | .LtE => some ⟨dLe, fun _ h => op_dLe h⟩
  | .Gt => some ⟨dGt, fun _ h => op_dGt h⟩
  | .GtE => some ⟨dGe, fun _ h => op_dGe h⟩
  | .In => some ⟨dIn, fun _ h => op_dIn h⟩
  | .NotIn => some ⟨dNotIn, fun _ h => op_dNotIn h⟩
  | .Is => some ⟨dIs, fun _ _ => op_dIs⟩
  | .IsNot => some ⟨dIsNot, fun _ _ => op_dIsNot⟩
/-- a name -/
def cName (S : Sta) (x : Str) (pos : Pos) : OE C S (.Name x pos) :=
  if h : visB S.sc x = true ∧ dbg x = true then
    if h2 : S.N[S.N.idxOf x]? = some x then some ⟨sVar (S.N.idxOf x), fun W X hx => se_var (by rw [hx.N]; exact h2) (by rw [hx.sc]; exact vis_of h.1) (dbg_1 h.2) (dbg_2 h.2)⟩ else none
  else if hg : glB S.sc x = true then match hgl : C.gl x with
    | some (.int i) => some ⟨sC (.int i), fun W X hx => let ⟨u, hm, r⟩ := hx.gv x _ hgl; se_glob (hx.gl hg) hm r (dbg_1 (glB_d hg)) fun _ _ => rfl⟩
    | some (.bty t) => some ⟨sC (.ty t.nm), fun W X hx => let ⟨hm, hv⟩ := hx.gv x _ hgl; se_blt (hx.gl hg) hm hv (dbg_3 (glB_d hg)) (dbg_1 (glB_d hg))⟩
    | _ => none
  else none
/-- a call of the lambda that the def got -/
def cTh (S : Sta) (x : Str) (p pos : Pos) : OE C S (.Call (.Name x p) [] [] pos) :=
  if hb : S.bd = true then match ht : C.th with
    | some (a, m) => if hx : a = x then some ⟨sTh m, fun W X hX => by
        subst hx
        exact hX.th hb _ m ht W X.pn X.xe p pos hX.tk⟩ else none
    | none => none
  else none
/-- x(lambda: body) -/
def cLam (c : Cmp C) (S : Sta) (x : Str) (p : Pos) (params : Arguments) (body : Expr) (scope : Scope) (lpos pos : Pos) : OE C S (.Call (.Name x p) [.Lambda params body scope lpos] [] pos) :=
  if h : S.bd = true ∧ S.lm = true ∧ glB S.sc x = true then match hlp : lparOf params, hgl : C.gl x, c.e (S.lam scope) body with
    | some lp, some (.fnT i), some f => if hL : lamLB S.N lp S.sc scope = true then some ⟨sLam (C.runT i) (kp f.1), fun W X hx => by
        obtain ⟨g, a, Ng, pg, bg, sg, dV, kV, doc, pm, cdv, ct, oc, an, od, osl, hm, hk, lk, hcg, hb, Sg, hNg, hva, ha1, ha2, hG⟩ := hx.gv x _ hgl
        obtain ⟨cc, P, TB, hcode, hmT, hu⟩ := hx.lam h.1 h.2.1
        have L := lamL_by hL
        have L2 : LamL X.N lp X.env.scope scope := by rw [hx.N, hx.sc]; exact L
        exact se_lam (hx.gl h.2.2) hm hk lk hcg hb Sg hNg hva hx.tk (hG X _ rfl rfl rfl rfl rfl (hx.room1 h.1) hx.gd) TB hcode hmT hu (hx.room1 h.1) hx.gd L2 ((lpar_ok hlp).2 _) (lpar_ok hlp).1
          (fun A outer s H E fa c' hr hg => TN.kp (f.2 _ _ (hx.inLam scope L.kind A outer s H E fa c' hr hg))) (dbg_1 (glB_d h.2.2)) ha1 ha2⟩ else none
    | _, _, _ => none
  else none
/-- a call of a name -/
def cCall (c : Cmp C) (S : Sta) (x : Str) (p : Pos) (e : Expr) (es : List Expr) (pos : Pos) : OE C S (.Call (.Name x p) (e :: es) [] pos) :=
  if h : glB S.sc x = true ∧ nst e = true ∧ es.all nst = true then match hgl : C.gl x with
    | some (.bfn b) => match cAr c S (e :: es) with
      | some g => some ⟨sCall b.op g.1, fun W X hx => let ⟨hm, hv⟩ := hx.gv x _ hgl
          se_callB (b.ok hx.calm hx.gd hx.un) (hx.gl h.1) hm hv (g.2 W X hx) (dbg_3 (glB_d h.1)) (dbg_1 (glB_d h.1)) (star_cons h.2.1) (star_any h.2.2)⟩
      | none => none
    | some (.bty t) => match cAr c S (e :: es) with
      | some g => some ⟨sCall t.op g.1, fun W X hx => let ⟨hm, hv⟩ := hx.gv x _ hgl
          se_callTy t.ok (hx.gl h.1) hm hv (g.2 W X hx) (dbg_3 (glB_d h.1)) (dbg_1 (glB_d h.1)) (star_cons h.2.1) (star_any h.2.2)⟩
      | none => none
    | some .comb => match cAr c S (e :: es) with
      | some g => some ⟨sCall dComb g.1, fun W X hx => se_callG cl_comb (hx.gl h.1) (hx.gv x _ hgl) (g.2 W X hx) (dbg_1 (glB_d h.1)) (star_cons h.2.1) (star_any h.2.2)⟩
      | none => none
    | some (.fn i n) => if hn : es.length + 1 = n then match cAs c S (e :: es) with
      | some g => some ⟨sFn (C.run i) g.1, fun W X hx => let ⟨f, fd, ps, hm, hl, hk, hb, G⟩ := hx.gv x _ hgl
          se_call G hx.room hx.gd (hx.gl h.1) hm hk hb hx.tk (g.2.1 W X hx) (fun ρ st ds st' e' => by rw [g.2.2 ρ st ds st' e', hl, ← hn]; rfl) (dbg_1 (glB_d h.1)) (star_cons h.2.1) (star_any h.2.2)⟩
      | none => none
      else none
    | some (.fnK i n kws) => if hn : es.length + 1 = n then match cAs c S (e :: es) with
      | some g => some ⟨sFnD (C.run i) (kws.map (·.2)) g.1, fun W X hx => let ⟨f, fd, ps, dus, dvs, hm, hl, hk, hb, hdv, hdd, _, G⟩ := hx.gv x _ hgl
          se_callD G hx.room hx.gd (hx.gl h.1) hm hk hb hdv hdd hx.tk (g.2.1 W X hx) (fun ρ st ds st' e' => by rw [g.2.2 ρ st ds st' e', hl, ← hn, List.length_map]; rfl) (dbg_1 (glB_d h.1)) (star_cons h.2.1) (star_any h.2.2)⟩
      | none => none
      else none
    | some (.fnD i n df) => if hn : es.length + 1 = n then match cAs c S (e :: es) with
      | some g => some ⟨sFnD (C.run i) df g.1, fun W X hx => let ⟨f, fd, ps, dus, dvs, hm, hl, hk, _, hb, hdv, hdd, G⟩ := hx.gv x _ hgl
          se_callD G hx.room hx.gd (hx.gl h.1) hm hk hb hdv hdd hx.tk (g.2.1 W X hx) (fun ρ st ds st' e' => by rw [g.2.2 ρ st ds st' e', hl, ← hn]; rfl) (dbg_1 (glB_d h.1)) (star_cons h.2.1) (star_any h.2.2)⟩
      | none => none
      else if hn : es.length + 1 = n + df.length then match cAs c S (e :: es) with
      | some g => some ⟨sFn (C.run i) g.1, fun W X hx => let ⟨f, fd, ps, dus, dvs, hm, hl, hk, hb, _, _, _, G⟩ := hx.gv x _ hgl
          se_call G hx.room hx.gd (hx.gl h.1) hm hk hb hx.tk (g.2.1 W X hx) (fun ρ st ds st' e' => by rw [g.2.2 ρ st ds st' e', hl, ← hn]; rfl) (dbg_1 (glB_d h.1)) (star_cons h.2.1) (star_any h.2.2)⟩
      | none => none
      else none
    | _ => none
  else none
abbrev OKs (C : Con) (S : Sta) (ks : List Keyword) := Option { g : Env' → M (List D) // (∀ W X, XO C S W X → PK X ks (TAs X.K C.fld W g)) ∧ ∀ ρ st ds st', g ρ st = .ok ds st' → ds.length = ks.length }
def cKs (c : Cmp C) (S : Sta) : (ks : List Keyword) → OKs C S ks
  | [] => some ⟨sNil, fun _ _ _ => sk_nil, fun ρ st ds st' e => by cases e; rfl⟩
  | ⟨nm, e, kp'⟩ :: ks => match c.e S e, cKs c S ks with
    | some f, some g => some ⟨sCons (kp f.1) g.1, fun W X h => sk_cons (TN.kp (f.2 W X h)) (g.2.1 W X h), cons_len g.2.2⟩
    | _, _ => none
def kwNm : List Keyword → Option (List Str)
  | [] => some []
  | ⟨some n, _, _⟩ :: ks => (kwNm ks).map (n :: ·)
  | ⟨none, _, _⟩ :: _ => none
theorem kw_facts {env : Env} {pos : Pos} : ∀ {ks : List Keyword} {ns : List Str}, kwNm ks = some ns → (backToKw pos (keywordEach ks env)).all (·.1.isSome) = true ∧ (backToKw pos (keywordEach ks env)).filterMap (·.1) = ns ∧ (backToKw pos (keywordEach ks env)).any (·.1.isNone) = false
  | [], _, h => by cases h; exact ⟨rfl, rfl, rfl⟩
  | ⟨some n, e, p⟩ :: ks, _, h => by
    cases h2 : kwNm ks with
    | none => simp [kwNm, h2] at h
    | some ms =>
      simp [kwNm, h2] at h
      subst h
      obtain ⟨q1, q2, q3⟩ := kw_facts (env := env) (pos := pos) h2
      refine ⟨?_, ?_, ?_⟩
      · show (true && _) = true
        rw [Bool.true_and]
        exact q1
      · show n :: _ = _
        exact congrArg (n :: ·) q2
      · show (false || _) = false
        rw [Bool.false_or]
        exact q3
  | ⟨none, _, _⟩ :: _, _, h => by cases h
/-- a call with keywords -/
def cCallK (c : Cmp C) (S : Sta) (x : Str) (p : Pos) (e : Expr) (es : List Expr) (ks : List Keyword) (pos : Pos) : OE C S (.Call (.Name x p) (e :: es) ks pos) :=
  if h : glB S.sc x = true ∧ nst e = true ∧ es.all nst = true then match hgl : C.gl x with
    | some (.fnK i n kws) => if hn : es.length + 1 = n ∧ kwNm ks = some (kws.map (·.1)) ∧ ks.length = kws.length then match cAs c S (e :: es), cKs c S ks with
      | some g, some gk => some ⟨sFnK (C.run i) g.1 gk.1, fun W X hx => let ⟨f, fd, ps, dus, dvs, hm, hl, hk, _, _, _, hb, G⟩ := hx.gv x _ hgl
          se_callK G hx.room hx.gd (hx.gl h.1) hm hk hb hx.tk (g.2.1 W X hx) (gk.2.1 W X hx) (by rw [hl, List.length_map]) (fun ρ st ds st' e' => by rw [g.2.2 ρ st ds st' e', ← hn.1]; rfl) (fun ρ st ds st' e' => by rw [gk.2.2 ρ st ds st' e', hn.2.2, List.length_map]) (kw_facts hn.2.1).1 (kw_facts hn.2.1).2.1
            (dbg_1 (glB_d h.1)) (star_cons h.2.1) (by rw [star_any (es := e :: es) (by rw [List.all_cons, h.2.1, h.2.2]; rfl), (kw_facts hn.2.1).2.2]; rfl)⟩
      | _, _ => none
      else none
    | _ => none
  else none
/-- sorted(set(e)), len(set(e)) -/
def cSoSet (c : Cmp C) (S : Sta) (x : Str) (p : Pos) (y : Str) (yp : Pos) (e : Expr) (rpos pos : Pos) : OE C S (.Call (.Name x p) [.Call (.Name y yp) [e] [] rpos] [] pos) :=
  if h : y = "set" ∧ glB S.sc x = true ∧ glB S.sc y = true ∧ nst e = true then match hgl : C.gl x, hgl2 : C.gl y with
    | some (.bfn .sorted), some .it => if hx1 : x = "sorted" then match c.e S e with
      | some f => some ⟨sSortSet (rd f.1), fun W X hx => by
          obtain ⟨rfl, hg, hg2, hn⟩ := h
          subst hx1
          exact se_sortSet hx.calm hx.un (hx.gl hg) (hx.gv _ _ hgl).1 (hx.gl hg2) (hx.gv _ _ hgl2) (TN.rd (f.2 W X hx)) (star_cons hn) (star_cons rfl)⟩
      | none => none
      else none
    | some (.bfn .len), some .it => if hx1 : x = "len" then match c.e S e with
      | some f => some ⟨sLenSet (rd f.1), fun W X hx => by
          obtain ⟨rfl, hg, hg2, hn⟩ := h
          subst hx1
          exact se_lenSet hx.calm hx.un (hx.gl hg) (hx.gv _ _ hgl).1 (hx.gl hg2) (hx.gv _ _ hgl2) (TN.rd (f.2 W X hx)) (star_cons hn) (star_cons rfl)⟩
      | none => none
      else none
    | _, _ => none
  else none
end
end Ev
/-! From the text to its meaning: targets, loops' sources, tests, expressions. -/
namespace Ev
open PySem PySem.Spec PyProof.Rows L2
variable [Tbs] [Hnd]
section
variable {C : Con}
/-! ### targets -/
def cG (C : Con) (S : Sta) : (n : Nat) → (tg : Expr) → OG C S tg
  | 0, _ => none
  | n + 1, .Name x pos => if h : locB S.sc x = true ∧ S.N[S.N.idxOf x]? = some x then
      if h2 : S.st x = true ∨ S.sc.names.lookup x = some .local then
        some ⟨([S.N.idxOf x], gN (S.N.idxOf x)), fun W X hx => sg_name (by rw [hx.N]; exact hx.nd) (by rw [hx.N]; exact h.2) (by rw [hx.sc]; exact loc_of h.1) (by rw [hx.sc]; exact h2.imp (hx.fn x) id)⟩
      else none
    else none
  | n + 1, .Tuple es k pos => if ha : es.all nst = true then
      let rec go : (es : List Expr) → OGs C S es := fun es => match es with
        | [] => some ⟨([], gsNil), fun _ _ _ => sg_nil, len_nil⟩
        | e :: es => if hn : nst e = true then match cG C S n e, go es with
          | some g, some gs => some ⟨(g.1.1 ++ gs.1.1, gsCons g.1.2 gs.1.2), fun W X hx => sg_cons (g.2 W X hx) (gs.2.1 W X hx) (as_cons hn), len_cons gs.2.2⟩
          | _, _ => none
          else none
      match go es with
      | some gs => some ⟨(gs.1.1, gT gs.1.2), fun W X hx => sg_tup hx.calm (gs.2.1 W X hx) gs.2.2 (as_len es) (as_find es ha)⟩
      | none => none
    else none
  | _, _ => none
/-! ### what is gone over -/
theorem all_1 {a : Expr} (h : [a].all nst = true) : nst a = true := by simpa using h
def cRng (c : Cmp C) (S : Sta) (tg : Expr) (x : Str) (p : Pos) (es : List Expr) (pos : Pos) : OI C S tg (.Call (.Name x p) es [] pos) :=
  if h : x = "range" ∧ glB S.sc x = true ∧ es.all nst = true then match hgl : C.gl x with
    | some .it => match es, h.2.2, cAs c S es with
      | [a], ha, some g => some ⟨itR1 g.1, fun W X hx => by
          obtain ⟨rfl, hg, _⟩ := h
          exact si_r1 (hx.gl hg) (hx.gv _ _ hgl) (g.2.1 W X hx) (star_cons (all_1 ha))⟩
      | [a, b], ha, some g => some ⟨itR2 g.1, fun W X hx => by
          obtain ⟨rfl, hg, _⟩ := h
          have ha : nst a = true ∧ nst b = true := by simpa using ha
          have e2 : starEach [b] X.env = [(false, eval b X.env)] := star_cons ha.2
          exact si_r2 (hx.gl hg) (hx.gv _ _ hgl) (g.2.1 W X hx) (by rw [star_cons ha.1, e2]) e2⟩
      | [a, b, d], ha, some g => some ⟨itR3 g.1, fun W X hx => by
          obtain ⟨rfl, hg, _⟩ := h
          have ha : nst a = true ∧ nst b = true ∧ nst d = true := by simpa using ha
          exact si_r3 (hx.gl hg) (hx.gv _ _ hgl) (g.2.1 W X hx) (star_cons ha.1) (star_any (by simp [ha.2.1, ha.2.2]))⟩
      | _, _, _ => none
    | _ => none
  else none
def cZip (c : Cmp C) (S : Sta) (elts : List Expr) (kk : Nat) (tpos : Pos) (x : Str) (p : Pos) (es : List Expr) (pos : Pos) : OI C S (.Tuple elts kk tpos) (.Call (.Name x p) es [] pos) :=
  if h : x = "zip" ∧ glB S.sc x = true ∧ es.all nst = true then match hgl : C.gl x with
    | some .it => match es, h.2.2, cAs c S es with
      | [a, b], ha, some g => some ⟨itZipM g.1, fun W X hx => by
          obtain ⟨rfl, hg, _⟩ := h
          have ha : nst a = true ∧ nst b = true := by simpa using ha
          exact si_zipM (hx.gl hg) (hx.gv _ _ hgl) (g.2.1 W X hx) (star_cons ha.1) (star_any (by simp [ha.2]))⟩
      | _, _, _ => none
    | _ => none
  else none
def cEn (c : Cmp C) (S : Sta) (elts : List Expr) (kk : Nat) (tpos : Pos) (x : Str) (p : Pos) (e : Expr) (ka : Str) (j : Int) (jk : Nat) (jp kp pos : Pos) : OI C S (.Tuple elts kk tpos) (.Call (.Name x p) [e] [⟨some ka, .Constant (.int j) jk jp, kp⟩] pos) :=
  if h : x = "enumerate" ∧ ka = "start" ∧ glB S.sc x = true ∧ nst e = true ∧ bnd j = true then match hgl : C.gl x with
    | some .it => match cAs c S [e] with
      | some g => some ⟨itEn j g.1, fun W X hx => by
          obtain ⟨rfl, rfl, hg, ha, hj⟩ := h
          exact si_en (hx.gl hg) (hx.gv _ _ hgl) (g.2.1 W X hx) (star_cons ha) hj⟩
      | none => none
    | _ => none
  else none
def cEn0 (c : Cmp C) (S : Sta) (elts : List Expr) (kk : Nat) (tpos : Pos) (x : Str) (p : Pos) (es : List Expr) (pos : Pos) : OI C S (.Tuple elts kk tpos) (.Call (.Name x p) es [] pos) :=
  if h : x = "enumerate" ∧ glB S.sc x = true ∧ es.all nst = true then match hgl : C.gl x with
    | some .it => match es, h.2.2, cAs c S es with
      | [e], ha, some g => some ⟨itEn 0 g.1, fun W X hx => by
          obtain ⟨rfl, hg, _⟩ := h
          exact si_en0 (hx.gl hg) (hx.gv _ _ hgl) (g.2.1 W X hx) (star_cons (all_1 ha))⟩
      | _, _, _ => none
    | _ => none
  else none
def cSeq (c : Cmp C) (S : Sta) (tg e : Expr) : OI C S tg e := match c.e S e with
  | some f => some ⟨itS (kp f.1), fun W X hx => si_seq (TN.kp (f.2 W X hx))⟩
  | none => none
def orE {α : Type} : Option α → Option α → Option α
  | some a, _ => some a
  | none, b => b
def cI (c : Cmp C) (S : Sta) : (tg : Expr) → (e : Expr) → OI C S tg e
  | .Tuple elts kk tpos, .Call (.Name x p) [e] [⟨some ka, .Constant (.int j) jk jp, kp⟩] pos => cEn c S elts kk tpos x p e ka j jk jp kp pos
  | .Tuple elts kk tpos, .Call (.Name x p) es [] pos => orE (cZip c S elts kk tpos x p es pos) (orE (cEn0 c S elts kk tpos x p es pos) (orE (cRng c S _ x p es pos) (cSeq c S _ _)))
  | tg, .Call (.Name x p) es [] pos => orE (cRng c S tg x p es pos) (cSeq c S _ _)
  | tg, e => cSeq c S tg e
/-! ### tests -/
def cTru (c : Cmp C) (S : Sta) (e : Expr) : OT C S e := if h : trb e = true then match c.e S e with
  | some f => some ⟨sTru f.1, fun W X hx => st_tru (f.2 W X hx) (tr_ok h)⟩
  | none => none
  else none
def OW (C : Con) (S : Sta) (e : Expr) := Option { f : Env' → M Bool // ∀ W X, XO C S W X → PW X e (TT' X.K C.fld W f) }
def cWs (c : Cmp C) (S : Sta) (o : BoolOp) (pos : Pos) : (es : List Expr) → OW C S (.BoolOp o es pos)
  | [] => none
  | [e] => match c.t S e with
    | some f => match o with
      | .And => some ⟨f.1, fun W X hx => sw_and1 (f.2 W X hx)⟩
      | .Or => some ⟨f.1, fun W X hx => sw_or1 (f.2 W X hx)⟩
    | none => none
  | e :: e2 :: es => match c.t S e, cWs c S o pos (e2 :: es) with
    | some f, some g => match o, g with
      | .And, g => some ⟨sAndT f.1 g.1, fun W X hx => sw_and (f.2 W X hx) (g.2 W X hx)⟩
      | .Or, g => some ⟨sOrT f.1 g.1, fun W X hx => sw_or (f.2 W X hx) (g.2 W X hx)⟩
    | _, _ => none
end
end Ev
/-! From the text to its meaning: the steps for tests and expressions. -/
namespace Ev
open PySem PySem.Spec PyProof.Rows L2
variable [Tbs] [Hnd]
section
variable {C : Con}
/-! ### tests -/
def cCmpT (c : Cmp C) (S : Sta) (a : Expr) (o : CmpOp) (b : Expr) (pos : Pos) : OT C S (.Compare a [o] [b] pos) := match c.e S a, c.e S b, opC o with
  | some f, some g, some op => if h : behindInMarks o b = false then some ⟨sBoolT (sBin op.1 (rd f.1) (rd g.1)), fun W X hx => st_cmp (op.2 X hx.un) (TN.rd (f.2 W X hx)) (TN.rd (g.2 W X hx)) h⟩ else none
  | _, _, _ => none
def cKdT (c : Cmp C) (S : Sta) (a : Expr) (o : CmpOp) (x : Str) (xp pos : Pos) : OT C S (.Compare a [o] [.Name x xp] pos) := if h : glB S.sc x = true then match hgl : C.gl x, c.e S a with
  | some (.kd tbl), some f => match o with
    | .In => some ⟨sBoolT (sUn (kdIn tbl false) (rd f.1)), fun W X hx => let ⟨p, hm, kd⟩ := hx.gv x _ hgl; st_kdin kd (hx.gl h) hm (dbg_1 (glB_d h)) (TN.rd (f.2 W X hx))⟩
    | .NotIn => some ⟨sBoolT (sUn (kdIn tbl true) (rd f.1)), fun W X hx => let ⟨p, hm, kd⟩ := hx.gv x _ hgl; st_kdnin kd (hx.gl h) hm (dbg_1 (glB_d h)) (TN.rd (f.2 W X hx))⟩
    | _ => none
  | _, _ => none
  else none
def stepT (c : Cmp C) (S : Sta) : (e : Expr) → OT C S e
  | .Compare a [o] [.Name x xp] pos => orE (cKdT c S a o x xp pos) (cCmpT c S a o _ pos)
  | .Compare a [o] [b] pos => cCmpT c S a o b pos
  | .Compare a [o, o'] [b, d] pos => match c.e S a, c.e S b, c.e S d, opC o, opC o' with
    | some f, some g, some k, some op, some op' => if h : lastMarks [o, o'] [b, d] = false then
        some ⟨sBoolT (sChain op.1 op'.1 (rd f.1) (rd g.1) (rd k.1)), fun W X hx => st_chain (op.2 X hx.un) (op'.2 X hx.un) (TN.rd (f.2 W X hx)) (TN.rd (g.2 W X hx)) (TN.rd (k.2 W X hx)) h⟩ else none
    | _, _, _, _, _ => none
  | .BoolOp o es pos => match cWs c S o pos es with
    | some f => some ⟨f.1, fun W X hx => (f.2 W X hx).pt⟩
    | none => none
  | .UnaryOp .Not a pos => match c.t S a with
    | some f => some ⟨sNotT f.1, fun W X hx => st_not (f.2 W X hx)⟩
    | none => none
  | e => cTru c S e

/-! ### expressions -/
def cOrs (c : Cmp C) (S : Sta) (o : BoolOp) (pos : Pos) : (es : List Expr) → OE C S (.BoolOp o es pos)
  | [] => none
  | [e] => match c.e S e with
    | some f => some ⟨f.1, fun W X hx => se_one (f.2 W X hx)⟩
    | none => none
  | e :: e2 :: es => match c.e S e, cOrs c S o pos (e2 :: es) with
    | some f, some g => match o, g with
      | .And, g => some ⟨sAndV f.1 g.1, fun W X hx => se_and (f.2 W X hx) (g.2 W X hx)⟩
      | .Or, g => some ⟨sOrV f.1 g.1, fun W X hx => se_or (f.2 W X hx) (g.2 W X hx)⟩
    | _, _ => none
def cCmpE (c : Cmp C) (S : Sta) (a : Expr) (o : CmpOp) (b : Expr) (pos : Pos) : OE C S (.Compare a [o] [b] pos) := match c.e S a, c.e S b, opC o with
  | some f, some g, some op => if h : behindInMarks o b = false then some ⟨sBin op.1 (rd f.1) (rd g.1), fun W X hx => se_cmp (op.2 X hx.un) (TN.rd (f.2 W X hx)) (TN.rd (g.2 W X hx)) h⟩ else none
  | _, _, _ => none
def cKdE (c : Cmp C) (S : Sta) (a : Expr) (o : CmpOp) (x : Str) (xp pos : Pos) : OE C S (.Compare a [o] [.Name x xp] pos) := if h : glB S.sc x = true then match hgl : C.gl x, c.e S a with
  | some (.kd tbl), some f => match o with
    | .In => some ⟨sUn (kdIn tbl false) (rd f.1), fun W X hx => let ⟨p, hm, kd⟩ := hx.gv x _ hgl; se_kdin kd (hx.gl h) hm (dbg_1 (glB_d h)) (TN.rd (f.2 W X hx))⟩
    | .NotIn => some ⟨sUn (kdIn tbl true) (rd f.1), fun W X hx => let ⟨p, hm, kd⟩ := hx.gv x _ hgl; se_kdnin kd (hx.gl h) hm (dbg_1 (glB_d h)) (TN.rd (f.2 W X hx))⟩
    | _ => none
  | _, _ => none
  else none
def cKdX (c : Cmp C) (S : Sta) (x : Str) (xp : Pos) (e : Expr) (pos : Pos) : OE C S (.Subscript (.Name x xp) e pos) := if h : glB S.sc x = true ∧ pix e = true then match hgl : C.gl x, c.e S e with
  | some (.kd tbl), some f => some ⟨sUn (kdIx tbl) (rd f.1), fun W X hx => let ⟨p, hm, kd⟩ := hx.gv x _ hgl; se_kdix kd (hx.gl h.1) hm (dbg_1 (glB_d h.1)) (TN.rd (f.2 W X hx)) (plain_ix h.2)⟩
  | _, _ => none
  else none
abbrev OPt (C : Con) (S : Sta) (e : Option Expr) := Option { f : Env' → M (Option Int) // ∀ W X, XO C S W X → PO X e (TP X.K C.fld W f) }
def cPt (c : Cmp C) (S : Sta) : (e : Option Expr) → OPt C S e
  | none => some ⟨sPN, fun _ _ _ => sp_none⟩
  | some e => match c.e S e with
    | some f => some ⟨sPS (rd f.1), fun W X hx => sp_some (TN.rd (f.2 W X hx))⟩
    | none => none
def cIx (c : Cmp C) (S : Sta) (a b : Expr) (pos : Pos) : OE C S (.Subscript a b pos) := if h : pix b = true then match c.e S a, c.e S b with
  | some f, some g => some ⟨sBinS ixSt (rd f.1) (rd g.1), fun W X hx => se_ixS (ix_all (by have := hx.un; omega)) (TN.rd (f.2 W X hx)) (TN.rd (g.2 W X hx)) (plain_ix h)⟩
  | _, _ => none
  else none
def ownOf (N : List Str) (scope : Scope) : List (Str × Nat) := scope.names.filterMap fun y => match y.2 with
  | .local => if y.1 ∈ N then some (y.1, N.idxOf y.1) else none
  | .cell => if y.1 ∈ N then some (y.1, N.idxOf y.1) else none
  | _ => none
structure LcP (C : Con) (S : Sta) (elt tg iter : Expr) (ifs : List Expr) (scope : Scope) where
  it : Env' → M (List D)
  is : List Nat
  g : D → Env' → Option Env'
  c : Env' → M Bool
  el : Env' → M D
  ok : blkC S.N S.sc scope (ownOf S.N scope) = true
  sub : ∀ i ∈ is, i ∈ (ownOf S.N scope).map (·.2)
  hi : ∀ W X, XO C S W X → PI X tg iter (TWk X.K C.fld W it)
  hg : ∀ W X, XO C (S.blk scope) W X → PG X tg (TGd X.K is g)
  ht : ∀ W X, XO C (S.blk scope) W X → PTs X ifs (TT' X.K C.fld W c)
  he : ∀ W X, XO C (S.blk scope) W X → PE X elt (TS' X.K C.fld W el)
  hs : nset iter = true
abbrev OPs (C : Con) (S : Sta) (es : List Expr) := Option { f : Env' → M Bool // ∀ W X, XO C S W X → PTs X es (TT' X.K C.fld W f) }
def cPs (c : Cmp C) (S : Sta) : (es : List Expr) → OPs C S es
  | [] => some ⟨sYes, fun _ _ _ => sp_nil⟩
  | [e] => match c.t S e with
    | some f => some ⟨f.1, fun W X hx => sp_one (f.2 W X hx)⟩
    | none => none
  | _ => none
def cLcP (c : Cmp C) (S : Sta) (elt tg iter : Expr) (ifs : List Expr) (scope : Scope) : Option (LcP C S elt tg iter ifs scope) :=
  if h : blkC S.N S.sc scope (ownOf S.N scope) = true ∧ nset iter = true then match cI c S tg iter, cG C (S.blk scope) 5 tg, cPs c (S.blk scope) ifs, c.e (S.blk scope) elt with
    | some it, some g, some t, some f => if hs : ∀ i ∈ g.1.1, i ∈ (ownOf S.N scope).map (·.2) then
        some ⟨it.1, g.1.1, g.1.2, t.1, kp f.1, h.1, hs, it.2, g.2, t.2, fun W X hx => TN.kp (f.2 W X hx), h.2⟩ else none
    | _, _, _, _ => none
  else none
theorem lcp_blk {S : Sta} {scope : Scope} {W : WX} {X : Cx} (hx : XO C S W X) (ok : blkC S.N S.sc scope (ownOf S.N scope) = true) : BlkOk X.N X.env.scope scope (ownOf S.N scope) := by
  rw [hx.N, hx.sc]
  exact blkOk_by ok
theorem lcp_kind {S : Sta} {scope : Scope} (ok : blkC S.N S.sc scope (ownOf S.N scope) = true) : scope.kind = .function := (blkOk_by ok).kind
def LcP.sem {S : Sta} {elt tg iter : Expr} {ifs : List Expr} {scope : Scope} (p : LcP C S elt tg iter ifs scope) : Env' → M RV := sLc p.it p.g p.c p.el ((ownOf S.N scope).map (·.2))
theorem LcP.pe {S : Sta} {elt tg iter : Expr} {ifs : List Expr} {scope : Scope} {pos : Pos} (p : LcP C S elt tg iter ifs scope) (W : WX) (X : Cx) (hx : XO C S W X) : PE X (.ListComp elt [⟨tg, iter, ifs, 0⟩] scope pos) (TN X.K C.fld W p.sem) :=
  se_lc hx.calm (by rw [hx.N]; exact hx.nd) hx.fx hx.tkh (p.hi W X hx) (lcp_blk hx p.ok) p.sub (fun s H Ca cl fp σ => p.hg _ _ (hx.blkE scope (lcp_kind p.ok) s H Ca cl fp σ)) (fun s H Ca cl fp σ => p.ht _ _ (hx.blkE scope (lcp_kind p.ok) s H Ca cl fp σ))
    (fun s H Ca cl fp σ => p.he _ _ (hx.blkE scope (lcp_kind p.ok) s H Ca cl fp σ)) (fold_no p.hs)
structure LcP2 (C : Con) (S : Sta) (elt tg iter : Expr) (ifs : List Expr) (tg1 iter1 : Expr) (ifs1 : List Expr) (scope : Scope) where
  it : Env' → M (List D)
  is : List Nat
  g : D → Env' → Option Env'
  c : Env' → M Bool
  it1 : Env' → M (List D)
  is1 : List Nat
  g1 : D → Env' → Option Env'
  c1 : Env' → M Bool
  el : Env' → M D
  ok : blkC S.N S.sc scope (ownOf S.N scope) = true
  sub : ∀ i ∈ is, i ∈ (ownOf S.N scope).map (·.2)
  sub1 : ∀ i ∈ is1, i ∈ (ownOf S.N scope).map (·.2)
  hi : ∀ W X, XO C S W X → PI X tg iter (TWk X.K C.fld W it)
  hg : ∀ X, XO C (S.blk scope) WF X → PG X tg (TGd X.K is g)
  ht : ∀ X, XO C (S.blk scope) WF X → PTs X ifs (TT' X.K C.fld WF c)
  hi1 : ∀ X, XO C (S.blk scope) WF X → PI X tg1 iter1 (TWk X.K C.fld WF it1)
  hg1 : ∀ X, XO C (S.blk scope) WF X → PG X tg1 (TGd X.K is1 g1)
  ht1 : ∀ X, XO C (S.blk scope) WF X → PTs X ifs1 (TT' X.K C.fld WF c1)
  he : ∀ X, XO C (S.blk scope) WF X → PE X elt (TS' X.K C.fld WF el)
  hs : nset iter = true
  hs1 : nset iter1 = true
def cLcP2 (c : Cmp C) (S : Sta) (elt tg iter : Expr) (ifs : List Expr) (tg1 iter1 : Expr) (ifs1 : List Expr) (scope : Scope) : Option (LcP2 C S elt tg iter ifs tg1 iter1 ifs1 scope) :=
  if h : blkC S.N S.sc scope (ownOf S.N scope) = true ∧ nset iter = true ∧ nset iter1 = true then match cI c S tg iter, cG C (S.blk scope) 5 tg, cPs c (S.blk scope) ifs, cI c (S.blk scope) tg1 iter1, cG C (S.blk scope) 5 tg1, cPs c (S.blk scope) ifs1, c.e (S.blk scope) elt with
    | some it, some g, some t, some it1, some g1, some t1, some f => if hs : (∀ i ∈ g.1.1, i ∈ (ownOf S.N scope).map (·.2)) ∧ ∀ i ∈ g1.1.1, i ∈ (ownOf S.N scope).map (·.2) then
        some ⟨it.1, g.1.1, g.1.2, t.1, it1.1, g1.1.1, g1.1.2, t1.1, kp f.1, h.1, hs.1, hs.2, it.2, fun X hx => g.2 WF X hx, fun X hx => t.2 WF X hx, fun X hx => it1.2 WF X hx, fun X hx => g1.2 WF X hx, fun X hx => t1.2 WF X hx, fun X hx => TN.kp (f.2 WF X hx), h.2.1, h.2.2⟩ else none
    | _, _, _, _, _, _, _ => none
  else none
def LcP2.sem {S : Sta} {elt tg iter : Expr} {ifs : List Expr} {tg1 iter1 : Expr} {ifs1 : List Expr} {scope : Scope} (p : LcP2 C S elt tg iter ifs tg1 iter1 ifs1 scope) : Env' → M RV := sLc2 p.it p.g p.c p.it1 p.g1 p.c1 p.el ((ownOf S.N scope).map (·.2)) p.is1
theorem LcP2.pe {S : Sta} {elt tg iter : Expr} {ifs : List Expr} {tg1 iter1 : Expr} {ifs1 : List Expr} {scope : Scope} {pos : Pos} (p : LcP2 C S elt tg iter ifs tg1 iter1 ifs1 scope) (W : WX) (X : Cx) (hx : XO C S W X) : PE X (.ListComp elt [⟨tg, iter, ifs, 0⟩, ⟨tg1, iter1, ifs1, 0⟩] scope pos) (TN X.K C.fld W p.sem) :=
  se_lc2 hx.calm (by rw [hx.N]; exact hx.nd) (p.hi W X hx) (lcp_blk hx p.ok) p.sub (fun _ h => h) p.sub1 (fun s H Ca cl fp => p.hg _ (hx.blk scope (lcp_kind p.ok) s H Ca cl fp)) (fun s H Ca cl fp => p.ht _ (hx.blk scope (lcp_kind p.ok) s H Ca cl fp))
    (fun s H Ca cl fp => p.hi1 _ (hx.blk scope (lcp_kind p.ok) s H Ca cl fp)) (fun s H Ca cl fp => p.hg1 _ (hx.blk scope (lcp_kind p.ok) s H Ca cl fp)) (fun s H Ca cl fp => p.ht1 _ (hx.blk scope (lcp_kind p.ok) s H Ca cl fp)) (fun s H Ca cl fp => p.he _ (hx.blk scope (lcp_kind p.ok) s H Ca cl fp))
    (fold_no p.hs) (fun env => fold_no p.hs1)
def toC (S : Sta) (e : Expr) (pos : Pos) (r : OE C S e) : OE C S e := if (pos.line, pos.col) ∈ S.cl then match r with
  | some f => some ⟨toCell f.1, fun W X hx => se_cell (f.2 W X hx)⟩
  | none => none
  else r
abbrev OD (C : Con) (S : Sta) (pos : Pos) (keys : List (Option Expr)) (vals : List Expr) := Option { p : List Str × (Env' → M (List D)) // ∀ W X, XO C S W X → PD X X.K C.fld W pos keys vals p.1 p.2 }
def cDs (c : Cmp C) (S : Sta) (pos : Pos) : (keys : List (Option Expr)) → (vals : List Expr) → OD C S pos keys vals
  | [], [] => some ⟨([], sNil), fun _ _ _ => pd_nil⟩
  | some (.Constant (.str k) jk kp') :: keys, v :: vals => match c.e S v, cDs c S pos keys vals with
    | some f, some g => some ⟨(k :: g.1.1, sCons (kp f.1) g.1.2), fun W X hx => pd_cons (TN.kp (f.2 W X hx)) (g.2 W X hx)⟩
    | _, _ => none
  | _, _ => none
theorem ne_nil {α : Type} {l : List α} (h : l.isEmpty = false) : l ≠ [] := by
  rintro rfl
  cases h
def cDict (c : Cmp C) (S : Sta) (keys : List (Option Expr)) (vals : List Expr) (pos : Pos) : OE C S (.Dict keys vals pos) := match cDs c S pos keys vals with
  | some g => if h : keys.all (·.isSome) = true ∧ keys.length = vals.length ∧ keys.isEmpty = false ∧ keys.length ≤ 15 ∧ g.1.1.length ≤ 15 ∧ g.1.1.Nodup then
      some ⟨sDict g.1.1 g.1.2, fun W X hx => se_dict (g.2 W X hx) h.1 h.2.1 (ne_nil h.2.2.1) h.2.2.2.1 h.2.2.2.2.1 h.2.2.2.2.2⟩ else none
  | none => none
/-- list(range(..)) -/
def cLR (c : Cmp C) (S : Sta) (x : Str) (p : Pos) (y : Str) (yp : Pos) (es : List Expr) (rpos pos : Pos) : OE C S (.Call (.Name x p) [.Call (.Name y yp) es [] rpos] [] pos) :=
  if h : x = "list" ∧ y = "range" ∧ glB S.sc x = true ∧ glB S.sc y = true ∧ es.all nst = true then match hgl : C.gl x, hgl2 : C.gl y with
    | some (.bty _), some .it => match es, h.2.2.2.2 with
      | [a], ha => match c.e S a with
        | some f => some ⟨sLR1 (rd f.1), fun W X hx => by
            obtain ⟨rfl, rfl, hg, hg2, _⟩ := h
            exact se_lr1 hx.calm (hx.gl hg) (hx.gv _ _ hgl).1 (hx.gl hg2) (hx.gv _ _ hgl2) (TN.rd (f.2 W X hx)) (star_cons (all_1 ha)) (star_cons rfl)⟩
        | none => none
      | [a, b], ha => match c.e S a, c.e S b with
        | some f, some g => some ⟨sLR2 (rd f.1) (rd g.1), fun W X hx => by
            obtain ⟨rfl, rfl, hg, hg2, _⟩ := h
            have ha : nst a = true ∧ nst b = true := by simpa using ha
            exact se_lr2 hx.calm (hx.gl hg) (hx.gv _ _ hgl).1 (hx.gl hg2) (hx.gv _ _ hgl2) (TN.rd (f.2 W X hx)) (TN.rd (g.2 W X hx)) (star_cons ha.1) (star_cons ha.2) (star_any (by simp [ha.2])) (star_cons rfl)⟩
        | _, _ => none
      | _, _ => none
    | _, _ => none
  else none
/-- o.append(e), o a cell -/
def cMut (c : Cmp C) (S : Sta) (o : Expr) (m : Str) (apos : Pos) (e : Expr) (pos : Pos) : OE C S (.Call (.Attribute o m apos) [e] [] pos) :=
  if h : m = "append" ∧ nst e = true ∧ atb o = true ∧ (apos.endLine == pos.line) = true then match c.e S o, cAs c S [e] with
    | some f, some g => some ⟨sMutC lAppend (rd f.1) g.1, fun W X hx => by
        obtain ⟨rfl, hn, ho, hl⟩ := h
        exact se_mutC (TN.rd (f.2 W X hx)) F.slot_list_append F.type_list_append mt_append ok_append (g.2.1 W X hx) (at_base ho) (few1 hn) hl (star_cons hn) rfl⟩
    | _, _ => none
  else none
/-- o.count(e), o.index(e) of a list -/
def cMeL (c : Cmp C) (S : Sta) (o : Expr) (m : Str) (apos : Pos) (e : Expr) (pos : Pos) : OE C S (.Call (.Attribute o m apos) [e] [] pos) :=
  if h : nst e = true ∧ atb o = true ∧ (apos.endLine == pos.line) = true then match c.e S o, cAr c S [e] with
    | some f, some g => if h1 : m = "count" then some ⟨sMethL dCount (rd f.1) g.1, fun W X hx => by
        obtain ⟨hn, ho, hl⟩ := h
        subst h1
        exact se_methL (TN.rd (f.2 W X hx)) F.slot_list_count F.type_list_count (mt_dCount hx.un) (g.2 W X hx) (at_base ho) (few1 hn) hl (star_cons hn) rfl⟩
      else if h2 : m = "index" then some ⟨sMethL dIndex (rd f.1) g.1, fun W X hx => by
        obtain ⟨hn, ho, hl⟩ := h
        subst h2
        exact se_methL (TN.rd (f.2 W X hx)) F.slot_list_index F.type_list_index (mt_dIndex hx.un) (g.2 W X hx) (at_base ho) (few1 hn) hl (star_cons hn) rfl⟩
      else none
    | _, _ => none
  else none
def stepE (c : Cmp C) (S : Sta) : (e : Expr) → OE C S e
  | .Name x pos => cName S x pos
  | .Constant (.int i) j pos => some ⟨sC (.int i), fun _ _ _ => se_c pe_int fun _ _ => rfl⟩
  | .Constant (.bool b) j pos => some ⟨sC (.bl b), fun _ _ _ => se_c pe_bl fun _ _ => rfl⟩
  | .Constant (.str x) j pos => some ⟨sC (.str x), fun _ _ _ => se_c pe_str fun _ _ => rfl⟩
  | .Constant .none j pos => some ⟨sC .non, fun _ _ _ => se_c pe_non fun _ _ => rfl⟩
  | .Tuple es k pos => match cAs c S es with
    | some g => some ⟨sTup g.1, fun W X hx => se_tup (g.2.1 W X hx)⟩
    | none => none
  | .List es pos => toC S _ pos (match cAs c S es with
    | some g => some ⟨sLst g.1, fun W X hx => se_lst (g.2.1 W X hx)⟩
    | none => none)
  | .BinOp a o b pos => toC S _ pos (match c.e S a, c.e S b, opB o with
    | some f, some g, some op => some ⟨sBin op.1 (rd f.1) (rd g.1), fun W X hx => se_bin (op.2 X) (TN.rd (f.2 W X hx)) (TN.rd (g.2 W X hx))⟩
    | _, _, _ => none)
  | .UnaryOp .USub a pos => match c.e S a with
    | some f => some ⟨sUn dNeg (rd f.1), fun W X hx => se_un un_dNeg (TN.rd (f.2 W X hx))⟩
    | none => none
  | .UnaryOp .Not a pos => match c.e S a with
    | some f => some ⟨sNotV f.1, fun W X hx => se_not (f.2 W X hx)⟩
    | none => none
  | .BoolOp o es pos => cOrs c S o pos es
  | .Compare a [o] [.Name x xp] pos => orE (cKdE c S a o x xp pos) (cCmpE c S a o _ pos)
  | .Compare a [o] [b] pos => cCmpE c S a o b pos
  | .Compare a [o, o'] [b, d] pos => match c.e S a, c.e S b, c.e S d, opC o, opC o' with
    | some f, some g, some k, some op, some op' => if h : lastMarks [o, o'] [b, d] = false then
        some ⟨sChain op.1 op'.1 (rd f.1) (rd g.1) (rd k.1), fun W X hx => se_chain (op.2 X hx.un) (op'.2 X hx.un) (TN.rd (f.2 W X hx)) (TN.rd (g.2 W X hx)) (TN.rd (k.2 W X hx)) h⟩ else none
    | _, _, _, _, _ => none
  | .IfExp t a b pos => match c.t S t, c.e S a, c.e S b with
    | some t, some f, some g => some ⟨sIf t.1 f.1 g.1, fun W X hx => se_if (t.2 W X hx) (f.2 W X hx) (g.2 W X hx)⟩
    | _, _, _ => none
  | .Subscript a (.Slice lo hi none p2) pos => match c.e S a, cPt c S lo, cPt c S hi with
    | some f, some l, some u => some ⟨sSlice (rd f.1) l.1 u.1, fun W X hx => se_slice (TN.rd (f.2 W X hx)) (l.2 W X hx) (u.2 W X hx)⟩
    | _, _, _ => none
  | .Subscript (.Name x xp) e pos => orE (cKdX c S x xp e pos) (cIx c S _ e pos)
  | .Subscript a b pos => cIx c S a b pos
  | .ListComp elt [⟨tg, iter, ifs, 0⟩] scope pos => toC S _ pos (match cLcP c S elt tg iter ifs scope with
    | some p => some ⟨p.sem, fun W X hx => p.pe W X hx⟩
    | none => none)
  | .ListComp elt [⟨tg, iter, ifs, 0⟩, ⟨tg1, iter1, ifs1, 0⟩] scope pos => toC S _ pos (match cLcP2 c S elt tg iter ifs tg1 iter1 ifs1 scope with
    | some p => some ⟨p.sem, fun W X hx => p.pe W X hx⟩
    | none => none)
  | .Dict keys vals pos => cDict c S keys vals pos
  | .Call (.Name x p) [] [] pos => cTh S x p pos
  | .Call (.Name x p) [.Lambda params body scope lpos] [] pos => cLam c S x p params body scope lpos pos
  | .Call (.Name x p) [.Call (.Name y yp) [e] [] rpos] [] pos => toC S _ pos (orE (cSoSet c S x p y yp e rpos pos) (orE (cLR c S x p y yp [e] rpos pos) (cCall c S x p _ [] pos)))
  | .Call (.Name x p) [.Call (.Name y yp) es [] rpos] [] pos => toC S _ pos (orE (cLR c S x p y yp es rpos pos) (cCall c S x p _ [] pos))
  | .Call (.Name x p) (e :: es) [] pos => toC S _ pos (cCall c S x p e es pos)
  | .Call (.Name x p) (e :: es) (k :: ks) pos => cCallK c S x p e es (k :: ks) pos
  | .Call (.Attribute o m apos) [e] [] pos => orE (cMut c S o m apos e pos) (cMeL c S o m apos e pos)
  | _ => none
def cmpN (C : Con) : Nat → Cmp C
  | 0 => ⟨fun _ _ => none, fun _ _ => none⟩
  | n + 1 => ⟨stepE (cmpN C n), stepT (cmpN C n)⟩
end
end Ev
/-! From the text to its meaning: statements, defs. -/
namespace Ev
open PySem PySem.Spec PyProof.Rows L2
variable [Tbs] [Hnd]
section
variable {C : Con}
/-! ### which names' lists leave the frame's hands -/
mutual
/-- where the value is kept -/
def escK (C : Con) : Nat → Expr → List Str
  | 0, _ => []
  | n + 1, .Name x _ => [x]
  | n + 1, .IfExp t a b _ => escR C n t ++ escK C n a ++ escK C n b
  | n + 1, .BoolOp _ es _ => (es.map (escK C n)).flatten
  | n + 1, e => escR C n e
/-- where it is read -/
def escR (C : Con) : Nat → Expr → List Str
  | 0, _ => []
  | n + 1, .Tuple es _ _ => (es.map (escK C n)).flatten
  | n + 1, .List es _ => (es.map (escK C n)).flatten
  | n + 1, .BinOp a _ b _ => escR C n a ++ escR C n b
  | n + 1, .UnaryOp _ a _ => escR C n a
  | n + 1, .BoolOp _ es _ => (es.map (escR C n)).flatten
  | n + 1, .Compare a _ es _ => escR C n a ++ (es.map (escR C n)).flatten
  | n + 1, .IfExp t a b _ => escR C n t ++ escR C n a ++ escR C n b
  | n + 1, .Subscript a b _ => escR C n a ++ escR C n b
  | n + 1, .Slice a b c _ => ((a.map (escR C n)).getD []) ++ ((b.map (escR C n)).getD []) ++ ((c.map (escR C n)).getD [])
  | n + 1, .ListComp elt gs _ _ => escK C n elt ++ (gs.map fun g => escK C n g.iter ++ (g.ifs.map (escR C n)).flatten).flatten
  | n + 1, .Dict _ vs _ => (vs.map (escK C n)).flatten
  | n + 1, .Call (.Name x _) es ks _ => (match C.gl x with
    | some (.bfn _) => (es.map (escR C n)).flatten
    | some (.bty _) => (es.map (escR C n)).flatten
    | some .comb => (es.map (escR C n)).flatten
    | some .it => if x = "enumerate" ∨ x = "zip" then (es.map (escK C n)).flatten else (es.map (escR C n)).flatten
    | _ => (es.map (escK C n)).flatten ++ (ks.map fun k => escK C n k.value).flatten)
  | n + 1, .Lambda _ _ scope _ => scope.names.filterMap fun y => if y.2 = .free then some y.1 else none
  | n + 1, .Call (.Attribute o m _) es _ _ => escR C n o ++ (if m = "count" ∨ m = "index" then (es.map (escR C n)).flatten else (es.map (escK C n)).flatten)
  | n + 1, _ => []
end
def slots (S : Sta) (xs : List Str) : List Nat := (xs.eraseDups.filter fun x => visB S.sc x && decide (S.N[S.N.idxOf x]? = some x)).map S.N.idxOf
abbrev OS (C : Con) (S : Sta) (s : Stmt) := Option { f : SS // ∀ W X H0 ca0, XO C S W X → PS X s (TSt X.K C.fld W H0 ca0 f) }
abbrev OSs (C : Con) (S : Sta) (ss : List Stmt) := Option { f : SS // ∀ W X H0 ca0, XO C S W X → PSs X ss (TSt X.K C.fld W H0 ca0 f) }
def frz {S : Sta} {s : Stmt} (is : List Nat) (r : OS C S s) : OS C S s := match is, r with
  | [], r => r
  | is, some f => some ⟨sFrz is f.1, fun W X H0 ca0 hx => ss_frz is (f.2 W X H0 ca0 hx)⟩
  | _, none => none
theorem PS.or {X : Cx} {s : Stmt} {t u : TS} (h : PS X s t) (g : PS X s u) : PS X s (fun D σ H => t D σ H ∨ u D σ H) := ⟨fun pins s1 σ H D I q => by
  rcases q with q | q
  · exact h.run pins s1 σ H D I q
  · exact g.run pins s1 σ H D I q⟩
/-- name[i] = e: of a list of the frame's own, or of a cell -/
def sSetN (k : Nat) (f fi : Env' → M D) : SS := fun ρ st => match ρ[k]? with
  | some (.own _) => sSetOwn k f fi ρ st
  | _ => sSetIx f (rd (sVar k)) fi ρ st
theorem ss_setN {X : Cx} {K : PySem.W.Frag} {fld : Str → List Str} {W : WX} {H0 : Hp} {ca0 : List Addr} {s : Stmt} {k : Nat} {f fi : Env' → M D} (h1 : PS X s (TSt K fld W H0 ca0 (sSetOwn k f fi))) (h2 : PS X s (TSt K fld W H0 ca0 (sSetIx f (rd (sVar k)) fi))) : PS X s (TSt K fld W H0 ca0 (sSetN k f fi)) := by
  refine PS.imp (PS.or h1 h2) fun D σ H ⟨ρ, st, ca, hf, hsr, hp⟩ => ?_
  unfold sSetN at hp
  split at hp
  · exact .inl ⟨ρ, st, ca, hf, hsr, hp⟩
  · exact .inr ⟨ρ, st, ca, hf, hsr, hp⟩
theorem sw_false {elt : Expr} {gs : List Comprehension} {scope : Scope} {pos py : Pos} {y : Str} {l : Nat} {env : Env} (hy : env.scope.names.lookup y ≠ some .local ∨ (py.line == pos.line) = false) : swapsWith (.ListComp elt gs scope pos) (some (.Name y py)) l env = pure false := by
  have e : (env.blockKind == .function && env.kindOf y == some .local && py.line == pos.line && !(scope.names.any fun (n, k) => n == y && (k == .local || k == .cell))) = false := by
    rcases hy with h | h
    · have : (env.kindOf y == some NameKind.local) = false := by
        rw [beq_eq_false_iff_ne]
        exact h
      rw [this]
      simp
    · rw [h]
      simp
  unfold swapsWith
  simp only [Expr.pos]
  rw [e]
def locS (S : Sta) (x : Str) : Bool := decide (S.sc.names.lookup x = some .local)
/-- name = e -/
def cSet (c : Cmp C) (S : Sta) (x : Str) (px : Pos) (e : Expr) (pos : Pos) : OS C S (.Assign [.Name x px] e pos) :=
  if h : locB S.sc x = true ∧ S.N[S.N.idxOf x]? = some x ∧ nlc e = true ∧ (S.st x = true ∨ S.sc.names.lookup x = some .local) then match c.e S e with
    | some f => some ⟨sSet (S.N.idxOf x) f.1, fun W X H0 ca0 hx => ss_set (by rw [hx.N]; exact hx.nd) (by rw [hx.N]; exact h.2.1) (by rw [hx.sc]; exact loc_of h.1) (f.2 W X hx) (sw_no h.2.2.1) (by rw [hx.sc]; exact h.2.2.2.imp (hx.fn x) id)⟩
    | none => none
  else none
def cSetLc (c : Cmp C) (S : Sta) (x : Str) (px : Pos) (elt tg iter : Expr) (ifs : List Expr) (scope : Scope) (lpos pos : Pos) : OS C S (.Assign [.Name x px] (.ListComp elt [⟨tg, iter, ifs, 0⟩] scope lpos) pos) :=
  if h : locB S.sc x = true ∧ S.N[S.N.idxOf x]? = some x ∧ (S.st x = true ∨ S.sc.names.lookup x = some .local) then
    if h2 : S.sc.names.lookup x ≠ some .local ∨ (px.line == lpos.line) = false then match c.e S (.ListComp elt [⟨tg, iter, ifs, 0⟩] scope lpos) with
      | some f => some ⟨sSet (S.N.idxOf x) f.1, fun W X H0 ca0 hx => ss_set (by rw [hx.N]; exact hx.nd) (by rw [hx.N]; exact h.2.1) (by rw [hx.sc]; exact loc_of h.1) (f.2 W X hx) (sw_false (by rw [hx.sc]; exact h2)) (by rw [hx.sc]; exact h.2.2.imp (hx.fn x) id)⟩
      | none => none
    else if h3 : (scope.names.any fun (n, k) => n == x && (k == .local || k == .cell)) = false then match cLcP c S elt tg iter ifs scope with
      | some p => some ⟨sSet (S.N.idxOf x) p.sem, fun W X H0 ca0 hx => by
          have hl : S.sc.names.lookup x = some .local := Classical.byContradiction fun z => h2 (.inl z)
          have hp : (px.line == lpos.line) = true := by
            cases q : (px.line == lpos.line) with
            | true => rfl
            | false => exact absurd (.inr q) h2
          exact ss_setLc hx.calm (by rw [hx.N]; exact hx.nd) hx.fx hx.tkh (by rw [hx.N]; exact h.2.1) (by rw [hx.sc]; exact hl) (sw_true (by rw [hx.sc]; exact hx.kind) (by rw [hx.sc]; exact hl) hp h3) (p.hi W X hx) (lcp_blk hx p.ok) p.sub
            (fun s H Ca cl fp σ => p.hg _ _ (hx.blkE scope (lcp_kind p.ok) s H Ca cl fp σ)) (fun s H Ca cl fp σ => p.ht _ _ (hx.blkE scope (lcp_kind p.ok) s H Ca cl fp σ)) (fun s H Ca cl fp σ => p.he _ _ (hx.blkE scope (lcp_kind p.ok) s H Ca cl fp σ)) (fold_no p.hs)⟩
      | none => none
    else none
  else none
def cSetLcG (c : Cmp C) (S : Sta) (x : Str) (px : Pos) (elt : Expr) (gs : List Comprehension) (scope : Scope) (lpos pos : Pos) : OS C S (.Assign [.Name x px] (.ListComp elt gs scope lpos) pos) :=
  if h : (locB S.sc x = true ∧ S.N[S.N.idxOf x]? = some x ∧ (S.st x = true ∨ S.sc.names.lookup x = some .local)) ∧ (S.sc.names.lookup x ≠ some .local ∨ (px.line == lpos.line) = false) then match c.e S (.ListComp elt gs scope lpos) with
      | some f => some ⟨sSet (S.N.idxOf x) f.1, fun W X H0 ca0 hx => ss_set (by rw [hx.N]; exact hx.nd) (by rw [hx.N]; exact h.1.2.1) (by rw [hx.sc]; exact loc_of h.1.1) (f.2 W X hx) (sw_false (by rw [hx.sc]; exact h.2)) (by rw [hx.sc]; exact h.1.2.2.imp (hx.fn x) id)⟩
      | none => none
  else none
def nloc (sc : Scope) : Expr → Bool
  | .Name x _ => !decide (sc.names.lookup x = some .local)
  | _ => true
theorem fm_lt {α β : Type} (f : α → Option β) : ∀ (l : List α), (∃ t ∈ l, f t = none) → (l.filterMap f).length < l.length
  | [], ⟨_, h, _⟩ => by cases h
  | a :: l, ⟨t, ht, h⟩ => by
    have le : (l.filterMap f).length ≤ l.length := List.length_filterMap_le f l
    rw [List.filterMap_cons]
    cases ha : f a with
    | none => simp only [List.length_cons]; omega
    | some b =>
      rcases List.mem_cons.mp ht with rfl | ht
      · rw [ha] at h; cases h
      · have := fm_lt f l ⟨t, ht, h⟩
        simp only [List.length_cons]
        omega
theorem sst_nloc {ts : List Expr} {kt : Nat} {pt : Pos} {e : Expr} {env : Env} (h : ts.any (nloc env.scope) = true) : swappedStores [.Tuple ts kt pt] e env = pure none := by
  obtain ⟨t, ht, hn⟩ := List.any_eq_true.mp h
  have key : ∀ line : Nat, ((ts.filterMap fun
      | .Name id pos => if env.kindOf id == some .local && pos.line == line then some id else none
      | _ => none).length != ts.length) = true := fun line => by
    have := fm_lt (fun (e : Expr) => match e with
      | .Name id pos => if env.kindOf id == some .local && pos.line == line then some id else none
      | _ => none) ts ⟨t, ht, by
        cases t with
        | Name x p =>
          have hx : ¬ env.scope.names.lookup x = some .local := by simpa [nloc] using hn
          have : (env.kindOf x == some NameKind.local) = false := beq_eq_false_iff_ne.mpr hx
          simp [this]
        | _ => rfl⟩
    exact bne_iff_ne.mpr (Nat.ne_of_lt this)
  unfold swappedStores
  cases e with
  | Tuple vs k2 p2 =>
    dsimp only
    split
    · rfl
    · split
      · rfl
      · refine (if_pos ?_)
        rw [Bool.or_eq_true]
        exact .inl (key _)
  | _ => rfl
/-- a tuple of names = e -/
def cAsT (c : Cmp C) (S : Sta) (ts : List Expr) (kt : Nat) (pt : Pos) (e : Expr) (pos : Pos) : OS C S (.Assign [.Tuple ts kt pt] e pos) :=
  if h : nlc e = true ∧ (ts.any (nloc S.sc) = true ∨ ntp e = true ∨ (match e with | .Tuple vs _ _ => vs.all (foldedForSure 8) | _ => false) = true) then match cG C S 5 (.Tuple ts kt pt), c.e S e with
    | some g, some f => some ⟨sAsgT (kp f.1) g.1.2, fun W X H0 ca0 hx => ss_asg (TN.kp (f.2 W X hx)) (g.2 W X hx) (sws_no h.1) (by
        rcases h.2 with h2 | h2 | h2
        · exact sst_nloc (by rw [hx.sc]; exact h2)
        · exact sst_no h2
        · cases e with
          | Tuple vs k2 pt2 => exact sw_const h2
          | _ => cases h2) rfl⟩
    | _, _ => none
  else none
def cPar (c : Cmp C) (S : Sta) (x : Str) (px : Pos) (y : Str) (py : Pos) (kt : Nat) (pt : Pos) (a b : Expr) (k2 : Nat) (pt2 pos : Pos) : OS C S (.Assign [.Tuple [.Name x px, .Name y py] kt pt] (.Tuple [a, b] k2 pt2) pos) :=
  if h : (S.sc.names.lookup x = some .local ∧ S.sc.names.lookup y = some .local) ∧ (S.N[S.N.idxOf x]? = some x ∧ S.N[S.N.idxOf y]? = some y ∧ S.N.idxOf x ≠ S.N.idxOf y) ∧ (px.line = py.line ∧ x ≠ y ∧ nst a = true ∧ nst b = true) ∧
      (foldedForSure 8 a && foldedForSure 8 b) = false ∧ (constantsAlone 8 a && constantsAlone 8 b) = false then match cAs c S [a, b] with
    | some g => some ⟨sPar (S.N.idxOf x) (S.N.idxOf y) g.1, fun W X H0 ca0 hx => by
        obtain ⟨⟨h1, h2⟩, ⟨h3, h4, h5⟩, ⟨h6, h7, h8, h9⟩, h10, h11⟩ := h
        have e1 : X.env.scope.names.lookup x = some .local := by rw [hx.sc]; exact h1
        have e2 : X.env.scope.names.lookup y = some .local := by rw [hx.sc]; exact h2
        have hb : X.env.blockKind = .function := by unfold Env.blockKind; rw [hx.sc, hx.kind]; rfl
        exact ss_par hx.calm (by rw [hx.N]; exact hx.nd) (by rw [hx.N]; exact h3) (by rw [hx.N]; exact h4) h5 e1 e2 (g.2.1 W X hx) (sw_two hb e1 e2 h6 h7 h8 h9 h10 h11) rfl⟩
    | none => none
  else none
/-- gives a new list -/
def frE : Expr → Bool
  | .List _ _ => true
  | .ListComp _ _ _ _ => true
  | .Call (.Name x _) _ _ _ => decide (x = "list") || decide (x = "sorted")
  | _ => false
def cParR (c : Cmp C) (S : Sta) (x : Str) (px : Pos) (y : Str) (py : Pos) (kt : Nat) (pt : Pos) (a b : Expr) (k2 : Nat) (pt2 pos : Pos) : OS C S (.Assign [.Tuple [.Name x px, .Name y py] kt pt] (.Tuple [a, b] k2 pt2) pos) :=
  if h : (S.sc.names.lookup x = some .local ∧ S.sc.names.lookup y = some .local) ∧ (S.N[S.N.idxOf x]? = some x ∧ S.N[S.N.idxOf y]? = some y ∧ S.N.idxOf x ≠ S.N.idxOf y) ∧ (px.line = py.line ∧ x ≠ y ∧ nst a = true ∧ nst b = true) ∧
      ((foldedForSure 8 a && foldedForSure 8 b) = false ∧ (constantsAlone 8 a && constantsAlone 8 b) = false) ∧ (frE a || frE b) = true then match c.e S a, c.e S b with
    | some f, some g => some ⟨sParR (S.N.idxOf x) (S.N.idxOf y) f.1 g.1, fun W X H0 ca0 hx => by
        obtain ⟨⟨h1, h2⟩, ⟨h3, h4, h5⟩, ⟨h6, h7, h8, h9⟩, ⟨h10, h11⟩, _⟩ := h
        have e1 : X.env.scope.names.lookup x = some .local := by rw [hx.sc]; exact h1
        have e2 : X.env.scope.names.lookup y = some .local := by rw [hx.sc]; exact h2
        have hb : X.env.blockKind = .function := by unfold Env.blockKind; rw [hx.sc, hx.kind]; rfl
        exact ss_parR hx.calm (by rw [hx.N]; exact hx.nd) (by rw [hx.N]; exact h3) (by rw [hx.N]; exact h4) h5 e1 e2 (f.2 W X hx) (g.2 W X hx) (star_cons h8) (star_cons h9) (sw_two hb e1 e2 h6 h7 h8 h9 h10 h11) rfl⟩
    | _, _ => none
  else none
def cParT (c : Cmp C) (S : Sta) (x : Str) (px : Pos) (y : Str) (py : Pos) (kt : Nat) (pt : Pos) (a b : Expr) (k2 : Nat) (pt2 pos : Pos) : OS C S (.Assign [.Tuple [.Name x px, .Name y py] kt pt] (.Tuple [a, b] k2 pt2) pos) :=
  if h : (locB S.sc x = true ∧ locB S.sc y = true) ∧ (S.N[S.N.idxOf x]? = some x ∧ S.N[S.N.idxOf y]? = some y) ∧ ((S.st x = true ∨ S.sc.names.lookup x = some .local) ∧ (S.st y = true ∨ S.sc.names.lookup y = some .local)) ∧ (nst a = true ∧ nst b = true) ∧
      [(Expr.Name x px), .Name y py].any (nloc S.sc) = true ∧ (frE a || frE b) = true then match c.e S a, c.e S b with
    | some f, some g => some ⟨sParR (S.N.idxOf x) (S.N.idxOf y) f.1 g.1, fun W X H0 ca0 hx => by
        obtain ⟨⟨h1, h2⟩, ⟨h3, h4⟩, ⟨h5, h6⟩, ⟨h8, h9⟩, h10, _⟩ := h
        exact ss_parT hx.calm (by rw [hx.N]; exact hx.nd) (by rw [hx.N]; exact h3) (by rw [hx.N]; exact h4) (by rw [hx.sc]; exact loc_of h1) (by rw [hx.sc]; exact loc_of h2) (by rw [hx.sc]; exact h5.imp (hx.fn x) id) (by rw [hx.sc]; exact h6.imp (hx.fn y) id)
          (f.2 W X hx) (g.2 W X hx) (star_cons h8) (star_cons h9) (sst_nloc (by rw [hx.sc]; exact h10)) (sws_no rfl)⟩
    | _, _ => none
  else none
def cPar3 (c : Cmp C) (S : Sta) (x : Str) (px : Pos) (y : Str) (py : Pos) (z : Str) (pz : Pos) (kt : Nat) (pt : Pos) (a b d : Expr) (k2 : Nat) (pt2 pos : Pos) : OS C S (.Assign [.Tuple [.Name x px, .Name y py, .Name z pz] kt pt] (.Tuple [a, b, d] k2 pt2) pos) :=
  if h : (S.sc.names.lookup x = some .local ∧ S.sc.names.lookup y = some .local ∧ S.sc.names.lookup z = some .local) ∧ (S.N[S.N.idxOf x]? = some x ∧ S.N[S.N.idxOf y]? = some y ∧ S.N[S.N.idxOf z]? = some z) ∧ (S.N.idxOf x ≠ S.N.idxOf y ∧ S.N.idxOf x ≠ S.N.idxOf z ∧ S.N.idxOf y ≠ S.N.idxOf z) ∧
      (px.line = py.line ∧ px.line = pz.line ∧ x ≠ y ∧ x ≠ z ∧ y ≠ z) ∧ (nst a = true ∧ nst b = true ∧ nst d = true) ∧ (foldedForSure 8 a && (foldedForSure 8 b && foldedForSure 8 d)) = false ∧ (constantsAlone 8 a && (constantsAlone 8 b && constantsAlone 8 d)) = false then match cAs c S [a, b, d] with
    | some g => some ⟨sPar3 (S.N.idxOf x) (S.N.idxOf y) (S.N.idxOf z) g.1, fun W X H0 ca0 hx => by
        obtain ⟨⟨h1, h2, h2'⟩, ⟨h3, h4, h4'⟩, ⟨h5, h5', h5''⟩, ⟨h6, h6', h7, h7', h7''⟩, ⟨h8, h9, h9'⟩, h10, h11⟩ := h
        have e1 : X.env.scope.names.lookup x = some .local := by rw [hx.sc]; exact h1
        have e2 : X.env.scope.names.lookup y = some .local := by rw [hx.sc]; exact h2
        have e3 : X.env.scope.names.lookup z = some .local := by rw [hx.sc]; exact h2'
        have hb : X.env.blockKind = .function := by unfold Env.blockKind; rw [hx.sc, hx.kind]; rfl
        exact ss_par3 hx.calm (by rw [hx.N]; exact hx.nd) (by rw [hx.N]; exact h3) (by rw [hx.N]; exact h4) (by rw [hx.N]; exact h4') h5 h5' h5'' e1 e2 e3 (g.2.1 W X hx) (sw_three hb e1 e2 e3 h6 h6' h7 h7' h7'' h8 h9 h9' h10 h11) rfl⟩
    | none => none
  else none
theorem as_sub {o i : Expr} {tpos : Pos} {env : Env} (h : pix i = true) (v : Value) : assign (.Subscript o i tpos) env v = (do
      let ov ← holding [v] (eval o env)
      let iv ← holding [v, ov] (eval i env)
      standAt tpos
      holding [v, ov, iv] (setItem ov iv v)
      release [v, ov, iv] []) := by
  cases i <;> first | rfl | cases h
/-- o[i] = e -/
def cSetIx (c : Cmp C) (S : Sta) (o i : Expr) (tpos : Pos) (e : Expr) (pos : Pos) : OS C S (.Assign [.Subscript o i tpos] e pos) :=
  if h : nlc e = true ∧ pix i = true then match c.e S e, c.e S o, c.e S i with
    | some f, some fo, some fi => some ⟨sSetIx (kp f.1) (rd fo.1) (rd fi.1), fun W X H0 ca0 hx => ss_setIx (by have := hx.un; omega) (TN.kp (f.2 W X hx)) (TN.rd (fo.2 W X hx)) (TN.rd (fi.2 W X hx)) (sws_no h.1) sst_sub rfl (as_sub h.2)⟩
    | _, _, _ => none
  else none
def cSetN (c : Cmp C) (S : Sta) (x : Str) (xp : Pos) (i : Expr) (tpos : Pos) (e : Expr) (pos : Pos) : OS C S (.Assign [.Subscript (.Name x xp) i tpos] e pos) :=
  if h : nlc e = true ∧ visB S.sc x = true ∧ dbg x = true ∧ S.N[S.N.idxOf x]? = some x ∧ pix i = true then match c.e S e, c.e S i with
    | some f, some fi => some ⟨sSetN (S.N.idxOf x) (kp f.1) (rd fi.1), fun W X H0 ca0 hx =>
        have hn : X.N[S.N.idxOf x]? = some x := by rw [hx.N]; exact h.2.2.2.1
        have hv : Vis X.env.scope x := by rw [hx.sc]; exact vis_of h.2.1
        ss_setN (ss_setOwn hn hv (dbg_1 h.2.2.1) (dbg_2 h.2.2.1) (TN.kp (f.2 W X hx)) (TN.rd (fi.2 W X hx)) (sws_no h.1) sst_sub rfl (as_sub h.2.2.2.2))
          (ss_setIx (by have := hx.un; omega) (TN.kp (f.2 W X hx)) (TN.rd (se_var hn hv (dbg_1 h.2.2.1) (dbg_2 h.2.2.1))) (TN.rd (fi.2 W X hx)) (sws_no h.1) sst_sub rfl (as_sub h.2.2.2.2))⟩
    | _, _ => none
  else none
/-- name.append(e) -/
def cApp (c : Cmp C) (S : Sta) (x : Str) (xp : Pos) (m : Str) (apos : Pos) (e : Expr) (cpos pos : Pos) : OS C S (.Expr (.Call (.Attribute (.Name x xp) m apos) [e] [] cpos) pos) :=
  if h : m = "append" ∧ nst e = true ∧ (apos.endLine == cpos.line) = true ∧ visB S.sc x = true ∧ dbg x = true ∧ S.N[S.N.idxOf x]? = some x then match cAs c S [e] with
    | some g => some ⟨sMut (S.N.idxOf x) lAppend g.1, fun W X H0 ca0 hx => by
        obtain ⟨rfl, hn, hl, hv, hd, hi⟩ := h
        exact ss_mut (by rw [hx.N]; exact hi) (by rw [hx.sc]; exact vis_of hv) (dbg_1 hd) (dbg_2 hd) F.slot_list_append F.type_list_append mt_append ok_append (g.2.1 W X hx) rfl (few1 hn) hl (star_cons hn) rfl rfl⟩
    | none => none
  else none
/-- name.remove(e) -/
def cRem (c : Cmp C) (S : Sta) (x : Str) (xp : Pos) (m : Str) (apos : Pos) (e : Expr) (cpos pos : Pos) : OS C S (.Expr (.Call (.Attribute (.Name x xp) m apos) [e] [] cpos) pos) :=
  if h : m = "remove" ∧ nst e = true ∧ (apos.endLine == cpos.line) = true ∧ visB S.sc x = true ∧ dbg x = true ∧ S.N[S.N.idxOf x]? = some x then match cAs c S [e] with
    | some g => some ⟨sMut (S.N.idxOf x) lRemove g.1, fun W X H0 ca0 hx => by
        obtain ⟨rfl, hn, hl, hv, hd, hi⟩ := h
        exact ss_mut (by rw [hx.N]; exact hi) (by rw [hx.sc]; exact vis_of hv) (dbg_1 hd) (dbg_2 hd) F.slot_list_remove F.type_list_remove (mt_dRemove hx.un) ok_remove (g.2.1 W X hx) rfl (few1 hn) hl (star_cons hn) rfl rfl⟩
    | none => none
  else none
/-- name.extend(e) -/
def cExt (c : Cmp C) (S : Sta) (x : Str) (xp : Pos) (m : Str) (apos : Pos) (e : Expr) (cpos pos : Pos) : OS C S (.Expr (.Call (.Attribute (.Name x xp) m apos) [e] [] cpos) pos) :=
  if h : m = "extend" ∧ nst e = true ∧ (apos.endLine == cpos.line) = true ∧ visB S.sc x = true ∧ dbg x = true ∧ S.N[S.N.idxOf x]? = some x then match cAr c S [e] with
    | some g => some ⟨sMutR (S.N.idxOf x) lExtend g.1, fun W X H0 ca0 hx => by
        obtain ⟨rfl, hn, hl, hv, hd, hi⟩ := h
        exact ss_mutR (by rw [hx.N]; exact hi) (by rw [hx.sc]; exact vis_of hv) (dbg_1 hd) (dbg_2 hd) F.slot_list_extend F.type_list_extend mt_extR ok_extendX (g.2 W X hx) rfl (few1 hn) hl (star_cons hn) rfl rfl⟩
    | none => none
  else none
def augI (o : Operator) : Option { f : Int → Int → Int // ∀ X : Cx, PIp X o (ipI f) } := match o with
  | .Add => some ⟨fun i j => i + j, fun _ => ip_add⟩
  | .Sub => some ⟨fun i j => i - j, fun _ => ip_sub⟩
  | _ => none
/-- name op= e -/
def cAug (c : Cmp C) (S : Sta) (x : Str) (px : Pos) (op : Operator) (e : Expr) (pos : Pos) : OS C S (.AugAssign (.Name x px) op e pos) :=
  if h : locB S.sc x = true ∧ S.N[S.N.idxOf x]? = some x ∧ (S.st x = true ∨ S.sc.names.lookup x = some .local) then match c.e S e, augI op with
    | some g, some f => some ⟨sAug (S.N.idxOf x) f.1 (rd g.1), fun W X H0 ca0 hx => ss_aug (by rw [hx.N]; exact hx.nd) (by rw [hx.N]; exact h.2.1) (by rw [hx.sc]; exact loc_of h.1) (TN.rd (g.2 W X hx)) (f.2 X) (by rw [hx.sc]; exact h.2.2.imp (hx.fn x) id)⟩
    | _, _ => none
  else none
/-- x[i], x[j] = e -/
def cTwo (c : Cmp C) (S : Sta) (x : Str) (p1 : Pos) (i : Expr) (tp1 : Pos) (y : Str) (p2 : Pos) (j : Expr) (tp2 : Pos) (kt : Nat) (pt : Pos) (e : Expr) (pos : Pos) : OS C S (.Assign [.Tuple [.Subscript (.Name x p1) i tp1, .Subscript (.Name y p2) j tp2] kt pt] e pos) :=
  if h : x = y ∧ nlc e = true ∧ visB S.sc x = true ∧ dbg x = true ∧ S.N[S.N.idxOf x]? = some x ∧ pix i = true ∧ pix j = true then match c.e S e, c.e S i, c.e S j with
    | some f, some f1, some f2 => some ⟨sSetTwo (S.N.idxOf x) (kp f.1) (rd f1.1) (rd f2.1), fun W X H0 ca0 hx => by
        obtain ⟨rfl, hn, hv, hd, hi, h5, h6⟩ := h
        exact ss_setTwo hx.calm (by rw [hx.N]; exact hi) (by rw [hx.sc]; exact vis_of hv) (dbg_1 hd) (dbg_2 hd) (TN.kp (f.2 W X hx)) (TN.rd (f1.2 W X hx)) (TN.rd (f2.2 W X hx)) (as_sub h5) (as_sub h6) (sws_no hn) (sst_nloc rfl)⟩
    | _, _, _ => none
  else none
def cDrop (c : Cmp C) (S : Sta) (e : Expr) (pos : Pos) : OS C S (.Expr e pos) := if h : nlc e = true then match c.e S e with
  | some f => some ⟨sDrop f.1, fun W X H0 ca0 hx => ss_drop (f.2 W X hx) (sw_no h)⟩
  | none => none
  else none
structure CmpS (C : Con) where
  s : (S : Sta) → (s : Stmt) → OS C S s
def cSs (cs : CmpS C) (S : Sta) : (ss : List Stmt) → OSs C S ss
  | [] => some ⟨sSkip, fun _ _ _ _ _ => ss_skip⟩
  | s :: ss => match cs.s S s, cSs cs S ss with
    | some f, some g => some ⟨sSeq f.1 g.1, fun W X H0 ca0 hx => ss_seq (f.2 W X H0 ca0 hx) (g.2 W X H0 ca0 hx)⟩
    | _, _ => none
def depth : Nat := 40
/-- raise x(..) -/
def cRaise (c : Cmp C) (S : Sta) (x : Str) (p : Pos) (e : Expr) (es : List Expr) (pos pos2 : Pos) : OS C S (.Raise (some (.Call (.Name x p) (e :: es) [] pos)) none pos2) :=
  if h : glB S.sc x = true ∧ nst e = true ∧ es.all nst = true then match hgl : C.gl x, cAs c S (e :: es) with
    | some (.exc fs), some g => some ⟨sRaise x fs.length g.1, fun W X H0 ca0 hx => let ⟨hm, EC, hf, hs⟩ := hx.gv x _ hgl
        ss_raise EC hf hs (hx.room.mono hx.lv) hx.calm hx.tk (hx.gl h.1) hm (g.2.1 W X hx) (dbg_1 (glB_d h.1)) (star_cons h.2.1) (star_any h.2.2)⟩
    | _, _ => none
  else none
/-! ### except suites -/
/-- the suite's name and slot, if it has one; a meaning by the class and the fields caught -/
abbrev SuE (C : Con) (S : Sta) (o : Option (Str × Nat)) (e : Expr) (f : Str → List D → Env' → M RV) : Prop :=
  ∀ (W : WX) (X : Cx), XO C S W X → ∀ (ax : Addr) (ox : Obj) (cl : Value) (dz : Option Addr) (pz : List (Addr × Obj)), Zc cl dz ox → (∃ vz, ox.data = .fields vz) → ∀ (cn : Str) (as : List D), cl = .ref (He.ga X.K cn) →
    PE (X.suite ax ((ax, ox) :: pz)) e (TH (match o with
      | none => ph0
      | some q => phX X.K C.fld q.2 ax cl dz cn as) X.K C.fld WF (f cn as))
abbrev SuAs (C : Con) (S : Sta) (o : Option (Str × Nat)) (es : List Expr) (f : Str → List D → Env' → M (List D)) : Prop :=
  ∀ (W : WX) (X : Cx), XO C S W X → ∀ (ax : Addr) (ox : Obj) (cl : Value) (dz : Option Addr) (pz : List (Addr × Obj)), Zc cl dz ox → (∃ vz, ox.data = .fields vz) → ∀ (cn : Str) (as : List D), cl = .ref (He.ga X.K cn) →
    PA (X.suite ax ((ax, ox) :: pz)) es (THa (match o with
      | none => ph0
      | some q => phX X.K C.fld q.2 ax cl dz cn as) X.K C.fld WF (f cn as))
abbrev OSE (C : Con) (S : Sta) (o : Option (Str × Nat)) (e : Expr) := Option { f : Str → List D → Env' → M RV // SuE C S o e f }
/-- n.f of the caught error -/
def sXf (gl : Str → Option GV) (f cn : Str) (as : List D) : Env' → M RV := match gl cn with
  | some (.exc fs) => match ixOf f fs with
    | some j => sFld as j
    | none => fun _ => M.bad
  | _ => fun _ => M.bad
theorem TH.bad {X : Cx} {Φ : Ph} {K : PySem.W.Frag} {fld : Str → List Str} {W : WX} {e : Expr} : PE X e (TH Φ K fld W fun _ => M.bad) := ⟨fun pins s σ H Q I ⟨ρ, st, ca, _, _, _, hp⟩ => hp.elim⟩
def cHAt (C : Con) (S : Sta) (o : Option (Str × Nat)) (n : Str) (np : Pos) (f : Str) (pos : Pos) : OSE C S o (.Attribute (.Name n np) f pos) := match o with
  | none => none
  | some (z, i) => if h : z = n ∧ S.N[i]? = some n ∧ visB S.sc n = true ∧ dbg n = true then some ⟨sXf C.gl f, fun W X hx ax ox cl dz pz hz hd cn as ecl => by
      obtain ⟨_, hN, hv, hdb⟩ := h
      show PE (X.suite ax ((ax, ox) :: pz)) (.Attribute (.Name n np) f pos) (TH (phX X.K C.fld i ax cl dz cn as) X.K C.fld WF (sXf C.gl f cn as))
      unfold sXf
      cases hgl : C.gl cn with
      | none => exact TH.bad
      | some gv =>
        cases gv with
        | exc fs =>
          dsimp only
          cases hj : ixOf f fs with
          | none => exact TH.bad
          | some j =>
            obtain ⟨hm, EC, hf, hs⟩ := hx.gv cn _ hgl
            have hn := EC.no f (List.mem_of_getElem? (ixOf_ok hj))
            exact sh_fld hf (ixOf_ok hj) EC.xf hn hz hd (by rw [hx.N]; exact hN) (by rw [hx.sc]; exact vis_of hv) (dbg_1 hdb) (dbg_2 hdb)
        | _ => exact TH.bad⟩ else none
def excG (C : Con) (x : Str) : Bool := match C.gl x with
  | some (.exc _) => true
  | some .base => true
  | _ => false
theorem excG_ok {S : Sta} {W : WX} {X : Cx} {x : Str} (hx : XO C S W X) (h : excG C x = true) (hg : glB S.sc x = true) : Names X x (.ref (He.ga X.K x)) := by
  refine ⟨hx.gl hg, dbg_1 (glB_d hg), .inl ?_⟩
  unfold excG at h
  split at h
  · rename_i fs hgl
    exact (hx.gv x _ hgl).1
  · rename_i hgl
    exact hx.gv x _ hgl
  · cases h
def sIs (cn y : Str) : Env' → M RV := match tkLook cn y with
  | some b => sC (.bl b)
  | none => fun _ => M.bad
/-- isinstance(n, y) -/
def cHIs (C : Con) (S : Sta) (o : Option (Str × Nat)) (f : Str) (p : Pos) (n : Str) (np : Pos) (y : Str) (yp pos : Pos) : OSE C S o (.Call (.Name f p) [.Name n np, .Name y yp] [] pos) := match o with
  | none => none
  | some (n', i) => if h : f = "isinstance" ∧ n' = n ∧ S.N[i]? = some n ∧ visB S.sc n = true ∧ dbg n = true ∧ glB S.sc f = true ∧ glB S.sc y = true then match hgl : C.gl f, hgy : C.gl y with
    | some (.bfn .isi), some g => if hg : (isOwnT y = true ∧ (match g with | .bx => true | _ => false) = true) ∨ (isOwnT y = false ∧ excG C y = true) then
        some ⟨fun cn as => sIs cn y, fun W X hx ax ox cl dz pz hz hd cn as ecl => by
            obtain ⟨rfl, rfl, hN, hv, hdb, hgf, hgy2⟩ := h
            show PE (X.suite ax ((ax, ox) :: pz)) _ (TH (phX X.K C.fld i ax cl dz cn as) X.K C.fld WF (sIs cn y))
            unfold sIs
            cases hb : tkLook cn y with
            | none => exact TH.bad
            | some b =>
              have hm := hx.gv _ _ hgl
              refine sh_is hx.kit hb ecl (hx.gl hgf) hm.1 ?_ hz hd (by rw [hx.N]; exact hN) (by rw [hx.sc]; exact vis_of hv) (dbg_1 hdb) (dbg_2 hdb)
              rcases hg with ⟨h1, h2⟩ | ⟨h1, h2⟩
              · cases g <;> first | cases h2 | skip
                obtain ⟨q1, q2⟩ := hx.gv _ _ hgy
                refine ⟨hx.gl hgy2, dbg_1 (glB_d hgy2), .inr ⟨q1, ?_, dbg_3 (glB_d hgy2)⟩⟩
                unfold ckV
                rw [if_pos h1]
                exact q2
              · unfold ckV
                rw [if_neg (by rw [h1]; decide)]
                exact excG_ok hx h2 hgy2⟩ else none
    | _, _ => none
    else none
def cHAs (C : Con) (S : Sta) (o : Option (Str × Nat)) (ce : (e : Expr) → OSE C S o e) : (es : List Expr) → Option { g : Str → List D → Env' → M (List D) // SuAs C S o es g }
  | [] => some ⟨fun _ _ => sNil, fun _ _ _ _ _ _ _ _ _ _ _ _ _ => sh_nil⟩
  | e :: es => if hn : nst e = true then match ce e, cHAs C S o ce es with
    | some f, some g => some ⟨fun cn as => sCons (kp (f.1 cn as)) (g.1 cn as), fun W X hx ax ox cl dz pz hz hd cn as ecl => sh_cons (TH.kp (f.2 W X hx ax ox cl dz pz hz hd cn as ecl)) (g.2 W X hx ax ox cl dz pz hz hd cn as ecl) (star_cons hn)⟩
    | _, _ => none
    else none
def cHE (C : Con) (S : Sta) (o : Option (Str × Nat)) : (n : Nat) → (e : Expr) → OSE C S o e
  | 0, _ => none
  | n + 1, .Attribute (.Name x np) f pos => cHAt C S o x np f pos
  | n + 1, .Tuple es k pos => match cHAs C S o (cHE C S o n) es with
    | some g => some ⟨fun cn as => sTup (g.1 cn as), fun W X hx ax ox cl dz pz hz hd cn as ecl => sh_tup (g.2 W X hx ax ox cl dz pz hz hd cn as ecl)⟩
    | none => none
  | n + 1, .List es pos => match cHAs C S o (cHE C S o n) es with
    | some g => some ⟨fun cn as => sLst (g.1 cn as), fun W X hx ax ox cl dz pz hz hd cn as ecl => sh_lst (g.2 W X hx ax ox cl dz pz hz hd cn as ecl)⟩
    | none => none
  | n + 1, .Constant (.int i) j pos => some ⟨fun _ _ => sC (.int i), fun _ _ _ _ _ _ _ _ _ _ _ _ _ => TN.h (se_c pe_int fun _ _ => rfl)⟩
  | n + 1, .Constant (.bool b) j pos => some ⟨fun _ _ => sC (.bl b), fun _ _ _ _ _ _ _ _ _ _ _ _ _ => TN.h (se_c pe_bl fun _ _ => rfl)⟩
  | n + 1, .Constant (.str x) j pos => some ⟨fun _ _ => sC (.str x), fun _ _ _ _ _ _ _ _ _ _ _ _ _ => TN.h (se_c pe_str fun _ _ => rfl)⟩
  | n + 1, .Constant .none j pos => some ⟨fun _ _ => sC .non, fun _ _ _ _ _ _ _ _ _ _ _ _ _ => TN.h (se_c pe_non fun _ _ => rfl)⟩
  | n + 1, .Name x pos => if h : visB S.sc x = true ∧ dbg x = true ∧ S.N[S.N.idxOf x]? = some x then
      some ⟨fun _ _ => sVar (S.N.idxOf x), fun W X hx ax ox cl dz pz hz hd cn as ecl => TN.h (se_var (by show X.N[_]? = _; rw [hx.N]; exact h.2.2) (by show Vis X.env.scope x; rw [hx.sc]; exact vis_of h.1) (dbg_1 h.2.1) (dbg_2 h.2.1))⟩ else none
  | n + 1, .Call (.Name f p) [.Name m np, .Name y yp] [] pos => cHIs C S o f p m np y yp pos
  | n + 1, .IfExp t a b pos => if h : trb t = true then match cHE C S o n t, cHE C S o n a, cHE C S o n b with
    | some t, some f, some g => some ⟨fun cn as => sIf (sTru (t.1 cn as)) (f.1 cn as) (g.1 cn as), fun W X hx ax ox cl dz pz hz hd cn as ecl => sh_if (X := X.suite ax ((ax, ox) :: pz)) (sh_tru (X := X.suite ax ((ax, ox) :: pz)) (t.2 W X hx ax ox cl dz pz hz hd cn as ecl) (tr_ok h)) (f.2 W X hx ax ox cl dz pz hz hd cn as ecl) (g.2 W X hx ax ox cl dz pz hz hd cn as ecl)⟩
    | _, _, _ => none
    else none
  | n + 1, .Subscript a b pos => if h : pix b = true then match cHE C S o n a, cHE C S o n b with
    | some f, some g => some ⟨fun cn as => sBin dIx (rd (f.1 cn as)) (rd (g.1 cn as)), fun W X hx ax ox cl dz pz hz hd cn as ecl => sh_ix (X := X.suite ax ((ax, ox) :: pz)) ix_dIx (TH.rd (f.2 W X hx ax ox cl dz pz hz hd cn as ecl)) (TH.rd (g.2 W X hx ax ox cl dz pz hz hd cn as ecl)) (plain_ix h)⟩
    | _, _ => none
    else none
  | n + 1, .BinOp a .Add b pos => match cHE C S o n a, cHE C S o n b with
    | some f, some g => some ⟨fun cn as => sBin dAdd (rd (f.1 cn as)) (rd (g.1 cn as)), fun W X hx ax ox cl dz pz hz hd cn as ecl => sh_bin op_dAdd (TH.rd (f.2 W X hx ax ox cl dz pz hz hd cn as ecl)) (TH.rd (g.2 W X hx ax ox cl dz pz hz hd cn as ecl))⟩
    | _, _ => none
  | _, _ => none
abbrev SuS (C : Con) (S : Sta) (o : Option (Str × Nat)) (ss : List Stmt) (f : Str → List D → SS) : Prop :=
  ∀ (W : WX) (X : Cx), XO C S W X → ∀ (H0 : Hp) (ca0 : List Addr) (ax : Addr) (ox : Obj) (cl : Value) (dz : Option Addr) (pz : List (Addr × Obj)), Zc cl dz ox → (∃ vz, ox.data = .fields vz) → ∀ (cn : Str) (as : List D), cl = .ref (He.ga X.K cn) →
    PSs (X.suite ax ((ax, ox) :: pz)) ss (THS (match o with
      | none => ph0
      | some q => phX X.K C.fld q.2 ax cl dz cn as) X.K C.fld H0 ca0 (f cn as))
def cSu1 (C : Con) (S : Sta) (o : Option (Str × Nat)) : (ss : List Stmt) → Option { f : Str → List D → SS // SuS C S o ss f }
  | [.Return (some e) pos] => match cHE C S o 20 e with
    | some f => some ⟨fun cn as => sSeq (sRet (f.1 cn as)) sSkip, fun W X hx H0 ca0 ax ox cl dz pz hz hd cn as ecl => sh_one (sh_ret (f.2 W X hx ax ox cl dz pz hz hd cn as ecl))⟩
    | none => none
  | [.Assign [.Name x px] e pos] => if h : locB S.sc x = true ∧ S.N[S.N.idxOf x]? = some x ∧ nlc e = true ∧ (S.st x = true ∨ S.sc.names.lookup x = some .local) then match cHE C S o 20 e with
    | some f => some ⟨fun cn as => sSeq (sSet (S.N.idxOf x) (f.1 cn as)) sSkip, fun W X hx H0 ca0 ax ox cl dz pz hz hd cn as ecl => sh_one (sh_set (by show X.N.Nodup; rw [hx.N]; exact hx.nd) (by show X.N[_]? = _; rw [hx.N]; exact h.2.1) (by show Loc X.env.scope x; rw [hx.sc]; exact loc_of h.1)
        (f.2 W X hx ax ox cl dz pz hz hd cn as ecl) (sw_no h.2.2.1) (by show X.fn x = true ∨ X.env.scope.names.lookup x = some .local; rw [hx.sc]; exact h.2.2.2.imp (hx.fn x) id))⟩
    | none => none
    else none
  | [.Pass pos] => some ⟨fun cn as => sSeq sSkip sSkip, fun W X hx H0 ca0 ax ox cl dz pz hz hd cn as ecl => sh_one sh_pass⟩
  | [.Continue pos] => some ⟨fun cn as => sSeq sCnt sSkip, fun W X hx H0 ca0 ax ox cl dz pz hz hd cn as ecl => sh_one sh_cnt⟩
  | _ => none
def cSu (C : Con) (S : Sta) (o : Option (Str × Nat)) : (ss : List Stmt) → Option { f : Str → List D → SS // SuS C S o ss f }
  | .Assign [.Name x px] e pos :: s2 :: ss => if h : (locB S.sc x = true ∧ S.N[S.N.idxOf x]? = some x ∧ nlc e = true ∧ (S.st x = true ∨ S.sc.names.lookup x = some .local)) ∧ (match o with
      | none => true
      | some q => !decide (S.N.idxOf x = q.2)) = true then match cHE C S o 20 e, cSu C S o (s2 :: ss) with
    | some f, some g => some ⟨fun cn as => sSeq (sSet (S.N.idxOf x) (keepR (f.1 cn as))) (g.1 cn as), fun W X hx H0 ca0 ax ox cl dz pz hz hd cn as ecl => by
        obtain ⟨⟨h1, h2, h3, h4⟩, h5⟩ := h
        refine sh_setc (X := X.suite ax ((ax, ox) :: pz)) ?_ (by show X.N.Nodup; rw [hx.N]; exact hx.nd) (by show X.N[_]? = _; rw [hx.N]; exact h2) (by show Loc X.env.scope x; rw [hx.sc]; exact loc_of h1)
          (TH.keep (f.2 W X hx ax ox cl dz pz hz hd cn as ecl)) (sw_no h3) (by show X.fn x = true ∨ X.env.scope.names.lookup x = some .local; rw [hx.sc]; exact h4.imp (hx.fn x) id) (g.2 W X hx H0 ca0 ax ox cl dz pz hz hd cn as ecl)
        cases o with
        | none => exact phset_0
        | some q => exact phset_X (by simpa using h5)⟩
    | _, _ => none
    else none
  | ss => cSu1 C S o ss
abbrev OHs (C : Con) (S : Sta) (hds : List ExceptHandler) := Option { hs : List Hc // ∀ W X H0 ca0, XO C S W X → HcOk X C.fld H0 ca0 C.sub hds hs }
def cHs (C : Con) (S : Sta) : (hds : List ExceptHandler) → OHs C S hds
  | [] => some ⟨[], fun _ _ _ _ _ => .nil⟩
  | .ExceptHandler (some (.Name x np)) none (st0 :: sts) pos :: hds => if h : glB S.sc x = true ∧ excG C x = true then match cSu C S none (st0 :: sts), cHs C S hds with
    | some f, some r => some ⟨⟨x, none, none, f.1⟩ :: r.1, fun W X H0 ca0 hx => HcOk.cons (h := ⟨x, none, none, f.1⟩) (nm := none) rfl (excG_ok hx h.2 h.1) trivial (fun ax ox cl dz pz hz hd cn as _ ecl => f.2 W X hx H0 ca0 ax ox cl dz pz hz hd cn as ecl) (r.2 W X H0 ca0 hx)⟩
    | _, _ => none
    else none
  | .ExceptHandler (some (.Tuple [.Name x p1, .Name y p2] kk tp)) none (st0 :: sts) pos :: hds => if h : (glB S.sc x = true ∧ excG C x = true) ∧ glB S.sc y = true ∧ excG C y = true then match cSu C S none (st0 :: sts), cHs C S hds with
    | some f, some r => some ⟨⟨x, some y, none, f.1⟩ :: r.1, fun W X H0 ca0 hx => HcOk.two (h := ⟨x, some y, none, f.1⟩) (nm := none) rfl (excG_ok hx h.1.2 h.1.1) (excG_ok hx h.2.2 h.2.1) trivial (fun ax ox cl dz pz hz hd cn as _ ecl => f.2 W X hx H0 ca0 ax ox cl dz pz hz hd cn as ecl) (r.2 W X H0 ca0 hx)⟩
    | _, _ => none
    else none
  | .ExceptHandler (some (.Name x np)) (some n) (st0 :: sts) pos :: hds => if h : (glB S.sc x = true ∧ excG C x = true) ∧ S.N[S.N.idxOf n]? = some n ∧ S.sc.names.lookup n = some .local then match cSu C S (some (n, S.N.idxOf n)) (st0 :: sts), cHs C S hds with
    | some f, some r => some ⟨⟨x, none, some (S.N.idxOf n), f.1⟩ :: r.1, fun W X H0 ca0 hx => HcOk.cons (h := ⟨x, none, some (S.N.idxOf n), f.1⟩) (nm := some n) rfl (excG_ok hx h.1.2 h.1.1) ⟨by rw [hx.N]; exact hx.nd, by rw [hx.N]; exact h.2.1, by show X.env.scope.names.lookup n = _; rw [hx.sc]; exact h.2.2⟩ (fun ax ox cl dz pz hz hd cn as _ ecl => f.2 W X hx H0 ca0 ax ox cl dz pz hz hd cn as ecl) (r.2 W X H0 ca0 hx)⟩
    | _, _ => none
    else none
  | _ => none
def stepS (c : Cmp C) (cs : CmpS C) (S : Sta) : (s : Stmt) → OS C S s
  | .Pass pos => some ⟨sSkip, fun _ _ _ _ _ => ss_pass⟩
  | .Break pos => some ⟨sBrk, fun _ _ _ _ _ => ss_brk⟩
  | .Continue pos => some ⟨sCnt, fun _ _ _ _ _ => ss_cnt⟩
  | .Return none pos => some ⟨sRetN, fun _ _ _ _ _ => ss_retN⟩
  | .Return (some e) pos => frz (slots S (escK C depth e)) (match c.e S e with
    | some f => some ⟨sRet f.1, fun W X H0 ca0 hx => ss_ret (f.2 W X hx)⟩
    | none => none)
  | .Assign [.Name x px] (.ListComp elt [⟨tg, iter, ifs, 0⟩] scope lpos) pos => frz (slots S (escK C depth (.ListComp elt [⟨tg, iter, ifs, 0⟩] scope lpos))) (cSetLc c S x px elt tg iter ifs scope lpos pos)
  | .Assign [.Name x px] (.ListComp elt (g1 :: g2 :: gs) scope lpos) pos => frz (slots S (escK C depth (.ListComp elt (g1 :: g2 :: gs) scope lpos))) (cSetLcG c S x px elt (g1 :: g2 :: gs) scope lpos pos)
  | .Assign [.Name x px] e pos => frz (slots S (escK C depth e)) (cSet c S x px e pos)
  | .Assign [.Tuple [.Name x px, .Name y py] kt pt] (.Tuple [a, b] k2 pt2) pos => frz (slots S (escK C depth (.Tuple [a, b] k2 pt2))) (orE (orE (cParR c S x px y py kt pt a b k2 pt2 pos) (cParT c S x px y py kt pt a b k2 pt2 pos)) (orE (cPar c S x px y py kt pt a b k2 pt2 pos) (cAsT c S _ kt pt _ pos)))
  | .Assign [.Tuple [.Name x px, .Name y py, .Name z pz] kt pt] (.Tuple [a, b, d] k2 pt2) pos => frz (slots S (escK C depth (.Tuple [a, b, d] k2 pt2))) (orE (cPar3 c S x px y py z pz kt pt a b d k2 pt2 pos) (cAsT c S _ kt pt _ pos))
  | .Assign [.Tuple [.Subscript (.Name x p1) i tp1, .Subscript (.Name y p2) j tp2] kt pt] e pos => frz (slots S (escK C depth e ++ escR C depth i ++ escR C depth j)) (cTwo c S x p1 i tp1 y p2 j tp2 kt pt e pos)
  | .Assign [.Tuple ts kt pt] e pos => frz (slots S (escK C depth e)) (cAsT c S ts kt pt e pos)
  | .Assign [.Subscript (.Name x xp) i tpos] e pos => frz (slots S (escK C depth e ++ escR C depth i)) (cSetN c S x xp i tpos e pos)
  | .Assign [.Subscript o i tpos] e pos => frz (slots S (escK C depth e ++ escR C depth i ++ escR C depth o)) (cSetIx c S o i tpos e pos)
  | .Expr (.Call (.Attribute (.Name x xp) m apos) [e] [] cpos) pos => frz (slots S (escK C depth e)) (orE (cApp c S x xp m apos e cpos pos) (orE (cRem c S x xp m apos e cpos pos) (cExt c S x xp m apos e cpos pos)))
  | .Expr e pos => frz (slots S (escR C depth e)) (cDrop c S e pos)
  | .If t a b pos => frz (slots S (escR C depth t)) (match c.t S t, cSs cs S a, cSs cs S b with
    | some t, some f, some g => some ⟨sIfS t.1 f.1 g.1, fun W X H0 ca0 hx => ss_if (t.2 W X hx) (f.2 W X H0 ca0 hx) (g.2 W X H0 ca0 hx)⟩
    | _, _, _ => none)
  | .For tg iter body [] pos => frz (slots S (escK C depth iter)) (if h : S.bd = true ∧ nset iter = true then match cI c S tg iter, cG C S 5 tg, cSs cs S body with
    | some it, some g, some f => some ⟨sFor it.1 g.1.2 f.1, fun W X H0 ca0 hx => ss_for (hx.po h.1) hx.calm (it.2 W X hx) (g.2 W X hx) (f.2 W X H0 ca0 hx) (fold_no h.2)⟩
    | _, _, _ => none
    else none)
  | .AugAssign (.Name x px) op e pos => frz (slots S (escR C depth e)) (cAug c S x px op e pos)
  | .While t body [] pos => frz (slots S (escR C depth t)) (if h : S.bd = true then match c.t S t, cSs cs S body with
    | some t, some f => some ⟨sWhile t.1 f.1, fun W X H0 ca0 hx => ss_while (hx.po h) (t.2 W X hx) (f.2 W X H0 ca0 hx)⟩
    | _, _ => none
    else none)
  | .Raise (some (.Call (.Name x p) (e :: es) [] pos)) none pos2 => orE (frz (slots S (((e :: es).map (escK C depth)).flatten)) (cRaise c S x p e es pos pos2)) (some ⟨sNever, fun _ _ _ _ _ => ss_never⟩)
  | .Try body (h0 :: hds) [] [] pos => if h : S.bd = true then match cSs cs S body, cHs C S (h0 :: hds) with
    | some f, some hs => some ⟨sTry C.sub f.1 hs.1, fun W X H0 ca0 hx => ss_try (hx.stk h).1 (hx.stk h).2 hx.tk hx.sub (fun Wz pz xz tz pz2 => f.2 Wz (X.tr pz xz) H0 ca0 (hx.tr h pz xz tz pz2)) (hs.2 W X H0 ca0 hx)⟩
    | _, _ => none
    else none
  | .Raise e e2 pos => some ⟨sNever, fun _ _ _ _ _ => ss_never⟩
  | _ => none
def cmpS (c : Cmp C) : Nat → CmpS C
  | 0 => ⟨fun _ _ => none⟩
  | n + 1 => ⟨stepS c (cmpS c n)⟩
def cBody (C : Con) (S : Sta) (ss : List Stmt) : OSs C S ss := cSs (cmpS (cmpN C 30) 20) S ss
end
end Ev
/-! A program: its defs, level by level. -/
namespace Ev
open PySem PySem.Spec PyProof.Rows L2
variable [Tbs] [Hnd]
/-- a def as the text has it, its names by place, what it means (run: the other defs); tk: its first name is a lambda (LT: what it makes of it); lm: it holds lambdas -/
structure Df where
  name : Str
  params : Arguments
  body : List Stmt
  scope : Scope
  N : List Str
  ps : List Str
  L : (Nat → List D → M D) → (Nat → M D → M D) → SS
  kw : List (Str × D)
  tk : Bool
  lm : Bool
  LT : (Nat → List D → M D) → (Nat → M D → M D) → M D → SS
  df : List D
  /-- names that mean another reading of the same def here (its place, how many it takes); lists of this reading that are cells -/
  gx : List (Str × Nat × Nat)
  cl : List (Nat × Nat)
/-- the fields of the own errors -/
def fldO (gls : List (Str × GV)) (x : Str) : List Str := match gls.lookup x with
  | some (.exc fs) => fs
  | _ => []
def subO (tb : List ((Str × Str) × Bool)) (x y : Str) : Option Bool := (tb.find? fun p => decide (p.1.1 = x) && decide (p.1.2 = y)).map (·.2)
def semB (fs : List Df) : Nat → (Nat → List D → M D) × (Nat → M D → M D)
  | 0 => (fun _ _ => M.bad, fun _ _ => M.bad)
  | l + 1 => (fun i => match fs[i]? with
    | some d => semF d.N.length (d.L (semB fs l).1 (semB fs l).2)
    | none => fun _ => M.bad, fun i => match fs[i]? with
    | some d => fun th => semT d.N.length (d.LT (semB fs l).1 (semB fs l).2 th)
    | none => fun _ => M.bad)
def semO (fs : List Df) (l : Nat) : Nat → List D → M D := (semB fs l).1
def semTo (fs : List Df) (l : Nat) : Nat → M D → M D := (semB fs l).2
def TbB (K : PySem.W.Frag) (base : Heap) (mg : Str → Option Value) : Prop := ∀ p ∈ Tbs.tf, LamX.TabB base mg (He.cT K p.1).1 (He.cT K p.1).2
/-- what is known of the top -/
structure Known (P : Program) (w : World) (K : PySem.W.Frag) (mg : Str → Option Value) (base : Heap) (gls : List (Str × GV)) (tb : List ((Str × Str) × Bool)) (fs : List Df) (f : Nat → Addr) (fd : Nat → FuncData) : Prop where
  fun_ : ∀ (i : Nat) (d : Df), fs[i]? = some d → ∃ dvs kws, FunD K d.name d.name d.params d.body d.scope dvs kws (f i) (fd i)
  bind : ∀ (i : Nat) (d : Df), fs[i]? = some d → d.kw = [] → d.df = [] → Binds K (fd i) d.ps []
  bindD : ∀ (i : Nat) (d : Df), fs[i]? = some d → d.kw ≠ [] → d.df = [] → ∃ dus dvs, Binds K (fd i) d.ps dus ∧ Vals dvs dus ∧ (∀ H ca, RelDs K H ca (d.kw.map (·.2)) dvs) ∧ BindsK K (fd i) d.ps (d.kw.map (·.1)) (d.ps.length - d.kw.length)
  at_ : ∀ (i : Nat) (d : Df), fs[i]? = some d → mg d.name = some (.ref (f i))
  adr : ∀ (i : Nat) (d : Df), fs[i]? = some d → f i = He.fAd K (d.name, none)
  tbb : TbB K base mg
  uni : ∀ p ∈ Tbs.tf, ∀ q ∈ Tbs.tf, (He.cT K p.1).2 = (He.cT K q.1).2 → p.2 = q.2
  rest : ∀ x g, gls.lookup x = some g → match g with
    | .fn i n => ∃ d, fs[i]? = some d ∧ d.name = x ∧ d.ps.length = n ∧ d.kw = [] ∧ d.df = [] ∧ d.tk = false
    | .fnK i n kws => ∃ d, fs[i]? = some d ∧ d.name = x ∧ d.ps.length = n + kws.length ∧ d.kw = kws ∧ kws ≠ [] ∧ d.df = [] ∧ d.tk = false
    | .fnT i => ∃ d, fs[i]? = some d ∧ d.name = x ∧ d.tk = true ∧ d.kw = [] ∧ d.df = []
    | .fnD i n df => ∃ d, fs[i]? = some d ∧ d.name = x ∧ d.ps.length = n + df.length ∧ d.tk = false ∧ Binds K (fd i) d.ps [] ∧ ∃ dus dvs, Binds K (fd i) d.ps dus ∧ Vals dvs dus ∧ ∀ H ca, RelDs K H ca df dvs
    | g => GVp P w K mg base ⟨fun _ => none, fun _ _ => M.bad, fldO gls, 0, subO tb, none, fun _ _ => M.bad⟩ x g
  sub : ∀ x y b, subO tb x y = some b → PySem.W.exmOne K (.ref (He.ga K x)) (.ref (He.ga K y)) = some b
  kit : ∀ p ∈ Tbs.tk, kitB K p = true
def glX (gls : List (Str × GV)) (gx : List (Str × Nat × Nat)) (x : Str) : Option GV := match gx.lookup x with
  | some p => some (.fn p.1 p.2)
  | none => gls.lookup x
def gxB (fs : List Df) (gx : List (Str × Nat × Nat)) : Bool := gx.all fun p => match fs[p.2.1]? with
  | some d => decide (d.name = p.1) && (decide (d.ps.length = p.2.2) && (d.kw.isEmpty && (d.df.isEmpty && !d.tk)))
  | none => false
def conO (gls : List (Str × GV)) (gx : List (Str × Nat × Nat)) (tb : List ((Str × Str) × Bool)) (run : Nat → List D → M D) (runT : Nat → M D → M D) (k : Nat) : Con := ⟨glX gls gx, run, fldO gls, 2 * k + 2, subO tb, none, runT⟩
def conT (gls : List (Str × GV)) (gx : List (Str × Nat × Nat)) (tb : List ((Str × Str) × Bool)) (run : Nat → List D → M D) (runT : Nat → M D → M D) (k : Nat) (a : Str) (th : M D) : Con := ⟨glX gls gx, run, fldO gls, 2 * k + 2, subO tb, some (a, th), runT⟩
/-- the lambdas that a def holds have a table -/
def lmB (d : Df) : Bool := !d.lm || Tbs.tf.any fun p => decide (p = ((d.name, none), d.name ++ ".<locals>." ++ "<lambda>"))
def tkB (d : Df) : Bool := !d.tk || (decide (d.ps.length = 1) && decide (d.ps.head? = d.N.head?) && (match d.ps with
  | [a] => visB d.scope a && dbg a
  | _ => false))
structure LOk (gls : List (Str × GV)) (tb : List ((Str × Str) × Bool)) (cls : List (Nat × Nat)) (d : Df) : Prop where
  o : d.tk = false → ∀ run runT k, (cBody (conO gls d.gx tb run runT k) ⟨d.scope, d.N, fun _ => true, true, d.cl ++ cls, d.lm⟩ d.body).map (·.1) = some (d.L run runT)
  t : d.tk = true → ∀ run runT k a th, d.ps = [a] → (cBody (conT gls d.gx tb run runT k a th) ⟨d.scope, d.N, fun _ => true, true, d.cl ++ cls, false⟩ d.body).map (·.1) = some (d.LT run runT th)
theorem xo_lam {P : Program} {w : World} {K : PySem.W.Frag} {mg : Str → Option Value} {base : Heap} {gls : List (Str × GV)} {tb : List ((Str × Str) × Bool)} {fs : List Df} {f : Nat → Addr} {fd : Nat → FuncData} (kn : Known P w K mg base gls tb fs f fd) {i : Nat} {d : Df} (hd : fs[i]? = some d) (hlm : lmB d = true) {X : Cx}
    (hK : X.K = K) (hmg : X.mg = mg) (hbase : X.base = base) (b : BodyL X.K (f i) d.name X) (hl : d.lm = true) : ∃ c Pt, LamX.TabB X.base X.mg c Pt ∧ X.env.code = .ref c ∧ (Pt, X.env.qual ++ "<lambda>") ∈ tabT X.K ∧ ∀ p ∈ tabT X.K, p.1 = Pt → p.2 = X.env.qual ++ "<lambda>" := by
  subst hK hmg hbase
  unfold lmB at hlm
  rw [hl] at hlm
  have hlm : (Tbs.tf.any fun p => decide (p = ((d.name, none), d.name ++ ".<locals>." ++ "<lambda>"))) = true := hlm
  obtain ⟨p, hp, e⟩ := List.any_eq_true.mp hlm
  have e := of_decide_eq_true e
  obtain ⟨c, fdd, oc, od, osl, e1, e2, e3⟩ := b.cd
  rw [kn.adr i d hd] at e2
  have ec : He.codeOf X.K (d.name, none) = c := He.codeOf_eq e2 e3
  have eq : X.env.qual ++ "<lambda>" = p.2 := by rw [b.ql, e]
  have ep : p.1 = (d.name, none) := by rw [e]
  refine ⟨c, He.tabOf X.K c, ?_, e1, ?_, fun q hq eqq => ?_⟩
  · have := kn.tbb p hp
    rw [ep] at this
    unfold He.cT at this
    rw [ec] at this
    exact this
  · rw [eq]
    refine List.mem_map.mpr ⟨p, hp, ?_⟩
    rw [ep, ec]
  · obtain ⟨r, hr, rfl⟩ := List.mem_map.mp hq
    rw [eq]
    refine kn.uni r hr p hp ?_
    show He.tabOf X.K (He.codeOf X.K r.1) = He.tabOf X.K (He.codeOf X.K p.1)
    rw [ep, ec]
    exact eqq
/-- the globals, as a body has them, by the level below -/
theorem gv_of {P : Program} {w : World} {K : PySem.W.Frag} {mg : Str → Option Value} {base : Heap} {gls : List (Str × GV)} {tb : List ((Str × Str) × Bool)} {fs : List Df} {f : Nat → Addr} {fd : Nat → FuncData} (kn : Known P w K mg base gls tb fs f fd) {C : Con} {l : Nat} (hgl : C.gl = fun x => gls.lookup x) (hrun : C.run = semO fs l) (hrunT : C.runT = semTo fs l) (hfld : C.fld = fldO gls) (hk : C.k = 2 * l + 2) (hs : C.sub = subO tb)
    (ih : ∀ (i : Nat) (d : Df), fs[i]? = some d → d.tk = false → FnG P w K mg base (fldO gls) (2 * l + 2) (f i) (fd i) d.ps (semO fs l i)) (ihT : ∀ (i : Nat) (d : Df), fs[i]? = some d → d.tk = true → d.kw = [] → d.df = [] → ∃ (g : Addr) (a : Str) (Ng : List Str) (pg : Arguments) (bg : List Stmt) (sg : Scope) (dV kV doc pm cdv ct oc : Value) (an od : Option Addr) (osl : Array (Option Value)), mg d.name = some (.ref g) ∧ PySem.W.keepIn K (.ref g) = true ∧
      K.lookup g = some ⟨oc, od, .func (PySem.W.fnOf d.name d.name pg bg sg dV kV doc pm an cdv ct), osl⟩ ∧ PySem.W.codeIn K cdv d.name = true ∧ L2.Binds K (PySem.W.fnOf d.name d.name pg bg sg dV kV doc pm an cdv ct) [a] [] ∧ FnScope Ng [a] sg ∧ Ng[0]? = some a ∧ Vis sg a ∧ (a == ("__debug__" : Str)) = false ∧ (a == ("__classdict__" : Str)) = false ∧
      ∀ (X : Cx) (q : Str), X.prog = P → X.w = w → X.K = K → X.mg = mg → X.base = base → Room (2 * l + 3) X.A → X.A.guards = some [] → GivesW X Ng d.name sg g cdv bg a q (TTm K (fldO gls) (semTo fs l i))) {x : Str} {g : GV} (hg : C.gl x = some g) : GVp P w K mg base C x g := by
  rw [hgl] at hg
  have k1 := kn.rest x g hg
  cases g with
  | fn j n =>
    obtain ⟨d', hd', en, el, ek, edf, et⟩ := k1
    subst en
    obtain ⟨dvs', kws', FD'⟩ := kn.fun_ j d' hd'
    refine ⟨f j, fd j, d'.ps, kn.at_ j d' hd', el, FD'.kp, kn.bind j d' hd' ek edf, ?_⟩
    rw [hfld, hrun, hk]
    exact ih j d' hd' et
  | fnK j n kws =>
    obtain ⟨d', hd', en, el, ek, ne, edf, et⟩ := k1
    subst en ek
    obtain ⟨dvs', kws', FD'⟩ := kn.fun_ j d' hd'
    obtain ⟨dus, dv, b1, b2, b3, b4⟩ := kn.bindD j d' hd' ne edf
    rw [show d'.ps.length - d'.kw.length = n by omega] at b4
    refine ⟨f j, fd j, d'.ps, dus, dv, kn.at_ j d' hd', el, FD'.kp, b1, b2, b3, b4, ?_⟩
    rw [hfld, hrun, hk]
    exact ih j d' hd' et
  | fnT j =>
    obtain ⟨d', hd', en, et, ek, edf⟩ := k1
    subst en
    show ∃ _, _
    rw [hfld, hrunT, hk]
    exact ihT j d' hd' et ek edf
  | fnD j n df =>
    obtain ⟨d', hd', en, el, et, b0, dus, dv, b1, b2, b3⟩ := k1
    subst en
    obtain ⟨dvs', kws', FD'⟩ := kn.fun_ j d' hd'
    refine ⟨f j, fd j, d'.ps, dus, dv, kn.at_ j d' hd', el, FD'.kp, b0, b1, b2, b3, ?_⟩
    rw [hfld, hrun, hk]
    exact ih j d' hd' et
  | exc fs =>
    obtain ⟨h1, h2, h3, h4⟩ := k1
    show _ ∧ _ ∧ C.fld x = fs ∧ _
    rw [hfld]
    exact ⟨h1, h2, h3, h4⟩
  | _ => exact k1
theorem gv_ofX {P : Program} {w : World} {K : PySem.W.Frag} {mg : Str → Option Value} {base : Heap} {gls : List (Str × GV)} {tb : List ((Str × Str) × Bool)} {fs : List Df} {f : Nat → Addr} {fd : Nat → FuncData} (kn : Known P w K mg base gls tb fs f fd) {C : Con} {l : Nat} {gx : List (Str × Nat × Nat)} (hgx : gxB fs gx = true) (hgl : C.gl = glX gls gx) (hrun : C.run = semO fs l) (hrunT : C.runT = semTo fs l) (hfld : C.fld = fldO gls) (hk : C.k = 2 * l + 2) (hs : C.sub = subO tb)
    (ih : ∀ (i : Nat) (d : Df), fs[i]? = some d → d.tk = false → FnG P w K mg base (fldO gls) (2 * l + 2) (f i) (fd i) d.ps (semO fs l i)) (ihT : ∀ (i : Nat) (d : Df), fs[i]? = some d → d.tk = true → d.kw = [] → d.df = [] → ∃ (g : Addr) (a : Str) (Ng : List Str) (pg : Arguments) (bg : List Stmt) (sg : Scope) (dV kV doc pm cdv ct oc : Value) (an od : Option Addr) (osl : Array (Option Value)), mg d.name = some (.ref g) ∧ PySem.W.keepIn K (.ref g) = true ∧
      K.lookup g = some ⟨oc, od, .func (PySem.W.fnOf d.name d.name pg bg sg dV kV doc pm an cdv ct), osl⟩ ∧ PySem.W.codeIn K cdv d.name = true ∧ L2.Binds K (PySem.W.fnOf d.name d.name pg bg sg dV kV doc pm an cdv ct) [a] [] ∧ FnScope Ng [a] sg ∧ Ng[0]? = some a ∧ Vis sg a ∧ (a == ("__debug__" : Str)) = false ∧ (a == ("__classdict__" : Str)) = false ∧
      ∀ (X : Cx) (q : Str), X.prog = P → X.w = w → X.K = K → X.mg = mg → X.base = base → Room (2 * l + 3) X.A → X.A.guards = some [] → GivesW X Ng d.name sg g cdv bg a q (TTm K (fldO gls) (semTo fs l i))) {x : Str} {g : GV} (hg : C.gl x = some g) : GVp P w K mg base C x g := by
  rw [hgl] at hg
  unfold glX at hg
  split at hg
  · rename_i p hp
    cases hg
    have q := List.all_eq_true.mp hgx (x, p) (PySem.mem_of_lookup hp)
    dsimp only at q
    split at q
    · rename_i d' hd'
      simp only [Bool.and_eq_true, decide_eq_true_eq, List.isEmpty_iff, Bool.not_eq_true'] at q
      obtain ⟨en, el, ek, edf, et⟩ := q
      subst en
      obtain ⟨dvs', kws', FD'⟩ := kn.fun_ p.1 d' hd'
      refine ⟨f p.1, fd p.1, d'.ps, kn.at_ p.1 d' hd', el, FD'.kp, kn.bind p.1 d' hd' ek edf, ?_⟩
      rw [hfld, hrun, hk]
      exact ih p.1 d' hd' et
    · cases q
  · have h := gv_of kn (C := { C with gl := fun x => gls.lookup x }) rfl hrun hrunT hfld hk hs ih ihT hg
    cases g <;> exact h
theorem sem_ok {P : Program} {w : World} {K : PySem.W.Frag} {mg : Str → Option Value} {base : Heap} {gls : List (Str × GV)} {tb : List ((Str × Str) × Bool)} {fs : List Df} {f : Nat → Addr} {fd : Nat → FuncData} {cls : List (Nat × Nat)} (kn : Known P w K mg base gls tb fs f fd)
    (hsc : ∀ (i : Nat) (d : Df), fs[i]? = some d → FnScope d.N d.ps d.scope) (hlm : ∀ (i : Nat) (d : Df), fs[i]? = some d → lmB d = true) (htk : ∀ (i : Nat) (d : Df), fs[i]? = some d → tkB d = true) (hgx : ∀ (i : Nat) (d : Df), fs[i]? = some d → gxB fs d.gx = true) (hL : ∀ [Hnd] (i : Nat) (d : Df), fs[i]? = some d → LOk gls tb cls d) :
    ∀ (l : Nat), (∀ [Hnd] (i : Nat) (d : Df), fs[i]? = some d → d.tk = false → FnG P w K mg base (fldO gls) (2 * l + 2) (f i) (fd i) d.ps (semO fs l i)) ∧ (∀ (i : Nat) (d : Df), fs[i]? = some d → d.tk = true → d.kw = [] → d.df = [] → ∃ (g : Addr) (a : Str) (Ng : List Str) (pg : Arguments) (bg : List Stmt) (sg : Scope) (dV kV doc pm cdv ct oc : Value) (an od : Option Addr) (osl : Array (Option Value)), mg d.name = some (.ref g) ∧ PySem.W.keepIn K (.ref g) = true ∧
      K.lookup g = some ⟨oc, od, .func (PySem.W.fnOf d.name d.name pg bg sg dV kV doc pm an cdv ct), osl⟩ ∧ PySem.W.codeIn K cdv d.name = true ∧ L2.Binds K (PySem.W.fnOf d.name d.name pg bg sg dV kV doc pm an cdv ct) [a] [] ∧ FnScope Ng [a] sg ∧ Ng[0]? = some a ∧ Vis sg a ∧ (a == ("__debug__" : Str)) = false ∧ (a == ("__classdict__" : Str)) = false ∧
      ∀ (X : Cx) (q : Str), X.prog = P → X.w = w → X.K = K → X.mg = mg → X.base = base → Room (2 * l + 3) X.A → X.A.guards = some [] → GivesW X Ng d.name sg g cdv bg a q (TTm K (fldO gls) (semTo fs l i))) := by
  intro l
  have facts : ∀ (i : Nat) (d : Df), fs[i]? = some d → d.tk = true → d.kw = [] → d.df = [] → ∃ (g : Addr) (a : Str) (dV kV doc pm cdv ct oc : Value) (an od : Option Addr) (osl : Array (Option Value)), d.ps = [a] ∧ mg d.name = some (.ref g) ∧ PySem.W.keepIn K (.ref g) = true ∧
      K.lookup g = some ⟨oc, od, .func (PySem.W.fnOf d.name d.name d.params d.body d.scope dV kV doc pm an cdv ct), osl⟩ ∧ PySem.W.codeIn K cdv d.name = true ∧ L2.Binds K (PySem.W.fnOf d.name d.name d.params d.body d.scope dV kV doc pm an cdv ct) [a] [] ∧ FnScope d.N [a] d.scope ∧ d.N[0]? = some a ∧ Vis d.scope a ∧ (a == ("__debug__" : Str)) = false ∧ (a == ("__classdict__" : Str)) = false := fun i d hd ht hk hdf => by
    obtain ⟨dvs, kws, FD⟩ := kn.fun_ i d hd
    have S := hsc i d hd
    have B := kn.bind i d hd hk hdf
    have q := htk i d hd
    unfold tkB at q
    rw [ht] at q
    obtain ⟨oc, od, dV, kV, doc, pm, an, cdv, ct, osl, efd, lk, hcd, _, _⟩ := FD.ex
    have q : (decide (d.ps.length = 1) && decide (d.ps.head? = d.N.head?) && (match d.ps with
      | [a] => visB d.scope a && dbg a
      | _ => false)) = true := q
    cases hp : d.ps with
    | nil => rw [hp] at q; simp at q
    | cons a r =>
      cases r with
      | cons a2 r2 => rw [hp] at q; simp at q
      | nil =>
        rw [hp] at q S B
        simp only [List.length_singleton, decide_true, Bool.true_and, Bool.and_eq_true, decide_eq_true_eq, List.head?_cons] at q
        rw [efd] at lk B
        have hN : d.N[0]? = some a := by
          rw [← List.head?_eq_getElem?]
          exact (of_decide_eq_true q.1).symm
        exact ⟨f i, a, dV, kV, doc, pm, cdv, ct, oc, an, od, osl, rfl, kn.at_ i d hd, FD.kp, lk, hcd, B, S, hN, vis_of q.2.1, dbg_1 q.2.2, dbg_2 q.2.2⟩
  induction l with
  | zero =>
    refine ⟨fun i d hd _ => ⟨fun A outer s H args us vs Q E ds st ca hr hg e0 hb r hl rd sr hp => hp.elim⟩, fun i d hd ht hk hdf => ?_⟩
    obtain ⟨g, a, dV, kV, doc, pm, cdv, ct, oc, an, od, osl, hp, h1, h2, h3, h4, h5, h6, h7, h8, h9, h10⟩ := facts i d hd ht hk hdf
    exact ⟨g, a, d.N, d.params, d.body, d.scope, dV, kV, doc, pm, cdv, ct, oc, an, od, osl, h1, h2, h3, h4, h5, h6, h7, h8, h9, h10, fun X q e1 e2 e3 e4 e5 hr hg f' c' s H Q E tl _ _ htt => by
      obtain ⟨th, st, ca, inv, _, _, _, _, hp⟩ := htt
      exact hp.elim⟩
  | succ l ihl =>
    obtain ⟨ih, ihT⟩ := ihl
    refine ⟨fun i d hd ht => ?_, fun i d hd ht hk hdf => ?_⟩
    · obtain ⟨dvs, kws, FD⟩ := kn.fun_ i d hd
      have S := hsc i d hd
      have e : semO fs (l + 1) i = semF d.N.length (d.L (semO fs l) (semTo fs l)) := by
        show (match fs[i]? with
          | some d => semF d.N.length (d.L (semB fs l).1 (semB fs l).2)
          | none => fun _ => M.bad) = _
        rw [hd]
        rfl
      rw [e]
      refine fnG (k := 2 * l + 3) FD S fun X W H0 ca0 b bl => ?_
      obtain ⟨q, hq, eq⟩ := Option.map_eq_some_iff.mp ((hL i d hd).o ht (semO fs l) (semTo fs l) l)
      rw [← eq]
      have hx : XO (conO gls d.gx tb (semO fs l) (semTo fs l) l) ⟨d.scope, d.N, fun _ => true, true, d.cl ++ cls, d.lm⟩ W X := by
        refine ⟨b.N, S.nd, S.kind, b.sc, b.calm, fun x _ => b.fn x, b.room.mono (by show 2 * l + 2 ≤ _; omega), b.gd, b.tk, fun x g hg => ?_, fun _ => b.po, Nat.le_add_left _ _, fun x y bb hs => ?_, fun _ => b.stk, fun _ a m h => (by cases h), fun _ => b.room, fun _ hl => ?_, by rw [b.K]; exact kn.kit, FrX.body b.stk.1 b.stk.2, TakesH.body b.tk b.stk.2⟩
        · show GVp X.prog X.w X.K X.mg X.base _ x g
          rw [b.prog, b.w, b.K, b.mg, b.base]
          exact gv_ofX kn (hgx i d hd) rfl rfl rfl rfl rfl rfl ih ihT hg
        · rw [b.K]
          exact kn.sub x y bb hs
        · exact xo_lam kn hd (hlm i d hd) b.K b.mg b.base (by rw [b.K]; exact bl) hl
      have := q.2 W X H0 ca0 hx
      rw [b.K] at this
      exact this
    · obtain ⟨g, a, dV, kV, doc, pm, cdv, ct, oc, an, od, osl, hp, h1, h2, h3, h4, h5, h6, h7, h8, h9, h10⟩ := facts i d hd ht hk hdf
      refine ⟨g, a, d.N, d.params, d.body, d.scope, dV, kV, doc, pm, cdv, ct, oc, an, od, osl, h1, h2, h3, h4, h5, h6, h7, h8, h9, h10, fun X q e1 e2 e3 e4 e5 hr hg => ?_⟩
      subst e1 e2 e3 e4 e5
      have e : semTo fs (l + 1) i = fun th => semT d.N.length (d.LT (semO fs l) (semTo fs l) th) := by
        show (match fs[i]? with
          | some d => fun th => semT d.N.length (d.LT (semB fs l).1 (semB fs l).2 th)
          | none => fun _ => M.bad) = _
        rw [hd]
        rfl
      rw [e]
      refine givesT (k := 2 * l + 4) (B := d.LT (semO fs l) (semTo fs l)) hr hg (by
        have := (List.getElem?_eq_some_iff.mp h7).1
        omega) fun Z W H0 ca0 th b hth => ?_
      obtain ⟨q, hq, eq⟩ := Option.map_eq_some_iff.mp ((hL i d hd).t ht (semO fs l) (semTo fs l) l a th hp)
      rw [← eq]
      have hx : XO (conT gls d.gx tb (semO fs l) (semTo fs l) l a th) ⟨d.scope, d.N, fun _ => true, true, d.cl ++ cls, false⟩ W Z := by
        refine ⟨b.N, h6.nd, h6.kind, b.sc, b.calm, fun x _ => b.fn x, b.room.mono (by show 2 * l + 2 ≤ _; omega), b.gd, b.tk, fun x g hg => ?_, fun _ => b.po, Nat.le_add_left _ _, fun x y bb hs => ?_, fun _ => b.stk, fun _ a m h => ?_, fun _ => b.room.mono (by show 2 * l + 2 + 1 ≤ _; omega), fun _ hl => (nomatch hl), by rw [b.K]; exact kn.kit, FrX.body b.stk.1 b.stk.2, TakesH.body b.tk b.stk.2⟩
        · show GVp Z.prog Z.w Z.K Z.mg Z.base _ x g
          rw [b.prog, b.w, b.K, b.mg, b.base]
          exact gv_ofX kn (hgx i d hd) rfl rfl rfl rfl rfl rfl ih ihT hg
        · rw [b.K]
          exact kn.sub x y bb hs
        · cases h
          exact fun W' pn xe p1 p2 tk => hth W' pn xe p1 p2 tk
      have := q.2 W Z H0 ca0 hx
      rw [b.K] at this
      exact this
end Ev
/-! The law's call, from its meaning. -/
namespace Ev
open PySem PySem.Spec PyProof.Rows L2
variable [Tbs] [Hnd]
/-- what is wanted of the law's call -/
def Said (s1 : Shared) (r : Result) (s' : Shared) : Prop := r = .ok (.ret (.bool true)) ∧ OldK s1.heap s'.heap ∧ s'.os = s1.os ∧ AllBare s'.gens
section
variable {P : Program} {w : World} {K : PySem.W.Frag} {mg mb : Str → Option Value} {fld : Str → List Str} {k : Nat} {fa a : Addr} {fd : FuncData} {x : Str} {F : List D → M D} {s1 : Shared} {vs : List Value} {ns : List Int}
/-- a def's tables in the heap h: empty, not in K -/
def TbH (K : PySem.W.Frag) (h : Heap) : Prop := ∀ p ∈ Tbs.tf, h.get? (He.cT K p.1).2 = some { cls := .none, data := .fields #[] } ∧ K.lookup (He.cT K p.1).2 = none ∧ PySem.W.CodeHd h (He.cT K p.1).1 (He.cT K p.1).2
def isTb (K : PySem.W.Frag) (b : Addr) : Prop := ∃ p ∈ Tbs.tf, (He.cT K p.1).2 = b
def BmO (mg : Str → Option Value) (h : Heap) : Prop := ∃ (bm : Addr) (ob : Obj), mg "__builtins__" = some (.ref bm) ∧ bm ≠ builtinsNs ∧ h.get? bm = some ob ∧ ob.cls = .type "module" ∧ ob.dict = some builtinsNs ∧ ob.data = .plain
theorem said_core (KX : K.In s1.heap) (hns : s1.heap.Ns mainGlobals mg) (hb : s1.heap.Ns builtinsNs mb) (hbb : ∀ x : Str, x ≠ "__name__" → mb x = bootBuiltins x) (hlim : s1.heap.NoLimit) (hg : s1.gens = #[]) (hT : TbH K s1.heap) (hbm : BmO mg s1.heap)
    (ha : s1.heap.get? a = some { cls := .type "list", data := .seq vs.toArray }) (hr : Room k callerA) (G : ∀ base : Heap, K.In base → base.Ns mainGlobals mg → TbB K base mg → FnG P w K mg base fld k fa fd [x] F) (hbind : ∀ (s : Shared) (u : Value), BindsTo s fd ⟨[u], []⟩ [(x, u)])
    (hF : ∃ st, F [.lst (ns.map .int)] [] = .ok (.bl true) st) {H : Hp} (hH : ∀ b, isTb K b → H b = some (.tbl #[])) (hO : ∀ b, ¬ isTb K b → H b = none ∨ (b = a ∧ ∃ o xs, H b = some (.frz o (.lst xs)))) (hS : FzL K H a (ns.map V.int)) (hok : HOk P w H s1.heap) (hK : H a ≠ none → K.lookup a = none) :
    codeAny (model P w) callerA (.call (.ref fa) ⟨[.ref a], []⟩) (Said s1) s1 := by
  have isT : ∀ b, isTb K b → s1.heap.get? b = some { cls := .none, data := .fields #[] } := fun b ⟨p, hp, e⟩ => e ▸ (hT p hp).1
  -- what is neither a list nor a table is not tracked
  have noD : ∀ {b : Addr} {o : Obj}, s1.heap.get? b = some o → (∀ vs n, o.data ≠ .seq vs n) → o.data ≠ .fields #[] → H b = none := fun {b o} e h1 h2 => by
    by_cases hb : isTb K b
    · rw [isT b hb] at e
      cases e
      exact (h2 rfl).elim
    · rcases hO b hb with z | ⟨rfl, _⟩
      · exact z
      · rw [ha] at e
        cases e
        exact (h1 _ _ rfl).elim
  have base_of : ∀ {b : Addr} {o : Obj}, s1.heap.get? b = some o → H b = none → (hidT s1.heap H).get? b = some o := fun e n => hidT_get e n
  have dct : ∀ {b : Addr} {m : Str → Option Value}, s1.heap.Ns b m → (hidT s1.heap H).Ns b m := fun {b m} ⟨o, es, n, e, d, r⟩ => by
    refine ⟨o, es, n, base_of e (noD e (fun vs n z => ?_) fun z => ?_), d, r⟩
    · rw [d] at z
      cases z
    · rw [d] at z
      cases z
  have hin : K.In (hidT s1.heap H) := fun b o e => base_of (KX b o e) (by
    by_cases hb : isTb K b
    · obtain ⟨p, hp, ep⟩ := hb
      rw [← ep, (hT p hp).2.1] at e
      cases e
    · rcases hO b hb with z | ⟨rfl, o', xs, z⟩
      · exact z
      · rw [hK (by rw [z]; exact fun y => nomatch y)] at e
        cases e)
  have TB : TbB K (hidT s1.heap H) mg := fun p hp => by
    have hTp := (hT p hp).1
    refine ⟨?_, ?_, fun z => ?_⟩
    · obtain ⟨o, us, file, tf, flags, tg, inF, text, tt, e1, r1, r2, r3, r4, r5, r6, r7, r8, hne⟩ := (hT p hp).2.2
      refine ⟨o, us, file, tf, flags, tg, inF, text, tt, base_of e1 (noD e1 (fun vs n z => ?_) fun z => ?_), r1, r2, r3, r4, r5, r6, r7, r8, hne⟩
      · rw [r2] at z
        cases z
      · rw [r2] at z
        cases z
        simp at r3
    · obtain ⟨mods, mo, isM, notB, atM, mCls, mDict, mData⟩ := hbm
      have notT : mods ≠ (He.cT K p.1).2 := by
        rintro rfl
        cases atM.symm.trans hTp
        exact nomatch mData
      have notG : mods ≠ mainGlobals := by
        rintro rfl
        obtain ⟨o, es, n, atG, isDict, _⟩ := hns
        cases atM.symm.trans atG
        exact nomatch mData.symm.trans isDict
      exact ⟨mods, mo, isM, notB, notG, notT, base_of atM (noD atM (fun _ _ z => nomatch mData.symm.trans z) fun z => nomatch mData.symm.trans z), mCls, mDict, mData⟩
    · obtain ⟨o, es, ep, e, hd, _⟩ := hns
      rw [z, hTp] at e
      cases e
      cases hd
  have e0 : Env0 P w K mg (hidT s1.heap H) callerA [] s1 H :=
    ⟨rfl, ⟨hin, dct hns, ⟨mb, dct hb, hbb⟩, let ⟨mc, q1, q2⟩ := hlim; ⟨mc, dct q1, q2⟩⟩, fun b o e => of_hidT e, Nat.le_of_eq (hidT_size _ _), trivial, fun b z => (List.not_mem_nil z).elim, hok, .of_eq hg⟩
  obtain ⟨st, hF⟩ := hF
  have ds : ∀ l : List Int, RelDs K H [] (l.map .int) (l.map V.int) := fun l => by
    induction l with
    | nil => rfl
    | cons i l ih => exact ⟨_, _, rfl, rfl, ih⟩
  have tb0 : LamX.Tabs (tabT K) H := fun q hq => by
    obtain ⟨p, hp, rfl⟩ := List.mem_map.1 hq
    exact LamX.TabS.nil (hH _ ⟨p, hp, rfl⟩)
  have sr : SR K [] [] H := ⟨rfl, List.nodup_nil, fun i c b e => by simp at e, tb0⟩
  refine codeAny_mono ((G _ hin (dct hns) TB).run callerA [] s1 H ⟨[.ref a], []⟩ [.ref a] [.ref a] (fun v _ => v = .bl true) (fun _ _ _ => False) [.lst (ns.map .int)] [] [] hr rfl e0 (hbind s1 (.ref a)) (.cons rfl .nil) rfl
    ⟨.ref a, [], rfl, ⟨a, _, rfl, hS, ds ns⟩, rfl⟩ sr (by rw [hF]; exact fun v ca' H' _ _ r => r)) fun r s' h => ?_
  cases r with
  | error e =>
    obtain ⟨_, _, _, _, _, _, _, _, _, _, _, _, z⟩ := (show L2.CX P w [] H s1 (fun _ _ _ => False) e s' from h)
    exact z.elim
  | ok fl =>
    cases fl with
    | ret u =>
      obtain ⟨v, H', os, bare, un, hok', r', q⟩ := h
      cases (show v = .bl true from q)
      cases (show u = Value.bool true from r')
      have key : ∀ b o, ¬ isTb K b → s1.heap.get? b = some o → s'.heap.get? b = some o := fun b o nb e => by
        rcases hO b nb with z | ⟨_, ob, xs, z⟩
        · exact un.keep b o e z List.not_mem_nil List.not_mem_nil
        · have z2 := un.frzs b ob _ z
          have e1 := (hok b _ z).1
          rw [e] at e1
          cases e1
          exact (hok' b _ z2).1
      have grown : ∀ b, isTb K b → ∃ more : Array Value, s'.heap.get? b = some { cls := .none, data := .fields more } := fun b hb => by
        obtain ⟨more, z⟩ := un.tbls b #[] (hH b hb)
        exact ⟨_, hok' b _ z⟩
      refine ⟨rfl, ⟨fun b o e => ?_, fun b o e => ?_⟩, os, bare⟩
      · by_cases hb : isTb K b
        · obtain ⟨more, hm⟩ := grown b hb
          obtain ⟨p, hp, ep⟩ := hb
          have hTp := (hT p hp).1
          rw [ep] at hTp
          rw [hTp] at e
          cases e
          have ic := (((hT p hp).2.2).tab (hT p hp).1).isCodeTable
          rw [ep] at ic
          exact .inr (.inl ⟨ic, rfl, #[], more, rfl, by rw [Array.empty_append]; exact hm⟩)
        · exact .inl (key b o hb e)
      · by_cases hb : isTb K b
        · obtain ⟨more, hm⟩ := grown b hb
          exact ⟨_, hm⟩
        · exact ⟨o, key b o hb e⟩
    | next => exact h.elim
    | brk => exact h.elim
    | cont => exact h.elim
open Classical in
theorem said (KX : K.In s1.heap) (hns : s1.heap.Ns mainGlobals mg) (hb : s1.heap.Ns builtinsNs mb) (hbb : ∀ x : Str, x ≠ "__name__" → mb x = bootBuiltins x) (hlim : s1.heap.NoLimit) (hg : s1.gens = #[]) (hT : TbH K s1.heap) (hbm : BmO mg s1.heap)
    (ha : s1.heap.get? a = some { cls := .type "list", data := .seq vs.toArray }) (hi : IntsAre vs ns) (hl : ns.length ≤ sizeLine) (hr : Room k callerA) (G : ∀ base : Heap, K.In base → base.Ns mainGlobals mg → TbB K base mg → FnG P w K mg base fld k fa fd [x] F) (hbind : ∀ (s : Shared) (u : Value), BindsTo s fd ⟨[u], []⟩ [(x, u)])
    (hF : ∃ st, F [.lst (ns.map .int)] [] = .ok (.bl true) st) : codeAny (model P w) callerA (.call (.ref fa) ⟨[.ref a], []⟩) (Said s1) s1 := by
  have rv := vals_ints hi
  have lv : vs.length ≤ sizeLine := by rw [← rv.length, List.length_map]; exact hl
  have isT : ∀ b, isTb K b → s1.heap.get? b = some { cls := .none, data := .fields #[] } := fun b ⟨p, hp, e⟩ => e ▸ (hT p hp).1
  have aT : ¬ isTb K a := fun z => by
    have q := isT a z
    rw [ha] at q
    have z' : Data.seq vs.toArray _ = Data.fields #[] := congrArg Obj.data (Option.some.inj q)
    cases z'
  cases hk : K.lookup a with
  | some o =>
    have e := KX a o hk
    rw [ha] at e
    cases e
    refine said_core KX hns hb hbb hlim hg hT hbm ha hr G hbind hF (H := fun b => if isTb K b then some (.tbl #[]) else none) (fun b z => if_pos z) (fun b z => .inl (if_neg z)) (.inr ⟨vs, _, hk, lv, rv⟩) (fun b u z => ?_) fun z => (z (if_neg aT)).elim
    by_cases hb : isTb K b
    · have z' := (if_pos hb).symm.trans z
      cases z'
      exact isT b hb
    · have z' := (if_neg hb).symm.trans z
      cases z'
  | none =>
    refine said_core KX hns hb hbb hlim hg hT hbm ha hr G hbind hF (H := fun b => if b = a then some (.frz { cls := .type "list", data := .seq vs.toArray } (.lst (ns.map V.int))) else if isTb K b then some (.tbl #[]) else none) (fun b z => (if_neg (show ¬ b = a from fun e => aT (e ▸ z))).trans (if_pos z)) (fun b z => ?_) (.inl ⟨_, if_pos rfl⟩) (fun b u z => ?_) fun _ => hk
    · by_cases y : b = a
      · exact .inr ⟨y, _, _, if_pos y⟩
      · exact .inl ((if_neg y).trans (if_neg z))
    · by_cases y : b = a
      · have z' := (if_pos y).symm.trans z
        cases z'
        rw [y]
        exact ⟨ha, by rw [List.length_map]; exact hl, vs, _, rv, ha⟩
      · have z1 := (if_neg y).symm.trans z
        by_cases hb : isTb K b
        · have z' := (if_pos hb).symm.trans z1
          cases z'
          exact isT b hb
        · have z' := (if_neg hb).symm.trans z1
          cases z'
end
/-- the end of a law: F gives the meaning of its def -/
theorem walk_ev {l : PySem.W.OpenLaw} {n k : Nat} {q : Program} {loose : List Str} {XP : (Str → Option Value) → Heap → Prop} {YP : World → Heap → Prop} {d : DefRec} {x : Str} {fld : Str → List Str}
    (hn : l.most = some n) (hn2 : n ≤ sizeLine) (hdf : d.params.defaults = []) (hr : Room k callerA)
    (F : ∀ (w : World) (mg : Str → Option Value) (fa : Addr) (h : Heap), YP w h → h.Ns mainGlobals mg → mg d.name = some (.ref fa) → ∃ (K : PySem.W.Frag) (fd : FuncData) (F : List D → M D), K.In h ∧ (∀ (s : Shared) (u : Value), BindsTo s fd ⟨[u], []⟩ [(x, u)]) ∧
      TbH K h ∧ (∀ ns : List Int, ns.length ≤ n → ∃ st, F [.lst (ns.map .int)] [] = .ok (.bl true) st) ∧ ∀ base : Heap, K.In base → base.Ns mainGlobals mg → TbB K base mg → FnG l.prog w K mg base fld k fa fd [x] F) :
    PySem.W.WalkO q loose XP YP l.row.toRowW d [] (fun f vs => PySem.call f vs) := by
  refine Att.attach_call hn hdf fun w s0 s1 mg mb fa o pm cd doc a vs ns G Y ho hd hcd hmg hobj hints hlen hg => ?_
  obtain ⟨K, fd, F', KX, hb, hT, hsp, hF⟩ := F w mg fa _ Y G.T.g hmg
  exact said KX G.T.g G.T.b G.T.builtins G.T.nolimit hg hT G.T.bmain hobj hints (Nat.le_trans hlen hn2) hr hF hb (hsp ns hlen)
end Ev
/-! What the head says of the globals. -/
namespace Ev
open PySem PySem.Spec PyProof.Rows L2
variable [Tbs] [Hnd]
mutual
/-- a value of the module's own, plain -/
def dB (K : PySem.W.Frag) : D → Value → Bool
  | .non, .none => true
  | .bl b, .bool c => decide (c = b)
  | .int i, .int j _ => decide (j = i)
  | .str x, .str y _ => decide (y = x)
  | .tup ds, .ref a => match K.lookup a with
    | some ⟨.type c, _, .seq its _, _⟩ => decide (c = "tuple") && decide (its.size ≤ sizeLine) && dBs K ds its.toList
    | _ => false
  | _, _ => false
def dBs (K : PySem.W.Frag) : List D → List Value → Bool
  | [], [] => true
  | d :: ds, u :: us => dB K d u && dBs K ds us
  | _, _ => false
end
mutual
theorem dB_ok {K : PySem.W.Frag} : ∀ (d : D) (u : Value), dB K d u = true → ∃ v, L2.RelV v u ∧ ∀ H ca, RelD K H ca d v
  | .non, u, h => by
    cases u with
    | none => exact ⟨.non, rfl, fun _ _ => rfl⟩
    | _ => simp [dB] at h
  | .bl b, u, h => by
    cases u with
    | bool c =>
      simp only [dB, decide_eq_true_eq] at h
      subst h
      exact ⟨.bl _, rfl, fun _ _ => rfl⟩
    | _ => simp [dB] at h
  | .int i, u, h => by
    cases u with
    | int j t =>
      simp only [dB, decide_eq_true_eq] at h
      subst h
      exact ⟨.int _, ⟨t, rfl⟩, fun _ _ => rfl⟩
    | _ => simp [dB] at h
  | .str x, u, h => by
    cases u with
    | str y t =>
      simp only [dB, decide_eq_true_eq] at h
      subst h
      exact ⟨.str _, ⟨t, rfl⟩, fun _ _ => rfl⟩
    | _ => simp [dB] at h
  | .tup ds, u, h => by
    cases u with
    | ref a =>
      simp only [dB] at h
      split at h
      · rename_i c od its n sl hk
        simp only [Bool.and_eq_true, decide_eq_true_eq] at h
        obtain ⟨⟨rfl, hz⟩, hs⟩ := h
        obtain ⟨vs, r1, r2⟩ := dBs_ok ds its.toList hs
        exact ⟨.ref a, rfl, fun H ca => ⟨a, vs, rfl, .inr ⟨_, its, n, hk, rfl, rfl, hz, r1⟩, r2 H ca⟩⟩
      · cases h
    | _ => simp [dB] at h
  | .lst ds, u, h => by cases u <;> simp [dB] at h
  | .cell k, u, h => by cases u <;> simp [dB] at h
  | .ty n, u, h => by cases u <;> simp [dB] at h
theorem dBs_ok {K : PySem.W.Frag} : ∀ (ds : List D) (us : List Value), dBs K ds us = true → ∃ vs, Vals vs us ∧ ∀ H ca, RelDs K H ca ds vs
  | [], [], _ => ⟨[], .nil, fun _ _ => rfl⟩
  | [], _ :: _, h => by simp [dBs] at h
  | _ :: _, [], h => by simp [dBs] at h
  | d :: ds, u :: us, h => by
    simp only [dBs, Bool.and_eq_true] at h
    obtain ⟨v, r1, r2⟩ := dB_ok d u h.1
    obtain ⟨vs, q1, q2⟩ := dBs_ok ds us h.2
    exact ⟨v :: vs, .cons r1 q1, fun H ca => ⟨v, vs, rfl, r2 H ca, q2 H ca⟩⟩
end
theorem tupB_ok {K : PySem.W.Frag} {ds : List D} {a : Addr} (h : dB K (.tup ds) (.ref a) = true) : ∀ H ca, RelD K H ca (.tup ds) (.ref a) := by
  simp only [dB] at h
  split at h
  · rename_i c od its n sl hk
    simp only [Bool.and_eq_true, decide_eq_true_eq] at h
    obtain ⟨⟨rfl, hz⟩, hs⟩ := h
    obtain ⟨vs, r1, r2⟩ := dBs_ok ds its.toList hs
    exact fun H ca => ⟨a, vs, rfl, .inr ⟨_, its, n, hk, rfl, rfl, hz, r1⟩, r2 H ca⟩
  · cases h
/-- a default, as the head has it -/
def dvOf : D → He.Dv
  | .bl b => .bl b
  | .int i => .int i
  | .str x => .str x
  | _ => .non
def simD : D → Bool
  | .non => true
  | .bl _ => true
  | .int _ => true
  | .str _ => true
  | _ => false
theorem simD_ok {K : PySem.W.Frag} {H : Hp} {ca : List Addr} {d : D} (h : simD d = true) : RelD K H ca d ((dvOf d).v K) := by
  cases d <;> first | rfl | cases h
/-- the defaults of the def x, by place: a tuple is told by where it stands -/
def dvAt (x : Str) (i : Nat) : D → He.Dv
  | .tup _ => .adr (He.dflAt (x, none) i)
  | d => dvOf d
def dfsOf (x : Str) : Nat → List D → List He.Dv
  | _, [] => []
  | i, d :: ds => dvAt x i d :: dfsOf x (i + 1) ds
theorem dfsOf_len (x : Str) : ∀ (i : Nat) (ds : List D), (dfsOf x i ds).length = ds.length
  | _, [] => rfl
  | i, d :: ds => congrArg Nat.succ (dfsOf_len x (i + 1) ds)
def d1B (K : PySem.W.Frag) (x : Str) (i : Nat) : D → Bool
  | .tup ds => dB K (.tup ds) (.ref (He.dflAt (x, none) i K))
  | d => simD d
def dfB (K : PySem.W.Frag) (x : Str) : Nat → List D → Bool
  | _, [] => true
  | i, d :: ds => d1B K x i d && dfB K x (i + 1) ds
theorem dfB_ok {K : PySem.W.Frag} {x : Str} : ∀ (i : Nat) (ds : List D), dfB K x i ds = true → ∀ H ca, RelDs K H ca ds ((dfsOf x i ds).map (He.Dv.v K))
  | _, [], _, _, _ => rfl
  | i, d :: ds, h, H, ca => by
    obtain ⟨h1, h2⟩ := Bool.and_eq_true_iff.mp (show (d1B K x i d && dfB K x (i + 1) ds) = true from h)
    refine ⟨(dvAt x i d).v K, (dfsOf x (i + 1) ds).map (He.Dv.v K), rfl, ?_, dfB_ok (i + 1) ds h2 H ca⟩
    cases d with
    | tup es => exact tupB_ok h1 H ca
    | _ => first | rfl | cases h1
def d1Eq : D → D → Bool
  | .bl a, .bl b => decide (a = b)
  | .int a, .int b => decide (a = b)
  | .str a, .str b => decide (a = b)
  | .non, .non => true
  | .tup [], .tup [] => true
  | _, _ => false
theorem d1Eq_ok {a b : D} (h : d1Eq a b = true) : a = b := by
  unfold d1Eq at h
  split at h
  · exact congrArg _ (of_decide_eq_true h)
  · exact congrArg _ (of_decide_eq_true h)
  · exact congrArg _ (of_decide_eq_true h)
  · rfl
  · rfl
  · cases h
def dfEq : List D → List D → Bool
  | [], [] => true
  | a :: r, b :: s => d1Eq a b && dfEq r s
  | _, _ => false
theorem dfEq_ok : ∀ {a b : List D}, dfEq a b = true → a = b
  | [], [], _ => rfl
  | a :: r, b :: s, h => by
    obtain ⟨h1, h2⟩ := Bool.and_eq_true_iff.mp (show (d1Eq a b && dfEq r s) = true from h)
    rw [d1Eq_ok h1, dfEq_ok h2]
  | [], _ :: _, h => by cases h
  | _ :: _, [], h => by cases h
/-- a key that is not there -/
theorem gone_of {K : PySem.W.Frag} {Pp : Params} {a : Addr} {ks : List Str} {z : Str} (h : He.dicW K a = some (He.keysIn Pp ks)) (hz : z ∉ ks) : PySem.W.nsIn K a z = some none := by
  unfold He.dicW at h
  unfold PySem.W.nsIn
  split at h
  · rename_i c es n sl hk
    rw [hk]
    split at h
    · have hm : es.toList.map He.keyOf = He.keysIn Pp ks := Option.some.inj h
      have each : ∀ e ∈ es.toList, ∃ y t, e.key = .str y t ∧ y ∈ ks := fun e he => by
        have : He.keyOf e ∈ He.keysIn Pp ks := by rw [← hm]; exact List.mem_map_of_mem he
        obtain ⟨y, hy, ey⟩ := List.mem_map.mp this
        unfold He.keyOf at ey
        split at ey
        · rename_i y' t q
          have := (Prod.mk.inj (Option.some.inj ey)).1
          subst this
          exact ⟨_, t, q, hy⟩
        · cases ey
      have e1 : es.toList.find? (fun e => e.key.isStr z) = none := by
        rw [List.find?_eq_none]
        intro e he q
        obtain ⟨y, t, ek, hy⟩ := each e he
        rw [ek] at q
        have : y = z := by simpa [Value.isStr] using q
        exact hz (this ▸ hy)
      have e2 : es.toList.any (fun e => e.refKey) = false := by
        rw [List.any_eq_false]
        intro e he q
        obtain ⟨y, t, ek, hy⟩ := each e he
        have : e.refKey = false := by simp [DictEntry.refKey, ek]
        rw [this] at q
        cases q
      simp only [e1, e2]
      rfl
    · cases h
  · cases h
/-- what is looked at for an own error's class -/
def oexB (K : PySem.W.Frag) (C : Addr) : Bool := match K.lookup C with
  | some ⟨.type m, _, .cls cd, sl⟩ => decide (m = "type") && (match cd.mro, sl.toList with
    | .ref C' :: bm, [_, _, _, _, some (.builtin n), _] => decide (C' = C) && (decide (n = "ValueError.__new__") && (!cd.hasDel && (cd.hasDict && PySem.HandSPX.refsVE bm)))
    | _, _ => false)
  | _ => false
theorem oexB_ok {K : PySem.W.Frag} {C : Addr} (h : oexB K C = true) : ∃ nm q N bs bm sn sub ab col dd k0 k1 k2 k3 k5, K.lookup C = some (excClassObj nm q C N bs bm true sn sub ab col dd k0 k1 k2 k3 k5 "ValueError.__new__") ∧ PySem.HandSPX.refsVE bm = true := by
  unfold oexB at h
  split at h
  · rename_i m od cd sl hk
    rw [Bool.and_eq_true] at h
    obtain ⟨hm, h⟩ := h
    have hm := of_decide_eq_true hm
    subst hm
    split at h
    · rename_i C' bm k0 k1 k2 k3 n k5 e1 e2
      simp only [Bool.and_eq_true, decide_eq_true_eq, Bool.not_eq_true'] at h
      obtain ⟨hC, hn, hdel, hdict, hve⟩ := h
      subst hC hn
      obtain ⟨nm, bs, mro, ns, qn, hd, sn, sub, ab, col, del⟩ := cd
      dsimp only at e1 hdel hdict
      subst e1 hdel hdict
      obtain ⟨l⟩ := sl
      dsimp only at e2
      subst e2
      exact ⟨nm, qn, ns, bs, bm, sn, sub, ab, col, od, k0, k1, k2, k3, k5, hk, hve⟩
    · cases h
  · cases h
def excB (K : PySem.W.Frag) (x : Str) (fs : List Str) : Bool :=
  oexB K (He.ga K x) && (He.eqO (PySem.W.findIn K (.ref (He.ga K x)) "__setattr__") (some (some (.builtin "object.__setattr__"))) && (decide (PySem.W.subIn K (.ref (He.ga K x)) (.type "BaseException") = some true) && (decide (PySem.W.typeIn K (.ref (He.ga K x)) = some (.type "type")) && (PySem.W.keepIn K (.ref (He.ga K x)) &&
    (xfB K (He.ga K x) && (fs.all (fun f => He.eqO (PySem.W.findIn K (.ref (He.ga K x)) f) (some none)) && (He.eqO (PySem.W.findIn K (.ref (He.ga K x)) "__init__") (some (some (.ref (He.fAd K (x, some "__init__"))))) && decide (PySem.W.typeIn K (.ref (He.fAd K (x, some "__init__"))) = some (.type "function")))))))))
/-- what is looked at for a global -/
def gvB (K : PySem.W.Frag) (p : Str × GV) : Bool := match p.2 with
  | .int i => (He.Fa.int p.1 i).ok K
  | .bty _ => (He.Fa.free p.1).ok K
  | .bfn _ => (He.Fa.free p.1).ok K
  | .it => (He.Fa.free p.1).ok K
  | .comb => He.eqO (PySem.W.nsIn K mainGlobals p.1) (some (some (.builtin "math.comb")))
  | .fn _ _ => (He.Fa.glo p.1).ok K
  | .fnK _ _ _ => (He.Fa.glo p.1).ok K
  | .fnT _ => (He.Fa.glo p.1).ok K
  | .fnD _ _ df => (He.Fa.glo p.1).ok K && dfB K p.1 0 df
  | .base => (He.Fa.glo p.1).ok K
  | .bx => (He.Fa.free p.1).ok K
  | .exc fs => (He.Fa.glo p.1).ok K && excB K p.1 fs
  | .kd tbl => (He.Fa.glo p.1).ok K && tbl.all fun q => match PySem.W.nsIn K (He.ga K p.1) q.1 with
    | some (some u) => dB K q.2 u
    | _ => false
/-- the dicts of the module -/
def tabsOf (gls : List (Str × GV)) : List He.Tab := gls.filterMap fun p => match p.2 with
  | .kd tbl => some (fun K => He.ga K p.1, tbl.map (·.1))
  | _ => none
abbrev AlU : Type := He.AlT × Bool
def obsU (fn : List He.DefD) (gls : List (Str × GV)) (tb : List ((Str × Str) × Bool)) (K : PySem.W.Frag) : AlU := (He.obsT [] fn (tabsOf gls) K, gls.all (gvB K) && ((tb.all fun p => (He.Fa.exm p.1.1 p.1.2 p.2).ok K) && Tbs.tk.all (kitB K)))
def valU (fn : List He.DefD) (gls : List (Str × GV)) (w : World) : AlU := (He.valT fn (tabsOf gls) w, true)
/-- the tables of lambdas: no two names for one -/
def tfU (K : PySem.W.Frag) : Bool := Tbs.tf.all fun p => Tbs.tf.all fun q => !decide ((He.cT K p.1).2 = (He.cT K q.1).2) || decide (p.2 = q.2)
def tbB (g : Addr → Option Obj) (K : PySem.W.Frag) : Bool := He.tabsB g (Tbs.tf.map (·.1)) K && tfU K
def obsUG (n : Nat) (fn : List He.DefD) (gls : List (Str × GV)) (tb : List ((Str × Str) × Bool)) (g : Addr → Option Obj) : AlU × Bool := (obsU fn gls tb (He.frT g (He.asD g n)), tbB g (He.frT g (He.asD g n)))
def SaysU (fn : List He.DefD) (gls : List (Str × GV)) (tb : List ((Str × Str) × Bool)) (w : World) (K : PySem.W.Frag) : Prop := obsU fn gls tb K = valU fn gls w
structure TbS (K : PySem.W.Frag) (h : Heap) : Prop where
  hd : ∀ p ∈ Tbs.tf, PySem.W.codeHdIn K (He.cT K p.1).1 (He.cT K p.1).2 = true
  out : ∀ p ∈ Tbs.tf, K.lookup (He.cT K p.1).2 = none
  empty : ∀ p ∈ Tbs.tf, h.get? (He.cT K p.1).2 = some { cls := .none, data := .fields #[] }
  uni : tfU K = true
theorem tbS_of {n : Nat} {h : Heap} (e : tbB h.get? (He.frT h.get? (He.asD h.get? n)) = true) : TbS (He.frT h.get? (He.asD h.get? n)) h := by
  obtain ⟨h1, h2⟩ := Bool.and_eq_true_iff.mp e
  have key : ∀ p ∈ Tbs.tf, PySem.W.codeHdIn (He.frT h.get? (He.asD h.get? n)) (He.cT (He.frT h.get? (He.asD h.get? n)) p.1).1 (He.cT (He.frT h.get? (He.asD h.get? n)) p.1).2 = true ∧ ∃ o, h.get? (He.cT (He.frT h.get? (He.asD h.get? n)) p.1).2 = some o ∧ He.emptyTab o = true := fun p hp => by
    obtain ⟨h3, h4⟩ := Bool.and_eq_true_iff.mp (List.all_eq_true.mp h1 p.1 (List.mem_map.2 ⟨p, hp, rfl⟩))
    refine ⟨h3, ?_⟩
    cases q : h.get? (He.cT (He.frT h.get? (He.asD h.get? n)) p.1).2 with
    | none =>
      rw [q] at h4
      cases h4
    | some o =>
      rw [q] at h4
      exact ⟨o, rfl, h4⟩
  exact ⟨fun p hp => (key p hp).1, fun p hp => by
    obtain ⟨_, o, q, z⟩ := key p hp
    exact He.frT_none q z, fun p hp => by
    obtain ⟨_, o, q, z⟩ := key p hp
    rw [q, He.emptyTab_eq z], h2⟩
def hookU (n : Nat) (fn : List He.DefD) (gls : List (Str × GV)) (tb : List ((Str × Str) × Bool)) : PySem.W.Hook where
  α := AlU × Bool
  obs := fun s => obsUG n fn gls tb s.heap.get?
  val := fun w => (valU fn gls w, true)
  says := fun w h => ∃ K : PySem.W.Frag, K.In h ∧ SaysU fn gls tb w K ∧ TbS K h
  of := fun _ _ e => ⟨_, He.frT_in, congrArg (fun z : AlU × Bool => z.1) e, tbS_of (congrArg (fun z : AlU × Bool => z.2) e)⟩
  keeps := fun _ _ _ ⟨K, hK, c, ct⟩ k => ⟨K, PySem.W.Frag.In.keeps hK k, c, ⟨ct.hd, ct.out, fun p hp => k _ _ (ct.empty p hp), ct.uni⟩⟩
theorem TbS.h {K : PySem.W.Frag} {h : Heap} (c : TbS K h) (X : K.In h) : TbH K h := fun p hp => ⟨c.empty p hp, c.out p hp, PySem.W.codeHd_of_K X (c.hd p hp)⟩
theorem obsUG_eq {n : Nat} {fn : List He.DefD} {gls : List (Str × GV)} {tb : List ((Str × Str) × Bool)} {g : Addr → Option Obj} {s : Shared} (h : ∀ a, g a = s.heap.get? a) : obsUG n fn gls tb g = (hookU n fn gls tb).obs s := by
  have e : g = s.heap.get? := funext h
  rw [e] <;> rfl
section
variable {fn : List He.DefD} {gls : List (Str × GV)} {tb : List ((Str × Str) × Bool)} {w : World} {K : PySem.W.Frag} {h : Heap} {mg : Str → Option Value}
theorem SaysU.t (c : SaysU fn gls tb w K) : He.SaysT [] fn (tabsOf gls) w K := congrArg (fun z : AlU => z.1) c
theorem SaysU.g (c : SaysU fn gls tb w K) {p : Str × GV} (hp : p ∈ gls) : gvB K p = true := List.all_eq_true.mp (Bool.and_eq_true_iff.mp (show (gls.all (gvB K) && ((tb.all fun p => (He.Fa.exm p.1.1 p.1.2 p.2).ok K) && Tbs.tk.all (kitB K))) = true from congrArg (fun z : AlU => z.2) c)).1 p hp
theorem SaysU.x (c : SaysU fn gls tb w K) {x y : Str} {b : Bool} (h : subO tb x y = some b) : PySem.W.exmOne K (.ref (He.ga K x)) (.ref (He.ga K y)) = some b := by
  unfold subO at h
  obtain ⟨p, hp, e⟩ := Option.map_eq_some_iff.mp h
  have hm := List.mem_of_find?_eq_some hp
  have hq := List.find?_some hp
  simp only [Bool.and_eq_true, decide_eq_true_eq] at hq
  have q0 : (gls.all (gvB K) && ((tb.all fun p => (He.Fa.exm p.1.1 p.1.2 p.2).ok K) && Tbs.tk.all (kitB K))) = true := congrArg (fun z : AlU => z.2) c
  have q := List.all_eq_true.mp (Bool.and_eq_true_iff.mp (Bool.and_eq_true_iff.mp q0).2).1 p hm
  have := He.exm_ok q
  rw [hq.1, hq.2, e] at this
  exact this
theorem SaysU.k (c : SaysU fn gls tb w K) : ∀ p ∈ Tbs.tk, kitB K p = true := List.all_eq_true.mp (Bool.and_eq_true_iff.mp (Bool.and_eq_true_iff.mp (show (gls.all (gvB K) && ((tb.all fun p => (He.Fa.exm p.1.1 p.1.2 p.2).ok K) && Tbs.tk.all (kitB K))) = true from congrArg (fun z : AlU => z.2) c)).2).2
theorem SaysU.def_ (c : SaysU fn gls tb w K) (i : Nat) {d : He.DefD} (hd : fn[i]? = some d) : ∃ fd, FunD K d.name d.qual d.params d.body d.scope (d.dvs K) (d.kws K) (He.fAd K d.at_) fd := c.t.d.def_ i hd
/-- each global, as GVp has it -/
theorem SaysU.gv (c : SaysU fn gls tb w K) {P : Program} {base : Heap} (X : K.In h) (G : h.Ns mainGlobals mg) (hb : ∀ p ∈ gls, match p.2 with
    | .bty t => bootBuiltins p.1 = some (.type t.nm)
    | .bfn b => bootBuiltins p.1 = some (.builtin b.id)
    | .bx => bootBuiltins p.1 = some (.type "ValueError")
    | _ => True) (hini : ∀ x fs, (x, GV.exc fs) ∈ gls → fldO gls x = fs ∧ fs.length ≤ 100 ∧ ∃ fI fd, fI = He.fAd K (x, some "__init__") ∧ FnOk P w K mg base CXn 1 fI fd ("self" :: fs) (spI K fs) ∧ Binds K fd ("self" :: fs) []) {x : Str} {g : GV} (hp : (x, g) ∈ gls) : match g with
    | .fn _ _ => mg x = some (.ref (He.ga K x))
    | .fnK _ _ _ => mg x = some (.ref (He.ga K x))
    | .fnT _ => mg x = some (.ref (He.ga K x))
    | .fnD _ _ df => mg x = some (.ref (He.ga K x)) ∧ dfB K x 0 df = true
    | g => GVp P w K mg base ⟨fun _ => none, fun _ _ => M.bad, fldO gls, 0, subO tb, none, fun _ _ => M.bad⟩ x g := by
  have q := c.g hp
  have b := hb _ hp
  cases g with
  | int i =>
    obtain ⟨t, e⟩ := He.int_ok X G q
    exact ⟨_, e, t, rfl⟩
  | bty t => exact ⟨He.free_ok X G q, b⟩
  | bfn t => exact ⟨He.free_ok X G q, b⟩
  | it => exact He.free_ok X G q
  | comb => exact PySem.W.mg_of X G (He.eqO_ok q)
  | fn i n => exact He.glo_ok X G q
  | fnK i n kws => exact He.glo_ok X G q
  | fnT i => exact He.glo_ok X G q
  | fnD i n df =>
    obtain ⟨q0, q⟩ := Bool.and_eq_true_iff.mp (show ((He.Fa.glo x).ok K && dfB K x 0 df) = true from q)
    exact ⟨He.glo_ok X G q0, q⟩
  | base => exact He.glo_ok X G q
  | bx => exact ⟨He.free_ok X G q, b⟩
  | exc fs =>
    obtain ⟨q0, q⟩ := Bool.and_eq_true_iff.mp (show ((He.Fa.glo x).ok K && excB K x fs) = true from q)
    unfold excB at q
    simp only [Bool.and_eq_true, decide_eq_true_eq] at q
    obtain ⟨q1, q2, q3, q4, q5, q6, q7, q8, q9⟩ := q
    obtain ⟨e1, e2, fI, fd, e3, F1, hb⟩ := hini x fs hp
    refine ⟨He.glo_ok X G q0, ⟨⟨oexB_ok q1, He.eqO_ok q2, q3, q4, q5⟩, fun f hf => He.eqO_ok (List.all_eq_true.mp q7 f hf), ⟨fI, fd, by rw [e3]; exact He.eqO_ok q8, by rw [e3]; exact q9, F1, hb⟩, xfB_ok q6⟩, e1, e2⟩
  | kd tbl =>
    simp only [gvB, Bool.and_eq_true] at q
    have hm : ((fun K => He.ga K x, tbl.map (·.1)) : He.Tab) ∈ tabsOf gls := List.mem_filterMap.mpr ⟨(x, .kd tbl), hp, rfl⟩
    obtain ⟨i, hi⟩ := List.getElem?_of_mem hm
    have hk : He.dicW K (He.ga K x) = some (He.keysIn w.params (tbl.map (·.1))) := by
      have e : (tabsOf gls).map (fun t => He.dicW K (t.1 K)) = (tabsOf gls).map fun t => some (He.keysIn w.params t.2) := congrArg (fun z : He.AlT => z.2) c.t
      have e2 : ((tabsOf gls).map fun t => He.dicW K (t.1 K))[i]? = ((tabsOf gls).map fun t => some (He.keysIn w.params t.2))[i]? := by rw [e]
      rw [List.getElem?_map, List.getElem?_map, hi] at e2
      exact Option.some.inj e2
    refine ⟨He.ga K x, He.glo_ok X G q.1, He.dicW_ok hk, fun z d hz => ?_, fun z hz => gone_of hk fun hm => ?_⟩
    · have hmem : (z, d) ∈ tbl := PySem.mem_of_lookup hz
      have := List.all_eq_true.mp q.2 (z, d) hmem
      dsimp only at this
      split at this
      · rename_i u hu
        obtain ⟨v, r1, r2⟩ := dB_ok d u this
        exact ⟨v, u, hu, r1, r2⟩
      · cases this
    · obtain ⟨p, hp1, hp2⟩ := List.mem_map.mp hm
      rw [List.lookup_eq_none_iff] at hz
      have := hz p hp1
      rw [hp2] at this
      simp at this
end
end Ev
/-! From the head to the meaning of the law. -/
namespace Ev
open PySem PySem.Spec PyProof.Rows L2
variable [Tbs] [Hnd]
def Df.toD (d : Df) : He.DefD := ⟨(d.name, none), d.name, d.name, d.params, d.body, d.scope, dfsOf d.name 0 d.df, d.kw.map fun q => (q.1, dvOf q.2)⟩
/-- the globals are as Python's own are -/
def bootB (gls : List (Str × GV)) : Bool := gls.all fun p => match p.2 with
  | .bty t => decide (bootBuiltins p.1 = some (.type t.nm))
  | .bfn b => decide (bootBuiltins p.1 = some (.builtin b.id))
  | .bx => decide (bootBuiltins p.1 = some (.type "ValueError"))
  | _ => true
def kwEq : List (Str × D) → List (Str × D) → Bool
  | [], [] => true
  | (x, .bl b) :: r, (y, .bl c) :: s => decide (x = y) && (decide (b = c) && kwEq r s)
  | (x, .int b) :: r, (y, .int c) :: s => decide (x = y) && (decide (b = c) && kwEq r s)
  | (x, .non) :: r, (y, .non) :: s => decide (x = y) && kwEq r s
  | _, _ => false
theorem kwEq_ok : ∀ {a b : List (Str × D)}, kwEq a b = true → a = b ∧ ∀ q ∈ a, simD q.2 = true
  | [], [], _ => ⟨rfl, fun q h => nomatch h⟩
  | (x, .bl b) :: r, (y, .bl c) :: s, h => by
    simp only [kwEq, Bool.and_eq_true, decide_eq_true_eq] at h
    obtain ⟨h1, h2, h3⟩ := h
    obtain ⟨e, f⟩ := kwEq_ok h3
    subst h1 h2 e
    exact ⟨rfl, fun q hq => (List.mem_cons.mp hq).elim (fun z => by rw [z]; rfl) (f q)⟩
  | (x, .int b) :: r, (y, .int c) :: s, h => by
    simp only [kwEq, Bool.and_eq_true, decide_eq_true_eq] at h
    obtain ⟨h1, h2, h3⟩ := h
    obtain ⟨e, f⟩ := kwEq_ok h3
    subst h1 h2 e
    exact ⟨rfl, fun q hq => (List.mem_cons.mp hq).elim (fun z => by rw [z]; rfl) (f q)⟩
  | (x, .non) :: r, (y, .non) :: s, h => by
    simp only [kwEq, Bool.and_eq_true, decide_eq_true_eq] at h
    obtain ⟨h1, h3⟩ := h
    obtain ⟨e, f⟩ := kwEq_ok h3
    subst h1 e
    exact ⟨rfl, fun q hq => (List.mem_cons.mp hq).elim (fun z => by rw [z]; rfl) (f q)⟩
  | [], _ :: _, h => by simp [kwEq] at h
  | (_, .bl _) :: _, [], h => by simp [kwEq] at h
  | (_, .int _) :: _, [], h => by simp [kwEq] at h
  | (_, .non) :: _, [], h => by simp [kwEq] at h
  | (_, .str _) :: _, _, h => by simp [kwEq] at h
  | (_, .tup _) :: _, _, h => by simp [kwEq] at h
  | (_, .lst _) :: _, _, h => by simp [kwEq] at h
  | (_, .cell _) :: _, _, h => by simp [kwEq] at h
  | (_, .ty _) :: _, _, h => by simp [kwEq] at h
  | (_, .bl _) :: _, (_, .non) :: _, h => by simp [kwEq] at h
  | (_, .bl _) :: _, (_, .int _) :: _, h => by simp [kwEq] at h
  | (_, .bl _) :: _, (_, .str _) :: _, h => by simp [kwEq] at h
  | (_, .bl _) :: _, (_, .tup _) :: _, h => by simp [kwEq] at h
  | (_, .bl _) :: _, (_, .lst _) :: _, h => by simp [kwEq] at h
  | (_, .bl _) :: _, (_, .cell _) :: _, h => by simp [kwEq] at h
  | (_, .bl _) :: _, (_, .ty _) :: _, h => by simp [kwEq] at h
  | (_, .int _) :: _, (_, .non) :: _, h => by simp [kwEq] at h
  | (_, .int _) :: _, (_, .bl _) :: _, h => by simp [kwEq] at h
  | (_, .int _) :: _, (_, .str _) :: _, h => by simp [kwEq] at h
  | (_, .int _) :: _, (_, .tup _) :: _, h => by simp [kwEq] at h
  | (_, .int _) :: _, (_, .lst _) :: _, h => by simp [kwEq] at h
  | (_, .int _) :: _, (_, .cell _) :: _, h => by simp [kwEq] at h
  | (_, .int _) :: _, (_, .ty _) :: _, h => by simp [kwEq] at h
  | (_, .non) :: _, (_, .bl _) :: _, h => by simp [kwEq] at h
  | (_, .non) :: _, (_, .int _) :: _, h => by simp [kwEq] at h
  | (_, .non) :: _, (_, .str _) :: _, h => by simp [kwEq] at h
  | (_, .non) :: _, (_, .tup _) :: _, h => by simp [kwEq] at h
  | (_, .non) :: _, (_, .lst _) :: _, h => by simp [kwEq] at h
  | (_, .non) :: _, (_, .cell _) :: _, h => by simp [kwEq] at h
  | (_, .non) :: _, (_, .ty _) :: _, h => by simp [kwEq] at h
def fnB (gls : List (Str × GV)) (fs : List Df) : Bool := gls.all fun p => match p.2 with
  | .fn i n => match fs[i]? with
    | some d => decide (d.name = p.1) && (decide (d.ps.length = n) && (d.kw.isEmpty && (d.df.isEmpty && !d.tk)))
    | none => false
  | .fnK i n kws => match fs[i]? with
    | some d => decide (d.name = p.1) && (decide (d.ps.length = n + kws.length) && (kwEq d.kw kws && (!kws.isEmpty && (d.df.isEmpty && !d.tk))))
    | none => false
  | .fnT i => match fs[i]? with
    | some d => decide (d.name = p.1) && (d.tk && (d.kw.isEmpty && d.df.isEmpty))
    | none => false
  | .fnD i n df => match fs[i]? with
    | some d => decide (d.name = p.1) && (decide (d.ps.length = n + df.length) && (dfEq d.df df && (!df.isEmpty && !d.tk)))
    | none => false
  | _ => true
def defB (gls : List (Str × GV)) (fs : List Df) : Bool := fs.all fun d => gls.any fun p => decide (p.1 = d.name) && match p.2 with
  | .fn _ _ => true
  | .fnK _ _ _ => true
  | .fnT _ => true
  | .fnD _ _ _ => true
  | _ => false
/-- how a def with defaults binds: the first left out, none left out -/
def BindsP (d : Df) : Prop := d.df.length ≤ d.ps.length ∧ (∀ (T : Addr) (kV doc pm : Value) (an : Option Addr) (cdv ct : Value) (us its : List Value), us.length = d.ps.length - d.df.length → its.length = d.df.length →
      ∃ k, bindArgs (PySem.W.fnOf d.name d.name d.params d.body d.scope (.ref T) kV doc pm an cdv ct) ⟨us, []⟩ = seqItems? (.ref T) >>= k ∧ k (some its.toArray) = pure (d.ps.zip (us ++ its))) ∧
    ∀ (T : Addr) (kV doc pm : Value) (an : Option Addr) (cdv ct : Value) (us its : List Value), us.length = d.ps.length → its.length = d.df.length →
      ∃ k, bindArgs (PySem.W.fnOf d.name d.name d.params d.body d.scope (.ref T) kV doc pm an cdv ct) ⟨us, []⟩ = seqItems? (.ref T) >>= k ∧ k (some its.toArray) = pure (d.ps.zip us)
/-- how a def binds -/
def BindsL (d : Df) : Prop := match d.df with
  | _ :: _ => BindsP d
  | [] => match d.kw with
  | [] => ∀ (kV doc pm : Value) (an : Option Addr) (cdv ct : Value) (us : List Value), us.length = d.ps.length → bindArgs (PySem.W.fnOf d.name d.name d.params d.body d.scope .none kV doc pm an cdv ct) ⟨us, []⟩ = pure (d.ps.zip us)
  | _ => d.kw.length ≤ d.ps.length ∧ (d.kw.all fun q => simD q.2) = true ∧ (∀ (Dd : Addr) (doc pm : Value) (an : Option Addr) (cdv ct : Value) (us ks : List Value), us.length = d.ps.length - d.kw.length → ks.length = d.kw.length → KwChain Dd ((d.kw.map (·.1)).zip ks) (bindArgs (PySem.W.fnOf d.name d.name d.params d.body d.scope .none (.ref Dd) doc pm an cdv ct) ⟨us, []⟩) (d.ps.zip (us ++ ks))) ∧
      ∀ (kV doc pm : Value) (an : Option Addr) (cdv ct : Value) (us ws : List Value), us.length = d.ps.length - d.kw.length → ws.length = d.kw.length → bindArgs (PySem.W.fnOf d.name d.name d.params d.body d.scope .none kV doc pm an cdv ct) ⟨us, (d.kw.map (·.1)).zip ws⟩ = pure (d.ps.zip (us ++ ws))
def adr (K : PySem.W.Frag) (fs : List Df) (i : Nat) : Addr := match fs[i]? with
  | some d => He.ga K d.name
  | none => 0
/-- an own error's __init__, as the head has it -/
def IniOk (fn : List He.DefD) (x : Str) (fs : List Str) : Prop := ∃ (i : Nat) (d : He.DefD), fn[i]? = some d ∧ d.at_ = (x, some ("__init__" : Str)) ∧ d.name = "__init__" ∧ d.dfl = [] ∧ d.kwd = [] ∧ FnScope ("self" :: fs) ("self" :: fs) d.scope ∧ iniB fs d.body = true ∧
  ∀ (kV doc pm : Value) (an : Option Addr) (cdv ct : Value) (us : List Value), us.length = (("self" : Str) :: fs).length → bindArgs (PySem.W.fnOf "__init__" d.qual d.params d.body d.scope .none kV doc pm an cdv ct) ⟨us, []⟩ = pure ((("self" : Str) :: fs).zip us)
def excsB (gls : List (Str × GV)) : Bool := gls.all fun p => match p.2 with
  | .exc fs => decide (fldO gls p.1 = fs) && decide (fs.length ≤ 100)
  | _ => true
theorem known_of {fs : List Df} {ini : List He.DefD} {gls : List (Str × GV)} {tb : List ((Str × Str) × Bool)} {w : World} {K : PySem.W.Frag} {h : Heap} {mg : Str → Option Value} {P : Program} {i0 : Nat} {d0 : Df} (h0 : fs[i0]? = some d0) (c : SaysU (fs.map Df.toD ++ ini) gls tb w K) (ct : TbS K h) (X : K.In h) (G : h.Ns mainGlobals mg) (hb : bootB gls = true) (hf : fnB gls fs = true) (hd : defB gls fs = true) (hx : excsB gls = true)
    (hbind : ∀ d ∈ fs, BindsL d) (hini : ∀ x es, (x, GV.exc es) ∈ gls → IniOk (fs.map Df.toD ++ ini) x es) :
    ∃ fd : Nat → FuncData, (∀ (i : Nat) (d : Df), fs[i]? = some d → ∃ dvs kws, FunD K d.name d.name d.params d.body d.scope dvs kws (adr K fs i) (fd i) ∧ dvs = (dfsOf d.name 0 d.df).map (He.Dv.v K) ∧ kws = d.kw.map fun q => (q.1, (dvOf q.2).v K)) ∧ (∀ (i : Nat) (d : Df), fs[i]? = some d → mg d.name = some (.ref (adr K fs i))) ∧ ∀ base : Heap, TbB K base mg → Known P w K mg base gls tb fs (adr K fs) fd := by
  have ex : ∀ i : Nat, ∃ fd : FuncData, ∀ d : Df, fs[i]? = some d → FunD K d.name d.name d.params d.body d.scope ((dfsOf d.name 0 d.df).map (He.Dv.v K)) (d.kw.map fun q => (q.1, (dvOf q.2).v K)) (adr K fs i) fd := fun i => by
    cases hi : fs[i]? with
    | none =>
      have hl : i0 < (fs.map Df.toD).length := by rw [List.length_map]; exact (List.getElem?_eq_some_iff.mp h0).1
      obtain ⟨fd, F⟩ := c.def_ i0 (d := d0.toD) (by rw [List.getElem?_append_left hl, List.getElem?_map, h0]; rfl)
      exact ⟨fd, fun d e => nomatch e⟩
    | some d =>
      have hl : i < (fs.map Df.toD).length := by rw [List.length_map]; exact (List.getElem?_eq_some_iff.mp hi).1
      obtain ⟨fd, F⟩ := c.def_ i (d := d.toD) (by rw [List.getElem?_append_left hl, List.getElem?_map, hi]; rfl)
      refine ⟨fd, fun d' e => ?_⟩
      cases e
      have ea : adr K fs i = He.fAd K (d.name, none) := by
        unfold adr
        rw [hi]
        rfl
      rw [ea]
      have F2 : FunD K d.name d.name d.params d.body d.scope ((dfsOf d.name 0 d.df).map (He.Dv.v K)) ((d.kw.map fun q => (q.1, dvOf q.2)).map fun q => (q.1, q.2.v K)) (He.fAd K (d.name, none)) fd := F
      rw [List.map_map] at F2
      exact F2
  obtain ⟨fd, hfd⟩ := Classical.axiomOfChoice ex
  have hboot : ∀ p ∈ gls, match p.2 with
      | .bty t => bootBuiltins p.1 = some (.type t.nm)
      | .bfn b => bootBuiltins p.1 = some (.builtin b.id)
      | .bx => bootBuiltins p.1 = some (.type "ValueError")
      | _ => True := fun p hp => by
    have := List.all_eq_true.mp hb p hp
    cases q : p.2 with
    | bty t => rw [q] at this; exact of_decide_eq_true this
    | bfn t => rw [q] at this; exact of_decide_eq_true this
    | bx => rw [q] at this; exact of_decide_eq_true this
    | _ => trivial
  have hin : ∀ (base : Heap) (x : Str) (es : List Str), (x, GV.exc es) ∈ gls → fldO gls x = es ∧ es.length ≤ 100 ∧ ∃ fI fd, fI = He.fAd K (x, some "__init__") ∧ FnOk P w K mg base CXn 1 fI fd ("self" :: es) (spI K es) ∧ Binds K fd ("self" :: es) [] := fun base x es hm => by
    have q := List.all_eq_true.mp hx _ hm
    simp only [Bool.and_eq_true, decide_eq_true_eq] at q
    obtain ⟨i, d, e1, e2, e3, e4, e5, S, hbd, hbi⟩ := hini x es hm
    obtain ⟨fd, F⟩ := c.def_ i e1
    obtain ⟨da, dn, dq, dp, db, ds, ddf, dkw⟩ := d
    dsimp only at e2 e3 e4 e5 S hbd hbi F
    subst e2 e3 e4 e5
    have F2 : FunD K "__init__" dq dp db ds [] [] (He.fAd K (x, some "__init__")) fd := F
    exact ⟨q.1, q.2, _, fd, rfl, ini_ok F2 S hbd, FunD.bindsN F2 hbi⟩
  have hat : ∀ (i : Nat) (d : Df), fs[i]? = some d → mg d.name = some (.ref (adr K fs i)) := fun i d e => by
    have := List.all_eq_true.mp hd d (List.mem_of_getElem? e)
    obtain ⟨p, hp, hq⟩ := List.any_eq_true.mp this
    rw [Bool.and_eq_true] at hq
    obtain ⟨q1, q2⟩ := hq
    have q1 := of_decide_eq_true q1
    have ea : adr K fs i = He.ga K d.name := by
      unfold adr
      rw [e]
    obtain ⟨x, g⟩ := p
    have q1 : x = d.name := q1
    subst q1
    rw [ea]
    cases g with
    | fn j n => exact c.gv X G hboot (P := P) (base := h) (hin h) hp
    | fnK j n kws => exact c.gv X G hboot (P := P) (base := h) (hin h) hp
    | fnT j => exact c.gv X G hboot (P := P) (base := h) (hin h) hp
    | fnD j n df => exact (c.gv X G hboot (P := P) (base := h) (hin h) hp).1
    | _ => cases q2
  refine ⟨fd, fun i d e => ⟨_, _, hfd i d e, rfl, rfl⟩, hat, fun base tbb => ⟨fun i d e => ⟨_, _, hfd i d e⟩, fun i d e ek edf => ?_, fun i d e ek edf => ?_, hat, fun i d e => ?_, tbb, fun p hp q hq eq => ?_, fun x g hxg => ?_, fun x y b hs => c.x hs, c.k⟩⟩
  · have F := hfd i d e
    have B := hbind d (List.mem_of_getElem? e)
    unfold BindsL at B
    rw [edf] at B F
    dsimp only at B
    rw [ek] at B F
    exact FunD.bindsN F B
  · have F := hfd i d e
    have B := hbind d (List.mem_of_getElem? e)
    unfold BindsL at B
    rw [edf] at B F
    dsimp only at B
    split at B
    · rename_i z
      exact absurd z ek
    · obtain ⟨hle, hsim, B1, B2⟩ := B
      have em : ((d.kw.map fun q => (q.1, (dvOf q.2).v K)).map (·.1)) = d.kw.map (·.1) := by rw [List.map_map]; rfl
      obtain ⟨dus, rv, bd⟩ := FunD.binds0 F (d.ps.length - d.kw.length) (by
          intro z
          exact ek (List.map_eq_nil_iff.mp z)) (show d.ps.length - d.kw.length + (d.kw.map fun q => (q.1, (dvOf q.2).v K)).length = d.ps.length by rw [List.length_map]; omega) (fun Dd doc pm an cdv ct us ks l1 l2 => by
          rw [em]
          exact B1 Dd doc pm an cdv ct us ks l1 (by rw [List.length_map] at l2; exact l2))
      refine ⟨dus, _, bd, rv, fun H ca => ?_, fun s us ws KX l1 l2 => ?_⟩
      · have : ∀ l : List (Str × D), (∀ q ∈ l, simD q.2 = true) → RelDs K H ca (l.map (·.2)) ((l.map fun q => (q.1, (dvOf q.2).v K)).map (·.2)) := fun l => by
          induction l with
          | nil => intro _; rfl
          | cons q l ih => intro hq; exact ⟨_, _, rfl, simD_ok (hq q (by simp)), ih fun z hz => hq z (List.mem_cons_of_mem _ hz)⟩
        exact this d.kw fun q hq => List.all_eq_true.mp hsim q hq
      · obtain ⟨oc, od, dV, kV, doc, pm, an, cdv, ct, osl, efd, lk, hcd, hD, hK⟩ := F.ex
        rcases hD with ⟨_, eV⟩ | ⟨z, _⟩
        · rw [efd, eV]
          exact .of_eq (B2 kV doc pm an cdv ct us ws l1 (by rw [List.length_map] at l2; exact l2))
        · exact absurd rfl z
  · unfold adr
    rw [e]
    rfl
  · have z := List.all_eq_true.mp (List.all_eq_true.mp ct.uni p hp) q hq
    rw [Bool.or_eq_true] at z
    rcases z with z | z
    · rw [decide_eq_true eq] at z
      cases z
    · exact of_decide_eq_true z
  · have hm : (x, g) ∈ gls := PySem.mem_of_lookup hxg
    have := c.gv X G hboot (P := P) (base := base) (hin base) hm
    cases g with
    | fn j n =>
      have q := List.all_eq_true.mp hf _ hm
      dsimp only at q
      split at q
      · rename_i d hd'
        simp only [Bool.and_eq_true, decide_eq_true_eq, List.isEmpty_iff] at q
        exact ⟨d, hd', q.1, q.2.1, q.2.2.1, q.2.2.2.1, by simpa using q.2.2.2.2⟩
      · cases q
    | fnK j n kws =>
      have q := List.all_eq_true.mp hf _ hm
      dsimp only at q
      split at q
      · rename_i d hd'
        simp only [Bool.and_eq_true, decide_eq_true_eq, Bool.not_eq_true', List.isEmpty_eq_false_iff] at q
        exact ⟨d, hd', q.1, q.2.1, (kwEq_ok q.2.2.1).1, q.2.2.2.1, List.isEmpty_iff.mp q.2.2.2.2.1, by simpa using q.2.2.2.2.2⟩
      · cases q
    | fnT j =>
      have q := List.all_eq_true.mp hf _ hm
      dsimp only at q
      split at q
      · rename_i d hd'
        simp only [Bool.and_eq_true, decide_eq_true_eq, List.isEmpty_iff] at q
        exact ⟨d, hd', q.1, q.2.1, q.2.2.1, q.2.2.2⟩
      · cases q
    | fnD j n df =>
      have q := List.all_eq_true.mp hf _ hm
      dsimp only at q
      split at q
      · rename_i d hd'
        simp only [Bool.and_eq_true, decide_eq_true_eq, Bool.not_eq_true', List.isEmpty_eq_false_iff] at q
        obtain ⟨q1, q2, q3, q4, q5⟩ := q
        have q3 := dfEq_ok q3
        subst q3
        have q1 : d.name = x := q1
        subst q1
        have F := hfd j d hd'
        have B := hbind d (List.mem_of_getElem? hd')
        unfold BindsL at B
        have lD : ((dfsOf d.name 0 d.df).map (He.Dv.v K)).length = d.df.length := by rw [List.length_map, dfsOf_len]
        split at B
        · rename_i z1 z2 z3
          have nD : (dfsOf d.name 0 d.df).map (He.Dv.v K) ≠ [] := fun z => by
            have := congrArg List.length z
            rw [lD] at this
            exact q4 (List.length_eq_zero_iff.mp this)
          obtain ⟨hle, B1, B2⟩ := B
          obtain ⟨e1, r1, b1⟩ := FunD.binds1 (ps := d.ps) F d.ps.length ((dfsOf d.name 0 d.df).map (He.Dv.v K)).length nD (by omega) (fun T kV doc pm an cdv ct us its l1 l2 => by
            obtain ⟨k, k1, k2⟩ := B2 T kV doc pm an cdv ct us its l1 (l2.trans lD)
            refine ⟨k, k1, ?_⟩
            rw [k2, ← l2, List.drop_length, List.append_nil])
          obtain ⟨e2, r2, b2⟩ := FunD.binds1 (ps := d.ps) F (d.ps.length - d.df.length) 0 nD (by rw [lD]; omega) (fun T kV doc pm an cdv ct us its l1 l2 => B1 T kV doc pm an cdv ct us its l1 (l2.trans lD))
          rw [List.drop_length] at r1
          cases r1
          rw [List.drop_zero] at r2
          exact ⟨d, hd', rfl, q2, q5, b1, e2, _, b2, r2, dfB_ok 0 d.df this.2⟩
        · rename_i z
          exact absurd z q4
      · cases q
    | _ => exact this
end Ev
namespace M52
open PySem Ev
def gv (x : Str) (g : GV) : Str × GV := (x, g)
def nm (x : Str) : Str := x
def kv (x : Str) (d : D) : Str × D := (x, d)
def xv (x y : Str) (b : Bool) : (Str × Str) × Bool := ((x, y), b)
def gls : List (Str × GV) := [
  gv "len" (.bfn .len),
  gv "all" (.bfn .all),
  gv "any" (.bfn .any),
  gv "sum" (.bfn .sum),
  gv "max" (.bfn .max),
  gv "min" (.bfn .min),
  gv "abs" (.bfn .abs),
  gv "divmod" (.bfn .divmod),
  gv "isinstance" (.bfn .isi),
  gv "repr" (.bfn .repr),
  gv "sorted" (.bfn .sorted),
  gv "int" (.bty .int),
  gv "list" (.bty .list),
  gv "tuple" (.bty .tuple),
  gv "str" (.bty .str),
  gv "bool" (.bty .bool),
  gv "dict" (.bty .dict),
  gv "range" .it,
  gv "zip" .it,
  gv "enumerate" .it,
  gv "reversed" .it,
  gv "set" .it,
  gv "LEAST_MANY" (.int 2),
  gv "MOST_MANY" (.int 5),
  gv "MOST_MARKS" (.int 12),
  gv "MOST_OF_A_NAME" (.int 24),
  gv "MOST_WORTH" (.int 100),
  gv "UnitError" .base,
  gv "BadMany" (.exc [nm "value"]),
  gv "BadContent" (.exc [nm "value"]),
  gv "BadTotal" (.exc [nm "value"]),
  gv "BadWorths" (.exc [nm "value"]),
  gv "is_whole" (.fn 0 1),
  gv "is_below" (.fn 1 2),
  gv "need_many" (.fn 2 1),
  gv "power" (.fn 3 2),
  gv "is_content" (.fn 4 2),
  gv "need_content" (.fn 5 2),
  gv "_are_worths" (.fn 6 2),
  gv "need_worths" (.fn 7 2),
  gv "_need_total" (.fn 8 1),
  gv "_product_of" (.fn 9 2),
  gv "product_at" (.fn 10 3),
  gv "_orders_of" (.fn 11 1),
  gv "_even_sum_of" (.fn 12 3),
  gv "even_sum" (.fnK 13 3 [kv "unlike" (.bl false)]),
  gv "_falling_rows" (.fn 14 3),
  gv "_worths_up_to" (.fn 15 2),
  gv "test_worths" (.fn 16 2),
  gv "_law_begin" (.fn 17 1),
  gv "_law_mixed" (.fn 18 2),
  gv "_law_draw" (.fn 19 2),
  gv "_law_worths" (.fn 20 3),
  gv "_law_like" (.fn 21 2),
  gv "_law_power" (.fn 22 2),
  gv "_law_product" (.fn 23 2),
  gv "_law_orders" (.fn 24 1),
  gv "_law_even" (.fn 25 2),
  gv "_law_unlike" (.fn 26 2),
  gv "_law_falling" (.fn 27 2),
  gv "_law_of" (.fn 28 2),
  gv "_law_asked" (.fn 29 5),
  gv "law" (.fn 30 1)]
def gl0 (x : Str) : Option GV := gls.lookup x
def tb : List ((Str × Str) × Bool) := [
  xv "BadMany" "BadMany" true,
  xv "BadMany" "BadContent" false,
  xv "BadMany" "BadWorths" false,
  xv "BadMany" "BadTotal" false,
  xv "BadContent" "BadMany" false,
  xv "BadContent" "BadContent" true,
  xv "BadContent" "BadWorths" false,
  xv "BadContent" "BadTotal" false,
  xv "BadTotal" "BadMany" false,
  xv "BadTotal" "BadContent" false,
  xv "BadTotal" "BadWorths" false,
  xv "BadTotal" "BadTotal" true,
  xv "BadWorths" "BadMany" false,
  xv "BadWorths" "BadContent" false,
  xv "BadWorths" "BadWorths" true,
  xv "BadWorths" "BadTotal" false]
def nms : List (List Str) := [
  [nm "value"],
  [nm "value", nm "bound"],
  [nm "value"],
  [nm "base", nm "times", nm "product", nm "_"],
  [nm "many", nm "value", nm "number"],
  [nm "many", nm "value"],
  [nm "many", nm "value", nm "worth"],
  [nm "many", nm "value"],
  [nm "total"],
  [nm "content", nm "worths", nm "product", nm "number", nm "worth"],
  [nm "many", nm "content", nm "worths"],
  [nm "row", nm "at", nm "rest"],
  [nm "content", nm "worths", nm "unlike", nm "contents", nm "one"],
  [nm "many", nm "content", nm "worths", nm "unlike"],
  [nm "size", nm "total", nm "most", nm "first", nm "rest"],
  [nm "many", nm "total", nm "one", nm "worths"],
  [nm "many", nm "total"],
  [nm "script", nm "cells_so", nm "cell"],
  [nm "cell", nm "k"],
  [nm "state", nm "limit", nm "at", nm "place", nm "left", nm "number"],
  [nm "state", nm "n", nm "least", nm "most_so", nm "name"],
  [nm "got", nm "due"],
  [nm "base", nm "many_so", nm "found", nm "step"],
  [nm "content", nm "worths_so", nm "found", nm "many_so", nm "worth"],
  [nm "n", nm "found", nm "step", nm "more", nm "one", nm "name"],
  [nm "content", nm "worths_so", nm "n", nm "order", nm "k"],
  [nm "content", nm "worths_so", nm "met", nm "order", nm "row", nm "k"],
  [nm "n", nm "total", nm "found", nm "step", nm "more", nm "one", nm "top", nm "k"],
  [nm "state", nm "some"],
  [nm "f", nm "n", nm "content", nm "worths_so", nm "total", nm "found", nm "e"],
  [nm "script", nm "state", nm "n", nm "limit", nm "content", nm "name", nm "worths_so", nm "every", nm "total", nm "due", nm "k", nm "odd_many", nm "odd_content", nm "odd_worths", nm "odd_total", nm "f", nm "told"]]
def cls : List (Nat × Nat) := [(97, 40)]
instance : Tbs := ⟨[], []⟩
def L0 (run : Nat → List D → M D) (runT : Nat → M D → M D) : SS := (sSeq (sRet (sAndV (sCall dIsi (sCons (rd (sVar 0)) (sCons (rd (sC (.ty "int"))) sNil))) (sNotV (sCall dIsi (sCons (rd (sVar 0)) (sCons (rd (sC (.ty "bool"))) sNil)))))) sSkip)
def L1 (run : Nat → List D → M D) (runT : Nat → M D → M D) : SS := (sSeq (sFrz [0] (sRet (sAndV (sFn (run 0) (sCons (kp (sVar 0)) sNil)) (sChain dLe dLt (rd (sC (.int 0))) (rd (sVar 0)) (rd (sVar 1)))))) sSkip)
def L2 (run : Nat → List D → M D) (runT : Nat → M D → M D) : SS := (sSeq (sFrz [0] (sIfS (sOrT (sNotT (sTru (sFn (run 0) (sCons (kp (sVar 0)) sNil)))) (sNotT (sBoolT (sChain dLe dLe (rd (sC (.int 2))) (rd (sVar 0)) (rd (sC (.int 5))))))) (sSeq (sFrz [0] (sRaise "BadMany" 1 (sCons (kp (sVar 0)) sNil))) sSkip) sSkip)) (sSeq (sFrz [0] (sRet (sVar 0))) sSkip))
def L3 (run : Nat → List D → M D) (runT : Nat → M D → M D) : SS := (sSeq (sSet 2 (sC (.int 1))) (sSeq (sFor (itR1 (sCons (kp (sVar 1)) sNil)) (gN 3) (sSeq (sSet 2 (sBin dMulA (rd (sVar 2)) (rd (sVar 0)))) sSkip)) (sSeq (sFrz [2] (sRet (sVar 2))) sSkip)))
def L4 (run : Nat → List D → M D) (runT : Nat → M D → M D) : SS := (sSeq (sFrz [0] (sDrop (sFn (run 2) (sCons (kp (sVar 0)) sNil)))) (sSeq (sIfS (sOrT (sNotT (sTru (sCall dIsi (sCons (rd (sVar 1)) (sCons (rd (sC (.ty "tuple"))) sNil))))) (sBoolT (sBin dNe (rd (sCall dLen (sCons (rd (sVar 1)) sNil))) (rd (sVar 0))))) (sSeq (sRet (sC (.bl false))) sSkip) sSkip) (sSeq (sFrz [1] (sRet (sCall dAll (sCons (rd (sLc (itS (kp (sVar 1))) (gN 2) sYes (kp (sFn (run 1) (sCons (kp (sVar 2)) (sCons (kp (sBin dAdd (rd (sC (.int 24))) (rd (sC (.int 1))))) sNil)))) [2])) sNil)))) sSkip)))
def L5 (run : Nat → List D → M D) (runT : Nat → M D → M D) : SS := (sSeq (sFrz [0, 1] (sIfS (sNotT (sTru (sFn (run 4) (sCons (kp (sVar 0)) (sCons (kp (sVar 1)) sNil))))) (sSeq (sFrz [1] (sRaise "BadContent" 1 (sCons (kp (sVar 1)) sNil))) sSkip) sSkip)) (sSeq (sFrz [1] (sRet (sVar 1))) sSkip))
def L6 (run : Nat → List D → M D) (runT : Nat → M D → M D) : SS := (sSeq (sIfS (sOrT (sNotT (sTru (sCall dIsi (sCons (rd (sVar 1)) (sCons (rd (sC (.ty "tuple"))) sNil))))) (sBoolT (sBin dNe (rd (sCall dLen (sCons (rd (sVar 1)) sNil))) (rd (sVar 0))))) (sSeq (sRet (sC (.bl false))) sSkip) sSkip) (sSeq (sFrz [1] (sRet (sCall dAll (sCons (rd (sLc (itS (kp (sVar 1))) (gN 2) sYes (kp (sAndV (sFn (run 0) (sCons (kp (sVar 2)) sNil)) (sBin dLe (rd (sCall dAbs (sCons (rd (sVar 2)) sNil))) (rd (sC (.int 100)))))) [2])) sNil)))) sSkip))
def L7 (run : Nat → List D → M D) (runT : Nat → M D → M D) : SS := (sSeq (sFrz [0] (sDrop (sFn (run 2) (sCons (kp (sVar 0)) sNil)))) (sSeq (sFrz [0, 1] (sIfS (sNotT (sTru (sFn (run 6) (sCons (kp (sVar 0)) (sCons (kp (sVar 1)) sNil))))) (sSeq (sFrz [1] (sRaise "BadWorths" 1 (sCons (kp (sVar 1)) sNil))) sSkip) sSkip)) (sSeq (sFrz [1] (sRet (sVar 1))) sSkip)))
def L8 (run : Nat → List D → M D) (runT : Nat → M D → M D) : SS := (sSeq (sFrz [0] (sIfS (sNotT (sTru (sFn (run 1) (sCons (kp (sVar 0)) (sCons (kp (sBin dAdd (rd (sC (.int 12))) (rd (sC (.int 1))))) sNil))))) (sSeq (sFrz [0] (sRaise "BadTotal" 1 (sCons (kp (sVar 0)) sNil))) sSkip) sSkip)) sSkip)
def L9 (run : Nat → List D → M D) (runT : Nat → M D → M D) : SS := (sSeq (sSet 2 (sC (.int 1))) (sSeq (sFrz [0, 1] (sFor (itZipM (sCons (kp (sVar 0)) (sCons (kp (sVar 1)) sNil))) (gT (gsCons (gN 3) (gsCons (gN 4) gsNil))) (sSeq (sFrz [4, 3] (sSet 2 (sBin dMulA (rd (sVar 2)) (rd (sFn (run 3) (sCons (kp (sVar 4)) (sCons (kp (sVar 3)) sNil))))))) sSkip))) (sSeq (sFrz [2] (sRet (sVar 2))) sSkip)))
def L10 (run : Nat → List D → M D) (runT : Nat → M D → M D) : SS := (sSeq (sFrz [0, 1] (sDrop (sFn (run 5) (sCons (kp (sVar 0)) (sCons (kp (sVar 1)) sNil))))) (sSeq (sFrz [0, 2] (sDrop (sFn (run 7) (sCons (kp (sVar 0)) (sCons (kp (sVar 2)) sNil))))) (sSeq (sFrz [1, 2] (sRet (sFn (run 9) (sCons (kp (sVar 1)) (sCons (kp (sVar 2)) sNil))))) sSkip)))
def L11 (run : Nat → List D → M D) (runT : Nat → M D → M D) : SS := (sSeq (sIfS (sBoolT (sBin dEq (rd (sCall dLen (sCons (rd (sVar 0)) sNil))) (rd (sC (.int 0))))) (sSeq (sRet (sLst (sCons (kp (sTup sNil)) sNil))) sSkip) sSkip) (sSeq (sRet (sLc2 (itR1 (sCons (kp (sCall dLen (sCons (rd (sVar 0)) sNil))) sNil)) (gN 1) sYes (itS (kp (sFn (run 11) (sCons (kp (sBin dAdd (rd (sSlice (rd (sVar 0)) sPN (sPS (rd (sVar 1))))) (rd (sSlice (rd (sVar 0)) (sPS (rd (sBin dAdd (rd (sVar 1)) (rd (sC (.int 1)))))) sPN)))) sNil)))) (gN 2) sYes (kp (sBin dAdd (rd (sSlice (rd (sVar 0)) (sPS (rd (sVar 1))) (sPS (rd (sBin dAdd (rd (sVar 1)) (rd (sC (.int 1)))))))) (rd (sVar 2)))) [1, 2] [2])) sSkip))
def L12 (run : Nat → List D → M D) (runT : Nat → M D → M D) : SS := (sSeq (sFrz [0] (sSet 3 (sFn (run 11) (sCons (kp (sVar 0)) sNil)))) (sSeq (sIfS (sTru (sVar 2)) (sSeq (sSet 3 (sSortSet (rd (sVar 3)))) sSkip) sSkip) (sSeq (sFrz [1, 3] (sRet (sCall dSum (sCons (rd (sLc (itS (kp (sVar 3))) (gN 4) sYes (kp (sFn (run 9) (sCons (kp (sVar 4)) (sCons (kp (sVar 1)) sNil)))) [4])) sNil)))) sSkip)))
def L13 (run : Nat → List D → M D) (runT : Nat → M D → M D) : SS := (sSeq (sFrz [0, 1] (sDrop (sFn (run 5) (sCons (kp (sVar 0)) (sCons (kp (sVar 1)) sNil))))) (sSeq (sFrz [0, 2] (sDrop (sFn (run 7) (sCons (kp (sVar 0)) (sCons (kp (sVar 2)) sNil))))) (sSeq (sFrz [1, 2, 3] (sRet (sFn (run 12) (sCons (kp (sVar 1)) (sCons (kp (sVar 2)) (sCons (kp (sVar 3)) sNil)))))) sSkip)))
def L14 (run : Nat → List D → M D) (runT : Nat → M D → M D) : SS := (sSeq (sIfS (sBoolT (sBin dEq (rd (sVar 0)) (rd (sC (.int 0))))) (sSeq (sRet (sIf (sBoolT (sBin dEq (rd (sVar 1)) (rd (sC (.int 0))))) (sLst (sCons (kp (sTup sNil)) sNil)) (sLst sNil))) sSkip) sSkip) (sSeq (sRet (sLc2 (itR1 (sCons (kp (sBin dAdd (rd (sCall dMin (sCons (rd (sVar 1)) (sCons (rd (sVar 2)) sNil)))) (rd (sC (.int 1))))) sNil)) (gN 3) sYes (itS (kp (sFn (run 14) (sCons (kp (sBin dSub (rd (sVar 0)) (rd (sC (.int 1))))) (sCons (kp (sBin dSub (rd (sVar 1)) (rd (sVar 3)))) (sCons (kp (sVar 3)) sNil)))))) (gN 4) sYes (kp (sBin dAdd (rd (sTup (sCons (kp (sVar 3)) sNil))) (rd (sVar 4)))) [3, 4] [4])) sSkip))
def L15 (run : Nat → List D → M D) (runT : Nat → M D → M D) : SS := (sSeq (sFrz [0] (sRet (sLc2 (itR1 (sCons (kp (sBin dAdd (rd (sVar 1)) (rd (sC (.int 1))))) sNil)) (gN 2) sYes (itS (kp (sFn (run 14) (sCons (kp (sVar 0)) (sCons (kp (sVar 2)) (sCons (kp (sVar 2)) sNil)))))) (gN 3) sYes (kp (sVar 3)) [2, 3] [3]))) sSkip)
def L16 (run : Nat → List D → M D) (runT : Nat → M D → M D) : SS := (sSeq (sFrz [0] (sDrop (sFn (run 2) (sCons (kp (sVar 0)) sNil)))) (sSeq (sFrz [1] (sDrop (sFn (run 8) (sCons (kp (sVar 1)) sNil)))) (sSeq (sFrz [0, 1] (sRet (sFn (run 15) (sCons (kp (sVar 0)) (sCons (kp (sVar 1)) sNil))))) sSkip)))
def L17 (run : Nat → List D → M D) (runT : Nat → M D → M D) : SS := (sSeq (sSet 1 (sIf (sBoolT (sBin dNe (rd (sVar 0)) (rd (sLst sNil)))) (sCall dList (sCons (rd (sVar 0)) sNil)) (sLst (sCons (kp (sC (.int 0))) sNil)))) (sSeq (sFrz [1] (sRet (sDict [nm "cells", nm "lefts", nm "at"] (sCons (kp (sVar 1)) (sCons (kp (toCell (sLc (itS (kp (sVar 1))) (gN 2) sYes (kp (sIf (sBoolT (sBin dGe (rd (sVar 2)) (rd (sBin dPow (rd (sC (.int 10))) (rd (sC (.int 18))))))) (sVar 2) (sC (.int 0)))) [2]))) (sCons (kp (sC (.int 0))) sNil)))))) sSkip))
def L18 (run : Nat → List D → M D) (runT : Nat → M D → M D) : SS := (sSeq (sSet 0 (sBin dMod (rd (sCall dInt (sCons (rd (sVar 0)) sNil))) (rd (sC (.int 2147483647))))) (sSeq (sRet (sBin dMod (rd (sBin dMulA (rd (sBin dMod (rd (sBin dAdd (rd (sBin dAdd (rd (sBin dMulA (rd (sVar 0)) (rd (sBin dAdd (rd (sC (.int 48271))) (rd (sBin dMulA (rd (sBin dMulA (rd (sC (.int 2))) (rd (sVar 1)))) (rd (sVar 1)))))))) (rd (sBin dMulA (rd (sC (.int 69621))) (rd (sVar 1)))))) (rd (sC (.int 11))))) (rd (sC (.int 2147483647))))) (rd (sC (.int 69621))))) (rd (sC (.int 2147483629))))) sSkip))
def L19 (run : Nat → List D → M D) (runT : Nat → M D → M D) : SS := (sSeq (sSet 2 (sBinS ixSt (rd (sVar 0)) (rd (sC (.str "at"))))) (sSeq (sSetN 0 (kp (sBin dAdd (rd (sVar 2)) (rd (sC (.int 1))))) (rd (sC (.str "at")))) (sSeq (sSet 3 (sBin dMod (rd (sCall dInt (sCons (rd (sVar 2)) sNil))) (rd (sCall dLen (sCons (rd (sBinS ixSt (rd (sVar 0)) (rd (sC (.str "cells"))))) sNil))))) (sSeq (sSet 4 (sBinS ixSt (rd (sBinS ixSt (rd (sVar 0)) (rd (sC (.str "lefts"))))) (rd (sVar 3)))) (sSeq (sIfS (sBoolT (sBin dGt (rd (sVar 4)) (rd (sC (.int 0))))) (sSeq (sSetIx (kp (sBin dDiv (rd (sVar 4)) (rd (sVar 1)))) (rd (sBinS ixSt (rd (sVar 0)) (rd (sC (.str "lefts"))))) (rd (sVar 3))) (sSeq (sRet (sBin dMod (rd (sCall dInt (sCons (rd (sVar 4)) sNil))) (rd (sVar 1)))) sSkip)) sSkip) (sSeq (sFrz [2] (sSet 5 (sFn (run 18) (sCons (kp (sFn (run 18) (sCons (kp (sBinS ixSt (rd (sBinS ixSt (rd (sVar 0)) (rd (sC (.str "cells"))))) (rd (sVar 3)))) (sCons (kp (sVar 2)) sNil)))) (sCons (kp (sBin dAdd (rd (sC (.int 40))) (rd (sVar 2)))) sNil))))) (sSeq (sFrz [5] (sRet (sBin dMod (rd (sBin dDiv (rd (sCall dInt (sCons (rd (sBin dAdd (rd (sBin dMulA (rd (sVar 5)) (rd (sC (.int 2147483647))))) (rd (sFn (run 18) (sCons (kp (sVar 5)) (sCons (kp (sBin dAdd (rd (sC (.int 7))) (rd (sVar 2)))) sNil)))))) sNil))) (rd (sC (.int 64))))) (rd (sVar 1))))) sSkip)))))))
def L20 (run : Nat → List D → M D) (runT : Nat → M D → M D) : SS := (sSeq (sFrz [0] (sSet 3 (sBinS ixSt (rd (sLst (sCons (kp (sC (.int 3))) (sCons (kp (sC (.int 12))) (sCons (kp (sC (.int 101))) sNil))))) (rd (sFn (run 19) (sCons (kp (sVar 0)) (sCons (kp (sC (.int 3))) sNil))))))) (sSeq (sFrz [0] (sRet (sCall dTuple (sCons (rd (sLc (itR1 (sCons (kp (sVar 1)) sNil)) (gN 4) sYes (kp (sCall dMax (sCons (rd (sVar 2)) (sCons (rd (sBin dAdd (rd (sBin dSub (rd (sFn (run 19) (sCons (kp (sVar 0)) (sCons (kp (sBin dSub (rd (sBin dMulA (rd (sC (.int 2))) (rd (sVar 3)))) (rd (sC (.int 1))))) sNil)))) (rd (sVar 3)))) (rd (sC (.int 1))))) sNil)))) [4])) sNil)))) sSkip))
def L21 (run : Nat → List D → M D) (runT : Nat → M D → M D) : SS := (sSeq (sRet (sBin dEq (rd (sCall dRepr (sCons (rd (sVar 0)) sNil))) (rd (sCall dRepr (sCons (rd (sVar 1)) sNil))))) sSkip)
def L22 (run : Nat → List D → M D) (runT : Nat → M D → M D) : SS := (sSeq (sSet 2 (sC (.int 1))) (sSeq (sFor (itR1 (sCons (kp (sVar 1)) sNil)) (gN 3) (sSeq (sSet 2 (sBin dMulA (rd (sVar 2)) (rd (sVar 0)))) sSkip)) (sSeq (sFrz [2] (sRet (sVar 2))) sSkip)))
def L23 (run : Nat → List D → M D) (runT : Nat → M D → M D) : SS := (sSeq (sSet 2 (sC (.int 1))) (sSeq (sFrz [0, 1] (sFor (itZipM (sCons (kp (sVar 0)) (sCons (kp (sVar 1)) sNil))) (gT (gsCons (gN 3) (gsCons (gN 4) gsNil))) (sSeq (sFrz [4, 3] (sSet 2 (sBin dMulA (rd (sVar 2)) (rd (sFn (run 22) (sCons (kp (sVar 4)) (sCons (kp (sVar 3)) sNil))))))) sSkip))) (sSeq (sFrz [2] (sRet (sVar 2))) sSkip)))
def L24 (run : Nat → List D → M D) (runT : Nat → M D → M D) : SS := (sSeq (sSet 1 (sLst (sCons (kp (sTup sNil)) sNil))) (sSeq (sFor (itR1 (sCons (kp (sVar 0)) sNil)) (gN 2) (sSeq (sSet 3 (sLst sNil)) (sSeq (sFrz [1] (sFor (itS (kp (sVar 1))) (gN 4) (sSeq (sSet 3 (sBin dAdd (rd (sVar 3)) (rd (sLc (itR1 (sCons (kp (sVar 0)) sNil)) (gN 5) (sBoolT (sBin dNotIn (rd (sVar 5)) (rd (sVar 4)))) (kp (sBin dAdd (rd (sVar 4)) (rd (sTup (sCons (kp (sVar 5)) sNil))))) [5])))) sSkip))) (sSeq (sFrz [3] (sSet 1 (sVar 3))) sSkip)))) (sSeq (sFrz [1] (sRet (sVar 1))) sSkip)))
def L25 (run : Nat → List D → M D) (runT : Nat → M D → M D) : SS := (sSeq (sSet 2 (sCall dLen (sCons (rd (sVar 0)) sNil))) (sSeq (sFrz [1, 2] (sRet (sCall dSum (sCons (rd (sLc (itS (kp (sFn (run 24) (sCons (kp (sVar 2)) sNil)))) (gN 3) sYes (kp (sFn (run 23) (sCons (kp (sLc (itS (kp (sVar 3))) (gN 4) sYes (kp (sBinS ixSt (rd (sVar 0)) (rd (sVar 4)))) [4])) (sCons (kp (sVar 1)) sNil)))) [3])) sNil)))) sSkip))
def L26 (run : Nat → List D → M D) (runT : Nat → M D → M D) : SS := (sSeq (sSet 2 (sLst sNil)) (sSeq (sFor (itS (kp (sFn (run 24) (sCons (kp (sCall dLen (sCons (rd (sVar 0)) sNil))) sNil)))) (gN 3) (sSeq (sFrz [3] (sSet 4 (sCall dTuple (sCons (rd (sLc (itS (kp (sVar 3))) (gN 5) sYes (kp (sBinS ixSt (rd (sVar 0)) (rd (sVar 5)))) [5])) sNil)))) (sSeq (sIfS (sBoolT (sBin dNotIn (rd (sVar 4)) (rd (sVar 2)))) (sSeq (sFrz [4] (sMut 2 lAppend (sCons (kp (sVar 4)) sNil))) sSkip) sSkip) sSkip))) (sSeq (sFrz [4, 1, 2] (sRet (sCall dSum (sCons (rd (sLc (itS (kp (sVar 2))) (gN 4) sYes (kp (sFn (run 23) (sCons (kp (sVar 4)) (sCons (kp (sVar 1)) sNil)))) [4])) sNil)))) sSkip)))
def L27 (run : Nat → List D → M D) (runT : Nat → M D → M D) : SS := (sSeq (sSet 2 (sLst (sCons (kp (sTup sNil)) sNil))) (sSeq (sFor (itR1 (sCons (kp (sVar 0)) sNil)) (gN 3) (sSeq (sSet 4 (sLst sNil)) (sSeq (sFrz [2] (sFor (itS (kp (sVar 2))) (gN 5) (sSeq (sSet 6 (sIf (sBoolT (sBin dEq (rd (sVar 5)) (rd (sTup sNil)))) (sBin dSub (rd (sVar 1)) (rd (sCall dSum (sCons (rd (sVar 5)) sNil)))) (sCall dMin (sCons (rd (sBinS ixSt (rd (sVar 5)) (rd (sUn dNeg (rd (sC (.int 1))))))) (sCons (rd (sBin dSub (rd (sVar 1)) (rd (sCall dSum (sCons (rd (sVar 5)) sNil))))) sNil))))) (sSeq (sSet 4 (sBin dAdd (rd (sVar 4)) (rd (sLc (itR1 (sCons (kp (sBin dAdd (rd (sVar 6)) (rd (sC (.int 1))))) sNil)) (gN 7) sYes (kp (sBin dAdd (rd (sVar 5)) (rd (sTup (sCons (kp (sVar 7)) sNil))))) [7])))) sSkip)))) (sSeq (sFrz [4] (sSet 2 (sVar 4))) sSkip)))) (sSeq (sFrz [5, 2] (sRet (sLc (itS (kp (sVar 2))) (gN 5) (sBoolT (sBin dEq (rd (sCall dSum (sCons (rd (sVar 5)) sNil))) (rd (sVar 1)))) (kp (sVar 5)) [5]))) sSkip)))
def L28 (run : Nat → List D → M D) (runT : Nat → M D → M D) : SS := (sSeq (sFrz [0] (sRet (sBinS ixSt (rd (sVar 1)) (rd (sFn (run 19) (sCons (kp (sVar 0)) (sCons (kp (sCall dLen (sCons (rd (sVar 1)) sNil))) sNil))))))) sSkip)
def L29 (run : Nat → List D → M D) (runT : Nat → M D → M D) : SS := (sSeq (sTry (subO tb) (sSeq (sIfS (sBoolT (sBin dEq (rd (sVar 0)) (rd (sC (.int 0))))) (sSeq (sFrz [1, 3] (sSet 5 (sLst (sCons (kp (sC (.str "told"))) (sCons (kp (sFn (run 7) (sCons (kp (sVar 1)) (sCons (kp (sVar 3)) sNil)))) sNil))))) sSkip) (sSeq (sIfS (sBoolT (sBin dEq (rd (sVar 0)) (rd (sC (.int 1))))) (sSeq (sFrz [1, 2, 3] (sSet 5 (sLst (sCons (kp (sC (.str "told"))) (sCons (kp (sFn (run 10) (sCons (kp (sVar 1)) (sCons (kp (sVar 2)) (sCons (kp (sVar 3)) sNil))))) sNil))))) sSkip) (sSeq (sIfS (sBoolT (sBin dEq (rd (sVar 0)) (rd (sC (.int 2))))) (sSeq (sFrz [1, 2, 3] (sSet 5 (sLst (sCons (kp (sC (.str "told"))) (sCons (kp (sFnD (run 13) [.bl false] (sCons (kp (sVar 1)) (sCons (kp (sVar 2)) (sCons (kp (sVar 3)) sNil))))) sNil))))) sSkip) (sSeq (sFrz [1, 4] (sSet 5 (sLst (sCons (kp (sC (.str "told"))) (sCons (kp (sFn (run 16) (sCons (kp (sVar 1)) (sCons (kp (sVar 4)) sNil)))) sNil))))) sSkip)) sSkip)) sSkip)) sSkip) [⟨"BadMany", none, some 6, fun cn as => (sSeq (sSet 5 (sLst (sCons (kp (sC (.str "BadMany"))) (sCons (kp (sXf gl0 "value" cn as)) sNil)))) sSkip)⟩, ⟨"BadContent", none, some 6, fun cn as => (sSeq (sSet 5 (sLst (sCons (kp (sC (.str "BadContent"))) (sCons (kp (sXf gl0 "value" cn as)) sNil)))) sSkip)⟩, ⟨"BadWorths", none, some 6, fun cn as => (sSeq (sSet 5 (sLst (sCons (kp (sC (.str "BadWorths"))) (sCons (kp (sXf gl0 "value" cn as)) sNil)))) sSkip)⟩, ⟨"BadTotal", none, some 6, fun cn as => (sSeq (sSet 5 (sLst (sCons (kp (sC (.str "BadTotal"))) (sCons (kp (sXf gl0 "value" cn as)) sNil)))) sSkip)⟩]) (sSeq (sFrz [5] (sRet (sVar 5))) sSkip))
def L30 (run : Nat → List D → M D) (runT : Nat → M D → M D) : SS := (sSeq (sFrz [0] (sSet 1 (sFn (run 17) (sCons (kp (sVar 0)) sNil)))) (sSeq (sFrz [1] (sSet 2 (sBin dAdd (rd (sC (.int 2))) (rd (sFn (run 19) (sCons (kp (sVar 1)) (sCons (kp (sC (.int 3))) sNil))))))) (sSeq (sSet 3 (sIf (sBoolT (sBin dEq (rd (sVar 2)) (rd (sC (.int 2))))) (sC (.int 25)) (sC (.int 7)))) (sSeq (sFrz [1, 3] (sSet 4 (sLc (itR1 (sCons (kp (sVar 2)) sNil)) (gN 5) sYes (kp (sFn (run 19) (sCons (kp (sVar 1)) (sCons (kp (sVar 3)) sNil)))) [5]))) (sSeq (sFrz [1] (sIfS (sBoolT (sBin dEq (rd (sFn (run 19) (sCons (kp (sVar 1)) (sCons (kp (sC (.int 2))) sNil)))) (rd (sC (.int 0))))) (sSeq (sFrz [1, 2] (sSetN 4 (kp (sBinS ixSt (rd (sVar 4)) (rd (sFn (run 19) (sCons (kp (sVar 1)) (sCons (kp (sVar 2)) sNil)))))) (rd (sFn (run 19) (sCons (kp (sVar 1)) (sCons (kp (sVar 2)) sNil)))))) sSkip) sSkip)) (sSeq (sSet 4 (sCall dTuple (sCons (rd (sVar 4)) sNil))) (sSeq (sFrz [1, 2] (sSet 6 (sFn (run 20) (sCons (kp (sVar 1)) (sCons (kp (sVar 2)) (sCons (kp (sUn dNeg (rd (sC (.int 100))))) sNil)))))) (sSeq (sFrz [2, 6] (sIfS (sNotT (sTru (sFn (run 21) (sCons (kp (sFn (run 7) (sCons (kp (sVar 2)) (sCons (kp (sVar 6)) sNil)))) (sCons (kp (sVar 6)) sNil))))) (sSeq (sRet (sC (.bl false))) sSkip) sSkip)) (sSeq (sFrz [2, 4, 6] (sIfS (sNotT (sTru (sFn (run 21) (sCons (kp (sFn (run 10) (sCons (kp (sVar 2)) (sCons (kp (sVar 4)) (sCons (kp (sVar 6)) sNil))))) (sCons (kp (sFn (run 23) (sCons (kp (sVar 4)) (sCons (kp (sVar 6)) sNil)))) sNil))))) (sSeq (sRet (sC (.bl false))) sSkip) sSkip)) (sSeq (sFrz [4, 6] (sSet 7 (sFn (run 25) (sCons (kp (sVar 4)) (sCons (kp (sVar 6)) sNil))))) (sSeq (sFrz [2, 4, 6, 7] (sIfS (sOrT (sNotT (sTru (sFn (run 21) (sCons (kp (sFnD (run 13) [.bl false] (sCons (kp (sVar 2)) (sCons (kp (sVar 4)) (sCons (kp (sVar 6)) sNil))))) (sCons (kp (sVar 7)) sNil))))) (sNotT (sTru (sFn (run 21) (sCons (kp (sFnK (run 13) (sCons (kp (sVar 2)) (sCons (kp (sVar 4)) (sCons (kp (sVar 6)) sNil))) (sCons (kp (sC (.bl false))) sNil))) (sCons (kp (sVar 7)) sNil)))))) (sSeq (sRet (sC (.bl false))) sSkip) sSkip)) (sSeq (sFrz [2, 4, 6] (sIfS (sNotT (sTru (sFn (run 21) (sCons (kp (sFnK (run 13) (sCons (kp (sVar 2)) (sCons (kp (sVar 4)) (sCons (kp (sVar 6)) sNil))) (sCons (kp (sC (.bl true))) sNil))) (sCons (kp (sFn (run 26) (sCons (kp (sVar 4)) (sCons (kp (sVar 6)) sNil)))) sNil))))) (sSeq (sRet (sC (.bl false))) sSkip) sSkip)) (sSeq (sFrz [1] (sSet 8 (sFn (run 19) (sCons (kp (sVar 1)) (sCons (kp (sC (.int 7))) sNil))))) (sSeq (sSet 9 (sLst sNil)) (sSeq (sFor (itR1 (sCons (kp (sBin dAdd (rd (sVar 8)) (rd (sC (.int 1))))) sNil)) (gN 10) (sSeq (sFrz [2, 10] (sSet 9 (sBin dAdd (rd (sVar 9)) (rd (sFn (run 27) (sCons (kp (sVar 2)) (sCons (kp (sVar 10)) sNil))))))) sSkip)) (sSeq (sFrz [2, 8, 9] (sIfS (sNotT (sTru (sFn (run 21) (sCons (kp (sFn (run 16) (sCons (kp (sVar 2)) (sCons (kp (sVar 8)) sNil)))) (sCons (kp (sVar 9)) sNil))))) (sSeq (sRet (sC (.bl false))) sSkip) sSkip)) (sSeq (sFrz [1] (sSet 11 (sFn (run 28) (sCons (kp (sVar 1)) (sCons (kp (sLst (sCons (kp (sC (.int 1))) (sCons (kp (sC (.int 6))) (sCons (kp (sC (.bl true))) (sCons (kp (sC (.str "2"))) (sCons (kp (sC .non)) sNil))))))) sNil))))) (sSeq (sFrz [1] (sSet 12 (sFn (run 28) (sCons (kp (sVar 1)) (sCons (kp (sLst (sCons (kp (sBin dAdd (rd (sVar 4)) (rd (sTup (sCons (kp (sC (.int 0))) sNil))))) (sCons (kp (sSlice (rd (sVar 4)) (sPS (rd (sC (.int 1)))) sPN)) (sCons (kp (sBin dAdd (rd (sTup (sCons (kp (sUn dNeg (rd (sC (.int 1))))) sNil))) (rd (sSlice (rd (sVar 4)) (sPS (rd (sC (.int 1)))) sPN)))) (sCons (kp (sBin dAdd (rd (sSlice (rd (sVar 4)) sPN (sPS (rd (sUn dNeg (rd (sC (.int 1)))))))) (rd (sTup (sCons (kp (sC (.int 25))) sNil))))) (sCons (kp (sCall dList (sCons (rd (sVar 4)) sNil))) (sCons (kp (sC .non)) (sCons (kp (sBin dAdd (rd (sTup (sCons (kp (sC (.bl true))) sNil))) (rd (sSlice (rd (sVar 4)) (sPS (rd (sC (.int 1)))) sPN)))) sNil))))))))) sNil))))) (sSeq (sFrz [1] (sSet 13 (sFn (run 28) (sCons (kp (sVar 1)) (sCons (kp (sLst (sCons (kp (sBin dAdd (rd (sVar 6)) (rd (sTup (sCons (kp (sC (.int 1))) sNil))))) (sCons (kp (sSlice (rd (sVar 6)) (sPS (rd (sC (.int 1)))) sPN)) (sCons (kp (sBin dAdd (rd (sTup (sCons (kp (sC (.int 101))) sNil))) (rd (sSlice (rd (sVar 6)) (sPS (rd (sC (.int 1)))) sPN)))) (sCons (kp (sBin dAdd (rd (sSlice (rd (sVar 6)) sPN (sPS (rd (sUn dNeg (rd (sC (.int 1)))))))) (rd (sTup (sCons (kp (sUn dNeg (rd (sC (.int 101))))) sNil))))) (sCons (kp (sCall dList (sCons (rd (sVar 6)) sNil))) (sCons (kp (sC .non)) (sCons (kp (sBin dAdd (rd (sTup (sCons (kp (sC (.bl false))) sNil))) (rd (sSlice (rd (sVar 6)) (sPS (rd (sC (.int 1)))) sPN)))) sNil))))))))) sNil))))) (sSeq (sFrz [1] (sSet 14 (sFn (run 28) (sCons (kp (sVar 1)) (sCons (kp (sLst (sCons (kp (sUn dNeg (rd (sC (.int 1))))) (sCons (kp (sC (.int 13))) (sCons (kp (sC (.bl true))) (sCons (kp (sC (.str "3"))) (sCons (kp (sC .non)) sNil))))))) sNil))))) (sSeq (sFor (itR1 (sCons (kp (sC (.int 4))) sNil)) (gN 15) (sSeq (sFrz [15, 11, 12, 13, 14] (sIfS (sNotT (sTru (sFn (run 21) (sCons (kp (sFn (run 29) (sCons (kp (sVar 15)) (sCons (kp (sVar 11)) (sCons (kp (sVar 12)) (sCons (kp (sVar 13)) (sCons (kp (sVar 14)) sNil))))))) (sCons (kp (sLst (sCons (kp (sC (.str "BadMany"))) (sCons (kp (sVar 11)) sNil)))) sNil))))) (sSeq (sRet (sC (.bl false))) sSkip) sSkip)) (sSeq (sFrz [15, 2, 12, 13] (sSet 16 (sFn (run 29) (sCons (kp (sVar 15)) (sCons (kp (sVar 2)) (sCons (kp (sVar 12)) (sCons (kp (sVar 13)) (sCons (kp (sC (.int 0))) sNil)))))))) (sSeq (sFrz [16, 12] (sIfS (sAndT (sBoolT (sBin dIn (rd (sVar 15)) (rd (sTup (sCons (kp (sC (.int 1))) (sCons (kp (sC (.int 2))) sNil)))))) (sNotT (sTru (sFn (run 21) (sCons (kp (sVar 16)) (sCons (kp (sLst (sCons (kp (sC (.str "BadContent"))) (sCons (kp (sVar 12)) sNil)))) sNil)))))) (sSeq (sRet (sC (.bl false))) sSkip) sSkip)) (sSeq (sFrz [15, 2, 4, 13] (sSet 16 (sFn (run 29) (sCons (kp (sVar 15)) (sCons (kp (sVar 2)) (sCons (kp (sVar 4)) (sCons (kp (sVar 13)) (sCons (kp (sC (.int 0))) sNil)))))))) (sSeq (sFrz [16, 13] (sIfS (sAndT (sBoolT (sBin dLt (rd (sVar 15)) (rd (sC (.int 3))))) (sNotT (sTru (sFn (run 21) (sCons (kp (sVar 16)) (sCons (kp (sLst (sCons (kp (sC (.str "BadWorths"))) (sCons (kp (sVar 13)) sNil)))) sNil)))))) (sSeq (sRet (sC (.bl false))) sSkip) sSkip)) sSkip)))))) (sSeq (sFrz [2, 4, 6, 14] (sRet (sFn (run 21) (sCons (kp (sFn (run 29) (sCons (kp (sC (.int 3))) (sCons (kp (sVar 2)) (sCons (kp (sVar 4)) (sCons (kp (sVar 6)) (sCons (kp (sVar 14)) sNil))))))) (sCons (kp (sLst (sCons (kp (sC (.str "BadTotal"))) (sCons (kp (sVar 14)) sNil)))) sNil))))) sSkip))))))))))))))))))))))
def noLT (_ : Nat → List D → M D) (_ : Nat → M D → M D) (_ : M D) : SS := sNever
def bods : List (Nat × ((Nat → List D → M D) → (Nat → M D → M D) → SS) × ((Nat → List D → M D) → (Nat → M D → M D) → M D → SS)) := [(1, L0, noLT), (2, L1, noLT), (1, L2, noLT), (4, L3, noLT), (3, L4, noLT), (2, L5, noLT), (3, L6, noLT), (2, L7, noLT), (1, L8, noLT), (5, L9, noLT), (3, L10, noLT), (3, L11, noLT), (5, L12, noLT), (4, L13, noLT), (5, L14, noLT), (4, L15, noLT), (2, L16, noLT), (3, L17, noLT), (2, L18, noLT), (6, L19, noLT), (5, L20, noLT), (2, L21, noLT), (4, L22, noLT), (5, L23, noLT), (6, L24, noLT), (5, L25, noLT), (6, L26, noLT), (8, L27, noLT), (2, L28, noLT), (7, L29, noLT), (17, L30, noLT)]
def Qb : Nat → (Nat → List D → M D) × (Nat → M D → M D)
  | 0 => (fun _ _ => M.bad, fun _ _ => M.bad)
  | l + 1 => (fun i => match bods[i]? with
    | some d => semF d.1 (d.2.1 (Qb l).1 (Qb l).2)
    | none => fun _ => M.bad, fun i => match bods[i]? with
    | some d => fun th => semT d.1 (d.2.2 (Qb l).1 (Qb l).2 th)
    | none => fun _ => M.bad)
def Q (l : Nat) : Nat → List D → M D := (Qb l).1
def QT (l : Nat) : Nat → M D → M D := (Qb l).2
theorem u0 (l : Nat) : Q (l + 1) 0 = semF 1 (L0 (Q l) (QT l)) := by kernel_rfl
theorem u1 (l : Nat) : Q (l + 1) 1 = semF 2 (L1 (Q l) (QT l)) := by kernel_rfl
theorem u2 (l : Nat) : Q (l + 1) 2 = semF 1 (L2 (Q l) (QT l)) := by kernel_rfl
theorem u3 (l : Nat) : Q (l + 1) 3 = semF 4 (L3 (Q l) (QT l)) := by kernel_rfl
theorem u4 (l : Nat) : Q (l + 1) 4 = semF 3 (L4 (Q l) (QT l)) := by kernel_rfl
theorem u5 (l : Nat) : Q (l + 1) 5 = semF 2 (L5 (Q l) (QT l)) := by kernel_rfl
theorem u6 (l : Nat) : Q (l + 1) 6 = semF 3 (L6 (Q l) (QT l)) := by kernel_rfl
theorem u7 (l : Nat) : Q (l + 1) 7 = semF 2 (L7 (Q l) (QT l)) := by kernel_rfl
theorem u8 (l : Nat) : Q (l + 1) 8 = semF 1 (L8 (Q l) (QT l)) := by kernel_rfl
theorem u9 (l : Nat) : Q (l + 1) 9 = semF 5 (L9 (Q l) (QT l)) := by kernel_rfl
theorem u10 (l : Nat) : Q (l + 1) 10 = semF 3 (L10 (Q l) (QT l)) := by kernel_rfl
theorem u11 (l : Nat) : Q (l + 1) 11 = semF 3 (L11 (Q l) (QT l)) := by kernel_rfl
theorem u12 (l : Nat) : Q (l + 1) 12 = semF 5 (L12 (Q l) (QT l)) := by kernel_rfl
theorem u13 (l : Nat) : Q (l + 1) 13 = semF 4 (L13 (Q l) (QT l)) := by kernel_rfl
theorem u14 (l : Nat) : Q (l + 1) 14 = semF 5 (L14 (Q l) (QT l)) := by kernel_rfl
theorem u15 (l : Nat) : Q (l + 1) 15 = semF 4 (L15 (Q l) (QT l)) := by kernel_rfl
theorem u16 (l : Nat) : Q (l + 1) 16 = semF 2 (L16 (Q l) (QT l)) := by kernel_rfl
theorem u17 (l : Nat) : Q (l + 1) 17 = semF 3 (L17 (Q l) (QT l)) := by kernel_rfl
theorem u18 (l : Nat) : Q (l + 1) 18 = semF 2 (L18 (Q l) (QT l)) := by kernel_rfl
theorem u19 (l : Nat) : Q (l + 1) 19 = semF 6 (L19 (Q l) (QT l)) := by kernel_rfl
theorem u20 (l : Nat) : Q (l + 1) 20 = semF 5 (L20 (Q l) (QT l)) := by kernel_rfl
theorem u21 (l : Nat) : Q (l + 1) 21 = semF 2 (L21 (Q l) (QT l)) := by kernel_rfl
theorem u22 (l : Nat) : Q (l + 1) 22 = semF 4 (L22 (Q l) (QT l)) := by kernel_rfl
theorem u23 (l : Nat) : Q (l + 1) 23 = semF 5 (L23 (Q l) (QT l)) := by kernel_rfl
theorem u24 (l : Nat) : Q (l + 1) 24 = semF 6 (L24 (Q l) (QT l)) := by kernel_rfl
theorem u25 (l : Nat) : Q (l + 1) 25 = semF 5 (L25 (Q l) (QT l)) := by kernel_rfl
theorem u26 (l : Nat) : Q (l + 1) 26 = semF 6 (L26 (Q l) (QT l)) := by kernel_rfl
theorem u27 (l : Nat) : Q (l + 1) 27 = semF 8 (L27 (Q l) (QT l)) := by kernel_rfl
theorem u28 (l : Nat) : Q (l + 1) 28 = semF 2 (L28 (Q l) (QT l)) := by kernel_rfl
theorem u29 (l : Nat) : Q (l + 1) 29 = semF 7 (L29 (Q l) (QT l)) := by kernel_rfl
theorem u30 (l : Nat) : Q (l + 1) 30 = semF 17 (L30 (Q l) (QT l)) := by kernel_rfl
instance : Hnd := ⟨0, 0, "", fun _ _ => True, fun _ _ _ _ _ _ _ => True.intro⟩
-- 0 is_whole, 1 is_below, 2 need_many, 3 power, 4 is_content, 5 need_content, 6 _are_worths, 7 need_worths, 8 _need_total, 9 _product_of, 10 product_at, 11 _orders_of, 12 _even_sum_of, 13 even_sum, 14 _falling_rows, 15 _worths_up_to, 16 test_worths, 17 _law_begin, 18 _law_mixed, 19 _law_draw, 20 _law_worths, 21 _law_like, 22 _law_power, 23 _law_product, 24 _law_orders, 25 _law_even, 26 _law_unlike, 27 _law_falling, 28 _law_of, 29 _law_asked, 30 law
end M52
namespace K52
open PySem PySem.Spec PyProof.Rows L2 Ev M52
abbrev row := PySem.Challenge.rw_unithouse_k52_products_and_orders
def body : List Stmt := PySem.Challenge.pw_unithouse_k52_products_and_orders.main.body
def st (i : Nat) : Stmt := body.getD i (.Pass ⟨0, 0, 0, 0⟩)
def clsIn : Stmt → List Stmt
  | .ClassDef _ _ _ b _ _ _ _ _ _ _ => b
  | _ => []
def sti (i j : Nat) : Stmt := (clsIn (st i)).getD j (.Pass ⟨0, 0, 0, 0⟩)
def dd (x : Str) (i : Nat) (k : List (Str × D)) (df : List D) : He.DefD := ⟨(x, none), x, x, defArgs (st i), defBody (st i), defScope (st i), dfsOf x 0 df, k.map fun q => (q.1, dvOf q.2)⟩
def di (x q : Str) (i j : Nat) : He.DefD := ⟨(x, some ("__init__" : Str)), "__init__", q, defArgs (sti i j), defBody (sti i j), defScope (sti i j), [], []⟩
def ini : List He.DefD := [di "BadMany" "BadMany.__init__" 2 0, di "BadContent" "BadContent.__init__" 3 0, di "BadTotal" "BadTotal.__init__" 4 0, di "BadWorths" "BadWorths.__init__" 5 0]
def fn : List He.DefD := [dd "is_whole" 10 [] [], dd "is_below" 11 [] [], dd "need_many" 12 [] [], dd "power" 13 [] [], dd "is_content" 16 [] [], dd "need_content" 17 [] [], dd "_are_worths" 20 [] [], dd "need_worths" 21 [] [], dd "_need_total" 22 [] [], dd "_product_of" 23 [] [], dd "product_at" 24 [] [], dd "_orders_of" 25 [] [], dd "_even_sum_of" 26 [] [], dd "even_sum" 27 [kv "unlike" (.bl false)] [], dd "_falling_rows" 28 [] [], dd "_worths_up_to" 29 [] [], dd "test_worths" 30 [] [], dd "_law_begin" 32 [] [], dd "_law_mixed" 33 [] [], dd "_law_draw" 34 [] [], dd "_law_worths" 35 [] [], dd "_law_like" 36 [] [], dd "_law_power" 37 [] [], dd "_law_product" 38 [] [], dd "_law_orders" 39 [] [], dd "_law_even" 40 [] [], dd "_law_unlike" 41 [] [], dd "_law_falling" 42 [] [], dd "_law_of" 43 [] [], dd "_law_asked" 44 [] [], dd "law" 45 [] []] ++ ini
def loose : List Str := (PySem.Challenge.pw_unithouse_k52_products_and_orders.main.scope.names.map (·.1)).filter fun x => !(x == ("law" : Str) || x == ("__name__" : Str))
abbrev R : PySem.W.OpenRow := PySem.W.OpenLaw.row row
abbrev hk : PySem.W.Hook := hookU 4 fn gls tb
def ob (s : PySem.W.SharedT) : AlU × Bool := obsUG 4 fn gls tb (HandSHeadRun.getT s)
theorem ob_eq (s : PySem.W.SharedT) : ob s = hk.obs s.abs := obsUG_eq (HandSHeadRun.getT_eq s)
abbrev vw := PySem.W.view R.prog [45]
theorem runF (w : World) : HandSHeadRun.RunEq R vw hk ob 20000 loose (w.withFollow "special-get-raises" false) := by
  intro os
  kernel_rfl
theorem runT (w : World) : HandSHeadRun.RunEq R vw hk ob 20000 loose (w.withFollow "special-get-raises" true) := by
  intro os
  kernel_rfl
theorem run (w : World) : HandSHeadRun.RunEq R vw hk ob 20000 loose w := PySem.W.byRow2 "special-get-raises" runF runT w
end K52
/-! Runs of meanings, step by step. -/
namespace Ev
open PySem
section
variable {ρ ρ' ρ1 ρ2 : Env'} {st st1 st2 st3 st4 st5 : Store} {a b c d : D} {r : RV} {as bs ds es : List D} {x : Str}
theorem bok {α β : Type} {m : M α} {k : α → M β} {st st1 : Store} {z : α} (h : m st = .ok z st1) : M.bind m k st = k z st1 := by unfold M.bind; rw [h]
theorem nok {α : Type} {m : M α} {st st1 : Store} {z : α} (h : m st = .ok z st1) : m st = .ok z st1 := h
theorem nekk {α : Type} {m : M α} {st st1 : Store} {z : α} (h : m st = .ok z st1) : M.ne m st = .ok z st1 := by unfold M.ne; rw [h]
theorem iteT {α : Type} {x y : M α} {st : Store} {z : R α} (h : x st = z) : (if true = true then x else y) st = z := by simpa using h
theorem iteF {α : Type} {x y : M α} {st : Store} {z : R α} (h : y st = z) : (if false = true then x else y) st = z := by simpa using h
theorem iteP {α : Type} {x y : M α} {st : Store} {z : R α} {p : Prop} [Decidable p] (hp : p) (h : x st = z) : (if p then x else y) st = z := by rw [if_pos hp]; exact h
theorem ook {α : Type} {o : Store → Option α} {st : Store} {z : α} (h : o st = some z) : M.opt' o st = .ok z st := by unfold M.opt'; rw [h]
/-! ### expressions -/
theorem w_var {i : Nat} {r : RV} (h : (match ρ[i]? with
    | some (.val d) => some (RV.per d)
    | some (.own ds) => some (RV.bor ds)
    | _ => none) = some r) : sVar i ρ st = .ok r st := by
  unfold sVar
  cases hr : ρ[i]? with
  | none => rw [hr] at h; cases h
  | some s =>
    rw [hr] at h
    cases s <;> first | (cases h; rfl) | cases h
theorem w_c : sC d ρ st = .ok (.per d) st := rfl
theorem w_nil : sNil ρ st = .ok [] st := rfl
theorem w_rd {f : Env' → M RV} (h : f ρ st = .ok r st1) : rd f ρ st = .ok r.d st1 := by unfold rd M.bind; rw [h]; rfl
theorem w_kp {f : Env' → M RV} (h : f ρ st = .ok (.per d) st1) : kp f ρ st = .ok d st1 := by unfold kp M.bind; rw [h]; rfl
theorem w_kpf {f : Env' → M RV} (h : f ρ st = .ok (.fr ds) st1) : kp f ρ st = .ok (.lst ds) st1 := by unfold kp M.bind; rw [h]; rfl
theorem w_cons {f : Env' → M D} {g : Env' → M (List D)} (h : f ρ st = .ok d st1) (h2 : g ρ st1 = .ok ds st2) : sCons f g ρ st = .ok (d :: ds) st2 := by unfold sCons M.bind; rw [h]; dsimp only; rw [h2]; rfl
theorem w_tup {g : Env' → M (List D)} (h : g ρ st = .ok ds st1) (hl : ds.length ≤ sizeLine) : sTup g ρ st = .ok (.per (.tup ds)) st1 := by unfold sTup M.bind; rw [h]; dsimp only; rw [if_pos hl]; rfl
theorem w_lst {g : Env' → M (List D)} (h : g ρ st = .ok ds st1) (hl : ds.length ≤ sizeLine) : sLst g ρ st = .ok (.fr ds) st1 := by unfold sLst M.bind; rw [h]; dsimp only; rw [if_pos hl]; rfl
theorem w_lst' {g : Env' → M (List D)} (h : g ρ st = .ok ds st1) (hl : ds.length ≤ sizeLine) : sLst g ρ st = .ok (.fr ds) st1 := by unfold sLst M.bind; rw [h]; dsimp only; rw [if_pos hl]; rfl
theorem w_kpl {g : Env' → M (List D)} (h : g ρ st = .ok ds st1) (hl : ds.length ≤ sizeLine) : kp (sLst g) ρ st = .ok (.lst ds) st1 := w_kpf (w_lst' h hl)
theorem w_bin {op : D → D → Option RV} {f g : Env' → M D} (h : f ρ st = .ok a st1) (h2 : g ρ st1 = .ok b st2) (h3 : op (deref st2 a) (deref st2 b) = some r) : sBin op f g ρ st = .ok r st2 := by
  unfold sBin M.bind M.rdr; rw [h]; dsimp only; rw [h2]; dsimp only; rw [h3]
theorem w_binS {op : Store → D → D → Option RV} {f g : Env' → M D} (h : f ρ st = .ok a st1) (h2 : g ρ st1 = .ok b st2) (h3 : op st2 a b = some r) : sBinS op f g ρ st = .ok r st2 := by
  unfold sBinS M.bind M.rdr; rw [h]; dsimp only; rw [h2]; dsimp only; rw [h3]
theorem w_un {op : D → Option RV} {f : Env' → M D} (h : f ρ st = .ok a st1) (h3 : op (deref st1 a) = some r) : sUn op f ρ st = .ok r st1 := by
  unfold sUn M.bind M.rdr; rw [h]; dsimp only; rw [h3]
theorem w_call {op : List D → Option RV} {g : Env' → M (List D)} (h : g ρ st = .ok as st1) (h3 : op (as.map (deref st1)) = some r) : sCall op g ρ st = .ok r st1 := by
  unfold sCall M.bind M.rdr; rw [h]; dsimp only; rw [h3]
theorem w_fn {F : List D → M D} {g : Env' → M (List D)} (h : g ρ st = .ok as st1) (h2 : F as st1 = .ok d st2) : sFn F g ρ st = .ok (.per d) st2 := by
  unfold sFn M.bind; rw [h]; dsimp only; rw [h2]; rfl
theorem w_fnD {F : List D → M D} {dd : List D} {g : Env' → M (List D)} (h : g ρ st = .ok as st1) (h2 : F (as ++ dd) st1 = .ok d st2) : sFnD F dd g ρ st = .ok (.per d) st2 := by
  unfold sFnD M.bind; rw [h]; dsimp only; rw [h2]; rfl
theorem w_fnK {F : List D → M D} {g gk : Env' → M (List D)} (h : g ρ st = .ok as st1) (h1 : gk ρ st1 = .ok bs st2) (h2 : F (as ++ bs) st2 = .ok d st3) : sFnK F g gk ρ st = .ok (.per d) st3 := by
  unfold sFnK M.bind; rw [h]; dsimp only; rw [h1]; dsimp only; rw [h2]; rfl
theorem w_chT {op op' : D → D → Option RV} {f g k : Env' → M D} (h : f ρ st = .ok a st1) (h2 : g ρ st1 = .ok b st2) (h3 : op (deref st2 a) (deref st2 b) = some (.per (.bl true))) (h4 : k ρ st2 = .ok c st3) (h5 : op' (deref st3 b) (deref st3 c) = some r) : sChain op op' f g k ρ st = .ok r st3 := by
  unfold sChain
  rw [bok h, bok h2, bok (ook (z := true) (by rw [h3]; rfl))]
  refine iteT ?_
  rw [bok h4]
  unfold M.rdr; dsimp only; rw [h5]
theorem w_chF {op op' : D → D → Option RV} {f g k : Env' → M D} (h : f ρ st = .ok a st1) (h2 : g ρ st1 = .ok b st2) (h3 : op (deref st2 a) (deref st2 b) = some (.per (.bl false))) : sChain op op' f g k ρ st = .ok (.per (.bl false)) st2 := by
  unfold sChain M.bind M.opt'; rw [h]; dsimp only; rw [h2]; dsimp only; rw [h3]; rfl
theorem w_slice {f : Env' → M D} {lo hi : Env' → M (Option Int)} {l u : Option Int} (h : f ρ st = .ok a st1) (h1 : lo ρ st1 = .ok l st2) (h2 : hi ρ st2 = .ok u st3) (h3 : dSlice (deref st3 a) l u = some r) : sSlice f lo hi ρ st = .ok r st3 := by
  unfold sSlice M.bind M.rdr; rw [h]; dsimp only; rw [h1]; dsimp only; rw [h2]; dsimp only; rw [h3]
theorem w_pn : sPN ρ st = .ok none st := rfl
theorem w_ps {f : Env' → M D} {i : Int} (h : f ρ st = .ok (.int i) st1) : sPS f ρ st = .ok (some i) st1 := by unfold sPS M.bind; rw [h]; rfl
theorem w_ifT {α : Type} {t : Env' → M Bool} {f g : Env' → M α} {z : α} (h : t ρ st = .ok true st1) (h1 : f ρ st1 = .ok z st2) : sIf t f g ρ st = .ok z st2 := by unfold sIf M.bind; rw [h]; dsimp only; rw [if_pos rfl, h1]
theorem w_ifF {α : Type} {t : Env' → M Bool} {f g : Env' → M α} {z : α} (h : t ρ st = .ok false st1) (h1 : g ρ st1 = .ok z st2) : sIf t f g ρ st = .ok z st2 := by unfold sIf M.bind; rw [h]; dsimp only; rw [if_neg Bool.false_ne_true, h1]
theorem w_toCell {f : Env' → M RV} (h : f ρ st = .ok (.fr ds) st1) : toCell f ρ st = .ok (.per (.cell st1.length)) (st1 ++ [.lst ds]) := by unfold toCell M.bind M.cell; rw [h]
theorem w_andT {f g : Env' → M RV} {r2 : RV} (h : f ρ st = .ok r st1) (ht : tru st1 r.d = some true) (h1 : g ρ st1 = .ok r2 st2) : sAndV f g ρ st = .ok r2 st2 := by unfold sAndV M.bind M.opt'; rw [h]; dsimp only; rw [ht]; dsimp only; rw [if_pos rfl, h1]
theorem w_andF {f g : Env' → M RV} (h : f ρ st = .ok r st1) (ht : tru st1 r.d = some false) : sAndV f g ρ st = .ok r st1 := by unfold sAndV M.bind M.opt'; rw [h]; dsimp only; rw [ht]; dsimp only; rw [if_neg Bool.false_ne_true]; rfl
theorem w_not {f : Env' → M RV} {k : Bool} (h : f ρ st = .ok r st1) (ht : tru st1 r.d = some k) : sNotV f ρ st = .ok (.per (.bl !k)) st1 := by unfold sNotV M.bind M.opt'; rw [h]; dsimp only; rw [ht]; rfl
/-! ### tests -/
theorem t_bool {f : Env' → M RV} {k : Bool} (h : f ρ st = .ok (.per (.bl k)) st1) : sBoolT f ρ st = .ok k st1 := by unfold sBoolT M.bind M.opt'; rw [h]; rfl
theorem t_tru {f : Env' → M RV} {k : Bool} (h : f ρ st = .ok r st1) (ht : tru st1 r.d = some k) : sTru f ρ st = .ok k st1 := by unfold sTru M.bind M.opt'; rw [h]; dsimp only; rw [ht]
theorem t_not {f : Env' → M Bool} {k : Bool} (h : f ρ st = .ok k st1) : sNotT f ρ st = .ok (!k) st1 := by unfold sNotT M.bind; rw [h]; rfl
theorem t_andT {f g : Env' → M Bool} {k : Bool} (h : f ρ st = .ok true st1) (h1 : g ρ st1 = .ok k st2) : sAndT f g ρ st = .ok k st2 := by unfold sAndT M.bind; rw [h]; dsimp only; rw [if_pos rfl, h1]
theorem t_andF {f g : Env' → M Bool} (h : f ρ st = .ok false st1) : sAndT f g ρ st = .ok false st1 := by unfold sAndT M.bind; rw [h]; dsimp only; rw [if_neg Bool.false_ne_true]; rfl
theorem t_orT {f g : Env' → M Bool} (h : f ρ st = .ok true st1) : sOrT f g ρ st = .ok true st1 := by unfold sOrT M.bind; rw [h]; dsimp only; rw [if_pos rfl]; rfl
theorem t_orF {f g : Env' → M Bool} {k : Bool} (h : f ρ st = .ok false st1) (h1 : g ρ st1 = .ok k st2) : sOrT f g ρ st = .ok k st2 := by unfold sOrT M.bind; rw [h]; dsimp only; rw [if_neg Bool.false_ne_true, h1]
theorem t_yes : sYes ρ st = .ok true st := rfl
/-! ### what is gone over -/
theorem i_lst {f : Env' → M D} (h : f ρ st = .ok (.lst ds) st1) : itS f ρ st = .ok ds st1 := by unfold itS M.bind; rw [h]; rfl
theorem i_tup {f : Env' → M D} (h : f ρ st = .ok (.tup ds) st1) : itS f ρ st = .ok ds st1 := by unfold itS M.bind; rw [h]; rfl
theorem i_r1 {g : Env' → M (List D)} {j : Int} (h : g ρ st = .ok [.int j] st1) (hb : bnd j = true) : itR1 g ρ st = .ok (rngD 0 j.toNat) st1 := by unfold itR1 M.bind; rw [h]; dsimp only; rw [if_pos hb]; rfl
theorem i_r2 {g : Env' → M (List D)} {i j : Int} (h : g ρ st = .ok [.int i, .int j] st1) (hb : bnd i = true) (hb2 : bnd j = true) : itR2 g ρ st = .ok (rngD i (j - i).toNat) st1 := by unfold itR2 M.bind; rw [h]; dsimp only; rw [if_pos (by rw [hb, hb2]; rfl)]; rfl
theorem i_zLL {g : Env' → M (List D)} (h : g ρ st = .ok [.lst ds, .lst es] st1) : itZipM g ρ st = .ok (zipD ds es) st1 := by unfold itZipM M.bind; rw [h]; rfl
theorem i_zTT {g : Env' → M (List D)} (h : g ρ st = .ok [.tup ds, .tup es] st1) : itZipM g ρ st = .ok (zipD ds es) st1 := by unfold itZipM M.bind; rw [h]; rfl
theorem i_zLT {g : Env' → M (List D)} (h : g ρ st = .ok [.lst ds, .tup es] st1) : itZipM g ρ st = .ok (zipD ds es) st1 := by unfold itZipM M.bind; rw [h]; rfl
theorem i_enL {g : Env' → M (List D)} {lo : Int} (h : g ρ st = .ok [.lst ds] st1) : itEn lo g ρ st = .ok (enD lo ds) st1 := by unfold itEn M.bind; rw [h]; rfl
theorem i_enT {g : Env' → M (List D)} {lo : Int} (h : g ρ st = .ok [.tup ds] st1) : itEn lo g ρ st = .ok (enD lo ds) st1 := by unfold itEn M.bind; rw [h]; rfl
theorem bnd_lt {i : Int} (h1 : -1000000000000 ≤ i) (h2 : i ≤ 1000000000000) : bnd i = true := by
  have e : (2 : Int) ^ 62 = 4611686018427387904 := by decide
  unfold bnd
  rw [e]
  simp
  omega
/-! ### comprehensions -/
/-- one pass, the store standing still behind each turn -/
theorem lc_map {g : D → Env' → Option Env'} {c : Env' → M Bool} {el : Env' → M D} {F : D → D} {st : Store} : ∀ (ds acc : List D), (∀ d ∈ ds, ∃ ρ1, g d ρ = some ρ1 ∧ c ρ1 st = .ok true st ∧ el ρ1 st = .ok (F d) st) → acc.length + ds.length ≤ sizeLine → sLcL g c el ρ ds acc st = .ok (acc ++ ds.map F) st
  | [], acc, _, _ => by simp [sLcL, M.pure]
  | d :: ds, acc, h, hl => by
    obtain ⟨ρ1, h1, h2, h3⟩ := h d (by simp)
    have hl2 : acc.length < sizeLine := by simp at hl; omega
    unfold sLcL
    rw [h1]
    dsimp only
    rw [bok (nok h2)]
    refine iteT ?_
    rw [bok (nok h3)]
    refine iteP hl2 ?_
    rw [lc_map ds (acc ++ [F d]) (fun e he => h e (List.mem_cons_of_mem _ he)) (by simp at hl ⊢; omega)]
    simp
theorem lc_filter {g : D → Env' → Option Env'} {c : Env' → M Bool} {el : Env' → M D} {F : D → D} {p : D → Bool} {st : Store} : ∀ (ds acc : List D), (∀ d ∈ ds, ∃ ρ1, g d ρ = some ρ1 ∧ c ρ1 st = .ok (p d) st ∧ (p d = true → el ρ1 st = .ok (F d) st)) → acc.length + ds.length ≤ sizeLine → sLcL g c el ρ ds acc st = .ok (acc ++ (ds.filter p).map F) st
  | [], acc, _, _ => by simp [sLcL, M.pure]
  | d :: ds, acc, h, hl => by
    obtain ⟨ρ1, h1, h2, h3⟩ := h d (by simp)
    have hl2 : acc.length < sizeLine := by simp at hl; omega
    unfold sLcL
    rw [h1]
    dsimp only
    rw [bok (nok h2)]
    cases hp : p d with
    | true =>
      refine iteT ?_
      rw [bok (nok (h3 hp))]
      refine iteP hl2 ?_
      rw [lc_filter ds (acc ++ [F d]) (fun e he => h e (List.mem_cons_of_mem _ he)) (by simp at hl ⊢; omega)]
      simp [List.filter_cons, hp]
    | false =>
      refine iteF ?_
      rw [lc_filter ds acc (fun e he => h e (List.mem_cons_of_mem _ he)) (by simp at hl ⊢; omega)]
      simp [List.filter_cons, hp]
theorem w_lc {it : Env' → M (List D)} {g : D → Env' → Option Env'} {c : Env' → M Bool} {el : Env' → M D} {vs : List Nat} (h : it ρ st = .ok ds st1) (h1 : sLcL g c el (wipeE ρ vs) ds [] st1 = .ok es st2) : sLc it g c el vs ρ st = .ok (.fr es) st2 := by
  unfold sLc M.bind; rw [h]; dsimp only; rw [h1]; rfl
theorem w_lc2 {it : Env' → M (List D)} {g : D → Env' → Option Env'} {c : Env' → M Bool} {it1 : Env' → M (List D)} {g1 : D → Env' → Option Env'} {c1 : Env' → M Bool} {el : Env' → M D} {vs vs1 : List Nat} (h : it ρ st = .ok ds st1) (h1 : sLcO g c it1 g1 c1 el vs1 (wipeE ρ vs) ds [] st1 = .ok es st2) : sLc2 it g c it1 g1 c1 el vs vs1 ρ st = .ok (.fr es) st2 := by
  unfold sLc2 M.bind; rw [h]; dsimp only; rw [h1]; rfl
/-- two clauses, no tests, the store standing still -/
theorem lcn_map {g : D → Env' → Option Env'} {c : Env' → M Bool} {el : Env' → M D} {F : D → D} {st : Store} (ds acc : List D) (h : ∀ d ∈ ds, ∃ ρ1, g d ρ = some ρ1 ∧ c ρ1 st = .ok true st ∧ el ρ1 st = .ok (F d) st) (hl : acc.length + ds.length ≤ sizeLine) : sLcN g c el ρ ds acc st = .ok (acc ++ ds.map F) st := by
  rw [sLcN_eq]
  exact nekk (lc_map ds acc h hl)
theorem lco_flat {g : D → Env' → Option Env'} {it1 : Env' → M (List D)} {g1 : D → Env' → Option Env'} {el : Env' → M D} {vs1 : List Nat} {I : D → List D} {F : D → D → D} {st : Store} (L : Nat) : ∀ (ds acc : List D), (∀ d ∈ ds, ∃ ρ1, g d ρ = some ρ1 ∧ it1 ρ1 st = .ok (I d) st ∧ ∀ e ∈ I d, ∃ ρ2, g1 e (wipeE ρ1 vs1) = some ρ2 ∧ el ρ2 st = .ok (F d e) st) → acc.length + (ds.flatMap I).length ≤ sizeLine →
    sLcO g sYes it1 g1 sYes el vs1 ρ ds acc st = .ok (acc ++ ds.flatMap fun d => (I d).map (F d)) st
  | [], acc, _, _ => by simp [sLcO, M.pure]
  | d :: ds, acc, h, hl => by
    obtain ⟨ρ1, h1, h2, h3⟩ := h d (by simp)
    have hl1 : acc.length + (I d).length ≤ sizeLine := by simp at hl; omega
    have e1 := lcn_map (ρ := wipeE ρ1 vs1) (g := g1) (c := sYes) (el := el) (F := F d) (st := st) (I d) acc (fun e he => let ⟨ρ2, q1, q2⟩ := h3 e he; ⟨ρ2, q1, rfl, q2⟩) hl1
    unfold sLcO
    rw [h1]
    dsimp only
    rw [bok (nekk (show sYes ρ1 st = .ok true st from rfl))]
    refine iteT ?_
    rw [bok (nekk h2), bok e1]
    rw [lco_flat L ds _ (fun e he => h e (List.mem_cons_of_mem _ he)) (by simp at hl ⊢; omega)]
    simp [List.flatMap_cons]
/-! ### statements -/
theorem s_seq {f g : SS} (h : f ρ st = .nx ρ' st1) {r : RS} (h2 : g ρ' st1 = r) : sSeq f g ρ st = r := by unfold sSeq; rw [h]; exact h2
theorem s_seqR {f g : SS} (h : f ρ st = .rt d st1) : sSeq f g ρ st = .rt d st1 := by unfold sSeq; rw [h]
theorem s_seqX {f g : SS} {cn : Str} (h : f ρ st = .exc cn as ρ' st1) : sSeq f g ρ st = .exc cn as ρ' st1 := by unfold sSeq; rw [h]
theorem s_skip : sSkip ρ st = .nx ρ st := rfl
theorem s_set {i : Nat} {f : Env' → M RV} {s : SV} (h : f ρ st = .ok r st1) (hs : slot r = some s) (e : ρ.set i s = ρ') : sSet i f ρ st = .nx ρ' st1 := by unfold sSet thenS; rw [h]; dsimp only; rw [hs]; dsimp only; rw [e]
theorem s_ret {f : Env' → M RV} (h : kp f ρ st = .ok d st1) : sRet f ρ st = .rt d st1 := by unfold sRet thenS; rw [h]
theorem s_drop {f : Env' → M RV} (h : f ρ st = .ok r st1) : sDrop f ρ st = .nx ρ st1 := by unfold sDrop thenS; rw [h]
theorem s_ifT {t : Env' → M Bool} {f g : SS} {z : RS} (h : t ρ st = .ok true st1) (h1 : f ρ st1 = z) : sIfS t f g ρ st = z := by unfold sIfS thenS; rw [h]; dsimp only; rw [if_pos rfl]; exact h1
theorem s_ifF {t : Env' → M Bool} {f g : SS} {z : RS} (h : t ρ st = .ok false st1) (h1 : g ρ st1 = z) : sIfS t f g ρ st = z := by unfold sIfS thenS; rw [h]; dsimp only; rw [if_neg Bool.false_ne_true]; exact h1
theorem s_for {it : Env' → M (List D)} {g : D → Env' → Option Env'} {f : SS} {z : RS} (h : it ρ st = .ok ds st1) (h1 : sForL g f ds ρ st1 = z) : sFor it g f ρ st = z := by unfold sFor thenS; rw [h]; exact h1
theorem s_frz {is : List Nat} {f : SS} {z : RS} (h : is.foldl (fun ρ i => ρ.modify i thaw) ρ = ρ') (h1 : f ρ' st = z) : sFrz is f ρ st = z := by unfold sFrz; rw [h]; exact h1
theorem s_raise {n : Nat} {g : Env' → M (List D)} (h : g ρ st = .ok as st1) (hl : as.length = n) : sRaise x n g ρ st = .exc x as ρ st1 := by unfold sRaise thenS; rw [h]; dsimp only; rw [if_pos hl]
theorem l_nil {g : D → Env' → Option Env'} {f : SS} : sForL g f [] ρ st = .nx ρ st := rfl
theorem l_nx {g : D → Env' → Option Env'} {f : SS} {z : RS} (h : g d ρ = some ρ1) (h1 : f ρ1 st = .nx ρ2 st1) (h2 : sForL g f ds ρ2 st1 = z) : sForL g f (d :: ds) ρ st = z := by unfold sForL; rw [h]; dsimp only; rw [h1]; exact h2
theorem l_rt {g : D → Env' → Option Env'} {f : SS} (h : g d ρ = some ρ1) (h1 : f ρ1 st = .rt a st1) : sForL g f (d :: ds) ρ st = .rt a st1 := by unfold sForL; rw [h]; dsimp only; rw [h1]
theorem f_rt {n : Nat} {body : SS} (hρ : ds.map SV.val ++ List.replicate (n - ds.length) SV.un = ρ) (h : body ρ st = .rt d st1) : semF n body ds st = .ok d st1 := by unfold semF; rw [hρ, h]
theorem f_nx {n : Nat} {body : SS} (hρ : ds.map SV.val ++ List.replicate (n - ds.length) SV.un = ρ) (h : body ρ st = .nx ρ' st1) : semF n body ds st = .ok .non st1 := by unfold semF; rw [hρ, h]
theorem f_exc {n : Nat} {body : SS} {cn : Str} (hρ : ds.map SV.val ++ List.replicate (n - ds.length) SV.un = ρ) (h : body ρ st = .exc cn as ρ' st1) : semF n body ds st = .exc cn as st1 := by unfold semF; rw [hρ, h]
/-! ### errors passed on -/
theorem x_cons1 {f : Env' → M D} {g : Env' → M (List D)} {cn : Str} (h : f ρ st = .exc cn as st1) : sCons f g ρ st = .exc cn as st1 := by unfold sCons M.bind; rw [h]
theorem x_cons2 {f : Env' → M D} {g : Env' → M (List D)} {cn : Str} (h : f ρ st = .ok d st1) (h2 : g ρ st1 = .exc cn as st2) : sCons f g ρ st = .exc cn as st2 := by unfold sCons M.bind; rw [h]; dsimp only; rw [h2]
theorem x_kp {f : Env' → M RV} {cn : Str} (h : f ρ st = .exc cn as st1) : kp f ρ st = .exc cn as st1 := by unfold kp M.bind; rw [h]
theorem x_rd {f : Env' → M RV} {cn : Str} (h : f ρ st = .exc cn as st1) : rd f ρ st = .exc cn as st1 := by unfold rd M.bind; rw [h]
theorem x_fn {F : List D → M D} {g : Env' → M (List D)} {cn : Str} (h : g ρ st = .ok bs st1) (h2 : F bs st1 = .exc cn as st2) : sFn F g ρ st = .exc cn as st2 := by unfold sFn M.bind; rw [h]; dsimp only; rw [h2]
theorem x_fnD {F : List D → M D} {dd : List D} {g : Env' → M (List D)} {cn : Str} (h : g ρ st = .ok bs st1) (h2 : F (bs ++ dd) st1 = .exc cn as st2) : sFnD F dd g ρ st = .exc cn as st2 := by unfold sFnD M.bind; rw [h]; dsimp only; rw [h2]
theorem x_lst {g : Env' → M (List D)} {cn : Str} (h : g ρ st = .exc cn as st1) : sLst g ρ st = .exc cn as st1 := by unfold sLst M.bind; rw [h]
theorem x_set {i : Nat} {f : Env' → M RV} {cn : Str} (h : f ρ st = .exc cn as st1) : sSet i f ρ st = .exc cn as ρ st1 := by unfold sSet thenS; rw [h]
theorem x_ret {f : Env' → M RV} {cn : Str} (h : kp f ρ st = .exc cn as st1) : sRet f ρ st = .exc cn as ρ st1 := by unfold sRet thenS; rw [h]
theorem x_drop {f : Env' → M RV} {cn : Str} (h : f ρ st = .exc cn as st1) : sDrop f ρ st = .exc cn as ρ st1 := by unfold sDrop thenS; rw [h]
theorem x_if {t : Env' → M Bool} {f g : SS} {cn : Str} (h : t ρ st = .exc cn as st1) : sIfS t f g ρ st = .exc cn as ρ st1 := by unfold sIfS thenS; rw [h]
theorem x_tru {f : Env' → M RV} {cn : Str} (h : f ρ st = .exc cn as st1) : sTru f ρ st = .exc cn as st1 := by unfold sTru M.bind; rw [h]
theorem x_not {f : Env' → M Bool} {cn : Str} (h : f ρ st = .exc cn as st1) : sNotT f ρ st = .exc cn as st1 := by unfold sNotT M.bind; rw [h]
/-! ### try -/
theorem s_try {sub : Str → Str → Option Bool} {body : SS} {hs : List Hc} {z : RS} (h : body ρ st = z) (hz : ∀ c as ρ1 st1, z ≠ .exc c as ρ1 st1) : sTry sub body hs ρ st = z := by
  unfold sTry
  rw [h]
  cases z with
  | exc c as ρ1 st1 => exact absurd rfl (hz c as ρ1 st1)
  | _ => rfl
theorem s_tryX {sub : Str → Str → Option Bool} {body : SS} {hs : List Hc} {cn : Str} {z : RS} (h : body ρ st = .exc cn as ρ' st1) (h1 : sHs sub cn as hs ρ' st1 = z) : sTry sub body hs ρ st = z := by unfold sTry; rw [h]; exact h1
theorem h_no {sub : Str → Str → Option Bool} {h : Hc} {hs : List Hc} {cn : Str} {z : RS} (e : subH sub cn h = some false) (h1 : sHs sub cn as hs ρ st = z) : sHs sub cn as (h :: hs) ρ st = z := by unfold sHs; rw [e]; exact h1
theorem h_yes {sub : Str → Str → Option Bool} {h : Hc} {hs : List Hc} {cn : Str} {z : RS} (e : subH sub cn h = some true) (hi : inR h.i ρ = true) (h1 : endS h.i (h.m cn as (unset h.i ρ) st) = z) : sHs sub cn as (h :: hs) ρ st = z := by unfold sHs; rw [e]; dsimp only; rw [if_pos hi]; exact h1
end
end Ev
/-! What a repr needs. -/
namespace Ev
open PySem
theorem toS_len : ∀ k : Fin 203, ((toString ((k.val : Int) - 101) : String) : Str).length ≤ 4 := by decide +kernel
theorem toS_le {i : Int} (h1 : -101 ≤ i) (h2 : i ≤ 101) : ((toString i : String) : Str).length ≤ 4 := by
  have h := toS_len ⟨(i + 101).toNat, by omega⟩
  have e : (((i + 101).toNat : Nat) : Int) - 101 = i := by omega
  rw [e] at h
  exact h
mutual
def bd : D → Nat
  | .int i => if -101 ≤ i ∧ i ≤ 101 then 4 else if i.natAbs.log2 < 1920 then 1921 else sizeLine + 1
  | .bl _ => 5
  | .non => 4
  | .str x => (PySem.reprText x).length
  | .tup ds => bds ds + 4
  | .lst ds => bds ds + 4
  | _ => sizeLine + 1
def bds : List D → Nat
  | [] => 0
  | d :: ds => bd d + 2 + bds ds
end
theorem log_small {i : Int} (h1 : -101 ≤ i) (h2 : i ≤ 101) : i.natAbs.log2 < 1920 := by
  by_cases h : i.natAbs = 0
  · rw [h]; decide
  · have : i.natAbs.log2 < 7 := (Nat.log2_lt h).2 (by have : i.natAbs ≤ 101 := by omega
                                                      omega)
    omega
theorem sep_len (k : Nat) : ((if k > 0 then ", " else "" : String) : Str).length ≤ 2 := by
  split
  · exact Nat.le_refl _
  · exact Nat.zero_le _
theorem textFrom_le : ∀ (ts : List Str) (k : Nat) (acc : Str), (textFrom k acc ts).length ≤ acc.length + (ts.map fun t => t.length + 2).sum
  | [], k, acc => by show acc.length ≤ acc.length + _; omega
  | t :: r, k, acc => by
    have ih := textFrom_le r (k + 1) (acc ++ (if k > 0 then ", " else "" : String) ++ t)
    have e : (acc ++ (if k > 0 then ", " else "" : String) ++ t).length ≤ acc.length + 2 + t.length := by
      rw [strLen_append, strLen_append]
      have := sep_len k
      omega
    show (textFrom (k + 1) (acc ++ (if k > 0 then ", " else "" : String) ++ t) r).length ≤ _
    rw [List.map_cons, List.sum_cons]
    exact Nat.le_trans ih (by omega)
theorem listText_le (ts : List Str) : (listText ts).length ≤ (ts.map fun t => t.length + 2).sum + 4 := by
  unfold listText
  rw [strLen_append]
  have h := textFrom_le ts 0 "["
  have e1 : (("[" : String) : Str).length = 1 := rfl
  have e2 : (("]" : String) : Str).length = 1 := rfl
  rw [e1] at h
  rw [e2]
  omega
theorem join_le : ∀ ts : List Str, (Str.join ", " ts).length ≤ (ts.map fun t => t.length + 2).sum
  | [] => Nat.zero_le _
  | [x] => by show x.length ≤ _; simp
  | x :: y :: r => by
    have ih := join_le (y :: r)
    show (x ++ ", " ++ Str.join ", " (y :: r)).length ≤ _
    have e2 : ((", " : String) : Str).length = 2 := rfl
    rw [strLen_append, strLen_append, e2, List.map_cons, List.sum_cons]
    omega
theorem tupleText_le (ts : List Str) : (tupleText ts).length ≤ (ts.map fun t => t.length + 2).sum + 4 := by
  unfold tupleText
  rw [strLen_append, strLen_append]
  have h := join_le ts
  have e1 : (("(" : String) : Str).length = 1 := rfl
  have e2 : ((if ts.length == 1 then ",)" else ")" : String) : Str).length ≤ 2 := by
    split
    · exact Nat.le_refl _
    · decide
  rw [e1]
  omega
mutual
theorem bd_ok : ∀ d : D, bd d ≤ sizeLine → d.py.showable = true ∧ d.py.shown.length ≤ bd d
  | .int i, h => by
    unfold bd at h ⊢
    by_cases hi : -101 ≤ i ∧ i ≤ 101
    · rw [if_pos hi]
      refine ⟨?_, toS_le hi.1 hi.2⟩
      unfold D.py PyData.showable
      exact decide_eq_true (log_small hi.1 hi.2)
    · rw [if_neg hi] at h ⊢
      by_cases hj : i.natAbs.log2 < 1920
      · rw [if_pos hj]
        refine ⟨?_, PyProof.Rows.int_text_len_1921 hj⟩
        unfold D.py PyData.showable
        exact decide_eq_true hj
      · rw [if_neg hj] at h
        omega
  | .bl b, _ => by
    unfold bd D.py PyData.showable PyData.shown
    exact ⟨rfl, by cases b <;> decide⟩
  | .non, _ => by
    unfold bd D.py PyData.showable PyData.shown
    exact ⟨rfl, by decide⟩
  | .str x, _ => by
    unfold bd D.py PyData.showable PyData.shown
    exact ⟨rfl, Nat.le_refl _⟩
  | .tup ds, h => by
    unfold bd at h ⊢
    have q := bds_ok ds (by omega)
    unfold D.py PyData.showable PyData.shown
    exact ⟨q.1, Nat.le_trans (tupleText_le _) (by omega)⟩
  | .lst ds, h => by
    unfold bd at h ⊢
    have q := bds_ok ds (by omega)
    unfold D.py PyData.showable PyData.shown
    exact ⟨q.1, Nat.le_trans (listText_le _) (by omega)⟩
  | .cell k, h => by
    unfold bd at h
    omega
  | .ty k, h => by
    unfold bd at h
    omega
theorem bds_ok : ∀ ds : List D, bds ds ≤ sizeLine → PyData.showableAll (D.pys ds) = true ∧ ((PyData.shownAll (D.pys ds)).map fun t => t.length + 2).sum ≤ bds ds
  | [], _ => by
    unfold D.pys PyData.showableAll PyData.shownAll bds
    exact ⟨rfl, Nat.le_refl _⟩
  | d :: ds, h => by
    unfold bds at h ⊢
    have a := bd_ok d (by omega)
    have b := bds_ok ds (by omega)
    unfold D.pys PyData.showableAll PyData.shownAll
    rw [List.map_cons, List.sum_cons]
    exact ⟨by rw [a.1, b.1]; rfl, by omega⟩
end
theorem repr_lst {ds : List D} (h : bd (.lst ds) ≤ sizeLine) (hp : D.pl 60 (.lst ds) = true) : ∃ s, dRepr [.lst ds] = some (.per (.str s)) := by
  have q := bd_ok _ h
  refine ⟨(D.lst ds).py.shown, ?_⟩
  unfold dRepr
  dsimp only
  rw [if_pos (by rw [hp, q.1, decide_eq_true (Nat.le_trans q.2 h)]; rfl)]
  rfl
theorem repr_tup {ds : List D} (h : bd (.tup ds) ≤ sizeLine) (hp : D.pl 60 (.tup ds) = true) : ∃ s, dRepr [.tup ds] = some (.per (.str s)) := by
  have q := bd_ok _ h
  refine ⟨(D.tup ds).py.shown, ?_⟩
  unfold dRepr
  dsimp only
  rw [if_pos (by rw [hp, q.1, decide_eq_true (Nat.le_trans q.2 h)]; rfl)]
  rfl
theorem repr_int {i : Int} (h : i.natAbs.log2 < 1920) : ∃ s, dRepr [.int i] = some (.per (.str s)) := ⟨((toString i : String) : Str), by unfold dRepr; dsimp only; rw [if_pos h]; rfl⟩
theorem pls_ints : ∀ (l : Nat) (ns : List Int), D.pls l (ns.map .int) = true
  | l, [] => by simp [D.pls]
  | l, n :: r => by
    have h : D.pl l (.int n) = true := by cases l <;> rfl
    simp only [List.map_cons, D.pls, h, pls_ints l r, Bool.and_self]
theorem bds_ints : ∀ (ns : List Int), (∀ n ∈ ns, -101 ≤ n ∧ n ≤ 101) → bds (ns.map .int) ≤ 6 * ns.length
  | [], _ => by simp [bds]
  | n :: r, h => by
    have q := bds_ints r (fun m hm => h m (List.mem_cons_of_mem _ hm))
    have e : bd (.int n) = 4 := by unfold bd; rw [if_pos (h n (by simp))]
    simp only [List.map_cons, bds, e, List.length_cons]
    omega
/-- how many places a number has -/
def lg (x : Int) (k : Nat) : Prop := x.natAbs < 2 ^ k
theorem lg_one : lg 1 1 := by unfold lg; decide
theorem lg_mul {x y : Int} {a b : Nat} (h : lg x a) (g : lg y b) : lg (x * y) (a + b) := by
  unfold lg at *
  rw [Int.natAbs_mul, Nat.pow_add]
  exact Nat.mul_lt_mul'' h g
theorem lg_log {x : Int} {k : Nat} (h : lg x k) : x.natAbs.log2 ≤ k := by
  by_cases h0 : x.natAbs = 0
  · rw [h0]
    exact Nat.zero_le _
  · exact Nat.le_of_lt ((Nat.log2_lt h0).2 h)
theorem lg_mono {x : Int} {a b : Nat} (h : lg x a) (g : a ≤ b) : lg x b := Nat.lt_of_lt_of_le h (Nat.pow_le_pow_right (by omega) g)
theorem lg_add {x y : Int} {a : Nat} (h : lg x a) (g : lg y a) : lg (x + y) (a + 1) := by
  unfold lg at *
  rw [Nat.pow_succ]
  omega
theorem mulA_lg {x y : Int} {a b : Nat} (h : lg x a) (g : lg y b) (hk : a + b < 1000000) : dMulA (.int x) (.int y) = some (.per (.int (x * y))) := by
  have h1 := lg_log h
  have h2 := lg_log g
  unfold dMulA
  dsimp only
  rw [if_pos (Nat.lt_of_le_of_lt (Nat.add_le_add h1 h2) hk)]
  rfl
theorem lg_sum {k : Nat} : ∀ (ns : List Int) , (∀ n ∈ ns, lg n k) → lg ns.sum (k + ns.length)
  | [], _ => by
    show (0 : Int).natAbs < 2 ^ (k + 0)
    exact Nat.pow_pos (by omega)
  | n :: r, h => by
    have q := lg_sum r (fun m hm => h m (List.mem_cons_of_mem _ hm))
    have q2 := lg_mono (h n (by simp)) (show k ≤ k + r.length by omega)
    rw [List.sum_cons]
    exact lg_mono (lg_add q2 q) (by simp; omega)
end Ev
/-! Runs of meanings, one step at a time by their shape alone. -/
namespace Ev
open PySem
section
variable {ρ ρ' ρ1 ρ2 : Env'} {st st1 st2 st3 : Store} {a b c d : D} {r r2 : RV} {as bs ds es : List D} {x : Str} {k k' : Bool} {z z' : RS} {α : Type}
/-- one of two -/
def csel {β : Type} (k : Bool) (x y : β) : β := cond k x y
def nxt (z : RS) (g : SS) : RS := match z with
  | .nx ρ' st' => g ρ' st'
  | r => r
theorem a_seq {f g : SS} (h : f ρ st = z) (h2 : nxt z g = z') : sSeq f g ρ st = z' := by
  unfold sSeq
  rw [h]
  exact h2
theorem n_nx {g : SS} (h : g ρ st = z) : nxt (.nx ρ st) g = z := h
theorem n_rt {g : SS} : nxt (.rt d st) g = .rt d st := rfl
theorem n_exc {g : SS} {cn : Str} : nxt (.exc cn as ρ st) g = .exc cn as ρ st := rfl
theorem n_bk {g : SS} : nxt (.bk ρ st) g = .bk ρ st := rfl
theorem n_ct {g : SS} : nxt (.ct ρ st) g = .ct ρ st := rfl
theorem a_frz {is : List Nat} {f : SS} (h : f (is.foldl (fun ρ i => ρ.modify i thaw) ρ) st = z) : sFrz is f ρ st = z := h
theorem a_if {t : Env' → M Bool} {f g : SS} (h : t ρ st = .ok k st1) (h1 : csel k f g ρ st1 = z) : sIfS t f g ρ st = z := by
  unfold sIfS thenS
  rw [h]
  cases k <;> exact h1
theorem c_T {f g : SS} (hk : k = true) (h : f ρ st = z) : csel k f g ρ st = z := by subst hk; exact h
theorem c_F {f g : SS} (hk : k = false) (h : g ρ st = z) : csel k f g ρ st = z := by subst hk; exact h
theorem a_ifM {t : Env' → M Bool} {f g : Env' → M α} {q : R α} (h : t ρ st = .ok k st1) (h1 : csel k (f ρ) (g ρ) st1 = q) : sIf t f g ρ st = q := by
  unfold sIf M.bind
  rw [h]
  cases k <;> exact h1
theorem c_TM {f g : M α} {q : R α} (hk : k = true) (h : f st = q) : csel k f g st = q := by subst hk; exact h
theorem c_FM {f g : M α} {q : R α} (hk : k = false) (h : g st = q) : csel k f g st = q := by subst hk; exact h
theorem m_pure {y : α} : M.pure y st = .ok y st := rfl
theorem a_and {f g : Env' → M Bool} {q : R Bool} (h : f ρ st = .ok k st1) (h1 : csel k (g ρ) (M.pure false) st1 = q) : sAndT f g ρ st = q := by
  unfold sAndT M.bind
  rw [h]
  cases k <;> exact h1
theorem a_or {f g : Env' → M Bool} {q : R Bool} (h : f ρ st = .ok k st1) (h1 : csel k (M.pure true) (g ρ) st1 = q) : sOrT f g ρ st = q := by
  unfold sOrT M.bind
  rw [h]
  cases k <;> exact h1
theorem a_andV {f g : Env' → M RV} {q : R RV} (h : f ρ st = .ok r st1) (ht : tru st1 r.d = some k) (h1 : csel k (g ρ) (M.pure r) st1 = q) : sAndV f g ρ st = q := by
  unfold sAndV M.bind M.opt'
  rw [h]
  dsimp only
  rw [ht]
  cases k <;> exact h1
theorem a_orV {f g : Env' → M RV} {q : R RV} (h : f ρ st = .ok r st1) (ht : tru st1 r.d = some k) (h1 : csel k (M.pure r) (g ρ) st1 = q) : sOrV f g ρ st = q := by
  unfold sOrV M.bind M.opt'
  rw [h]
  dsimp only
  rw [ht]
  cases k <;> exact h1
theorem a_not {f : Env' → M Bool} (h : f ρ st = .ok k st1) (hk : (!k) = k') : sNotT f ρ st = .ok k' st1 := by
  rw [← hk]
  exact t_not h
theorem a_notV {f : Env' → M RV} (h : f ρ st = .ok r st1) (ht : tru st1 r.d = some k) (hk : (!k) = k') : sNotV f ρ st = .ok (.per (.bl k')) st1 := by
  rw [← hk]
  exact w_not h ht
theorem nT : (!true) = false := rfl
theorem nF : (!false) = true := rfl
def seqD : D → Option (List D)
  | .lst ds => some ds
  | .tup ds => some ds
  | _ => none
theorem a_it {f : Env' → M D} (h : f ρ st = .ok d st1) (hd : seqD d = some ds) : itS f ρ st = .ok ds st1 := by
  cases d <;> first | (cases hd; first | exact i_lst h | exact i_tup h) | cases hd
theorem a_r1 {g : Env' → M (List D)} {j : Int} (h : g ρ st = .ok [.int j] st1) (h1 : -1000000000000 ≤ j) (h2 : j ≤ 1000000000000) : itR1 g ρ st = .ok (rngD 0 j.toNat) st1 := i_r1 h (bnd_lt h1 h2)
theorem a_r2 {g : Env' → M (List D)} {i j : Int} (h : g ρ st = .ok [.int i, .int j] st1) (h1 : -1000000000000 ≤ i) (h2 : i ≤ 1000000000000) (h3 : -1000000000000 ≤ j) (h4 : j ≤ 1000000000000) : itR2 g ρ st = .ok (rngD i (j - i).toNat) st1 := i_r2 h (bnd_lt h1 h2) (bnd_lt h3 h4)
theorem a_set {i : Nat} {f : Env' → M RV} {s : SV} (h : f ρ st = .ok r st1) (hs : slot r = some s) : sSet i f ρ st = .nx (ρ.set i s) st1 := s_set h hs rfl
theorem a_par {i j : Nat} {g : Env' → M (List D)} (h : g ρ st = .ok [a, b] st1) : sPar i j g ρ st = .nx ((ρ.set i (.val a)).set j (.val b)) st1 := by
  unfold sPar thenS
  rw [h]
theorem a_par3 {i j k : Nat} {g : Env' → M (List D)} (h : g ρ st = .ok [a, b, c] st1) : sPar3 i j k g ρ st = .nx (((ρ.set i (.val a)).set j (.val b)).set k (.val c)) st1 := by
  unfold sPar3 thenS
  rw [h]
theorem a_asg {f : Env' → M D} {g : D → Env' → Option Env'} (h : f ρ st = .ok d st1) (hg : g d ρ = some ρ') : sAsgT f g ρ st = .nx ρ' st1 := by
  unfold sAsgT thenS
  rw [h]
  dsimp only
  rw [hg]
theorem a_kpc {it : Env' → M (List D)} {g : D → Env' → Option Env'} {c : Env' → M Bool} {el : Env' → M D} {vs : List Nat} (h : it ρ st = .ok ds st1) (h1 : sLcL g c el (wipeE ρ vs) ds [] st1 = .ok es st2) : kp (sLc it g c el vs) ρ st = .ok (.lst es) st2 := w_kpf (w_lc h h1)
end
theorem lc_eq {ρ ρ' : Env'} {g : D → Env' → Option Env'} {c : Env' → M Bool} {el : Env' → M D} {ds acc : List D} {st : Store} {q : R (List D)} (h : sLcL g c el ρ' ds acc st = q) (e : ρ = ρ') : sLcL g c el ρ ds acc st = q := by rw [e]; exact h
theorem lo_eq {ρ ρ' : Env'} {g g1 : D → Env' → Option Env'} {c c1 : Env' → M Bool} {it1 : Env' → M (List D)} {el : Env' → M D} {vs : List Nat} {ds acc : List D} {st : Store} {q : R (List D)} (h : sLcO g c it1 g1 c1 el vs ρ' ds acc st = q) (e : ρ = ρ') : sLcO g c it1 g1 c1 el vs ρ ds acc st = q := by rw [e]; exact h
theorem fo_eq {ρ ρ' : Env'} {g : D → Env' → Option Env'} {f : SS} {ds : List D} {st : Store} {q : RS} (h : sForL g f ds ρ' st = q) (e : ρ = ρ') : sForL g f ds ρ st = q := by rw [e]; exact h
def kpD : RV → Option D
  | .per d => some d
  | .fr ds => some (.lst ds)
  | .bor _ => none
theorem a_kp {ρ : Env'} {st st1 : Store} {r : RV} {d : D} {f : Env' → M RV} (h : f ρ st = .ok r st1) (e : kpD r = some d) : kp f ρ st = .ok d st1 := by
  cases r with
  | per x => cases e; exact w_kp h
  | fr ds => cases e; exact w_kpf h
  | bor ds => cases e
theorem w_psr {ρ : Env'} {st st1 : Store} {r : RV} {i : Int} {f : Env' → M RV} (h : f ρ st = .ok r st1) (e : r.d = .int i) : sPS (rd f) ρ st = .ok (some i) st1 := w_ps (by rw [← e]; exact w_rd h)
/-! ### steps that words decide -/
theorem eqsT {a b : D} {x y : Str} (ha : a = .str x) (hb : b = .str y) (h : x = y) : dEq a b = some (.per (.bl true)) := by subst ha hb; simp [dEq, yes, h]
theorem eqsF {a b : D} {x y : Str} (ha : a = .str x) (hb : b = .str y) (h : ¬ x = y) : dEq a b = some (.per (.bl false)) := by subst ha hb; simp [dEq, yes, h]
theorem inT {a b : D} {x : Str} {ws : List D} (ha : a = .str x) (hb : b = .tup ws) (h : (D.pl 60 (.str x) && D.pls 59 ws && ws.any fun z => D.eqv z (.str x)) = true) : dIn a b = some (.per (.bl true)) := by
  subst ha hb
  simp only [Bool.and_eq_true] at h
  unfold dIn dInB
  dsimp only
  rw [if_pos h.1, h.2]
  rfl
theorem inF {a b : D} {x : Str} {ws : List D} (ha : a = .str x) (hb : b = .tup ws) (h : (D.pl 60 (.str x) && D.pls 59 ws && !ws.any fun z => D.eqv z (.str x)) = true) : dIn a b = some (.per (.bl false)) := by
  subst ha hb
  simp only [Bool.and_eq_true, Bool.not_eq_true'] at h
  unfold dIn dInB
  dsimp only
  rw [if_pos h.1, h.2]
  rfl
theorem ninT {a b : D} {x : Str} {ws : List D} (ha : a = .str x) (hb : b = .tup ws) (h : (D.pl 60 (.str x) && D.pls 59 ws && !ws.any fun z => D.eqv z (.str x)) = true) : dNotIn a b = some (.per (.bl true)) := by
  subst ha hb
  simp only [Bool.and_eq_true, Bool.not_eq_true'] at h
  unfold dNotIn dInB
  dsimp only
  rw [if_pos h.1, h.2]
  rfl
theorem ninF {a b : D} {x : Str} {ws : List D} (ha : a = .str x) (hb : b = .tup ws) (h : (D.pl 60 (.str x) && D.pls 59 ws && ws.any fun z => D.eqv z (.str x)) = true) : dNotIn a b = some (.per (.bl false)) := by
  subst ha hb
  simp only [Bool.and_eq_true] at h
  unfold dNotIn dInB
  dsimp only
  rw [if_pos h.1, h.2]
  rfl
theorem lv {P : Nat → Prop} {k : Nat} (h : ∀ l, P (l + k)) {m : Nat} (hm : k ≤ m) : P m := by
  obtain ⟨l, rfl⟩ : ∃ l, m = l + k := ⟨m - k, by omega⟩
  exact h l
end Ev
/-! What is shown is a text of signs. -/
namespace Ev
open PySem
theorem char_lt (c : Char) : c.toNat < 0x110000 := by
  have h := c.valid
  show c.val.toNat < _
  rcases h with h | ⟨_, h⟩
  · have : c.val.toNat < 0xd800 := h
    omega
  · exact h
theorem strOk_of (x : Str) : PyData.strOk x = true ↔ ∀ c ∈ x.cps.toList, c < 0x110000 := by
  unfold PyData.strOk
  rw [Array.all_eq_true_iff_forall_mem]
  simp
theorem strOk_lit (s : String) : PyData.strOk (Str.ofString s) = true := by
  rw [strOk_of, Str.ofString_eq_toList]
  intro c hc
  obtain ⟨d, _, rfl⟩ := List.mem_map.mp (by simpa using hc)
  exact char_lt d
theorem strOk_app {a b : Str} (h : PyData.strOk a = true) (g : PyData.strOk b = true) : PyData.strOk (a ++ b) = true := by
  rw [strOk_of] at *
  intro c hc
  have e : (a ++ b).cps = a.cps ++ b.cps := rfl
  rw [e, Array.toList_append, List.mem_append] at hc
  exact hc.elim (h c) (g c)
theorem rch_ok (q c : Nat) (hc : c < 0x110000) : ∀ x ∈ Builtin.Str.reprChar q c, x < 0x110000 := by
  have hx : ∀ w : Nat, ∀ x ∈ (List.replicate (w - ((Nat.toDigits 16 c).map Char.toNat).length) 48 ++ (Nat.toDigits 16 c).map Char.toNat), x < 0x110000 := by
    intro w x hx
    rcases List.mem_append.mp hx with h | h
    · rw [List.eq_of_mem_replicate h]; decide
    · obtain ⟨d, _, rfl⟩ := List.mem_map.mp h
      exact char_lt d
  intro x h
  unfold Builtin.Str.reprChar at h
  dsimp only at h
  repeat' split at h
  all_goals first
    | (simp only [List.mem_cons, List.not_mem_nil, or_false] at h; omega)
    | (simp only [List.cons_append, List.nil_append, List.mem_cons] at h; rcases h with h | h | h <;> first | exact hx _ x h | omega)
theorem rtext_ok {x : Str} (h : PyData.strOk x = true) : PyData.strOk (reprText x) = true := by
  rw [strOk_of] at *
  have hq : reprQuote x < 0x110000 := by unfold reprQuote; split <;> decide
  have key : ∀ (l : List Nat) (acc : Array Nat), (∀ c ∈ l, c < 0x110000) → (∀ c ∈ acc.toList, c < 0x110000) → ∀ c ∈ (l.foldl (fun out c => out ++ (Builtin.Str.reprChar (reprQuote x) c).toArray) acc).toList, c < 0x110000 := by
    intro l
    induction l with
    | nil => exact fun acc _ h => h
    | cons d l ih =>
      intro acc hl ha
      rw [List.foldl_cons]
      refine ih _ (fun c hc => hl c (List.mem_cons_of_mem _ hc)) fun c hc => ?_
      rw [Array.toList_append, List.mem_append] at hc
      rcases hc with hc | hc
      · exact ha c hc
      · exact rch_ok _ d (hl d (by simp)) c (by simpa using hc)
  intro c hc
  have e : (reprText x).cps.toList = (x.cps.toList.foldl (fun out c => out ++ (Builtin.Str.reprChar (reprQuote x) c).toArray) #[reprQuote x]).toList ++ [reprQuote x] := by
    unfold reprText
    rw [Array.toList_push, ← Array.foldl_toList]
  rw [e, List.mem_append] at hc
  rcases hc with hc | hc
  · exact key _ _ h (fun d hd => by simp at hd; rw [hd]; exact hq) c hc
  · rw [List.mem_singleton.mp hc]; exact hq
theorem tfrom_ok : ∀ (ts : List Str) (k : Nat) (acc : Str), PyData.strOk acc = true → (∀ t ∈ ts, PyData.strOk t = true) → PyData.strOk (textFrom k acc ts) = true
  | [], _, acc, h, _ => h
  | t :: ts, k, acc, h, g => tfrom_ok ts (k + 1) _ (strOk_app (strOk_app h (by split <;> exact strOk_lit _)) (g t (by simp))) fun s hs => g s (List.mem_cons_of_mem _ hs)
theorem join_ok : ∀ (ts : List Str), (∀ t ∈ ts, PyData.strOk t = true) → PyData.strOk (Str.join ", " ts) = true
  | [], _ => by decide +kernel
  | [x], g => g x (by simp)
  | x :: y :: r, g => by
    show PyData.strOk (x ++ ", " ++ Str.join ", " (y :: r)) = true
    exact strOk_app (strOk_app (g x (by simp)) (strOk_lit _)) (join_ok (y :: r) fun s hs => g s (List.mem_cons_of_mem _ hs))
mutual
theorem shown_ok : ∀ (l : Nat) (d : D), D.pl l d = true → PyData.strOk d.py.shown = true
  | _, .non, _ => by unfold D.py PyData.shown; exact strOk_lit _
  | _, .bl b, _ => by unfold D.py PyData.shown; cases b <;> exact strOk_lit _
  | _, .int i, _ => by unfold D.py PyData.shown; exact strOk_lit _
  | l, .str x, h => by
    have h : PyData.strOk x = true := by cases l <;> exact h
    unfold D.py PyData.shown
    exact rtext_ok h
  | 0, .tup _, h => by simp [D.pl] at h
  | l + 1, .tup ds, h => by
    simp only [D.pl] at h
    unfold D.py PyData.shown
    unfold tupleText
    exact strOk_app (strOk_app (strOk_lit _) (join_ok _ (showns_ok l ds h))) (by split <;> exact strOk_lit _)
  | 0, .lst _, h => by simp [D.pl] at h
  | l + 1, .lst ds, h => by
    simp only [D.pl] at h
    unfold D.py PyData.shown
    unfold listText
    exact strOk_app (tfrom_ok _ 0 _ (strOk_lit _) (showns_ok l ds h)) (strOk_lit _)
  | l, .cell _, h => by cases l <;> simp [D.pl] at h
  | l, .ty _, h => by cases l <;> simp [D.pl] at h
theorem showns_ok : ∀ (l : Nat) (ds : List D), D.pls l ds = true → ∀ t ∈ PyData.shownAll (D.pys ds), PyData.strOk t = true
  | _, [], _, t, ht => by simp [D.pys, PyData.shownAll] at ht
  | l, d :: ds, h, t, ht => by
    simp only [D.pls, Bool.and_eq_true] at h
    simp only [D.pys, PyData.shownAll, List.mem_cons] at ht
    rcases ht with e | ht
    · rw [e]; exact shown_ok l d h.1
    · exact showns_ok l ds h.2 t ht
end
end Ev
namespace K52
open PySem PySem.Spec PyProof.Rows L2 Ev M52
def d0 : Df := ⟨"is_whole", defArgs (st 10), defBody (st 10), defScope (st 10), nms.getD 0 [], [nm "value"], L0, [], false, false, noLT, [], [], []⟩
def d1 : Df := ⟨"is_below", defArgs (st 11), defBody (st 11), defScope (st 11), nms.getD 1 [], [nm "value", nm "bound"], L1, [], false, false, noLT, [], [], []⟩
def d2 : Df := ⟨"need_many", defArgs (st 12), defBody (st 12), defScope (st 12), nms.getD 2 [], [nm "value"], L2, [], false, false, noLT, [], [], []⟩
def d3 : Df := ⟨"power", defArgs (st 13), defBody (st 13), defScope (st 13), nms.getD 3 [], [nm "base", nm "times"], L3, [], false, false, noLT, [], [], []⟩
def d4 : Df := ⟨"is_content", defArgs (st 16), defBody (st 16), defScope (st 16), nms.getD 4 [], [nm "many", nm "value"], L4, [], false, false, noLT, [], [], []⟩
def d5 : Df := ⟨"need_content", defArgs (st 17), defBody (st 17), defScope (st 17), nms.getD 5 [], [nm "many", nm "value"], L5, [], false, false, noLT, [], [], []⟩
def d6 : Df := ⟨"_are_worths", defArgs (st 20), defBody (st 20), defScope (st 20), nms.getD 6 [], [nm "many", nm "value"], L6, [], false, false, noLT, [], [], []⟩
def d7 : Df := ⟨"need_worths", defArgs (st 21), defBody (st 21), defScope (st 21), nms.getD 7 [], [nm "many", nm "value"], L7, [], false, false, noLT, [], [], []⟩
def d8 : Df := ⟨"_need_total", defArgs (st 22), defBody (st 22), defScope (st 22), nms.getD 8 [], [nm "total"], L8, [], false, false, noLT, [], [], []⟩
def d9 : Df := ⟨"_product_of", defArgs (st 23), defBody (st 23), defScope (st 23), nms.getD 9 [], [nm "content", nm "worths"], L9, [], false, false, noLT, [], [], []⟩
def d10 : Df := ⟨"product_at", defArgs (st 24), defBody (st 24), defScope (st 24), nms.getD 10 [], [nm "many", nm "content", nm "worths"], L10, [], false, false, noLT, [], [], []⟩
def d11 : Df := ⟨"_orders_of", defArgs (st 25), defBody (st 25), defScope (st 25), nms.getD 11 [], [nm "row"], L11, [], false, false, noLT, [], [], []⟩
def d12 : Df := ⟨"_even_sum_of", defArgs (st 26), defBody (st 26), defScope (st 26), nms.getD 12 [], [nm "content", nm "worths", nm "unlike"], L12, [], false, false, noLT, [], [], []⟩
def d13 : Df := ⟨"even_sum", defArgs (st 27), defBody (st 27), defScope (st 27), nms.getD 13 [], [nm "many", nm "content", nm "worths", nm "unlike"], L13, [kv "unlike" (.bl false)], false, false, noLT, [], [], []⟩
def d14 : Df := ⟨"_falling_rows", defArgs (st 28), defBody (st 28), defScope (st 28), nms.getD 14 [], [nm "size", nm "total", nm "most"], L14, [], false, false, noLT, [], [], []⟩
def d15 : Df := ⟨"_worths_up_to", defArgs (st 29), defBody (st 29), defScope (st 29), nms.getD 15 [], [nm "many", nm "total"], L15, [], false, false, noLT, [], [], []⟩
def d16 : Df := ⟨"test_worths", defArgs (st 30), defBody (st 30), defScope (st 30), nms.getD 16 [], [nm "many", nm "total"], L16, [], false, false, noLT, [], [], []⟩
def d17 : Df := ⟨"_law_begin", defArgs (st 32), defBody (st 32), defScope (st 32), nms.getD 17 [], [nm "script"], L17, [], false, false, noLT, [], [], []⟩
def d18 : Df := ⟨"_law_mixed", defArgs (st 33), defBody (st 33), defScope (st 33), nms.getD 18 [], [nm "cell", nm "k"], L18, [], false, false, noLT, [], [], []⟩
def d19 : Df := ⟨"_law_draw", defArgs (st 34), defBody (st 34), defScope (st 34), nms.getD 19 [], [nm "state", nm "limit"], L19, [], false, false, noLT, [], [], []⟩
def d20 : Df := ⟨"_law_worths", defArgs (st 35), defBody (st 35), defScope (st 35), nms.getD 20 [], [nm "state", nm "n", nm "least"], L20, [], false, false, noLT, [], [], []⟩
def d21 : Df := ⟨"_law_like", defArgs (st 36), defBody (st 36), defScope (st 36), nms.getD 21 [], [nm "got", nm "due"], L21, [], false, false, noLT, [], [], []⟩
def d22 : Df := ⟨"_law_power", defArgs (st 37), defBody (st 37), defScope (st 37), nms.getD 22 [], [nm "base", nm "many_so"], L22, [], false, false, noLT, [], [], []⟩
def d23 : Df := ⟨"_law_product", defArgs (st 38), defBody (st 38), defScope (st 38), nms.getD 23 [], [nm "content", nm "worths_so"], L23, [], false, false, noLT, [], [], []⟩
def d24 : Df := ⟨"_law_orders", defArgs (st 39), defBody (st 39), defScope (st 39), nms.getD 24 [], [nm "n"], L24, [], false, false, noLT, [], [], []⟩
def d25 : Df := ⟨"_law_even", defArgs (st 40), defBody (st 40), defScope (st 40), nms.getD 25 [], [nm "content", nm "worths_so"], L25, [], false, false, noLT, [], [], []⟩
def d26 : Df := ⟨"_law_unlike", defArgs (st 41), defBody (st 41), defScope (st 41), nms.getD 26 [], [nm "content", nm "worths_so"], L26, [], false, false, noLT, [], [], []⟩
def d27 : Df := ⟨"_law_falling", defArgs (st 42), defBody (st 42), defScope (st 42), nms.getD 27 [], [nm "n", nm "total"], L27, [], false, false, noLT, [], [], []⟩
def d28 : Df := ⟨"_law_of", defArgs (st 43), defBody (st 43), defScope (st 43), nms.getD 28 [], [nm "state", nm "some"], L28, [], false, false, noLT, [], [], []⟩
def d29 : Df := ⟨"_law_asked", defArgs (st 44), defBody (st 44), defScope (st 44), nms.getD 29 [], [nm "f", nm "n", nm "content", nm "worths_so", nm "total"], L29, [], false, false, noLT, [], [], []⟩
def d30 : Df := ⟨"law", defArgs (st 45), defBody (st 45), defScope (st 45), nms.getD 30 [], [nm "script"], L30, [], false, false, noLT, [], [], []⟩
def fs : List Df := [d0, d1, d2, d3, d4, d5, d6, d7, d8, d9, d10, d11, d12, d13, d14, d15, d16, d17, d18, d19, d20, d21, d22, d23, d24, d25, d26, d27, d28, d29, d30]
theorem q0 [Hnd] (run : Nat → List D → M D) (runT : Nat → M D → M D) (k : Nat) : (cBody (conO gls d0.gx tb run runT k) ⟨d0.scope, d0.N, fun _ => true, true, d0.cl ++ cls, d0.lm⟩ d0.body).map (·.1) = some (d0.L run runT) := by kernel_rfl
theorem lok0 [Hnd] : LOk gls tb cls d0 := ⟨fun _ run runT k => q0 run runT k, fun h => (nomatch h)⟩
theorem q1 [Hnd] (run : Nat → List D → M D) (runT : Nat → M D → M D) (k : Nat) : (cBody (conO gls d1.gx tb run runT k) ⟨d1.scope, d1.N, fun _ => true, true, d1.cl ++ cls, d1.lm⟩ d1.body).map (·.1) = some (d1.L run runT) := by kernel_rfl
theorem lok1 [Hnd] : LOk gls tb cls d1 := ⟨fun _ run runT k => q1 run runT k, fun h => (nomatch h)⟩
theorem q2 [Hnd] (run : Nat → List D → M D) (runT : Nat → M D → M D) (k : Nat) : (cBody (conO gls d2.gx tb run runT k) ⟨d2.scope, d2.N, fun _ => true, true, d2.cl ++ cls, d2.lm⟩ d2.body).map (·.1) = some (d2.L run runT) := by kernel_rfl
theorem lok2 [Hnd] : LOk gls tb cls d2 := ⟨fun _ run runT k => q2 run runT k, fun h => (nomatch h)⟩
theorem q3 [Hnd] (run : Nat → List D → M D) (runT : Nat → M D → M D) (k : Nat) : (cBody (conO gls d3.gx tb run runT k) ⟨d3.scope, d3.N, fun _ => true, true, d3.cl ++ cls, d3.lm⟩ d3.body).map (·.1) = some (d3.L run runT) := by kernel_rfl
theorem lok3 [Hnd] : LOk gls tb cls d3 := ⟨fun _ run runT k => q3 run runT k, fun h => (nomatch h)⟩
theorem q4 [Hnd] (run : Nat → List D → M D) (runT : Nat → M D → M D) (k : Nat) : (cBody (conO gls d4.gx tb run runT k) ⟨d4.scope, d4.N, fun _ => true, true, d4.cl ++ cls, d4.lm⟩ d4.body).map (·.1) = some (d4.L run runT) := by kernel_rfl
theorem lok4 [Hnd] : LOk gls tb cls d4 := ⟨fun _ run runT k => q4 run runT k, fun h => (nomatch h)⟩
theorem q5 [Hnd] (run : Nat → List D → M D) (runT : Nat → M D → M D) (k : Nat) : (cBody (conO gls d5.gx tb run runT k) ⟨d5.scope, d5.N, fun _ => true, true, d5.cl ++ cls, d5.lm⟩ d5.body).map (·.1) = some (d5.L run runT) := by kernel_rfl
theorem lok5 [Hnd] : LOk gls tb cls d5 := ⟨fun _ run runT k => q5 run runT k, fun h => (nomatch h)⟩
theorem q6 [Hnd] (run : Nat → List D → M D) (runT : Nat → M D → M D) (k : Nat) : (cBody (conO gls d6.gx tb run runT k) ⟨d6.scope, d6.N, fun _ => true, true, d6.cl ++ cls, d6.lm⟩ d6.body).map (·.1) = some (d6.L run runT) := by kernel_rfl
theorem lok6 [Hnd] : LOk gls tb cls d6 := ⟨fun _ run runT k => q6 run runT k, fun h => (nomatch h)⟩
theorem q7 [Hnd] (run : Nat → List D → M D) (runT : Nat → M D → M D) (k : Nat) : (cBody (conO gls d7.gx tb run runT k) ⟨d7.scope, d7.N, fun _ => true, true, d7.cl ++ cls, d7.lm⟩ d7.body).map (·.1) = some (d7.L run runT) := by kernel_rfl
theorem lok7 [Hnd] : LOk gls tb cls d7 := ⟨fun _ run runT k => q7 run runT k, fun h => (nomatch h)⟩
theorem q8 [Hnd] (run : Nat → List D → M D) (runT : Nat → M D → M D) (k : Nat) : (cBody (conO gls d8.gx tb run runT k) ⟨d8.scope, d8.N, fun _ => true, true, d8.cl ++ cls, d8.lm⟩ d8.body).map (·.1) = some (d8.L run runT) := by kernel_rfl
theorem lok8 [Hnd] : LOk gls tb cls d8 := ⟨fun _ run runT k => q8 run runT k, fun h => (nomatch h)⟩
theorem q9 [Hnd] (run : Nat → List D → M D) (runT : Nat → M D → M D) (k : Nat) : (cBody (conO gls d9.gx tb run runT k) ⟨d9.scope, d9.N, fun _ => true, true, d9.cl ++ cls, d9.lm⟩ d9.body).map (·.1) = some (d9.L run runT) := by kernel_rfl
theorem lok9 [Hnd] : LOk gls tb cls d9 := ⟨fun _ run runT k => q9 run runT k, fun h => (nomatch h)⟩
theorem q10 [Hnd] (run : Nat → List D → M D) (runT : Nat → M D → M D) (k : Nat) : (cBody (conO gls d10.gx tb run runT k) ⟨d10.scope, d10.N, fun _ => true, true, d10.cl ++ cls, d10.lm⟩ d10.body).map (·.1) = some (d10.L run runT) := by kernel_rfl
theorem lok10 [Hnd] : LOk gls tb cls d10 := ⟨fun _ run runT k => q10 run runT k, fun h => (nomatch h)⟩
theorem q11 [Hnd] (run : Nat → List D → M D) (runT : Nat → M D → M D) (k : Nat) : (cBody (conO gls d11.gx tb run runT k) ⟨d11.scope, d11.N, fun _ => true, true, d11.cl ++ cls, d11.lm⟩ d11.body).map (·.1) = some (d11.L run runT) := by kernel_rfl
theorem lok11 [Hnd] : LOk gls tb cls d11 := ⟨fun _ run runT k => q11 run runT k, fun h => (nomatch h)⟩
theorem q12 [Hnd] (run : Nat → List D → M D) (runT : Nat → M D → M D) (k : Nat) : (cBody (conO gls d12.gx tb run runT k) ⟨d12.scope, d12.N, fun _ => true, true, d12.cl ++ cls, d12.lm⟩ d12.body).map (·.1) = some (d12.L run runT) := by kernel_rfl
theorem lok12 [Hnd] : LOk gls tb cls d12 := ⟨fun _ run runT k => q12 run runT k, fun h => (nomatch h)⟩
theorem q13 [Hnd] (run : Nat → List D → M D) (runT : Nat → M D → M D) (k : Nat) : (cBody (conO gls d13.gx tb run runT k) ⟨d13.scope, d13.N, fun _ => true, true, d13.cl ++ cls, d13.lm⟩ d13.body).map (·.1) = some (d13.L run runT) := by kernel_rfl
theorem lok13 [Hnd] : LOk gls tb cls d13 := ⟨fun _ run runT k => q13 run runT k, fun h => (nomatch h)⟩
theorem q14 [Hnd] (run : Nat → List D → M D) (runT : Nat → M D → M D) (k : Nat) : (cBody (conO gls d14.gx tb run runT k) ⟨d14.scope, d14.N, fun _ => true, true, d14.cl ++ cls, d14.lm⟩ d14.body).map (·.1) = some (d14.L run runT) := by kernel_rfl
theorem lok14 [Hnd] : LOk gls tb cls d14 := ⟨fun _ run runT k => q14 run runT k, fun h => (nomatch h)⟩
theorem q15 [Hnd] (run : Nat → List D → M D) (runT : Nat → M D → M D) (k : Nat) : (cBody (conO gls d15.gx tb run runT k) ⟨d15.scope, d15.N, fun _ => true, true, d15.cl ++ cls, d15.lm⟩ d15.body).map (·.1) = some (d15.L run runT) := by kernel_rfl
theorem lok15 [Hnd] : LOk gls tb cls d15 := ⟨fun _ run runT k => q15 run runT k, fun h => (nomatch h)⟩
theorem q16 [Hnd] (run : Nat → List D → M D) (runT : Nat → M D → M D) (k : Nat) : (cBody (conO gls d16.gx tb run runT k) ⟨d16.scope, d16.N, fun _ => true, true, d16.cl ++ cls, d16.lm⟩ d16.body).map (·.1) = some (d16.L run runT) := by kernel_rfl
theorem lok16 [Hnd] : LOk gls tb cls d16 := ⟨fun _ run runT k => q16 run runT k, fun h => (nomatch h)⟩
theorem q17 [Hnd] (run : Nat → List D → M D) (runT : Nat → M D → M D) (k : Nat) : (cBody (conO gls d17.gx tb run runT k) ⟨d17.scope, d17.N, fun _ => true, true, d17.cl ++ cls, d17.lm⟩ d17.body).map (·.1) = some (d17.L run runT) := by kernel_rfl
theorem lok17 [Hnd] : LOk gls tb cls d17 := ⟨fun _ run runT k => q17 run runT k, fun h => (nomatch h)⟩
theorem q18 [Hnd] (run : Nat → List D → M D) (runT : Nat → M D → M D) (k : Nat) : (cBody (conO gls d18.gx tb run runT k) ⟨d18.scope, d18.N, fun _ => true, true, d18.cl ++ cls, d18.lm⟩ d18.body).map (·.1) = some (d18.L run runT) := by kernel_rfl
theorem lok18 [Hnd] : LOk gls tb cls d18 := ⟨fun _ run runT k => q18 run runT k, fun h => (nomatch h)⟩
theorem q19 [Hnd] (run : Nat → List D → M D) (runT : Nat → M D → M D) (k : Nat) : (cBody (conO gls d19.gx tb run runT k) ⟨d19.scope, d19.N, fun _ => true, true, d19.cl ++ cls, d19.lm⟩ d19.body).map (·.1) = some (d19.L run runT) := by kernel_rfl
theorem lok19 [Hnd] : LOk gls tb cls d19 := ⟨fun _ run runT k => q19 run runT k, fun h => (nomatch h)⟩
theorem q20 [Hnd] (run : Nat → List D → M D) (runT : Nat → M D → M D) (k : Nat) : (cBody (conO gls d20.gx tb run runT k) ⟨d20.scope, d20.N, fun _ => true, true, d20.cl ++ cls, d20.lm⟩ d20.body).map (·.1) = some (d20.L run runT) := by kernel_rfl
theorem lok20 [Hnd] : LOk gls tb cls d20 := ⟨fun _ run runT k => q20 run runT k, fun h => (nomatch h)⟩
theorem q21 [Hnd] (run : Nat → List D → M D) (runT : Nat → M D → M D) (k : Nat) : (cBody (conO gls d21.gx tb run runT k) ⟨d21.scope, d21.N, fun _ => true, true, d21.cl ++ cls, d21.lm⟩ d21.body).map (·.1) = some (d21.L run runT) := by kernel_rfl
theorem lok21 [Hnd] : LOk gls tb cls d21 := ⟨fun _ run runT k => q21 run runT k, fun h => (nomatch h)⟩
theorem q22 [Hnd] (run : Nat → List D → M D) (runT : Nat → M D → M D) (k : Nat) : (cBody (conO gls d22.gx tb run runT k) ⟨d22.scope, d22.N, fun _ => true, true, d22.cl ++ cls, d22.lm⟩ d22.body).map (·.1) = some (d22.L run runT) := by kernel_rfl
theorem lok22 [Hnd] : LOk gls tb cls d22 := ⟨fun _ run runT k => q22 run runT k, fun h => (nomatch h)⟩
theorem q23 [Hnd] (run : Nat → List D → M D) (runT : Nat → M D → M D) (k : Nat) : (cBody (conO gls d23.gx tb run runT k) ⟨d23.scope, d23.N, fun _ => true, true, d23.cl ++ cls, d23.lm⟩ d23.body).map (·.1) = some (d23.L run runT) := by kernel_rfl
theorem lok23 [Hnd] : LOk gls tb cls d23 := ⟨fun _ run runT k => q23 run runT k, fun h => (nomatch h)⟩
theorem q24 [Hnd] (run : Nat → List D → M D) (runT : Nat → M D → M D) (k : Nat) : (cBody (conO gls d24.gx tb run runT k) ⟨d24.scope, d24.N, fun _ => true, true, d24.cl ++ cls, d24.lm⟩ d24.body).map (·.1) = some (d24.L run runT) := by kernel_rfl
theorem lok24 [Hnd] : LOk gls tb cls d24 := ⟨fun _ run runT k => q24 run runT k, fun h => (nomatch h)⟩
theorem q25 [Hnd] (run : Nat → List D → M D) (runT : Nat → M D → M D) (k : Nat) : (cBody (conO gls d25.gx tb run runT k) ⟨d25.scope, d25.N, fun _ => true, true, d25.cl ++ cls, d25.lm⟩ d25.body).map (·.1) = some (d25.L run runT) := by kernel_rfl
theorem lok25 [Hnd] : LOk gls tb cls d25 := ⟨fun _ run runT k => q25 run runT k, fun h => (nomatch h)⟩
theorem q26 [Hnd] (run : Nat → List D → M D) (runT : Nat → M D → M D) (k : Nat) : (cBody (conO gls d26.gx tb run runT k) ⟨d26.scope, d26.N, fun _ => true, true, d26.cl ++ cls, d26.lm⟩ d26.body).map (·.1) = some (d26.L run runT) := by kernel_rfl
theorem lok26 [Hnd] : LOk gls tb cls d26 := ⟨fun _ run runT k => q26 run runT k, fun h => (nomatch h)⟩
theorem q27 [Hnd] (run : Nat → List D → M D) (runT : Nat → M D → M D) (k : Nat) : (cBody (conO gls d27.gx tb run runT k) ⟨d27.scope, d27.N, fun _ => true, true, d27.cl ++ cls, d27.lm⟩ d27.body).map (·.1) = some (d27.L run runT) := by kernel_rfl
theorem lok27 [Hnd] : LOk gls tb cls d27 := ⟨fun _ run runT k => q27 run runT k, fun h => (nomatch h)⟩
theorem q28 [Hnd] (run : Nat → List D → M D) (runT : Nat → M D → M D) (k : Nat) : (cBody (conO gls d28.gx tb run runT k) ⟨d28.scope, d28.N, fun _ => true, true, d28.cl ++ cls, d28.lm⟩ d28.body).map (·.1) = some (d28.L run runT) := by kernel_rfl
theorem lok28 [Hnd] : LOk gls tb cls d28 := ⟨fun _ run runT k => q28 run runT k, fun h => (nomatch h)⟩
theorem q29 [Hnd] (run : Nat → List D → M D) (runT : Nat → M D → M D) (k : Nat) : (cBody (conO gls d29.gx tb run runT k) ⟨d29.scope, d29.N, fun _ => true, true, d29.cl ++ cls, d29.lm⟩ d29.body).map (·.1) = some (d29.L run runT) := by kernel_rfl
theorem lok29 [Hnd] : LOk gls tb cls d29 := ⟨fun _ run runT k => q29 run runT k, fun h => (nomatch h)⟩
theorem q30 [Hnd] (run : Nat → List D → M D) (runT : Nat → M D → M D) (k : Nat) : (cBody (conO gls d30.gx tb run runT k) ⟨d30.scope, d30.N, fun _ => true, true, d30.cl ++ cls, d30.lm⟩ d30.body).map (·.1) = some (d30.L run runT) := by kernel_rfl
theorem lok30 [Hnd] : LOk gls tb cls d30 := ⟨fun _ run runT k => q30 run runT k, fun h => (nomatch h)⟩
theorem b0 : BindsL d0 := fun kV doc pm an cdv ct us hl => match us, hl with
  | [_], _ => rfl
theorem b1 : BindsL d1 := fun kV doc pm an cdv ct us hl => match us, hl with
  | [_, _], _ => rfl
theorem b2 : BindsL d2 := fun kV doc pm an cdv ct us hl => match us, hl with
  | [_], _ => rfl
theorem b3 : BindsL d3 := fun kV doc pm an cdv ct us hl => match us, hl with
  | [_, _], _ => rfl
theorem b4 : BindsL d4 := fun kV doc pm an cdv ct us hl => match us, hl with
  | [_, _], _ => rfl
theorem b5 : BindsL d5 := fun kV doc pm an cdv ct us hl => match us, hl with
  | [_, _], _ => rfl
theorem b6 : BindsL d6 := fun kV doc pm an cdv ct us hl => match us, hl with
  | [_, _], _ => rfl
theorem b7 : BindsL d7 := fun kV doc pm an cdv ct us hl => match us, hl with
  | [_, _], _ => rfl
theorem b8 : BindsL d8 := fun kV doc pm an cdv ct us hl => match us, hl with
  | [_], _ => rfl
theorem b9 : BindsL d9 := fun kV doc pm an cdv ct us hl => match us, hl with
  | [_, _], _ => rfl
theorem b10 : BindsL d10 := fun kV doc pm an cdv ct us hl => match us, hl with
  | [_, _, _], _ => rfl
theorem b11 : BindsL d11 := fun kV doc pm an cdv ct us hl => match us, hl with
  | [_], _ => rfl
theorem b12 : BindsL d12 := fun kV doc pm an cdv ct us hl => match us, hl with
  | [_, _, _], _ => rfl
theorem b13 : BindsL d13 := ⟨by decide, rfl, fun Dd doc pm an cdv ct us ks hl hk => match us, hl, ks, hk with
  | [_, _, _], _, [_], _ => ⟨_, _, _, _, _, _, rfl, rfl, rfl⟩,
  fun kV doc pm an cdv ct us ws hl hw => match us, hl, ws, hw with
  | [_, _, _], _, [_], _ => by kernel_rfl⟩
theorem b14 : BindsL d14 := fun kV doc pm an cdv ct us hl => match us, hl with
  | [_, _, _], _ => rfl
theorem b15 : BindsL d15 := fun kV doc pm an cdv ct us hl => match us, hl with
  | [_, _], _ => rfl
theorem b16 : BindsL d16 := fun kV doc pm an cdv ct us hl => match us, hl with
  | [_, _], _ => rfl
theorem b17 : BindsL d17 := fun kV doc pm an cdv ct us hl => match us, hl with
  | [_], _ => rfl
theorem b18 : BindsL d18 := fun kV doc pm an cdv ct us hl => match us, hl with
  | [_, _], _ => rfl
theorem b19 : BindsL d19 := fun kV doc pm an cdv ct us hl => match us, hl with
  | [_, _], _ => rfl
theorem b20 : BindsL d20 := fun kV doc pm an cdv ct us hl => match us, hl with
  | [_, _, _], _ => rfl
theorem b21 : BindsL d21 := fun kV doc pm an cdv ct us hl => match us, hl with
  | [_, _], _ => rfl
theorem b22 : BindsL d22 := fun kV doc pm an cdv ct us hl => match us, hl with
  | [_, _], _ => rfl
theorem b23 : BindsL d23 := fun kV doc pm an cdv ct us hl => match us, hl with
  | [_, _], _ => rfl
theorem b24 : BindsL d24 := fun kV doc pm an cdv ct us hl => match us, hl with
  | [_], _ => rfl
theorem b25 : BindsL d25 := fun kV doc pm an cdv ct us hl => match us, hl with
  | [_, _], _ => rfl
theorem b26 : BindsL d26 := fun kV doc pm an cdv ct us hl => match us, hl with
  | [_, _], _ => rfl
theorem b27 : BindsL d27 := fun kV doc pm an cdv ct us hl => match us, hl with
  | [_, _], _ => rfl
theorem b28 : BindsL d28 := fun kV doc pm an cdv ct us hl => match us, hl with
  | [_, _], _ => rfl
theorem b29 : BindsL d29 := fun kV doc pm an cdv ct us hl => match us, hl with
  | [_, _, _, _, _], _ => rfl
theorem b30 : BindsL d30 := fun kV doc pm an cdv ct us hl => match us, hl with
  | [_], _ => rfl
theorem sc_all : ∀ d ∈ fs, FnScope d.N d.ps d.scope := by
  intro d hd
  simp only [fs, List.mem_cons, List.not_mem_nil, or_false] at hd
  rcases hd with rfl | rfl | rfl | rfl | rfl | rfl | rfl | rfl | rfl | rfl | rfl | rfl | rfl | rfl | rfl | rfl | rfl | rfl | rfl | rfl | rfl | rfl | rfl | rfl | rfl | rfl | rfl | rfl | rfl | rfl | rfl
  all_goals exact ⟨rfl, rfl, rfl, by decide +kernel, rfl, by decide +kernel, by decide +kernel⟩
end K52
/-! What is refused and what is not. -/
namespace M52
open PySem Ev
def pln : D → Bool
  | .cell _ => false
  | .ty _ => false
  | _ => true
theorem der {d : D} (st : Store) (h : pln d = true) : deref st d = d := by cases d <;> first | rfl | exact Bool.noConfusion h
def isW : D → Bool
  | .int _ => true
  | _ => false
theorem whole_ok (l : Nat) (d : D) (h : pln d = true) (st : Store) : Q (l + 1) 0 [d] st = .ok (.bl (isW d)) st := by
  rw [u0]
  cases d <;> first | exact Bool.noConfusion h | simp [L0, semF, sSeq, sSkip, sRet, sRetN, thenS, kp, rd, RV.d, M.bind, M.pure, M.bad, M.rdr, M.opt', M.cell, M.act, sVar, sC, sNil, sCons, sTup, sLst, sBin, sUn, sCall, sBinS, sChain, sAndT, sOrT, sNotT, sAndV, sOrV, sNotV, sIf, sBoolT, sTru, tru, isT, deref, per, yes, sFn, sFrz, thaw, sIfS, sSet, slot, sPar, sAsgT, gN, gT, gsCons, gsNil, sLc, sLcL, sYes, M.ne, wipeE, itS, sDrop, dIsi, isiB, isW]
def isB (d : D) (j : Int) : Bool := match d with
  | .int i => decide (0 ≤ i) && decide (i < j)
  | _ => false
theorem below_ok (l : Nat) (d : D) (j : Int) (h : pln d = true) (st : Store) : Q (l + 2) 1 [d, .int j] st = .ok (.bl (isB d j)) st := by
  rw [u1]
  cases d with
  | int i =>
    have e := whole_ok l (.int i) rfl st
    by_cases h : 0 ≤ i
    · simp [L1, semF, sSeq, sSkip, sRet, sRetN, thenS, kp, rd, RV.d, M.bind, M.pure, M.bad, M.rdr, M.opt', M.cell, M.act, sVar, sC, sNil, sCons, sTup, sLst, sBin, sUn, sCall, sBinS, sChain, sAndT, sOrT, sNotT, sAndV, sOrV, sNotV, sIf, sBoolT, sTru, tru, isT, deref, per, yes, sFn, sFrz, thaw, sIfS, sSet, slot, sPar, sAsgT, gN, gT, gsCons, gsNil, sLc, sLcL, sYes, M.ne, wipeE, itS, sDrop, e, isW, isB, dLe, dLt, h]
    · simp [L1, semF, sSeq, sSkip, sRet, sRetN, thenS, kp, rd, RV.d, M.bind, M.pure, M.bad, M.rdr, M.opt', M.cell, M.act, sVar, sC, sNil, sCons, sTup, sLst, sBin, sUn, sCall, sBinS, sChain, sAndT, sOrT, sNotT, sAndV, sOrV, sNotV, sIf, sBoolT, sTru, tru, isT, deref, per, yes, sFn, sFrz, thaw, sIfS, sSet, slot, sPar, sAsgT, gN, gT, gsCons, gsNil, sLc, sLcL, sYes, M.ne, wipeE, itS, sDrop, e, isW, isB, dLe, dLt, h]
  | cell k => cases h
  | ty k => cases h
  | _ =>
    have e := whole_ok l _ h st
    simp [L1, semF, sSeq, sSkip, sRet, sRetN, thenS, kp, rd, RV.d, M.bind, M.pure, M.bad, M.rdr, M.opt', M.cell, M.act, sVar, sC, sNil, sCons, sTup, sLst, sBin, sUn, sCall, sBinS, sChain, sAndT, sOrT, sNotT, sAndV, sOrV, sNotV, sIf, sBoolT, sTru, tru, isT, deref, per, yes, sFn, sFrz, thaw, sIfS, sSet, slot, sPar, sAsgT, gN, gT, gsCons, gsNil, sLc, sLcL, sYes, M.ne, wipeE, itS, sDrop, e, isW, isB]
def isM : D → Bool
  | .int i => decide (2 ≤ i) && decide (i ≤ 5)
  | _ => false
theorem many_ok (l : Nat) (n : Int) (h1 : 2 ≤ n) (h2 : n ≤ 5) (st : Store) : Q (l + 2) 2 [.int n] st = .ok (.int n) st := by
  rw [u2]
  have e := whole_ok l (.int n) rfl st
  simp [L2, semF, sSeq, sSkip, sRet, sRetN, thenS, kp, rd, RV.d, M.bind, M.pure, M.bad, M.rdr, M.opt', M.cell, M.act, sVar, sC, sNil, sCons, sTup, sLst, sBin, sUn, sCall, sBinS, sChain, sAndT, sOrT, sNotT, sAndV, sOrV, sNotV, sIf, sBoolT, sTru, tru, isT, deref, per, yes, sFn, sFrz, thaw, sIfS, sSet, slot, sPar, sAsgT, gN, gT, gsCons, gsNil, sLc, sLcL, sYes, M.ne, wipeE, itS, sDrop, e, isW, dLe, h1, h2]
theorem many_bad (l : Nat) (d : D) (hp : pln d = true) (h : isM d = false) (st : Store) : Q (l + 2) 2 [d] st = .exc "BadMany" [d] st := by
  rw [u2]
  cases d with
  | int i =>
    have e := whole_ok l (.int i) rfl st
    by_cases h1 : 2 ≤ i
    · have h2 : ¬ i ≤ 5 := by simpa [isM, h1] using h
      simp [L2, semF, sSeq, sSkip, sRet, sRetN, thenS, kp, rd, RV.d, M.bind, M.pure, M.bad, M.rdr, M.opt', M.cell, M.act, sVar, sC, sNil, sCons, sTup, sLst, sBin, sUn, sCall, sBinS, sChain, sAndT, sOrT, sNotT, sAndV, sOrV, sNotV, sIf, sBoolT, sTru, tru, isT, deref, per, yes, sFn, sFrz, thaw, sIfS, sSet, slot, sPar, sAsgT, gN, gT, gsCons, gsNil, sLc, sLcL, sYes, M.ne, wipeE, itS, sDrop, e, isW, dLe, h1, h2, sRaise]
    · simp [L2, semF, sSeq, sSkip, sRet, sRetN, thenS, kp, rd, RV.d, M.bind, M.pure, M.bad, M.rdr, M.opt', M.cell, M.act, sVar, sC, sNil, sCons, sTup, sLst, sBin, sUn, sCall, sBinS, sChain, sAndT, sOrT, sNotT, sAndV, sOrV, sNotV, sIf, sBoolT, sTru, tru, isT, deref, per, yes, sFn, sFrz, thaw, sIfS, sSet, slot, sPar, sAsgT, gN, gT, gsCons, gsNil, sLc, sLcL, sYes, M.ne, wipeE, itS, sDrop, e, isW, dLe, h1, sRaise]
  | cell k => cases hp
  | ty k => cases hp
  | _ =>
    have e := whole_ok l _ hp st
    simp [L2, semF, sSeq, sSkip, sRet, sRetN, thenS, kp, rd, RV.d, M.bind, M.pure, M.bad, M.rdr, M.opt', M.cell, M.act, sVar, sC, sNil, sCons, sTup, sLst, sBin, sUn, sCall, sBinS, sChain, sAndT, sOrT, sNotT, sAndV, sOrV, sNotV, sIf, sBoolT, sTru, tru, isT, deref, per, yes, sFn, sFrz, thaw, sIfS, sSet, slot, sPar, sAsgT, gN, gT, gsCons, gsNil, sLc, sLcL, sYes, M.ne, wipeE, itS, sDrop, e, isW, sRaise]
def isC (n : Int) : D → Bool
  | .tup ds => decide ((ds.length : Int) = n) && ds.all fun d => isB d 25
  | _ => false
theorem all_map {α : Type} (f : α → Bool) (l : List α) : dAll [.lst (l.map fun a => D.bl (f a))] = some (.per (.bl (l.all f))) := by
  have e : l.map (fun a => D.bl (f a)) = (l.map f).map D.bl := by simp
  rw [e]
  unfold dAll
  dsimp only
  rw [bools_map]
  simp [yes, per]
theorem cont_ok (l : Nat) (n : Int) (h1 : 2 ≤ n) (h2 : n ≤ 5) (d : D) (hp : pln d = true) (hq : ∀ ds, d = .tup ds → ds.length ≤ sizeLine ∧ ∀ e ∈ ds, pln e = true) (st : Store) : Q (l + 3) 4 [.int n, d] st = .ok (.bl (isC n d)) st := by
  rw [u4]
  have e := many_ok l n h1 h2 st
  cases d with
  | tup ds =>
    obtain ⟨hl, hd⟩ := hq ds rfl
    by_cases hn : (ds.length : Int) = n
    · have e2 : sLcL (gN 2) sYes (kp (sFn (Q (l + 2) 1) (sCons (kp (sVar 2)) (sCons (kp (sBin dAdd (rd (sC (.int 24))) (rd (sC (.int 1))))) sNil)))) [.val (.int n), .val (.tup ds), .un] ds [] st = .ok ([] ++ ds.map fun d => .bl (isB d 25)) st := by
        refine lc_map _ _ (fun d hd' => ⟨[.val (.int n), .val (.tup ds), .val d], rfl, rfl, ?_⟩) (by simpa using hl)
        have e3 := below_ok l d 25 (hd d hd') st
        simp [semF, sSeq, sSkip, sRet, sRetN, thenS, kp, rd, RV.d, M.bind, M.pure, M.bad, M.rdr, M.opt', M.cell, M.act, sVar, sC, sNil, sCons, sTup, sLst, sBin, sUn, sCall, sBinS, sChain, sAndT, sOrT, sNotT, sAndV, sOrV, sNotV, sIf, sBoolT, sTru, tru, isT, deref, per, yes, sFn, sFrz, thaw, sIfS, sSet, slot, sPar, sAsgT, gN, gT, gsCons, gsNil, sLc, sLcL, sYes, M.ne, wipeE, itS, sDrop, dAdd, e3]
      simp [L4, semF, sSeq, sSkip, sRet, sRetN, thenS, kp, rd, RV.d, M.bind, M.pure, M.bad, M.rdr, M.opt', M.cell, M.act, sVar, sC, sNil, sCons, sTup, sLst, sBin, sUn, sCall, sBinS, sChain, sAndT, sOrT, sNotT, sAndV, sOrV, sNotV, sIf, sBoolT, sTru, tru, isT, deref, per, yes, sFn, sFrz, thaw, sIfS, sSet, slot, sPar, sAsgT, gN, gT, gsCons, gsNil, sLc, sLcL, sYes, M.ne, wipeE, itS, sDrop, e, dIsi, isiB, dLen, dNe, hn, e2, all_map, isC]
    · simp [L4, semF, sSeq, sSkip, sRet, sRetN, thenS, kp, rd, RV.d, M.bind, M.pure, M.bad, M.rdr, M.opt', M.cell, M.act, sVar, sC, sNil, sCons, sTup, sLst, sBin, sUn, sCall, sBinS, sChain, sAndT, sOrT, sNotT, sAndV, sOrV, sNotV, sIf, sBoolT, sTru, tru, isT, deref, per, yes, sFn, sFrz, thaw, sIfS, sSet, slot, sPar, sAsgT, gN, gT, gsCons, gsNil, sLc, sLcL, sYes, M.ne, wipeE, itS, sDrop, e, dIsi, isiB, dLen, dNe, hn, isC]
  | cell k => cases hp
  | ty k => cases hp
  | _ => simp [L4, semF, sSeq, sSkip, sRet, sRetN, thenS, kp, rd, RV.d, M.bind, M.pure, M.bad, M.rdr, M.opt', M.cell, M.act, sVar, sC, sNil, sCons, sTup, sLst, sBin, sUn, sCall, sBinS, sChain, sAndT, sOrT, sNotT, sAndV, sOrV, sNotV, sIf, sBoolT, sTru, tru, isT, deref, per, yes, sFn, sFrz, thaw, sIfS, sSet, slot, sPar, sAsgT, gN, gT, gsCons, gsNil, sLc, sLcL, sYes, M.ne, wipeE, itS, sDrop, e, dIsi, isiB, isC]
theorem cont_bad (l : Nat) (m d : D) (hp : pln m = true) (h : isM m = false) (st : Store) : Q (l + 3) 4 [m, d] st = .exc "BadMany" [m] st := by
  rw [u4]
  have e := many_bad l m hp h st
  simp [L4, semF, sSeq, sSkip, sRet, sRetN, thenS, kp, rd, RV.d, M.bind, M.pure, M.bad, M.rdr, M.opt', M.cell, M.act, sVar, sC, sNil, sCons, sTup, sLst, sBin, sUn, sCall, sBinS, sChain, sAndT, sOrT, sNotT, sAndV, sOrV, sNotV, sIf, sBoolT, sTru, tru, isT, deref, per, yes, sFn, sFrz, thaw, sIfS, sSet, slot, sPar, sAsgT, gN, gT, gsCons, gsNil, sLc, sLcL, sYes, M.ne, wipeE, itS, sDrop, e]
def okD (d : D) : Prop := pln d = true ∧ ∀ ds, d = .tup ds → ds.length ≤ sizeLine ∧ ∀ e ∈ ds, pln e = true
theorem ncont_ok (l : Nat) (n : Int) (h1 : 2 ≤ n) (h2 : n ≤ 5) (d : D) (hd : okD d) (h : isC n d = true) (st : Store) : Q (l + 4) 5 [.int n, d] st = .ok d st := by
  rw [u5]
  have e := cont_ok l n h1 h2 d hd.1 hd.2 st
  simp [L5, semF, sSeq, sSkip, sRet, sRetN, thenS, kp, rd, RV.d, M.bind, M.pure, M.bad, M.rdr, M.opt', M.cell, M.act, sVar, sC, sNil, sCons, sTup, sLst, sBin, sUn, sCall, sBinS, sChain, sAndT, sOrT, sNotT, sAndV, sOrV, sNotV, sIf, sBoolT, sTru, tru, isT, deref, per, yes, sFn, sFrz, thaw, sIfS, sSet, slot, sPar, sAsgT, gN, gT, gsCons, gsNil, sLc, sLcL, sYes, M.ne, wipeE, itS, sDrop, e, h]
theorem ncont_bad (l : Nat) (n : Int) (h1 : 2 ≤ n) (h2 : n ≤ 5) (d : D) (hd : okD d) (h : isC n d = false) (st : Store) : Q (l + 4) 5 [.int n, d] st = .exc "BadContent" [d] st := by
  rw [u5]
  have e := cont_ok l n h1 h2 d hd.1 hd.2 st
  simp [L5, semF, sSeq, sSkip, sRet, sRetN, thenS, kp, rd, RV.d, M.bind, M.pure, M.bad, M.rdr, M.opt', M.cell, M.act, sVar, sC, sNil, sCons, sTup, sLst, sBin, sUn, sCall, sBinS, sChain, sAndT, sOrT, sNotT, sAndV, sOrV, sNotV, sIf, sBoolT, sTru, tru, isT, deref, per, yes, sFn, sFrz, thaw, sIfS, sSet, slot, sPar, sAsgT, gN, gT, gsCons, gsNil, sLc, sLcL, sYes, M.ne, wipeE, itS, sDrop, e, h, sRaise]
theorem ncont_many (l : Nat) (m d : D) (hp : pln m = true) (h : isM m = false) (st : Store) : Q (l + 4) 5 [m, d] st = .exc "BadMany" [m] st := by
  rw [u5]
  have e := cont_bad l m d hp h st
  simp [L5, semF, sSeq, sSkip, sRet, sRetN, thenS, kp, rd, RV.d, M.bind, M.pure, M.bad, M.rdr, M.opt', M.cell, M.act, sVar, sC, sNil, sCons, sTup, sLst, sBin, sUn, sCall, sBinS, sChain, sAndT, sOrT, sNotT, sAndV, sOrV, sNotV, sIf, sBoolT, sTru, tru, isT, deref, per, yes, sFn, sFrz, thaw, sIfS, sSet, slot, sPar, sAsgT, gN, gT, gsCons, gsNil, sLc, sLcL, sYes, M.ne, wipeE, itS, sDrop, e]
def isWo : D → Bool
  | .int i => decide ((if i < 0 then -i else i) ≤ 100)
  | _ => false
def isWs (n : Int) : D → Bool
  | .tup ds => decide ((ds.length : Int) = n) && ds.all isWo
  | _ => false
theorem ws_ok (l : Nat) (n : Int) (d : D) (hp : pln d = true) (hq : ∀ ds, d = .tup ds → ds.length ≤ sizeLine ∧ ∀ e ∈ ds, pln e = true) (st : Store) : Q (l + 2) 6 [.int n, d] st = .ok (.bl (isWs n d)) st := by
  rw [u6]
  cases d with
  | tup ds =>
    obtain ⟨hl, hd⟩ := hq ds rfl
    by_cases hn : (ds.length : Int) = n
    · have e2 : sLcL (gN 2) sYes (kp (sAndV (sFn (Q (l + 1) 0) (sCons (kp (sVar 2)) sNil)) (sBin dLe (rd (sCall dAbs (sCons (rd (sVar 2)) sNil))) (rd (sC (.int 100)))))) [.val (.int n), .val (.tup ds), .un] ds [] st = .ok ([] ++ ds.map fun d => .bl (isWo d)) st := by
        refine lc_map _ _ (fun d hd' => ⟨[.val (.int n), .val (.tup ds), .val d], rfl, rfl, ?_⟩) (by simpa using hl)
        have e3 := whole_ok l d (hd d hd') st
        have h4 := hd d hd'
        cases d <;> first | exact Bool.noConfusion h4 | simp [semF, sSeq, sSkip, sRet, sRetN, thenS, kp, rd, RV.d, M.bind, M.pure, M.bad, M.rdr, M.opt', M.cell, M.act, sVar, sC, sNil, sCons, sTup, sLst, sBin, sUn, sCall, sBinS, sChain, sAndT, sOrT, sNotT, sAndV, sOrV, sNotV, sIf, sBoolT, sTru, tru, isT, deref, per, yes, sFn, sFrz, thaw, sIfS, sSet, slot, sPar, sAsgT, gN, gT, gsCons, gsNil, sLc, sLcL, sYes, M.ne, wipeE, itS, sDrop, e3, isW, isWo, dAbs, dLe]
      simp [L6, semF, sSeq, sSkip, sRet, sRetN, thenS, kp, rd, RV.d, M.bind, M.pure, M.bad, M.rdr, M.opt', M.cell, M.act, sVar, sC, sNil, sCons, sTup, sLst, sBin, sUn, sCall, sBinS, sChain, sAndT, sOrT, sNotT, sAndV, sOrV, sNotV, sIf, sBoolT, sTru, tru, isT, deref, per, yes, sFn, sFrz, thaw, sIfS, sSet, slot, sPar, sAsgT, gN, gT, gsCons, gsNil, sLc, sLcL, sYes, M.ne, wipeE, itS, sDrop, dIsi, isiB, dLen, dNe, hn, e2, all_map, isWs]
    · simp [L6, semF, sSeq, sSkip, sRet, sRetN, thenS, kp, rd, RV.d, M.bind, M.pure, M.bad, M.rdr, M.opt', M.cell, M.act, sVar, sC, sNil, sCons, sTup, sLst, sBin, sUn, sCall, sBinS, sChain, sAndT, sOrT, sNotT, sAndV, sOrV, sNotV, sIf, sBoolT, sTru, tru, isT, deref, per, yes, sFn, sFrz, thaw, sIfS, sSet, slot, sPar, sAsgT, gN, gT, gsCons, gsNil, sLc, sLcL, sYes, M.ne, wipeE, itS, sDrop, dIsi, isiB, dLen, dNe, hn, isWs]
  | cell k => cases hp
  | ty k => cases hp
  | _ => simp [L6, semF, sSeq, sSkip, sRet, sRetN, thenS, kp, rd, RV.d, M.bind, M.pure, M.bad, M.rdr, M.opt', M.cell, M.act, sVar, sC, sNil, sCons, sTup, sLst, sBin, sUn, sCall, sBinS, sChain, sAndT, sOrT, sNotT, sAndV, sOrV, sNotV, sIf, sBoolT, sTru, tru, isT, deref, per, yes, sFn, sFrz, thaw, sIfS, sSet, slot, sPar, sAsgT, gN, gT, gsCons, gsNil, sLc, sLcL, sYes, M.ne, wipeE, itS, sDrop, dIsi, isiB, isWs]
theorem nws_ok (l : Nat) (n : Int) (h1 : 2 ≤ n) (h2 : n ≤ 5) (d : D) (hd : okD d) (h : isWs n d = true) (st : Store) : Q (l + 3) 7 [.int n, d] st = .ok d st := by
  rw [u7]
  have e := many_ok l n h1 h2 st
  have e2 := ws_ok l n d hd.1 hd.2 st
  simp [L7, semF, sSeq, sSkip, sRet, sRetN, thenS, kp, rd, RV.d, M.bind, M.pure, M.bad, M.rdr, M.opt', M.cell, M.act, sVar, sC, sNil, sCons, sTup, sLst, sBin, sUn, sCall, sBinS, sChain, sAndT, sOrT, sNotT, sAndV, sOrV, sNotV, sIf, sBoolT, sTru, tru, isT, deref, per, yes, sFn, sFrz, thaw, sIfS, sSet, slot, sPar, sAsgT, gN, gT, gsCons, gsNil, sLc, sLcL, sYes, M.ne, wipeE, itS, sDrop, e, e2, h]
theorem nws_bad (l : Nat) (n : Int) (h1 : 2 ≤ n) (h2 : n ≤ 5) (d : D) (hd : okD d) (h : isWs n d = false) (st : Store) : Q (l + 3) 7 [.int n, d] st = .exc "BadWorths" [d] st := by
  rw [u7]
  have e := many_ok l n h1 h2 st
  have e2 := ws_ok l n d hd.1 hd.2 st
  simp [L7, semF, sSeq, sSkip, sRet, sRetN, thenS, kp, rd, RV.d, M.bind, M.pure, M.bad, M.rdr, M.opt', M.cell, M.act, sVar, sC, sNil, sCons, sTup, sLst, sBin, sUn, sCall, sBinS, sChain, sAndT, sOrT, sNotT, sAndV, sOrV, sNotV, sIf, sBoolT, sTru, tru, isT, deref, per, yes, sFn, sFrz, thaw, sIfS, sSet, slot, sPar, sAsgT, gN, gT, gsCons, gsNil, sLc, sLcL, sYes, M.ne, wipeE, itS, sDrop, e, e2, h, sRaise]
theorem nws_many (l : Nat) (m d : D) (hp : pln m = true) (h : isM m = false) (st : Store) : Q (l + 3) 7 [m, d] st = .exc "BadMany" [m] st := by
  rw [u7]
  have e := many_bad l m hp h st
  simp [L7, semF, sSeq, sSkip, sRet, sRetN, thenS, kp, rd, RV.d, M.bind, M.pure, M.bad, M.rdr, M.opt', M.cell, M.act, sVar, sC, sNil, sCons, sTup, sLst, sBin, sUn, sCall, sBinS, sChain, sAndT, sOrT, sNotT, sAndV, sOrV, sNotV, sIf, sBoolT, sTru, tru, isT, deref, per, yes, sFn, sFrz, thaw, sIfS, sSet, slot, sPar, sAsgT, gN, gT, gsCons, gsNil, sLc, sLcL, sYes, M.ne, wipeE, itS, sDrop, e]
theorem tot_ok (l : Nat) (d : D) (hp : pln d = true) (h : isB d 13 = true) (st : Store) : Q (l + 3) 8 [d] st = .ok .non st := by
  rw [u8]
  have e := below_ok l d 13 hp st
  simp [L8, semF, sSeq, sSkip, sRet, sRetN, thenS, kp, rd, RV.d, M.bind, M.pure, M.bad, M.rdr, M.opt', M.cell, M.act, sVar, sC, sNil, sCons, sTup, sLst, sBin, sUn, sCall, sBinS, sChain, sAndT, sOrT, sNotT, sAndV, sOrV, sNotV, sIf, sBoolT, sTru, tru, isT, deref, per, yes, sFn, sFrz, thaw, sIfS, sSet, slot, sPar, sAsgT, gN, gT, gsCons, gsNil, sLc, sLcL, sYes, M.ne, wipeE, itS, sDrop, dAdd, e, h]
theorem tot_bad (l : Nat) (d : D) (hp : pln d = true) (h : isB d 13 = false) (st : Store) : Q (l + 3) 8 [d] st = .exc "BadTotal" [d] st := by
  rw [u8]
  have e := below_ok l d 13 hp st
  simp [L8, semF, sSeq, sSkip, sRet, sRetN, thenS, kp, rd, RV.d, M.bind, M.pure, M.bad, M.rdr, M.opt', M.cell, M.act, sVar, sC, sNil, sCons, sTup, sLst, sBin, sUn, sCall, sBinS, sChain, sAndT, sOrT, sNotT, sAndV, sOrV, sNotV, sIf, sBoolT, sTru, tru, isT, deref, per, yes, sFn, sFrz, thaw, sIfS, sSet, slot, sPar, sAsgT, gN, gT, gsCons, gsNil, sLc, sLcL, sYes, M.ne, wipeE, itS, sDrop, dAdd, e, h, sRaise]
end M52
/-! Products, orders and their sums. -/
namespace M52
open PySem Ev
theorem lg_pow {b : Int} {a : Nat} (h : lg b a) : ∀ n : Nat, lg (b ^ n) (a * n + 1)
  | 0 => by
    rw [Int.pow_zero]
    exact lg_mono lg_one (by omega)
  | n + 1 => by
    rw [Int.pow_succ]
    exact lg_mono (lg_mul (lg_pow h n) h) (by rw [Nat.mul_succ]; omega)
def bPow : SS := sSeq (sSet 2 (sBin dMulA (rd (sVar 2)) (rd (sVar 0)))) sSkip
theorem pow_loop {b : Int} (hb : lg b 7) (B : SV) : ∀ (ds : List D) (acc : Int) (e : Nat) (x : SV) (st : Store), lg acc e → e + 7 * ds.length < 999000 → ∃ x', sForL (gN 3) bPow ds [.val (.int b), B, .val (.int acc), x] st = .nx [.val (.int b), B, .val (.int (acc * b ^ ds.length)), x'] st
  | [], acc, e, x, st, _, _ => ⟨x, by simp [sForL]⟩
  | d :: ds, acc, e, x, st, he, hl => by
    have hl : e + 7 * (ds.length + 1) < 999000 := hl
    obtain ⟨x', h⟩ := pow_loop hb B ds (acc * b) (e + 7) (.val d) st (lg_mul he hb) (by omega)
    refine ⟨x', l_nx rfl ?_ (h.trans ?_)⟩
    · have e1 := mulA_lg he hb (by omega)
      simp [bPow, semF, sSeq, sSkip, sRet, sRetN, thenS, kp, rd, RV.d, M.bind, M.pure, M.bad, M.rdr, M.opt', M.cell, M.act, sVar, sC, sNil, sCons, sTup, sLst, sBin, sUn, sCall, sBinS, sChain, sAndT, sOrT, sNotT, sAndV, sOrV, sNotV, sIf, sBoolT, sTru, tru, isT, deref, per, yes, sFn, sFrz, thaw, sIfS, sSet, slot, sPar, sAsgT, gN, gT, gsCons, gsNil, sLc, sLcL, sYes, M.ne, wipeE, itS, sDrop, e1]
    · rw [List.length_cons, Int.pow_succ, Int.mul_assoc, Int.mul_comm b]
theorem rng_len (lo : Int) (n : Nat) : (rngD lo n).length = n := by simp [rngD]
theorem pow_ok (l : Nat) (b k : Int) (hb : lg b 7) (h0 : 0 ≤ k) (h1 : k ≤ 24) (st : Store) : Q (l + 1) 3 [.int b, .int k] st = .ok (.int (b ^ k.toNat)) st := by
  rw [u3]
  obtain ⟨x', h⟩ := pow_loop hb (.val (.int k)) (rngD 0 k.toNat) 1 1 .un st lg_one (by rw [rng_len]; omega)
  rw [rng_len, Int.one_mul] at h
  refine f_rt rfl (s_seq (s_set w_c rfl rfl) (s_seq (s_for (i_r1 (w_cons (w_kp (w_var rfl)) w_nil) (bnd_lt (by omega) (by omega))) h) ?_))
  simp [semF, sSeq, sSkip, sRet, sRetN, thenS, kp, rd, RV.d, M.bind, M.pure, M.bad, M.rdr, M.opt', M.cell, M.act, sVar, sC, sNil, sCons, sTup, sLst, sBin, sUn, sCall, sBinS, sChain, sAndT, sOrT, sNotT, sAndV, sOrV, sNotV, sIf, sBoolT, sTru, tru, isT, deref, per, yes, sFn, sFrz, thaw, sIfS, sSet, slot, sPar, sAsgT, gN, gT, gsCons, gsNil, sLc, sLcL, sYes, M.ne, wipeE, itS, sDrop]
def prodI : List Int → List Int → Int → Int
  | k :: c, x :: w, acc => prodI c w (acc * x ^ k.toNat)
  | _, _, acc => acc
def bProd (l : Nat) : SS := sSeq (sFrz [4, 3] (sSet 2 (sBin dMulA (rd (sVar 2)) (rd (sFn (Q l 3) (sCons (kp (sVar 4)) (sCons (kp (sVar 3)) sNil))))))) sSkip
def isV : SV → Bool
  | .own _ => false
  | _ => true
theorem prod_loop (l : Nat) (A B : SV) : ∀ (c w : List Int) (acc : Int) (e : Nat) (x y : SV) (st : Store), isV x = true → isV y = true → lg acc e → (∀ k ∈ c, 0 ≤ k ∧ k ≤ 24) → (∀ x ∈ w, lg x 7) → e + 169 * c.length < 999000 →
    (∃ x' y', sForL (gT (gsCons (gN 3) (gsCons (gN 4) gsNil))) (bProd (l + 1)) (zipD (c.map .int) (w.map .int)) [A, B, .val (.int acc), x, y] st = .nx [A, B, .val (.int (prodI c w acc)), x', y'] st) ∧ lg (prodI c w acc) (e + 169 * c.length)
  | k :: c, v :: w, acc, e, x, y, st, hx, hy, he, hc, hw, hl => by
    have hl : e + 169 * (c.length + 1) < 999000 := hl
    have hk := hc k (by simp)
    have hv := hw v (by simp)
    have q : lg (v ^ k.toNat) 169 := lg_mono (lg_pow hv k.toNat) (by omega)
    obtain ⟨⟨x', y', h⟩, g⟩ := prod_loop l A B c w (acc * v ^ k.toNat) (e + 169) (.val (.int k)) (.val (.int v)) st rfl rfl (lg_mul he q) (fun k hk => hc k (List.mem_cons_of_mem _ hk)) (fun k hk => hw k (List.mem_cons_of_mem _ hk)) (by omega)
    refine ⟨⟨x', y', l_nx rfl ?_ h⟩, ?_⟩
    · have e1 := mulA_lg he q (by omega)
      have e2 := pow_ok l v k hv hk.1 hk.2 st
      simp [bProd, semF, sSeq, sSkip, sRet, sRetN, thenS, kp, rd, RV.d, M.bind, M.pure, M.bad, M.rdr, M.opt', M.cell, M.act, sVar, sC, sNil, sCons, sTup, sLst, sBin, sUn, sCall, sBinS, sChain, sAndT, sOrT, sNotT, sAndV, sOrV, sNotV, sIf, sBoolT, sTru, tru, isT, deref, per, yes, sFn, sFrz, thaw, sIfS, sSet, slot, sPar, sAsgT, gN, gT, gsCons, gsNil, sLc, sLcL, sYes, M.ne, wipeE, itS, sDrop, e1, e2]
    · rw [List.length_cons]
      show lg (prodI c w (acc * v ^ k.toNat)) _
      exact lg_mono g (by omega)
  | [], [], acc, e, x, y, st, _, _, he, _, _, _ => ⟨⟨x, y, rfl⟩, lg_mono he (by simp)⟩
  | [], _ :: _, acc, e, x, y, st, _, _, he, _, _, _ => ⟨⟨x, y, rfl⟩, lg_mono he (by simp)⟩
  | _ :: _, [], acc, e, x, y, st, _, _, he, _, _, _ => ⟨⟨x, y, rfl⟩, lg_mono he (by omega)⟩
def okC (c : List Int) : Prop := c.length ≤ 4 ∧ ∀ k ∈ c, 0 ≤ k ∧ k ≤ 24
def okW (w : List Int) : Prop := w.length ≤ 4 ∧ ∀ x ∈ w, -100 ≤ x ∧ x ≤ 100
theorem okW.lg {w : List Int} (h : okW w) : ∀ x ∈ w, lg x 7 := fun x hx => by
  have := h.2 x hx
  show x.natAbs < 128
  omega
theorem prod_ok (l : Nat) (c w : List Int) (hc : okC c) (hw : okW w) (st : Store) : Q (l + 2) 9 [.tup (c.map .int), .tup (w.map .int)] st = .ok (.int (prodI c w 1)) st := by
  rw [u9]
  obtain ⟨⟨x', y', h⟩, _⟩ := prod_loop l (.val (.tup (c.map .int))) (.val (.tup (w.map .int))) c w 1 1 .un .un st rfl rfl lg_one hc.2 hw.lg (by have := hc.1; omega)
  refine f_rt rfl (s_seq (s_set w_c rfl rfl) (s_seq (s_for (i_zTT (w_cons (w_kp (w_var rfl)) (w_cons (w_kp (w_var rfl)) w_nil))) h) ?_))
  simp [semF, sSeq, sSkip, sRet, sRetN, thenS, kp, rd, RV.d, M.bind, M.pure, M.bad, M.rdr, M.opt', M.cell, M.act, sVar, sC, sNil, sCons, sTup, sLst, sBin, sUn, sCall, sBinS, sChain, sAndT, sOrT, sNotT, sAndV, sOrV, sNotV, sIf, sBoolT, sTru, tru, isT, deref, per, yes, sFn, sFrz, thaw, sIfS, sSet, slot, sPar, sAsgT, gN, gT, gsCons, gsNil, sLc, sLcL, sYes, M.ne, wipeE, itS, sDrop]
theorem prod_okL (l : Nat) (c w : List Int) (hc : okC c) (hw : okW w) (st : Store) : Q (l + 2) 9 [.lst (c.map .int), .tup (w.map .int)] st = .ok (.int (prodI c w 1)) st := by
  rw [u9]
  obtain ⟨⟨x', y', h⟩, _⟩ := prod_loop l (.val (.lst (c.map .int))) (.val (.tup (w.map .int))) c w 1 1 .un .un st rfl rfl lg_one hc.2 hw.lg (by have := hc.1; omega)
  refine f_rt rfl (s_seq (s_set w_c rfl rfl) (s_seq (s_for (i_zLT (w_cons (w_kp (w_var rfl)) (w_cons (w_kp (w_var rfl)) w_nil))) h) ?_))
  simp [semF, sSeq, sSkip, sRet, sRetN, thenS, kp, rd, RV.d, M.bind, M.pure, M.bad, M.rdr, M.opt', M.cell, M.act, sVar, sC, sNil, sCons, sTup, sLst, sBin, sUn, sCall, sBinS, sChain, sAndT, sOrT, sNotT, sAndV, sOrV, sNotV, sIf, sBoolT, sTru, tru, isT, deref, per, yes, sFn, sFrz, thaw, sIfS, sSet, slot, sPar, sAsgT, gN, gT, gsCons, gsNil, sLc, sLcL, sYes, M.ne, wipeE, itS, sDrop]
theorem prod_lg (c w : List Int) (hc : okC c) (hw : okW w) : lg (prodI c w 1) 700 := by
  have h := (prod_loop 0 .un .un c w 1 1 .un .un [] rfl rfl lg_one hc.2 hw.lg (by have := hc.1; omega)).2
  exact lg_mono h (by have := hc.1; omega)
theorem q22 (l : Nat) : Q (l + 1) 22 = Q (l + 1) 3 := rfl
theorem q23 (l : Nat) : Q (l + 2) 23 = Q (l + 2) 9 := rfl
/-! ### orders -/
def ordn : Nat → List (List Nat)
  | 2 => [[0, 1], [1, 0]]
  | 3 => [[0, 1, 2], [0, 2, 1], [1, 0, 2], [1, 2, 0], [2, 0, 1], [2, 1, 0]]
  | 4 => [[0, 1, 2, 3], [0, 1, 3, 2], [0, 2, 1, 3], [0, 2, 3, 1], [0, 3, 1, 2], [0, 3, 2, 1], [1, 0, 2, 3], [1, 0, 3, 2], [1, 2, 0, 3], [1, 2, 3, 0], [1, 3, 0, 2], [1, 3, 2, 0], [2, 0, 1, 3], [2, 0, 3, 1], [2, 1, 0, 3], [2, 1, 3, 0], [2, 3, 0, 1], [2, 3, 1, 0], [3, 0, 1, 2], [3, 0, 2, 1], [3, 1, 0, 2], [3, 1, 2, 0], [3, 2, 0, 1], [3, 2, 1, 0]]
  | _ => []
def sel {α : Type} (c : List α) (d : α) (o : List Nat) : List α := o.map fun k => c.getD k d
theorem ord2 (l : Nat) (a b : Int) (st : Store) : Q (l + 5) 11 [.tup [.int a, .int b]] st = .ok (.lst ((ordn 2).map fun o => .tup ((sel [a, b] 0 o).map .int))) st := by kernel_rfl
theorem ord3 (l : Nat) (a b c : Int) (st : Store) : Q (l + 5) 11 [.tup [.int a, .int b, .int c]] st = .ok (.lst ((ordn 3).map fun o => .tup ((sel [a, b, c] 0 o).map .int))) st := by kernel_rfl
theorem ord4 (l : Nat) (a b c d : Int) (st : Store) : Q (l + 5) 11 [.tup [.int a, .int b, .int c, .int d]] st = .ok (.lst ((ordn 4).map fun o => .tup ((sel [a, b, c, d] 0 o).map .int))) st := by kernel_rfl
theorem lord2 (l : Nat) (st : Store) : Q (l + 1) 24 [.int 2] st = .ok (.lst ((ordn 2).map fun o => .tup (o.map fun k => .int ((k : Nat) : Int)))) st := by kernel_rfl
theorem lord3 (l : Nat) (st : Store) : Q (l + 1) 24 [.int 3] st = .ok (.lst ((ordn 3).map fun o => .tup (o.map fun k => .int ((k : Nat) : Int)))) st := by kernel_rfl
theorem lord4 (l : Nat) (st : Store) : Q (l + 1) 24 [.int 4] st = .ok (.lst ((ordn 4).map fun o => .tup (o.map fun k => .int ((k : Nat) : Int)))) st := by kernel_rfl
end M52
/-! Sums over orders. -/
namespace M52
open PySem Ev
structure OC (n : Nat) (c w : List Int) : Prop where
  two : 2 ≤ n
  four : n ≤ 4
  oc : okC c
  ow : okW w
  lc : c.length = n
  lw : w.length = n
variable {n : Nat} {c w : List Int}
theorem ord_ok (o : OC n c w) (l : Nat) (st : Store) : Q (l + 5) 11 [.tup (c.map .int)] st = .ok (.lst ((ordn n).map fun o => .tup ((sel c 0 o).map .int))) st := by
  have h1 := o.two
  have h2 := o.four
  have h3 := o.lc
  match c, h3 with
  | [], h3 => simp at h3; omega
  | [_], h3 => simp at h3; omega
  | [a, b], h3 => subst h3; exact ord2 l a b st
  | [a, b, c], h3 => subst h3; exact ord3 l a b c st
  | [a, b, c, d], h3 => subst h3; exact ord4 l a b c d st
  | a :: b :: c :: d :: e :: r, h3 => simp at h3; omega
theorem lord_ok (o : OC n c w) (l : Nat) (st : Store) : Q (l + 1) 24 [.int (n : Int)] st = .ok (.lst ((ordn n).map fun o => .tup (o.map fun k => .int ((k : Nat) : Int)))) st := by
  have h1 := o.two
  have h2 := o.four
  match n, h1, h2 with
  | 0, h1, _ => omega
  | 1, h1, _ => omega
  | 2, _, _ => exact lord2 l st
  | 3, _, _ => exact lord3 l st
  | 4, _, _ => exact lord4 l st
  | n + 5, _, h2 => omega
theorem ordn_fact : ∀ n ∈ [2, 3, 4], ∀ o ∈ ordn n, o.length = n ∧ ∀ k ∈ o, k < n := by decide
theorem ordn_len : ∀ n ∈ [2, 3, 4], (ordn n).length ≤ 24 ∧ ordn n ≠ [] := by decide
theorem OC.mem (o : OC n c w) : n ∈ [2, 3, 4] := by
  have h1 := o.two
  have h2 := o.four
  have : n = 2 ∨ n = 3 ∨ n = 4 := by omega
  simpa using this
theorem OC.sel (o : OC n c w) {x : List Nat} (hx : x ∈ ordn n) : okC (sel c 0 x) := by
  have f := ordn_fact n o.mem x hx
  have h2 := o.four
  refine ⟨by simp [M52.sel, f.1, h2], fun k hk => ?_⟩
  simp only [M52.sel, List.mem_map] at hk
  obtain ⟨j, hj, rfl⟩ := hk
  have hlt : j < c.length := by rw [o.lc]; exact f.2 j hj
  rw [List.getD_eq_getElem?_getD, List.getElem?_eq_getElem hlt]
  exact o.oc.2 _ (List.getElem_mem hlt)
theorem size_ge : 1000 ≤ sizeLine := by unfold sizeLine; decide
def val : D → Int
  | .int i => i
  | _ => 0
theorem val_map (l : List Int) : (l.map D.int).map val = l := by
  rw [List.map_map]
  exact List.map_id l
def prodD (w : List Int) : D → D
  | .tup ds => .int (prodI (ds.map val) w 1)
  | d => d
/-- the sum of the products over rows -/
def sumP (w : List Int) (L : List (List Int)) : Int := (L.map fun r => prodI r w 1).sum
theorem sum_map {α : Type} (f : α → Int) (L : List α) : dSum [.lst (L.map fun a => .int (f a))] = some (.per (.int (L.map f).sum)) := by
  have e : L.map (fun a => D.int (f a)) = (L.map f).map D.int := by simp
  rw [e]
  unfold dSum
  dsimp only
  rw [ints_map]
  rfl
theorem sumD (w : List Int) (L : List (List Int)) : dSum [.lst ((L.map fun r => D.tup (r.map .int)).map (prodD w))] = some (.per (.int (sumP w L))) := by
  have e : (L.map fun r => D.tup (r.map .int)).map (prodD w) = L.map fun r => .int (prodI r w 1) := by
    rw [List.map_map]
    refine List.map_congr_left fun r _ => ?_
    show prodD w (.tup (r.map .int)) = _
    unfold prodD
    dsimp only
    rw [val_map]
  rw [e, sum_map]
  rfl
theorem sum_lg (hw : okW w) (L : List (List Int)) (hL : ∀ r ∈ L, okC r) (hl : L.length ≤ 24) : lg (sumP w L) 800 := by
  refine lg_mono (lg_sum (k := 700) _ fun x hx => ?_) (by simp; omega)
  simp only [List.mem_map] at hx
  obtain ⟨r, hr, rfl⟩ := hx
  exact prod_lg r w (hL r hr) hw
/-! ### the program's own sum -/
def perms (c : List Int) : List (List Int) := (ordn c.length).map (sel c 0)
theorem OC.perms (o : OC n c w) : ∀ r ∈ perms c, okC r := fun r hr => by
  simp only [M52.perms, List.mem_map] at hr
  obtain ⟨x, hx, rfl⟩ := hr
  rw [o.lc] at hx
  exact o.sel hx
theorem OC.plen (o : OC n c w) : (M52.perms c).length ≤ 24 := by
  have h := (ordn_len n o.mem).1
  unfold M52.perms
  rw [List.length_map, o.lc]
  exact h
theorem ord_perms (o : OC n c w) (l : Nat) (st : Store) : Q (l + 5) 11 [.tup (c.map .int)] st = .ok (.lst ((perms c).map fun r => .tup (r.map .int))) st := by
  rw [ord_ok o l st]
  unfold perms
  rw [List.map_map, o.lc]
  rfl
theorem sums_lc (l : Nat) (hw : okW w) (L : List (List Int)) (hL : ∀ r ∈ L, okC r) (hl : L.length ≤ 24) (ρ : Env') (h1 : ρ[1]? = some (.val (.tup (w.map .int)))) (h4 : 4 < ρ.length) (st : Store) :
    sLcL (gN 4) sYes (kp (sFn (Q (l + 2) 9) (sCons (kp (sVar 4)) (sCons (kp (sVar 1)) sNil)))) ρ (L.map fun r => D.tup (r.map .int)) [] st = .ok ([] ++ (L.map fun r => D.tup (r.map .int)).map (prodD w)) st := by
  refine lc_map _ _ (fun d hd => ?_) (by simp; have := size_ge; omega)
  simp only [List.mem_map] at hd
  obtain ⟨r, hr, rfl⟩ := hd
  have e0 : (ρ.set 4 (SV.val (.tup (r.map .int))))[1]? = some (.val (.tup (w.map .int))) := by
    rw [List.getElem?_set_ne (by omega)]
    exact h1
  have e1 : (ρ.set 4 (SV.val (.tup (r.map .int))))[4]? = some (.val (.tup (r.map .int))) := by
    rw [List.getElem?_set_self h4]
  refine ⟨ρ.set 4 (.val (.tup (r.map .int))), rfl, rfl, ?_⟩
  have e := prod_ok l r w (hL r hr) hw st
  have e2 : prodD w (.tup (r.map .int)) = .int (prodI r w 1) := by unfold prodD; dsimp only; rw [val_map]
  rw [e2]
  exact w_kp (w_fn (w_cons (w_kp (w_var (by rw [e1]))) (w_cons (w_kp (w_var (by rw [e0]))) w_nil)) e)
theorem esum_plain (o : OC n c w) (l : Nat) (st : Store) : Q (l + 6) 12 [.tup (c.map .int), .tup (w.map .int), .bl false] st = .ok (.int (sumP w (perms c))) st := by
  rw [u12]
  have e1 := ord_perms o l st
  have e2 := sums_lc (l + 3) o.ow (perms c) o.perms o.plen [.val (.tup (c.map .int)), .val (.tup (w.map .int)), .val (.bl false), .val (.lst ((perms c).map fun r => D.tup (r.map .int))), .un] rfl (by simp) st
  refine f_rt rfl (s_seq (s_frz rfl (s_set (w_fn (w_cons (w_kp (w_var rfl)) w_nil) e1) rfl rfl)) (s_seq (s_ifF (t_tru (w_var rfl) rfl) s_skip) (s_seqR (s_frz rfl (s_ret (w_kp (w_call (w_cons (w_rd (w_lc (i_lst (w_kp (w_var rfl))) e2)) w_nil) ?_)))))))
  exact sumD w (perms c)
theorem tups_map : ∀ L : List (List Int), tups? (L.map fun r => D.tup (r.map .int)) = some L
  | [] => rfl
  | r :: L => by simp [tups?, ints_map, tups_map L]
def uniq (c : List Int) : List (List Int) := sortT (onceT (perms c))
theorem uniq_mem {r : List Int} : r ∈ uniq c ↔ r ∈ perms c := (sortT_perm _).mem_iff.trans once_mem
theorem uniq_nodup : (uniq c).Nodup := (sortT_perm _).nodup_iff.2 (once_nodup _)
theorem sort_set (o : OC n c w) : dSortSet (.lst ((perms c).map fun r => .tup (r.map .int))) = some (.fr ((uniq c).map fun r => .tup (r.map .int))) := by
  unfold dSortSet
  dsimp only
  rw [tups_map]
  have hne : perms c ≠ [] := by
    have h := (ordn_len n o.mem).2
    intro h2
    unfold perms at h2
    rw [o.lc, List.map_eq_nil_iff] at h2
    exact h h2
  have hall : ∀ r ∈ perms c, r.length = n ∧ tupOk n r = true := by
    intro r hr
    have hr2 := hr
    simp only [M52.perms, List.mem_map] at hr2
    obtain ⟨x, hx, rfl⟩ := hr2
    rw [o.lc] at hx
    have hlen : (sel c 0 x).length = n := by simp [sel, (ordn_fact n o.mem x hx).1]
    refine ⟨hlen, ?_⟩
    have q := (o.perms _ hr).2
    unfold tupOk
    rw [hlen]
    simp only [decide_true, Bool.true_and, List.all_eq_true, Bool.and_eq_true, decide_eq_true_eq]
    intro k hk
    have := q k hk
    omega
  obtain ⟨k, r, e⟩ : ∃ k r, perms c = k :: r := by
    cases h : perms c with
    | nil => exact absurd h hne
    | cons k r => exact ⟨k, r, rfl⟩
  have hl := o.plen
  have hk := hall k (by rw [e]; simp)
  have h2 := o.two
  unfold uniq
  rw [e] at hl hall ⊢
  dsimp only [Option.bind]
  rw [if_pos]
  simp only [Bool.and_eq_true, decide_eq_true_eq, List.all_eq_true]
  refine ⟨⟨by omega, by omega⟩, fun x hx => ?_⟩
  rw [hk.1]
  exact (hall x hx).2
theorem uniq_len (o : OC n c w) : (uniq c).length ≤ 24 := by
  have h : ∀ L : List (List Int), (onceT L).length ≤ L.length := by
    intro L
    induction L with
    | nil => exact Nat.le_refl _
    | cons a L ih =>
      unfold onceT
      split
      · simp; omega
      · simp; omega
  have := h (perms c)
  have h2 := o.plen
  unfold uniq
  rw [(sortT_perm _).length_eq]
  omega
theorem esum_unlike (o : OC n c w) (l : Nat) (st : Store) : Q (l + 6) 12 [.tup (c.map .int), .tup (w.map .int), .bl true] st = .ok (.int (sumP w (uniq c))) st := by
  rw [u12]
  have e1 := ord_perms o l st
  have e2 := sums_lc (l + 3) o.ow (uniq c) (fun r hr => o.perms r (uniq_mem.1 hr)) (uniq_len o) [.val (.tup (c.map .int)), .val (.tup (w.map .int)), .val (.bl true), .val (.lst ((uniq c).map fun r => D.tup (r.map .int))), .un] rfl (by simp) st
  refine f_rt rfl (s_seq (s_frz rfl (s_set (w_fn (w_cons (w_kp (w_var rfl)) w_nil) e1) rfl rfl)) (s_seq (s_ifT (t_tru (w_var rfl) rfl) (s_seq (s_set (s := .own ((uniq c).map fun (r : List Int) => D.tup (r.map D.int))) (w_un (w_rd (w_var rfl)) (sort_set o)) rfl rfl) s_skip)) (s_seqR (s_frz rfl (s_ret (w_kp (w_call (w_cons (w_rd (w_lc (i_lst (w_kp (w_var rfl))) e2)) w_nil) ?_)))))))
  exact sumD w (uniq c)
end M52
/-! The sums that the law takes by itself. -/
namespace M52
open PySem Ev
variable {n : Nat} {c w : List Int}
theorem ix_ints (c : List Int) (k : Nat) (h : k < c.length) (st : Store) : ixSt st (.tup (c.map .int)) (.int (k : Int)) = some (.per (.int (c.getD k 0))) := by
  have e1 : L2.ixN (c.map D.int).length (k : Int) = some k := by
    unfold L2.ixN
    rw [if_pos (by omega), if_pos (by rw [List.length_map]; omega)]
    rfl
  show dIx (.tup (c.map .int)) (.int (k : Int)) = _
  unfold dIx
  dsimp only
  unfold L2.atI
  rw [e1]
  simp [h]
def pick (c : List Int) : D → D
  | .int i => .int (c.getD i.toNat 0)
  | d => d
def ixs (x : List Nat) : List D := x.map fun k => .int ((k : Nat) : Int)
theorem pick_sel (c : List Int) (x : List Nat) : (ixs x).map (pick c) = (sel c 0 x).map .int := by
  unfold ixs sel
  rw [List.map_map, List.map_map]
  rfl
theorem inn (c : List Int) (x : List Nat) (hx : ∀ k ∈ x, k < c.length) (hl : x.length ≤ 4) (ρ : Env') (i : Nat) (h0 : ρ[0]? = some (.val (.tup (c.map .int)))) (hi : 0 < i) (hr : i < ρ.length) (st : Store) :
    sLcL (gN i) sYes (kp (sBinS ixSt (rd (sVar 0)) (rd (sVar i)))) ρ (ixs x) [] st = .ok ((sel c 0 x).map .int) st := by
  rw [← pick_sel]
  refine (lc_map (F := pick c) (ixs x) [] (fun d hd => ?_) (by have := size_ge; simp [ixs]; omega)).trans rfl
  unfold ixs at hd
  obtain ⟨k, hk, rfl⟩ := List.mem_map.1 hd
  refine ⟨ρ.set i (.val (.int (k : Int))), rfl, rfl, ?_⟩
  have e0 : (ρ.set i (SV.val (.int (k : Int))))[0]? = some (.val (.tup (c.map .int))) := by
    rw [List.getElem?_set_ne (by omega)]
    exact h0
  have e1 : (ρ.set i (SV.val (.int (k : Int))))[i]? = some (.val (.int (k : Int))) := by
    rw [List.getElem?_set_self hr]
  refine w_kp (w_binS (w_rd (w_var (by rw [e0]))) (w_rd (w_var (by rw [e1]))) ?_)
  exact ix_ints c k (hx k hk) st
/-- every order's product -/
def prodO (c w : List Int) : D → D
  | .tup ds => .int (prodI (sel c 0 (ds.map fun d => (val d).toNat)) w 1)
  | d => d
theorem back_ixs (x : List Nat) : (ixs x).map (fun d => (val d).toNat) = x := by
  unfold ixs
  rw [List.map_map]
  exact List.map_id x
theorem even_law (o : OC n c w) (l : Nat) (st : Store) : Q (l + 3) 25 [.tup (c.map .int), .tup (w.map .int)] st = .ok (.int (sumP w (perms c))) st := by
  rw [u25]
  have e1 : Q (l + 2) 24 [.int (n : Int)] st = .ok (.lst ((ordn n).map fun x => .tup (ixs x))) st := lord_ok o (l + 1) st
  have e2 : sLcL (gN 3) sYes (kp (sFn (Q (l + 2) 23) (sCons (kp (sLc (itS (kp (sVar 3))) (gN 4) sYes (kp (sBinS ixSt (rd (sVar 0)) (rd (sVar 4)))) [4])) (sCons (kp (sVar 1)) sNil)))) [.val (.tup (c.map .int)), .val (.tup (w.map .int)), .val (.int (n : Int)), .un, .un] ((ordn n).map fun x => .tup (ixs x)) [] st = .ok ([] ++ ((ordn n).map fun x => .tup (ixs x)).map (prodO c w)) st := by
    refine lc_map _ _ (fun d hd => ?_) (by have := size_ge; have := (ordn_len n o.mem).1; simp; omega)
    obtain ⟨x, hx, rfl⟩ := List.mem_map.1 hd
    have f := ordn_fact n o.mem x hx
    have h4 := o.four
    refine ⟨[.val (.tup (c.map .int)), .val (.tup (w.map .int)), .val (.int (n : Int)), .val (.tup (ixs x)), .un], rfl, rfl, ?_⟩
    have e3 := inn c x (fun k hk => by rw [o.lc]; exact f.2 k hk) (by omega) [.val (.tup (c.map .int)), .val (.tup (w.map .int)), .val (.int (n : Int)), .val (.tup (ixs x)), .un] 4 rfl (by omega) (by simp) st
    have e4 := prod_okL l (sel c 0 x) w (o.sel hx) o.ow st
    rw [← q23] at e4
    have e5 : prodO c w (.tup (ixs x)) = .int (prodI (sel c 0 x) w 1) := by
      unfold prodO
      dsimp only
      rw [back_ixs]
    rw [e5]
    exact w_kp (w_fn (w_cons (w_kpf (w_lc (i_tup (w_kp (w_var rfl))) e3)) (w_cons (w_kp (w_var rfl)) w_nil)) e4)
  refine f_rt rfl (s_seq (s_set (s := .val (.int (n : Int))) (w_call (w_cons (w_rd (w_var rfl)) w_nil) (show dLen [.tup (c.map .int)] = some (.per (.int (n : Int))) by simp [dLen, per, o.lc])) rfl rfl) (s_seqR (s_frz rfl (s_ret (w_kp (w_call (w_cons (w_rd (w_lc (i_lst (w_kp (w_fn (w_cons (w_kp (w_var rfl)) w_nil) e1))) e2)) w_nil) ?_))))))
  have e6 : ((ordn n).map fun x => D.tup (ixs x)).map (prodO c w) = (perms c).map fun r => .int (prodI r w 1) := by
    unfold perms
    rw [List.map_map, List.map_map, o.lc]
    refine List.map_congr_left fun x _ => ?_
    show prodO c w (.tup (ixs x)) = _
    unfold prodO
    dsimp only
    rw [back_ixs]
    rfl
  show dSum [.lst (((ordn n).map fun x => D.tup (ixs x)).map (prodO c w))] = _
  rw [e6, sum_map]
  rfl
/-! ### each content once -/
theorem eqvs_ints : ∀ a b : List Int, D.eqvs (a.map .int) (b.map .int) = decide (a = b)
  | [], [] => by simp [D.eqvs]
  | [], _ :: _ => by simp [D.eqvs]
  | _ :: _, [] => by simp [D.eqvs]
  | x :: a, y :: b => by
    have h := eqvs_ints a b
    simp only [List.map_cons, D.eqvs, D.eqv, h]
    by_cases h1 : x = y <;> by_cases h2 : a = b <;> simp [h1, h2]
theorem pls_tups (l : Nat) : ∀ L : List (List Int), D.pls (l + 1) (L.map fun r => D.tup (r.map .int)) = true
  | [] => by simp [D.pls]
  | r :: L => by simp only [List.map_cons, D.pls, D.pl, pls_ints, pls_tups l L, Bool.and_self]
theorem notIn (r : List Int) (L : List (List Int)) : dNotIn (.tup (r.map .int)) (.lst (L.map fun r => D.tup (r.map .int))) = some (.per (.bl (!decide (r ∈ L)))) := by
  have e1 : D.pl 60 (.tup (r.map .int)) = true := pls_ints 59 r
  have e2 : D.pls 59 (L.map fun r => D.tup (r.map .int)) = true := pls_tups 58 L
  have e3 : (L.map fun r => D.tup (r.map .int)).any (fun z => D.eqv z (.tup (r.map .int))) = decide (r ∈ L) := by
    rw [List.any_map]
    induction L with
    | nil => simp
    | cons a L ih =>
      rw [List.any_cons, ih (pls_tups 58 L)]
      have : D.eqv (.tup (a.map .int)) (.tup (r.map .int)) = decide (a = r) := by unfold D.eqv; exact eqvs_ints a r
      simp only [Function.comp, this]
      by_cases h1 : r = a
      · subst h1
        simp
      · have h2 : ¬ a = r := fun h => h1 h.symm
        simp [h1, h2]
  unfold dNotIn dInB
  dsimp only
  rw [if_pos ⟨e1, e2⟩, e3]
  rfl
def met : List (List Int) → List (List Int) → List (List Int)
  | acc, [] => acc
  | acc, r :: L => if r ∈ acc then met acc L else met (acc ++ [r]) L
theorem met_mem {r : List Int} : ∀ (L acc : List (List Int)), r ∈ met acc L ↔ r ∈ acc ∨ r ∈ L
  | [], acc => by simp [met]
  | a :: L, acc => by
    unfold met
    split
    · rename_i h
      rw [met_mem L acc]
      constructor
      · rintro (h1 | h1)
        · exact .inl h1
        · exact .inr (List.mem_cons_of_mem _ h1)
      · rintro (h1 | h1)
        · exact .inl h1
        · rcases List.mem_cons.1 h1 with rfl | h1
          · exact .inl h
          · exact .inr h1
    · rw [met_mem L (acc ++ [a])]
      simp [or_assoc]
theorem met_nodup : ∀ (L acc : List (List Int)), acc.Nodup → (met acc L).Nodup
  | [], acc, h => h
  | a :: L, acc, h => by
    unfold met
    split
    · exact met_nodup L acc h
    · rename_i h1
      refine met_nodup L _ ?_
      rw [List.nodup_append]
      refine ⟨h, by simp, ?_⟩
      intro x hx y hy
      simp only [List.mem_singleton] at hy
      subst hy
      intro e
      exact h1 (e ▸ hx)
theorem met_perm : (met [] (perms c)).Perm (uniq c) := (List.perm_ext_iff_of_nodup (met_nodup _ _ List.nodup_nil) uniq_nodup).2 fun r => by
  rw [met_mem, uniq_mem]
  simp
theorem sum_perm {A B : List Int} (h : A.Perm B) : A.sum = B.sum := by
  induction h with
  | nil => rfl
  | cons x _ ih => rw [List.sum_cons, List.sum_cons, ih]
  | swap x y l => rw [List.sum_cons, List.sum_cons, List.sum_cons, List.sum_cons]; omega
  | trans _ _ h1 h2 => exact h1.trans h2
theorem sum_met (w : List Int) : sumP w (met [] (perms c)) = sumP w (uniq c) := sum_perm (met_perm.map _)
theorem met_len : ∀ (L acc : List (List Int)), (met acc L).length ≤ acc.length + L.length
  | [], acc => Nat.le_refl _
  | a :: L, acc => by
    unfold met
    split
    · have := met_len L acc
      simp; omega
    · have := met_len L (acc ++ [a])
      simp at this ⊢; omega
def bUnl : SS := (sSeq (sFrz [3] (sSet 4 (sCall dTuple (sCons (rd (sLc (itS (kp (sVar 3))) (gN 5) sYes (kp (sBinS ixSt (rd (sVar 0)) (rd (sVar 5)))) [5])) sNil)))) (sSeq (sIfS (sBoolT (sBin dNotIn (rd (sVar 4)) (rd (sVar 2)))) (sSeq (sFrz [4] (sMut 2 lAppend (sCons (kp (sVar 4)) sNil))) sSkip) sSkip) sSkip))
def tups (L : List (List Int)) : List D := L.map fun r => D.tup (r.map .int)
theorem unl_loop (W : D) (st : Store) : ∀ (X : List (List Nat)) (acc : List (List Int)) (a b : SV), (∀ x ∈ X, x.length ≤ 4 ∧ ∀ k ∈ x, k < c.length) → acc.length + X.length < 1000 → isV a = true → isV b = true →
    ∃ a' b', sForL (gN 3) bUnl (X.map fun x => .tup (ixs x)) [.val (.tup (c.map .int)), .val W, .own (tups acc), a, b, .un] st = .nx [.val (.tup (c.map .int)), .val W, .own (tups (met acc (X.map (sel c 0)))), a', b', .un] st ∧ isV b' = true
  | [], acc, a, b, _, _, _, hb => ⟨a, b, rfl, hb⟩
  | x :: X, acc, a, b, hX, hl, ha, hb => by
    have hx := hX x (by simp)
    have hl : acc.length + (X.length + 1) < 1000 := hl
    have e1 := inn c x hx.2 hx.1 [.val (.tup (c.map .int)), .val W, .own (tups acc), .val (.tup (ixs x)), b, .un] 5 rfl (by omega) (by simp) st
    have e2 := notIn (sel c 0 x) acc
    have e3 : sFrz [3] (sSet 4 (sCall dTuple (sCons (rd (sLc (itS (kp (sVar 3))) (gN 5) sYes (kp (sBinS ixSt (rd (sVar 0)) (rd (sVar 5)))) [5])) sNil))) [.val (.tup (c.map .int)), .val W, .own (tups acc), .val (.tup (ixs x)), b, .un] st = .nx [.val (.tup (c.map .int)), .val W, .own (tups acc), .val (.tup (ixs x)), .val (.tup ((sel c 0 x).map .int)), .un] st :=
      s_frz rfl (s_set (s := .val (.tup ((sel c 0 x).map .int))) (w_call (w_cons (w_rd (w_lc (i_tup (w_kp (w_var rfl))) e1)) w_nil) rfl) rfl rfl)
    by_cases hm : sel c 0 x ∈ acc
    · obtain ⟨a', b', h, hb'⟩ := unl_loop W st X acc (.val (.tup (ixs x))) (.val (.tup ((sel c 0 x).map .int))) (fun y hy => hX y (List.mem_cons_of_mem _ hy)) (by omega) rfl rfl
      refine ⟨a', b', l_nx rfl (s_seq e3 (s_seq (s_ifF (t_bool (w_bin (w_rd (w_var rfl)) (w_rd (w_var rfl)) (e2.trans (by simp [hm])))) s_skip) s_skip)) ?_, hb'⟩
      rw [h, List.map_cons, met, if_pos hm]
    · obtain ⟨a', b', h, hb'⟩ := unl_loop W st X (acc ++ [sel c 0 x]) (.val (.tup (ixs x))) (.val (.tup ((sel c 0 x).map .int))) (fun y hy => hX y (List.mem_cons_of_mem _ hy)) (by simp; omega) rfl rfl
      have e4 : sFrz [4] (sMut 2 lAppend (sCons (kp (sVar 4)) sNil)) [.val (.tup (c.map .int)), .val W, .own (tups acc), .val (.tup (ixs x)), .val (.tup ((sel c 0 x).map .int)), .un] st = .nx [.val (.tup (c.map .int)), .val W, .own (tups (acc ++ [sel c 0 x])), .val (.tup (ixs x)), .val (.tup ((sel c 0 x).map .int)), .un] st := by
        have hs : acc.length < sizeLine := by have := size_ge; omega
        simp [sMut, semF, sSeq, sSkip, sRet, sRetN, thenS, kp, rd, RV.d, M.bind, M.pure, M.bad, M.rdr, M.opt', M.cell, M.act, sVar, sC, sNil, sCons, sTup, sLst, sBin, sUn, sCall, sBinS, sChain, sAndT, sOrT, sNotT, sAndV, sOrV, sNotV, sIf, sBoolT, sTru, tru, isT, deref, per, yes, sFn, sFrz, thaw, sIfS, sSet, slot, sPar, sAsgT, gN, gT, gsCons, gsNil, sLc, sLcL, sYes, M.ne, wipeE, itS, sDrop, lAppend, tups, hs]
      refine ⟨a', b', l_nx rfl (s_seq e3 (s_seq (s_ifT (t_bool (w_bin (w_rd (w_var rfl)) (w_rd (w_var rfl)) (e2.trans (by simp [hm])))) (s_seq e4 s_skip)) s_skip)) ?_, hb'⟩
      rw [h, List.map_cons, met, if_neg hm]
theorem thaw_v {b : SV} (h : isV b = true) : thaw b = b := by cases b <;> first | rfl | exact Bool.noConfusion h
theorem unlike_law (o : OC n c w) (l : Nat) (st : Store) : Q (l + 3) 26 [.tup (c.map .int), .tup (w.map .int)] st = .ok (.int (sumP w (uniq c))) st := by
  rw [u26]
  have e1 : Q (l + 2) 24 [.int (n : Int)] st = .ok (.lst ((ordn n).map fun x => .tup (ixs x))) st := lord_ok o (l + 1) st
  have h4 := o.four
  obtain ⟨a', b', e2, hb⟩ := unl_loop (c := c) (.tup (w.map .int)) st (ordn n) [] .un .un (fun x hx => by
    have f := ordn_fact n o.mem x hx
    exact ⟨by omega, fun k hk => by rw [o.lc]; exact f.2 k hk⟩) (by have := (ordn_len n o.mem).1; simp; omega) rfl rfl
  have ep : (ordn n).map (sel c 0) = perms c := by unfold perms; rw [o.lc]
  rw [ep] at e2
  have hl : (met [] (perms c)).length ≤ 24 := Nat.le_trans (met_len _ _) (by have := o.plen; simpa using this)
  have e3 := sums_lc l o.ow (met [] (perms c)) (fun r hr => o.perms r (by simpa using (met_mem _ _).1 hr)) hl [.val (.tup (c.map .int)), .val (.tup (w.map .int)), .val (.lst (tups (met [] (perms c)))), a', .un, .un] rfl (by simp) st
  rw [← q23] at e3
  refine f_rt rfl (s_seq (s_set (s := .own (tups [])) (w_lst w_nil (Nat.zero_le _)) rfl rfl) (s_seq (s_for (i_lst (w_kp (w_fn (w_cons (w_kp (w_call (w_cons (w_rd (w_var rfl)) w_nil) (show dLen [.tup (c.map .int)] = some (.per (.int (n : Int))) by simp [dLen, per, o.lc]))) w_nil) e1))) e2) (s_seqR (s_frz (ρ' := [.val (.tup (c.map .int)), .val (.tup (w.map .int)), .val (.lst (tups (met [] (perms c)))), a', b', .un]) ?_ (s_ret (w_kp (w_call (w_cons (w_rd (w_lc (i_lst (w_kp (w_var rfl))) e3)) w_nil) ?_)))))))
  · cases b' <;> first | rfl | exact Bool.noConfusion hb
  · exact (sumD w (met [] (perms c))).trans (by rw [sum_met])
end M52
/-! What is drawn. -/
namespace M52
open PySem Ev
theorem lg_nn {x : Int} {k : Nat} (h0 : 0 ≤ x) (h : x.toNat < 2 ^ k) : lg x k := by
  unfold lg
  omega
theorem mod_ok (i : Int) {j : Int} (h : 0 < j) : dMod (.int i) (.int j) = some (.per (.int (i % j))) := by
  unfold dMod
  dsimp only
  rw [if_pos h]
  rfl
theorem mix_ok (l : Nat) (x : Int) (k : Nat) (hk : k ≤ 3000) (st : Store) : ∃ v, Q (l + 1) 18 [.int x, .int (k : Int)] st = .ok (.int v) st ∧ 0 ≤ v ∧ v < 2147483629 := by
  rw [u18]
  have p31 : (2 : Nat) ^ 31 = 2147483648 := by decide
  have hx0 : 0 ≤ x % 2147483647 := Int.emod_nonneg _ (by decide)
  have hx1 : x % 2147483647 < 2147483647 := Int.emod_lt_of_pos _ (by decide)
  generalize hy : x % 2147483647 = y at hx0 hx1
  have ec : ((2 * k * k : Nat) : Int) = 2 * (k : Int) * (k : Int) := by simp
  have kk : (2 * (k : Int)) * (k : Int) ≤ 18000000 := by
    have h : 2 * k * k ≤ 2 * 3000 * 3000 := Nat.mul_le_mul (Nat.mul_le_mul_left 2 hk) hk
    omega
  have kk0 : 0 ≤ (2 * (k : Int)) * (k : Int) := by omega
  have m1 : dMulA (.int 2) (.int (k : Int)) = some (.per (.int (2 * (k : Int)))) := mulA_lg (lg_nn (k := 31) (by omega) (by omega)) (lg_nn (k := 31) (by omega) (by omega)) (by omega)
  have m2 : dMulA (.int (2 * (k : Int))) (.int (k : Int)) = some (.per (.int (2 * (k : Int) * (k : Int)))) := mulA_lg (lg_nn (k := 31) (by omega) (by omega)) (lg_nn (k := 31) (by omega) (by omega)) (by omega)
  generalize hz : 2 * (k : Int) * (k : Int) = z at kk kk0 m2
  have m3 : dMulA (.int y) (.int (48271 + z)) = some (.per (.int (y * (48271 + z)))) := mulA_lg (lg_nn (k := 31) (by omega) (by omega)) (lg_nn (k := 31) (by omega) (by omega)) (by omega)
  have m4 : dMulA (.int 69621) (.int (k : Int)) = some (.per (.int (69621 * (k : Int)))) := mulA_lg (lg_nn (k := 31) (by omega) (by omega)) (lg_nn (k := 31) (by omega) (by omega)) (by omega)
  generalize hu : y * (48271 + z) + 69621 * (k : Int) + 11 = u
  have hu0 : 0 ≤ u % 2147483647 := Int.emod_nonneg _ (by decide)
  have hu1 : u % 2147483647 < 2147483647 := Int.emod_lt_of_pos _ (by decide)
  have m5 : dMulA (.int (u % 2147483647)) (.int 69621) = some (.per (.int (u % 2147483647 * 69621))) := mulA_lg (lg_nn (k := 31) (by omega) (by omega)) (lg_nn (k := 31) (by omega) (by omega)) (by omega)
  refine ⟨u % 2147483647 * 69621 % 2147483629, ?_, Int.emod_nonneg _ (by decide), Int.emod_lt_of_pos _ (by decide)⟩
  have a1 : dAdd (.int (y * (48271 + z))) (.int (69621 * (k : Int))) = some (.per (.int (y * (48271 + z) + 69621 * (k : Int)))) := rfl
  have a2 : dAdd (.int (y * (48271 + z) + 69621 * (k : Int))) (.int 11) = some (.per (.int u)) := by rw [← hu]; rfl
  have a3 : dAdd (.int 48271) (.int z) = some (.per (.int (48271 + z))) := rfl
  have b1 := mod_ok x (show (0 : Int) < 2147483647 by decide)
  rw [hy] at b1
  have b2 := mod_ok u (show (0 : Int) < 2147483647 by decide)
  have b3 := mod_ok (u % 2147483647 * 69621) (show (0 : Int) < 2147483629 by decide)
  refine f_rt rfl (s_seq (s_set (s := .val (.int y)) (w_bin (w_rd (w_call (w_cons (w_rd (w_var rfl)) w_nil) rfl)) (w_rd w_c) b1) rfl rfl) (s_seqR (s_ret ?_)))
  repeat' (first | exact w_c | exact w_nil | exact s_skip | exact t_yes | exact w_pn | exact w_var rfl | with_reducible apply w_rd | with_reducible apply w_kpl | with_reducible apply w_kp | with_reducible apply w_cons | with_reducible apply w_bin | with_reducible apply w_binS | with_reducible apply w_call | with_reducible apply w_un | with_reducible apply w_fn | with_reducible apply w_fnD | with_reducible apply w_fnK | with_reducible apply w_tup | with_reducible apply w_lst | with_reducible apply w_ps | with_reducible apply w_slice | with_reducible apply t_bool | with_reducible apply t_not | assumption | rfl)
/-! ### what stands between two draws -/
def kc : Int ⊕ Str := Sum.inr "cells"
def kl : Int ⊕ Str := Sum.inr "lefts"
def ka : Int ⊕ Str := Sum.inr "at"
def ST (ls cs : List D) (a : Int) : Store := [.lst ls, .dct [(kc, .lst cs), (kl, .cell 0), (ka, .int a)]]
def WS (st : Store) (a : Nat) : Prop := ∃ ls cs : List Int, st = ST (ls.map .int) (cs.map .int) a ∧ ls.length = cs.length ∧ 0 < cs.length ∧ cs.length ≤ 64
variable {ls cs : List D} {a b : Int}
theorem g_at : ixSt (ST ls cs a) (.cell 1) (.str "at") = some (.per (.int a)) := by kernel_rfl
theorem g_cells : ixSt (ST ls cs a) (.cell 1) (.str "cells") = some (.per (.lst cs)) := by kernel_rfl
theorem g_lefts : ixSt (ST ls cs a) (.cell 1) (.str "lefts") = some (.per (.cell 0)) := by kernel_rfl
theorem p_at : setSt (.cell 1) (.str "at") (.int b) (ST ls cs a) = some ((), ST ls cs b) := by kernel_rfl
theorem ix_lst (c : List Int) (k : Int) (h0 : 0 ≤ k) (h : k < c.length) : dIx (.lst (c.map .int)) (.int k) = some (.per (.int (c.getD k.toNat 0))) := by
  have e1 : L2.ixN (c.map D.int).length k = some k.toNat := by
    unfold L2.ixN
    rw [if_pos h0, if_pos (by rw [List.length_map]; omega)]
  have e2 : k.toNat < c.length := by omega
  unfold dIx
  dsimp only
  unfold L2.atI
  rw [e1]
  simp [e2]
theorem g_left (c : List Int) (k : Int) (h0 : 0 ≤ k) (h : k < c.length) : ixSt (ST (c.map .int) cs a) (.cell 0) (.int k) = some (.per (.int (c.getD k.toNat 0))) := (show _ = dIx (.lst (c.map .int)) (.int k) from rfl).trans (ix_lst c k h0 h)
theorem g_cell (st : Store) (c : List Int) (k : Int) (h0 : 0 ≤ k) (h : k < c.length) : ixSt st (.lst (c.map .int)) (.int k) = some (.per (.int (c.getD k.toNat 0))) := (show _ = dIx (.lst (c.map .int)) (.int k) from rfl).trans (ix_lst c k h0 h)
theorem p_left (c : List Int) (k v : Int) (h0 : 0 ≤ k) (h : k < c.length) : setSt (.cell 0) (.int k) (.int v) (ST (c.map .int) cs a) = some ((), ST ((c.set k.toNat v).map .int) cs a) := by
  have e1 : L2.ixN (c.map D.int).length k = some k.toNat := by
    unfold L2.ixN
    rw [if_pos h0, if_pos (by rw [List.length_map]; omega)]
  show (L2.ixN (c.map D.int).length k).map (fun n => ((), (ST (c.map .int) cs a).set 0 (.lst ((c.map D.int).set n (.int v))))) = _
  rw [e1]
  show some ((), (ST (c.map .int) cs a).set 0 (.lst ((c.map D.int).set k.toNat (.int v)))) = _
  rw [← List.map_set]
  rfl
theorem div_ok (i : Int) {j : Int} (h : 0 < j) (h2 : j ≤ 1000) : dDiv (.int i) (.int j) = some (.per (.int (i / j))) := by
  have e10 : (2 : Nat) ^ 10 = 1024 := by decide
  have h3 := lg_log (x := j) (k := 10) (lg_nn (by omega) (by omega))
  unfold dDiv
  dsimp only
  rw [if_pos ⟨h, by omega⟩]
  rfl
theorem s_setIx {ρ : Env'} {st st' : Store} {f fo fi : Env' → M D} {d o i : D} (h : f ρ st = .ok d st) (h1 : fo ρ st = .ok o st) (h2 : fi ρ st = .ok i st) (h3 : setSt o i d st = some ((), st')) : sSetIx f fo fi ρ st = .nx ρ st' := by
  unfold sSetIx thenS M.bind M.act
  dsimp only
  rw [h]
  dsimp only
  rw [h1]
  dsimp only
  rw [h2]
  dsimp only
  rw [h3]
theorem draw_ok (l : Nat) {st : Store} {a : Nat} (ha : a ≤ 1000) {m : Int} (hm : 0 < m) (hm2 : m ≤ 1000) (ws : WS st a) : ∃ v st', Q (l + 2) 19 [.cell 1, .int m] st = .ok (.int v) st' ∧ 0 ≤ v ∧ v < m ∧ WS st' (a + 1) := by
  obtain ⟨ls, cs, rfl, hlen, hpos, h64⟩ := ws
  rw [u19]
  have hp0 : 0 ≤ (a : Int) % (cs.length : Int) := Int.emod_nonneg _ (by omega)
  have hp1 : (a : Int) % (cs.length : Int) < cs.length := Int.emod_lt_of_pos _ (by omega)
  generalize hp : (a : Int) % (cs.length : Int) = p at hp0 hp1
  have hq1 : p < ls.length := by omega
  have ea : dAdd (.int (a : Int)) (.int 1) = some (.per (.int ((a + 1 : Nat) : Int))) := rfl
  have el : dLen [.lst (cs.map .int)] = some (.per (.int (cs.length : Int))) := by simp [dLen, per]
  have em := mod_ok (a : Int) (show (0 : Int) < (cs.length : Int) by omega)
  rw [hp] at em
  have e1 : sSetN 0 (kp (sBin dAdd (rd (sVar 2)) (rd (sC (.int 1))))) (rd (sC (.str "at"))) [.val (.cell 1), .val (.int m), .val (.int (a : Int)), .un, .un, .un] (ST (ls.map .int) (cs.map .int) a) = .nx [.val (.cell 1), .val (.int m), .val (.int (a : Int)), .un, .un, .un] (ST (ls.map .int) (cs.map .int) ((a + 1 : Nat) : Int)) := by
    show sSetIx _ (rd (sVar 0)) _ _ _ = _
    exact s_setIx (w_kp (w_bin (w_rd (w_var rfl)) (w_rd w_c) ea)) (w_rd (w_var rfl)) (w_rd w_c) p_at
  have e2 : sSet 3 (sBin dMod (rd (sCall dInt (sCons (rd (sVar 2)) sNil))) (rd (sCall dLen (sCons (rd (sBinS ixSt (rd (sVar 0)) (rd (sC (.str "cells"))))) sNil)))) [.val (.cell 1), .val (.int m), .val (.int (a : Int)), .un, .un, .un] (ST (ls.map .int) (cs.map .int) ((a + 1 : Nat) : Int)) = .nx [.val (.cell 1), .val (.int m), .val (.int (a : Int)), .val (.int p), .un, .un] (ST (ls.map .int) (cs.map .int) ((a + 1 : Nat) : Int)) :=
    s_set (s := .val (.int p)) (w_bin (w_rd (w_call (w_cons (w_rd (w_var rfl)) w_nil) rfl)) (w_rd (w_call (w_cons (w_rd (w_binS (w_rd (w_var rfl)) (w_rd w_c) g_cells)) w_nil) el)) em) rfl rfl
  have e3 : sSet 4 (sBinS ixSt (rd (sBinS ixSt (rd (sVar 0)) (rd (sC (.str "lefts"))))) (rd (sVar 3))) [.val (.cell 1), .val (.int m), .val (.int (a : Int)), .val (.int p), .un, .un] (ST (ls.map .int) (cs.map .int) ((a + 1 : Nat) : Int)) = .nx [.val (.cell 1), .val (.int m), .val (.int (a : Int)), .val (.int p), .val (.int (ls.getD p.toNat 0)), .un] (ST (ls.map .int) (cs.map .int) ((a + 1 : Nat) : Int)) :=
    s_set (s := .val (.int (ls.getD p.toNat 0))) (w_binS (w_rd (w_binS (w_rd (w_var rfl)) (w_rd w_c) g_lefts)) (w_rd (w_var rfl)) (g_left ls p hp0 hq1)) rfl rfl
  generalize hL : ls.getD p.toNat 0 = L at e3
  by_cases hL0 : 0 < L
  · refine ⟨L % m, ST ((ls.set p.toNat (L / m)).map .int) (cs.map .int) ((a + 1 : Nat) : Int), ?_, Int.emod_nonneg _ (by omega), Int.emod_lt_of_pos _ hm, ls.set p.toNat (L / m), cs, rfl, by simpa using hlen, hpos, h64⟩
    have ed := div_ok L hm hm2
    have eg : dGt (.int L) (.int 0) = some (.per (.bl true)) := by simp [dGt, hL0]; rfl
    have e4 : sSetIx (kp (sBin dDiv (rd (sVar 4)) (rd (sVar 1)))) (rd (sBinS ixSt (rd (sVar 0)) (rd (sC (.str "lefts"))))) (rd (sVar 3)) [.val (.cell 1), .val (.int m), .val (.int (a : Int)), .val (.int p), .val (.int L), .un] (ST (ls.map .int) (cs.map .int) ((a + 1 : Nat) : Int)) = .nx [.val (.cell 1), .val (.int m), .val (.int (a : Int)), .val (.int p), .val (.int L), .un] (ST ((ls.set p.toNat (L / m)).map .int) (cs.map .int) ((a + 1 : Nat) : Int)) :=
      s_setIx (w_kp (w_bin (w_rd (w_var rfl)) (w_rd (w_var rfl)) ed)) (w_rd (w_binS (w_rd (w_var rfl)) (w_rd w_c) g_lefts)) (w_rd (w_var rfl)) (p_left ls p (L / m) hp0 hq1)
    refine f_rt rfl (s_seq (s_set (s := .val (.int (a : Int))) (w_binS (w_rd (w_var rfl)) (w_rd w_c) g_at) rfl rfl) (s_seq e1 (s_seq e2 (s_seq e3 (s_seqR (s_ifT (t_bool (w_bin (w_rd (w_var rfl)) (w_rd w_c) eg)) (s_seq e4 (s_seqR (s_ret (w_kp (w_bin (w_rd (w_call (w_cons (w_rd (w_var rfl)) w_nil) rfl)) (w_rd (w_var rfl)) (mod_ok L hm)))))))))))) 
  · have eg : dGt (.int L) (.int 0) = some (.per (.bl false)) := by simp [dGt, hL0]; rfl
    obtain ⟨x1, m1, m2, m3⟩ := mix_ok l (cs.getD p.toNat 0) a (by omega) (ST (ls.map .int) (cs.map .int) ((a + 1 : Nat) : Int))
    obtain ⟨x2, m4, m5, m6⟩ := mix_ok l x1 (40 + a) (by omega) (ST (ls.map .int) (cs.map .int) ((a + 1 : Nat) : Int))
    obtain ⟨x3, m7, m8, m9⟩ := mix_ok l x2 (7 + a) (by omega) (ST (ls.map .int) (cs.map .int) ((a + 1 : Nat) : Int))
    have p31 : (2 : Nat) ^ 31 = 2147483648 := by decide
    have mm : dMulA (.int x2) (.int 2147483647) = some (.per (.int (x2 * 2147483647))) := mulA_lg (lg_nn (k := 31) (by omega) (by omega)) (lg_nn (k := 31) (by omega) (by omega)) (by omega)
    have a40 : dAdd (.int 40) (.int (a : Int)) = some (.per (.int ((40 + a : Nat) : Int))) := rfl
    have a7 : dAdd (.int 7) (.int (a : Int)) = some (.per (.int ((7 + a : Nat) : Int))) := rfl
    have ad : dAdd (.int (x2 * 2147483647)) (.int x3) = some (.per (.int (x2 * 2147483647 + x3))) := rfl
    generalize x2 * 2147483647 + x3 = y at ad
    have dv := div_ok y (show (0 : Int) < 64 by decide) (by decide)
    generalize y / 64 = z at dv
    have md := mod_ok z hm
    have gc := g_cell (ST (ls.map .int) (cs.map .int) ((a + 1 : Nat) : Int)) cs p hp0 hp1
    refine ⟨z % m, ST (ls.map .int) (cs.map .int) ((a + 1 : Nat) : Int), ?_, Int.emod_nonneg _ (by omega), Int.emod_lt_of_pos _ hm, ls, cs, rfl, hlen, hpos, h64⟩
    refine f_rt rfl (s_seq (s_set (s := .val (.int (a : Int))) (w_binS (w_rd (w_var rfl)) (w_rd w_c) g_at) rfl rfl) (s_seq e1 (s_seq e2 (s_seq e3 (s_seq (s_ifF (t_bool (w_bin (w_rd (w_var rfl)) (w_rd w_c) eg)) s_skip) (s_seq (s_frz rfl (s_set (s := .val (.int x2)) (w_fn (w_cons (w_kp (w_fn (w_cons (w_kp (w_binS (w_rd (w_binS (w_rd (w_var rfl)) (w_rd w_c) g_cells)) (w_rd (w_var rfl)) gc)) (w_cons (w_kp (w_var rfl)) w_nil)) m1)) (w_cons (w_kp (w_bin (w_rd w_c) (w_rd (w_var rfl)) a40)) w_nil)) m4) rfl rfl)) (s_seqR (s_frz rfl (s_ret ?_)))))))))
    refine w_kp (w_bin (w_rd (w_bin (w_rd (w_call (w_cons (w_rd (w_bin (w_rd (w_bin (w_rd (w_var rfl)) (w_rd w_c) mm)) (w_rd (w_fn (w_cons (w_kp (w_var rfl)) (w_cons (w_kp (w_bin (w_rd w_c) (w_rd (w_var rfl)) a7)) w_nil)) m7)) ad)) w_nil) rfl)) (w_rd w_c) dv)) (w_rd (w_var rfl)) md)
end M52
/-! What is asked, and what is like what. -/
namespace M52
open PySem Ev
variable {n : Nat} {c w : List Int}
/-! ### like -/
theorem like_ok (l : Nat) {d : D} {s : Str} (h : dRepr [d] = some (.per (.str s))) (hp : pln d = true) (st : Store) : Q (l + 1) 21 [d, d] st = .ok (.bl true) st := by
  rw [u21]
  have e : dRepr ([d].map (deref st)) = some (.per (.str s)) := by
    rw [List.map_cons, List.map_nil, der st hp]
    exact h
  refine f_rt rfl (s_seqR (s_ret (w_kp (w_bin (w_rd (w_call (w_cons (w_rd (w_var rfl)) w_nil) e)) (w_rd (w_call (w_cons (w_rd (w_var rfl)) w_nil) e)) ?_))))
  show dEq (.str s) (.str s) = _
  simp [dEq, yes]
theorem like_int (l : Nat) {i : Int} (h : lg i 800) (st : Store) : Q (l + 1) 21 [.int i, .int i] st = .ok (.bl true) st := by
  obtain ⟨s, e⟩ := repr_int (i := i) (by have := lg_log h; omega)
  exact like_ok l e rfl st
def words : List Str := ["BadMany", "BadContent", "BadWorths", "BadTotal"]
theorem words_len : ∀ x ∈ words, (PySem.reprText x).length ≤ 20 := by decide +kernel
theorem words_ok : ∀ x ∈ words, PyData.strOk x = true := by decide +kernel
theorem big : 5000 ≤ sizeLine := by unfold sizeLine; decide
theorem like_told (l : Nat) {x : Str} {d : D} (hx : x ∈ words) (hb : bd d ≤ 200) (hd : D.pl 59 d = true) (st : Store) : Q (l + 1) 21 [.lst [.str x, d], .lst [.str x, d]] st = .ok (.bl true) st := by
  have h1 := words_len x hx
  have h2 := words_ok x hx
  have h3 := big
  obtain ⟨s, e⟩ := repr_lst (ds := [.str x, d]) (by
    simp only [bd, bds]
    omega) (by
    simp only [D.pl, D.pls, h2, hd, Bool.and_self])
  exact like_ok l e rfl st
theorem like_ints (l : Nat) {ns : List Int} (h : ∀ x ∈ ns, -101 ≤ x ∧ x ≤ 101) (hl : ns.length ≤ 10) (st : Store) : Q (l + 1) 21 [.tup (ns.map .int), .tup (ns.map .int)] st = .ok (.bl true) st := by
  have h2 := bds_ints ns h
  have h3 := big
  obtain ⟨s, e⟩ := repr_tup (ds := ns.map .int) (by
    simp only [bd]
    omega) (pls_ints 59 ns)
  exact like_ok l e rfl st
theorem bds_tups : ∀ (L : List (List Int)), (∀ r ∈ L, r.length ≤ 4 ∧ ∀ x ∈ r, -101 ≤ x ∧ x ≤ 101) → bds (tups L) ≤ 40 * L.length
  | [], _ => by simp [tups, bds]
  | r :: L, h => by
    have q := bds_tups L (fun m hm => h m (List.mem_cons_of_mem _ hm))
    have e := bds_ints r (h r (by simp)).2
    have e2 := (h r (by simp)).1
    simp only [tups, List.map_cons, bds, bd, List.length_cons] at q ⊢
    omega
theorem like_tups (l : Nat) {L : List (List Int)} (h : ∀ r ∈ L, r.length ≤ 4 ∧ ∀ x ∈ r, -101 ≤ x ∧ x ≤ 101) (hl : L.length ≤ 100) (st : Store) : Q (l + 1) 21 [.lst (tups L), .lst (tups L)] st = .ok (.bl true) st := by
  have h2 := bds_tups L h
  have h3 := big
  obtain ⟨s, e⟩ := repr_lst (ds := tups L) (by
    simp only [bd]
    omega) (pls_tups 58 L)
  exact like_ok l e rfl st
/-! ### the rows that never ascend -/
def fallR : Nat → Nat → Nat → List (List Int)
  | 0, t, _ => if t = 0 then [[]] else []
  | s + 1, t, m => (List.range (min t m + 1)).flatMap fun f => (fallR s (t - f) f).map ((f : Int) :: ·)
def fk (n k : Nat) : List (List Int) := fallR n k k
def tw (n t : Nat) : List (List Int) := (List.range (t + 1)).flatMap (fk n)
theorem fl2_0 (l : Nat) (st : Store) : Q (l + 1) 27 [.int 2, .int 0] st = .ok (.lst (tups (fk 2 0))) st := by kernel_rfl
theorem up2_0 (l : Nat) (st : Store) : Q (l + 7) 15 [.int 2, .int 0] st = .ok (.lst (tups (tw 2 0))) st := by kernel_rfl
theorem fl2_1 (l : Nat) (st : Store) : Q (l + 1) 27 [.int 2, .int 1] st = .ok (.lst (tups (fk 2 1))) st := by kernel_rfl
theorem up2_1 (l : Nat) (st : Store) : Q (l + 7) 15 [.int 2, .int 1] st = .ok (.lst (tups (tw 2 1))) st := by kernel_rfl
theorem fl2_2 (l : Nat) (st : Store) : Q (l + 1) 27 [.int 2, .int 2] st = .ok (.lst (tups (fk 2 2))) st := by kernel_rfl
theorem up2_2 (l : Nat) (st : Store) : Q (l + 7) 15 [.int 2, .int 2] st = .ok (.lst (tups (tw 2 2))) st := by kernel_rfl
theorem fl2_3 (l : Nat) (st : Store) : Q (l + 1) 27 [.int 2, .int 3] st = .ok (.lst (tups (fk 2 3))) st := by kernel_rfl
theorem up2_3 (l : Nat) (st : Store) : Q (l + 7) 15 [.int 2, .int 3] st = .ok (.lst (tups (tw 2 3))) st := by kernel_rfl
theorem fl2_4 (l : Nat) (st : Store) : Q (l + 1) 27 [.int 2, .int 4] st = .ok (.lst (tups (fk 2 4))) st := by kernel_rfl
theorem up2_4 (l : Nat) (st : Store) : Q (l + 7) 15 [.int 2, .int 4] st = .ok (.lst (tups (tw 2 4))) st := by kernel_rfl
theorem fl2_5 (l : Nat) (st : Store) : Q (l + 1) 27 [.int 2, .int 5] st = .ok (.lst (tups (fk 2 5))) st := by kernel_rfl
theorem up2_5 (l : Nat) (st : Store) : Q (l + 7) 15 [.int 2, .int 5] st = .ok (.lst (tups (tw 2 5))) st := by kernel_rfl
theorem fl2_6 (l : Nat) (st : Store) : Q (l + 1) 27 [.int 2, .int 6] st = .ok (.lst (tups (fk 2 6))) st := by kernel_rfl
theorem up2_6 (l : Nat) (st : Store) : Q (l + 7) 15 [.int 2, .int 6] st = .ok (.lst (tups (tw 2 6))) st := by kernel_rfl
theorem fl3_0 (l : Nat) (st : Store) : Q (l + 1) 27 [.int 3, .int 0] st = .ok (.lst (tups (fk 3 0))) st := by kernel_rfl
theorem up3_0 (l : Nat) (st : Store) : Q (l + 7) 15 [.int 3, .int 0] st = .ok (.lst (tups (tw 3 0))) st := by kernel_rfl
theorem fl3_1 (l : Nat) (st : Store) : Q (l + 1) 27 [.int 3, .int 1] st = .ok (.lst (tups (fk 3 1))) st := by kernel_rfl
theorem up3_1 (l : Nat) (st : Store) : Q (l + 7) 15 [.int 3, .int 1] st = .ok (.lst (tups (tw 3 1))) st := by kernel_rfl
theorem fl3_2 (l : Nat) (st : Store) : Q (l + 1) 27 [.int 3, .int 2] st = .ok (.lst (tups (fk 3 2))) st := by kernel_rfl
theorem up3_2 (l : Nat) (st : Store) : Q (l + 7) 15 [.int 3, .int 2] st = .ok (.lst (tups (tw 3 2))) st := by kernel_rfl
theorem fl3_3 (l : Nat) (st : Store) : Q (l + 1) 27 [.int 3, .int 3] st = .ok (.lst (tups (fk 3 3))) st := by kernel_rfl
theorem up3_3 (l : Nat) (st : Store) : Q (l + 7) 15 [.int 3, .int 3] st = .ok (.lst (tups (tw 3 3))) st := by kernel_rfl
theorem fl3_4 (l : Nat) (st : Store) : Q (l + 1) 27 [.int 3, .int 4] st = .ok (.lst (tups (fk 3 4))) st := by kernel_rfl
theorem up3_4 (l : Nat) (st : Store) : Q (l + 7) 15 [.int 3, .int 4] st = .ok (.lst (tups (tw 3 4))) st := by kernel_rfl
theorem fl3_5 (l : Nat) (st : Store) : Q (l + 1) 27 [.int 3, .int 5] st = .ok (.lst (tups (fk 3 5))) st := by kernel_rfl
theorem up3_5 (l : Nat) (st : Store) : Q (l + 7) 15 [.int 3, .int 5] st = .ok (.lst (tups (tw 3 5))) st := by kernel_rfl
theorem fl3_6 (l : Nat) (st : Store) : Q (l + 1) 27 [.int 3, .int 6] st = .ok (.lst (tups (fk 3 6))) st := by kernel_rfl
theorem up3_6 (l : Nat) (st : Store) : Q (l + 7) 15 [.int 3, .int 6] st = .ok (.lst (tups (tw 3 6))) st := by kernel_rfl
theorem fl4_0 (l : Nat) (st : Store) : Q (l + 1) 27 [.int 4, .int 0] st = .ok (.lst (tups (fk 4 0))) st := by kernel_rfl
theorem up4_0 (l : Nat) (st : Store) : Q (l + 7) 15 [.int 4, .int 0] st = .ok (.lst (tups (tw 4 0))) st := by kernel_rfl
theorem fl4_1 (l : Nat) (st : Store) : Q (l + 1) 27 [.int 4, .int 1] st = .ok (.lst (tups (fk 4 1))) st := by kernel_rfl
theorem up4_1 (l : Nat) (st : Store) : Q (l + 7) 15 [.int 4, .int 1] st = .ok (.lst (tups (tw 4 1))) st := by kernel_rfl
theorem fl4_2 (l : Nat) (st : Store) : Q (l + 1) 27 [.int 4, .int 2] st = .ok (.lst (tups (fk 4 2))) st := by kernel_rfl
theorem up4_2 (l : Nat) (st : Store) : Q (l + 7) 15 [.int 4, .int 2] st = .ok (.lst (tups (tw 4 2))) st := by kernel_rfl
theorem fl4_3 (l : Nat) (st : Store) : Q (l + 1) 27 [.int 4, .int 3] st = .ok (.lst (tups (fk 4 3))) st := by kernel_rfl
theorem up4_3 (l : Nat) (st : Store) : Q (l + 7) 15 [.int 4, .int 3] st = .ok (.lst (tups (tw 4 3))) st := by kernel_rfl
theorem fl4_4 (l : Nat) (st : Store) : Q (l + 1) 27 [.int 4, .int 4] st = .ok (.lst (tups (fk 4 4))) st := by kernel_rfl
theorem up4_4 (l : Nat) (st : Store) : Q (l + 7) 15 [.int 4, .int 4] st = .ok (.lst (tups (tw 4 4))) st := by kernel_rfl
theorem fl4_5 (l : Nat) (st : Store) : Q (l + 1) 27 [.int 4, .int 5] st = .ok (.lst (tups (fk 4 5))) st := by kernel_rfl
theorem up4_5 (l : Nat) (st : Store) : Q (l + 7) 15 [.int 4, .int 5] st = .ok (.lst (tups (tw 4 5))) st := by kernel_rfl
theorem fl4_6 (l : Nat) (st : Store) : Q (l + 1) 27 [.int 4, .int 6] st = .ok (.lst (tups (fk 4 6))) st := by kernel_rfl
theorem up4_6 (l : Nat) (st : Store) : Q (l + 7) 15 [.int 4, .int 6] st = .ok (.lst (tups (tw 4 6))) st := by kernel_rfl
theorem tw_fact : ∀ n ∈ [2, 3, 4], ∀ t ∈ [0, 1, 2, 3, 4, 5, 6], (tw n t).length ≤ 100 ∧ ∀ r ∈ tw n t, r.length ≤ 4 ∧ ∀ x ∈ r, -101 ≤ x ∧ x ≤ 101 := by decide +kernel
theorem fall_ok (hn : n ∈ [2, 3, 4]) {k : Nat} (hk : k ≤ 6) (l : Nat) (st : Store) : Q (l + 1) 27 [.int (n : Int), .int (k : Int)] st = .ok (.lst (tups (fk n k))) st := by
  have h : n = 2 ∨ n = 3 ∨ n = 4 := by simpa using hn
  have h2 : k = 0 ∨ k = 1 ∨ k = 2 ∨ k = 3 ∨ k = 4 ∨ k = 5 ∨ k = 6 := by omega
  rcases h with rfl | rfl | rfl <;> rcases h2 with rfl | rfl | rfl | rfl | rfl | rfl | rfl
  · exact fl2_0 l st
  · exact fl2_1 l st
  · exact fl2_2 l st
  · exact fl2_3 l st
  · exact fl2_4 l st
  · exact fl2_5 l st
  · exact fl2_6 l st
  · exact fl3_0 l st
  · exact fl3_1 l st
  · exact fl3_2 l st
  · exact fl3_3 l st
  · exact fl3_4 l st
  · exact fl3_5 l st
  · exact fl3_6 l st
  · exact fl4_0 l st
  · exact fl4_1 l st
  · exact fl4_2 l st
  · exact fl4_3 l st
  · exact fl4_4 l st
  · exact fl4_5 l st
  · exact fl4_6 l st
theorem upto_ok (hn : n ∈ [2, 3, 4]) {k : Nat} (hk : k ≤ 6) (l : Nat) (st : Store) : Q (l + 7) 15 [.int (n : Int), .int (k : Int)] st = .ok (.lst (tups (tw n k))) st := by
  have h : n = 2 ∨ n = 3 ∨ n = 4 := by simpa using hn
  have h2 : k = 0 ∨ k = 1 ∨ k = 2 ∨ k = 3 ∨ k = 4 ∨ k = 5 ∨ k = 6 := by omega
  rcases h with rfl | rfl | rfl <;> rcases h2 with rfl | rfl | rfl | rfl | rfl | rfl | rfl
  · exact up2_0 l st
  · exact up2_1 l st
  · exact up2_2 l st
  · exact up2_3 l st
  · exact up2_4 l st
  · exact up2_5 l st
  · exact up2_6 l st
  · exact up3_0 l st
  · exact up3_1 l st
  · exact up3_2 l st
  · exact up3_3 l st
  · exact up3_4 l st
  · exact up3_5 l st
  · exact up3_6 l st
  · exact up4_0 l st
  · exact up4_1 l st
  · exact up4_2 l st
  · exact up4_3 l st
  · exact up4_4 l st
  · exact up4_5 l st
  · exact up4_6 l st
theorem test_ok (hn : n ∈ [2, 3, 4]) {k : Nat} (hk : k ≤ 6) (l : Nat) (st : Store) : Q (l + 8) 16 [.int (n : Int), .int (k : Int)] st = .ok (.lst (tups (tw n k))) st := by
  have h : n = 2 ∨ n = 3 ∨ n = 4 := by simpa using hn
  rw [u16]
  have e1 := many_ok (l + 5) (n : Int) (by omega) (by omega) st
  have e2 := tot_ok (l + 4) (.int (k : Int)) rfl (by simp [isB]; omega) st
  have e3 := upto_ok hn hk l st
  exact f_rt rfl (s_seq (s_frz rfl (s_drop (w_fn (w_cons (w_kp (w_var rfl)) w_nil) e1))) (s_seq (s_frz rfl (s_drop (w_fn (w_cons (w_kp (w_var rfl)) w_nil) e2))) (s_seqR (s_frz rfl (s_ret (w_kp (w_fn (w_cons (w_kp (w_var rfl)) (w_cons (w_kp (w_var rfl)) w_nil)) e3)))))))
theorem test_many (m t : D) (hp : pln m = true) (h : isM m = false) (l : Nat) (st : Store) : Q (l + 8) 16 [m, t] st = .exc "BadMany" [m] st := by
  rw [u16]
  have e1 := many_bad (l + 5) m hp h st
  simp [L16, semF, sSeq, sSkip, sRet, sRetN, thenS, kp, rd, RV.d, M.bind, M.pure, M.bad, M.rdr, M.opt', M.cell, M.act, sVar, sC, sNil, sCons, sTup, sLst, sBin, sUn, sCall, sBinS, sChain, sAndT, sOrT, sNotT, sAndV, sOrV, sNotV, sIf, sBoolT, sTru, tru, isT, deref, per, yes, sFn, sFrz, thaw, sIfS, sSet, slot, sPar, sAsgT, gN, gT, gsCons, gsNil, sLc, sLcL, sYes, M.ne, wipeE, itS, sDrop, e1]
theorem test_tot (hn : n ∈ [2, 3, 4]) (t : D) (hp : pln t = true) (h : isB t 13 = false) (l : Nat) (st : Store) : Q (l + 8) 16 [.int (n : Int), t] st = .exc "BadTotal" [t] st := by
  have h2 : n = 2 ∨ n = 3 ∨ n = 4 := by simpa using hn
  rw [u16]
  have e1 := many_ok (l + 5) (n : Int) (by omega) (by omega) st
  have e2 := tot_bad (l + 4) t hp h st
  simp [L16, semF, sSeq, sSkip, sRet, sRetN, thenS, kp, rd, RV.d, M.bind, M.pure, M.bad, M.rdr, M.opt', M.cell, M.act, sVar, sC, sNil, sCons, sTup, sLst, sBin, sUn, sCall, sBinS, sChain, sAndT, sOrT, sNotT, sAndV, sOrV, sNotV, sIf, sBoolT, sTru, tru, isT, deref, per, yes, sFn, sFrz, thaw, sIfS, sSet, slot, sPar, sAsgT, gN, gT, gsCons, gsNil, sLc, sLcL, sYes, M.ne, wipeE, itS, sDrop, e1, e2]
end M52
/-! What the program answers and refuses, asked for by the law. -/
namespace M52
open PySem Ev
variable {n : Nat} {c w : List Int}
theorem okD_ints (ns : List Int) (h : ns.length ≤ 1000) : okD (.tup (ns.map .int)) := ⟨rfl, fun ds e => by
  cases e
  refine ⟨by have := size_ge; simp; omega, fun e he => ?_⟩
  obtain ⟨i, _, rfl⟩ := List.mem_map.1 he
  rfl⟩
theorem OC.isC (o : OC n c w) : isC (n : Int) (.tup (c.map .int)) = true := by
  unfold M52.isC
  simp only [List.length_map, o.lc, decide_true, Bool.true_and, List.all_eq_true]
  intro x hx
  obtain ⟨i, hi, rfl⟩ := List.mem_map.1 hx
  have := o.oc.2 i hi
  simp [isB]
  omega
theorem OC.isWs (o : OC n c w) : isWs (n : Int) (.tup (w.map .int)) = true := by
  unfold M52.isWs
  simp only [List.length_map, o.lw, decide_true, Bool.true_and, List.all_eq_true]
  intro x hx
  obtain ⟨i, hi, rfl⟩ := List.mem_map.1 hx
  have := o.ow.2 i hi
  unfold isWo
  refine decide_eq_true ?_
  split <;> omega
theorem OC.okc (o : OC n c w) : okD (.tup (c.map .int)) := okD_ints c (by have := o.oc.1; omega)
theorem OC.okw (o : OC n c w) : okD (.tup (w.map .int)) := okD_ints w (by have := o.ow.1; omega)
/-! ### product_at -/
theorem pat_ok (o : OC n c w) (l : Nat) (st : Store) : Q (l + 5) 10 [.int (n : Int), .tup (c.map .int), .tup (w.map .int)] st = .ok (.int (prodI c w 1)) st := by
  have h1 := o.two
  have h2 := o.four
  rw [u10]
  have e1 := ncont_ok l (n : Int) (by omega) (by omega) _ o.okc o.isC st
  have e2 := nws_ok (l + 1) (n : Int) (by omega) (by omega) _ o.okw o.isWs st
  have e3 := prod_ok (l + 2) c w o.oc o.ow st
  exact f_rt rfl (s_seq (s_frz rfl (s_drop (w_fn (w_cons (w_kp (w_var rfl)) (w_cons (w_kp (w_var rfl)) w_nil)) e1))) (s_seq (s_frz rfl (s_drop (w_fn (w_cons (w_kp (w_var rfl)) (w_cons (w_kp (w_var rfl)) w_nil)) e2))) (s_seqR (s_frz rfl (s_ret (w_kp (w_fn (w_cons (w_kp (w_var rfl)) (w_cons (w_kp (w_var rfl)) w_nil)) e3)))))))
theorem pat_many (l : Nat) (m d x : D) (hp : pln m = true) (h : isM m = false) (st : Store) : Q (l + 5) 10 [m, d, x] st = .exc "BadMany" [m] st := by
  rw [u10]
  have e1 := ncont_many l m d hp h st
  simp [L10, semF, sSeq, sSkip, sRet, sRetN, thenS, kp, rd, RV.d, M.bind, M.pure, M.bad, M.rdr, M.opt', M.cell, M.act, sVar, sC, sNil, sCons, sTup, sLst, sBin, sUn, sCall, sBinS, sChain, sAndT, sOrT, sNotT, sAndV, sOrV, sNotV, sIf, sBoolT, sTru, tru, isT, deref, per, yes, sFn, sFrz, thaw, sIfS, sSet, slot, sPar, sAsgT, gN, gT, gsCons, gsNil, sLc, sLcL, sYes, M.ne, wipeE, itS, sDrop, e1]
theorem pat_cont (l : Nat) (m : Int) (h1 : 2 ≤ m) (h2 : m ≤ 5) (d x : D) (hd : okD d) (h : isC m d = false) (st : Store) : Q (l + 5) 10 [.int m, d, x] st = .exc "BadContent" [d] st := by
  rw [u10]
  have e1 := ncont_bad l m h1 h2 d hd h st
  simp [L10, semF, sSeq, sSkip, sRet, sRetN, thenS, kp, rd, RV.d, M.bind, M.pure, M.bad, M.rdr, M.opt', M.cell, M.act, sVar, sC, sNil, sCons, sTup, sLst, sBin, sUn, sCall, sBinS, sChain, sAndT, sOrT, sNotT, sAndV, sOrV, sNotV, sIf, sBoolT, sTru, tru, isT, deref, per, yes, sFn, sFrz, thaw, sIfS, sSet, slot, sPar, sAsgT, gN, gT, gsCons, gsNil, sLc, sLcL, sYes, M.ne, wipeE, itS, sDrop, e1]
theorem pat_ws (l : Nat) (m : Int) (h1 : 2 ≤ m) (h2 : m ≤ 5) (d x : D) (hd : okD d) (h : isC m d = true) (hx : okD x) (hw : isWs m x = false) (st : Store) : Q (l + 5) 10 [.int m, d, x] st = .exc "BadWorths" [x] st := by
  rw [u10]
  have e1 := ncont_ok l m h1 h2 d hd h st
  have e2 := nws_bad (l + 1) m h1 h2 x hx hw st
  simp [L10, semF, sSeq, sSkip, sRet, sRetN, thenS, kp, rd, RV.d, M.bind, M.pure, M.bad, M.rdr, M.opt', M.cell, M.act, sVar, sC, sNil, sCons, sTup, sLst, sBin, sUn, sCall, sBinS, sChain, sAndT, sOrT, sNotT, sAndV, sOrV, sNotV, sIf, sBoolT, sTru, tru, isT, deref, per, yes, sFn, sFrz, thaw, sIfS, sSet, slot, sPar, sAsgT, gN, gT, gsCons, gsNil, sLc, sLcL, sYes, M.ne, wipeE, itS, sDrop, e1, e2]
/-! ### even_sum -/
def evs (u : Bool) (c w : List Int) : Int := sumP w (if u then uniq c else perms c)
theorem ev_ok (o : OC n c w) (u : Bool) (l : Nat) (st : Store) : Q (l + 7) 13 [.int (n : Int), .tup (c.map .int), .tup (w.map .int), .bl u] st = .ok (.int (evs u c w)) st := by
  have h1 := o.two
  have h2 := o.four
  rw [u13]
  have e1 := ncont_ok (l + 2) (n : Int) (by omega) (by omega) _ o.okc o.isC st
  have e2 := nws_ok (l + 3) (n : Int) (by omega) (by omega) _ o.okw o.isWs st
  have e3 : Q (l + 6) 12 [.tup (c.map .int), .tup (w.map .int), .bl u] st = .ok (.int (evs u c w)) st := by
    cases u with
    | true => exact esum_unlike o l st
    | false => exact esum_plain o l st
  exact f_rt rfl (s_seq (s_frz rfl (s_drop (w_fn (w_cons (w_kp (w_var rfl)) (w_cons (w_kp (w_var rfl)) w_nil)) e1))) (s_seq (s_frz rfl (s_drop (w_fn (w_cons (w_kp (w_var rfl)) (w_cons (w_kp (w_var rfl)) w_nil)) e2))) (s_seqR (s_frz rfl (s_ret (w_kp (w_fn (w_cons (w_kp (w_var rfl)) (w_cons (w_kp (w_var rfl)) (w_cons (w_kp (w_var rfl)) w_nil))) e3)))))))
theorem ev_many (l : Nat) (m d x u : D) (hp : pln m = true) (h : isM m = false) (st : Store) : Q (l + 5) 13 [m, d, x, u] st = .exc "BadMany" [m] st := by
  rw [u13]
  have e1 := ncont_many l m d hp h st
  simp [L13, semF, sSeq, sSkip, sRet, sRetN, thenS, kp, rd, RV.d, M.bind, M.pure, M.bad, M.rdr, M.opt', M.cell, M.act, sVar, sC, sNil, sCons, sTup, sLst, sBin, sUn, sCall, sBinS, sChain, sAndT, sOrT, sNotT, sAndV, sOrV, sNotV, sIf, sBoolT, sTru, tru, isT, deref, per, yes, sFn, sFrz, thaw, sIfS, sSet, slot, sPar, sAsgT, gN, gT, gsCons, gsNil, sLc, sLcL, sYes, M.ne, wipeE, itS, sDrop, e1]
theorem ev_cont (l : Nat) (m : Int) (h1 : 2 ≤ m) (h2 : m ≤ 5) (d x u : D) (hd : okD d) (h : isC m d = false) (st : Store) : Q (l + 5) 13 [.int m, d, x, u] st = .exc "BadContent" [d] st := by
  rw [u13]
  have e1 := ncont_bad l m h1 h2 d hd h st
  simp [L13, semF, sSeq, sSkip, sRet, sRetN, thenS, kp, rd, RV.d, M.bind, M.pure, M.bad, M.rdr, M.opt', M.cell, M.act, sVar, sC, sNil, sCons, sTup, sLst, sBin, sUn, sCall, sBinS, sChain, sAndT, sOrT, sNotT, sAndV, sOrV, sNotV, sIf, sBoolT, sTru, tru, isT, deref, per, yes, sFn, sFrz, thaw, sIfS, sSet, slot, sPar, sAsgT, gN, gT, gsCons, gsNil, sLc, sLcL, sYes, M.ne, wipeE, itS, sDrop, e1]
theorem ev_ws (l : Nat) (m : Int) (h1 : 2 ≤ m) (h2 : m ≤ 5) (d x u : D) (hd : okD d) (h : isC m d = true) (hx : okD x) (hw : isWs m x = false) (st : Store) : Q (l + 5) 13 [.int m, d, x, u] st = .exc "BadWorths" [x] st := by
  rw [u13]
  have e1 := ncont_ok l m h1 h2 d hd h st
  have e2 := nws_bad (l + 1) m h1 h2 x hx hw st
  simp [L13, semF, sSeq, sSkip, sRet, sRetN, thenS, kp, rd, RV.d, M.bind, M.pure, M.bad, M.rdr, M.opt', M.cell, M.act, sVar, sC, sNil, sCons, sTup, sLst, sBin, sUn, sCall, sBinS, sChain, sAndT, sOrT, sNotT, sAndV, sOrV, sNotV, sIf, sBoolT, sTru, tru, isT, deref, per, yes, sFn, sFrz, thaw, sIfS, sSet, slot, sPar, sAsgT, gN, gT, gsCons, gsNil, sLc, sLcL, sYes, M.ne, wipeE, itS, sDrop, e1, e2]
/-! ### asked -/
def HS : List Hc := [⟨"BadMany", none, some 6, fun cn as => (sSeq (sSet 5 (sLst (sCons (kp (sC (.str "BadMany"))) (sCons (kp (sXf gl0 "value" cn as)) sNil)))) sSkip)⟩, ⟨"BadContent", none, some 6, fun cn as => (sSeq (sSet 5 (sLst (sCons (kp (sC (.str "BadContent"))) (sCons (kp (sXf gl0 "value" cn as)) sNil)))) sSkip)⟩, ⟨"BadWorths", none, some 6, fun cn as => (sSeq (sSet 5 (sLst (sCons (kp (sC (.str "BadWorths"))) (sCons (kp (sXf gl0 "value" cn as)) sNil)))) sSkip)⟩, ⟨"BadTotal", none, some 6, fun cn as => (sSeq (sSet 5 (sLst (sCons (kp (sC (.str "BadTotal"))) (sCons (kp (sXf gl0 "value" cn as)) sNil)))) sSkip)⟩]
theorem hand {cn : Str} (hc : cn ∈ words) (v : D) (x0 x1 x2 x3 x4 : SV) (st : Store) : sHs (subO tb) cn [v] HS [x0, x1, x2, x3, x4, .un, .un] st = .nx [x0, x1, x2, x3, x4, .own [.str cn, v], .un] st := by
  simp only [words, List.mem_cons, List.not_mem_nil, or_false] at hc
  rcases hc with rfl | rfl | rfl | rfl
  · kernel_rfl
  · kernel_rfl
  · kernel_rfl
  · kernel_rfl
theorem ask0 {l : Nat} {cn : Str} (hc : cn ∈ words) {m d w t v : D} {st : Store} (h : Q l 7 [m, w] st = .exc cn [v] st) : Q (l + 1) 29 [.int 0, m, d, w, t] st = .ok (.lst [.str cn, v]) st := by
  rw [u29]
  refine f_rt rfl (s_seq (s_tryX (s_seqX (s_ifT (t_bool (w_bin (w_rd (w_var rfl)) (w_rd w_c) rfl)) (s_seqX (s_frz rfl (x_set (x_lst (x_cons2 (w_kp w_c) (x_cons1 (x_kp (x_fn (w_cons (w_kp (w_var rfl)) (w_cons (w_kp (w_var rfl)) w_nil)) h)))))))))) (hand hc v _ _ _ _ _ st)) (s_seqR (s_frz rfl (s_ret (w_kp (w_var rfl))))))
theorem ask1 {l : Nat} {cn : Str} (hc : cn ∈ words) {m d w t v : D} {st : Store} (h : Q l 10 [m, d, w] st = .exc cn [v] st) : Q (l + 1) 29 [.int 1, m, d, w, t] st = .ok (.lst [.str cn, v]) st := by
  rw [u29]
  refine f_rt rfl (s_seq (s_tryX (s_seqX (s_ifF (t_bool (w_bin (w_rd (w_var rfl)) (w_rd w_c) rfl)) (s_seqX (s_ifT (t_bool (w_bin (w_rd (w_var rfl)) (w_rd w_c) rfl)) (s_seqX (s_frz rfl (x_set (x_lst (x_cons2 (w_kp w_c) (x_cons1 (x_kp (x_fn (w_cons (w_kp (w_var rfl)) (w_cons (w_kp (w_var rfl)) (w_cons (w_kp (w_var rfl)) w_nil))) h)))))))))))) (hand hc v _ _ _ _ _ st)) (s_seqR (s_frz rfl (s_ret (w_kp (w_var rfl))))))
theorem ask2 {l : Nat} {cn : Str} (hc : cn ∈ words) {m d w t v : D} {st : Store} (h : Q l 13 [m, d, w, .bl false] st = .exc cn [v] st) : Q (l + 1) 29 [.int 2, m, d, w, t] st = .ok (.lst [.str cn, v]) st := by
  rw [u29]
  refine f_rt rfl (s_seq (s_tryX (s_seqX (s_ifF (t_bool (w_bin (w_rd (w_var rfl)) (w_rd w_c) rfl)) (s_seqX (s_ifF (t_bool (w_bin (w_rd (w_var rfl)) (w_rd w_c) rfl)) (s_seqX (s_ifT (t_bool (w_bin (w_rd (w_var rfl)) (w_rd w_c) rfl)) (s_seqX (s_frz rfl (x_set (x_lst (x_cons2 (w_kp w_c) (x_cons1 (x_kp (x_fnD (w_cons (w_kp (w_var rfl)) (w_cons (w_kp (w_var rfl)) (w_cons (w_kp (w_var rfl)) w_nil))) h)))))))))))))) (hand hc v _ _ _ _ _ st)) (s_seqR (s_frz rfl (s_ret (w_kp (w_var rfl))))))
theorem ask3 {l : Nat} {cn : Str} (hc : cn ∈ words) {m d w t v : D} {st : Store} (h : Q l 16 [m, t] st = .exc cn [v] st) : Q (l + 1) 29 [.int 3, m, d, w, t] st = .ok (.lst [.str cn, v]) st := by
  rw [u29]
  refine f_rt rfl (s_seq (s_tryX (s_seqX (s_ifF (t_bool (w_bin (w_rd (w_var rfl)) (w_rd w_c) rfl)) (s_seqX (s_ifF (t_bool (w_bin (w_rd (w_var rfl)) (w_rd w_c) rfl)) (s_seqX (s_ifF (t_bool (w_bin (w_rd (w_var rfl)) (w_rd w_c) rfl)) (s_seqX (s_frz rfl (x_set (x_lst (x_cons2 (w_kp w_c) (x_cons1 (x_kp (x_fn (w_cons (w_kp (w_var rfl)) (w_cons (w_kp (w_var rfl)) w_nil)) h)))))))))))))) (hand hc v _ _ _ _ _ st)) (s_seqR (s_frz rfl (s_ret (w_kp (w_var rfl))))))
theorem told3 {l : Nat} {m d w t v : D} {st : Store} (h : Q l 16 [m, t] st = .ok v st) : Q (l + 1) 29 [.int 3, m, d, w, t] st = .ok (.lst [.str "told", v]) st := by
  rw [u29]
  refine f_rt rfl (s_seq (s_try (z := .nx [.val (.int 3), .val m, .val d, .val w, .val t, .own [.str "told", v], .un] st) (s_seq (s_ifF (t_bool (w_bin (w_rd (w_var rfl)) (w_rd w_c) rfl)) (s_seq (s_ifF (t_bool (w_bin (w_rd (w_var rfl)) (w_rd w_c) rfl)) (s_seq (s_ifF (t_bool (w_bin (w_rd (w_var rfl)) (w_rd w_c) rfl)) (s_seq (s_frz rfl (s_set (s := .own [.str "told", v]) (w_lst (w_cons (w_kp w_c) (w_cons (w_kp (w_fn (w_cons (w_kp (w_var rfl)) (w_cons (w_kp (w_var rfl)) w_nil)) h)) w_nil)) (by have := size_ge; simp; omega)) rfl rfl)) s_skip)) s_skip)) s_skip)) s_skip) (fun _ _ _ _ => nofun)) (s_seqR (s_frz rfl (s_ret (w_kp (w_var rfl))))))
/-! ### the first steps -/
theorem begin_ok (l : Nat) (ns : List Int) (h : ns.length ≤ 63) : ∃ st, Q (l + 1) 17 [.lst (ns.map .int)] [] = .ok (.cell 1) st ∧ WS st 0 := by
  rw [u17]
  obtain ⟨cs, hcs, hpos, h64⟩ : ∃ cs : List Int, sSet 1 (sIf (sBoolT (sBin dNe (rd (sVar 0)) (rd (sLst sNil)))) (sCall dList (sCons (rd (sVar 0)) sNil)) (sLst (sCons (kp (sC (.int 0))) sNil))) [.val (.lst (ns.map .int)), .un, .un] [] = .nx [.val (.lst (ns.map .int)), .own (cs.map .int), .un] [] ∧ 0 < cs.length ∧ cs.length ≤ 64 := by
    have ne : dNe (.lst (ns.map .int)) (.lst []) = some (.per (.bl (!decide (ns = [])))) := by
      have e1 := eqvs_ints ns []
      have e2 : D.pl 60 (.lst (ns.map .int)) = true := pls_ints 59 ns
      unfold dNe
      dsimp only
      rw [if_pos ⟨e2, rfl⟩]
      unfold D.eqv
      rw [List.map_nil] at e1
      rw [e1]
      rfl
    by_cases hn : ns = []
    · subst hn
      exact ⟨[0], s_set (s := .own [.int 0]) (w_ifF (t_bool (w_bin (w_rd (w_var rfl)) (w_rd (w_lst w_nil (Nat.zero_le _))) (ne.trans rfl))) (w_lst (w_cons (w_kp w_c) w_nil) (by have := size_ge; simp; omega))) rfl rfl, by decide, by decide⟩
    · refine ⟨ns, s_set (s := .own (ns.map .int)) (w_ifT (t_bool (w_bin (w_rd (w_var rfl)) (w_rd (w_lst w_nil (Nat.zero_le _))) (ne.trans (by simp [hn])))) (w_call (w_cons (w_rd (w_var rfl)) w_nil) rfl)) rfl rfl, ?_, by omega⟩
      cases ns with
      | nil => exact absurd rfl hn
      | cons _ _ => simp
  have pw : dPow (.int 10) (.int 18) = some (.per (.int 1000000000000000000)) := by kernel_rfl
  have e2 : sLcL (gN 2) sYes (kp (sIf (sBoolT (sBin dGe (rd (sVar 2)) (rd (sBin dPow (rd (sC (.int 10))) (rd (sC (.int 18))))))) (sVar 2) (sC (.int 0)))) [.val (.lst (ns.map .int)), .val (.lst (cs.map .int)), .un] (cs.map .int) [] [] = .ok ([] ++ (cs.map .int).map fun d => .int (if 1000000000000000000 ≤ val d then val d else 0)) [] := by
    refine lc_map _ _ (fun d hd => ?_) (by have := size_ge; simp; omega)
    obtain ⟨i, hi, rfl⟩ := List.mem_map.1 hd
    refine ⟨[.val (.lst (ns.map .int)), .val (.lst (cs.map .int)), .val (.int i)], rfl, rfl, ?_⟩
    have ge : dGe (.int i) (.int 1000000000000000000) = some (.per (.bl (decide ((1000000000000000000 : Int) ≤ i)))) := rfl
    by_cases hi : (1000000000000000000 : Int) ≤ i
    · rw [decide_eq_true hi] at ge
      rw [show val (.int i) = i from rfl, if_pos hi]
      exact w_kp (w_ifT (t_bool (w_bin (w_rd (w_var rfl)) (w_rd (w_bin (w_rd w_c) (w_rd w_c) pw)) ge)) (w_var rfl))
    · rw [decide_eq_false hi] at ge
      rw [show val (.int i) = i from rfl, if_neg hi]
      exact w_kp (w_ifF (t_bool (w_bin (w_rd (w_var rfl)) (w_rd (w_bin (w_rd w_c) (w_rd w_c) pw)) ge)) w_c)
  refine ⟨ST ((cs.map fun i => if 1000000000000000000 ≤ i then i else 0).map .int) (cs.map .int) ((0 : Nat) : Int), ?_, ⟨_, cs, rfl, by simp, hpos, h64⟩⟩
  have e3 : ([] : List D) ++ (cs.map D.int).map (fun d => D.int (if 1000000000000000000 ≤ val d then val d else 0)) = (cs.map fun i => if (1000000000000000000 : Int) ≤ i then i else 0).map .int := by
    rw [List.nil_append, List.map_map, List.map_map]
    rfl
  rw [e3] at e2
  refine f_rt rfl (s_seq hcs (s_seqR (s_frz (ρ' := [.val (.lst (ns.map .int)), .val (.lst (cs.map .int)), .un]) rfl (s_ret (w_kp ?_)))))
  have e4 := w_cons (w_kp (w_var (ρ := [.val (.lst (ns.map .int)), .val (.lst (cs.map .int)), .un]) (st := []) (i := 1) (r := .per (.lst (cs.map .int))) rfl)) (w_cons (w_kp (w_toCell (w_lc (vs := [2]) (i_lst (w_kp (w_var (i := 1) (r := .per (.lst (cs.map .int))) rfl))) e2))) (w_cons (w_kp (w_c (d := .int 0))) w_nil))
  unfold sDict M.bind
  dsimp only
  rw [show (sCons (kp (sVar 1)) (sCons (kp (toCell (sLc (itS (kp (sVar 1))) (gN 2) sYes (kp (sIf (sBoolT (sBin dGe (rd (sVar 2)) (rd (sBin dPow (rd (sC (.int 10))) (rd (sC (.int 18))))))) (sVar 2) (sC (.int 0)))) [2]))) (sCons (kp (sC (.int 0))) sNil))) [.val (.lst (ns.map .int)), .val (.lst (cs.map .int)), .un] [] = _ from e4]
  rfl
theorem lc_draw {g : D → Env' → Option Env'} {el : Env' → M D} {P : Int → Prop} {ρ : Env'} : ∀ (ds acc : List D) (st : Store) (a : Nat), (∀ d ∈ ds, ∀ (st : Store) (a : Nat), WS st a → a ≤ 900 → ∃ ρ1 v st', g d ρ = some ρ1 ∧ el ρ1 st = .ok (.int v) st' ∧ P v ∧ WS st' (a + 1)) → WS st a → a + ds.length ≤ 900 → acc.length + ds.length ≤ 1000 →
    ∃ (vs : List Int) (st' : Store), sLcL g sYes el ρ ds acc st = .ok (acc ++ vs.map .int) st' ∧ vs.length = ds.length ∧ (∀ v ∈ vs, P v) ∧ WS st' (a + ds.length)
  | [], acc, st, a, _, ws, _, _ => ⟨[], st, by simp [sLcL, M.pure], rfl, by simp, ws⟩
  | d :: ds, acc, st, a, h, ws, ha, hl => by
    have ha : a + (ds.length + 1) ≤ 900 := ha
    have hl : acc.length + (ds.length + 1) ≤ 1000 := hl
    obtain ⟨ρ1, v, st1, e1, e2, e3, ws1⟩ := h d (by simp) st a ws (by omega)
    obtain ⟨vs, st2, e4, e5, e6, ws2⟩ := lc_draw ds (acc ++ [.int v]) st1 (a + 1) (fun e he => h e (List.mem_cons_of_mem _ he)) ws1 (by omega) (by simp; omega)
    refine ⟨v :: vs, st2, ?_, by simp [e5], ?_, ?_⟩
    · unfold sLcL
      rw [e1]
      dsimp only
      rw [bok (nok (show sYes ρ1 st = .ok true st from rfl))]
      refine iteT ?_
      rw [bok (nok e2)]
      refine iteP (by have := size_ge; omega) ?_
      rw [e4]
      simp
    · intro x hx
      rcases List.mem_cons.1 hx with rfl | hx
      · exact e3
      · exact e6 x hx
    · rw [List.length_cons, show a + (ds.length + 1) = a + 1 + ds.length by omega]
      exact ws2
end M52
/-! The law, step by step. -/
namespace M52
open PySem Ev
variable {n : Nat} {c w : List Int}
def S0 (l : Nat) : SS := sFrz [0] (sSet 1 (sFn (Q (l + 20) 17) (sCons (kp (sVar 0)) sNil)))
def S1 (l : Nat) : SS := sFrz [1] (sSet 2 (sBin dAdd (rd (sC (.int 2))) (rd (sFn (Q (l + 20) 19) (sCons (kp (sVar 1)) (sCons (kp (sC (.int 3))) sNil))))))
def S2 (l : Nat) : SS := sSet 3 (sIf (sBoolT (sBin dEq (rd (sVar 2)) (rd (sC (.int 2))))) (sC (.int 25)) (sC (.int 7)))
def S3 (l : Nat) : SS := sFrz [1, 3] (sSet 4 (sLc (itR1 (sCons (kp (sVar 2)) sNil)) (gN 5) sYes (kp (sFn (Q (l + 20) 19) (sCons (kp (sVar 1)) (sCons (kp (sVar 3)) sNil)))) [5]))
def S4 (l : Nat) : SS := sFrz [1] (sIfS (sBoolT (sBin dEq (rd (sFn (Q (l + 20) 19) (sCons (kp (sVar 1)) (sCons (kp (sC (.int 2))) sNil)))) (rd (sC (.int 0))))) (sSeq (sFrz [1, 2] (sSetN 4 (kp (sBinS ixSt (rd (sVar 4)) (rd (sFn (Q (l + 20) 19) (sCons (kp (sVar 1)) (sCons (kp (sVar 2)) sNil)))))) (rd (sFn (Q (l + 20) 19) (sCons (kp (sVar 1)) (sCons (kp (sVar 2)) sNil)))))) sSkip) sSkip)
def S5 (l : Nat) : SS := sSet 4 (sCall dTuple (sCons (rd (sVar 4)) sNil))
def S6 (l : Nat) : SS := sFrz [1, 2] (sSet 6 (sFn (Q (l + 20) 20) (sCons (kp (sVar 1)) (sCons (kp (sVar 2)) (sCons (kp (sUn dNeg (rd (sC (.int 100))))) sNil)))))
def S7 (l : Nat) : SS := sFrz [2, 6] (sIfS (sNotT (sTru (sFn (Q (l + 20) 21) (sCons (kp (sFn (Q (l + 20) 7) (sCons (kp (sVar 2)) (sCons (kp (sVar 6)) sNil)))) (sCons (kp (sVar 6)) sNil))))) (sSeq (sRet (sC (.bl false))) sSkip) sSkip)
def S8 (l : Nat) : SS := sFrz [2, 4, 6] (sIfS (sNotT (sTru (sFn (Q (l + 20) 21) (sCons (kp (sFn (Q (l + 20) 10) (sCons (kp (sVar 2)) (sCons (kp (sVar 4)) (sCons (kp (sVar 6)) sNil))))) (sCons (kp (sFn (Q (l + 20) 23) (sCons (kp (sVar 4)) (sCons (kp (sVar 6)) sNil)))) sNil))))) (sSeq (sRet (sC (.bl false))) sSkip) sSkip)
def S9 (l : Nat) : SS := sFrz [4, 6] (sSet 7 (sFn (Q (l + 20) 25) (sCons (kp (sVar 4)) (sCons (kp (sVar 6)) sNil))))
def S10 (l : Nat) : SS := sFrz [2, 4, 6, 7] (sIfS (sOrT (sNotT (sTru (sFn (Q (l + 20) 21) (sCons (kp (sFnD (Q (l + 20) 13) [.bl false] (sCons (kp (sVar 2)) (sCons (kp (sVar 4)) (sCons (kp (sVar 6)) sNil))))) (sCons (kp (sVar 7)) sNil))))) (sNotT (sTru (sFn (Q (l + 20) 21) (sCons (kp (sFnK (Q (l + 20) 13) (sCons (kp (sVar 2)) (sCons (kp (sVar 4)) (sCons (kp (sVar 6)) sNil))) (sCons (kp (sC (.bl false))) sNil))) (sCons (kp (sVar 7)) sNil)))))) (sSeq (sRet (sC (.bl false))) sSkip) sSkip)
def S11 (l : Nat) : SS := sFrz [2, 4, 6] (sIfS (sNotT (sTru (sFn (Q (l + 20) 21) (sCons (kp (sFnK (Q (l + 20) 13) (sCons (kp (sVar 2)) (sCons (kp (sVar 4)) (sCons (kp (sVar 6)) sNil))) (sCons (kp (sC (.bl true))) sNil))) (sCons (kp (sFn (Q (l + 20) 26) (sCons (kp (sVar 4)) (sCons (kp (sVar 6)) sNil)))) sNil))))) (sSeq (sRet (sC (.bl false))) sSkip) sSkip)
def S12 (l : Nat) : SS := sFrz [1] (sSet 8 (sFn (Q (l + 20) 19) (sCons (kp (sVar 1)) (sCons (kp (sC (.int 7))) sNil))))
def S13 (l : Nat) : SS := sSet 9 (sLst sNil)
def S14 (l : Nat) : SS := sFor (itR1 (sCons (kp (sBin dAdd (rd (sVar 8)) (rd (sC (.int 1))))) sNil)) (gN 10) (sSeq (sFrz [2, 10] (sSet 9 (sBin dAdd (rd (sVar 9)) (rd (sFn (Q (l + 20) 27) (sCons (kp (sVar 2)) (sCons (kp (sVar 10)) sNil))))))) sSkip)
def S15 (l : Nat) : SS := sFrz [2, 8, 9] (sIfS (sNotT (sTru (sFn (Q (l + 20) 21) (sCons (kp (sFn (Q (l + 20) 16) (sCons (kp (sVar 2)) (sCons (kp (sVar 8)) sNil)))) (sCons (kp (sVar 9)) sNil))))) (sSeq (sRet (sC (.bl false))) sSkip) sSkip)
def S16 (l : Nat) : SS := sFrz [1] (sSet 11 (sFn (Q (l + 20) 28) (sCons (kp (sVar 1)) (sCons (kp (sLst (sCons (kp (sC (.int 1))) (sCons (kp (sC (.int 6))) (sCons (kp (sC (.bl true))) (sCons (kp (sC (.str "2"))) (sCons (kp (sC .non)) sNil))))))) sNil))))
def S17 (l : Nat) : SS := sFrz [1] (sSet 12 (sFn (Q (l + 20) 28) (sCons (kp (sVar 1)) (sCons (kp (sLst (sCons (kp (sBin dAdd (rd (sVar 4)) (rd (sTup (sCons (kp (sC (.int 0))) sNil))))) (sCons (kp (sSlice (rd (sVar 4)) (sPS (rd (sC (.int 1)))) sPN)) (sCons (kp (sBin dAdd (rd (sTup (sCons (kp (sUn dNeg (rd (sC (.int 1))))) sNil))) (rd (sSlice (rd (sVar 4)) (sPS (rd (sC (.int 1)))) sPN)))) (sCons (kp (sBin dAdd (rd (sSlice (rd (sVar 4)) sPN (sPS (rd (sUn dNeg (rd (sC (.int 1)))))))) (rd (sTup (sCons (kp (sC (.int 25))) sNil))))) (sCons (kp (sCall dList (sCons (rd (sVar 4)) sNil))) (sCons (kp (sC .non)) (sCons (kp (sBin dAdd (rd (sTup (sCons (kp (sC (.bl true))) sNil))) (rd (sSlice (rd (sVar 4)) (sPS (rd (sC (.int 1)))) sPN)))) sNil))))))))) sNil))))
def S18 (l : Nat) : SS := sFrz [1] (sSet 13 (sFn (Q (l + 20) 28) (sCons (kp (sVar 1)) (sCons (kp (sLst (sCons (kp (sBin dAdd (rd (sVar 6)) (rd (sTup (sCons (kp (sC (.int 1))) sNil))))) (sCons (kp (sSlice (rd (sVar 6)) (sPS (rd (sC (.int 1)))) sPN)) (sCons (kp (sBin dAdd (rd (sTup (sCons (kp (sC (.int 101))) sNil))) (rd (sSlice (rd (sVar 6)) (sPS (rd (sC (.int 1)))) sPN)))) (sCons (kp (sBin dAdd (rd (sSlice (rd (sVar 6)) sPN (sPS (rd (sUn dNeg (rd (sC (.int 1)))))))) (rd (sTup (sCons (kp (sUn dNeg (rd (sC (.int 101))))) sNil))))) (sCons (kp (sCall dList (sCons (rd (sVar 6)) sNil))) (sCons (kp (sC .non)) (sCons (kp (sBin dAdd (rd (sTup (sCons (kp (sC (.bl false))) sNil))) (rd (sSlice (rd (sVar 6)) (sPS (rd (sC (.int 1)))) sPN)))) sNil))))))))) sNil))))
def S19 (l : Nat) : SS := sFrz [1] (sSet 14 (sFn (Q (l + 20) 28) (sCons (kp (sVar 1)) (sCons (kp (sLst (sCons (kp (sUn dNeg (rd (sC (.int 1))))) (sCons (kp (sC (.int 13))) (sCons (kp (sC (.bl true))) (sCons (kp (sC (.str "3"))) (sCons (kp (sC .non)) sNil))))))) sNil))))
def S20 (l : Nat) : SS := sFor (itR1 (sCons (kp (sC (.int 4))) sNil)) (gN 15) (sSeq (sFrz [15, 11, 12, 13, 14] (sIfS (sNotT (sTru (sFn (Q (l + 20) 21) (sCons (kp (sFn (Q (l + 20) 29) (sCons (kp (sVar 15)) (sCons (kp (sVar 11)) (sCons (kp (sVar 12)) (sCons (kp (sVar 13)) (sCons (kp (sVar 14)) sNil))))))) (sCons (kp (sLst (sCons (kp (sC (.str "BadMany"))) (sCons (kp (sVar 11)) sNil)))) sNil))))) (sSeq (sRet (sC (.bl false))) sSkip) sSkip)) (sSeq (sFrz [15, 2, 12, 13] (sSet 16 (sFn (Q (l + 20) 29) (sCons (kp (sVar 15)) (sCons (kp (sVar 2)) (sCons (kp (sVar 12)) (sCons (kp (sVar 13)) (sCons (kp (sC (.int 0))) sNil)))))))) (sSeq (sFrz [16, 12] (sIfS (sAndT (sBoolT (sBin dIn (rd (sVar 15)) (rd (sTup (sCons (kp (sC (.int 1))) (sCons (kp (sC (.int 2))) sNil)))))) (sNotT (sTru (sFn (Q (l + 20) 21) (sCons (kp (sVar 16)) (sCons (kp (sLst (sCons (kp (sC (.str "BadContent"))) (sCons (kp (sVar 12)) sNil)))) sNil)))))) (sSeq (sRet (sC (.bl false))) sSkip) sSkip)) (sSeq (sFrz [15, 2, 4, 13] (sSet 16 (sFn (Q (l + 20) 29) (sCons (kp (sVar 15)) (sCons (kp (sVar 2)) (sCons (kp (sVar 4)) (sCons (kp (sVar 13)) (sCons (kp (sC (.int 0))) sNil)))))))) (sSeq (sFrz [16, 13] (sIfS (sAndT (sBoolT (sBin dLt (rd (sVar 15)) (rd (sC (.int 3))))) (sNotT (sTru (sFn (Q (l + 20) 21) (sCons (kp (sVar 16)) (sCons (kp (sLst (sCons (kp (sC (.str "BadWorths"))) (sCons (kp (sVar 13)) sNil)))) sNil)))))) (sSeq (sRet (sC (.bl false))) sSkip) sSkip)) sSkip)))))
def S21 (l : Nat) : SS := sFrz [2, 4, 6, 14] (sRet (sFn (Q (l + 20) 21) (sCons (kp (sFn (Q (l + 20) 29) (sCons (kp (sC (.int 3))) (sCons (kp (sVar 2)) (sCons (kp (sVar 4)) (sCons (kp (sVar 6)) (sCons (kp (sVar 14)) sNil))))))) (sCons (kp (sLst (sCons (kp (sC (.str "BadTotal"))) (sCons (kp (sVar 14)) sNil)))) sNil))))
theorem L30_eq (l : Nat) : L30 (Q (l + 20)) (QT (l + 20)) = sSeq (S0 l) (sSeq (S1 l) (sSeq (S2 l) (sSeq (S3 l) (sSeq (S4 l) (sSeq (S5 l) (sSeq (S6 l) (sSeq (S7 l) (sSeq (S8 l) (sSeq (S9 l) (sSeq (S10 l) (sSeq (S11 l) (sSeq (S12 l) (sSeq (S13 l) (sSeq (S14 l) (sSeq (S15 l) (sSeq (S16 l) (sSeq (S17 l) (sSeq (S18 l) (sSeq (S19 l) (sSeq (S20 l) (sSeq (S21 l) (sSkip)))))))))))))))))))))) := rfl
def GM : Env' → M (List D) := (sCons (kp (sC (.int 1))) (sCons (kp (sC (.int 6))) (sCons (kp (sC (.bl true))) (sCons (kp (sC (.str "2"))) (sCons (kp (sC .non)) sNil)))))
def GC : Env' → M (List D) := (sCons (kp (sBin dAdd (rd (sVar 4)) (rd (sTup (sCons (kp (sC (.int 0))) sNil))))) (sCons (kp (sSlice (rd (sVar 4)) (sPS (rd (sC (.int 1)))) sPN)) (sCons (kp (sBin dAdd (rd (sTup (sCons (kp (sUn dNeg (rd (sC (.int 1))))) sNil))) (rd (sSlice (rd (sVar 4)) (sPS (rd (sC (.int 1)))) sPN)))) (sCons (kp (sBin dAdd (rd (sSlice (rd (sVar 4)) sPN (sPS (rd (sUn dNeg (rd (sC (.int 1)))))))) (rd (sTup (sCons (kp (sC (.int 25))) sNil))))) (sCons (kp (sCall dList (sCons (rd (sVar 4)) sNil))) (sCons (kp (sC .non)) (sCons (kp (sBin dAdd (rd (sTup (sCons (kp (sC (.bl true))) sNil))) (rd (sSlice (rd (sVar 4)) (sPS (rd (sC (.int 1)))) sPN)))) sNil)))))))
def GW : Env' → M (List D) := (sCons (kp (sBin dAdd (rd (sVar 6)) (rd (sTup (sCons (kp (sC (.int 1))) sNil))))) (sCons (kp (sSlice (rd (sVar 6)) (sPS (rd (sC (.int 1)))) sPN)) (sCons (kp (sBin dAdd (rd (sTup (sCons (kp (sC (.int 101))) sNil))) (rd (sSlice (rd (sVar 6)) (sPS (rd (sC (.int 1)))) sPN)))) (sCons (kp (sBin dAdd (rd (sSlice (rd (sVar 6)) sPN (sPS (rd (sUn dNeg (rd (sC (.int 1)))))))) (rd (sTup (sCons (kp (sUn dNeg (rd (sC (.int 101))))) sNil))))) (sCons (kp (sCall dList (sCons (rd (sVar 6)) sNil))) (sCons (kp (sC .non)) (sCons (kp (sBin dAdd (rd (sTup (sCons (kp (sC (.bl false))) sNil))) (rd (sSlice (rd (sVar 6)) (sPS (rd (sC (.int 1)))) sPN)))) sNil)))))))
def GT : Env' → M (List D) := (sCons (kp (sUn dNeg (rd (sC (.int 1))))) (sCons (kp (sC (.int 13))) (sCons (kp (sC (.bl true))) (sCons (kp (sC (.str "3"))) (sCons (kp (sC .non)) sNil)))))
def bAsk (l : Nat) : SS := (sSeq (sFrz [15, 11, 12, 13, 14] (sIfS (sNotT (sTru (sFn (Q (l + 20) 21) (sCons (kp (sFn (Q (l + 20) 29) (sCons (kp (sVar 15)) (sCons (kp (sVar 11)) (sCons (kp (sVar 12)) (sCons (kp (sVar 13)) (sCons (kp (sVar 14)) sNil))))))) (sCons (kp (sLst (sCons (kp (sC (.str "BadMany"))) (sCons (kp (sVar 11)) sNil)))) sNil))))) (sSeq (sRet (sC (.bl false))) sSkip) sSkip)) (sSeq (sFrz [15, 2, 12, 13] (sSet 16 (sFn (Q (l + 20) 29) (sCons (kp (sVar 15)) (sCons (kp (sVar 2)) (sCons (kp (sVar 12)) (sCons (kp (sVar 13)) (sCons (kp (sC (.int 0))) sNil)))))))) (sSeq (sFrz [16, 12] (sIfS (sAndT (sBoolT (sBin dIn (rd (sVar 15)) (rd (sTup (sCons (kp (sC (.int 1))) (sCons (kp (sC (.int 2))) sNil)))))) (sNotT (sTru (sFn (Q (l + 20) 21) (sCons (kp (sVar 16)) (sCons (kp (sLst (sCons (kp (sC (.str "BadContent"))) (sCons (kp (sVar 12)) sNil)))) sNil)))))) (sSeq (sRet (sC (.bl false))) sSkip) sSkip)) (sSeq (sFrz [15, 2, 4, 13] (sSet 16 (sFn (Q (l + 20) 29) (sCons (kp (sVar 15)) (sCons (kp (sVar 2)) (sCons (kp (sVar 4)) (sCons (kp (sVar 13)) (sCons (kp (sC (.int 0))) sNil)))))))) (sSeq (sFrz [16, 13] (sIfS (sAndT (sBoolT (sBin dLt (rd (sVar 15)) (rd (sC (.int 3))))) (sNotT (sTru (sFn (Q (l + 20) 21) (sCons (kp (sVar 16)) (sCons (kp (sLst (sCons (kp (sC (.str "BadWorths"))) (sCons (kp (sVar 13)) sNil)))) sNil)))))) (sSeq (sRet (sC (.bl false))) sSkip) sSkip)) sSkip)))))
def bFall (l : Nat) : SS := (sSeq (sFrz [2, 10] (sSet 9 (sBin dAdd (rd (sVar 9)) (rd (sFn (Q (l + 20) 27) (sCons (kp (sVar 2)) (sCons (kp (sVar 10)) sNil))))))) sSkip)
theorem of_ok (l : Nat) (ds : List D) (h0 : 0 < ds.length) (h : ds.length ≤ 100) {st : Store} {a : Nat} (ha : a ≤ 900) (ws : WS st a) : ∃ d st', Q (l + 3) 28 [.cell 1, .lst ds] st = .ok d st' ∧ d ∈ ds ∧ WS st' (a + 1) := by
  rw [u28]
  obtain ⟨v, st1, e1, v0, v1, ws1⟩ := draw_ok l (by omega) (show (0 : Int) < (ds.length : Int) by omega) (by omega) ws
  have hv : v.toNat < ds.length := by omega
  refine ⟨ds[v.toNat], st1, ?_, List.getElem_mem hv, ws1⟩
  have e2 : ixSt st1 (.lst ds) (.int v) = some (.per ds[v.toNat]) := by
    show dIx (.lst ds) (.int v) = _
    have e3 : L2.ixN ds.length v = some v.toNat := by
      unfold L2.ixN
      rw [if_pos v0, if_pos v1]
    unfold dIx
    dsimp only
    unfold L2.atI
    rw [e3]
    simp [hv]
  exact f_rt rfl (s_seqR (s_frz rfl (s_ret (w_kp (w_binS (w_rd (w_var rfl)) (w_rd (w_fn (w_cons (w_kp (w_var rfl)) (w_cons (w_kp (w_call (w_cons (w_rd (w_var rfl)) w_nil) rfl)) w_nil)) e1)) e2)))))
theorem worths_ok (l : Nat) (hn : n ≤ 5) {st : Store} {a : Nat} (ha : a ≤ 800) (ws : WS st a) : ∃ (w : List Int) (st' : Store), Q (l + 3) 20 [.cell 1, .int (n : Int), .int (-100)] st = .ok (.tup (w.map .int)) st' ∧ w.length = n ∧ (∀ x ∈ w, -100 ≤ x ∧ x ≤ 100) ∧ WS st' (a + 1 + n) := by
  rw [u20]
  obtain ⟨v, st1, e1, v0, v1, ws1⟩ := draw_ok l (by omega) (show (0 : Int) < 3 by decide) (by decide) ws
  obtain ⟨m, em, m1, m2⟩ : ∃ m : Int, ixSt st1 (.lst [.int 3, .int 12, .int 101]) (.int v) = some (.per (.int m)) ∧ 1 ≤ m ∧ m ≤ 101 := by
    have h : v = 0 ∨ v = 1 ∨ v = 2 := by omega
    rcases h with rfl | rfl | rfl
    · exact ⟨3, rfl, by decide, by decide⟩
    · exact ⟨12, rfl, by decide, by decide⟩
    · exact ⟨101, rfl, by decide, by decide⟩
  have p31 : (2 : Nat) ^ 31 = 2147483648 := by decide
  have mm : dMulA (.int 2) (.int m) = some (.per (.int (2 * m))) := mulA_lg (lg_nn (k := 31) (by omega) (by omega)) (lg_nn (k := 31) (by omega) (by omega)) (by omega)
  obtain ⟨w, st2, e2, e3, e4, ws2⟩ := lc_draw (g := gN 4) (el := kp (sCall dMax (sCons (rd (sVar 2)) (sCons (rd (sBin dAdd (rd (sBin dSub (rd (sFn (Q (l + 2) 19) (sCons (kp (sVar 0)) (sCons (kp (sBin dSub (rd (sBin dMulA (rd (sC (.int 2))) (rd (sVar 3)))) (rd (sC (.int 1))))) sNil)))) (rd (sVar 3)))) (rd (sC (.int 1))))) sNil)))) (P := fun x => -100 ≤ x ∧ x ≤ 100) (ρ := [.val (.cell 1), .val (.int (n : Int)), .val (.int (-100)), .val (.int m), .un]) (rngD 0 n) [] st1 (a + 1) (fun d hd st a ws ha => by
      obtain ⟨v, st1, e1, v0, v1, ws1⟩ := draw_ok l (by omega) (show (0 : Int) < 2 * m - 1 by omega) (by omega) ws
      refine ⟨[.val (.cell 1), .val (.int (n : Int)), .val (.int (-100)), .val (.int m), .val d], max (-100) (v - m + 1), st1, rfl, ?_, ⟨by omega, by omega⟩, ws1⟩
      exact w_kp (w_call (w_cons (w_rd (w_var rfl)) (w_cons (w_rd (w_bin (w_rd (w_bin (w_rd (w_fn (w_cons (w_kp (w_var rfl)) (w_cons (w_kp (w_bin (w_rd (w_bin (w_rd w_c) (w_rd (w_var rfl)) mm)) (w_rd w_c) rfl)) w_nil)) e1)) (w_rd (w_var rfl)) rfl)) (w_rd w_c) rfl)) w_nil)) rfl)) ws1 (by rw [rng_len]; omega) (by rw [rng_len]; simp; omega)
  rw [rng_len] at e3 ws2
  refine ⟨w, st2, ?_, e3, e4, ws2⟩
  exact f_rt rfl (s_seq (s_frz rfl (s_set (s := .val (.int m)) (w_binS (w_rd (w_lst (w_cons (w_kp w_c) (w_cons (w_kp w_c) (w_cons (w_kp w_c) w_nil))) (by have := size_ge; simp; omega))) (w_rd (w_fn (w_cons (w_kp (w_var rfl)) (w_cons (w_kp w_c) w_nil)) e1)) em) rfl rfl)) (s_seqR (s_frz rfl (s_ret (w_kp (w_call (w_cons (w_rd (w_lc (i_r1 (w_cons (w_kp (w_var rfl)) w_nil) (bnd_lt (by omega) (by omega))) e2)) w_nil) rfl))))))
/-! ### what is odd -/
def oddM : List D := [.int 1, .int 6, .bl true, .str "2", .non]
def oddT : List D := [.int (-1), .int 13, .bl true, .str "3", .non]
def oddC (c : List Int) : List D := [.tup ((c ++ [0]).map .int), .tup (c.tail.map .int), .tup ((-1 :: c.tail).map .int), .tup ((c.dropLast ++ [25]).map .int), .lst (c.map .int), .non, .tup (.bl true :: c.tail.map .int)]
def oddW (w : List Int) : List D := [.tup ((w ++ [1]).map .int), .tup (w.tail.map .int), .tup ((101 :: w.tail).map .int), .tup ((w.dropLast ++ [-101]).map .int), .lst (w.map .int), .non, .tup (.bl false :: w.tail.map .int)]
theorem dM (ρ : Env') (st : Store) : GM ρ st = .ok oddM st := by kernel_rfl
theorem dT (ρ : Env') (st : Store) : GT ρ st = .ok oddT st := by kernel_rfl
theorem dC2 (a b : Int) (r0 r1 r2 r3 : SV) (T : Env') (st : Store) : GC (r0 :: r1 :: r2 :: r3 :: .val (.tup ([a, b].map .int)) :: T) st = .ok (oddC [a, b]) st := by kernel_rfl
theorem dC3 (a b c : Int) (r0 r1 r2 r3 : SV) (T : Env') (st : Store) : GC (r0 :: r1 :: r2 :: r3 :: .val (.tup ([a, b, c].map .int)) :: T) st = .ok (oddC [a, b, c]) st := by kernel_rfl
theorem dC4 (a b c d : Int) (r0 r1 r2 r3 : SV) (T : Env') (st : Store) : GC (r0 :: r1 :: r2 :: r3 :: .val (.tup ([a, b, c, d].map .int)) :: T) st = .ok (oddC [a, b, c, d]) st := by kernel_rfl
theorem dW2 (a b : Int) (r0 r1 r2 r3 r4 r5 : SV) (T : Env') (st : Store) : GW (r0 :: r1 :: r2 :: r3 :: r4 :: r5 :: .val (.tup ([a, b].map .int)) :: T) st = .ok (oddW [a, b]) st := by kernel_rfl
theorem dW3 (a b c : Int) (r0 r1 r2 r3 r4 r5 : SV) (T : Env') (st : Store) : GW (r0 :: r1 :: r2 :: r3 :: r4 :: r5 :: .val (.tup ([a, b, c].map .int)) :: T) st = .ok (oddW [a, b, c]) st := by kernel_rfl
theorem dW4 (a b c d : Int) (r0 r1 r2 r3 r4 r5 : SV) (T : Env') (st : Store) : GW (r0 :: r1 :: r2 :: r3 :: r4 :: r5 :: .val (.tup ([a, b, c, d].map .int)) :: T) st = .ok (oddW [a, b, c, d]) st := by kernel_rfl
theorem dC (o : OC n c w) (r0 r1 r2 r3 : SV) (T : Env') (st : Store) : GC (r0 :: r1 :: r2 :: r3 :: .val (.tup (c.map .int)) :: T) st = .ok (oddC c) st := by
  have h1 := o.two
  have h2 := o.four
  have h3 := o.lc
  match c, h3 with
  | [], h3 => simp at h3; omega
  | [_], h3 => simp at h3; omega
  | [a, b], h3 => exact dC2 a b r0 r1 r2 r3 T st
  | [a, b, c], h3 => exact dC3 a b c r0 r1 r2 r3 T st
  | [a, b, c, d], h3 => exact dC4 a b c d r0 r1 r2 r3 T st
  | a :: b :: c :: d :: e :: r, h3 => simp at h3; omega
theorem dW (o : OC n c w) (r0 r1 r2 r3 r4 r5 : SV) (T : Env') (st : Store) : GW (r0 :: r1 :: r2 :: r3 :: r4 :: r5 :: .val (.tup (w.map .int)) :: T) st = .ok (oddW w) st := by
  have h1 := o.two
  have h2 := o.four
  have h3 := o.lw
  match w, h3 with
  | [], h3 => simp at h3; omega
  | [_], h3 => simp at h3; omega
  | [a, b], h3 => exact dW2 a b r0 r1 r2 r3 r4 r5 T st
  | [a, b, c], h3 => exact dW3 a b c r0 r1 r2 r3 r4 r5 T st
  | [a, b, c, d], h3 => exact dW4 a b c d r0 r1 r2 r3 r4 r5 T st
  | a :: b :: c :: d :: e :: r, h3 => simp at h3; omega
structure Fit (d : D) : Prop where
  ok : okD d
  bd : Ev.bd d ≤ 200
  pl : D.pl 59 d = true
theorem fit_ints (ns : List Int) (h : ns.length ≤ 5) (hb : ∀ x ∈ ns, -101 ≤ x ∧ x ≤ 101) : Fit (.tup (ns.map .int)) := ⟨okD_ints ns (by omega), by
  have := bds_ints ns hb
  simp only [Ev.bd]
  omega, pls_ints 58 ns⟩
theorem fit_bl (b : Bool) (ns : List Int) (h : ns.length ≤ 5) (hb : ∀ x ∈ ns, -101 ≤ x ∧ x ≤ 101) : Fit (.tup (.bl b :: ns.map .int)) := ⟨⟨rfl, fun ds e => by
  cases e
  refine ⟨by have := size_ge; simp; omega, fun e he => ?_⟩
  rcases List.mem_cons.1 he with rfl | he
  · rfl
  · obtain ⟨i, _, rfl⟩ := List.mem_map.1 he
    rfl⟩, by
  have := bds_ints ns hb
  simp only [Ev.bd, Ev.bds]
  omega, by simp only [D.pl, D.pls, pls_ints, Bool.and_self]⟩
theorem fit_lst (ns : List Int) (h : ns.length ≤ 5) (hb : ∀ x ∈ ns, -101 ≤ x ∧ x ≤ 101) : Fit (.lst (ns.map .int)) := ⟨⟨rfl, fun ds e => nomatch e⟩, by
  have := bds_ints ns hb
  simp only [Ev.bd]
  omega, pls_ints 58 ns⟩
theorem fit_non : Fit .non := ⟨⟨rfl, fun ds e => nomatch e⟩, by simp only [Ev.bd]; omega, rfl⟩
theorem fit_b (b : Bool) : Fit (.bl b) := ⟨⟨rfl, fun ds e => nomatch e⟩, by simp only [Ev.bd]; omega, rfl⟩
theorem fit_int (i : Int) (h1 : -101 ≤ i) (h2 : i ≤ 101) : Fit (.int i) := ⟨⟨rfl, fun ds e => nomatch e⟩, by simp only [Ev.bd]; rw [if_pos ⟨h1, h2⟩]; omega, rfl⟩
theorem len23 : ∀ x ∈ (["2", "3"] : List Str), (PySem.reprText x).length ≤ 20 ∧ PyData.strOk x = true := by decide +kernel
theorem fit_str {x : Str} (h : x ∈ (["2", "3"] : List Str)) : Fit (.str x) := ⟨⟨rfl, fun ds e => nomatch e⟩, by
  have := (len23 x h).1
  simp only [Ev.bd]
  omega, (len23 x h).2⟩
theorem oddM_fact : ∀ d ∈ oddM, Fit d ∧ isM d = false := by
  intro d hd
  simp only [oddM, List.mem_cons, List.not_mem_nil, or_false] at hd
  rcases hd with rfl | rfl | rfl | rfl | rfl
  · exact ⟨fit_int 1 (by decide) (by decide), rfl⟩
  · exact ⟨fit_int 6 (by decide) (by decide), rfl⟩
  · exact ⟨fit_b true, rfl⟩
  · exact ⟨fit_str (by decide), rfl⟩
  · exact ⟨fit_non, rfl⟩
theorem oddT_fact : ∀ d ∈ oddT, Fit d ∧ isB d 13 = false := by
  intro d hd
  simp only [oddT, List.mem_cons, List.not_mem_nil, or_false] at hd
  rcases hd with rfl | rfl | rfl | rfl | rfl
  · exact ⟨fit_int (-1) (by decide) (by decide), rfl⟩
  · exact ⟨fit_int 13 (by decide) (by decide), rfl⟩
  · exact ⟨fit_b true, rfl⟩
  · exact ⟨fit_str (by decide), rfl⟩
  · exact ⟨fit_non, rfl⟩
theorem oddC_fact (o : OC n c w) : ∀ d ∈ oddC c, Fit d ∧ isC (n : Int) d = false := by
  intro d hd
  have h1 := o.two
  have h2 := o.four
  have h3 := o.lc
  have hb : ∀ x ∈ c, -101 ≤ x ∧ x ≤ 101 := fun x hx => by have := o.oc.2 x hx; omega
  have hbt : ∀ x ∈ c.tail, -101 ≤ x ∧ x ≤ 101 := fun x hx => hb x (List.mem_of_mem_tail hx)
  simp only [oddC, List.mem_cons, List.not_mem_nil, or_false] at hd
  rcases hd with rfl | rfl | rfl | rfl | rfl | rfl | rfl
  · refine ⟨fit_ints _ (by simp; omega) (fun x hx => ?_), ?_⟩
    · rcases List.mem_append.1 hx with hx | hx
      · exact hb x hx
      · simp at hx; omega
    · have : ¬ ((c.length : Int) + 1 = (n : Int)) := by omega
      simp [isC, this]
  · refine ⟨fit_ints _ (by simp; omega) hbt, ?_⟩
    have : ¬ (((c.length - 1 : Nat) : Int) = (n : Int)) := by omega
    simp [isC, this]
  · refine ⟨fit_ints _ (by simp; omega) (fun x hx => ?_), ?_⟩
    · rcases List.mem_cons.1 hx with rfl | hx
      · omega
      · exact hbt x hx
    · simp [isC, isB]
  · refine ⟨fit_ints _ (by simp; omega) (fun x hx => ?_), ?_⟩
    · rcases List.mem_append.1 hx with hx | hx
      · exact hb x (List.dropLast_subset c hx)
      · simp at hx; omega
    · simp [isC, isB]
  · exact ⟨fit_lst c (by omega) hb, rfl⟩
  · exact ⟨fit_non, rfl⟩
  · refine ⟨fit_bl true _ (by simp; omega) hbt, ?_⟩
    simp [isC, isB]
theorem oddW_fact (o : OC n c w) : ∀ d ∈ oddW w, Fit d ∧ isWs (n : Int) d = false := by
  intro d hd
  have h1 := o.two
  have h2 := o.four
  have h3 := o.lw
  have hb : ∀ x ∈ w, -101 ≤ x ∧ x ≤ 101 := fun x hx => by have := o.ow.2 x hx; omega
  have hbt : ∀ x ∈ w.tail, -101 ≤ x ∧ x ≤ 101 := fun x hx => hb x (List.mem_of_mem_tail hx)
  simp only [oddW, List.mem_cons, List.not_mem_nil, or_false] at hd
  rcases hd with rfl | rfl | rfl | rfl | rfl | rfl | rfl
  · refine ⟨fit_ints _ (by simp; omega) (fun x hx => ?_), ?_⟩
    · rcases List.mem_append.1 hx with hx | hx
      · exact hb x hx
      · simp at hx; omega
    · have : ¬ ((w.length : Int) + 1 = (n : Int)) := by omega
      simp [isWs, this]
  · refine ⟨fit_ints _ (by simp; omega) hbt, ?_⟩
    have : ¬ (((w.length - 1 : Nat) : Int) = (n : Int)) := by omega
    simp [isWs, this]
  · refine ⟨fit_ints _ (by simp; omega) (fun x hx => ?_), ?_⟩
    · rcases List.mem_cons.1 hx with rfl | hx
      · omega
      · exact hbt x hx
    · simp [isWs, isWo]
  · refine ⟨fit_ints _ (by simp; omega) (fun x hx => ?_), ?_⟩
    · rcases List.mem_append.1 hx with hx | hx
      · exact hb x (List.dropLast_subset w hx)
      · simp at hx; omega
    · simp [isWs, isWo]
  · exact ⟨fit_lst w (by omega) hb, rfl⟩
  · exact ⟨fit_non, rfl⟩
  · refine ⟨fit_bl false _ (by simp; omega) hbt, ?_⟩
    simp [isWs, isWo]
end M52
/-! The law, held. -/
namespace M52
open PySem Ev
variable {n : Nat} {c w : List Int}
theorem mem0 : ("BadMany" : Str) ∈ words := by decide
theorem mem1 : ("BadContent" : Str) ∈ words := by decide
theorem mem2 : ("BadWorths" : Str) ∈ words := by decide
theorem mem3 : ("BadTotal" : Str) ∈ words := by decide
theorem iter (l : Nat) (st : Store) (x0 x1 x3 x5 x6 x7 x8 x9 x10 x16 : SV) (k : Int) (N C m dc dw dt r1 r2 : D)
    (h1 : Q (l + 20) 29 [.int k, m, dc, dw, dt] st = .ok (.lst [.str "BadMany", m]) st)
    (h2 : Q (l + 20) 29 [.int k, N, dc, dw, .int 0] st = .ok r1 st)
    (h3 : Q (l + 20) 29 [.int k, N, C, dw, .int 0] st = .ok r2 st)
    (b1 b2 : Bool) (d1 : dIn (.int k) (.tup [.int 1, .int 2]) = some (.per (.bl b1))) (d2 : dLt (.int k) (.int 3) = some (.per (.bl b2)))
    (c1 : b1 = true → r1 = .lst [.str "BadContent", dc]) (c2 : b2 = true → r2 = .lst [.str "BadWorths", dw]) (fm : Fit m) (fc : Fit dc) (fw : Fit dw) :
    bAsk l [x0, x1, .val N, x3, .val C, x5, x6, x7, x8, x9, x10, .val m, .val dc, .val dw, .val dt, .val (.int k), x16] st = .nx [x0, x1, .val N, x3, .val C, x5, x6, x7, x8, x9, x10, .val m, .val dc, .val dw, .val dt, .val (.int k), .val r2] st := by
  have l1 := like_told (l + 19) mem0 fm.bd fm.pl st
  have two := size_ge
  have s2 : ∀ a b : D, [a, b].length ≤ sizeLine := fun a b => by simp; omega
  refine s_seq (s_frz rfl (s_ifF (t_not (k := true) (t_tru (w_fn (w_cons (w_kp (w_fn (w_cons (w_kp (w_var rfl)) (w_cons (w_kp (w_var rfl)) (w_cons (w_kp (w_var rfl)) (w_cons (w_kp (w_var rfl)) (w_cons (w_kp (w_var rfl)) w_nil))))) h1)) (w_cons (w_kpl (w_cons (w_kp w_c) (w_cons (w_kp (w_var rfl)) w_nil)) (s2 _ _)) w_nil)) l1) rfl)) s_skip)) ?_
  refine s_seq (s_frz rfl (s_set (s := .val r1) (w_fn (w_cons (w_kp (w_var rfl)) (w_cons (w_kp (w_var rfl)) (w_cons (w_kp (w_var rfl)) (w_cons (w_kp (w_var rfl)) (w_cons (w_kp w_c) w_nil))))) h2) rfl rfl)) ?_
  refine s_seq (st1 := st) (ρ' := [x0, x1, .val N, x3, .val C, x5, x6, x7, x8, x9, x10, .val m, .val dc, .val dw, .val dt, .val (.int k), .val r1]) (s_frz (ρ' := [x0, x1, .val N, x3, .val C, x5, x6, x7, x8, x9, x10, .val m, .val dc, .val dw, .val dt, .val (.int k), .val r1]) rfl (s_ifF ?_ s_skip)) ?_
  · cases b1 with
    | false => exact t_andF (t_bool (w_bin (w_rd (w_var rfl)) (w_rd (w_tup (w_cons (w_kp w_c) (w_cons (w_kp w_c) w_nil)) (s2 _ _))) d1))
    | true =>
      have l2 := like_told (l + 19) mem1 fc.bd fc.pl st
      rw [c1 rfl]
      exact t_andT (t_bool (w_bin (w_rd (w_var rfl)) (w_rd (w_tup (w_cons (w_kp w_c) (w_cons (w_kp w_c) w_nil)) (s2 _ _))) d1)) (t_not (k := true) (t_tru (w_fn (w_cons (w_kp (w_var rfl)) (w_cons (w_kpl (w_cons (w_kp w_c) (w_cons (w_kp (w_var rfl)) w_nil)) (s2 _ _)) w_nil)) l2) rfl))
  refine s_seq (s_frz rfl (s_set (s := .val r2) (w_fn (w_cons (w_kp (w_var rfl)) (w_cons (w_kp (w_var rfl)) (w_cons (w_kp (w_var rfl)) (w_cons (w_kp (w_var rfl)) (w_cons (w_kp w_c) w_nil))))) h3) rfl rfl)) ?_
  refine s_seq (st1 := st) (ρ' := [x0, x1, .val N, x3, .val C, x5, x6, x7, x8, x9, x10, .val m, .val dc, .val dw, .val dt, .val (.int k), .val r2]) (s_frz (ρ' := [x0, x1, .val N, x3, .val C, x5, x6, x7, x8, x9, x10, .val m, .val dc, .val dw, .val dt, .val (.int k), .val r2]) rfl (s_ifF ?_ s_skip)) s_skip
  cases b2 with
  | false => exact t_andF (t_bool (w_bin (w_rd (w_var rfl)) (w_rd w_c) d2))
  | true =>
    have l2 := like_told (l + 19) mem2 fw.bd fw.pl st
    rw [c2 rfl]
    exact t_andT (t_bool (w_bin (w_rd (w_var rfl)) (w_rd w_c) d2)) (t_not (k := true) (t_tru (w_fn (w_cons (w_kp (w_var rfl)) (w_cons (w_kpl (w_cons (w_kp w_c) (w_cons (w_kp (w_var rfl)) w_nil)) (s2 _ _)) w_nil)) l2) rfl))
theorem asks (o : OC n c w) (l : Nat) (st : Store) (x0 x1 x3 x5 x6 x7 x8 x9 x10 : SV) {m dc dw dt : D} (hm : m ∈ oddM) (hc : dc ∈ oddC c) (hw : dw ∈ oddW w) :
    S20 l [x0, x1, .val (.int (n : Int)), x3, .val (.tup (c.map .int)), x5, x6, x7, x8, x9, x10, .val m, .val dc, .val dw, .val dt, .un, .un] st = .nx [x0, x1, .val (.int (n : Int)), x3, .val (.tup (c.map .int)), x5, x6, x7, x8, x9, x10, .val m, .val dc, .val dw, .val dt, .val (.int 3), .val (.lst [.str "told", .lst (tups (tw n 0))])] st := by
  have f1 := oddM_fact m hm
  have f2 := oddC_fact o dc hc
  have f3 := oddW_fact o dw hw
  have h1 := o.two
  have h2 := o.four
  have n1 : (2 : Int) ≤ (n : Int) := by omega
  have n2 : (n : Int) ≤ 5 := by omega
  have t0 := told3 (d := dc) (w := dw) (test_ok o.mem (show 0 ≤ 6 by omega) (l + 11) st)
  have t1 := told3 (d := .tup (c.map .int)) (w := dw) (test_ok o.mem (show 0 ≤ 6 by omega) (l + 11) st)
  refine s_for (i_r1 (w_cons (w_kp w_c) w_nil) (bnd_lt (by decide) (by decide))) ?_
  rw [show rngD 0 (4 : Int).toNat = [.int 0, .int 1, .int 2, .int 3] from rfl]
  refine l_nx rfl (iter l st x0 x1 x3 x5 x6 x7 x8 x9 x10 .un 0 _ _ m dc dw dt _ _ (ask0 mem0 (nws_many (l + 16) m dw f1.1.ok.1 f1.2 st)) (ask0 mem2 (nws_bad (l + 16) (n : Int) n1 n2 dw f3.1.ok f3.2 st)) (ask0 mem2 (nws_bad (l + 16) (n : Int) n1 n2 dw f3.1.ok f3.2 st)) false true rfl rfl (fun h => Bool.noConfusion h) (fun _ => rfl) f1.1 f2.1 f3.1) ?_
  refine l_nx rfl (iter l st x0 x1 x3 x5 x6 x7 x8 x9 x10 _ 1 _ _ m dc dw dt _ _ (ask1 mem0 (pat_many (l + 14) m dc dw f1.1.ok.1 f1.2 st)) (ask1 mem1 (pat_cont (l + 14) (n : Int) n1 n2 dc dw f2.1.ok f2.2 st)) (ask1 mem2 (pat_ws (l + 14) (n : Int) n1 n2 _ dw o.okc o.isC f3.1.ok f3.2 st)) true true rfl rfl (fun _ => rfl) (fun _ => rfl) f1.1 f2.1 f3.1) ?_
  refine l_nx rfl (iter l st x0 x1 x3 x5 x6 x7 x8 x9 x10 _ 2 _ _ m dc dw dt _ _ (ask2 mem0 (ev_many (l + 14) m dc dw _ f1.1.ok.1 f1.2 st)) (ask2 mem1 (ev_cont (l + 14) (n : Int) n1 n2 dc dw _ f2.1.ok f2.2 st)) (ask2 mem2 (ev_ws (l + 14) (n : Int) n1 n2 _ dw _ o.okc o.isC f3.1.ok f3.2 st)) true true rfl rfl (fun _ => rfl) (fun _ => rfl) f1.1 f2.1 f3.1) ?_
  refine l_nx rfl (iter l st x0 x1 x3 x5 x6 x7 x8 x9 x10 _ 3 _ _ m dc dw dt _ _ (ask3 mem0 (test_many m dt f1.1.ok.1 f1.2 (l + 11) st)) t0 t1 false false rfl rfl (fun h => Bool.noConfusion h) (fun h => Bool.noConfusion h) f1.1 f2.1 f3.1) l_nil
/-! ### the rows that never ascend, added up -/
theorem fk_len : ∀ n ∈ [2, 3, 4], ∀ k ∈ [0, 1, 2, 3, 4, 5, 6], (fk n k).length ≤ 20 := by decide +kernel
theorem fall_loop (o : OC n c w) (l : Nat) (st : Store) (x0 x1 x3 x4 x5 x6 x7 x8 : SV) (T : Env') : ∀ (ks : List Nat) (acc : List (List Int)) (y : SV), (∀ k ∈ ks, k ≤ 6) → acc.length + 20 * ks.length ≤ 400 →
    ∃ y', sForL (gN 10) (bFall l) (ks.map fun k => .int (0 + ((k : Nat) : Int))) (x0 :: x1 :: .val (.int (n : Int)) :: x3 :: x4 :: x5 :: x6 :: x7 :: x8 :: .own (tups acc) :: y :: T) st = .nx (x0 :: x1 :: .val (.int (n : Int)) :: x3 :: x4 :: x5 :: x6 :: x7 :: x8 :: .own (tups (acc ++ ks.flatMap (fk n))) :: y' :: T) st
  | [], acc, y, _, _ => ⟨y, by simp [sForL]⟩
  | k :: ks, acc, y, hk, hl => by
    have hl : acc.length + 20 * (ks.length + 1) ≤ 400 := hl
    have h6 := hk k (by simp)
    have fl := fk_len n o.mem k (by
      have : k = 0 ∨ k = 1 ∨ k = 2 ∨ k = 3 ∨ k = 4 ∨ k = 5 ∨ k = 6 := by omega
      simpa using this)
    obtain ⟨y', h⟩ := fall_loop o l st x0 x1 x3 x4 x5 x6 x7 x8 T ks (acc ++ fk n k) (.val (.int (0 + (k : Int)))) (fun j hj => hk j (List.mem_cons_of_mem _ hj)) (by simp; omega)
    have e1 : Q (l + 20) 27 [.int (n : Int), .int (0 + (k : Int))] st = .ok (.lst (tups (fk n k))) st := by
      rw [Int.zero_add]
      exact fall_ok o.mem h6 (l + 19) st
    have e2 : dAdd (.lst (tups acc)) (.lst (tups (fk n k))) = some (.fr (tups (acc ++ fk n k))) := by
      unfold dAdd
      dsimp only
      rw [if_pos (by have := size_ge; simp [tups]; omega)]
      simp [tups]
    refine ⟨y', l_nx rfl (s_seq (s_frz rfl (s_set (s := .own (tups (acc ++ fk n k))) (w_bin (w_rd (w_var rfl)) (w_rd (w_fn (w_cons (w_kp (w_var rfl)) (w_cons (w_kp (w_var rfl)) w_nil)) e1)) e2) rfl rfl)) s_skip) (h.trans ?_)⟩
    rw [List.flatMap_cons, List.append_assoc]
theorem tail_ok (o : OC n c w) (l : Nat) (st : Store) (a : Nat) (ha : a ≤ 700) (ws : WS st a) (x0 x3 x5 : SV) : ∃ st',
    sSeq (S7 l) (sSeq (S8 l) (sSeq (S9 l) (sSeq (S10 l) (sSeq (S11 l) (sSeq (S12 l) (sSeq (S13 l) (sSeq (S14 l) (sSeq (S15 l) (sSeq (S16 l) (sSeq (S17 l) (sSeq (S18 l) (sSeq (S19 l) (sSeq (S20 l) (sSeq (S21 l) sSkip))))))))))))))
      [x0, .val (.cell 1), .val (.int (n : Int)), x3, .val (.tup (c.map .int)), x5, .val (.tup (w.map .int)), .un, .un, .un, .un, .un, .un, .un, .un, .un, .un] st = .rt (.bl true) st' := by
  have h1 := o.two
  have h2 := o.four
  have two := size_ge
  have s2 : ∀ a b : D, [a, b].length ≤ sizeLine := fun a b => by simp; omega
  have n1 : (2 : Int) ≤ (n : Int) := by omega
  have n2 : (n : Int) ≤ 5 := by omega
  have wb : ∀ x ∈ w, -101 ≤ x ∧ x ≤ 101 := fun x hx => by have := o.ow.2 x hx; omega
  have e7 := nws_ok (l + 17) (n : Int) n1 n2 _ o.okw o.isWs st
  have k7 := like_ints (l + 19) wb (by have := o.lw; omega) st
  have e8 := pat_ok o (l + 15) st
  have e8b : Q (l + 20) 23 [.tup (c.map .int), .tup (w.map .int)] st = .ok (.int (prodI c w 1)) st := prod_ok (l + 18) c w o.oc o.ow st
  have k8 := like_int (l + 19) (lg_mono (prod_lg c w o.oc o.ow) (show 700 ≤ 800 by omega)) st
  have e9 := even_law o (l + 17) st
  have e10 : Q (l + 20) 13 [.int (n : Int), .tup (c.map .int), .tup (w.map .int), .bl false] st = .ok (.int (sumP w (perms c))) st := ev_ok o false (l + 13) st
  have e11 : Q (l + 20) 13 [.int (n : Int), .tup (c.map .int), .tup (w.map .int), .bl true] st = .ok (.int (sumP w (uniq c))) st := ev_ok o true (l + 13) st
  have k10 := like_int (l + 19) (sum_lg o.ow (perms c) o.perms o.plen) st
  have k11 := like_int (l + 19) (sum_lg o.ow (uniq c) (fun r hr => o.perms r (uniq_mem.1 hr)) (uniq_len o)) st
  have e11b := unlike_law o (l + 17) st
  obtain ⟨v, st1, d1, v0, v1, ws1⟩ := draw_ok (l + 18) (by omega) (show (0 : Int) < 7 by decide) (by decide) ws
  obtain ⟨t, rfl⟩ : ∃ t : Nat, v = (t : Int) := ⟨v.toNat, by omega⟩
  have t6 : t ≤ 6 := by omega
  obtain ⟨y', lp⟩ := fall_loop o l st1 x0 (.val (.cell 1)) x3 (.val (.tup (c.map .int))) x5 (.val (.tup (w.map .int))) (.val (.int (sumP w (perms c)))) (.val (.int (t : Int))) [.un, .un, .un, .un, .un, .un] (List.range (t + 1)) [] .un (fun k hk => by have := List.mem_range.1 hk; omega) (by simp; omega)
  have tf := tw_fact n o.mem t (by
    have : t = 0 ∨ t = 1 ∨ t = 2 ∨ t = 3 ∨ t = 4 ∨ t = 5 ∨ t = 6 := by omega
    simpa using this)
  have e15 := test_ok o.mem t6 (l + 12) st1
  have k15 := like_tups (l + 19) tf.2 tf.1 st1
  obtain ⟨m, st2, q1, m1, ws2⟩ := of_ok (l + 17) oddM (by decide) (by decide) (by omega) ws1
  obtain ⟨dc, st3, q2, m2, ws3⟩ := of_ok (l + 17) (oddC c) (by simp [oddC]) (by simp [oddC]) (by omega) ws2
  obtain ⟨dw, st4, q3, m3, ws4⟩ := of_ok (l + 17) (oddW w) (by simp [oddW]) (by simp [oddW]) (by omega) ws3
  obtain ⟨dt, st5, q4, m4, ws5⟩ := of_ok (l + 17) oddT (by decide) (by decide) (by omega) ws4
  have f4 := oddT_fact dt m4
  have e21 := ask3 (d := .tup (c.map .int)) (w := .tup (w.map .int)) mem3 (test_tot o.mem dt f4.1.ok.1 f4.2 (l + 11) st5)
  have k21 := like_told (l + 19) mem3 f4.1.bd f4.1.pl st5
  refine ⟨st5, ?_⟩
  refine s_seq (s_frz rfl (s_ifF (t_not (k := true) (t_tru (w_fn (w_cons (w_kp (w_fn (w_cons (w_kp (w_var rfl)) (w_cons (w_kp (w_var rfl)) w_nil)) e7)) (w_cons (w_kp (w_var rfl)) w_nil)) k7) rfl)) s_skip)) ?_
  refine s_seq (s_frz rfl (s_ifF (t_not (k := true) (t_tru (w_fn (w_cons (w_kp (w_fn (w_cons (w_kp (w_var rfl)) (w_cons (w_kp (w_var rfl)) (w_cons (w_kp (w_var rfl)) w_nil))) e8)) (w_cons (w_kp (w_fn (w_cons (w_kp (w_var rfl)) (w_cons (w_kp (w_var rfl)) w_nil)) e8b)) w_nil)) k8) rfl)) s_skip)) ?_
  refine s_seq (s_frz rfl (s_set (s := .val (.int (sumP w (perms c)))) (w_fn (w_cons (w_kp (w_var rfl)) (w_cons (w_kp (w_var rfl)) w_nil)) e9) rfl rfl)) ?_
  refine s_seq (s_frz rfl (s_ifF (t_orF (t_not (k := true) (t_tru (w_fn (w_cons (w_kp (w_fnD (w_cons (w_kp (w_var rfl)) (w_cons (w_kp (w_var rfl)) (w_cons (w_kp (w_var rfl)) w_nil))) e10)) (w_cons (w_kp (w_var rfl)) w_nil)) k10) rfl)) (t_not (k := true) (t_tru (w_fn (w_cons (w_kp (w_fnK (w_cons (w_kp (w_var rfl)) (w_cons (w_kp (w_var rfl)) (w_cons (w_kp (w_var rfl)) w_nil))) (w_cons (w_kp w_c) w_nil) e10)) (w_cons (w_kp (w_var rfl)) w_nil)) k10) rfl))) s_skip)) ?_
  refine s_seq (s_frz rfl (s_ifF (t_not (k := true) (t_tru (w_fn (w_cons (w_kp (w_fnK (w_cons (w_kp (w_var rfl)) (w_cons (w_kp (w_var rfl)) (w_cons (w_kp (w_var rfl)) w_nil))) (w_cons (w_kp w_c) w_nil) e11)) (w_cons (w_kp (w_fn (w_cons (w_kp (w_var rfl)) (w_cons (w_kp (w_var rfl)) w_nil)) e11b)) w_nil)) k11) rfl)) s_skip)) ?_
  refine s_seq (s_frz rfl (s_set (s := .val (.int (t : Int))) (w_fn (w_cons (w_kp (w_var rfl)) (w_cons (w_kp w_c) w_nil)) d1) rfl rfl)) ?_
  refine s_seq (s_set (s := .own (tups [])) (w_lst w_nil (Nat.zero_le _)) rfl rfl) ?_
  refine s_seq (s_for (i_r1 (w_cons (w_kp (w_bin (w_rd (w_var rfl)) (w_rd w_c) (show dAdd (.int (t : Int)) (.int 1) = some (.per (.int ((t + 1 : Nat) : Int))) from rfl))) w_nil) (bnd_lt (by omega) (by omega))) lp) ?_
  refine s_seq (s_frz (ρ' := [x0, .val (.cell 1), .val (.int (n : Int)), x3, .val (.tup (c.map .int)), x5, .val (.tup (w.map .int)), .val (.int (sumP w (perms c))), .val (.int (t : Int)), .val (.lst (tups (tw n t))), y', .un, .un, .un, .un, .un, .un]) rfl (s_ifF (t_not (k := true) (t_tru (w_fn (w_cons (w_kp (w_fn (w_cons (w_kp (w_var rfl)) (w_cons (w_kp (w_var rfl)) w_nil)) e15)) (w_cons (w_kp (w_var rfl)) w_nil)) k15) rfl)) s_skip)) ?_
  refine s_seq (s_frz rfl (s_set (s := .val m) (w_fn (w_cons (w_kp (w_var rfl)) (w_cons (w_kpl (dM _ _) (by simp [oddM]; omega)) w_nil)) q1) rfl rfl)) ?_
  refine s_seq (s_frz rfl (s_set (s := .val dc) (w_fn (w_cons (w_kp (w_var rfl)) (w_cons (w_kpl (dC o _ _ _ _ _ _) (by simp [oddC]; omega)) w_nil)) q2) rfl rfl)) ?_
  refine s_seq (s_frz rfl (s_set (s := .val dw) (w_fn (w_cons (w_kp (w_var rfl)) (w_cons (w_kpl (dW o _ _ _ _ _ _ _ _) (by simp [oddW]; omega)) w_nil)) q3) rfl rfl)) ?_
  refine s_seq (s_frz rfl (s_set (s := .val dt) (w_fn (w_cons (w_kp (w_var rfl)) (w_cons (w_kpl (dT _ _) (by simp [oddT]; omega)) w_nil)) q4) rfl rfl)) ?_
  refine s_seq (asks o l st5 x0 _ x3 x5 _ _ _ _ _ m1 m2 m3) ?_
  exact s_seqR (s_frz rfl (s_ret (w_kp (w_fn (w_cons (w_kp (w_fn (w_cons (w_kp w_c) (w_cons (w_kp (w_var rfl)) (w_cons (w_kp (w_var rfl)) (w_cons (w_kp (w_var rfl)) (w_cons (w_kp (w_var rfl)) w_nil))))) e21)) (w_cons (w_kpl (w_cons (w_kp w_c) (w_cons (w_kp (w_var rfl)) w_nil)) (s2 _ _)) w_nil)) k21))))
end M52
/-! The whole law. -/
namespace M52
open PySem Ev
theorem own_set (cs : List Int) (i : Nat) (v : Int) : (cs.map D.int).set i (.int v) = (cs.set i v).map .int := List.map_set.symm
theorem s_setOwn {ρ : Env'} {st st1 st2 : Store} {k : Nat} {f fi : Env' → M D} {ds : List D} {d : D} {j : Int} {m : Nat} (hk : ρ[k]? = some (.own ds)) (h : f ρ st = .ok d st1) (h1 : fi ρ st1 = .ok (.int j) st2) (hn : L2.ixN ds.length j = some m) : sSetN k f fi ρ st = .nx (ρ.set k (.own (ds.set m d))) st2 := by
  unfold sSetN
  rw [hk]
  dsimp only
  unfold sSetOwn
  rw [hk]
  dsimp only
  unfold thenS
  dsimp only
  rw [bok h, bok h1]
  dsimp only [M.pure]
  rw [hk]
  dsimp only
  rw [hn]
theorem mix4 (l : Nat) (x0 x3 : SV) {n : Nat} {b : Int} (hn : 0 < n) (hn2 : n ≤ 5) (T : Env') {cs : List Int} (hl : cs.length = n) (hb : ∀ x ∈ cs, 0 ≤ x ∧ x < b) {st : Store} {a : Nat} (ha : a ≤ 500) (ws : WS st a) :
    ∃ (cs' : List Int) (st' : Store) (a' : Nat), S4 l (x0 :: .val (.cell 1) :: .val (.int (n : Int)) :: x3 :: .own (cs.map .int) :: T) st = .nx (x0 :: .val (.cell 1) :: .val (.int (n : Int)) :: x3 :: .own (cs'.map .int) :: T) st' ∧ cs'.length = n ∧ (∀ x ∈ cs', 0 ≤ x ∧ x < b) ∧ WS st' a' ∧ a' ≤ a + 3 := by
  obtain ⟨v, st1, d1, v0, v1, ws1⟩ := draw_ok (l + 18) (by omega) (show (0 : Int) < 2 by decide) (by decide) ws
  by_cases hv : v = 0
  · subst hv
    obtain ⟨v, st2, d2, v0, v1, ws2⟩ := draw_ok (l + 18) (by omega) (show (0 : Int) < (n : Int) by omega) (by omega) ws1
    obtain ⟨u, st3, d3, u0, u1, ws3⟩ := draw_ok (l + 18) (by omega) (show (0 : Int) < (n : Int) by omega) (by omega) ws2
    have g := g_cell st2 cs v v0 (by omega)
    have hg : 0 ≤ cs.getD v.toNat 0 ∧ cs.getD v.toNat 0 < b := by
      have hlt : v.toNat < cs.length := by omega
      rw [List.getD_eq_getElem?_getD, List.getElem?_eq_getElem hlt]
      exact hb _ (List.getElem_mem hlt)
    generalize cs.getD v.toNat 0 = y at g hg
    refine ⟨cs.set u.toNat y, st3, a + 1 + 1 + 1, ?_, by simpa using hl, fun x hx => ?_, ws3, by omega⟩
    · have e1 : L2.ixN (cs.map D.int).length u = some u.toNat := by
        unfold L2.ixN
        rw [if_pos u0, if_pos (by rw [List.length_map]; omega)]
      refine s_frz rfl (s_ifT (t_bool (w_bin (w_rd (w_fn (w_cons (w_kp (w_var rfl)) (w_cons (w_kp w_c) w_nil)) d1)) (w_rd w_c) rfl)) (s_seq (s_frz rfl ?_) s_skip))
      have a1 : kp (sBinS ixSt (rd (sVar 4)) (rd (sFn (Q (l + 20) 19) (sCons (kp (sVar 1)) (sCons (kp (sVar 2)) sNil))))) (x0 :: .val (.cell 1) :: .val (.int (n : Int)) :: x3 :: .own (cs.map .int) :: T) st1 = .ok (.int y) st2 := w_kp (w_binS (w_rd (w_var rfl)) (w_rd (w_fn (w_cons (w_kp (w_var rfl)) (w_cons (w_kp (w_var rfl)) w_nil)) d2)) g)
      have a2 : rd (sFn (Q (l + 20) 19) (sCons (kp (sVar 1)) (sCons (kp (sVar 2)) sNil))) (x0 :: .val (.cell 1) :: .val (.int (n : Int)) :: x3 :: .own (cs.map .int) :: T) st2 = .ok (.int u) st3 := w_rd (w_fn (w_cons (w_kp (w_var rfl)) (w_cons (w_kp (w_var rfl)) w_nil)) d3)
      refine (s_setOwn rfl a1 a2 e1).trans ?_
      rw [own_set]
      rfl
    · rcases List.mem_or_eq_of_mem_set hx with hx | rfl
      · exact hb x hx
      · exact hg
  · have e : dEq (.int v) (.int 0) = some (.per (.bl false)) := by
      show some (RV.per (.bl (v == 0))) = _
      have : (v == 0) = false := by simpa using hv
      rw [this]
    exact ⟨cs, st1, a + 1, s_frz rfl (s_ifF (t_bool (w_bin (w_rd (w_fn (w_cons (w_kp (w_var rfl)) (w_cons (w_kp w_c) w_nil)) d1)) (w_rd w_c) e)) s_skip), hl, hb, ws1, by omega⟩
theorem head_ok (l : Nat) (ns : List Int) (h : ns.length ≤ 63) : ∃ st, Q (l + 21) 30 [.lst (ns.map .int)] [] = .ok (.bl true) st := by
  obtain ⟨st0, b0, ws0⟩ := begin_ok (l + 19) ns h
  obtain ⟨v, st1, d1, v0, v1, ws1⟩ := draw_ok (l + 18) (by omega) (show (0 : Int) < 3 by decide) (by decide) ws0
  obtain ⟨n, hn⟩ : ∃ n : Nat, 2 + v = (n : Int) := ⟨(2 + v).toNat, by omega⟩
  have n2 : 2 ≤ n := by omega
  have n4 : n ≤ 4 := by omega
  obtain ⟨b, hb, hb0, hb1⟩ : ∃ b : Int, S2 l [.val (.lst (ns.map .int)), .val (.cell 1), .val (.int (n : Int)), .un, .un, .un, .un, .un, .un, .un, .un, .un, .un, .un, .un, .un, .un] st1 = .nx [.val (.lst (ns.map .int)), .val (.cell 1), .val (.int (n : Int)), .val (.int b), .un, .un, .un, .un, .un, .un, .un, .un, .un, .un, .un, .un, .un] st1 ∧ 0 < b ∧ b ≤ 25 := by
    by_cases h2 : (n : Int) = 2
    · have e : dEq (.int (n : Int)) (.int 2) = some (.per (.bl true)) := by rw [h2]; rfl
      exact ⟨25, s_set (s := .val (.int 25)) (w_ifT (t_bool (w_bin (w_rd (w_var rfl)) (w_rd w_c) e)) w_c) rfl rfl, by decide, by decide⟩
    · have e : dEq (.int (n : Int)) (.int 2) = some (.per (.bl false)) := by
        show some (RV.per (.bl ((n : Int) == 2))) = _
        have : ((n : Int) == 2) = false := by simpa using h2
        rw [this]
      exact ⟨7, s_set (s := .val (.int 7)) (w_ifF (t_bool (w_bin (w_rd (w_var rfl)) (w_rd w_c) e)) w_c) rfl rfl, by decide, by decide⟩
  obtain ⟨cs, st2, e3, c1, c2, ws2⟩ := lc_draw (g := gN 5) (el := kp (sFn (Q (l + 20) 19) (sCons (kp (sVar 1)) (sCons (kp (sVar 3)) sNil)))) (P := fun x => 0 ≤ x ∧ x < b) (ρ := [.val (.lst (ns.map .int)), .val (.cell 1), .val (.int (n : Int)), .val (.int b), .un, .un, .un, .un, .un, .un, .un, .un, .un, .un, .un, .un, .un]) (rngD 0 n) [] st1 1 (fun d hd st a ws ha => by
    obtain ⟨v, st1, e1, v0, v1, ws1⟩ := draw_ok (l + 18) (by omega) hb0 (by omega) ws
    exact ⟨_, v, st1, rfl, w_kp (w_fn (w_cons (w_kp (w_var rfl)) (w_cons (w_kp (w_var rfl)) w_nil)) e1), ⟨v0, v1⟩, ws1⟩) ws1 (by rw [rng_len]; omega) (by rw [rng_len]; simp; omega)
  rw [rng_len] at c1 ws2
  obtain ⟨c, st3, a3, e4, c3, c4, ws3, ha3⟩ := mix4 l (.val (.lst (ns.map .int))) (.val (.int b)) (n := n) (by omega) (by omega) [.un, .un, .un, .un, .un, .un, .un, .un, .un, .un, .un, .un] c1 c2 (by omega) ws2
  obtain ⟨w, st4, e6, w1, w2, ws4⟩ := worths_ok (n := n) (l + 17) (by omega) (by omega) ws3
  have o : OC n c w := ⟨n2, n4, ⟨by omega, fun k hk => by have := c4 k hk; omega⟩, ⟨by omega, w2⟩, c3, w1⟩
  obtain ⟨st5, e7⟩ := tail_ok o l st4 _ (by omega) ws4 (.val (.lst (ns.map .int))) (.val (.int b)) .un
  refine ⟨st5, ?_⟩
  rw [u30, L30_eq]
  refine f_rt rfl ?_
  refine s_seq (s_frz rfl (s_set (s := .val (.cell 1)) (w_fn (w_cons (w_kp (w_var rfl)) w_nil) b0) rfl rfl)) ?_
  refine s_seq (s_frz rfl (s_set (s := .val (.int (n : Int))) (w_bin (w_rd w_c) (w_rd (w_fn (w_cons (w_kp (w_var rfl)) (w_cons (w_kp w_c) w_nil)) d1)) (show dAdd (.int 2) (.int v) = some (.per (.int (n : Int))) by rw [← hn]; rfl)) rfl rfl)) ?_
  refine s_seq hb ?_
  refine s_seq (s_frz rfl (s_set (s := .own (cs.map .int)) (w_lc (i_r1 (w_cons (w_kp (w_var rfl)) w_nil) (bnd_lt (by omega) (by omega))) e3) rfl rfl)) ?_
  refine s_seq e4 ?_
  refine s_seq (s_set (s := .val (.tup (c.map .int))) (w_call (w_cons (w_rd (w_var rfl)) w_nil) rfl) rfl rfl) ?_
  refine s_seq (s_frz rfl (s_set (s := .val (.tup (w.map .int))) (w_fn (w_cons (w_kp (w_var rfl)) (w_cons (w_kp (w_var rfl)) (w_cons (w_kp (w_un (w_rd w_c) rfl)) w_nil))) e6) rfl rfl)) ?_
  exact e7
theorem law_ok (ns : List Int) (h : ns.length ≤ 63) : ∃ st, Q 60 30 [.lst (ns.map .int)] [] = .ok (.bl true) st := head_ok 39 ns h
end M52
namespace K52
open PySem PySem.Spec PyProof.Rows L2 Ev M52
theorem fn_eq : fn = fs.map Df.toD ++ ini := rfl
theorem hL [Hnd] : ∀ d ∈ fs, LOk gls tb cls d := by
  simp only [fs, List.forall_mem_cons]
  exact ⟨lok0, lok1, lok2, lok3, lok4, lok5, lok6, lok7, lok8, lok9, lok10, lok11, lok12, lok13, lok14, lok15, lok16, lok17, lok18, lok19, lok20, lok21, lok22, lok23, lok24, lok25, lok26, lok27, lok28, lok29, lok30, fun _ h => nomatch h⟩
theorem hlm : fs.all lmB = true := by kernel_rfl
theorem htk : fs.all tkB = true := by kernel_rfl
theorem hgx : fs.all (fun d => gxB fs d.gx) = true := by kernel_rfl
theorem hB : ∀ d ∈ fs, BindsL d := by
  simp only [fs, List.forall_mem_cons]
  exact ⟨b0, b1, b2, b3, b4, b5, b6, b7, b8, b9, b10, b11, b12, b13, b14, b15, b16, b17, b18, b19, b20, b21, b22, b23, b24, b25, b26, b27, b28, b29, b30, fun _ h => nomatch h⟩
theorem boot : bootB gls = true := by kernel_rfl
theorem fnb : fnB gls fs = true := by kernel_rfl
theorem defb : defB gls fs = true := by kernel_rfl
theorem excb : excsB gls = true := by kernel_rfl
theorem io0 : IniOk (fs.map Df.toD ++ ini) "BadMany" [nm "value"] := ⟨31, di "BadMany" "BadMany.__init__" 2 0, rfl, rfl, rfl, rfl, rfl, ⟨rfl, rfl, rfl, by decide +kernel, rfl, by decide +kernel, by decide +kernel⟩, by kernel_rfl, fun kV doc pm an cdv ct us hl => match us, hl with
  | [_, _], _ => rfl⟩
theorem io1 : IniOk (fs.map Df.toD ++ ini) "BadContent" [nm "value"] := ⟨32, di "BadContent" "BadContent.__init__" 3 0, rfl, rfl, rfl, rfl, rfl, ⟨rfl, rfl, rfl, by decide +kernel, rfl, by decide +kernel, by decide +kernel⟩, by kernel_rfl, fun kV doc pm an cdv ct us hl => match us, hl with
  | [_, _], _ => rfl⟩
theorem io2 : IniOk (fs.map Df.toD ++ ini) "BadTotal" [nm "value"] := ⟨33, di "BadTotal" "BadTotal.__init__" 4 0, rfl, rfl, rfl, rfl, rfl, ⟨rfl, rfl, rfl, by decide +kernel, rfl, by decide +kernel, by decide +kernel⟩, by kernel_rfl, fun kV doc pm an cdv ct us hl => match us, hl with
  | [_, _], _ => rfl⟩
theorem io3 : IniOk (fs.map Df.toD ++ ini) "BadWorths" [nm "value"] := ⟨34, di "BadWorths" "BadWorths.__init__" 5 0, rfl, rfl, rfl, rfl, rfl, ⟨rfl, rfl, rfl, by decide +kernel, rfl, by decide +kernel, by decide +kernel⟩, by kernel_rfl, fun kV doc pm an cdv ct us hl => match us, hl with
  | [_, _], _ => rfl⟩
theorem inis : ∀ x es, (x, GV.exc es) ∈ gls → IniOk (fs.map Df.toD ++ ini) x es := by
  intro x es h
  have hx : (x, es) ∈ gls.filterMap (fun p => match p.2 with
    | .exc fs => some (p.1, fs)
    | _ => none) := List.mem_filterMap.mpr ⟨(x, .exc es), h, rfl⟩
  have e : gls.filterMap (fun p => match p.2 with
    | .exc fs => some (p.1, fs)
    | _ => none) = [(nm "BadMany", [nm "value"]), (nm "BadContent", [nm "value"]), (nm "BadTotal", [nm "value"]), (nm "BadWorths", [nm "value"])] := by kernel_rfl
  rw [e] at hx
  simp only [List.mem_cons, List.not_mem_nil, or_false, Prod.mk.injEq] at hx
  rcases hx with ⟨rfl, rfl⟩ | ⟨rfl, rfl⟩ | ⟨rfl, rfl⟩ | ⟨rfl, rfl⟩
  · exact io0
  · exact io1
  · exact io2
  · exact io3
theorem semQ : ∀ l, semB fs l = Qb l
  | 0 => rfl
  | l + 1 => by
    have ih := semQ l
    have eb : bods = fs.map (fun d => (d.N.length, d.L, d.LT)) := rfl
    have e : ∀ i : Nat, bods[i]? = (fs[i]?).map fun d => (d.N.length, d.L, d.LT) := fun i => by rw [eb, List.getElem?_map]
    refine Prod.ext (funext fun i => ?_) (funext fun i => ?_)
    · show (match fs[i]? with
        | some d => semF d.N.length (d.L (semB fs l).1 (semB fs l).2)
        | none => fun _ => M.bad : List D → M D) = (match bods[i]? with
        | some d => semF d.1 (d.2.1 (Qb l).1 (Qb l).2)
        | none => fun _ => M.bad : List D → M D)
      rw [ih, e i]
      cases fs[i]? <;> rfl
    · show (match fs[i]? with
        | some d => fun th => semT d.N.length (d.LT (semB fs l).1 (semB fs l).2 th)
        | none => fun _ => M.bad : M D → M D) = (match bods[i]? with
        | some d => fun th => semT d.1 (d.2.2 (Qb l).1 (Qb l).2 th)
        | none => fun _ => M.bad : M D → M D)
      rw [ih, e i]
      cases fs[i]? <;> rfl
def LV : Nat := 60
theorem law_true (ns : List Int) (h : ns.length ≤ 63) : ∃ st, semO fs LV 30 [.lst (ns.map .int)] [] = .ok (.bl true) st := by
  unfold semO
  rw [semQ]
  exact M52.law_ok ns h
end K52
open PySem PySem.W PySem.Calls PyProof.Rows
set_option maxRecDepth 100000 in
set_option maxHeartbeats 0 in
theorem PySem.Challenge.cw_unithouse_k52_products_and_orders_holds : PySem.Challenge.rw_unithouse_k52_products_and_orders.Holds := by
  w_on; o_law
  refine HandSHeadRun.head_any (r := OpenLaw.row PySem.Challenge.rw_unithouse_k52_products_and_orders) (q := K52.vw) (H := K52.hk) (ob := K52.ob) (M := 20000) (loose := K52.loose) (d := HandSHeadRun.topDef (OpenLaw.row PySem.Challenge.rw_unithouse_k52_products_and_orders).prog 45) (kwd := []) K52.ob_eq (by kernel_rfl) (fun s => by kernel_rfl) K52.run
    (by kernel_rfl) (by kernel_rfl) (by kernel_rfl) (by rfl) (by first | assumption | decide +kernel) (by decide +kernel) ⟨rfl, rfl, rfl, rfl, rfl, by decide +kernel⟩ ?hw ?hc
  case hw => w_witness2
  case hc =>
    refine Ev.walk_ev (l := PySem.Challenge.rw_unithouse_k52_products_and_orders) (n := 63) (k := 2 * K52.LV + 2) (x := "script") (fld := Ev.fldO M52.gls) rfl (by decide) (by kernel_rfl) ⟨rfl, by decide, by decide⟩ ?F
    intro w mg fa h Y G hmg0
    obtain ⟨K, KX, c, ct⟩ := Y
    have hmg : mg ("law" : PySem.Str) = some (.ref fa) := by
      have e : (HandSHeadRun.topDef (OpenLaw.row PySem.Challenge.rw_unithouse_k52_products_and_orders).prog 45).name = ("law" : PySem.Str) := by kernel_rfl
      rw [← e]
      exact hmg0
    have c : Ev.SaysU (K52.fs.map Ev.Df.toD ++ K52.ini) M52.gls M52.tb w K := by rw [← K52.fn_eq]; exact c
    obtain ⟨fd, FD, kat, kn⟩ := Ev.known_of (P := PySem.Challenge.rw_unithouse_k52_products_and_orders.prog) (i0 := 30) (d0 := K52.d30) rfl c ct KX G K52.boot K52.fnb K52.defb K52.excb K52.hB K52.inis
    have ea : fa = Ev.adr K K52.fs 30 := by
      have := kat 30 K52.d30 rfl
      have e : K52.d30.name = ("law" : PySem.Str) := rfl
      rw [e, hmg] at this
      cases this
      rfl
    obtain ⟨dvs, kws, F, rfl, ek⟩ := FD 30 K52.d30 rfl
    subst ek
    refine ⟨K, fd 30, Ev.semO K52.fs K52.LV 30, KX, fun s v => ?_, ct.h KX, K52.law_true, fun base hin hns tbb => ?_⟩
    · exact L2.FunD.bindsA (ps := K52.d30.ps) F (K52.hB K52.d30 (by simp [K52.fs])) s [v] rfl
    · rw [ea]
      exact (Ev.sem_ok (cls := M52.cls) (kn base tbb) (fun i d e => K52.sc_all d (List.mem_of_getElem? e)) (fun i d e => List.all_eq_true.mp K52.hlm d (List.mem_of_getElem? e)) (fun i d e => List.all_eq_true.mp K52.htk d (List.mem_of_getElem? e)) (fun i d e => List.all_eq_true.mp K52.hgx d (List.mem_of_getElem? e)) (fun i d e => K52.hL d (List.mem_of_getElem? e)) K52.LV).1 30 K52.d30 rfl rfl
