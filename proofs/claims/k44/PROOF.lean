import PyProof.Rows.All
import Wide.All
import OpenK.AllK
import Wide.FinOn
import PyProof.EqAt
import PyProof.EqKinds
import PyProof.NeKinds
import PyProof.TupleCall
import PyProof.StrWalks
import PyProof.ConsumeWalk
import PyProof.EnumMake
import PyProof.EnumFor
import PyProof.ListNew
import PyProof.ListRange
import PyProof.Rows.SortWalk
import PyProof.Rows.Range3
import PyProof.Rows.ChunkEnd
import PyProof.Rows.ChunkLeaf
import PyProof.Rows.StrInSeq
import Wide.Txt
import PyProof.DictIter
import PyProof.DictWalks
import PyProof.AttrMissHeap
import KE.KDictOf
import KE.KSortTup
import KE.KDictList
import KE.KRevIter
import PyProof.Rows.Own
import PyProof.ExcBaseAll.ValueError
import PyProof.RulesAs
import PyProof.NsDelKeeps
import PyProof.ExcClass3
import PyProof.ExcArgsOwn
import KE.KIsAll
import KE.IntBitsLaws
import PyProof.Rows.StrRev
import PyProof.PureStr
import PyProof.ToksMono
import PyProof.MeetsStr3
import PyProof.StrCalls6
import KE.KDictSum
import KE.KIntText
import PyProof.Rows.SortStr
import PyProof.Rows.SortShellK
import PyProof.Rows.StrKeys3
import Lean
import PySem.Challenge.RW_laidfields_k44_kinds_written_and_read
set_option Elab.async false
set_option linter.all false
set_option maxRecDepth 100000
namespace L2
open PySem PySem.Spec PyProof.Rows

abbrev Key := Sum Int Str
def keyIs : Key → Value → Bool
  | .inl k, v => Value.isInt k v
  | .inr x, v => Value.isStrOf x v
def keyH (w : World) : Key → Int
  | .inl k => hashInt k
  | .inr x => hashStr w x
theorem keyIs_shape : ∀ {k : Key} {v : Value}, keyIs k v = true → (∃ i t, k = Sum.inl i ∧ v = Value.int i t) ∨ (∃ x t, k = Sum.inr x ∧ v = Value.str x t)
  | .inl i, v, h => by
    obtain ⟨t, e⟩ := Value.isInt_shape (k := i) (v := v) h
    exact .inl ⟨i, t, rfl, e⟩
  | .inr x, v, h => by
    obtain ⟨t, e⟩ := Value.isStrOf_shape (x := x) (v := v) h
    exact .inr ⟨x, t, rfl, e⟩
theorem keyIs_int (i : Int) (t : Tok) : keyIs (.inl i) (.int i t) = true := by simp [keyIs, Value.isInt]
theorem keyIs_str (x : Str) (t : Tok) : keyIs (.inr x) (.str x t) = true := by simp [keyIs, Value.isStrOf]
theorem key_ll (a b : Int) : decide ((Sum.inl a : Key) = Sum.inl b) = (a == b) := by
  by_cases e : a = b
  · subst e; simp
  · have h : ¬ (Sum.inl a : Key) = Sum.inl b := fun q => e (Sum.inl.inj q)
    rw [decide_eq_false h]
    exact (beq_eq_false_iff_ne.mpr e).symm
theorem key_rr (a b : Str) : decide ((Sum.inr a : Key) = Sum.inr b) = decide (a = b) := by
  by_cases e : a = b
  · subst e; simp
  · have h : ¬ (Sum.inr a : Key) = Sum.inr b := fun q => e (Sum.inr.inj q)
    rw [decide_eq_false h, decide_eq_false e]
theorem key_lr (a : Int) (b : Str) : decide ((Sum.inl a : Key) = Sum.inr b) = false := decide_eq_false (fun q => nomatch q)
theorem key_rl (a : Str) (b : Int) : decide ((Sum.inr a : Key) = Sum.inl b) = false := decide_eq_false (fun q => nomatch q)

def mixKind (prog : Program) (w : World) : PySem.KeyKind prog w Key where
  is := keyIs
  hash := keyH w
  inj := fun v a b ha hb => by
    rcases keyIs_shape ha with ⟨i, t, rfl, rfl⟩ | ⟨x, t, rfl, rfl⟩
    · rcases keyIs_shape hb with ⟨j, u, rfl, e⟩ | ⟨y, u, rfl, e⟩
      · injection e with e1 _; rw [e1]
      · exact nomatch e
    · rcases keyIs_shape hb with ⟨j, u, rfl, e⟩ | ⟨y, u, rfl, e⟩
      · exact nomatch e
      · injection e with e1 _; rw [e1]
  byValue := fun k v h => by
    rcases keyIs_shape h with ⟨i, t, rfl, rfl⟩ | ⟨x, t, rfl, rfl⟩ <;> rfl
  pyHash := fun hv h => by
    rcases keyIs_shape hv with ⟨i, t, rfl, rfl⟩ | ⟨x, t, rfl, rfl⟩
    · exact wpAny_pyHash_int h
    · exact wpAny_pyHash_str h
  eqBool := fun hu hv h => by
    rcases keyIs_shape hu with ⟨i, t, rfl, rfl⟩ | ⟨x, t, rfl, rfl⟩
    · rcases keyIs_shape hv with ⟨j, u, rfl, rfl⟩ | ⟨y, u, rfl, rfl⟩
      · rw [key_ll] at h; exact wpAny_eqBool_int h
      · rw [key_lr] at h; exact SeqAt.EqAt.int_str i t y u _ _ _ _ h
    · rcases keyIs_shape hv with ⟨j, u, rfl, rfl⟩ | ⟨y, u, rfl, rfl⟩
      · rw [key_rl] at h; exact SeqAt.EqAt.str_int x t j u _ _ _ _ h
      · rw [key_rr] at h; exact wpAny_eqBool_str h
  «strs» := fun k x t v h => by
    rcases keyIs_shape h with ⟨i, u, rfl, e⟩ | ⟨y, u, rfl, e⟩
    · exact nomatch e
    · injection e with e1 _
      subst e1
      cases v <;> rfl

theorem mixKind_int (prog : Program) (w : World) (i : Int) (t : Tok) : (mixKind prog w).is (.inl i) (.int i t) = true := keyIs_int i t
theorem mixKind_str (prog : Program) (w : World) (x : Str) (t : Tok) : (mixKind prog w).is (.inr x) (.str x t) = true := keyIs_str x t
end L2

namespace L2
open PySem PySem.Spec PyProof.Rows

inductive V where
  | non | bl (b : Bool) | int (i : Int) | str (x : Str) | byt (b : Array UInt8) | flt (b : UInt64) | ref (a : Addr) | ty (n : String)
  deriving DecidableEq

def RelV : V → Value → Prop
  | .non, u => u = Value.none
  | .bl b, u => u = Value.bool b
  | .int i, u => ∃ t, u = Value.int i t
  | .str x, u => ∃ t, u = Value.str x t
  | .byt b, u => ∃ t, u = Value.bytes b t
  | .flt b, u => ∃ t, u = Value.float b t
  | .ref a, u => u = Value.ref a
  | .ty n, u => u = Value.type n

abbrev Vals : List V → List Value → Prop := Paired RelV
theorem Vals.length {xs : List V} {us : List Value} (r : Vals xs us) : xs.length = us.length := Paired.length r
theorem Vals.get : ∀ {xs : List V} {us : List Value} {i : Nat} {x : V}, Vals xs us → xs[i]? = some x → ∃ u, us[i]? = some u ∧ RelV x u
  | _, _, _, _, .nil, e => by simp at e
  | _, _, 0, _, .cons r _, e => by simp at e; subst e; exact ⟨_, rfl, r⟩
  | _, _, i + 1, x, .cons _ t, e => by
    obtain ⟨u, h1, h2⟩ := Vals.get (i := i) (x := x) t (by simpa using e)
    exact ⟨u, by simpa using h1, h2⟩
theorem Vals.set {x : V} {u : Value} (r : RelV x u) : ∀ {xs : List V} {us : List Value} (i : Nat), Vals xs us → Vals (xs.set i x) (us.set i u)
  | _, _, _, .nil => .nil
  | _, _, 0, .cons _ t => .cons r t
  | _, _, i + 1, .cons q t => .cons q (Vals.set r i t)
theorem Vals.append : ∀ {xs ys : List V} {us ws : List Value}, Vals xs us → Vals ys ws → Vals (xs ++ ys) (us ++ ws)
  | _, _, _, _, .nil, s => s
  | _, _, _, _, .cons r t, s => .cons r (Vals.append t s)
theorem Vals.take : ∀ {xs : List V} {us : List Value} (n : Nat), Vals xs us → Vals (xs.take n) (us.take n)
  | _, _, 0, _ => .nil
  | _, _, _ + 1, .nil => .nil
  | _, _, n + 1, .cons r t => .cons r (Vals.take n t)
theorem Vals.drop : ∀ {xs : List V} {us : List Value} (n : Nat), Vals xs us → Vals (xs.drop n) (us.drop n)
  | _, _, 0, r => r
  | _, _, _ + 1, .nil => .nil
  | _, _, n + 1, .cons _ t => Vals.drop n t
def RelO : Option V → Option Value → Prop
  | some v, some u => RelV v u
  | none, none => True
  | _, _ => False
def KV {κ : Type} : List (κ × V) → List (κ × Value) → Prop := Paired fun (p : κ × V) (q : κ × Value) => p.1 = q.1 ∧ RelV p.2 q.2

def kV : Key → V
  | .inl i => .int i
  | .inr x => .str x

inductive HO where
  /-- a list -/
  | lst (xs : List V)
  /-- a tuple (never changes) -/
  | tup (xs : List V)
  /-- a dict whose keys are ints and texts; one whose keys are tuples of ints and texts (the empty one is both) -/
  | dK (kvs : List (Key × V)) | dT (kvs : List (List Key × V))
  /-- a set of ints: its members, its size -/
  | set (S : Int → Bool) (n : Nat)
  /-- an instance of the class at C, its dict at dx, its attributes -/
  | ins (C dx : Addr) (fs : List (Str × V))
  /-- the dict of the instance at x -/
  | own (x : Addr)
  /-- the dict of an exception -/
  | xd (fs : List (Str × V))
  /-- a bound method, f of x -/
  | met (f x : Addr)
  /-- a range object lo, lo + 1, .. below hi -/
  | rng (lo hi : Int)
  /-- a thing that is known to the object (the script; a dict while a loop walks it): read, never written while it is so -/
  | frz (o : Obj) (u : HO)
  /-- a code object's table -/
  | tbl (ps : Array Value)
  /-- any other thing, by what is true of its one object (a def of one's own: SetO a S n := HO.ext fun h => ..) -/
  | ext (φ : Heap → Prop)

abbrev Hp := Addr → Option HO
def upd (H : Hp) (a : Addr) (o : HO) : Hp := fun b => if b = a then some o else H b
theorem upd_same {H : Hp} {a : Addr} {o : HO} : upd H a o a = some o := by unfold upd; rw [if_pos rfl]
theorem upd_ne {H : Hp} {a b : Addr} {o : HO} (h : b ≠ a) : upd H a o b = H b := by unfold upd; rw [if_neg h]
theorem ne_of {H : Hp} {a b : Addr} {o u : HO} (h : H a = some o) (h' : H b = some u) (d : o ≠ u) : a ≠ b := by
  intro e; subst e; rw [h] at h'; exact d (Option.some.inj h')
theorem ne_of_none {H : Hp} {a b : Addr} {o : HO} (h : H a = some o) (h' : H b = none) : a ≠ b := by
  intro e; subst e; rw [h] at h'; cases h'

section
variable (P : Program) (w : World)
def ObjOk (H : Hp) (h : Heap) (a : Addr) : HO → Prop
  | .lst xs => xs.length ≤ sizeLine ∧ ∃ (its : List Value) (n : Nat), Vals xs its ∧ h.get? a = some { cls := .type "list", data := .seq its.toArray n }
  | .tup xs => xs.length ≤ sizeLine ∧ ∃ its : List Value, Vals xs its ∧ IsTup h a its.toArray
  | .dK kvs => kvs.length ≤ sizeLine ∧ (a == sysModules) = false ∧ ∃ vs, KV kvs vs ∧ h.DictOf (mixKind P w) a vs
  | .dT kvs => kvs.length ≤ sizeLine ∧ (a == sysModules) = false ∧ ∃ xs : List (List Key × Addr × Value),
      Paired (fun (p : List Key × V) (q : List Key × Addr × Value) => p.1 = q.1 ∧ H q.2.1 = some (.tup (p.1.map kV)) ∧ RelV p.2 q.2.2) kvs xs ∧
      ∃ o es ep, h.get? a = some o ∧ o.ExactDict ∧ o.data = .dict es ep ∧ es.toList = xs.map (entryOfKey (tupleKind (mixKind P w))) ∧ (xs.map (·.1)).Nodup
  | .set S n => h.SetOf (intKind P w) a S n
  | .ins C dx fs => H dx = some (.own a) ∧ fs.length ≤ 1000 ∧ dx ≠ a ∧ h.get? a = some (PySem.W.instObj C dx) ∧
      ∃ mA, h.Ns1 dx mA ∧ (∀ f, RelO (fs.lookup f) (mA f)) ∧ PySem.Within mA (fs.map (·.1))
  | .own _ => ∃ o, h.get? a = some o
  | .xd fs => ∃ mA, h.Ns1 a mA ∧ ∀ f, RelO (fs.lookup f) (mA f)
  | .rng lo hi => ∃ t u v, h.get? a = some { cls := .type "range", data := .fields #[.int lo t, .int hi u, .int 1 v] }
  | .frz o u => h.get? a = some o ∧ ObjOk H h a u
  | .tbl ps => h.get? a = some { cls := .none, data := .fields ps }
  | .met f x => h.get? a = some (PySem.W.methodObj (.ref f) (.ref x))
  | .ext φ => φ h ∧ (∃ o, h.get? a = some o) ∧ ∀ h1 h2 : Heap, φ h1 → (∀ o, h1.get? a = some o → h2.get? a = some o) → φ h2
def HOk (H : Hp) (h : Heap) : Prop := ∀ a o, H a = some o → ObjOk P w H h a o
end

section
variable {P : Program} {w : World} {H H' : Hp} {h h' : Heap} {a : Addr} {o : HO}
theorem ObjOk.lt (x : ObjOk P w H h a o) : a < h.objs.size := by
  cases o with
  | lst xs => obtain ⟨_, _, _, _, e⟩ := x; exact Heap.lt_size e
  | tup xs => obtain ⟨_, _, _, p⟩ := x; exact p.lt
  | dK kvs => obtain ⟨_, _, _, _, o, _, _, e, _⟩ := x; exact Heap.lt_size e
  | dT kvs => obtain ⟨_, _, _, _, o, _, _, e, _⟩ := x; exact Heap.lt_size e
  | set S n => obtain ⟨o, _, _, _, e, _⟩ := x; exact Heap.lt_size e
  | ins C dx fs => obtain ⟨_, _, _, e, _⟩ := x; exact Heap.lt_size e
  | own y => obtain ⟨_, e⟩ := x; exact Heap.lt_size e
  | xd fs => obtain ⟨_, ⟨_, _, _, e, _⟩, _⟩ := x; exact Heap.lt_size e
  | rng lo hi => obtain ⟨_, _, _, e⟩ := x; exact Heap.lt_size e
  | frz ob u => obtain ⟨e, _⟩ := x; exact Heap.lt_size e
  | tbl ps => exact Heap.lt_size (show h.get? a = some _ from x)
  | met f y => exact Heap.lt_size (show h.get? a = some _ from x)
  | ext φ => obtain ⟨_, ⟨_, e⟩, _⟩ := x; exact Heap.lt_size e
theorem Paired.mapP {α β : Type} {F G : α → β → Prop} : ∀ {l₁ : List α} {l₂ : List β}, Paired F l₁ l₂ → (∀ a b, F a b → G a b) → Paired G l₁ l₂
  | _, _, .nil, _ => .nil
  | _, _, .cons r t, f => .cons (f _ _ r) (Paired.mapP t f)
theorem ObjOk.stay (x : ObjOk P w H h a o) (k : ∀ b u, (b = a ∨ H b = some (.own a)) → h.get? b = some u → h'.get? b = some u)
    (ho : ∀ b, H b = some (.own a) → H' b = some (.own a)) (ht : ∀ b xs, H b = some (.tup xs) → H' b = some (.tup xs)) : ObjOk P w H' h' a o := by
  induction o with
  | lst xs => obtain ⟨z, its, n, r, e⟩ := x; exact ⟨z, its, n, r, k _ _ (.inl rfl) e⟩
  | tup xs => obtain ⟨z, its, r, ob, e, c⟩ := x; exact ⟨z, its, r, ob, k _ _ (.inl rfl) e, c⟩
  | dK kvs => obtain ⟨z, y, vs, r, ob, es, ep, e, c⟩ := x; exact ⟨z, y, vs, r, ob, es, ep, k _ _ (.inl rfl) e, c⟩
  | dT kvs =>
    obtain ⟨z, y, xs, r, ob, es, ep, e, c⟩ := x
    exact ⟨z, y, xs, Paired.mapP r fun p q z => ⟨z.1, ht _ _ z.2.1, z.2.2⟩, ob, es, ep, k _ _ (.inl rfl) e, c⟩
  | set S n => obtain ⟨ob, es, ep, t, e, c⟩ := x; exact ⟨ob, es, ep, t, k _ _ (.inl rfl) e, c⟩
  | ins C dx fs =>
    obtain ⟨d, z, ne, e, mA, ⟨od, es, ep, e2, c⟩, r⟩ := x
    exact ⟨ho _ d, z, ne, k _ _ (.inl rfl) e, mA, ⟨od, es, ep, k _ _ (.inr d) e2, c⟩, r⟩
  | own y => obtain ⟨ob, e⟩ := x; exact ⟨ob, k _ _ (.inl rfl) e⟩
  | xd fs => obtain ⟨mA, ⟨od, es, ep, e, c⟩, r⟩ := x; exact ⟨mA, ⟨od, es, ep, k _ _ (.inl rfl) e, c⟩, r⟩
  | rng lo hi => obtain ⟨t, u, v, e⟩ := x; exact ⟨t, u, v, k _ _ (.inl rfl) e⟩
  | frz ob u ih => obtain ⟨e, q⟩ := x; exact ⟨k _ _ (.inl rfl) e, ih q⟩
  | tbl ps =>
    have e : h.get? a = some { cls := .none, data := .fields ps } := x
    show h'.get? a = some { cls := .none, data := .fields ps }
    exact k a _ (.inl rfl) e
  | met f y =>
    have e : h.get? a = some (PySem.W.methodObj (.ref f) (.ref y)) := x
    show h'.get? a = some (PySem.W.methodObj (.ref f) (.ref y))
    exact k a _ (.inl rfl) e
  | ext φ => obtain ⟨p, ⟨o, e⟩, st⟩ := x; exact ⟨st _ _ p fun o q => k _ _ (.inl rfl) q, ⟨o, k _ _ (.inl rfl) e⟩, st⟩
theorem HOk.lt (x : HOk P w H h) (e : H a = some o) : a < h.objs.size := (x a o e).lt
theorem HOk.fresh (x : HOk P w H h) (e : h.objs.size ≤ a) : H a = none := by
  cases q : H a with
  | none => rfl
  | some u => exact absurd (Nat.lt_of_lt_of_le (x.lt q) e) (Nat.lt_irrefl _)
theorem HOk.kept (x : HOk P w H h) (k : ∀ b u, h.get? b = some u → h'.get? b = some u) : HOk P w H h' := fun a o e =>
  (x a o e).stay (fun b u _ q => k b u q) (fun _ q => q) fun _ _ q => q
theorem HOk.laid (x : HOk P w H h) (k : ∀ b u, h.get? b = some u → h'.get? b = some u) (hp : h.objs.size ≤ a) (new : ObjOk P w (upd H a o) h' a o) : HOk P w (upd H a o) h' := fun b u e => by
  have hn := x.fresh hp
  by_cases hb : b = a
  · subst hb; rw [upd_same] at e; cases e; exact new
  · rw [upd_ne hb] at e
    exact (x b u e).stay (fun c v _ q => k c v q) (fun c q => by rw [upd_ne (ne_of_none q hn)]; exact q) fun c xs q => by rw [upd_ne (ne_of_none q hn)]; exact q
end

def Rd (H : Hp) (a : Addr) (u : HO) : Prop := H a = some u ∨ ∃ o, H a = some (.frz o u)
theorem Rd.ok {P : Program} {w : World} {H : Hp} {h : Heap} {a : Addr} {u : HO} (r : Rd H a u) (x : HOk P w H h) : ObjOk P w H h a u := by
  rcases r with r | ⟨o, r⟩
  · exact x a u r
  · obtain ⟨_, q⟩ := x a _ r
    exact q
def Mut : Option HO → Prop
  | some (.lst _) => True
  | some (.dK _) => True
  | some (.dT _) => True
  | some (.set _ _) => True
  | some (.ins _ _ _) => True
  | some (.ext _) => True
  | _ => False
section
variable {P : Program} {w : World} {H : Hp} {h h' : Heap} {x e : Addr} {o' : HO}
theorem HOk.write (ok : HOk P w H h) (mu : Mut (H x)) (he : e = x ∨ H e = some (.own x)) (k : ∀ b u, b ≠ e → h.get? b = some u → h'.get? b = some u) (heo : ∃ u, h'.get? e = some u)
    (new : ObjOk P w (upd H x o') h' x o') : HOk P w (upd H x o') h' := fun b u q => by
  have nown : ∀ c y, H c = some (.own y) → c ≠ x := fun c y r z => by subst z; rw [r] at mu; exact mu
  have ntup : ∀ c xs, H c = some (.tup xs) → c ≠ x := fun c xs r z => by subst z; rw [r] at mu; exact mu
  by_cases hb : b = x
  · subst hb; rw [upd_same] at q; cases q; exact new
  · rw [upd_ne hb] at q
    by_cases hbe : b = e
    · have q' : H b = some (.own x) := by
        rcases he with z | z
        · exact absurd (hbe.trans z) hb
        · rw [hbe]; exact z
      rw [q] at q'; cases q'
      obtain ⟨v, hv⟩ := heo
      exact ⟨v, by rw [hbe]; exact hv⟩
    · refine (ok b u q).stay (fun c v hc r => k c v ?_ r) (fun c r => by rw [upd_ne (nown c b r)]; exact r) fun c xs r => by rw [upd_ne (ntup c xs r)]; exact r
      rcases hc with rfl | hc
      · exact hbe
      · rintro rfl
        rcases he with z | z
        · exact nown c b hc z
        · rw [hc] at z; cases z; exact hb rfl
end

structure Un (fs ex : List Addr) (H H' : Hp) (h h' : Heap) : Prop where
  keep : ∀ b o, h.get? b = some o → H b = none → b ∉ fs → b ∉ ex → h'.get? b = some o
  slot : ∀ b o, h.get? b = some o → H b = none → b ∈ fs → b ∉ ex → ∃ sl, h'.get? b = some { o with slots := sl }
  free : ∀ b o, h.get? b = some o → H b = none → b ∉ ex → H' b = none
  there : ∀ b o, h.get? b = some o → b ∉ ex → ∃ o', h'.get? b = some o'
  tups : ∀ b xs, H b = some (.tup xs) → H' b = some (.tup xs)
  frzs : ∀ b o u, H b = some (.frz o u) → H' b = some (.frz o u)
  tbls : ∀ b ps, H b = some (.tbl ps) → ∃ more, H' b = some (.tbl (ps ++ more))
section
variable {fs fs' ex ex' : List Addr} {H H1 H2 : Hp} {h h1 h2 h' : Heap} {a x e : Addr} {o : HO}
theorem Un.any (u : Un fs ex H H1 h h1) {b : Addr} {ob : Obj} (q : h.get? b = some ob) (n : H b = none) (hx : b ∉ ex) : ∃ sl, h1.get? b = some { ob with slots := sl } := by
  by_cases hb : b ∈ fs
  · exact u.slot b ob q n hb hx
  · exact ⟨ob.slots, u.keep b ob q n hb hx⟩
theorem Un.kept (k : ∀ b u, h.get? b = some u → h'.get? b = some u) : Un fs ex H H h h' :=
  ⟨fun b ob q _ _ _ => k b ob q, fun b ob q _ _ _ => ⟨ob.slots, k b ob q⟩, fun _ _ _ n _ => n, fun b ob q _ => ⟨ob, k b ob q⟩, fun _ _ q => q, fun _ _ _ q => q, fun _ ps q => ⟨#[], by rw [q]; simp⟩⟩
theorem Un.refl : Un fs ex H H h h := Un.kept fun _ _ q => q
theorem Un.laid (k : ∀ b u, h.get? b = some u → h'.get? b = some u) (hp : h.objs.size ≤ a) (hn : H a = none) : Un fs ex H (upd H a o) h h' where
  keep := fun b u q _ _ _ => k b u q
  slot := fun b u q _ _ _ => ⟨u.slots, k b u q⟩
  free := fun b u q n _ => by rw [upd_ne (Nat.ne_of_lt (Nat.lt_of_lt_of_le (Heap.lt_size q) hp))]; exact n
  there := fun b u q _ => ⟨u, k b u q⟩
  tups := fun b xs q => by rw [upd_ne (ne_of_none q hn)]; exact q
  frzs := fun b u xs q => by rw [upd_ne (ne_of_none q hn)]; exact q
  tbls := fun b ps q => ⟨#[], by rw [upd_ne (ne_of_none q hn), q]; simp⟩
theorem Un.write (mu : Mut (H x)) (he : e = x ∨ H e = some (.own x)) (k : ∀ b u, b ≠ e → h.get? b = some u → h'.get? b = some u) (heo : ∃ u, h'.get? e = some u) : Un fs ex H (upd H x o) h h' := by
  have hx : ∀ b, H b = none → b ≠ x := fun b n z => by subst z; rw [n] at mu; exact mu
  have hb : ∀ b, H b = none → b ≠ e := fun b n z => by
    subst z
    rcases he with r | r
    · exact hx b n r
    · rw [n] at r; cases r
  have hm : ∀ b u, H b = some u → ¬ Mut (some u) → b ≠ x := fun b u q nm z => by subst z; rw [q] at mu; exact nm mu
  refine ⟨fun b u q n _ _ => k b u (hb b n) q, fun b u q n _ _ => ⟨u.slots, k b u (hb b n) q⟩, fun b u q n _ => by rw [upd_ne (hx b n)]; exact n, fun b u q _ => ?_,
    fun b xs q => by rw [upd_ne (hm b _ q fun z => z)]; exact q, fun b u xs q => by rw [upd_ne (hm b _ q fun z => z)]; exact q, fun b ps q => ⟨#[], by rw [upd_ne (hm b _ q fun z => z), q]; simp⟩⟩
  by_cases hbe : b = e
  · subst hbe; exact heo
  · exact ⟨u, k b u hbe q⟩
end

def trk (h : Heap) (H : Hp) : List Addr := (List.range h.objs.size).filter fun a => (H a).isSome
def hidT (h : Heap) (H : Hp) : Heap := PySem.W.hideAll h (trk h H)
theorem hidT_size (h : Heap) (H : Hp) : (hidT h H).objs.size = h.objs.size := PySem.W.hideAll_size _ _
theorem hidT_get {h : Heap} {H : Hp} {b : Addr} {o : Obj} (e : h.get? b = some o) (n : H b = none) : (hidT h H).get? b = some o :=
  PySem.W.hideAll_get _ e fun hm => by
    have q : (H b).isSome = true := (List.mem_filter.mp hm).2
    rw [n] at q; simp at q
theorem of_hidT {h : Heap} {H : Hp} {b : Addr} {o : Obj} (e : (hidT h H).get? b = some o) : h.get? b = some o ∧ H b = none := by
  have e' : h.get? b = some o := PySem.W.of_hideAll (trk h H) e
  refine ⟨e', ?_⟩
  cases q : H b with
  | none => rfl
  | some x =>
    have hm : b ∈ trk h H := List.mem_filter.mpr ⟨List.mem_range.mpr (Heap.lt_size e'), by simp [q]⟩
    have z : (hidT h H).get? b = none := PySem.W.hideAll_none (trk h H) hm
    rw [z] at e; cases e

def allNews (g h : Heap) (L : Addr) : List (Addr × Obj) := (List.range h.objs.size).filterMap fun a => if a = L ∨ (g.get? a).isSome = true then none else (h.get? a).map fun o => (a, o)
def rest (g h : Heap) (L d : Addr) : List (Addr × Obj) := (allNews g h L).filter fun p => decide (p.1 ≠ d)
end L2

namespace L2
open PySem PySem.Spec PyProof.Rows

structure Mod (K : PySem.W.Frag) (mg : Str → Option Value) (base : Heap) : Prop where
  kin : K.In base
  glob : base.Ns mainGlobals mg
  blt : ∃ mb, base.Ns builtinsNs mb ∧ ∀ x : Str, x ≠ "__name__" → mb x = bootBuiltins x
  nolimit : base.NoLimit

structure Cx where
  prog : Program
  w : World
  K : PySem.W.Frag
  mg : Str → Option Value
  base : Heap
  A : Around
  N : List Str
  s₀ : Shared
  H₀ : Hp
  env : Env
  outer : List Env
  stack : List Env
  ex : List Addr
  fn : Str → Bool
  calm : Bool
  pn : List (Addr × Obj)
  xe : Value → Shared → Prop
def frs (l : List Env) : List Addr := l.filterMap (·.frame)
abbrev Cx.fs (X : Cx) : List Addr := frs X.outer

def Vis (sc : Scope) (x : Str) : Prop := sc.names.lookup x = some .local ∨ sc.names.lookup x = some .cell ∨ sc.names.lookup x = some .free
def Loc (sc : Scope) (x : Str) : Prop := sc.names.lookup x = some .local ∨ sc.names.lookup x = some .cell
def Look (env : Env) (h : Heap) (m : Str → Option Value) (x : Str) (u : Value) : Prop :=
  (env.kindOf x = some .local ∧ m x = some u) ∨ ((env.kindOf x = some .cell ∨ env.kindOf x = some .free) ∧ ∃ c, env.cells.lookup x = some c ∧ h.IsCell c (some u))

structure Cx.Ok (X : Cx) : Prop where
  mod : Mod X.K X.mg X.base
  kind : X.env.scope.kind = .function
  glob : X.env.globals = mainGlobals
  blt : X.env.builtins = builtinsNs
  above : X.s₀.heap.objs.size ≤ X.env.locals
  inj : ∀ x y c, X.env.cells.lookup x = some c → X.env.cells.lookup y = some c → x = y
  has : ∀ x, (X.env.kindOf x = some .cell ∨ X.env.kindOf x = some .free) → ∃ c, X.env.cells.lookup x = some c
  cab : ∀ x c, X.fn x = true → X.env.cells.lookup x = some c → X.s₀.heap.objs.size ≤ c
  hd : X.calm = true → X.A.handled = none
  frames : X.A.frames = some X.stack
  stk : X.stack = X.outer ∨ (X.stack = X.env :: X.outer ∧ X.env.frame = some X.env.locals)
  exf : ∀ b ∈ X.ex, b ≠ X.env.locals ∧ ∀ x c, X.env.cells.lookup x = some c → c ≠ b
  bs : ∀ b o, X.base.get? b = some o → X.s₀.heap.get? b = some o ∧ X.H₀ b = none
  bsz : X.base.objs.size ≤ X.s₀.heap.objs.size
  noex : ∀ b o, X.base.get? b = some o → b ∉ X.ex
  exfs : ∀ b ∈ X.ex, b ∉ X.fs
  funs : X.s₀.heap.FunFrames X.base X.outer
  frf : ∀ b ∈ X.fs, X.H₀ b = none

structure Inv (X : Cx) (pins : List (Addr × Obj)) (σ : List (Option V)) (H : Hp) (s : Shared) : Prop where
  ok : X.Ok
  os : s.os = X.s₀.os
  bare : AllBare s.gens
  base : Un X.fs X.ex X.H₀ H X.s₀.heap s.heap
  loc : ∃ m, s.heap.Ns X.env.locals m ∧ ∀ (i : Nat) (x : Str) (v : V), X.N[i]? = some x → σ[i]? = some (some v) → Vis X.env.scope x → ∃ u, RelV v u ∧ Look X.env s.heap m x u
  cell : ∀ x c, X.env.cells.lookup x = some c → ∃ v, s.heap.IsCell c v
  free : H X.env.locals = none
  freeC : ∀ x c, X.env.cells.lookup x = some c → H c = none
  pin : ∀ p ∈ X.pn ++ pins, s.heap.get? p.1 = some p.2 ∧ H p.1 = none ∧ p.1 ≠ X.env.locals ∧ p.1 ∉ X.fs ∧ ∀ v, p.2.data ≠ .cell v
  hok : HOk X.prog X.w H s.heap
  len : σ.length = X.N.length

section
variable {X : Cx} {pins : List (Addr × Obj)} {σ : List (Option V)} {H H' : Hp} {s : Shared} {h' : Heap}

theorem Cx.Ok.nofr (ok : X.Ok) {b : Addr} {o : Obj} (e : X.base.get? b = some o) : b ∉ X.fs := fun hb => by
  have := (ok.funs.mem hb).1
  rw [e] at this; cases this
theorem Inv.bs (I : Inv X pins σ H s) : ∀ b o, X.base.get? b = some o → s.heap.get? b = some o ∧ H b = none := fun b o e =>
  ⟨I.base.keep b o (I.ok.bs b o e).1 (I.ok.bs b o e).2 (I.ok.nofr e) (I.ok.noex b o e), I.base.free b o (I.ok.bs b o e).1 (I.ok.bs b o e).2 (I.ok.noex b o e)⟩
theorem Inv.bk (I : Inv X pins σ H s) : ∀ b o, X.base.get? b = some o → s.heap.get? b = some o := fun b o e => (I.bs b o e).1
theorem Inv.mod (I : Inv X pins σ H s) : Mod X.K X.mg X.base := I.ok.mod
theorem Inv.kIn (I : Inv X pins σ H s) : X.K.In s.heap := I.ok.mod.kin.keeps I.bk
theorem Inv.fr (I : Inv X pins σ H s) : ∃ m, Fr X.base X.env.locals s.heap m :=
  let ⟨m, hn, _⟩ := I.loc
  ⟨m, hn, I.bk, Nat.le_trans I.ok.bsz I.ok.above⟩
theorem Inv.lt (I : Inv X pins σ H s) : X.env.locals < s.heap.objs.size := let ⟨_, hn, _⟩ := I.loc; hn.lt
theorem Inv.sz (I : Inv X pins σ H s) : X.s₀.heap.objs.size ≤ s.heap.objs.size := Nat.le_trans I.ok.above (Nat.le_of_lt I.lt)
theorem Inv.nofs (I : Inv X pins σ H s) {a : Addr} (h : s.heap.objs.size ≤ a) : a ∉ X.fs := fun hb => by
  obtain ⟨_, o, ho, _⟩ := I.ok.funs.mem hb
  exact absurd (Nat.lt_of_lt_of_le (Heap.lt_size ho) (Nat.le_trans I.sz h)) (Nat.lt_irrefl _)
theorem Inv.cne (I : Inv X pins σ H s) : ∀ x c, X.env.cells.lookup x = some c → c ≠ X.env.locals := fun x c e z => by
  obtain ⟨v, o, ho, hd⟩ := I.cell x c e
  obtain ⟨m, ⟨o', es, ep, ho', hd', _⟩, _⟩ := I.loc
  rw [z, ho'] at ho; cases ho; rw [hd'] at hd; cases hd
theorem Inv.funs (I : Inv X pins σ H s) : s.heap.FunFrames X.base X.outer := by
  have all : ∀ (l : List Env), (∀ b ∈ frs l, b ∈ X.fs) → X.s₀.heap.FunFrames X.base l → s.heap.FunFrames X.base l := by
    intro l
    induction l with
    | nil => intro _ _; trivial
    | cons env r ih =>
      intro hs hl
      obtain ⟨hk, ⟨L, o, hf, hn, ho, hd⟩, hr⟩ := hl
      have hL : L ∈ X.fs := hs L (by unfold frs; rw [List.filterMap_cons, hf]; exact List.mem_cons_self)
      obtain ⟨sl, e⟩ := I.base.slot L o ho (I.ok.frf L hL) hL fun z => I.ok.exfs L z hL
      exact ⟨hk, ⟨L, _, hf, hn, e, hd⟩, ih (fun b hb => hs b (by unfold frs; rw [List.filterMap_cons, hf]; exact List.mem_cons_of_mem _ hb)) hr⟩
  exact all X.outer (fun _ hb => hb) I.ok.funs

theorem Inv.stack (I : Inv X pins σ H s) : s.heap.FunFrames X.base X.stack := by
  rcases I.ok.stk with e | ⟨e, hf⟩
  · rw [e]; exact I.funs
  · rw [e]
    obtain ⟨m, hn, _⟩ := I.loc
    refine .cons (by rw [I.ok.kind]; decide) hf hn ?_ I.funs
    exact Heap.get?_none_of_le (Nat.le_trans I.ok.bsz I.ok.above)
theorem Inv.stkSub (I : Inv X pins σ H s) : ∀ b ∈ frs X.stack, b ∈ X.env.locals :: X.fs := fun b hb => by
  rcases I.ok.stk with e | ⟨e, hf⟩
  · rw [e] at hb; exact List.mem_cons_of_mem _ hb
  · rw [e] at hb
    unfold frs at hb
    rw [List.filterMap_cons, hf] at hb
    exact hb
theorem Inv.stkFree (I : Inv X pins σ H s) : ∀ b ∈ frs X.stack, H b = none := fun b hb => by
  rcases List.mem_cons.mp (I.stkSub b hb) with e | hb
  · rw [e]; exact I.free
  · obtain ⟨_, o, ho, _⟩ := I.ok.funs.mem hb
    exact I.base.free b o ho (I.ok.frf b hb) fun z => I.ok.exfs b z hb

theorem Inv.step {g' : Array GenState} {t' : Nat} {d' : Drawn} {ch : List Addr} (I : Inv X pins σ H s)
    (hch : ∀ b ∈ ch, (b ∈ X.ex ∨ X.s₀.heap.objs.size ≤ b) ∧ b ≠ X.env.locals ∧ (∀ x c, X.env.cells.lookup x = some c → c ≠ b) ∧ ∀ p ∈ X.pn ++ pins, p.1 ≠ b)
    (keep : ∀ b o, b ≠ X.env.locals → b ∉ X.fs → b ∉ ch → s.heap.get? b = some o → H b = none → h'.get? b = some o)
    (slot : ∀ b o, b ≠ X.env.locals → b ∈ X.fs → b ∉ ch → s.heap.get? b = some o → H b = none → ∃ sl, h'.get? b = some { o with slots := sl }) (free : ∀ b o, b ∉ ch → s.heap.get? b = some o → H b = none → H' b = none)
    (there : ∀ b o, b ∉ ch → s.heap.get? b = some o → ∃ o', h'.get? b = some o')
    (tups : ∀ b xs, H b = some (.tup xs) → H' b = some (.tup xs)) (frzs : ∀ b o u, H b = some (.frz o u) → H' b = some (.frz o u)) (tbls : ∀ b ps, H b = some (.tbl ps) → ∃ more, H' b = some (.tbl (ps ++ more)))
    (ns : ∀ m, s.heap.Ns X.env.locals m → h'.Ns X.env.locals m) (hok : HOk X.prog X.w H' h') (hg : AllBare g') :
    Inv X pins σ H' { s with heap := h', gens := g', drawn := d', toks := t' } := by
  have neL : ∀ b o, X.s₀.heap.get? b = some o → b ≠ X.env.locals := fun b o e => Nat.ne_of_lt (Nat.lt_of_lt_of_le (Heap.lt_size e) I.ok.above)
  have neC : ∀ b o, X.s₀.heap.get? b = some o → b ∉ X.ex → b ∉ ch := fun b o e hx hb => by
    rcases (hch b hb).1 with z | z
    · exact hx z
    · exact absurd (Nat.lt_of_lt_of_le (Heap.lt_size e) z) (Nat.lt_irrefl _)
  have cellK : ∀ x c, X.env.cells.lookup x = some c → ∀ v, s.heap.IsCell c v → h'.IsCell c v := fun x c e v ⟨o, ho, hd⟩ => by
    have nch : c ∉ ch := fun z => (hch c z).2.2.1 x c e rfl
    by_cases hc : c ∈ X.fs
    · obtain ⟨sl, q⟩ := slot c o (I.cne x c e) hc nch ho (I.freeC x c e)
      exact ⟨_, q, hd⟩
    · exact ⟨o, keep c o (I.cne x c e) hc nch ho (I.freeC x c e), hd⟩
  refine ⟨I.ok, I.os, hg, ⟨fun b o e n hb hx => ?_, fun b o e n hb hx => ?_, fun b o e n hx => ?_, fun b o e hx => ?_, fun b xs e => tups b xs (I.base.tups b xs e), fun b o xs e => frzs b o xs (I.base.frzs b o xs e), fun b ps e => ?_⟩, ?_, fun x c e => ?_, ?_, fun x c e => ?_, fun p hp => ?_, hok, I.len⟩
  · exact keep b o (neL b o e) hb (neC b o e hx) (I.base.keep b o e n hb hx) (I.base.free b o e n hx)
  · obtain ⟨sl, e1⟩ := I.base.slot b o e n hb hx
    obtain ⟨sl', e2⟩ := slot b _ (neL b o e) hb (neC b o e hx) e1 (I.base.free b o e n hx)
    exact ⟨sl', e2⟩
  · obtain ⟨o', e1⟩ := I.base.there b o e hx
    exact free b o' (neC b o e hx) e1 (I.base.free b o e n hx)
  · obtain ⟨o', e1⟩ := I.base.there b o e hx
    exact there b o' (neC b o e hx) e1
  · obtain ⟨m1, e1⟩ := I.base.tbls b ps e
    obtain ⟨m2, e2⟩ := tbls b _ e1
    exact ⟨m1 ++ m2, by rw [e2, Array.append_assoc]⟩
  · obtain ⟨m, hn, hl⟩ := I.loc
    refine ⟨m, ns m hn, fun i x v e1 e2 e3 => ?_⟩
    obtain ⟨u, r, l⟩ := hl i x v e1 e2 e3
    refine ⟨u, r, ?_⟩
    rcases l with l | ⟨k, c, e, z⟩
    · exact .inl l
    · exact .inr ⟨k, c, e, cellK x c e _ z⟩
  · obtain ⟨v, z⟩ := I.cell x c e
    exact ⟨v, cellK x c e v z⟩
  · obtain ⟨m, ⟨o, _, _, ho, _⟩, _⟩ := I.loc
    exact free _ o (fun z => (hch _ z).2.1 rfl) ho I.free
  · obtain ⟨v, o, ho, hd⟩ := I.cell x c e
    exact free c o (fun z => (hch c z).2.2.1 x c e rfl) ho (I.freeC x c e)
  · obtain ⟨e, n, ne, nf, d⟩ := I.pin p hp
    have nch : p.1 ∉ ch := fun z => (hch p.1 z).2.2.2 p hp rfl
    exact ⟨keep p.1 p.2 ne nf nch e n, free p.1 p.2 nch e n, ne, nf, d⟩
theorem Inv.un {t' : Nat} (I : Inv X pins σ H s) (u : Un X.fs [] H H' s.heap h') (hok : HOk X.prog X.w H' h') : Inv X pins σ H' { s with heap := h', toks := t' } := by
  obtain ⟨m, ⟨o, es, ep, ho, r⟩, _⟩ := id I.loc
  obtain ⟨sl, hL⟩ := u.any ho I.free (by simp)
  exact I.step (g' := s.gens) (d' := s.drawn) (ch := []) (fun _ z => nomatch z) (fun b o _ hb _ e n => u.keep b o e n hb (by simp)) (fun b o _ hb _ e n => u.slot b o e n hb (by simp)) (fun b o _ e n => u.free b o e n (by simp)) (fun b o _ e => u.there b o e (by simp)) u.tups u.frzs u.tbls (fun m' hm => by
    obtain ⟨o', es', ep', ho', r'⟩ := hm
    rw [ho] at ho'; cases ho'
    exact ⟨_, es', ep', hL, r'⟩) hok I.bare
theorem Inv.call {g' : Array GenState} {t' : Nat} {d' : Drawn} {ch : List Addr} (I : Inv X pins σ H s) (u : Un (frs X.stack) ch H H' s.heap h') (hok : HOk X.prog X.w H' h') (hg : AllBare g')
    (hch : ∀ b ∈ ch, (b ∈ X.ex ∨ X.s₀.heap.objs.size ≤ b) ∧ b ≠ X.env.locals ∧ (∀ x c, X.env.cells.lookup x = some c → c ≠ b) ∧ ∀ p ∈ X.pn ++ pins, p.1 ≠ b) :
    Inv X pins σ H' { s with heap := h', gens := g', drawn := d', toks := t' } := by
  obtain ⟨m, ⟨o, es, ep, ho, r⟩, _⟩ := id I.loc
  obtain ⟨sl, hL⟩ := u.any ho I.free fun z => (hch _ z).2.1 rfl
  exact I.step (ch := ch) hch (fun b o hL hb hc e n => u.keep b o e n (fun z => (List.mem_cons.mp (I.stkSub b z)).elim hL hb) hc) (fun b o _ _ hc e n => u.any e n hc) (fun b o hc e n => u.free b o e n hc) (fun b o hc e => u.there b o e hc) u.tups u.frzs u.tbls (fun m' hm => by
    obtain ⟨o', es', ep', ho', r'⟩ := hm
    rw [ho] at ho'; cases ho'
    exact ⟨_, es', ep', hL, r'⟩) hok hg
theorem Inv.turned {t' : Nat} {it : Addr} (I : Inv X pins σ H s) (k : ∀ b o, b ≠ it → s.heap.get? b = some o → h'.get? b = some o) (hn : H it = none) (hL : it ≠ X.env.locals)
    (h1 : it ∈ X.ex ∨ X.s₀.heap.objs.size ≤ it) (h2 : ∀ x c, X.env.cells.lookup x = some c → c ≠ it) (h3 : ∀ p ∈ X.pn ++ pins, p.1 ≠ it) : Inv X pins σ H { s with heap := h', toks := t' } := by
  have nit : ∀ b u, H b = some u → b ≠ it := fun b u e z => by rw [z, hn] at e; cases e
  refine I.step (g' := s.gens) (d' := s.drawn) (ch := [it]) (fun b hb => ?_) (fun b o _ _ hc e _ => k b o (fun z => hc (by simp [z])) e) (fun b o _ _ hc e _ => ⟨o.slots, k b o (fun z => hc (by simp [z])) e⟩) (fun _ _ _ _ n => n)
    (fun b o hc e => ⟨o, k b o (fun z => hc (by simp [z])) e⟩) (fun _ _ e => e) (fun _ _ _ e => e) (fun b ps e => ⟨#[], by rw [e]; simp⟩) (fun m hm => ?_) (fun b u e => ?_) I.bare
  · have e : b = it := by simpa using hb
    subst e
    exact ⟨h1, hL, h2, h3⟩
  · obtain ⟨o, es, ep, ho, r⟩ := hm
    exact ⟨o, es, ep, k _ o (Ne.symm hL) ho, r⟩
  · refine (I.hok b u e).stay (fun c v hc q => k c v ?_ q) (fun _ q => q) fun _ _ q => q
    rcases hc with z | z
    · rw [z]; exact nit b u e
    · exact nit c _ z
theorem Inv.tok (I : Inv X pins σ H s) (t : Nat) : Inv X pins σ H { s with toks := t } := I.un (h' := s.heap) (t' := t) Un.refl I.hok
theorem Inv.kept {t' : Nat} (I : Inv X pins σ H s) (k : ∀ b u, s.heap.get? b = some u → h'.get? b = some u) : Inv X pins σ H { s with heap := h', toks := t' } := I.un (Un.kept k) (I.hok.kept k)
theorem Inv.laid {a : Addr} {o : HO} {t' : Nat} (I : Inv X pins σ H s) (k : ∀ b u, s.heap.get? b = some u → h'.get? b = some u) (hp : s.heap.objs.size ≤ a) (new : ObjOk X.prog X.w (upd H a o) h' a o) :
    Inv X pins σ (upd H a o) { s with heap := h', toks := t' } := I.un (Un.laid k hp (I.hok.fresh hp)) (I.hok.laid k hp new)
theorem Inv.write {x e : Addr} {o : HO} {t' : Nat} (I : Inv X pins σ H s) (mu : Mut (H x)) (he : e = x ∨ H e = some (.own x)) (k : ∀ b u, b ≠ e → s.heap.get? b = some u → h'.get? b = some u) (heo : ∃ u, h'.get? e = some u)
    (new : ObjOk X.prog X.w (upd H x o) h' x o) : Inv X pins σ (upd H x o) { s with heap := h', toks := t' } := I.un (Un.write mu he k heo) (I.hok.write mu he k heo new)
theorem Inv.weak {σ' : List (Option V)} (I : Inv X pins σ H s) (hl : σ'.length = σ.length) (w : ∀ (i : Nat) v, σ'[i]? = some (some v) → σ[i]? = some (some v)) : Inv X pins σ' H s :=
  ⟨I.ok, I.os, I.bare, I.base, let ⟨m, hn, hl'⟩ := I.loc; ⟨m, hn, fun i x v e1 e2 e3 => hl' i x v e1 (w i v e2) e3⟩, I.cell, I.free, I.freeC, I.pin, I.hok, hl.trans I.len⟩
theorem Inv.pins_of {pins' : List (Addr × Obj)} (I : Inv X pins σ H s) (h : ∀ p ∈ pins', s.heap.get? p.1 = some p.2 ∧ H p.1 = none ∧ p.1 ≠ X.env.locals ∧ p.1 ∉ X.fs ∧ ∀ v, p.2.data ≠ .cell v) : Inv X pins' σ H s :=
  ⟨I.ok, I.os, I.bare, I.base, I.loc, I.cell, I.free, I.freeC, fun p hp => (List.mem_append.mp hp).elim (fun z => I.pin p (List.mem_append_left _ z)) (h p), I.hok, I.len⟩

theorem nodup_ix {N : List Str} (hN : N.Nodup) {i j : Nat} {x : Str} (a : N[i]? = some x) (b : N[j]? = some x) : i = j := by
  obtain ⟨h1, e1⟩ := List.getElem?_eq_some_iff.mp a
  obtain ⟨h2, e2⟩ := List.getElem?_eq_some_iff.mp b
  exact (List.getElem_inj hN).mp (e1.trans e2.symm)

theorem store_ok2 {M : Model} {A : Around} {E : Value → Shared → Prop} {i : Nat} {x : Str} {v : V} {u : Value} {Q : Unit → Shared → Prop} (I : Inv X pins σ H s) (hN : X.N.Nodup) (hi : X.N[i]? = some x) (hx : Loc X.env.scope x) (r : RelV v u)
    (h : ∀ s', Inv X pins (σ.set i (some v)) H s' → (∃ a, Heap.SameBut a s.heap s'.heap ∧ (a = X.env.locals ∨ X.env.cells.lookup x = some a)) → Q () s') (hf : X.fn x = true ∨ X.env.scope.names.lookup x = some .local := by first | exact .inl rfl | exact .inr rfl | assumption) : wpAny M A (storeName X.env x u) Q E s := by
  obtain ⟨m, hn, hl⟩ := id I.loc
  have hcls : (X.env.scope.kind == .class || (X.env.scope.kind == .module && X.env.locals != X.env.globals)) = false := by rw [I.ok.kind]; rfl
  have hiσ : i < σ.length := by rw [I.len]; exact (List.getElem?_eq_some_iff.mp hi).1
  have cne := I.cne
  have tracked : ∀ {a : Addr} {h' : Heap}, (∃ o, s.heap.get? a = some o ∧ H a = none) → Heap.SameBut a s.heap h' → HOk X.prog X.w H h' := fun {a h'} ha hs b ob e => by
    obtain ⟨_, _, hfree⟩ := ha
    refine (I.hok b ob e).stay (fun c w' hc q => (hs.2 c ?_).trans q) (fun _ q => q) fun _ _ q => q
    rintro rfl
    rcases hc with rfl | hc
    · rw [hfree] at e; cases e
    · rw [hfree] at hc; cases hc
  rcases hx with hk | hk
  · refine wpAny_storeName_local hk hn (fun h' hn' hs => ?_) hcls
    obtain ⟨oL, _, _, hoL, _⟩ := id hn
    refine h _ ⟨I.ok, I.os, I.bare, ⟨fun b o e n hb hx => ?_, fun b o e n hb hx => ?_, I.base.free, fun b o e hx => ?_, I.base.tups, I.base.frzs, I.base.tbls⟩, ⟨_, hn', fun j y v' e1 e2 e3 => ?_⟩, fun y c e => ?_, I.free, I.freeC, fun p hp => ?_, tracked ⟨oL, hoL, I.free⟩ hs, by simpa using I.len⟩ ⟨_, hs, .inl rfl⟩
    · exact (hs.2 b (Nat.ne_of_lt (Nat.lt_of_lt_of_le (Heap.lt_size e) I.ok.above))).trans (I.base.keep b o e n hb hx)
    · obtain ⟨sl, e1⟩ := I.base.slot b o e n hb hx
      exact ⟨sl, (hs.2 b (Nat.ne_of_lt (Nat.lt_of_lt_of_le (Heap.lt_size e) I.ok.above))).trans e1⟩
    · obtain ⟨o', e1⟩ := I.base.there b o e hx
      exact ⟨o', (hs.2 b (Nat.ne_of_lt (Nat.lt_of_lt_of_le (Heap.lt_size e) I.ok.above))).trans e1⟩
    · by_cases hj : j = i
      · subst hj
        rw [hi] at e1; cases e1
        rw [List.getElem?_set_self hiσ] at e2
        cases e2
        exact ⟨u, r, .inl ⟨hk, by simp⟩⟩
      · rw [List.getElem?_set_ne (Ne.symm hj)] at e2
        obtain ⟨u', r', q⟩ := hl j y v' e1 e2 e3
        refine ⟨u', r', ?_⟩
        rcases q with ⟨k, e⟩ | ⟨k, c, e, z⟩
        · refine .inl ⟨k, ?_⟩
          have : y ≠ x := fun e => hj (nodup_ix hN e1 (e ▸ hi))
          simp [this, e]
        · exact .inr ⟨k, c, e, z.sameBut hs (cne y c e)⟩
    · obtain ⟨w', z⟩ := I.cell y c e
      exact ⟨w', z.sameBut hs (cne y c e)⟩
    · obtain ⟨e, n, ne, nf, d⟩ := I.pin p hp
      exact ⟨(hs.2 p.1 ne).trans e, n, ne, nf, d⟩
  · have hfn : X.fn x = true := by
      rcases hf with z | z
      · exact z
      · rw [z] at hk; cases hk
    obtain ⟨c, hc⟩ := I.ok.has x (.inl hk)
    obtain ⟨w', z⟩ := I.cell x c hc
    refine wpAny_storeName_cell I.ok.kind hk hc z (fun h' hc' hs => ?_)
    obtain ⟨oc, hoc, hocd⟩ := id z
    refine h { s with heap := h' } ⟨I.ok, I.os, I.bare, ⟨fun b o e n hb hx => ?_, fun b o e n hb hx => ?_, I.base.free, fun b o e hx => ?_, I.base.tups, I.base.frzs, I.base.tbls⟩, ⟨m, hn.sameBut hs (Ne.symm (cne x c hc)), fun j y v' e1 e2 e3 => ?_⟩, fun y c' e => ?_, I.free, I.freeC, fun p hp => ?_, tracked ⟨oc, hoc, I.freeC x c hc⟩ hs, by simpa using I.len⟩ ⟨c, hs, .inr hc⟩
    · exact (hs.2 b (Nat.ne_of_lt (Nat.lt_of_lt_of_le (Heap.lt_size e) (I.ok.cab x c hfn hc)))).trans (I.base.keep b o e n hb hx)
    · obtain ⟨sl, e1⟩ := I.base.slot b o e n hb hx
      exact ⟨sl, (hs.2 b (Nat.ne_of_lt (Nat.lt_of_lt_of_le (Heap.lt_size e) (I.ok.cab x c hfn hc)))).trans e1⟩
    · obtain ⟨o', e1⟩ := I.base.there b o e hx
      exact ⟨o', (hs.2 b (Nat.ne_of_lt (Nat.lt_of_lt_of_le (Heap.lt_size e) (I.ok.cab x c hfn hc)))).trans e1⟩
    · by_cases hj : j = i
      · subst hj
        rw [hi] at e1; cases e1
        rw [List.getElem?_set_self hiσ] at e2
        cases e2
        exact ⟨u, r, .inr ⟨.inl hk, c, hc, hc'⟩⟩
      · rw [List.getElem?_set_ne (Ne.symm hj)] at e2
        obtain ⟨u', r', q⟩ := hl j y v' e1 e2 e3
        refine ⟨u', r', ?_⟩
        rcases q with q | ⟨k, c', e, z'⟩
        · exact .inl q
        · refine .inr ⟨k, c', e, z'.sameBut hs ?_⟩
          rintro rfl
          exact hj (nodup_ix hN e1 (I.ok.inj _ _ _ e hc ▸ hi))
    · by_cases hcc : c' = c
      · subst hcc; exact ⟨_, hc'⟩
      · obtain ⟨w2, z2⟩ := I.cell y c' e
        exact ⟨w2, z2.sameBut hs hcc⟩
    · obtain ⟨e, n, ne, nf, d⟩ := I.pin p hp
      refine ⟨(hs.2 p.1 ?_).trans e, n, ne, nf, d⟩
      intro q
      rw [q, hoc] at e
      have q' : oc = p.2 := Option.some.inj e
      exact d w' (by rw [← q']; exact hocd)
theorem store_ok {M : Model} {A : Around} {E : Value → Shared → Prop} {i : Nat} {x : Str} {v : V} {u : Value} {Q : Unit → Shared → Prop} (I : Inv X pins σ H s) (hN : X.N.Nodup) (hi : X.N[i]? = some x) (hx : Loc X.env.scope x) (r : RelV v u)
    (h : ∀ s', Inv X pins (σ.set i (some v)) H s' → Q () s') (hf : X.fn x = true ∨ X.env.scope.names.lookup x = some .local := by first | exact .inl rfl | exact .inr rfl | assumption) : wpAny M A (storeName X.env x u) Q E s :=
  store_ok2 I hN hi hx r (fun s' I' _ => h s' I') hf
theorem Inv.call' {s' : Shared} {ch : List Addr} (I : Inv X pins σ H s) (ho : s'.os = s.os) (u : Un (frs X.stack) ch H H' s.heap s'.heap) (hok : HOk X.prog X.w H' s'.heap) (hg : AllBare s'.gens)
    (hch : ∀ b ∈ ch, (b ∈ X.ex ∨ X.s₀.heap.objs.size ≤ b) ∧ b ≠ X.env.locals ∧ (∀ x c, X.env.cells.lookup x = some c → c ≠ b) ∧ ∀ p ∈ X.pn ++ pins, p.1 ≠ b) : Inv X pins σ H' s' := by
  obtain ⟨h', g', d', t', o'⟩ := s'
  have e : o' = s.os := ho
  subst e
  exact I.call (g' := g') (t' := t') (d' := d') u hok hg hch
end

abbrev XK := Value → Option Addr → Hp → Prop
abbrev St := List (Option V)
abbrev VK := V → Hp → Prop
abbrev TE := St → Hp → VK → Prop
abbrev TT := St → Hp → (Bool → Hp → Prop) → Prop
abbrev TA := St → Hp → (List V → Hp → Prop) → Prop
structure Ends where
  nx : St → Hp → Prop
  rt : VK
  bk : St → Hp → Prop := fun _ _ => False
  ct : St → Hp → Prop := fun _ _ => False
abbrev TS := Ends → St → Hp → Prop

def EP (X : Cx) (pins : List (Addr × Obj)) (σ : St) (Q : VK) (u : Value) (s' : Shared) : Prop := ∃ v H', Inv X pins σ H' s' ∧ RelV v u ∧ Q v H'
def TP (X : Cx) (pins : List (Addr × Obj)) (σ : St) (Q : Bool → Hp → Prop) (b : Bool) (s' : Shared) : Prop := ∃ H', Inv X pins σ H' s' ∧ Q b H'
def AP (X : Cx) (pins : List (Addr × Obj)) (σ : St) (Q : List V → Hp → Prop) (us : List Value) (s' : Shared) : Prop := ∃ vs H', Inv X pins σ H' s' ∧ Vals vs us ∧ Q vs H'
def SP (X : Cx) (pins : List (Addr × Obj)) (D : Ends) (f : Flow) (s' : Shared) : Prop :=
  match f with
  | .next => ∃ σ' H', Inv X pins σ' H' s' ∧ D.nx σ' H'
  | .brk => ∃ σ' H', Inv X pins σ' H' s' ∧ D.bk σ' H'
  | .cont => ∃ σ' H', Inv X pins σ' H' s' ∧ D.ct σ' H'
  | .ret u => ∃ v σ' H', Inv X pins σ' H' s' ∧ RelV v u ∧ D.rt v H'

def PE (X : Cx) (e : Expr) (t : TE) : Prop :=
  ∀ (pins : List (Addr × Obj)) (s : Shared) (σ : St) (H : Hp) (Q : VK), Inv X pins σ H s → t σ H Q → wpAny (model X.prog X.w) X.A (eval e X.env) (EP X pins σ Q) X.xe s
def PT (X : Cx) (e : Expr) (t : TT) : Prop :=
  ∀ (pins : List (Addr × Obj)) (s : Shared) (σ : St) (H : Hp) (Q : Bool → Hp → Prop), Inv X pins σ H s → t σ H Q → wpAny (model X.prog X.w) X.A (isTrue e X.env (eval e X.env)) (TP X pins σ Q) X.xe s
def PW (X : Cx) (e : Expr) (t : TT) : Prop :=
  ∀ (whole : Sem Value) (pins : List (Addr × Obj)) (s : Shared) (σ : St) (H : Hp) (Q : Bool → Hp → Prop), Inv X pins σ H s → t σ H Q → wpAny (model X.prog X.w) X.A (isTrue e X.env whole) (TP X pins σ Q) X.xe s
theorem PW.pt {X : Cx} {e : Expr} {t : TT} (h : PW X e t) : PT X e t := h _
def PA (X : Cx) (es : List Expr) (t : TA) : Prop :=
  ∀ (pos : Pos) (pins : List (Addr × Obj)) (s : Shared) (σ : St) (H : Hp) (Q : List V → Hp → Prop), Inv X pins σ H s → t σ H Q → wpAny (model X.prog X.w) X.A (spliced (backTo pos (starEach es X.env))) (AP X pins σ Q) X.xe s
def PS (X : Cx) (st : Stmt) (t : TS) : Prop :=
  ∀ (pins : List (Addr × Obj)) (s : Shared) (σ : St) (H : Hp) (D : Ends), Inv X pins σ H s → t D σ H → wpAny (model X.prog X.w) X.A (exec st X.env) (SP X pins D) X.xe s
def PSs (X : Cx) (st : List Stmt) (t : TS) : Prop :=
  ∀ (pins : List (Addr × Obj)) (s : Shared) (σ : St) (H : Hp) (D : Ends), Inv X pins σ H s → t D σ H → wpAny (model X.prog X.w) X.A (execs st X.env) (SP X pins D) X.xe s
theorem thn {α : Type} {t : Sem α} {Q Q' : α → Shared → Prop} {M : Model} {A : Around} {E : Value → Shared → Prop} {s : Shared} (h : wpAny M A t Q E s) (hQ : ∀ a s, Q a s → Q' a s) : wpAny M A t Q' E s := wpAny_mono h hQ fun _ _ x => x
end L2

namespace L2
open PySem PySem.Spec PyProof.Rows
section
variable {X : Cx}

theorem bin {a b : Expr} {ta tb : TE} (ha : PE X a ta) (hb : PE X b tb) {pins : List (Addr × Obj)} {s : Shared} {σ : St} {H : Hp} {R : V → V → Hp → Prop} (I : Inv X pins σ H s) (h : ta σ H fun x H1 => tb σ H1 fun y H2 => R x y H2)
    {α : Type} {Q : α → Shared → Prop} {f : Value → Value → Sem α}
    (hf : ∀ v u s2 x y H2, Inv X pins σ H2 s2 → RelV x v → RelV y u → R x y H2 → wpAny (model X.prog X.w) X.A (f v u) Q X.xe s2) :
    wpAny (model X.prog X.w) X.A (eval a X.env) (fun v s₁ => wpAny (model X.prog X.w) X.A (eval b X.env) (fun u s₂ => wpAny (model X.prog X.w) X.A (f v u) Q X.xe s₂) X.xe s₁) X.xe s := by
  refine thn (ha pins s σ H _ I h) fun v s1 ⟨x, H1, I1, r1, q1⟩ => ?_
  refine thn (hb pins s1 σ H1 _ I1 q1) fun u s2 ⟨y, H2, I2, r2, q2⟩ => ?_
  exact hf v u s2 x y H2 I2 r1 r2 q2

def tVar (i : Nat) : TE := fun σ H Q => ∃ v, σ[i]? = some (some v) ∧ Q v H
def tC (v : V) : TE := fun _ H Q => Q v H
theorem pe_var {i : Nat} {x : Str} {pos : Pos} (hN : X.N[i]? = some x) (hv : Vis X.env.scope x) (hd : (x == ("__debug__" : Str)) = false := by decide) (hcd : (x == ("__classdict__" : Str)) = false := by decide) : PE X (.Name x pos) (tVar i) := by
  intro pins s σ H Q I h
  obtain ⟨v, e, h⟩ := h
  obtain ⟨m, hn, hl⟩ := I.loc
  obtain ⟨u, r, l⟩ := hl i x v hN e hv
  have fin : EP X pins σ Q u s := ⟨v, H, I, r, h⟩
  rcases l with ⟨hk, hm⟩ | ⟨hk, c, hc, hcell⟩
  · exact wpAny_Name (wpAny_loadName_local I.ok.kind hk hn hm fin) hd
  · rcases hk with hk | hk
    · exact wpAny_Name (wpAny_loadName_cell I.ok.kind hk hc hcell fin) hd
    · exact wpAny_Name (wpAny_loadName_free I.ok.kind hk hc hcell fin hcd) hd
theorem pe_int {i j pos} : PE X (.Constant (.int i) j pos) (tC (.int i)) := fun _ _ _ H _ I h => wpAny_Constant_int ⟨.int i, H, I.tok _, ⟨_, rfl⟩, h⟩
theorem pe_bl {b j pos} : PE X (.Constant (.bool b) j pos) (tC (.bl b)) := fun _ _ _ H _ I h => Constant_bool ⟨.bl b, H, I, rfl, h⟩
theorem pe_str {x j pos} : PE X (.Constant (.str x) j pos) (tC (.str x)) := fun _ _ _ H _ I h => Calls.Constant_str ⟨.str x, H, I.tok _, ⟨_, rfl⟩, h⟩

def Gl (X : Cx) (x : Str) : Prop := X.env.kindOf x = some .globalImplicit
theorem ld_glob {E : Value → Shared → Prop} {pins : List (Addr × Obj)} {s : Shared} {σ : St} {H : Hp} {x : Str} {u : Value} {pos : Pos} {Q : Value → Shared → Prop} (I : Inv X pins σ H s) (hg : Gl X x) (hm : X.mg x = some u) (h : Q u s)
    (hd : (x == ("__debug__" : Str)) = false := by decide) : wpAny (model X.prog X.w) X.A (eval (.Name x pos) X.env) Q E s :=
  Calls.Name_function_global I.ok.kind hg (Calls.loadGlobal_global (by rw [I.ok.glob]; exact I.mod.glob.keeps I.bk) hm h) hd
theorem ld_blt {E : Value → Shared → Prop} {pins : List (Addr × Obj)} {s : Shared} {σ : St} {H : Hp} {x : Str} {u : Value} {pos : Pos} {Q : Value → Shared → Prop} (I : Inv X pins σ H s) (hg : Gl X x) (hm : X.mg x = none) (hv : bootBuiltins x = some u) (h : Q u s)
    (hn : x ≠ "__name__" := by decide) (hd : (x == ("__debug__" : Str)) = false := by decide) : wpAny (model X.prog X.w) X.A (eval (.Name x pos) X.env) Q E s := by
  obtain ⟨mb, h1, h2⟩ := I.mod.blt
  exact Calls.Name_function_global I.ok.kind hg (Calls.loadGlobal_builtin (by rw [I.ok.glob]; exact I.mod.glob.keeps I.bk) hm (by rw [I.ok.blt]; exact h1.keeps I.bk) ((h2 x hn).trans hv) h) hd
theorem pe_glob {x : Str} {v : V} {u : Value} {pos : Pos} (hg : Gl X x) (hm : X.mg x = some u) (r : RelV v u) (hd : (x == ("__debug__" : Str)) = false := by decide) : PE X (.Name x pos) (tC v) :=
  fun _ _ _ H _ I h => ld_glob I hg hm ⟨v, H, I, r, h⟩ hd
theorem pe_bltn {x : Str} {v : V} {u : Value} {pos : Pos} (hg : Gl X x) (hm : X.mg x = none) (hv : bootBuiltins x = some u) (r : RelV v u) (hn : x ≠ "__name__" := by decide) (hd : (x == ("__debug__" : Str)) = false := by decide) : PE X (.Name x pos) (tC v) :=
  fun _ _ _ H _ I h => ld_blt I hg hm hv ⟨v, H, I, r, h⟩ hn hd

variable {a b : Expr} {ta tb : TE} {pos : Pos}
def PC (X : Cx) (op : CmpOp) (a b : Expr) (t : TE) : Prop :=
  ∀ (pins : List (Addr × Obj)) (s : Shared) (σ : St) (H : Hp) (Q : VK), Inv X pins σ H s → t σ H Q →
    wpAny (model X.prog X.w) X.A (eval a X.env) (fun v s₁ => wpAny (model X.prog X.w) X.A (eval b X.env) (fun u s₂ => wpAny (model X.prog X.w) X.A (compareOp op v u) (EP X pins σ Q) X.xe s₂) X.xe s₁) X.xe s
theorem nobehind (b : Expr) {op : CmpOp} (h : op ≠ .In) (h2 : op ≠ .NotIn) : behindInMarks op b = false := by
  have e1 : (op == CmpOp.In) = false := by cases op <;> first | rfl | exact absurd rfl h
  have e2 : (op == CmpOp.NotIn) = false := by cases op <;> first | rfl | exact absurd rfl h2
  cases b <;> simp [behindInMarks, e1, e2]
def tB (t : TE) : TT := fun σ H Q => t σ H fun x H1 => ∃ c, x = .bl c ∧ Q c H1
theorem pt_cmp {op : CmpOp} {t : TE} (h : PC X op a b t) (h1 : behindInMarks op b = false := by first | exact nobehind _ (by decide) (by decide) | rfl) : PT X (.Compare a [op] [b] pos) (tB t) := by
  intro pins s σ H Q I hw
  refine wpAny_isTrue_Compare1 (thn (h pins s σ H _ I hw) fun v s1 h1 => thn h1 fun u s2 h2 => thn h2 fun c s3 ⟨x, H1, I1, r1, q1⟩ => ?_) h1
  obtain ⟨d, rfl, q⟩ := q1
  cases r1
  exact wpAny_truthy_bool ⟨H1, I1, q⟩
theorem pt_val {e : Expr} {t : TE} (h : PE X e t) (he : ∀ whole, isTrue e X.env whole = (do let v ← whole; standAt e.pos; holding [v] (truthy v)) := by intro _; rfl) : PT X e (tB t) := by
  intro pins s σ H Q I hw
  refine isTrue_plain (thn (h pins s σ H _ I hw) fun v s1 ⟨x, H1, I1, r1, q1⟩ => ?_) (he _)
  obtain ⟨d, rfl, q⟩ := q1
  cases r1
  exact wpAny_truthy_bool ⟨H1, I1, q⟩

variable {tA tB' : TT} {rest : List Expr}
def tAnd (t u : TT) : TT := fun σ H Q => t σ H fun c H1 => if c = true then u σ H1 Q else Q false H1
def tOr (t u : TT) : TT := fun σ H Q => t σ H fun c H1 => if c = true then Q true H1 else u σ H1 Q
def tNot (t : TT) : TT := fun σ H Q => t σ H fun c H1 => Q (!c) H1
theorem pw_and1 (ha : PT X a tA) : PW X (.BoolOp .And [a] pos) tA := by
  intro wh pins s σ H Q I h
  refine isTrue_and (thn (ha pins s σ H Q I h) fun c s1 e => ?_)
  cases c with
  | true => exact isTrue_and_nil e
  | false => exact e
theorem pw_or1 (ha : PT X a tA) : PW X (.BoolOp .Or [a] pos) tA := by
  intro wh pins s σ H Q I h
  refine isTrue_or (thn (ha pins s σ H Q I h) fun c s1 e => ?_)
  cases c with
  | false => exact isTrue_or_nil e
  | true => exact e
theorem pw_and (ha : PT X a tA) (hb : PW X (.BoolOp .And (b :: rest) pos) tB') : PW X (.BoolOp .And (a :: b :: rest) pos) (tAnd tA tB') := by
  intro wh pins s σ H Q I h
  refine isTrue_and (thn (ha pins s σ H _ I h) fun c s1 ⟨H1, I1, q1⟩ => ?_)
  cases c with
  | true => exact hb wh pins s1 σ H1 Q I1 q1
  | false => exact ⟨H1, I1, q1⟩
theorem pw_or (ha : PT X a tA) (hb : PW X (.BoolOp .Or (b :: rest) pos) tB') : PW X (.BoolOp .Or (a :: b :: rest) pos) (tOr tA tB') := by
  intro wh pins s σ H Q I h
  refine isTrue_or (thn (ha pins s σ H _ I h) fun c s1 ⟨H1, I1, q1⟩ => ?_)
  cases c with
  | true => exact ⟨H1, I1, q1⟩
  | false => exact hb wh pins s1 σ H1 Q I1 q1
theorem pt_not (ha : PT X a tA) : PT X (.UnaryOp .Not a pos) (tNot tA) := by
  intro pins s σ H Q I h
  exact isTrue_not (ha pins s σ H (fun c H1 => Q (!c) H1) I h)
def tAndV (ta tb : TE) : TE := fun σ H Q => ta σ H fun x H1 => ∃ c, x = .bl c ∧ if c = true then tb σ H1 Q else Q (.bl false) H1
def tOrV (ta tb : TE) : TE := fun σ H Q => ta σ H fun x H1 => ∃ c, x = .bl c ∧ if c = true then Q (.bl true) H1 else tb σ H1 Q
def tNotV (ta : TE) : TE := fun σ H Q => ta σ H fun x H1 => ∃ c, x = .bl c ∧ Q (.bl (!c)) H1
theorem pe_one {op} {t : TE} (h : PE X a t) : PE X (.BoolOp op [a] pos) t := fun pins s σ H Q I hw => BoolOp_one (h pins s σ H Q I hw)
theorem pe_and (ha : PE X a ta) (hb : PE X (.BoolOp .And (b :: rest) pos) tb) : PE X (.BoolOp .And (a :: b :: rest) pos) (tAndV ta tb) := by
  intro pins s σ H Q I h
  refine BoolOp_and (thn (ha pins s σ H _ I h) fun v s1 ⟨x, H1, I1, r1, q1⟩ => ?_)
  obtain ⟨c, rfl, q1⟩ := q1
  cases r1
  refine wpAny_truthy_bool ?_
  cases c with
  | true => exact hb pins s1 σ H1 Q I1 q1
  | false => exact ⟨.bl false, H1, I1, rfl, q1⟩
theorem pe_or (ha : PE X a ta) (hb : PE X (.BoolOp .Or (b :: rest) pos) tb) : PE X (.BoolOp .Or (a :: b :: rest) pos) (tOrV ta tb) := by
  intro pins s σ H Q I h
  refine BoolOp_or (thn (ha pins s σ H _ I h) fun v s1 ⟨x, H1, I1, r1, q1⟩ => ?_)
  obtain ⟨c, rfl, q1⟩ := q1
  cases r1
  refine wpAny_truthy_bool ?_
  cases c with
  | false => exact hb pins s1 σ H1 Q I1 q1
  | true => exact ⟨.bl true, H1, I1, rfl, q1⟩
theorem pe_not (ha : PE X a ta) : PE X (.UnaryOp .Not a pos) (tNotV ta) := by
  intro pins s σ H Q I h
  refine UnaryOp_ (thn (ha pins s σ H _ I h) fun v s1 ⟨x, H1, I1, r1, q1⟩ => ?_)
  obtain ⟨c, rfl, q1⟩ := q1
  cases r1
  exact not_of (wpAny_truthy_bool ⟨.bl (!c), H1, I1, rfl, q1⟩)
end
end L2

namespace L2
open PySem PySem.Spec PyProof.Rows

def SqL (K : PySem.W.Frag) (H : Hp) (a : Addr) (xs : List V) : Prop :=
  Rd H a (.lst xs) ∨
    ∃ (o : Obj) (its : Array Value) (n : Nat), K.lookup a = some o ∧ o.cls = .type "list" ∧ o.dict = none ∧ o.data = .seq its n ∧ its.size ≤ sizeLine ∧ Vals xs its.toList
def SqT (K : PySem.W.Frag) (H : Hp) (a : Addr) (xs : List V) : Prop :=
  Rd H a (.tup xs) ∨
    ∃ (o : Obj) (its : Array Value) (n : Nat), K.lookup a = some o ∧ o.cls = .type "tuple" ∧ o.data = .seq its n ∧ its.size ≤ sizeLine ∧ Vals xs its.toList
def absV : Value → Option V
  | .none => some .non
  | .bool b => some (.bl b)
  | .int i _ => some (.int i)
  | .str x _ => some (.str x)
  | .bytes b _ => some (.byt b)
  | .float b _ => some (.flt b)
  | .ref a => some (.ref a)
  | .type n => some (.ty n)
  | _ => none
theorem RelV.abs {x : V} {u : Value} (r : RelV x u) : absV u = some x := by
  cases x with
  | non => cases r; rfl
  | bl _ => cases r; rfl
  | int _ => obtain ⟨t, rfl⟩ := r; rfl
  | str _ => obtain ⟨t, rfl⟩ := r; rfl
  | byt _ => obtain ⟨t, rfl⟩ := r; rfl
  | flt _ => obtain ⟨t, rfl⟩ := r; rfl
  | ref _ => cases r; rfl
  | ty _ => cases r; rfl
theorem RelV.inj {x y : V} {u : Value} (r : RelV x u) (q : RelV y u) : x = y := Option.some.inj (r.abs.symm.trans q.abs)
theorem Vals.inj : ∀ {xs ys : List V} {us : List Value}, Vals xs us → Vals ys us → xs = ys
  | _, _, _, .nil, .nil => rfl
  | _, _, _, .cons r t, .cons r' t' => by rw [r.inj r', Vals.inj t t']
section
variable {X : Cx} {pins : List (Addr × Obj)} {σ : St} {H : Hp} {s : Shared} {a : Addr} {xs ys : List V}
theorem SqL.of {K : PySem.W.Frag} (h : H a = some (.lst xs)) : SqL K H a xs := .inl (.inl h)
theorem SqT.of {K : PySem.W.Frag} (h : H a = some (.tup xs)) : SqT K H a xs := .inl (.inl h)
theorem Inv.list (I : Inv X pins σ H s) (h : SqL X.K H a xs) : ∃ its : List Value, Vals xs its ∧ PlainL s.heap a its.toArray ∧ xs.length ≤ sizeLine := by
  rcases h with h | ⟨o, its, n, hk, hc, hd, hs, hz, r⟩
  · obtain ⟨z, its, n, r, e⟩ := h.ok I.hok
    exact ⟨its, r, ⟨_, n, e, rfl, rfl, rfl⟩, z⟩
  · refine ⟨its.toList, r, ⟨o, n, I.kIn a o hk, hc, hd, by simpa using hs⟩, ?_⟩
    have e := r.length
    simp only [Array.length_toList] at e
    omega
theorem Inv.tuple (I : Inv X pins σ H s) (h : SqT X.K H a xs) : ∃ its : List Value, Vals xs its ∧ IsTup s.heap a its.toArray ∧ xs.length ≤ sizeLine := by
  rcases h with h | ⟨o, its, n, hk, hc, hs, hz, r⟩
  · obtain ⟨z, its, r, p⟩ := h.ok I.hok
    exact ⟨its, r, p, z⟩
  · refine ⟨its.toList, r, ⟨o, I.kIn a o hk, hc, n, by simpa using hs⟩, ?_⟩
    have e := r.length
    simp only [Array.length_toList] at e
    omega
theorem Inv.list_inj (I : Inv X pins σ H s) (h : SqL X.K H a xs) (h' : SqL X.K H a ys) : xs = ys := by
  obtain ⟨its, r, ⟨o, n, e, _, _, d⟩, _⟩ := I.list h
  obtain ⟨its', r', ⟨o', n', e', _, _, d'⟩, _⟩ := I.list h'
  rw [e] at e'; cases e'
  rw [d] at d'
  injection d' with d1 _
  have : its = its' := by simpa using congrArg Array.toList d1
  subst this
  exact r.inj r'
theorem Inv.tuple_inj (I : Inv X pins σ H s) (h : SqT X.K H a xs) (h' : SqT X.K H a ys) : xs = ys := by
  obtain ⟨its, r, ⟨o, e, _, n, d⟩, _⟩ := I.tuple h
  obtain ⟨its', r', ⟨o', e', _, n', d'⟩, _⟩ := I.tuple h'
  rw [e] at e'; cases e'
  rw [d] at d'
  injection d' with d1 _
  have : its = its' := by simpa using congrArg Array.toList d1
  subst this
  exact r.inj r'
end

abbrev Cx.wish (X : Cx) (E : Value → Shared → Prop) : Cx := { X with xe := E }
abbrev Cx.nox (X : Cx) : Cx := X.wish fun _ _ => False
theorem Cx.Ok.wish {X : Cx} (ok : X.Ok) (E : Value → Shared → Prop) : (X.wish E).Ok :=
  ⟨ok.mod, ok.kind, ok.glob, ok.blt, ok.above, ok.inj, ok.has, ok.cab, ok.hd, ok.frames, ok.stk, ok.exf, ok.bs, ok.bsz, ok.noex, ok.exfs, ok.funs, ok.frf⟩
theorem Cx.Ok.unwish {X : Cx} {E : Value → Shared → Prop} (ok : (X.wish E).Ok) : X.Ok :=
  ⟨ok.mod, ok.kind, ok.glob, ok.blt, ok.above, ok.inj, ok.has, ok.cab, ok.hd, ok.frames, ok.stk, ok.exf, ok.bs, ok.bsz, ok.noex, ok.exfs, ok.funs, ok.frf⟩
section
variable {X : Cx} {pins : List (Addr × Obj)} {σ : St} {H : Hp} {s : Shared} {E : Value → Shared → Prop}
theorem Inv.wish (I : Inv X pins σ H s) (E : Value → Shared → Prop) : Inv (X.wish E) pins σ H s := ⟨I.ok.wish E, I.os, I.bare, I.base, I.loc, I.cell, I.free, I.freeC, I.pin, I.hok, I.len⟩
theorem Inv.unwish (I : Inv (X.wish E) pins σ H s) : Inv X pins σ H s := ⟨I.ok.unwish, I.os, I.bare, I.base, I.loc, I.cell, I.free, I.freeC, I.pin, I.hok, I.len⟩
theorem SP.unwish {D : Ends} {f : Flow} {s' : Shared} (h : SP (X.wish E) pins D f s') : SP X pins D f s' := by
  cases f with
  | next => obtain ⟨σ', H', I, q⟩ := h; exact ⟨σ', H', I.unwish, q⟩
  | brk => obtain ⟨σ', H', I, q⟩ := h; exact ⟨σ', H', I.unwish, q⟩
  | cont => obtain ⟨σ', H', I, q⟩ := h; exact ⟨σ', H', I.unwish, q⟩
  | ret u => obtain ⟨v, σ', H', I, r, q⟩ := h; exact ⟨v, σ', H', I.unwish, r, q⟩
theorem PSs.nox {st : List Stmt} {t : TS} (h : PSs X.nox st t) : PSs X st t := fun pins s σ H D I hw =>
  wpAny_mono (h pins s σ H D (I.wish _) hw) (fun _ _ q => q.unwish) fun _ _ z => False.elim z
end

section
variable {X : Cx} {st : Stmt} {rest : List Stmt} {t u : TS} {e : Expr} {te : TE} {pos : Pos}
def tNext : TS := fun D σ H => D.nx σ H
def tSeq (t u : TS) : TS := fun D σ H => t { D with nx := u D } σ H
theorem pss_nil : PSs X [] tNext := fun _ _ σ H _ I h => wpAny_execs_nil ⟨σ, H, I, h⟩
theorem pss_cons (h1 : PS X st t) (h2 : PSs X rest u) : PSs X (st :: rest) (tSeq t u) := by
  intro pins s σ H D I h
  refine wpAny_execs_cons (thn (h1 pins s σ H { D with nx := u D } I h) fun f s1 q => ?_)
  cases f with
  | next =>
    obtain ⟨σ', H', I', q⟩ := q
    exact h2 pins s1 σ' H' D I' q
  | ret v => exact q
  | brk => exact q
  | cont => exact q
theorem pss_one (h1 : PS X st t) : PSs X [st] t := by
  intro pins s σ H D I h
  refine wpAny_execs_cons (thn (h1 pins s σ H D I h) fun f s1 q => ?_)
  cases f with
  | next => exact wpAny_execs_nil q
  | ret v => exact q
  | brk => exact q
  | cont => exact q
theorem Inv.quiet {pins : List (Addr × Obj)} {σ : St} {H : Hp} {s : Shared} (I : Inv X pins σ H s) : interactive X.env = false := by simp [interactive, I.ok.kind]
def tDrop (te : TE) : TS := fun D σ H => te σ H fun _ H1 => D.nx σ H1
theorem ps_expr (he : PE X e te) (hs : swapsWith e none pos.line X.env = pure false := by rfl) : PS X (.Expr e pos) (tDrop te) := by
  intro pins s σ H D I h
  exact wpAny_Expr_any (thn (he pins s σ H _ I h) fun v s1 ⟨x, H1, I1, r1, q1⟩ => ⟨σ, H1, I1, q1⟩) I.quiet hs
def tRet (te : TE) : TS := fun D σ H => te σ H D.rt
theorem ps_ret (he : PE X e te) : PS X (.Return (some e) pos) (tRet te) := by
  intro pins s σ H D I h
  exact wpAny_Return_some (thn (he pins s σ H _ I h) fun v s1 ⟨x, H1, I1, r1, q1⟩ => ⟨x, σ, H1, I1, r1, q1⟩)
def tIfS (c : TT) (t u : TS) : TS := fun D σ H => c σ H fun b H1 => if b = true then t D σ H1 else u D σ H1
theorem ps_if {c : Expr} {a b : List Stmt} {tc : TT} (hc : PT X c tc) (ha : PSs X a t) (hb : PSs X b u) : PS X (.If c a b pos) (tIfS tc t u) := by
  intro pins s σ H D I h
  refine wpAny_If (thn (hc pins s σ H _ I h) fun d s1 ⟨H1, I1, q1⟩ => ?_)
  cases d with
  | true => exact ha pins s1 σ H1 D I1 q1
  | false => exact hb pins s1 σ H1 D I1 q1
def tNever : TS := fun _ _ _ => False
theorem ps_never : PS X st tNever := fun _ _ _ _ _ _ h => h.elim
theorem pss_never {sts : List Stmt} : PSs X sts tNever := fun _ _ _ _ _ _ h => h.elim
end

abbrev TG := V → St → Hp → (St → Hp → Prop) → Prop
abbrev TGs := List V → St → Hp → (St → Hp → Prop) → Prop
def PG (X : Cx) (target : Expr) (t : TG) : Prop :=
  ∀ (pins : List (Addr × Obj)) (s : Shared) (σ : St) (H : Hp) (v : V) (u : Value) (Q : St → Hp → Prop), Inv X pins σ H s → RelV v u → t v σ H Q →
    wpAny (model X.prog X.w) X.A (assign target X.env u) (fun _ s' => ∃ σ' H', Inv X pins σ' H' s' ∧ Q σ' H') X.xe s
def PGs (X : Cx) (ts : List Expr) (t : TGs) : Prop :=
  ∀ (pins : List (Addr × Obj)) (s : Shared) (σ : St) (H : Hp) (vs : List V) (us : List Value) (Q : St → Hp → Prop), Inv X pins σ H s → Vals vs us → t vs σ H Q →
    wpAny (model X.prog X.w) X.A (assignInOrder ((assignEach ts X.env).map (·.2)) us) (fun _ s' => ∃ σ' H', Inv X pins σ' H' s' ∧ Q σ' H') X.xe s
section
variable {X : Cx} {pos : Pos}
def gName (i : Nat) : TG := fun v σ H Q => Q (σ.set i (some v)) H
theorem pg_name {i : Nat} {x : Str} (hN : X.N.Nodup) (hi : X.N[i]? = some x) (hx : Loc X.env.scope x) (hf : X.fn x = true ∨ X.env.scope.names.lookup x = some .local := by first | exact .inl rfl | exact .inr rfl | assumption) : PG X (.Name x pos) (gName i) := by
  intro pins s σ H v u Q I r h
  exact wpAny_assign_Name (store_ok I hN hi hx r (fun s' I' => ⟨_, H, I', h⟩) hf)
def gNil : TGs := fun vs σ H Q => vs = [] ∧ Q σ H
def gCons (t : TG) (u : TGs) : TGs := fun vs σ H Q => ∃ v r, vs = v :: r ∧ t v σ H fun σ' H' => u r σ' H' Q
theorem pgs_nil : PGs X [] gNil := by
  intro pins s σ H vs us Q I r h
  obtain ⟨e, h⟩ := h
  subst e
  cases r
  exact assignInOrder_nil ⟨σ, H, I, h⟩
theorem pgs_cons {e : Expr} {es : List Expr} {t : TG} {u : TGs} (h1 : PG X e t) (h2 : PGs X es u)
    (hs : (assignEach (e :: es) X.env).map (·.2) = assign e X.env :: (assignEach es X.env).map (·.2) := by rfl) : PGs X (e :: es) (gCons t u) := by
  intro pins s σ H vs us Q I r h
  obtain ⟨v, vr, e1, h⟩ := h
  subst e1
  cases r with
  | cons r rr =>
    rw [hs]
    refine assignInOrder_cons (thn (h1 pins s σ H _ _ _ I r h) fun _ s1 ⟨σ1, H1, I1, q1⟩ => ?_)
    exact h2 pins s1 σ1 H1 _ _ Q I1 rr q1
def gTup (K : PySem.W.Frag) (n : Nat) (t : TGs) : TG := fun v σ H Q => ∃ a xs, v = .ref a ∧ SqT K H a xs ∧ xs.length = n ∧ t xs σ H Q
theorem pg_tup {es : List Expr} {k : Nat} {t : TGs} {n : Nat} (hc : X.calm = true) (h : PGs X es t)
    (hn : (assignEach es X.env).length = n := by rfl) (hst : (assignEach es X.env).findIdx? (·.1) = none := by rfl) : PG X (.Tuple es k pos) (gTup X.K n t) := by
  intro pins s σ H v u Q I r hw
  obtain ⟨a, xs, e1, hq, hl, hw⟩ := hw
  subst e1
  cases r
  obtain ⟨its, rv, ht, hz⟩ := I.tuple hq
  refine assign_Tuple_tuple (I.ok.hd hc) ht (by simp [hn, ← hl, rv.length]) hst fun h' hx => ?_
  have I1 : Inv X pins σ H { s with heap := h' } := I.kept (t' := s.toks) fun b o e => hx b o (Nat.ne_of_lt (Heap.lt_size e)) e
  exact h pins _ σ H xs _ Q I1 (by simpa using rv) hw
def tAsg (te : TE) (g : TG) : TS := fun D σ H => te σ H fun x H1 => g x σ H1 D.nx
theorem ps_asg {tg e : Expr} {te : TE} {g : TG} (he : PE X e te) (hg : PG X tg g) (hs : swapsWithSole [tg] e pos.line X.env = pure false := by rfl) (hw : swappedStores [tg] e X.env = pure none := by rfl)
    (h1 : (assignEach [tg] X.env).map (·.2) = [assign tg X.env] := by rfl) : PS X (.Assign [tg] e pos) (tAsg te g) := by
  intro pins s σ H D I h
  refine wpAny_Assign_stores (thn (he pins s σ H _ I h) fun v s1 ⟨x, H1, I1, r1, q1⟩ => ?_) hs hw
  rw [h1]
  exact thn (hg pins s1 σ H1 x v _ I1 r1 q1) fun _ s2 q => q
theorem ps_set {i : Nat} {x : Str} {e : Expr} {te : TE} {pos' : Pos} (hN : X.N.Nodup) (hi : X.N[i]? = some x) (hx : Loc X.env.scope x) (he : PE X e te) (hs : swapsWith e (some (.Name x pos')) pos.line X.env = pure false := by rfl) (hf : X.fn x = true ∨ X.env.scope.names.lookup x = some .local := by first | exact .inl rfl | exact .inr rfl | assumption) :
    PS X (.Assign [.Name x pos'] e pos) (tAsg te (gName i)) := by
  intro pins s σ H D I h
  refine wpAny_Assign_Name (thn (he pins s σ H _ I h) fun v s1 ⟨y, H1, I1, r1, q1⟩ => ?_) hs
  exact store_ok I1 hN hi hx r1 (fun s2 I2 => ⟨_, H1, I2, q1⟩) hf
end

section
variable {X : Cx} {pos : Pos}
def tWhile (c : TT) (tb : TS) : TS := fun D σ H => ∃ W : Nat → St → Hp → Prop, (∃ m, W m σ H) ∧ ∀ m σ H, W m σ H →
  c σ H fun b H1 => if b = true then ∃ N : St → Hp → Prop, (∀ σ' H', N σ' H' → ∃ m', m' < m ∧ W m' σ' H') ∧ tb { D with nx := N, ct := N, bk := D.nx } σ H1 else D.nx σ H1
theorem ps_while {c : Expr} {body : List Stmt} {tc : TT} {tb : TS} (hp : PassesOwn (model X.prog X.w) X.A X.env X.xe) (hc : PT X c tc) (hb : PSs X body tb) : PS X (.While c body [] pos) (tWhile tc tb) := by
  intro pins s σ H D I h
  obtain ⟨W, ⟨m0, w0⟩, turn⟩ := h
  refine wpAny_While (codeAny_whileLoop (fun n s' => ∃ σ' H', Inv X pins σ' H' s' ∧ W n σ' H') ?_ m0 ⟨σ, H, I, w0⟩)
  rintro n s1 ⟨σ1, H1, I1, w1⟩
  refine wpAny_passesOwn hp (thn (hc pins s1 σ1 H1 _ I1 (turn n σ1 H1 w1)) fun b s2 ⟨H2, I2, q2⟩ => ?_)
  cases b with
  | true =>
    obtain ⟨N, hN, q2⟩ := q2
    rw [if_pos rfl]
    refine wpAny_passesOwn hp (thn (hb pins s2 σ1 H2 _ I2 q2) fun f s3 q3 => ?_)
    cases f with
    | next =>
      obtain ⟨σ3, H3, I3, n3⟩ := q3
      obtain ⟨m', hm, w3⟩ := hN σ3 H3 n3
      exact ⟨m', hm, σ3, H3, I3, w3⟩
    | cont =>
      obtain ⟨σ3, H3, I3, n3⟩ := q3
      obtain ⟨m', hm, w3⟩ := hN σ3 H3 n3
      exact ⟨m', hm, σ3, H3, I3, w3⟩
    | brk => exact q3
    | ret v => exact q3
  | false =>
    rw [if_neg Bool.false_ne_true]
    exact wpAny_execs_nil ⟨σ1, H2, I2, q2⟩
end

structure It where
  go : Nat → Hp → Prop
  yld : Nat → Hp → V → Hp → Prop
  stop : Nat → Hp → Prop
def FpOk (X : Cx) (pins : List (Addr × Obj)) (H : Hp) (b : Addr) : Prop :=
  H b = none ∧ b ≠ X.env.locals ∧ b ∉ X.fs ∧ (b ∈ X.ex ∨ X.s₀.heap.objs.size ≤ b) ∧ (∀ x c, X.env.cells.lookup x = some c → c ≠ b) ∧ ∀ p ∈ X.pn ++ pins, p.1 ≠ b
theorem Inv.fpOk {X : Cx} {pins : List (Addr × Obj)} {σ : St} {H H' : Hp} {s : Shared} {b : Addr} (I : Inv X pins σ H s) (hb : s.heap.objs.size ≤ b) (hn : H' b = none) : FpOk X pins H' b := by
  refine ⟨hn, Nat.ne_of_gt (Nat.lt_of_lt_of_le I.lt hb), I.nofs hb, .inr (Nat.le_trans I.sz hb), fun x c e z => ?_, fun p hp z => ?_⟩
  · obtain ⟨v, q⟩ := I.cell x c e
    exact absurd (Nat.lt_of_lt_of_le q.lt (by rw [z]; exact hb)) (Nat.lt_irrefl _)
  · exact absurd (Nat.lt_of_lt_of_le (Heap.lt_size (I.pin p hp).1) (by rw [z]; exact hb)) (Nat.lt_irrefl _)
structure Turn (P : Program) (w : World) (K : PySem.W.Frag) (tg : Expr) (J : It) (fp : List Addr) (it : Addr) (tn : Nat → Heap → Prop) : Prop where
  mem : it ∈ fp
  obj : ∀ i h, tn i h → ∀ b ∈ fp, ∃ o, h.get? b = some o ∧ ∀ v, o.data ≠ .cell v
  keep : ∀ i h h', tn i h → (∀ b ∈ fp, ∀ o, h.get? b = some o → h'.get? b = some o) → tn i h'
  item : ∀ (X : Cx), X.prog = P → X.w = w → X.K = K → X.calm = true → ∀ (i : Nat) (pins : List (Addr × Obj)) (s : Shared) (σ : St) (H : Hp) (E : Value → Shared → Prop), Inv X pins σ H s → (∀ b ∈ fp, FpOk X pins H b) → tn i s.heap → J.go i H →
    wpAny (model P w) X.A (pyNext (.ref it)) (fun r s1 => ∃ u, r = some u ∧
      wpAny (model P w) X.A (letOwnedTupleGo tg (.ref it) u) (fun _ s2 => ∃ x H', Inv X pins σ H' s2 ∧ RelV x u ∧ J.yld i H x H' ∧ tn (i + 1) s2.heap ∧ ∀ b ∈ fp, H' b = none) E s1) E s
  done : ∀ (X : Cx), X.prog = P → X.w = w → X.K = K → X.calm = true → ∀ (i : Nat) (pins : List (Addr × Obj)) (s : Shared) (σ : St) (H : Hp) (E : Value → Shared → Prop), Inv X pins σ H s → (∀ b ∈ fp, FpOk X pins H b) → tn i s.heap → J.stop i H →
    wpAny (model P w) X.A (pyNext (.ref it)) (fun r s1 => r = none ∧ Inv X pins σ H s1) E s
  self : ∀ (A : Around) (i : Nat) (s : Shared) (Q : Value → Shared → Prop) (E : Value → Shared → Prop), tn i s.heap → Q (.ref it) s → wpAny (model P w) A (pyIter (.ref it)) Q E s
abbrev TI := St → Hp → (It → Hp → Prop) → Prop
def PIE (X : Cx) (pins : List (Addr × Obj)) (σ : St) (tg : Expr) (R : It → Hp → Prop) (itv : Value) (s2 : Shared) : Prop :=
  ∃ (it : Addr) (fp : List Addr) (tn : Nat → Heap → Prop) (J : It) (H' : Hp), itv = .ref it ∧ Inv X pins σ H' s2 ∧ Turn X.prog X.w X.K tg J fp it tn ∧ tn 0 s2.heap ∧ (∀ b ∈ fp, FpOk X pins H' b) ∧ R J H'
def PI (X : Cx) (tg iter : Expr) (wi : TI) : Prop :=
  ∀ (pins : List (Addr × Obj)) (s : Shared) (σ : St) (H : Hp) (R : It → Hp → Prop), Inv X pins σ H s → wi σ H R →
    wpAny (model X.prog X.w) X.A (eval iter X.env) (fun v s1 => wpAny (model X.prog X.w) X.A (pyIter v) (PIE X pins σ tg R) X.xe s1) X.xe s

theorem go_of {M : Model} {A : Around} {E : Value → Shared → Prop} {s : Shared} {tg : Expr} {it : Addr} {u : Value} {o : Obj} {n : String} {vs : Array Value} {Q : Unit → Shared → Prop} (ho : s.heap.get? it = some o) (hc : o.cls = .type n) (hd : o.data = .fields vs)
    (hn : ["enumerate", "zip", "dict_itemiterator", "dict_reverseitemiterator", "odict_iterator", "itertools.zip_longest", "itertools.pairwise"].contains n = false) (hQ : Q () s) : wpAny M A (letOwnedTupleGo tg (.ref it) u) Q E s := by
  unfold letOwnedTupleGo
  cases tg <;> first
    | exact wpAny_pure hQ
    | (cases u <;> first
        | exact wpAny_pure hQ
        | (refine wpAny_bind (wpAny_load ho ?_)
           rw [hc, hd]
           show wpAny M A (if (["enumerate", "zip", "dict_itemiterator", "dict_reverseitemiterator", "odict_iterator", "itertools.zip_longest", "itertools.pairwise"].contains n && vs[0]? == some (rawInt _)) = true then _ else _) Q E s
           rw [if_neg (by intro h; rw [hn, Bool.false_and] at h; cases h)]
           exact wpAny_pure hQ))

def Itl (K : PySem.W.Frag) (a : Addr) : It :=
  ⟨fun i H => ∃ xs x, SqL K H a xs ∧ xs[i]? = some x, fun i H x H' => H' = H ∧ ∀ xs, SqL K H a xs → xs[i]? = some x, fun i H => ∃ xs, SqL K H a xs ∧ xs.length ≤ i⟩
def Itt (K : PySem.W.Frag) (a : Addr) : It :=
  ⟨fun i H => ∃ xs x, SqT K H a xs ∧ xs[i]? = some x, fun i H x H' => H' = H ∧ ∀ xs, SqT K H a xs → xs[i]? = some x, fun i H => ∃ xs, SqT K H a xs ∧ xs.length ≤ i⟩
def Itr (lo : Int) (n : Nat) : It := ⟨fun i _ => i < n, fun i H x H' => H' = H ∧ x = .int (lo + i), fun i _ => n ≤ i⟩
theorem turn_list {P : Program} {w : World} {K : PySem.W.Frag} {tg : Expr} (a it : Addr) : Turn P w K tg (Itl K a) [it] it (fun i h => h.IsListIter it a i) where
  mem := by simp
  obj := fun i h st b hb => by
    have e : b = it := by simpa using hb
    subst e
    obtain ⟨o, e, c, d⟩ := st
    exact ⟨o, e, fun v z => by rw [d] at z; cases z⟩
  keep := fun i h h' st k => st.at fun o e => k it (by simp) o e
  item := by
    intro X hP hw hK hc i pins s σ H E I hf st hg
    subst hP hw hK
    obtain ⟨xs, x, hq, hx⟩ := hg
    obtain ⟨its, rv, p, hz⟩ := I.list hq
    obtain ⟨u, hu, ru⟩ := rv.get hx
    obtain ⟨f0, f1, f2, f3, f4, f5⟩ := hf it (by simp)
    refine wpAny_pyNext_list_item st p.isList (x := u) (by simpa using hu) fun h' st' sb => ?_
    have I1 : Inv X pins σ H { s with heap := h' } := I.turned (t' := s.toks) (fun b o hb e => (sb.2 b hb).trans e) f0 f1 f3 f4 f5
    obtain ⟨o, e, c, d⟩ := id st'
    exact ⟨u, rfl, go_of (s := { s with heap := h' }) e c d (by decide) ⟨x, H, I1, ru, ⟨rfl, fun ys hy => by rw [I.list_inj hy hq]; exact hx⟩, st', fun b hb => (hf b hb).1⟩⟩
  done := by
    intro X hP hw hK hc i pins s σ H E I hf st hg
    subst hP hw hK
    obtain ⟨xs, hq, hx⟩ := hg
    obtain ⟨its, rv, p, hz⟩ := I.list hq
    obtain ⟨f0, f1, f2, f3, f4, f5⟩ := hf it (by simp)
    have hl := rv.length
    exact wpAny_pyNext_list_end (I.ok.hd hc) st p.isList (by simp; omega) fun h' eb => ⟨rfl, I.turned (t' := s.toks) (fun b o hb e => eb b o hb e) f0 f1 f3 f4 f5⟩
  self := fun _ _ _ _ _ st h => wpAny_pyIter_listiter st h
theorem turn_tuple {P : Program} {w : World} {K : PySem.W.Frag} {tg : Expr} (a it : Addr) : Turn P w K tg (Itt K a) [it] it (fun i h => h.IsTupleIter it a i) where
  mem := by simp
  obj := fun i h st b hb => by
    have e : b = it := by simpa using hb
    subst e
    obtain ⟨o, e, c, d⟩ := st
    exact ⟨o, e, fun v z => by rw [d] at z; cases z⟩
  keep := fun i h h' st k => st.at fun o e => k it (by simp) o e
  item := by
    intro X hP hw hK hc i pins s σ H E I hf st hg
    subst hP hw hK
    obtain ⟨xs, x, hq, hx⟩ := hg
    obtain ⟨its, rv, p, hz⟩ := I.tuple hq
    obtain ⟨u, hu, ru⟩ := rv.get hx
    obtain ⟨f0, f1, f2, f3, f4, f5⟩ := hf it (by simp)
    refine wpAny_pyNext_tuple_item st (show s.heap.IsTuple a its.toArray from p) (x := u) (by simpa using hu) fun h' st' sb => ?_
    have I1 : Inv X pins σ H { s with heap := h' } := I.turned (t' := s.toks) (fun b o hb e => (sb.2 b hb).trans e) f0 f1 f3 f4 f5
    obtain ⟨o, e, c, d⟩ := id st'
    exact ⟨u, rfl, go_of (s := { s with heap := h' }) e c d (by decide) ⟨x, H, I1, ru, ⟨rfl, fun ys hy => by rw [I.tuple_inj hy hq]; exact hx⟩, st', fun b hb => (hf b hb).1⟩⟩
  done := by
    intro X hP hw hK hc i pins s σ H E I hf st hg
    subst hP hw hK
    obtain ⟨xs, hq, hx⟩ := hg
    obtain ⟨its, rv, p, hz⟩ := I.tuple hq
    obtain ⟨f0, f1, f2, f3, f4, f5⟩ := hf it (by simp)
    have hl := rv.length
    exact wpAny_pyNext_tuple_end (I.ok.hd hc) st (show s.heap.IsTuple a its.toArray from p) (by simp; omega) fun h' eb => ⟨rfl, I.turned (t' := s.toks) (fun b o hb e => eb b o hb e) f0 f1 f3 f4 f5⟩
  self := fun _ _ _ _ _ st h => wpAny_pyIter_tupleiter st h
theorem turn_range {P : Program} {w : World} {K : PySem.W.Frag} {tg : Expr} (it : Addr) (lo : Int) (n : Nat) : Turn P w K tg (Itr lo n) [it] it (fun i h => IsRangeIter h it (lo + (i : Nat) * 1) ((n : Int) - (i : Nat)) 1) where
  mem := by simp
  obj := fun i h st b hb => by
    have e : b = it := by simpa using hb
    subst e
    exact ⟨_, st, fun v z => by
      have z' : Data.fields _ = Data.cell v := z
      cases z'⟩
  keep := fun i h h' st k => k it (by simp) _ st
  item := by
    intro X hP hw hK hc i pins s σ H E I hf st hg
    subst hP hw hK
    obtain ⟨f0, f1, f2, f3, f4, f5⟩ := hf it (by simp)
    have W := Walks.range (prog := X.prog) (w := X.w) (I.ok.hd hc) it lo 1 n
    refine W.item i s _ _ hg st fun v h' tk hv st' kk => ?_
    obtain ⟨t, rfl⟩ := hv
    have I1 : Inv X pins σ H { s with heap := h', toks := tk } := I.turned (fun b o hb e => kk b o (by simpa using hb) e) f0 f1 f3 f4 f5
    refine ⟨_, rfl, go_of (s := { s with heap := h', toks := tk }) (n := "range_iterator") st' rfl rfl (by decide) ⟨.int (lo + i), H, I1, ⟨t, ?_⟩, ⟨rfl, rfl⟩, st', fun b hb => (hf b hb).1⟩⟩
    rw [Int.mul_one]
  done := by
    intro X hP hw hK hc i pins s σ H E I hf st hg
    subst hP hw hK
    obtain ⟨f0, f1, f2, f3, f4, f5⟩ := hf it (by simp)
    exact wpAny_pyNext_range_end (I.ok.hd hc) st (by have : n ≤ i := hg; omega) fun h' eb => ⟨rfl, I.turned (t' := s.toks) (fun b o hb e => eb b o hb e) f0 f1 f3 f4 f5⟩
  self := fun _ _ _ _ _ st h => wpAny_pyIter_rangeiter st h
end L2

namespace L2
open PySem PySem.Spec PyProof.Rows
section
variable {X : Cx} {tg : Expr}
def iList (K : PySem.W.Frag) (tl : TE) : TI := fun σ H R => tl σ H fun x H1 => ∃ a, x = .ref a ∧ (∃ xs, SqL K H1 a xs) ∧ R (Itl K a) H1
def iTup (K : PySem.W.Frag) (tl : TE) : TI := fun σ H R => tl σ H fun x H1 => ∃ a, x = .ref a ∧ (∃ xs, SqT K H1 a xs) ∧ R (Itt K a) H1
theorem pi_list {l : Expr} {tl : TE} (hl : PE X l tl) : PI X tg l (iList X.K tl) := by
  intro pins s σ H R I h
  refine thn (hl pins s σ H _ I h) fun v s1 ⟨x, H1, I1, r1, q1⟩ => ?_
  obtain ⟨a, e, ⟨xs, hq⟩, q⟩ := q1
  subst e
  cases r1
  obtain ⟨its, rv, p, hz⟩ := I1.list hq
  refine wpAny_pyIter_list p.isList ?_
  refine ⟨s1.heap.objs.size, [s1.heap.objs.size], _, _, H1, rfl, I1.kept (t' := s1.toks) fun b o e => Heap.get?_push_of_some _ e, turn_list a _, ⟨_, Heap.get?_push_size _ rfl, rfl, rfl⟩, fun b hb => ?_, q⟩
  have e : b = s1.heap.objs.size := by simpa using hb
  subst e
  exact I1.fpOk (Nat.le_refl _) (I1.hok.fresh (Nat.le_refl _))
theorem pi_tup {l : Expr} {tl : TE} (hl : PE X l tl) : PI X tg l (iTup X.K tl) := by
  intro pins s σ H R I h
  refine thn (hl pins s σ H _ I h) fun v s1 ⟨x, H1, I1, r1, q1⟩ => ?_
  obtain ⟨a, e, ⟨xs, hq⟩, q⟩ := q1
  subst e
  cases r1
  obtain ⟨its, rv, p, hz⟩ := I1.tuple hq
  refine wpAny_pyIter_tuple (show s1.heap.IsTuple a its.toArray from p) ?_
  refine ⟨s1.heap.objs.size, [s1.heap.objs.size], _, _, H1, rfl, I1.kept (t' := s1.toks) fun b o e => Heap.get?_push_of_some _ e, turn_tuple a _, ⟨_, Heap.get?_push_size _ rfl, rfl, rfl⟩, fun b hb => ?_, q⟩
  have e : b = s1.heap.objs.size := by simpa using hb
  subst e
  exact I1.fpOk (Nat.le_refl _) (I1.hok.fresh (Nat.le_refl _))
theorem range_it {pins : List (Addr × Obj)} {σ : St} {H : Hp} {s : Shared} {R : It → Hp → Prop} {E : Value → Shared → Prop} {lo hi : Int} {t u v : Tok} {tk : Nat} (I : Inv X pins σ H s) (h1 : -(2 ^ 62) ≤ lo) (h2 : lo < 2 ^ 62) (h3 : -(2 ^ 62) ≤ hi) (h4 : hi < 2 ^ 62)
    (q : R (Itr lo (hi - lo).toNat) H) : wpAny (model X.prog X.w) X.A (pyIter (.ref s.heap.objs.size)) (PIE X pins σ tg R) E { s with heap := s.heap.push { cls := .type "range", data := .fields #[.int lo t, .int hi u, .int 1 v] }, toks := tk } := by
  refine wpAny_pyIter_range (IsRange.new ..) (small_one h1 h2 h3 h4) ?_
  have I1 : Inv X pins σ H { s with heap := s.heap.push { cls := .type "range", data := .fields #[.int lo t, .int hi u, .int 1 v] }, toks := tk } := I.kept fun b o e => Heap.get?_push_of_some _ e
  refine ⟨(s.heap.push { cls := .type "range", data := .fields #[.int lo t, .int hi u, .int 1 v] }).objs.size, [(s.heap.push { cls := .type "range", data := .fields #[.int lo t, .int hi u, .int 1 v] }).objs.size], _, _, H, rfl,
    I1.kept (t' := tk) fun b o e => Heap.get?_push_of_some _ e, turn_range _ lo (hi - lo).toNat, ?_, fun b hb => ?_, q⟩
  · have e1 : lo + ((0 : Nat) : Int) * 1 = lo := by simp
    have e2 : (((hi - lo).toNat : Nat) : Int) - ((0 : Nat) : Int) = Builtin.Range.rangeSize lo hi 1 := by rw [rangeSize_one]; split <;> omega
    show IsRangeIter _ _ (lo + ((0 : Nat) : Int) * 1) ((((hi - lo).toNat : Nat) : Int) - ((0 : Nat) : Int)) 1
    rw [e1, e2]
    exact Heap.get?_push_size _ rfl
  · have e : b = (s.heap.push { cls := .type "range", data := .fields #[.int lo t, .int hi u, .int 1 v] }).objs.size := by simpa using hb
    subst e
    exact I1.fpOk (Nat.le_refl _) (I1.hok.fresh (Nat.le_refl _))
def iRng1 (ta : TA) : TI := fun σ H R => ta σ H fun vs H1 => ∃ j : Int, vs = [.int j] ∧ -(2 ^ 62) ≤ j ∧ j < 2 ^ 62 ∧ R (Itr 0 j.toNat) H1
theorem pi_range1 {a : Expr} {ta : TA} {p pos : Pos} (hg : Gl X "range") (hm : X.mg "range" = none) (ha : PA X [a] ta) (hs : starEach [a] X.env = [(false, eval a X.env)] := by rfl) : PI X tg (.Call (.Name "range" p) [a] [] pos) (iRng1 ta) := by
  intro pins s σ H R I h
  refine Call_ (ld_blt I hg hm boot_range (PyProof.Rows.callWith_type1 (thn (ha pos pins s σ H _ I h) fun us s1 ⟨vs, H1, I1, r1, q1⟩ => ?_) hs rfl))
  obtain ⟨j, e, q1, q2, q⟩ := q1
  subst e
  cases r1 with
  | cons r rr =>
    cases rr
    obtain ⟨t, rfl⟩ := r
    exact call_range_1 (range_it I1 (by omega) (by omega) q1 q2 (by simpa using q))
def tFor (wi : TI) (g : TG) (tb : TS) : TS := fun D σ H => wi σ H fun J H1 => ∃ W : Nat → Nat → St → Hp → Prop, (∃ m, W 0 m σ H1) ∧ ∀ i m σ H, W i m σ H →
  (J.stop i H ∧ D.nx σ H) ∨ (J.go i H ∧ ∃ N : St → Hp → Prop, (∀ σ' H', N σ' H' → ∃ m', m' < m ∧ W (i + 1) m' σ' H') ∧ ∀ x H', J.yld i H x H' → g x σ H' fun σ2 H2 => tb { D with nx := N, ct := N, bk := D.nx } σ2 H2)
def pinsAt (fp : List Addr) (h : Heap) : List (Addr × Obj) := fp.filterMap fun b => (h.get? b).map fun o => (b, o)
theorem mem_pinsAt {fp : List Addr} {h : Heap} {b : Addr} {o : Obj} (hb : b ∈ fp) (e : h.get? b = some o) : (b, o) ∈ pinsAt fp h := List.mem_filterMap.mpr ⟨b, hb, by rw [e]; rfl⟩
theorem of_pinsAt {fp : List Addr} {h : Heap} {p : Addr × Obj} (hp : p ∈ pinsAt fp h) : p.1 ∈ fp ∧ h.get? p.1 = some p.2 := by
  obtain ⟨b, hb, e⟩ := List.mem_filterMap.mp hp
  cases q : h.get? b with
  | none => rw [q] at e; cases e
  | some o =>
    rw [q] at e
    have e' : (b, o) = p := Option.some.inj e
    subst e'
    exact ⟨hb, q⟩
theorem Inv.pinned {pins : List (Addr × Obj)} {σ : St} {H : Hp} {s : Shared} {fp : List Addr} (I : Inv X pins σ H s) (hf : ∀ b ∈ fp, FpOk X pins H b) (ho : ∀ b ∈ fp, ∃ o, s.heap.get? b = some o ∧ ∀ v, o.data ≠ .cell v) : Inv X (pins ++ pinsAt fp s.heap) σ H s :=
  I.pins_of fun p hp => (List.mem_append.mp hp).elim (fun z => I.pin p (List.mem_append_right _ z)) fun z => by
    obtain ⟨hb, e⟩ := of_pinsAt z
    obtain ⟨f0, f1, f2, _⟩ := hf p.1 hb
    obtain ⟨o, e', d⟩ := ho p.1 hb
    rw [e] at e'; cases e'
    exact ⟨e, f0, f1, f2, d⟩
theorem Inv.unpinned {pins pl : List (Addr × Obj)} {σ : St} {H : Hp} {s : Shared} (I : Inv X (pins ++ pl) σ H s) : Inv X pins σ H s := I.pins_of fun p hp => I.pin p (List.mem_append_right _ (List.mem_append_left _ hp))
theorem ps_for {iter : Expr} {body : List Stmt} {wi : TI} {g : TG} {tb : TS} {pos : Pos} (hp : PassesOwn (model X.prog X.w) X.A X.env X.xe) (hc : X.calm = true) (hi : PI X tg iter wi) (hg : PG X tg g) (hb : PSs X body tb)
    (hs : ∀ x, foldedSetIterable iter X.env x = pure x := by intro _; rfl) : PS X (.For tg iter body [] pos) (tFor wi g tb) := by
  intro pins s σ H D I h
  refine wpAny_For (thn (hi pins s σ H _ I h) fun v s1 h1 => thn h1 fun itv s2 h2 => ?_) hs
  obtain ⟨it, fp, tn, J, H2, e, I2, T, st2, f2, W, ⟨m0, w0⟩, turn⟩ := h2
  subst e
  -- what stays true of the iterator's objects through the loop
  have stat : ∀ {H' : Hp}, (∀ b ∈ fp, H' b = none) → ∀ b ∈ fp, FpOk X pins H' b := fun hn b hb => ⟨hn b hb, (f2 b hb).2⟩
  refine codeAny_forLoop_any (fun n s' => ∃ i σ' H', Inv X pins σ' H' s' ∧ tn i s'.heap ∧ (∀ b ∈ fp, H' b = none) ∧ W i n σ' H') ?_ m0 ⟨0, σ, H2, I2, st2, fun b hb => (f2 b hb).1, w0⟩
  rintro n s3 ⟨i, σ3, H3, I3, st3, fr3, w3⟩
  rcases turn i n σ3 H3 w3 with ⟨stop, qn⟩ | ⟨go, N, hN, step⟩
  · refine wpAny_passesOwn hp (thn (T.done X rfl rfl rfl hc i pins s3 σ3 H3 X.xe I3 (stat fr3) st3 stop) fun r s4 ⟨hr, I4⟩ => ?_)
    subst hr
    exact wpAny_execs_nil ⟨σ3, H3, I4, qn⟩
  · refine wpAny_passesOwn hp (thn (T.item X rfl rfl rfl hc i pins s3 σ3 H3 X.xe I3 (stat fr3) st3 go) fun r s4 ⟨u, hr, h4⟩ => ?_)
    subst hr
    refine wpAny_passesOwn hp (thn h4 fun _ s5 ⟨x, H5, I5, r5, y5, st5, fr5⟩ => ?_)
    have I5' := I5.pinned (stat fr5) (T.obj _ _ st5)
    refine wpAny_passesOwn hp (thn (hg _ s5 σ3 H5 x u _ I5' r5 (step x H5 y5)) fun _ s6 ⟨σ6, H6, I6, q6⟩ => ?_)
    refine wpAny_passesOwn hp (thn (hb _ s6 σ6 H6 _ I6 q6) fun f s7 q7 => ?_)
    have again : ∀ {σ7 : St} {H7 : Hp}, Inv X (pins ++ pinsAt fp s5.heap) σ7 H7 s7 → N σ7 H7 → ∃ m, m < n ∧ ∃ i σ' H', Inv X pins σ' H' s7 ∧ tn i s7.heap ∧ (∀ b ∈ fp, H' b = none) ∧ W i m σ' H' := fun {σ7 H7} I7 n7 => by
      obtain ⟨m', hm, w7⟩ := hN σ7 H7 n7
      refine ⟨m', hm, i + 1, σ7, H7, I7.unpinned, T.keep _ _ _ st5 fun b hb o e => (I7.pin (b, o) (List.mem_append_right _ (List.mem_append_right _ (mem_pinsAt hb e)))).1, fun b hb => ?_, w7⟩
      obtain ⟨o, e, d⟩ := T.obj _ _ st5 b hb
      exact (I7.pin (b, o) (List.mem_append_right _ (List.mem_append_right _ (mem_pinsAt hb e)))).2.1
    cases f with
    | next => obtain ⟨σ7, H7, I7, n7⟩ := q7; exact again I7 n7
    | cont => obtain ⟨σ7, H7, I7, n7⟩ := q7; exact again I7 n7
    | brk => obtain ⟨σ7, H7, I7, q7⟩ := q7; exact ⟨σ7, H7, I7.unpinned, q7⟩
    | ret v => obtain ⟨x7, σ7, H7, I7, r7, q7⟩ := q7; exact ⟨x7, σ7, H7, I7.unpinned, r7, q7⟩
end

theorem for_list {K : PySem.W.Frag} {a : Addr} {xs : List V} {g : TG} {tb : TS} {D : Ends} {σ : St} {H : Hp} (Pv : Nat → St → Hp → Prop) (h0 : Pv 0 σ H) (hl : ∀ i σ H, i ≤ xs.length → Pv i σ H → SqL K H a xs)
    (hs : ∀ i x σ H, xs[i]? = some x → Pv i σ H → g x σ H fun σ2 H2 => tb { D with nx := Pv (i + 1), ct := Pv (i + 1), bk := D.nx } σ2 H2) (hd : ∀ σ H, Pv xs.length σ H → D.nx σ H) :
    ∃ W : Nat → Nat → St → Hp → Prop, (∃ m, W 0 m σ H) ∧ ∀ i m σ H, W i m σ H →
      ((Itl K a).stop i H ∧ D.nx σ H) ∨ ((Itl K a).go i H ∧ ∃ N : St → Hp → Prop, (∀ σ' H', N σ' H' → ∃ m', m' < m ∧ W (i + 1) m' σ' H') ∧ ∀ x H', (Itl K a).yld i H x H' → g x σ H' fun σ2 H2 => tb { D with nx := N, ct := N, bk := D.nx } σ2 H2) := by
  refine ⟨fun i m σ H => m = xs.length - i ∧ i ≤ xs.length ∧ Pv i σ H, ⟨xs.length, by simp, Nat.zero_le _, h0⟩, ?_⟩
  rintro i m σ H ⟨rfl, hi, p⟩
  have q := hl i σ H hi p
  by_cases hlt : i < xs.length
  · refine .inr ⟨⟨xs, xs[i], q, by simp [hlt]⟩, Pv (i + 1), fun σ' H' p' => ⟨xs.length - (i + 1), by omega, rfl, hlt, p'⟩, fun x H' y => ?_⟩
    obtain ⟨e, y⟩ := y
    subst e
    exact hs i x σ _ (y xs q) p
  · have e : i = xs.length := by omega
    subst e
    exact .inl ⟨⟨xs, q, Nat.le_refl _⟩, hd σ H p⟩
theorem for_range {lo : Int} {n : Nat} {g : TG} {tb : TS} {D : Ends} {σ : St} {H : Hp} (Pv : Nat → St → Hp → Prop) (h0 : Pv 0 σ H)
    (hs : ∀ i σ H, i < n → Pv i σ H → g (.int (lo + i)) σ H fun σ2 H2 => tb { D with nx := Pv (i + 1), ct := Pv (i + 1), bk := D.nx } σ2 H2) (hd : ∀ σ H, Pv n σ H → D.nx σ H) :
    ∃ W : Nat → Nat → St → Hp → Prop, (∃ m, W 0 m σ H) ∧ ∀ i m σ H, W i m σ H →
      ((Itr lo n).stop i H ∧ D.nx σ H) ∨ ((Itr lo n).go i H ∧ ∃ N : St → Hp → Prop, (∀ σ' H', N σ' H' → ∃ m', m' < m ∧ W (i + 1) m' σ' H') ∧ ∀ x H', (Itr lo n).yld i H x H' → g x σ H' fun σ2 H2 => tb { D with nx := N, ct := N, bk := D.nx } σ2 H2) := by
  refine ⟨fun i m σ H => m = n - i ∧ i ≤ n ∧ Pv i σ H, ⟨n, by simp, Nat.zero_le _, h0⟩, ?_⟩
  rintro i m σ H ⟨rfl, hi, p⟩
  by_cases hlt : i < n
  · refine .inr ⟨hlt, Pv (i + 1), fun σ' H' p' => ⟨n - (i + 1), by omega, rfl, hlt, p'⟩, fun x H' y => ?_⟩
    obtain ⟨e, y⟩ := y
    subst e y
    exact hs i σ _ hlt p
  · have e : i = n := by omega
    subst e
    exact .inl ⟨Nat.le_refl _, hd σ H p⟩
end L2

namespace L2
open PySem PySem.Spec PyProof.Rows

abbrev R2 := V → V → Hp → VK → Prop
def OpR (X : Cx) (f : Value → Value → Sem Value) (r : R2) : Prop :=
  ∀ (pins : List (Addr × Obj)) (s : Shared) (σ : St) (H : Hp) (x y : V) (v u : Value) (Q : VK), Inv X pins σ H s → RelV x v → RelV y u → r x y H Q →
    wpAny (model X.prog X.w) X.A (f v u) (EP X pins σ Q) X.xe s
def UnR (X : Cx) (f : Value → Sem Value) (r : V → Hp → VK → Prop) : Prop :=
  ∀ (pins : List (Addr × Obj)) (s : Shared) (σ : St) (H : Hp) (x : V) (v : Value) (Q : VK), Inv X pins σ H s → RelV x v → r x H Q →
    wpAny (model X.prog X.w) X.A (f v) (EP X pins σ Q) X.xe s
def CallR (X : Cx) (f : Value) (r : List V → Hp → VK → Prop) : Prop :=
  ∀ (pins : List (Addr × Obj)) (s : Shared) (σ : St) (H : Hp) (xs : List V) (us : List Value) (Q : VK), Inv X pins σ H s → Vals xs us → r xs H Q →
    wpAny (model X.prog X.w) X.A (call f us) (EP X pins σ Q) X.xe s
def tOp (r : R2) (ta tb : TE) : TE := fun σ H Q => ta σ H fun x H1 => tb σ H1 fun y H2 => r x y H2 Q
def tUn (r : V → Hp → VK → Prop) (ta : TE) : TE := fun σ H Q => ta σ H fun x H1 => r x H1 Q
def rI (C : Int → Int → Prop) (g : Int → Int → V) : R2 := fun x y H Q => ∃ i j, x = .int i ∧ y = .int j ∧ C i j ∧ Q (g i j) H
def rI0 (g : Int → Int → V) : R2 := fun x y H Q => ∃ i j, x = .int i ∧ y = .int j ∧ Q (g i j) H
def rU (g : Int → V) : V → Hp → VK → Prop := fun x H Q => ∃ i, x = .int i ∧ Q (g i) H

section
variable {X : Cx} {a b c : Expr} {ta tb tc : TE} {pos : Pos}

theorem binT (ha : PE X a ta) (hb : PE X b tb) {pins : List (Addr × Obj)} {s : Shared} {σ : St} {H : Hp} {R : V → V → Hp → Prop} (I : Inv X pins σ H s)
    (h : ta σ H fun x H1 => tb σ H1 fun y H2 => R x y H2) {Q : Value → Shared → Prop} {f : Value → Value → Sem Value}
    (hf : ∀ v u s2 x y H2, Inv X pins σ H2 s2 → RelV x v → RelV y u → R x y H2 → wpAny (model X.prog X.w) X.A (f v u) Q X.xe s2) :
    wpAny (model X.prog X.w) X.A (eval a X.env) (fun v s₁ => wpAny (model X.prog X.w) X.A (eval b X.env) (fun u s₂ => wpAny (model X.prog X.w) X.A (f v u) Q X.xe s₂) X.xe s₁) X.xe s := by
  refine thn (ha pins s σ H _ I h) fun v s1 ⟨x, H1, I1, r1, q1⟩ => ?_
  refine thn (hb pins s1 σ H1 _ I1 q1) fun u s2 ⟨y, H2, I2, r2, q2⟩ => ?_
  exact hf v u s2 x y H2 I2 r1 r2 q2

theorem pe_op {op : Operator} {r : R2} (ho : OpR X (binaryOp op) r) (ha : PE X a ta) (hb : PE X b tb) : PE X (.BinOp a op b pos) (tOp r ta tb) := by
  intro pins s σ H Q I h
  exact wpAny_BinOp (binT ha hb I h fun v u s2 x y H2 I2 rx ry q => ho pins s2 σ H2 x y v u Q I2 rx ry q)
theorem pe_un {op : UnaryOp} {r : V → Hp → VK → Prop} (ho : UnR X (unaryOp op) r) (ha : PE X a ta) : PE X (.UnaryOp op a pos) (tUn r ta) := by
  intro pins s σ H Q I h
  exact UnaryOp_ (thn (ha pins s σ H _ I h) fun v s1 ⟨x, H1, I1, r1, q1⟩ => ho pins s1 σ H1 x v Q I1 r1 q1)
theorem opI {f : Value → Value → Sem Value} {C : Int → Int → Prop} {g : Int → Int → Int}
    (rule : ∀ (i j : Int) (t u : Tok) (s : Shared) (Q : Value → Shared → Prop) (E : Value → Shared → Prop), C i j → Q (.int (g i j) s.toks) { s with toks := s.toks + 1 } → wpAny (model X.prog X.w) X.A (f (.int i t) (.int j u)) Q E s) :
    OpR X f (rI C fun i j => .int (g i j)) := by
  intro pins s σ H x y v u Q I rx ry h
  obtain ⟨i, j, rfl, rfl, hc, q⟩ := h
  obtain ⟨t, rfl⟩ := rx
  obtain ⟨t', rfl⟩ := ry
  exact rule i j t t' s _ _ hc ⟨.int (g i j), H, I.tok _, ⟨_, rfl⟩, q⟩
theorem opI0 {f : Value → Value → Sem Value} {g : Int → Int → Int}
    (rule : ∀ (i j : Int) (t u : Tok) (s : Shared) (Q : Value → Shared → Prop) (E : Value → Shared → Prop), Q (.int (g i j) s.toks) { s with toks := s.toks + 1 } → wpAny (model X.prog X.w) X.A (f (.int i t) (.int j u)) Q E s) :
    OpR X f (rI0 fun i j => .int (g i j)) := by
  intro pins s σ H x y v u Q I rx ry h
  obtain ⟨i, j, rfl, rfl, q⟩ := h
  obtain ⟨t, rfl⟩ := rx
  obtain ⟨t', rfl⟩ := ry
  exact rule i j t t' s _ _ ⟨.int (g i j), H, I.tok _, ⟨_, rfl⟩, q⟩
theorem opB0 {f : Value → Value → Sem Value} {g : Int → Int → Bool}
    (rule : ∀ (i j : Int) (t u : Tok) (s : Shared) (Q : Value → Shared → Prop) (E : Value → Shared → Prop), Q (.bool (g i j)) s → wpAny (model X.prog X.w) X.A (f (.int i t) (.int j u)) Q E s) :
    OpR X f (rI0 fun i j => .bl (g i j)) := by
  intro pins s σ H x y v u Q I rx ry h
  obtain ⟨i, j, rfl, rfl, q⟩ := h
  obtain ⟨t, rfl⟩ := rx
  obtain ⟨t', rfl⟩ := ry
  exact rule i j t t' s _ _ ⟨.bl (g i j), H, I, rfl, q⟩

def CPow (i j : Int) : Prop := 0 ≤ j ∧ j ≤ 1000000 ∧ i.natAbs < 2 ^ 64
def CMul (i j : Int) : Prop := (-(2 ^ 64) < i ∧ i < 2 ^ 64) ∨ (-(2 ^ 64) < j ∧ j < 2 ^ 64)
theorem CMul.ok {i j : Int} (h : CMul i j) : IntMulOk i j := by
  rcases h with ⟨h1, h2⟩ | ⟨h1, h2⟩
  · exact .of_left (intBits_le_64 h1 h2)
  · exact .of_right (intBits_le_64 h1 h2)
theorem op_add : OpR X (binaryOp .Add) (rI0 fun i j => .int (i + j)) := opI0 fun _ _ _ _ _ _ _ q => add_int q
theorem op_sub : OpR X (binaryOp .Sub) (rI0 fun i j => .int (i - j)) := opI0 fun _ _ _ _ _ _ _ q => sub_int q
theorem op_mod : OpR X (binaryOp .Mod) (rI (fun _ j => 0 < j) fun i j => .int (i % j)) := opI fun i j _ _ _ _ _ hc q => by
  have h1 : (0 : Int) < j := hc
  exact mod_int' (by omega) (by rw [Int.fmod_eq_emod_of_nonneg i (by omega)]; exact q)
theorem op_pow : OpR X (binaryOp .Pow) (rI CPow fun i j => .int (i ^ j.toNat)) := opI fun _ _ _ _ _ _ _ hc q => pow_int_small hc.1 hc.2.1 hc.2.2 q
theorem unI {f : Value → Sem Value} {g : Int → Int}
    (rule : ∀ (i : Int) (t : Tok) (s : Shared) (Q : Value → Shared → Prop) (E : Value → Shared → Prop), Q (.int (g i) s.toks) { s with toks := s.toks + 1 } → wpAny (model X.prog X.w) X.A (f (.int i t)) Q E s) :
    UnR X f (rU fun i => .int (g i)) := by
  intro pins s σ H x v Q I rx h
  obtain ⟨i, rfl, q⟩ := h
  obtain ⟨t, rfl⟩ := rx
  exact rule i t s _ _ ⟨.int (g i), H, I.tok _, ⟨_, rfl⟩, q⟩
theorem un_neg : UnR X (unaryOp .USub) (rU fun i => .int (-i)) := unI fun _ _ _ _ _ q => neg_int q
end

def scal : V → V → Bool
  | .non, .non => true | .non, .int _ => true | .int _, .non => true | .non, .bl _ => true | .bl _, .non => true | .non, .str _ => true | .str _, .non => true
  | .int _, .int _ => true | .bl _, .bl _ => true | .str _, .str _ => true | .byt _, .byt _ => true
  | .int _, .str _ => true | .str _, .int _ => true | .bl _, .str _ => true | .str _, .bl _ => true
  | _, _ => false
def rEq : R2 := fun x y H Q => scal x y = true ∧ Q (.bl (decide (x = y))) H
def rNe : R2 := fun x y H Q => scal x y = true ∧ Q (.bl (!decide (x = y))) H

theorem dec_int {i j : Int} : decide (V.int i = V.int j) = (i == j) := by
  rw [Bool.eq_iff_iff]
  simp
theorem dec_bl {i j : Bool} : decide (V.bl i = V.bl j) = (i == j) := by
  rw [Bool.eq_iff_iff]
  simp
theorem dec_str {i j : Str} : decide (V.str i = V.str j) = (i == j) := by
  rw [Bool.eq_iff_iff]
  simp
theorem dec_byt {i j : Array UInt8} : decide (V.byt i = V.byt j) = (i.toList == j.toList) := by
  rw [Bool.eq_iff_iff]
  cases i
  cases j
  simp

section
variable {X : Cx} {a b c : Expr} {ta tb tc : TE} {pos : Pos}
theorem fin_bl {pins : List (Addr × Obj)} {σ : St} {H : Hp} {s : Shared} {Q : VK} {k k' : Bool} (I : Inv X pins σ H s) (q : Q (.bl k) H) (e : k = k') : EP X pins σ Q (.bool k') s := by
  subst e
  exact ⟨.bl k, H, I, rfl, q⟩
theorem op_eq : OpR X (compareOp .Eq) rEq := by
  intro pins s σ H x y v u Q I rx ry h
  obtain ⟨hs, q⟩ := h
  cases x with
  | non =>
    cases rx
    cases y with
    | non => cases ry; exact PySem.EqNone.eq_none_none (fin_bl I q (by simp))
    | bl j => cases ry; exact PySem.EqNone.eq_none_bool (fin_bl I q (by simp))
    | int j => obtain ⟨t', rfl⟩ := ry; exact PySem.EqNone.eq_none_int (fin_bl I q (by simp))
    | str j => obtain ⟨t', rfl⟩ := ry; exact PySem.EqNone.eq_none_str (fin_bl I q (by simp))
    | _ => exact absurd (show false = true from hs) Bool.false_ne_true
  | bl i =>
    cases rx
    cases y with
    | non => cases ry; exact PySem.EqNone.eq_bool_none (fin_bl I q (by simp))
    | bl j => cases ry; exact eq_bool (fin_bl I q dec_bl)
    | str j => obtain ⟨t', rfl⟩ := ry; exact PySem.EqMixed.eq_bool_str (fin_bl I q (by simp))
    | _ => exact absurd (show false = true from hs) Bool.false_ne_true
  | int i =>
    obtain ⟨t, rfl⟩ := rx
    cases y with
    | non => cases ry; exact PySem.EqNone.eq_int_none (fin_bl I q (by simp))
    | int j => obtain ⟨t', rfl⟩ := ry; exact eq_int (fin_bl I q dec_int)
    | str j => obtain ⟨t', rfl⟩ := ry; exact PySem.EqMixed.eq_int_str (fin_bl I q (by simp))
    | _ => exact absurd (show false = true from hs) Bool.false_ne_true
  | str i =>
    obtain ⟨t, rfl⟩ := rx
    cases y with
    | non => cases ry; exact PySem.EqNone.eq_str_none (fin_bl I q (by simp))
    | bl j => cases ry; exact PySem.EqMixed.eq_str_bool (fin_bl I q (by simp))
    | int j => obtain ⟨t', rfl⟩ := ry; exact PySem.EqMixed.eq_str_int (fin_bl I q (by simp))
    | str j => obtain ⟨t', rfl⟩ := ry; exact eq_str (fin_bl I q dec_str)
    | _ => exact absurd (show false = true from hs) Bool.false_ne_true
  | byt i =>
    obtain ⟨t, rfl⟩ := rx
    cases y with
    | byt j => obtain ⟨t', rfl⟩ := ry; exact PySem.W.eq_bytes (fin_bl I q dec_byt)
    | _ => exact absurd (show false = true from hs) Bool.false_ne_true
  | _ => cases y <;> exact absurd (show false = true from hs) Bool.false_ne_true
theorem op_ne : OpR X (compareOp .NotEq) rNe := by
  intro pins s σ H x y v u Q I rx ry h
  obtain ⟨hs, q⟩ := h
  cases x with
  | non =>
    cases rx
    cases y with
    | non => cases ry; exact PySem.EqNone.ne_none_none (fin_bl I q (by simp))
    | bl j => cases ry; exact PySem.EqNone.ne_none_bool (fin_bl I q (by simp))
    | int j => obtain ⟨t', rfl⟩ := ry; exact PySem.EqNone.ne_none_int (fin_bl I q (by simp))
    | str j => obtain ⟨t', rfl⟩ := ry; exact PySem.EqNone.ne_none_str (fin_bl I q (by simp))
    | _ => exact absurd (show false = true from hs) Bool.false_ne_true
  | bl i =>
    cases rx
    cases y with
    | non => cases ry; exact PySem.EqNone.ne_bool_none (fin_bl I q (by simp))
    | bl j => cases ry; exact ne_bool (fin_bl I q (congrArg not dec_bl))
    | str j => obtain ⟨t', rfl⟩ := ry; exact PySem.EqMixed.ne_bool_str (fin_bl I q (by simp))
    | _ => exact absurd (show false = true from hs) Bool.false_ne_true
  | int i =>
    obtain ⟨t, rfl⟩ := rx
    cases y with
    | non => cases ry; exact PySem.EqNone.ne_int_none (fin_bl I q (by simp))
    | int j => obtain ⟨t', rfl⟩ := ry; exact ne_int (fin_bl I q (congrArg not dec_int))
    | str j => obtain ⟨t', rfl⟩ := ry; exact PySem.EqMixed.ne_int_str (fin_bl I q (by simp))
    | _ => exact absurd (show false = true from hs) Bool.false_ne_true
  | str i =>
    obtain ⟨t, rfl⟩ := rx
    cases y with
    | non => cases ry; exact PySem.EqNone.ne_str_none (fin_bl I q (by simp))
    | bl j => cases ry; exact PySem.EqMixed.ne_str_bool (fin_bl I q (by simp))
    | int j => obtain ⟨t', rfl⟩ := ry; exact PySem.EqMixed.ne_str_int (fin_bl I q (by simp))
    | str j => obtain ⟨t', rfl⟩ := ry; exact ne_str (fin_bl I q (congrArg not dec_str))
    | _ => exact absurd (show false = true from hs) Bool.false_ne_true
  | byt i =>
    obtain ⟨t, rfl⟩ := rx
    cases y with
    | byt j => obtain ⟨t', rfl⟩ := ry; exact PySem.W.ne_bytes (fin_bl I q (congrArg not dec_byt))
    | _ => exact absurd (show false = true from hs) Bool.false_ne_true
  | _ => cases y <;> exact absurd (show false = true from hs) Bool.false_ne_true

theorem op_lt : OpR X (compareOp .Lt) (rI0 fun i j => .bl (decide (i < j))) := opB0 fun _ _ _ _ _ _ _ q => lt_int q
theorem op_le : OpR X (compareOp .LtE) (rI0 fun i j => .bl (decide (i ≤ j))) := opB0 fun _ _ _ _ _ _ _ q => le_int q
theorem op_gt : OpR X (compareOp .Gt) (rI0 fun i j => .bl (decide (j < i))) := opB0 fun _ _ _ _ _ _ _ q => gt_int q
theorem op_ge : OpR X (compareOp .GtE) (rI0 fun i j => .bl (decide (j ≤ i))) := opB0 fun _ _ _ _ _ _ _ q => ge_int q
theorem op_in_str : OpR X (compareOp .In) (fun x y H Q => ∃ i j, x = .str i ∧ y = .str j ∧ Q (.bl (!(Builtin.Str.occurrences j i 0 j.length 1).isEmpty)) H) := by
  intro pins s σ H x y v u Q I rx ry h
  obtain ⟨i, j, rfl, rfl, q⟩ := h
  obtain ⟨t, rfl⟩ := rx
  obtain ⟨t', rfl⟩ := ry
  exact in_str (fin_bl I q rfl)

theorem OpR.or {f : Value → Value → Sem Value} {r r' : R2} (h : OpR X f r) (h' : OpR X f r') : OpR X f (fun x y H Q => r x y H Q ∨ r' x y H Q) := by
  intro pins s σ H x y v u Q I rx ry q
  rcases q with q | q
  · exact h pins s σ H x y v u Q I rx ry q
  · exact h' pins s σ H x y v u Q I rx ry q

theorem nomark (b : Expr) {op : CmpOp} (h : op ≠ .In := by decide) (h2 : op ≠ .NotIn := by decide) : behindInMarks op b = false := by
  have e1 : (op == CmpOp.In) = false := by cases op <;> first | rfl | exact absurd rfl h
  have e2 : (op == CmpOp.NotIn) = false := by cases op <;> first | rfl | exact absurd rfl h2
  cases b <;> simp [behindInMarks, e1, e2]
theorem pe_cmpR {op : CmpOp} {r : R2} (ho : OpR X (compareOp op) r) (ha : PE X a ta) (hb : PE X b tb) (hm : behindInMarks op b = false) : PE X (.Compare a [op] [b] pos) (tOp r ta tb) := by
  intro pins s σ H Q I h
  exact wpAny_Compare1 (binT ha hb I h fun v u s2 x y H2 I2 rx ry q => ho pins s2 σ H2 x y v u Q I2 rx ry q) hm
def tTest (t : TE) : TT := fun σ H Q => t σ H fun x H' => ∃ k, x = .bl k ∧ Q k H'
theorem pt_cmpR {op : CmpOp} {r : R2} (ho : OpR X (compareOp op) r) (ha : PE X a ta) (hb : PE X b tb) (hm : behindInMarks op b = false) : PT X (.Compare a [op] [b] pos) (tTest (tOp r ta tb)) := by
  intro pins s σ H Q I h
  refine wpAny_isTrue_Compare1 (thn (ha pins s σ H _ I h) fun v s1 ⟨x, H1, I1, r1, q1⟩ => thn (hb pins s1 σ H1 _ I1 q1) fun u s2 ⟨y, H2, I2, r2, q2⟩ =>
    thn (ho pins s2 σ H2 x y v u _ I2 r1 r2 q2) fun c s3 ⟨z, H3, I3, r3, k, e, q3⟩ => ?_) hm
  subst e
  cases r3
  exact wpAny_truthy_bool ⟨H3, I3, q3⟩
def tChain (r r' : R2) (ta tb tc : TE) : TE := fun σ H Q => ta σ H fun x H1 => tb σ H1 fun y H2 => r x y H2 fun z H3 => ∃ k, z = .bl k ∧
  (if k = true then tc σ H3 fun w' H4 => r' y w' H4 Q else Q (.bl false) H3)
theorem pe_chain {op op' : CmpOp} {r r' : R2} (ho : OpR X (compareOp op) r) (ho' : OpR X (compareOp op') r') (ha : PE X a ta) (hb : PE X b tb) (hc : PE X c tc)
    (hm : lastMarks [op, op'] [b, c] = false := by with_unfolding_all rfl) : PE X (.Compare a [op, op'] [b, c] pos) (tChain r r' ta tb tc) := by
  intro pins s σ H Q I h
  refine Compare_chain (thn (ha pins s σ H _ I h) fun v s1 ⟨x, H1, I1, r1, q1⟩ => chain_link (thn (hb pins s1 σ H1 _ I1 q1) fun u s2 ⟨y, H2, I2, r2, q2⟩ =>
    thn (ho pins s2 σ H2 x y v u _ I2 r1 r2 q2) fun d s3 ⟨z, H3, I3, r3, k, e, q3⟩ => ?_)) hm
  subst e
  cases r3
  refine wpAny_truthy_bool ?_
  cases k with
  | false => exact ite_ff ⟨.bl false, H3, I3, rfl, q3⟩
  | true => exact ite_tt (chain_last (thn (hc pins s3 σ H3 _ I3 q3) fun w' s4 ⟨z', H4, I4, r4, q4⟩ => ho' pins s4 σ H4 y z' u w' Q I4 r2 r4 q4))
theorem pt_chain {op op' : CmpOp} {r r' : R2} (ho : OpR X (compareOp op) r) (ho' : OpR X (compareOp op') r') (ha : PE X a ta) (hb : PE X b tb) (hc : PE X c tc)
    (hm : lastMarks [op, op'] [b, c] = false := by with_unfolding_all rfl) : PT X (.Compare a [op, op'] [b, c] pos) (tTest (tChain r r' ta tb tc)) := by
  intro pins s σ H Q I h
  refine isTrue_chain (thn (ha pins s σ H _ I h) fun v s1 ⟨x, H1, I1, r1, q1⟩ => test_link (thn (hb pins s1 σ H1 _ I1 q1) fun u s2 ⟨y, H2, I2, r2, q2⟩ =>
    thn (ho pins s2 σ H2 x y v u _ I2 r1 r2 q2) fun d s3 ⟨z, H3, I3, r3, k, e, q3⟩ => ?_)) hm
  subst e
  cases r3
  refine wpAny_truthy_bool ?_
  cases k with
  | false =>
    obtain ⟨k', e', q'⟩ := q3
    cases e'
    exact ite_ff ⟨H3, I3, q'⟩
  | true =>
    refine ite_tt (test_last (thn (hc pins s3 σ H3 _ I3 q3) fun w' s4 ⟨z', H4, I4, r4, q4⟩ => thn (ho' pins s4 σ H4 y z' u w' _ I4 r2 r4 q4) fun d' s5 ⟨z2, H5, I5, r5, k2, e2, q5⟩ => ?_))
    subst e2
    cases r5
    exact wpAny_truthy_bool ⟨H5, I5, q5⟩

theorem line63 : (sizeLine : Nat) < 2 ^ 63 := by rw [sizeLine_eq]; decide
theorem op_add_str : OpR X (binaryOp .Add) (fun x y H Q => ∃ i j, x = .str i ∧ y = .str j ∧ i.length + j.length ≤ sizeLine ∧ Q (.str (i ++ j)) H) := by
  intro pins s σ H x y v u Q I rx ry h
  obtain ⟨i, j, rfl, rfl, hz, q⟩ := h
  obtain ⟨t, rfl⟩ := rx
  obtain ⟨t', rfl⟩ := ry
  exact add_str (fun t' tk => ⟨.str (i ++ j), H, I.tok _, ⟨_, rfl⟩, q⟩) hz
theorem vals1 {x : V} {us : List Value} (r : Vals [x] us) : ∃ u, us = [u] ∧ RelV x u := by
  cases r with
  | cons r1 r2 => cases r2; exact ⟨_, rfl, r1⟩
theorem vals2 {x y : V} {us : List Value} (r : Vals [x, y] us) : ∃ u w', us = [u, w'] ∧ RelV x u ∧ RelV y w' := by
  cases r with
  | cons r1 r2 =>
    cases r2 with
    | cons r3 r4 => cases r4; exact ⟨_, _, rfl, r1, r3⟩
theorem call_max2 (hc : X.calm = true) : CallR X (.builtin "max") (fun xs H Q => ∃ i j, xs = [.int i, .int j] ∧ Q (.int (if j > i then j else i)) H) := by
  intro pins s σ H xs us Q I r h
  obtain ⟨i, j, rfl, q⟩ := h
  obtain ⟨u, w', rfl, ⟨t, rfl⟩, ⟨t', rfl⟩⟩ := vals2 r
  refine max_two_ints (I.ok.hd hc) fun h' tk k => ⟨_, H, I.kept k, ?_, q⟩
  by_cases hj : j > i
  · rw [if_pos hj, if_pos hj]; exact ⟨_, rfl⟩
  · rw [if_neg hj, if_neg hj]; exact ⟨_, rfl⟩
theorem call_min2 (hc : X.calm = true) : CallR X (.builtin "min") (fun xs H Q => ∃ i j, xs = [.int i, .int j] ∧ Q (.int (if j < i then j else i)) H) := by
  intro pins s σ H xs us Q I r h
  obtain ⟨i, j, rfl, q⟩ := h
  obtain ⟨u, w', rfl, ⟨t, rfl⟩, ⟨t', rfl⟩⟩ := vals2 r
  refine min_two_ints (I.ok.hd hc) fun h' tk k => ⟨_, H, I.kept k, ?_, q⟩
  by_cases hj : j < i
  · rw [if_pos hj, if_pos hj]; exact ⟨_, rfl⟩
  · rw [if_neg hj, if_neg hj]; exact ⟨_, rfl⟩
theorem call_int1 : CallR X (.type "int") (fun xs H Q => (∃ i, xs = [.int i] ∧ Q (.int i) H) ∨ ∃ k, xs = [.bl k] ∧ Q (.int (if k then 1 else 0)) H) := by
  intro pins s σ H xs us Q I r h
  rcases h with ⟨i, rfl, q⟩ | ⟨k, rfl, q⟩
  · obtain ⟨u, rfl, t, rfl⟩ := vals1 r
    exact call_int_int ⟨.int i, H, I, ⟨_, rfl⟩, q⟩
  · obtain ⟨u, rfl, r1⟩ := vals1 r
    cases r1
    exact call_int_bool ⟨.int (if k then 1 else 0), H, I.tok _, ⟨_, rfl⟩, q⟩
end
end L2

namespace L2
open PySem PySem.Spec PyProof.Rows

structure ObjM (h : Heap) (x dx C : Addr) (mA : Str → Option Value) : Prop where
  obj : h.get? x = some (PySem.W.instObj C dx)
  ns : h.Ns1 dx mA
  ne : dx ≠ x

theorem lookIn_ns {h : Heap} {dx : Addr} {mA : Str → Option Value} (n : h.Ns1 dx mA) : ∃ od, h.get? dx = some od ∧ ∀ name, PySem.W.lookIn name od = some (mA name) := by
  obtain ⟨o, es, ep, ho, hd, hk, _, hm⟩ := n
  refine ⟨o, ho, fun name => ?_⟩
  have e := hm name
  unfold nsFind findBy at e
  rw [← Array.find?_toList] at e
  unfold PySem.W.lookIn
  rw [hd]
  dsimp only
  split
  · rename_i y q
    rw [q] at e
    exact congrArg some e
  · rename_i q
    rw [q] at e
    have a : es.toList.any (·.refKey) = false := by
      rw [List.any_eq_false]
      intro y hy
      obtain ⟨z, t, hkey⟩ := hk y (Array.mem_toList_iff.mp hy)
      simp [DictEntry.refKey, hkey]
    have a' : ¬ es.toList.any (·.refKey) = true := by rw [a]; exact Bool.false_ne_true
    rw [if_neg a']
    exact congrArg some e

theorem ObjM.look {h : Heap} {x dx C : Addr} {mA : Str → Option Value} (I : ObjM h x dx C mA) : ∃ od, PySem.W.InstAt h x (PySem.W.instObj C dx) C (some od) ∧ ∀ name, PySem.W.lookIn name od = some (mA name) :=
  let ⟨od, ho, hl⟩ := lookIn_ns I.ns
  ⟨od, ⟨I.obj, rfl, rfl, ho⟩, hl⟩

section
variable {prog : Program} {w : World} {A : Around} {E : Value → Shared → Prop} {s : Shared} {K : PySem.W.Frag} {x dx C f : Addr} {mA : Str → Option Value} {name : Str} {v : Value}

theorem get_map {expr : Bool} {Q : Value → Shared → Prop} (X : K.In s.heap) (I : ObjM s.heap x dx C mA) (hg : PySem.W.plainGet K C name = true) (hh : PySem.W.hasDictIn K C = true)
    (ha : PySem.W.findIn K (.ref C) name = some none) (hv : mA name = some v) (hv' : PySem.W.handedIn v = true) (h : Q v { s with toks := s.toks + 1 }) :
    wpAny (model prog w) A (getAttr (.ref x) name expr) Q E s := by
  obtain ⟨od, J, hl⟩ := I.look
  exact PySem.W.get_value X J (PySem.W.plainGet_of hg).1 (PySem.W.findObj_own hh ha rfl (by rw [hl, hv])) hv' h

theorem get_meth {pl : Sem Bool} {Q : Value × List Value → Shared → Prop} (X : K.In s.heap) (I : ObjM s.heap x dx C mA) (hg : PySem.W.plainGet K C name = true)
    (hf : PySem.W.findIn K (.ref C) name = some (some (.ref f))) (ht : PySem.W.isFn K (.ref f) = true) (hv : mA name = none) (h : Q (.ref f, [.ref x]) s) :
    wpAny (model prog w) A (getMethod (.ref x) name pl) Q E s := by
  obtain ⟨od, J, hl⟩ := I.look
  exact PySem.W.method_fn X J (PySem.W.plainGet_of hg).1 (PySem.W.plainGet_of hg).2 hf (beq_iff_eq.mp ht) (by show (PySem.W.lookIn name od).map (·.isSome) = some false; rw [hl, hv]; rfl) h

theorem set_map {ns : List Str} {Q : Unit → Shared → Prop} (X : K.In s.heap) (I : ObjM s.heap x dx C mA)
    (hs : PySem.W.findIn K (.ref C) "__setattr__" = some (some (.builtin "object.__setattr__"))) (hp : PySem.W.plainOver K C = true) (ht : PySem.W.takerIn K C name = some none) (hh : PySem.W.hasDictIn K C = true)
    (hw : PySem.Within mA ns) (hsz : ns.length ≤ sizeLine)
    (h : ∀ h', ObjM h' x dx C (fun y => if y = name then some v else mA y) → Heap.SameBut dx s.heap h' → Q () { s with heap := h', toks := s.toks + 2 }) :
    wpAny (model prog w) A (setAttr (.ref x) name v) Q E s := by
  obtain ⟨od, J, hl⟩ := I.look
  refine PySem.W.set_plain X J hs (PySem.W.osa_open (s := { s with toks := s.toks + 1 }) (r := none) X J hp ht fun b => ?_)
  obtain ⟨cd, hc, hd'⟩ := PySem.W.any_some hh
  have hx : s.heap.get? x = some ⟨.ref C, some dx, .plain, #[]⟩ := I.obj
  refine wpAny_bind (wpAny_pure (wpAny_bind (wpAny_bind (wpAny_loadPart hx (wpAny_bind (PySem.W.Looks.here (s := { s with toks := s.toks + 1 }) (PySem.W.looks_clsIn X hc) ?_))))))
  rw [hd']
  refine wpAny_pure (a := some dx) (wpAny_bind (wpAny_pure (wpAny_bind ?_)))
  refine wpAny_nsSet1 (s := { s with toks := s.toks + 1 }) I.ns fun h' hn2 hs2 => ?_
  obtain ⟨oD, esD, epD, hoD, hdD, hcD⟩ := hn2.count (PySem.Within.cons name v hw)
  refine wpAny_bind (wpAny_lookBehind hoD (by rw [hdD]; exact pastItsLine_dict (Nat.le_trans hcD (by rw [List.length_cons]; omega))) ?_)
  exact wpAny_pure (h _ ⟨(hs2.2 _ (Ne.symm I.ne)).trans I.obj, hn2, I.ne⟩ hs2)

theorem make_map {R : Result → Shared → Prop} {vs : List Value} {kw : List (Str × Value)} (X : K.In s.heap) (hm : PySem.W.makesIn K C = true)
    (hi : PySem.W.findIn K (.ref C) "__init__" = some (some (.ref f))) (hf : PySem.W.typeIn K (.ref f) = some (.type "function"))
    (h : codeAny (model prog w) (A.under (.builtin "type.__call__" ⟨.ref C :: vs, kw⟩)) (.call (.ref f) ⟨.ref (s.heap.objs.size + 1) :: vs, kw⟩) (PySem.W.InitBack (s.heap.objs.size + 1) R)
      { s with heap := (s.heap.push PySem.W.emptyDict).push (PySem.W.instObj C s.heap.objs.size) }) :
    codeAny (model prog w) A (.call (.ref C) ⟨vs, kw⟩) R s := by
  obtain ⟨hh, g, d, t, os⟩ := s
  exact PySem.W.make_core (PySem.W.makes_of X hm) (PySem.W.looks_findIn X hi) (fun self => PySem.W.bind_fn X self hf) (.inl rfl) h
end

def putF (f : Str) (v : V) : List (Str × V) → List (Str × V)
  | [] => [(f, v)]
  | (g, x) :: r => if g = f then (g, v) :: r else (g, x) :: putF f v r
theorem lookup_putF (f g : Str) (v : V) : ∀ fs : List (Str × V), (putF f v fs).lookup g = if g = f then some v else fs.lookup g
  | [] => by
    show List.lookup g [(f, v)] = _
    by_cases h : g = f
    · have hb : (g == f) = true := beq_iff_eq.mpr h
      simp only [List.lookup, hb, if_pos h]
    · have hb : (g == f) = false := beq_eq_false_iff_ne.mpr h
      simp only [List.lookup, hb, if_neg h]
  | (k, x) :: r => by
    have ih := lookup_putF f g v r
    rw [show putF f v ((k, x) :: r) = (if k = f then (k, v) :: r else (k, x) :: putF f v r) from rfl]
    by_cases hk : k = f
    · rw [if_pos hk]
      by_cases h : g = k
      · have hb : (g == k) = true := beq_iff_eq.mpr h
        simp only [List.lookup, hb, if_pos (h.trans hk)]
      · have hb : (g == k) = false := beq_eq_false_iff_ne.mpr h
        simp only [List.lookup, hb, if_neg (fun e : g = f => h (e.trans hk.symm))]
    · rw [if_neg hk]
      by_cases h : g = k
      · have hb : (g == k) = true := beq_iff_eq.mpr h
        simp only [List.lookup, hb, if_neg (fun e : g = f => hk (h.symm.trans e))]
      · have hb : (g == k) = false := beq_eq_false_iff_ne.mpr h
        simp only [List.lookup, hb]
        exact ih
theorem keys_putF (f : Str) (v : V) : ∀ fs : List (Str × V), f ∈ (putF f v fs).map (·.1) ∧ ∀ g, g ∈ fs.map (·.1) → g ∈ (putF f v fs).map (·.1)
  | [] => ⟨by simp [putF], fun g h => by simp at h⟩
  | (k, x) :: r => by
    obtain ⟨i1, i2⟩ := keys_putF f v r
    rw [show putF f v ((k, x) :: r) = (if k = f then (k, v) :: r else (k, x) :: putF f v r) from rfl]
    by_cases hk : k = f
    · rw [if_pos hk]
      subst hk
      exact ⟨by simp, fun g h => by simpa using h⟩
    · rw [if_neg hk]
      refine ⟨?_, fun g h => ?_⟩
      · rw [List.map_cons]
        exact List.mem_cons_of_mem _ i1
      · rw [List.map_cons] at h ⊢
        rcases List.mem_cons.mp h with e | e
        · exact List.mem_cons.mpr (.inl e)
        · exact List.mem_cons_of_mem _ (i2 g e)
theorem length_putF (f : Str) (v : V) : ∀ fs : List (Str × V), (putF f v fs).length ≤ fs.length + 1
  | [] => by simp [putF]
  | (k, x) :: r => by
    have ih := length_putF f v r
    rw [show putF f v ((k, x) :: r) = (if k = f then (k, v) :: r else (k, x) :: putF f v r) from rfl]
    by_cases hk : k = f
    · rw [if_pos hk, List.length_cons, List.length_cons]; omega
    · rw [if_neg hk, List.length_cons, List.length_cons]; omega

theorem RelO.some_of {v : V} {o : Option Value} (r : RelO (some v) o) : ∃ u, o = some u ∧ RelV v u := by
  cases o with
  | none => exact (show False from r).elim
  | some u => exact ⟨u, rfl, r⟩
theorem RelO.none_of {o : Option Value} (r : RelO none o) : o = none := by
  cases o with
  | none => rfl
  | some u => exact (show False from r).elim
theorem handed_of {v : V} {u : Value} (r : RelV v u) : PySem.W.handedIn u = true := by
  cases v with
  | non => cases (show u = Value.none from r); rfl
  | bl b => cases (show u = Value.bool b from r); rfl
  | int i => obtain ⟨t, e⟩ := (show ∃ t, u = Value.int i t from r); cases e; rfl
  | str x => obtain ⟨t, e⟩ := (show ∃ t, u = Value.str x t from r); cases e; rfl
  | byt b => obtain ⟨t, e⟩ := (show ∃ t, u = Value.bytes b t from r); cases e; rfl
  | flt b => obtain ⟨t, e⟩ := (show ∃ t, u = Value.float b t from r); cases e; rfl
  | ref a => cases (show u = Value.ref a from r); rfl
  | ty n => cases (show u = Value.type n from r); rfl

section
variable {P : Program} {w : World} {H H' : Hp} {h h' : Heap} {a C dx : Addr} {fs fs' : List (Str × V)}
theorem ins_get (hok : HOk P w H h) (e : H a = some (.ins C dx fs)) : ∃ mA, ObjM h a dx C mA ∧ (∀ f, RelO (fs.lookup f) (mA f)) ∧ PySem.Within mA (fs.map (·.1)) ∧ fs.length ≤ 1000 ∧ H dx = some (.own a) := by
  obtain ⟨d, z, ne, ob, mA, n, r, q⟩ := (show ObjOk P w H h a (.ins C dx fs) from hok a _ e)
  exact ⟨mA, ⟨ob, n, ne⟩, r, q, z, d⟩
end

structure Cls (K : PySem.W.Frag) (C : Addr) : Prop where
  pg : PySem.W.plainGet K C Str.empty = true
  hd : PySem.W.hasDictIn K C = true
  po : PySem.W.plainOver K C = true
  sa : PySem.W.findIn K (.ref C) "__setattr__" = some (some (.builtin "object.__setattr__"))
theorem Cls.get {K : PySem.W.Frag} {C : Addr} (c : Cls K C) (f : Str) : PySem.W.plainGet K C f = true := c.pg
def NoAttr (K : PySem.W.Frag) (C : Addr) (f : Str) : Prop := PySem.W.findIn K (.ref C) f = some none
theorem NoAttr.taker {K : PySem.W.Frag} {C : Addr} {f : Str} (n : NoAttr K C f) : PySem.W.takerIn K C f = some none := by
  unfold PySem.W.takerIn
  rw [show PySem.W.findIn K (.ref C) f = some none from n]
  rfl
structure Meth (K : PySem.W.Frag) (C : Addr) (m : Str) (f : Addr) : Prop where
  at_ : PySem.W.findIn K (.ref C) m = some (some (.ref f))
  fn : PySem.W.isFn K (.ref f) = true
  kp : PySem.W.keepIn K (.ref f) = true

section
variable {X : Cx} {pins : List (Addr × Obj)} {σ : St} {H : Hp} {s : Shared} {a C dx : Addr} {fs : List (Str × V)} {f : Str} {v : V} {A : Around} {E : Value → Shared → Prop}

theorem getattr_ok {b : Bool} {Q : Value → Shared → Prop} (I : Inv X pins σ H s) (e : H a = some (.ins C dx fs)) (c : Cls X.K C) (n : NoAttr X.K C f) (l : fs.lookup f = some v)
    (h : ∀ u s', Inv X pins σ H s' → RelV v u → Q u s') : wpAny (model X.prog X.w) A (getAttr (.ref a) f b) Q E s := by
  obtain ⟨mA, O, r, _, _, _⟩ := ins_get I.hok e
  obtain ⟨u, hu, ru⟩ := RelO.some_of (v := v) (o := mA f) (by rw [← l]; exact r f)
  exact get_map I.kIn O (c.get f) c.hd n hu (handed_of ru) (h u _ (I.tok _) ru)

theorem getmeth_ok {m : Str} {g : Addr} {pl : Sem Bool} {Q : Value × List Value → Shared → Prop} (I : Inv X pins σ H s) (e : H a = some (.ins C dx fs)) (c : Cls X.K C) (k : Meth X.K C m g) (l : fs.lookup m = none)
    (h : Q (.ref g, [.ref a]) s) : wpAny (model X.prog X.w) A (getMethod (.ref a) m pl) Q E s := by
  obtain ⟨mA, O, r, _, _, _⟩ := ins_get I.hok e
  have hn : mA m = none := RelO.none_of (by rw [← l]; exact r m)
  exact get_meth I.kIn O (c.get m) k.at_ k.fn hn h

theorem setattr_ok {y : V} {u : Value} {Q : Unit → Shared → Prop} (I : Inv X pins σ H s) (e : H a = some (.ins C dx fs)) (c : Cls X.K C) (n : NoAttr X.K C f) (hl : fs.length < 1000) (ry : RelV y u)
    (h : ∀ s', Inv X pins σ (upd H a (.ins C dx (putF f y fs))) s' → Q () s') : wpAny (model X.prog X.w) A (setAttr (.ref a) f u) Q E s := by
  obtain ⟨mA, O, r, wi, _, ho⟩ := ins_get I.hok e
  have hz : (fs.map (·.1)).length ≤ sizeLine := by rw [List.length_map, sizeLine_eq]; omega
  refine set_map I.kIn O c.sa c.po n.taker c.hd wi hz fun h' O' sb => h _ ?_
  have hd : ∃ o, h'.get? dx = some o := let ⟨o, _, _, e', _⟩ := O'.ns; ⟨o, e'⟩
  refine I.write (x := a) (e := dx) (by rw [e]; exact True.intro) (.inr ho) (fun b q hb z => (sb.2 b hb).trans z) hd ?_
  refine ⟨by rw [upd_ne O.ne]; exact ho, ?_, O.ne, O'.obj, _, O'.ns, fun g => ?_, fun g hg => ?_⟩
  · have := length_putF f y fs; omega
  · show RelO ((putF f y fs).lookup g) (if g = f then some u else mA g)
    rw [lookup_putF]
    by_cases q : g = f
    · rw [if_pos q, if_pos q]; exact ry
    · rw [if_neg q, if_neg q]; exact r g
  · by_cases q : g = f
    · rw [q]; exact (keys_putF f y fs).1
    · refine (keys_putF f y fs).2 g (wi g fun z => hg ?_)
      show (if g = f then some u else mA g) = none
      rw [if_neg q]; exact z

theorem Inv.made (I : Inv X pins σ H s) : Inv X pins σ (upd (upd H s.heap.objs.size (.own (s.heap.objs.size + 1))) (s.heap.objs.size + 1) (.ins C s.heap.objs.size []))
    { s with heap := (s.heap.push PySem.W.emptyDict).push (PySem.W.instObj C s.heap.objs.size) } := by
  have e1 : (s.heap.push PySem.W.emptyDict).get? s.heap.objs.size = some PySem.W.emptyDict := Heap.get?_push_size s.heap rfl
  have e2 : ((s.heap.push PySem.W.emptyDict).push (PySem.W.instObj C s.heap.objs.size)).get? (s.heap.objs.size + 1) = some (PySem.W.instObj C s.heap.objs.size) := by
    have := Heap.get?_push_size (s.heap.push PySem.W.emptyDict) (o := PySem.W.instObj C s.heap.objs.size) rfl
    rwa [Heap.size_push] at this
  have e3 : (s.heap.push PySem.W.emptyDict).Ns s.heap.objs.size (fun _ => none) := ⟨PySem.W.emptyDict, #[], _, e1, rfl, (fun e he => absurd he (by simp)), fun _ => rfl⟩
  have I1 := I.laid (a := s.heap.objs.size) (o := .own (s.heap.objs.size + 1)) (h' := s.heap.push PySem.W.emptyDict) (t' := s.toks) (fun b u q => Heap.get?_push_of_some _ q) (Nat.le_refl _) ⟨_, e1⟩
  refine I1.laid (a := s.heap.objs.size + 1) (o := .ins C s.heap.objs.size []) (t' := s.toks) (fun b u q => Heap.get?_push_of_some _ q) (Nat.le_of_eq (Heap.size_push _ _)) ?_
  have ne : s.heap.objs.size ≠ s.heap.objs.size + 1 := Nat.ne_of_lt (Nat.lt_succ_self _)
  refine ⟨by rw [upd_ne ne, upd_same], Nat.zero_le _, ne, e2, fun _ => none, (Heap.Ns1.of_empty e3).at fun o q => Heap.get?_push_of_some _ q, fun _ => True.intro, fun y hy => absurd rfl hy⟩

theorem attr_of {prog : Program} {w : World} {env : Env} {e : Expr} {f : Str} {pos : Pos} {s : Shared} {Q : Value → Shared → Prop} (hb : attributeBase e f env (eval e env) = eval e env)
    (h : wpAny (model prog w) A (eval e env) (fun o s₁ => wpAny (model prog w) A (getAttr o f true) Q E s₁) E s) : wpAny (model prog w) A (eval (.Attribute e f pos) env) Q E s :=
  Attribute_any_ h (by rw [arm_eval_Attribute, hb])
end

def tFld (K : PySem.W.Frag) (ta : TE) (f : Str) : TE := fun σ H Q => ta σ H fun x H1 => ∃ a C dx fs v, x = .ref a ∧ H1 a = some (.ins C dx fs) ∧ Cls K C ∧ NoAttr K C f ∧ fs.lookup f = some v ∧ Q v H1
def sFld (K : PySem.W.Frag) (ta tv : TE) (f : Str) : TS := fun D σ H => tv σ H fun y H1 => ta σ H1 fun x H2 => ∃ a C dx fs, x = .ref a ∧ H2 a = some (.ins C dx fs) ∧ Cls K C ∧ NoAttr K C f ∧ fs.length < 1000 ∧
  D.nx σ (upd H2 a (.ins C dx (putF f y fs)))
section
variable {X : Cx} {o e value : Expr} {f : Str} {pos pos' tpos : Pos} {ta tv : TE}
theorem pe_fld (he : PE X e ta) (hb : attributeBase e f X.env (eval e X.env) = eval e X.env) : PE X (.Attribute e f pos) (tFld X.K ta f) := by
  intro pins s σ H Q I h
  refine attr_of hb (thn (he pins s σ H _ I h) fun u s1 ⟨x, H1, I1, rx, a, C, dx, fs, v, ex, ea, c, n, l, q⟩ => ?_)
  subst ex
  obtain rfl : u = Value.ref a := rx
  exact getattr_ok I1 ea c n l fun u' s2 I2 ru => ⟨v, H1, I2, ru, q⟩
theorem ps_fld (ha : PE X o ta) (hv : PE X value tv) (hs : swapsWith value (some (.Attribute o f pos')) pos.line X.env = pure false) : PS X (.Assign [.Attribute o f pos'] value pos) (sFld X.K ta tv f) := by
  intro pins s σ H D I h
  refine plainObj_wpAny_Assign_Attribute (thn (hv pins s σ H _ I h) fun u s1 ⟨y, H1, I1, ry, q⟩ => thn (ha pins s1 σ H1 _ I1 q) fun ov s2 ⟨x, H2, I2, rx, a, C, dx, fs, ex, ea, c, n, l, q2⟩ => ?_) hs
  subst ex
  obtain rfl : ov = Value.ref a := rx
  exact setattr_ok I2 ea c n l ry fun s3 I3 => ⟨σ, _, I3, q2⟩
theorem methcall_of {pl : Sem Bool} {m : Str} {apos : Pos} {args : List Expr} {pins : List (Addr × Obj)} {s : Shared} {σ : St} {H : Hp} {Q : Value → Shared → Prop} {te : TE} (he : PE X e te) (I : Inv X pins σ H s)
    (h : te σ H fun x H1 => ∃ a C dx fs g, x = .ref a ∧ H1 a = some (.ins C dx fs) ∧ Cls X.K C ∧ Meth X.K C m g ∧ fs.lookup m = none ∧
      ∀ s1, Inv X pins σ H1 s1 → wpAny (model X.prog X.w) X.A (callWith pos (.ref g) [.ref a] (backTo pos (starEach args X.env)) (backToKw pos (keywordEach [] X.env))) Q X.xe s1)
    (ht : eval (.Call (.Attribute e m apos) args [] pos) X.env = (do
      let ov ← eval e X.env
      standAt apos.atName
      let (f, first) ← holding [ov] (getMethod ov m pl)
      callWith pos f first (backTo pos (starEach args X.env)) (backToKw pos (keywordEach [] X.env)))) :
    wpAny (model X.prog X.w) X.A (eval (.Call (.Attribute e m apos) args [] pos) X.env) Q X.xe s := by
  refine PySem.W.methodCall_KW (pl := pl) (thn (he pins s σ H _ I h) fun u s1 ⟨x, H1, I1, rx, a, C, dx, fs, g, ex, ea, c, k, l, q⟩ => ?_) ht
  subst ex
  obtain rfl : u = Value.ref a := rx
  exact getmeth_ok I1 ea c k l (q s1 I1)
end

section
variable {X : Cx} {pins : List (Addr × Obj)} {σ : St} {H : Hp} {s : Shared} {A : Around} {E : Value → Shared → Prop} {Q : Value → Shared → Prop} {c : Value} {b : Bool}
inductive TyOf (K : PySem.W.Frag) (H : Hp) : V → Value → Prop where
  | non : TyOf K H .non (.type "NoneType")
  | bl (x : Bool) : TyOf K H (.bl x) (.type "bool")
  | int (i : Int) : TyOf K H (.int i) (.type "int")
  | str (x : Str) : TyOf K H (.str x) (.type "str")
  | flt (x : UInt64) : TyOf K H (.flt x) (.type "float")
  | lst {a : Addr} {xs : List V} (e : H a = some (.lst xs)) : TyOf K H (.ref a) (.type "list")
  | frz {a : Addr} {o : Obj} {xs : List V} (e : H a = some (.frz o (.lst xs))) : TyOf K H (.ref a) (.type "list")
  | tup {a : Addr} {xs : List V} (e : H a = some (.tup xs)) : TyOf K H (.ref a) (.type "tuple")
  | dK {a : Addr} {kvs : List (Key × V)} (e : H a = some (.dK kvs)) : TyOf K H (.ref a) (.type "dict")
  | dT {a : Addr} {kvs : List (List Key × V)} (e : H a = some (.dT kvs)) : TyOf K H (.ref a) (.type "dict")
  | ins {a C dx : Addr} {fs : List (Str × V)} (e : H a = some (.ins C dx fs)) (cl : Cls K C) (ha : PySem.W.findIn K (.ref C) "__class__" = some (some (.builtin "object.__class__")))
      (hn : PySem.W.specialIn K (.builtin "object.__class__") "__get__" = some (some (.builtin "getset_descriptor.__get__"))) (htk : PySem.W.takesIn K (.builtin "object.__class__") = some true)
      (hm : PySem.W.mroIn K C (.type "object") = some true) : TyOf K H (.ref a) (.ref C)
theorem isinst_ok {x : V} {u t : Value} (I : Inv X pins σ H s) (rx : RelV x u) (ty : TyOf X.K H x t) (e : PySem.W.kitOne X.K t c = some b) (h : ∀ tk, Q (.bool b) { s with toks := tk }) :
    wpAny (model X.prog X.w) A (call (.builtin "isinstance") [u, c]) Q E s := by
  cases ty with
  | non => cases (show u = Value.none from rx); exact PySem.W.kia_one PySem.W.kitx_none I.kIn True.intro e (fun z => nomatch z) h
  | bl y => cases (show u = Value.bool y from rx); exact PySem.W.kia_one PySem.W.kitx_bool I.kIn True.intro e (fun z => nomatch z) h
  | int i => obtain ⟨t, q⟩ := (show ∃ t, u = Value.int i t from rx); cases q; exact PySem.W.kia_one PySem.W.kitx_int I.kIn True.intro e (fun z => nomatch z) h
  | str y => obtain ⟨t, q⟩ := (show ∃ t, u = Value.str y t from rx); cases q; exact PySem.W.kia_one PySem.W.kitx_str I.kIn True.intro e (fun z => nomatch z) h
  | flt y => obtain ⟨t, q⟩ := (show ∃ t, u = Value.float y t from rx); cases q; exact PySem.W.kia_one PySem.W.kitx_float I.kIn True.intro e (fun z => nomatch z) h
  | @lst a xs ea =>
    cases (show u = Value.ref a from rx)
    obtain ⟨_, _, n, _, h1⟩ := (show ObjOk X.prog X.w H s.heap a (.lst xs) from I.hok a _ ea)
    exact PySem.W.kia_one PySem.W.kitx_list I.kIn ⟨_, h1, rfl⟩ e (fun z => nomatch z) h
  | @frz a ob xs ea =>
    cases (show u = Value.ref a from rx)
    obtain ⟨_, _, _, n, _, h1⟩ := (show ObjOk X.prog X.w H s.heap a (.frz ob (.lst xs)) from I.hok a _ ea)
    exact PySem.W.kia_one PySem.W.kitx_list I.kIn ⟨_, h1, rfl⟩ e (fun z => nomatch z) h
  | @tup a xs ea =>
    cases (show u = Value.ref a from rx)
    obtain ⟨_, _, _, p⟩ := (show ObjOk X.prog X.w H s.heap a (.tup xs) from I.hok a _ ea)
    obtain ⟨o, h1, h2, _⟩ := p
    exact PySem.W.kia_one PySem.W.kitx_tuple I.kIn ⟨o, h1, h2⟩ e (fun z => nomatch z) h
  | @dK a kvs ea =>
    cases (show u = Value.ref a from rx)
    obtain ⟨_, _, vs, _, p⟩ := (show ObjOk X.prog X.w H s.heap a (.dK kvs) from I.hok a _ ea)
    obtain ⟨o, es, ep, h1, h2, _⟩ := p
    exact PySem.W.kia_one PySem.W.kitx_dict I.kIn ⟨o, h1, h2.1⟩ e (fun z => nomatch z) h
  | @dT a kvs ea =>
    cases (show u = Value.ref a from rx)
    obtain ⟨_, _, xs, _, o, es, ep, h1, h2, _⟩ := (show ObjOk X.prog X.w H s.heap a (.dT kvs) from I.hok a _ ea)
    exact PySem.W.kia_one PySem.W.kitx_dict I.kIn ⟨o, h1, h2.1⟩ e (fun z => nomatch z) h
  | @ins a C dx fs ea cl ha hn htk hm =>
    cases (show u = Value.ref a from rx)
    obtain ⟨mA, O, _⟩ := ins_get I.hok ea
    obtain ⟨od, J, _⟩ := O.look
    exact PySem.W.kia_one (PySem.W.kitx_own (cl.get _) cl.hd ha hn htk hm) I.kIn J e (fun z => nomatch z) h
end
end L2

namespace L2
open PySem PySem.Spec PyProof.Rows

structure Room (k : Nat) (A : Around) : Prop where
  hd : A.handled = none
  dp : A.depth + 3 * k + 5 < recursionLimit
  un : A.units + 16 * k + 200 < cLine
theorem Room.mono {j k : Nat} {A : Around} (r : Room k A) (h : j ≤ k) : Room j A := ⟨r.hd, by have := r.dp; omega, by have := r.un; omega⟩
theorem Room.deeper {k : Nat} {A : Around} (r : Room (k + 1) A) (env : Env) : Room k (A.deeper env) :=
  ⟨r.hd, by have := r.dp; show A.depth + 1 + 3 * k + 5 < _; omega, by have := r.un; show A.units + 3 + 16 * k + 200 < _; omega⟩
theorem make_depth {A : Around} {C : Addr} {us : List Value} {kw : List (Str × Value)} : (A.under (.builtin "type.__call__" ⟨.ref C :: us, kw⟩)).depth = A.depth + 1 := by
  first | rfl | simp [Around.under, Code.weight, Code.isCreation, Code.isGuard, Code.isCaller, Code.frames, Code.isFrame, guardIds]
theorem make_units {A : Around} {C : Addr} {us : List Value} {kw : List (Str × Value)} : (A.under (.builtin "type.__call__" ⟨.ref C :: us, kw⟩)).units = A.units + 1 := by
  first | rfl | simp [Around.under, Code.cUnits, Code.frames, Code.isFrame]
theorem Room.make {k : Nat} {A : Around} (r : Room (k + 1) A) (C : Addr) (us : List Value) (kw : List (Str × Value)) : Room k (A.under (.builtin "type.__call__" ⟨.ref C :: us, kw⟩)) :=
  ⟨r.hd, by have := r.dp; rw [make_depth]; omega, by have := r.un; rw [make_units]; omega⟩
theorem Room.depth {k : Nat} {A : Around} (r : Room k A) : A.depth < recursionLimit := by have := r.dp; omega
theorem Room.units {k : Nat} {A : Around} (r : Room k A) : A.units + 64 < cLine := by have := r.un; omega
def tNil : TA := fun _ H Q => Q [] H
def tCons (ta : TE) (tr : TA) : TA := fun σ H Q => ta σ H fun x H1 => tr σ H1 fun xs H2 => Q (x :: xs) H2
section
variable {X : Cx} {e : Expr} {es : List Expr} {te : TE} {t : TA} {pos : Pos}
theorem pa_nil : PA X [] tNil := fun _ _ _ _ H Q I h => Calls.spliced_nil ⟨[], H, I, .nil, h⟩
theorem pa_cons (ha : PE X e te) (hr : PA X es t) (hs : starEach (e :: es) X.env = (false, eval e X.env) :: starEach es X.env := by rfl) : PA X (e :: es) (tCons te t) := by
  intro pos pins s σ H Q I h
  rw [hs]
  show wpAny _ _ (spliced ((false, eval e X.env) :: backTo pos (starEach es X.env))) _ _ s
  refine Calls.spliced_cons (thn (ha pins s σ H _ I h) fun u s1 ⟨x, H1, I1, r1, q1⟩ => ?_)
  exact thn (hr pos pins s1 σ H1 _ I1 q1) fun us s2 ⟨xs, H2, I2, r2, q2⟩ => ⟨x :: xs, H2, I2, .cons r1 r2, q2⟩

def tTup (t : TA) : TE := fun σ H Q => t σ H fun xs H1 => xs.length ≤ sizeLine ∧ ∀ p, H1 p = none → Q (.ref p) (upd H1 p (.tup xs))
def tLst (t : TA) : TE := fun σ H Q => t σ H fun xs H1 => xs.length ≤ sizeLine ∧ ∀ p, H1 p = none → Q (.ref p) (upd H1 p (.lst xs))
theorem pe_tup {x1} (h : PA X es t) : PE X (.Tuple es x1 pos) (tTup t) := by
  intro pins s σ H Q I hq
  refine wpAny_Tuple_spliced (thn (h pos pins s σ H _ I hq) fun us s1 ⟨xs, H1, I1, r, z, q⟩ => ⟨by rw [← r.length]; exact z, ?_⟩)
  have hf : H1 s1.heap.objs.size = none := I1.hok.fresh (Nat.le_refl _)
  refine ⟨.ref s1.heap.objs.size, upd H1 s1.heap.objs.size (.tup xs), I1.laid (t' := s1.toks) (fun b u e => Heap.get?_push_of_some _ e) (Nat.le_refl _) ?_, rfl, q _ hf⟩
  exact ⟨z, us, r, ⟨_, Heap.get?_push_size _ rfl, rfl, _, rfl⟩⟩
theorem pe_lst (h : PA X es t) : PE X (.List es pos) (tLst t) := by
  intro pins s σ H Q I hq
  refine wpAny_List_spliced (thn (h pos pins s σ H _ I hq) fun us s1 ⟨xs, H1, I1, r, z, q⟩ => ⟨by rw [← r.length]; exact z, ?_⟩)
  have hf : H1 s1.heap.objs.size = none := I1.hok.fresh (Nat.le_refl _)
  refine ⟨.ref s1.heap.objs.size, upd H1 s1.heap.objs.size (.lst xs), I1.laid (t' := s1.toks) (fun b u e => Heap.get?_push_of_some _ e) (Nat.le_refl _) ?_, rfl, q _ hf⟩
  exact ⟨z, us, 0, r, Heap.get?_push_size _ rfl⟩
end

abbrev Sp := List V → Hp → VK → XK → Prop
abbrev CXT := List Env → Hp → Shared → XK → Value → Shared → Prop

structure Env0 (P : Program) (w : World) (K : PySem.W.Frag) (mg : Str → Option Value) (base : Heap) (A : Around) (outer : List Env) (s : Shared) (H : Hp) : Prop where
  frames : A.frames = some outer
  mod : Mod K mg base
  bs : ∀ b o, base.get? b = some o → s.heap.get? b = some o ∧ H b = none
  bsz : base.objs.size ≤ s.heap.objs.size
  funs : s.heap.FunFrames base outer
  frf : ∀ b ∈ frs outer, H b = none
  hok : HOk P w H s.heap
  bare : AllBare s.gens
def CE (outer : List Env) (P : Program) (w : World) (H : Hp) (s : Shared) (Q : VK) (u : Value) (s' : Shared) : Prop :=
  ∃ v H', s'.os = s.os ∧ AllBare s'.gens ∧ Un (frs outer) [] H H' s.heap s'.heap ∧ HOk P w H' s'.heap ∧ RelV v u ∧ Q v H'
def CR (CX : CXT) (outer : List Env) (P : Program) (w : World) (H : Hp) (s : Shared) (Q : VK) (E : XK) (r : Result) (s' : Shared) : Prop :=
  match r with
  | .ok (.ret u) => CE outer P w H s Q u s'
  | .ok _ => False
  | .error e => CX outer H s E e s'
structure FnOk (P : Program) (w : World) (K : PySem.W.Frag) (mg : Str → Option Value) (base : Heap) (CX : CXT) (k : Nat) (f : Addr) (fd : FuncData) (ps : List Str) (sp : Sp) : Prop where
  len : ∀ vs H Q E, sp vs H Q E → vs.length = ps.length
  run : ∀ (A : Around) (outer : List Env) (s : Shared) (H : Hp) (args : Args) (us : List Value) (vs : List V) (Q : VK) (E : XK), Room k A → Env0 P w K mg base A outer s H → BindsTo s fd args (ps.zip us) → Vals vs us → sp vs H Q E →
    codeAny (model P w) A (.call (.ref f) args) (CR CX outer P w H s Q E) s
theorem FnOk.mono {P : Program} {w : World} {K : PySem.W.Frag} {mg : Str → Option Value} {base : Heap} {CX : CXT} {j k : Nat} {f : Addr} {fd : FuncData} {ps : List Str} {sp : Sp} (F : FnOk P w K mg base CX j f fd ps sp) (h : j ≤ k) :
    FnOk P w K mg base CX k f fd ps sp := ⟨F.len, fun A outer s H args us vs Q E hr => F.run A outer s H args us vs Q E (hr.mono h)⟩
theorem FnOk.imp {P : Program} {w : World} {K : PySem.W.Frag} {mg : Str → Option Value} {base : Heap} {CX : CXT} {k : Nat} {f : Addr} {fd : FuncData} {ps : List Str} {sp sp' : Sp} (F : FnOk P w K mg base CX k f fd ps sp)
    (h : ∀ vs H Q E, sp' vs H Q E → sp vs H Q E) : FnOk P w K mg base CX k f fd ps sp' :=
  ⟨fun vs H Q E q => F.len vs H Q E (h _ _ _ _ q), fun A outer s H args us vs Q E hr he hb hv hs => F.run A outer s H args us vs Q E hr he hb hv (h _ _ _ _ hs)⟩

theorem Env0.make {P : Program} {w : World} {K : PySem.W.Frag} {mg : Str → Option Value} {base : Heap} {A : Around} {outer : List Env} {s : Shared} {H : Hp} (e : Env0 P w K mg base A outer s H) (C : Addr) (us : List Value) (kw : List (Str × Value)) :
    Env0 P w K mg base (A.under (.builtin "type.__call__" ⟨.ref C :: us, kw⟩)) outer s H := ⟨by first | exact e.frames | (simpa [Around.under, Code.envs, Code.isFrame, pushEnvs] using e.frames), e.mod, e.bs, e.bsz, e.funs, e.frf, e.hok, e.bare⟩
section
variable {X : Cx} {pins : List (Addr × Obj)} {σ : St} {H : Hp} {s s' : Shared}
theorem Inv.env0 (I : Inv X pins σ H s) : Env0 X.prog X.w X.K X.mg X.base X.A X.stack s H :=
  ⟨I.ok.frames, I.ok.mod, I.bs, Nat.le_trans I.ok.bsz I.sz, I.stack, I.stkFree, I.hok, I.bare⟩
theorem Inv.after {Q : VK} {u : Value} (I : Inv X pins σ H s) (h : CE X.stack X.prog X.w H s Q u s') : EP X pins σ Q u s' := by
  obtain ⟨v, H', os, bare, un, hok, r, q⟩ := h
  obtain ⟨hh, g, d, t, os'⟩ := s'
  obtain rfl : os' = s.os := os
  exact ⟨v, H', I.call (h' := hh) (g' := g) (d' := d) (t' := t) (ch := []) un hok bare (fun b z => absurd z (by simp)), r, q⟩
end

def tCall (sp : Sp) (dvs : List V) (E : XK) (t : TA) : TE := fun σ H Q => t σ H fun vs H1 => sp (vs ++ dvs) H1 Q E
def tMeth (C : Addr) (m : Str) (sp : Sp) (dvs : List V) (E : XK) (ta : TE) (t : TA) : TE := fun σ H Q => ta σ H fun x H1 => ∃ a dx fs, x = .ref a ∧ H1 a = some (.ins C dx fs) ∧ fs.lookup m = none ∧
  t σ H1 fun vs H2 => sp (x :: (vs ++ dvs)) H2 Q E
def tMake (C : Addr) (sp : Sp) (dvs : List V) (E : XK) (t : TA) : TE := fun σ H Q => t σ H fun vs H1 => ∀ x dx, H1 x = none → H1 dx = none → dx ≠ x →
  sp (.ref x :: (vs ++ dvs)) (upd (upd H1 dx (.own x)) x (.ins C dx [])) (fun v H2 => v = .non ∧ Q (.ref x) H2) E

def Binds (K : PySem.W.Frag) (fd : FuncData) (ps : List Str) (ds : List Value) : Prop :=
  ∀ (s : Shared) (us : List Value), K.In s.heap → (us ++ ds).length = ps.length → BindsTo s fd ⟨us, []⟩ (ps.zip (us ++ ds))
theorem Binds.all {K : PySem.W.Frag} {fd : FuncData} {ps : List Str} (h : ∀ us : List Value, us.length = ps.length → bindArgs fd ⟨us, []⟩ = pure (ps.zip us)) : Binds K fd ps [] := fun s us _ hl => by
  rw [List.append_nil] at hl ⊢
  exact .of_eq (h us hl)

def Passes (CX : CXT) (X : Cx) (E : XK) : Prop := ∀ (pins : List (Addr × Obj)) (σ : St) (H : Hp) (s : Shared) (e : Value) (s' : Shared), Inv X pins σ H s → CX X.stack H s E e s' → X.xe e s'

section
variable {X : Cx} {CX : CXT} {k : Nat} {f C : Addr} {fd : FuncData} {ps : List Str} {sp : Sp} {dvs : List V} {ds : List Value} {E : XK} {x m : Str} {p pos apos : Pos} {e o : Expr} {es : List Expr} {ta : TE} {t : TA}

theorem run_fn {pins : List (Addr × Obj)} {σ : St} {H : Hp} {s : Shared} {Q : VK} {us : List Value} {vs : List V} (F : FnOk X.prog X.w X.K X.mg X.base CX k f fd ps sp) (hr : Room k X.A) (hb : Binds X.K fd ps ds) (hd : Vals dvs ds) (hx : Passes CX X E)
    (I : Inv X pins σ H s) (r : Vals vs us) (h : sp (vs ++ dvs) H Q E) : wpAny (model X.prog X.w) X.A (call (.ref f) us) (EP X pins σ Q) X.xe s := by
  have r2 : Vals (vs ++ dvs) (us ++ ds) := r.append hd
  have hl : (us ++ ds).length = ps.length := by rw [← r2.length]; exact F.len _ _ _ _ h
  refine wpAny_call (codeAny_mono (F.run X.A X.stack s H ⟨us, []⟩ (us ++ ds) (vs ++ dvs) Q E hr I.env0 (hb s us I.kIn hl) r2 h) fun r s' hq => ?_)
  cases r with
  | error e => exact hx pins σ H s e s' I hq
  | ok fl =>
    cases fl with
    | ret u => exact I.after hq
    | next => exact False.elim hq
    | brk => exact False.elim hq
    | cont => exact False.elim hq

theorem pe_call (F : FnOk X.prog X.w X.K X.mg X.base CX k f fd ps sp) (hr : Room k X.A) (hg : Gl X x) (hm : X.mg x = some (.ref f)) (hk : PySem.W.keepIn X.K (.ref f) = true) (hb : Binds X.K fd ps ds) (hd : Vals dvs ds) (hx : Passes CX X E)
    (ha : PA X (e :: es) t) (hdb : (x == ("__debug__" : Str)) = false := by decide) (he : starEach (e :: es) X.env = (false, eval e X.env) :: starEach es X.env := by rfl) (hpl : (backTo pos (starEach es X.env)).any (·.1) = false := by rfl) :
    PE X (.Call (.Name x p) (e :: es) [] pos) (tCall sp dvs E t) := by
  intro pins s σ H Q I h
  refine wpAny_Call_Name_kw (ld_glob I hg hm ?_ hdb)
  refine PySem.W.callWith_K (h₀ := X.base) I.ok.mod.kin hk (thn (ha pos pins s σ H _ I h) fun us s1 ⟨vs, H1, I1, r, q⟩ => ⟨I1.kIn, ?_⟩) he hpl
  exact run_fn F hr hb hd hx I1 r q
theorem pe_meth {pl : Sem Bool} (he : PE X o ta) (c : Cls X.K C) (hm : Meth X.K C m f) (F : FnOk X.prog X.w X.K X.mg X.base CX k f fd ps sp) (hr : Room k X.A) (hb : Binds X.K fd ps ds) (hd : Vals dvs ds) (hx : Passes CX X E) (ha : PA X (e :: es) t)
    (hst : starEach (e :: es) X.env = (false, eval e X.env) :: starEach es X.env := by rfl) (hpl : (backTo pos (starEach es X.env)).any (·.1) = false := by rfl)
    (ht : eval (.Call (.Attribute o m apos) (e :: es) [] pos) X.env = (do
      let ov ← eval o X.env
      standAt apos.atName
      let (f, first) ← holding [ov] (getMethod ov m pl)
      callWith pos f first (backTo pos (starEach (e :: es) X.env)) (backToKw pos (keywordEach [] X.env))) := by rfl) :
    PE X (.Call (.Attribute o m apos) (e :: es) [] pos) (tMeth C m sp dvs E ta t) := by
  intro pins s σ H Q I h
  refine PySem.W.methodCall_KW (pl := pl) (thn (he pins s σ H _ I h) fun u s1 ⟨x, H1, I1, rx, a, dx, fs, ex, ea, l, q⟩ => ?_) ht
  subst ex
  obtain rfl : u = Value.ref a := rx
  refine getmeth_ok I1 ea c hm l ?_
  refine PySem.W.callWith_K (first := [.ref a]) (h₀ := X.base) I.ok.mod.kin hm.kp (thn (ha pos pins s1 σ H1 _ I1 q) fun us s2 ⟨vs, H2, I2, r, q2⟩ => ⟨I2.kIn, ?_⟩) hst hpl
  exact run_fn (us := .ref a :: us) (vs := .ref a :: vs) F hr hb hd hx I2 (.cons rfl r) q2
theorem pe_meth0 {pl : Sem Bool} (he : PE X o ta) (c : Cls X.K C) (hm : Meth X.K C m f) (F : FnOk X.prog X.w X.K X.mg X.base CX k f fd ps sp) (hr : Room k X.A) (hb : Binds X.K fd ps ds) (hd : Vals dvs ds) (hx : Passes CX X E)
    (ht : eval (.Call (.Attribute o m apos) [] [] pos) X.env = (do
      let ov ← eval o X.env
      standAt apos.atName
      let (f, first) ← holding [ov] (getMethod ov m pl)
      callWith pos f first (backTo pos (starEach [] X.env)) (backToKw pos (keywordEach [] X.env))) := by rfl) :
    PE X (.Call (.Attribute o m apos) [] [] pos) (tMeth C m sp dvs E ta tNil) := by
  intro pins s σ H Q I h
  refine PySem.W.methodCall_KW (pl := pl) (thn (he pins s σ H _ I h) fun u s1 ⟨x, H1, I1, rx, a, dx, fs, ex, ea, l, q⟩ => ?_) ht
  subst ex
  obtain rfl : u = Value.ref a := rx
  refine getmeth_ok I1 ea c hm l ?_
  exact PySem.W.callWith_K0 (first := [.ref a]) I1.kIn hm.kp (run_fn (us := [.ref a]) (vs := [.ref a]) F hr hb hd hx I1 (.cons rfl .nil) q)

structure Mk (K : PySem.W.Frag) (C f : Addr) : Prop where
  makes : PySem.W.makesIn K C = true
  init : PySem.W.findIn K (.ref C) "__init__" = some (some (.ref f))
  fn : PySem.W.isFn K (.ref f) = true
  kp : PySem.W.keepIn K (.ref C) = true

theorem run_make {pins : List (Addr × Obj)} {σ : St} {H : Hp} {s : Shared} {Q : VK} {us : List Value} {vs : List V} (M : Mk X.K C f) (F : FnOk X.prog X.w X.K X.mg X.base CX k f fd ps sp) (hr : Room (k + 1) X.A) (hb : Binds X.K fd ps ds) (hd : Vals dvs ds)
    (hx : Passes CX X E) (I : Inv X pins σ H s) (r : Vals vs us)
    (h : ∀ x dx, H x = none → H dx = none → dx ≠ x → sp (.ref x :: (vs ++ dvs)) (upd (upd H dx (.own x)) x (.ins C dx [])) (fun v H2 => v = .non ∧ Q (.ref x) H2) E) :
    wpAny (model X.prog X.w) X.A (call (.ref C) us) (EP X pins σ Q) X.xe s := by
  have hq := h (s.heap.objs.size + 1) s.heap.objs.size (I.hok.fresh (Nat.le_succ _)) (I.hok.fresh (Nat.le_refl _)) (Nat.ne_of_lt (Nat.lt_succ_self _))
  have I2 := Inv.made (C := C) I
  have r2 : Vals (V.ref (s.heap.objs.size + 1) :: (vs ++ dvs)) (Value.ref (s.heap.objs.size + 1) :: (us ++ ds)) := .cons rfl (r.append hd)
  have hl : (Value.ref (s.heap.objs.size + 1) :: us ++ ds).length = ps.length := by
    have e := r2.length
    rw [F.len _ _ _ _ hq] at e
    exact e.symm
  refine wpAny_call (make_map (f := f) I.kIn M.makes M.init (beq_iff_eq.mp M.fn) (codeAny_mono (F.run _ X.stack _ _ ⟨Value.ref (s.heap.objs.size + 1) :: us, []⟩ (Value.ref (s.heap.objs.size + 1) :: (us ++ ds)) _ _ E (hr.make C us [])
    (I2.env0.make C us []) (hb _ (Value.ref (s.heap.objs.size + 1) :: us) I2.kIn hl) r2 hq) fun r s' hq' => ?_))
  cases r with
  | error e => exact hx pins σ _ _ e s' I2 hq'
  | ok fl =>
    cases fl with
    | ret u =>
      obtain ⟨v, H', I3, rv, ev, q3⟩ := I2.after hq'
      subst ev
      exact ⟨rv, ⟨V.ref (s.heap.objs.size + 1), H', I3, rfl, q3⟩⟩
    | next => exact False.elim hq'
    | brk => exact False.elim hq'
    | cont => exact False.elim hq'
theorem pe_make (M : Mk X.K C f) (F : FnOk X.prog X.w X.K X.mg X.base CX k f fd ps sp) (hr : Room (k + 1) X.A) (hg : Gl X x) (hm : X.mg x = some (.ref C)) (hb : Binds X.K fd ps ds) (hd : Vals dvs ds) (hx : Passes CX X E)
    (ha : PA X (e :: es) t) (hdb : (x == ("__debug__" : Str)) = false := by decide) (he : starEach (e :: es) X.env = (false, eval e X.env) :: starEach es X.env := by rfl) (hpl : (backTo pos (starEach es X.env)).any (·.1) = false := by rfl) :
    PE X (.Call (.Name x p) (e :: es) [] pos) (tMake C sp dvs E t) := by
  intro pins s σ H Q I h
  refine wpAny_Call_Name_kw (ld_glob I hg hm ?_ hdb)
  refine PySem.W.callWith_K (h₀ := X.base) I.ok.mod.kin M.kp (thn (ha pos pins s σ H _ I h) fun us s1 ⟨vs, H1, I1, r, q⟩ => ⟨I1.kIn, ?_⟩) he hpl
  exact run_make M F hr hb hd hx I1 r q
end

structure FnScope (N P : List Str) (sc : Scope) : Prop where
  kind : sc.kind = .function
  co : sc.isCoroutine = false
  gen : sc.isGenerator = false
  nd : N.Nodup
  pre : N.take P.length = P
  par : ∀ x ∈ P, sc.names.lookup x = some .local ∨ sc.names.lookup x = some .cell
  nofree : ∀ y ∈ sc.names, y.2 ≠ .free

theorem bindL_out {kindOf : Str → Option NameKind} {x : Str} : ∀ {binds : List (Str × Value)} {m : Str → Option Value}, (∀ v, (x, v) ∉ binds) → bindL kindOf binds m x = m x
  | [], _, _ => rfl
  | (n, v) :: r, m, h => by
    unfold bindL
    rw [bindL_out fun w hw => h w (List.mem_cons_of_mem _ hw)]
    split
    · have : x ≠ n := by rintro rfl; exact h v List.mem_cons_self
      simp [this]
    · rfl
theorem bindC_out {kindOf : Str → Option NameKind} {x : Str} : ∀ {binds : List (Str × Value)} {m : Str → Option Value}, (∀ v, (x, v) ∉ binds) → bindC kindOf binds m x = m x
  | [], _, _ => rfl
  | (n, v) :: r, m, h => by
    unfold bindC
    rw [bindC_out fun w hw => h w (List.mem_cons_of_mem _ hw)]
    split
    · rfl
    · have : x ≠ n := by rintro rfl; exact h v List.mem_cons_self
      simp [this]
theorem bindL_get {kindOf : Str → Option NameKind} {x : Str} {v : Value} : ∀ {P : List Str} {vs : List Value} {i : Nat} {m : Str → Option Value}, P.Nodup → P[i]? = some x → vs[i]? = some v → kindOf x = some .local →
    bindL kindOf (P.zip vs) m x = some v
  | [], _, _, _, _, h, _, _ => by simp at h
  | _ :: _, [], _, _, _, _, h, _ => by simp at h
  | p :: P, w :: vs, 0, m, nd, h1, h2, hk => by
    simp at h1 h2; subst h1; subst h2
    show bindL kindOf ((p, w) :: P.zip vs) m p = _
    unfold bindL
    rw [bindL_out fun v hv => (List.nodup_cons.mp nd).1 (List.of_mem_zip hv).1, if_pos hk]
    simp
  | p :: P, w :: vs, i + 1, m, nd, h1, h2, hk => by
    show bindL kindOf ((p, w) :: P.zip vs) m x = _
    unfold bindL
    exact bindL_get (i := i) (List.nodup_cons.mp nd).2 (by simpa using h1) (by simpa using h2) hk
theorem bindC_get {kindOf : Str → Option NameKind} {x : Str} {v : Value} : ∀ {P : List Str} {vs : List Value} {i : Nat} {m : Str → Option Value}, P.Nodup → P[i]? = some x → vs[i]? = some v → kindOf x ≠ some .local →
    bindC kindOf (P.zip vs) m x = some v
  | [], _, _, _, _, h, _, _ => by simp at h
  | _ :: _, [], _, _, _, _, h, _ => by simp at h
  | p :: P, w :: vs, 0, m, nd, h1, h2, hk => by
    simp at h1 h2; subst h1; subst h2
    show bindC kindOf ((p, w) :: P.zip vs) m p = _
    unfold bindC
    rw [bindC_out fun v hv => (List.nodup_cons.mp nd).1 (List.of_mem_zip hv).1, if_neg hk]
    simp
  | p :: P, w :: vs, i + 1, m, nd, h1, h2, hk => by
    show bindC kindOf ((p, w) :: P.zip vs) m x = _
    unfold bindC
    exact bindC_get (i := i) (List.nodup_cons.mp nd).2 (by simpa using h1) (by simpa using h2) hk

def start (N : List Str) (vs : List V) : St := vs.map some ++ List.replicate (N.length - vs.length) none

def cxOf (CX : CXT) (P : Program) (w : World) (K : PySem.W.Frag) (mg : Str → Option Value) (base : Heap) (N : List Str) (qual : Str) (scope : Scope) (f : Addr) (cd : Value) (A : Around) (outer : List Env) (s : Shared) (H : Hp) (E : XK) : Cx where
  prog := P
  w := w
  K := K
  mg := mg
  base := base
  A := A.deeper (envOfC qual scope s.heap.objs.size f cd)
  N := N
  s₀ := s
  H₀ := H
  env := envOfC qual scope s.heap.objs.size f cd
  outer := outer
  stack := envOfC qual scope s.heap.objs.size f cd :: outer
  ex := []
  calm := true
  fn := fun _ => true
  pn := []
  xe := fun e s' => wpAny (model P w) (A.deeper (envOfC qual scope s.heap.objs.size f cd)) (leaving (envOfC qual scope s.heap.objs.size f cd) e) (fun _ s'' => CX outer H s E e s'') (fun e' s'' => CX outer H s E e' s'') s'

theorem cell_has {sc : Scope} {n : Nat} {x : Str} (h : sc.names.lookup x = some .cell) : ∃ c, (cellsFrom n sc.names []).lookup x = some c := by
  have q := PySem.W.cellsFrom_some sc.names n [] (.inl h)
  exact Option.isSome_iff_exists.mp q

theorem inv_start {CX : CXT} {P : Program} {w : World} {K : PySem.W.Frag} {mg : Str → Option Value} {base : Heap} {N ps : List Str} {qual : Str} {scope : Scope} {f : Addr} {cd : Value} {A : Around} {outer : List Env} {s s1 : Shared} {H : Hp} {E : XK} {us : List Value} {vs : List V}
    (S : FnScope N ps scope) (hd : A.handled = none) (e0 : Env0 P w K mg base A outer s H) (hl : vs.length = ps.length) (r : Vals vs us)
    (x : InCallC s s.heap.objs.size (bindL (envOfC qual scope s.heap.objs.size f cd).kindOf (ps.zip us) fun _ => none) (cellsFrom (s.heap.objs.size + 1) scope.names []) (bindC (envOfC qual scope s.heap.objs.size f cd).kindOf (ps.zip us) fun _ => none) s1) :
    Inv (cxOf CX P w K mg base N qual scope f cd A outer s H E) [] (start N vs) H s1 := by
  have hpl : ps.length ≤ N.length := by have := congrArg List.length S.pre; rw [List.length_take] at this; omega
  obtain ⟨h1, tk, rfl, hk⟩ := x.done
  have noA : ∀ b : Addr, b ∉ (cxOf CX P w K mg base N qual scope f cd A outer s H E).ex := fun b z => absurd (show b ∈ ([] : List Addr) from z) (by simp)
  refine ⟨⟨e0.mod, S.kind, rfl, rfl, Nat.le_refl _, fun y z c h1 h2 => ?_, fun y hy => ?_, fun y c _ h => ?_, fun _ => hd, Around.frames_deeper e0.frames, .inr ⟨rfl, rfl⟩, fun b z => absurd z (noA b), e0.bs, e0.bsz, fun b _ _ => noA b, fun b z => absurd z (noA b), e0.funs, e0.frf⟩,
    rfl, e0.bare, Un.kept hk, ⟨_, x.toInCall.ns, fun i y v h1 h2 h3 => ?_⟩, fun y c h => ⟨_, x.cell y c h⟩, e0.hok.fresh (Nat.le_refl _), fun y c h => ?_, fun p hp => absurd (show p ∈ ([] : List (Addr × Obj)) from hp) (by simp), e0.hok.kept hk, ?_⟩
  · exact name_of_addr x.apart (PySem.mem_of_lookup h1) (PySem.mem_of_lookup h2)
  · have hy : scope.names.lookup y = some .cell ∨ scope.names.lookup y = some .free := hy
    rcases hy with hy | hy
    · exact cell_has hy
    · exact absurd rfl (S.nofree _ (PySem.mem_of_lookup hy))
  · exact Nat.le_of_lt (x.above y c (PySem.mem_of_lookup h))
  · have hi : i < vs.length := by
      unfold start at h2
      by_cases hi : i < vs.length
      · exact hi
      · rw [List.getElem?_append_right (by simpa using hi)] at h2
        rw [List.getElem?_replicate] at h2
        split at h2 <;> cases h2
    have ha : vs[i]? = some v := by
      unfold start at h2
      rw [List.getElem?_append_left (by simpa using hi), List.getElem?_map] at h2
      cases e : vs[i]? with
      | none => rw [e] at h2; cases h2
      | some a => rw [e] at h2; cases h2; rfl
    obtain ⟨u, hu, rv⟩ := r.get ha
    have hp : ps[i]? = some y := by
      rw [← S.pre, List.getElem?_take_of_lt (by omega)]; exact h1
    have ndP : ps.Nodup := by rw [← S.pre]; exact S.nd.sublist (List.take_sublist _ _)
    refine ⟨u, rv, ?_⟩
    rcases S.par y (List.mem_of_getElem? hp) with k | k
    · exact .inl ⟨k, bindL_get ndP hp hu k⟩
    · obtain ⟨c, e⟩ := cell_has (n := s.heap.objs.size + 1) k
      refine .inr ⟨.inl k, c, e, ?_⟩
      have q := x.cell y c e
      rw [bindC_get ndP hp hu (by show scope.names.lookup y ≠ _; rw [k]; decide)] at q
      exact q
  · exact e0.hok.fresh (Nat.le_of_lt (x.above y c (PySem.mem_of_lookup h)))
  · unfold start
    show _ = N.length
    rw [List.length_append, List.length_map, List.length_replicate]
    omega

theorem fn_of {CX : CXT} {P : Program} {w : World} {K : PySem.W.Frag} {mg : Str → Option Value} {base : Heap} {k : Nat} {f : Addr} {name qual : Str} {params : Arguments} {body : List Stmt} {scope : Scope} {dV kV doc pm cdv ct oc : Value} {an od : Option Addr}
    {osl : Array (Option Value)} {N ps : List Str} {sp : Sp} (lk : K.lookup f = some ⟨oc, od, .func (PySem.W.fnOf name qual params body scope dV kV doc pm an cdv ct), osl⟩) (hcd : PySem.W.codeIn K cdv qual = true) (S : FnScope N ps scope)
    (len : ∀ vs H Q E, sp vs H Q E → vs.length = ps.length)
    (hbody : ∀ (A : Around) (outer : List Env) (s : Shared) (H : Hp) (vs : List V) (Q : VK) (E : XK), Room k (A.deeper (envOfC qual scope s.heap.objs.size f cdv)) → sp vs H Q E →
      ∃ t, PSs (cxOf CX P w K mg base N qual scope f cdv A outer s H E) body t ∧ t { nx := fun _ H' => Q .non H', rt := Q } (start N vs) H) :
    FnOk P w K mg base CX (k + 1) f (PySem.W.fnOf name qual params body scope dV kV doc pm an cdv ct) ps sp := by
  refine ⟨len, fun A outer s H args us vs Q E hr e0 hb r hsp => ?_⟩
  have hl := len _ _ _ _ hsp
  have KX : K.In s.heap := e0.mod.kin.keeps fun b o e => (e0.bs b o e).1
  have lim : s.heap.NoLimit := e0.mod.nolimit.keeps fun b o e => (e0.bs b o e).1
  have hkind : ∀ y ∈ ps.zip us, scope.names.lookup y.1 = some .local ∨ (scope.names.lookup y.1 = some .cell ∧ ((cellsFrom (s.heap.objs.size + 1) scope.names []).lookup y.1).isSome = true) := fun ⟨n, v⟩ hy => by
    rcases S.par n (List.of_mem_zip hy).1 with q | q
    · exact .inl q
    · exact .inr ⟨q, PySem.W.cellsFrom_some _ _ _ (.inl q)⟩
  refine codeAny_call_function hr.depth (KX _ _ lk) rfl S.co S.gen rfl (PySem.W.codeRec_of KX hcd) (hb _ _ _ _ ?_)
  refine wpAny_newFunctionEnv_cells S.kind hkind fun env he s1 x => ?_
  subst he
  refine ⟨lim.keeps x.toInCall.keep, codeAny_func ?_⟩
  obtain ⟨t, ht, hq⟩ := hbody A outer s H vs Q E (hr.deeper _) hsp
  have I : Inv (cxOf CX P w K mg base N qual scope f cdv A outer s H E) [] (start N vs) H s1 := inv_start S hr.hd e0 hl r x
  refine wpAny_mono (ht [] s1 (start N vs) H _ I hq) (fun fl s' hs => ?_) fun e s' hs => hs
  have fin : ∀ {σ' : St} {H' : Hp} {v : V} {u : Value}, Inv (cxOf CX P w K mg base N qual scope f cdv A outer s H E) [] σ' H' s' → RelV v u → Q v H' → CE outer P w H s Q u s' :=
    fun {σ' H' v u} J rv q => ⟨v, H', J.os, J.bare, J.base, J.hok, rv, q⟩
  cases fl with
  | ret u =>
    obtain ⟨v, σ', H', J, rv, q⟩ := hs
    exact fin J rv q
  | next =>
    obtain ⟨σ', H', J, q⟩ := hs
    exact fin (v := V.non) (u := Value.none) J rfl q
  | brk =>
    obtain ⟨_, _, _, q⟩ := hs
    exact False.elim q
  | cont =>
    obtain ⟨_, _, _, q⟩ := hs
    exact False.elim q
end L2

namespace L2
open PySem PySem.Spec PyProof.Rows
section
variable {X : Cx} {x : Str} {p pos : Pos} {e : Expr} {es : List Expr} {t : TA} {id T : String} {r : List V → Hp → VK → Prop}

def tCB (r : List V → Hp → VK → Prop) (t : TA) : TE := fun σ H Q => t σ H fun vs H1 => r vs H1 Q
theorem pe_callB (hc : CallR X (.builtin id) r) (hg : Gl X x) (hm : X.mg x = none) (hv : bootBuiltins x = some (.builtin id)) (ha : PA X (e :: es) t) (hn : x ≠ "__name__" := by decide) (hdb : (x == ("__debug__" : Str)) = false := by decide)
    (he : starEach (e :: es) X.env = (false, eval e X.env) :: starEach es X.env := by rfl) (hpl : (backTo pos (starEach es X.env)).any (·.1) = false := by rfl) : PE X (.Call (.Name x p) (e :: es) [] pos) (tCB r t) := by
  intro pins s σ H Q I h
  refine wpAny_Call_Name_kw (ld_blt I hg hm hv ?_ hn hdb)
  exact PyProof.Rows.callWith_builtin1 (thn (ha pos pins s σ H _ I h) fun us s1 ⟨vs, H1, I1, r1, q1⟩ => hc pins s1 σ H1 vs us Q I1 r1 q1) he hpl
theorem pe_callTy (hc : CallR X (.type T) r) (hg : Gl X x) (hm : X.mg x = none) (hv : bootBuiltins x = some (.type T)) (ha : PA X (e :: es) t) (hn : x ≠ "__name__" := by decide) (hdb : (x == ("__debug__" : Str)) = false := by decide)
    (he : starEach (e :: es) X.env = (false, eval e X.env) :: starEach es X.env := by rfl) (hpl : (backTo pos (starEach es X.env)).any (·.1) = false := by rfl) : PE X (.Call (.Name x p) (e :: es) [] pos) (tCB r t) := by
  intro pins s σ H Q I h
  refine wpAny_Call_Name_kw (ld_blt I hg hm hv ?_ hn hdb)
  exact PyProof.Rows.callWith_type1 (thn (ha pos pins s σ H _ I h) fun us s1 ⟨vs, H1, I1, r1, q1⟩ => hc pins s1 σ H1 vs us Q I1 r1 q1) he hpl
end
end L2

namespace HT
open PySem PyProof.Rows

section
open PySem.SeqAt
open PySem.AutoSeq1 (wpAny_loadPart')
open PySem.MeetsSeq PySem.MeetsSeq2 PySem.MeetsSeq3

end

section
variable {prog : Program} {w : World} {A : Around} {E : Value → Shared → Prop} {s : Shared}

def sIx (n d : Nat) : Option Int → Nat
  | none => d
  | some v => if v < 0 then (v + (n : Int)).toNat else min v.toNat n
end
end HT

namespace L2
open PySem PySem.Spec PyProof.Rows

abbrev TO := St → Hp → (Option Int → Hp → Prop) → Prop
def PO (X : Cx) (e : Option Expr) (t : TO) : Prop :=
  ∀ (pins : List (Addr × Obj)) (s : Shared) (σ : St) (H : Hp) (Q : Option Int → Hp → Prop), Inv X pins σ H s → t σ H Q →
    wpAny (model X.prog X.w) X.A (evalPart e X.env) (fun u s' => ∃ o H', Inv X pins σ H' s' ∧ IsPart u o ∧ Q o H') X.xe s
def tNoPart : TO := fun _ H Q => Q none H
def tPart (t : TE) : TO := fun σ H Q => t σ H fun x H1 => ∃ i, x = .int i ∧ Q (some i) H1

theorem intsAre_of {ns : List Int} : ∀ {us : List Value}, Vals (ns.map V.int) us → IntsAre us ns := by
  induction ns with
  | nil => intro us r; rw [List.map_nil] at r; cases r; exact .nil
  | cons n ns ih =>
    intro us r
    rw [List.map_cons] at r
    cases r with
    | cons r1 r2 =>
      obtain ⟨t, e⟩ := r1
      subst e
      exact .cons n t (ih r2)

section
variable {X : Cx} {e : Expr} {te : TE} {lo hi : Option Expr} {tl th : TO} {pos p2 : Pos}

theorem po_none : PO X none tNoPart := by
  intro pins s σ H Q I h
  rw [evalPart_none]
  exact wpAny_pure ⟨none, H, I, .none, h⟩
theorem po_some (h : PE X e te) : PO X (some e) (tPart te) := by
  intro pins s σ H Q I hw
  rw [evalPart_some]
  refine thn (h pins s σ H _ I hw) fun u s1 ⟨x, H1, I1, r1, q1⟩ => ?_
  obtain ⟨i, rfl, q⟩ := q1
  obtain ⟨t, rfl⟩ := r1
  exact ⟨some i, H1, I1, .int i t, q⟩

def SlR (X : Cx) (r : V → Option Int → Option Int → Hp → VK → Prop) : Prop :=
  ∀ (pins : List (Addr × Obj)) (s : Shared) (σ : St) (H : Hp) (x : V) (v vl vu : Value) (lo hi : Option Int) (sl : Addr) (Q : VK), Inv X pins σ H s → RelV x v → s.heap.IsSliceOf sl vl vu .none → IsPart vl lo → IsPart vu hi → r x lo hi H Q →
    ∃ T id, typeLookup (.type T) "__getitem__" = pure (some (.builtin id)) ∧ s.TypeIs v T ∧ wpAny (model X.prog X.w) X.A (getItem v (.ref sl)) (EP X pins σ Q) X.xe s
theorem SlR.or {r r' : V → Option Int → Option Int → Hp → VK → Prop} (h : SlR X r) (h' : SlR X r') : SlR X (fun x lo hi H Q => r x lo hi H Q ∨ r' x lo hi H Q) := by
  intro pins s σ H x v vl vu lo hi sl Q I rx hs pl pu q
  rcases q with q | q
  · exact h pins s σ H x v vl vu lo hi sl Q I rx hs pl pu q
  · exact h' pins s σ H x v vl vu lo hi sl Q I rx hs pl pu q
def tSl (r : V → Option Int → Option Int → Hp → VK → Prop) (te : TE) (tl th : TO) : TE := fun σ H Q => te σ H fun x H1 => tl σ H1 fun l H2 => th σ H2 fun u H3 => r x l u H3 Q
theorem pe_slice {r : V → Option Int → Option Int → Hp → VK → Prop} (hr : SlR X r) (he : PE X e te) (hl : PO X lo tl) (hu : PO X hi th) : PE X (.Subscript e (.Slice lo hi none p2) pos) (tSl r te tl th) := by
  intro pins s σ H Q I h
  refine Subscript_ (thn (he pins s σ H _ I h) fun v s1 ⟨x, H1, I1, r1, q1⟩ => ?_)
  refine wpAny_Slice (thn (hl pins s1 σ H1 _ I1 q1) fun vl s2 ⟨l, H2, I2, pl, q2⟩ => thn (hu pins s2 σ H2 _ I2 q2) fun vu s3 ⟨u, H3, I3, pu, q3⟩ => ?_)
  rw [evalPart_none]
  refine wpAny_pure ?_
  have I4 : Inv X pins σ H3 { s3 with heap := s3.heap.push { cls := .type "slice", data := .fields #[vl, vu, .none] } } := I3.kept (t' := s3.toks) fun b ob q => Heap.get?_push_of_some _ q
  obtain ⟨T, id, hT, ht, hg⟩ := hr pins { s3 with heap := s3.heap.push { cls := .type "slice", data := .fields #[vl, vu, .none] } } σ H3 x v vl vu l u s3.heap.objs.size Q I4 r1 (Heap.IsSliceOf.new ..) pl pu q3
  show wpAny (model X.prog X.w) X.A (subscriptTail e (.Slice lo hi none p2) v (.ref s3.heap.objs.size)) (EP X pins σ Q) X.xe { s3 with heap := s3.heap.push { cls := .type "slice", data := .fields #[vl, vu, .none] } }
  exact tail_any (ops := [.ref s3.heap.objs.size, v]) ht hT hg (by with_unfolding_all rfl)

def cutV (xs : List V) (lo hi : Option Int) : List V := (xs.drop (HT.sIx xs.length 0 lo)).take (HT.sIx xs.length xs.length hi - HT.sIx xs.length 0 lo)
theorem cutV_length (xs : List V) (lo hi : Option Int) : (cutV xs lo hi).length ≤ xs.length := by
  unfold cutV
  rw [List.length_take, List.length_drop]
  omega
end
end L2

namespace L2
open PySem PySem.Spec PyProof.Rows

def ixN (n : Nat) (i : Int) : Option Nat := if 0 ≤ i then (if i < n then some i.toNat else none) else if -(n : Int) ≤ i then some (i + n).toNat else none
def atI {α : Type} (xs : List α) (i : Int) : Option α := (ixN xs.length i).bind fun j => xs[j]?
theorem ixN_seq {n : Nat} {i : Int} {j : Nat} (h : ixN n i = some j) : seqIndex? i n = some j ∧ j < n ∧ -(n : Int) ≤ i ∧ i < n := by
  unfold ixN at h
  by_cases h0 : 0 ≤ i
  · rw [if_pos h0] at h
    by_cases h1 : i < n
    · rw [if_pos h1] at h
      have e : i.toNat = j := Option.some.inj h
      exact ⟨by rw [seqIndex_of h0 h1, e], by omega, by omega, h1⟩
    · rw [if_neg h1] at h; cases h
  · rw [if_neg h0] at h
    by_cases h1 : -(n : Int) ≤ i
    · rw [if_pos h1] at h
      have e : (i + n).toNat = j := Option.some.inj h
      exact ⟨by rw [seqIndex_neg (by omega) h1, e], by omega, h1, by omega⟩
    · rw [if_neg h1] at h; cases h
theorem atI_get {α : Type} {xs : List α} {i : Int} {v : α} (h : atI xs i = some v) : ∃ j, seqIndex? i xs.length = some j ∧ xs[j]? = some v ∧ j < xs.length ∧ -(xs.length : Int) ≤ i ∧ i < xs.length := by
  unfold atI at h
  cases e : ixN xs.length i with
  | none => rw [e] at h; cases h
  | some j =>
    rw [e] at h
    obtain ⟨h1, h2, h3, h4⟩ := ixN_seq e
    exact ⟨j, h1, h, h2, h3, h4⟩
theorem atI_nat {α : Type} {xs : List α} {j : Nat} {v : α} (h : xs[j]? = some v) : atI xs (j : Int) = some v := by
  have hj : j < xs.length := (List.getElem?_eq_some_iff.mp h).1
  have e : ixN xs.length (j : Int) = some j := by
    unfold ixN
    rw [if_pos (by omega), if_pos (by omega)]; simp
  unfold atI; rw [e]; exact h
def PlainIx (b : Expr) : Prop := ∀ o i, subscripted b false o i = operate [o, i] (getItem o i)
def IxR (X : Cx) (r : R2) : Prop :=
  ∀ (value slice : Expr) (pins : List (Addr × Obj)) (s : Shared) (σ : St) (H : Hp) (x y : V) (v u : Value) (Q : VK), Inv X pins σ H s → RelV x v → RelV y u → r x y H Q →
    subscripted slice false v u = operate [v, u] (getItem v u) → wpAny (model X.prog X.w) X.A (subscriptTail value slice v u) (EP X pins σ Q) X.xe s
def MtR (X : Cx) (id : String) (r : V → List V → Hp → VK → Prop) : Prop :=
  ∀ (pins : List (Addr × Obj)) (s : Shared) (σ : St) (H : Hp) (x : V) (xs : List V) (v : Value) (us : List Value) (Q : VK), Inv X pins σ H s → RelV x v → Vals xs us → r x xs H Q →
    wpAny (model X.prog X.w) X.A (call (.builtin id) (v :: us)) (EP X pins σ Q) X.xe s
section
variable {X : Cx} {a b : Expr} {ta tb : TE} {pos : Pos}
theorem IxR.or {r r' : R2} (h : IxR X r) (h' : IxR X r') : IxR X (fun x y H Q => r x y H Q ∨ r' x y H Q) := by
  intro value slice pins s σ H x y v u Q I rx ry q hs
  rcases q with q | q
  · exact h value slice pins s σ H x y v u Q I rx ry q hs
  · exact h' value slice pins s σ H x y v u Q I rx ry q hs
theorem pe_ix {r : R2} (hr : IxR X r) (ha : PE X a ta) (hb : PE X b tb) (hs : PlainIx b) : PE X (.Subscript a b pos) (tOp r ta tb) := by
  intro pins s σ H Q I h
  exact Subscript_ (binT ha hb I h fun v u s2 x y H2 I2 rx ry q => hr a b pins s2 σ H2 x y v u Q I2 rx ry q (hs _ _))

def rIxL (K : PySem.W.Frag) : R2 := fun x y H Q => ∃ p xs i v, x = .ref p ∧ y = .int i ∧ SqL K H p xs ∧ atI xs i = some v ∧ Q v H
def rIxT (K : PySem.W.Frag) : R2 := fun x y H Q => ∃ p xs i v, x = .ref p ∧ y = .int i ∧ SqT K H p xs ∧ atI xs i = some v ∧ Q v H
def rIxS : R2 := fun x y H Q => ∃ z i c, x = .str z ∧ y = .int i ∧ z.length ≤ sizeLine ∧ atI z.cps.toList i = some c ∧ Q (.str ⟨#[c]⟩) H
theorem ix_list : IxR X (rIxL X.K) := by
  intro value slice pins s σ H x y v u Q I rx ry h hs
  obtain ⟨p, xs, i, z, rfl, rfl, hq, he, q⟩ := h
  cases rx
  obtain ⟨t, rfl⟩ := ry
  obtain ⟨its, r, pl, hz⟩ := I.list hq
  obtain ⟨j, h1, h2, h3, h4, h5⟩ := atI_get he
  obtain ⟨w, ew, rw'⟩ := r.get h2
  have hl := r.length
  have hn := line63
  have fin : EP X pins σ Q w s := ⟨z, H, I, rw', q⟩
  by_cases h0 : 0 ≤ i
  · have hj : i.toNat = j := by
      rw [seqIndex_of h0 h5] at h1
      exact Option.some.inj h1
    exact item_listR pl.isList h0 (by omega) (by rw [hj]; simpa using ew) fin hs
  · have hj : (i + (its.toArray.size : Int)).toNat = j := by
      rw [seqIndex_neg (by omega) h4] at h1
      rw [List.size_toArray, ← hl]
      exact Option.some.inj h1
    exact subscriptTail_builtinR (x := w) pl.isList.typeIs slot_list_getitem.lookup
      (wpAny_getItem_list_neg (Q := fun r s' => r = w ∧ EP X pins σ Q r s') pl.isList (by omega) (by rw [List.size_toArray] <;> omega) (by omega) (by rw [hj]; simpa using ew) ⟨rfl, fin⟩) hs
theorem ix_tup : IxR X (rIxT X.K) := by
  intro value slice pins s σ H x y v u Q I rx ry h hs
  obtain ⟨p, xs, i, z, rfl, rfl, hq, he, q⟩ := h
  cases rx
  obtain ⟨t, rfl⟩ := ry
  obtain ⟨its, r, pl, hz⟩ := I.tuple hq
  obtain ⟨j, h1, h2, h3, h4, h5⟩ := atI_get he
  obtain ⟨w, ew, rw'⟩ := r.get h2
  have hl := r.length
  have hn := line63
  have fin : EP X pins σ Q w s := ⟨z, H, I, rw', q⟩
  exact subscriptTail_builtinR (x := w) pl.typeIs slot_tuple_getitem.lookup
    (getItem_tuple (j := j) (Q := fun r s' => r = w ∧ EP X pins σ Q r s') pl (by omega) (by omega) (by rw [List.size_toArray, ← hl]; exact h1) (by simpa using ew) ⟨rfl, fin⟩) hs
theorem ix_str : IxR X rIxS := by
  intro value slice pins s σ H x y v u Q I rx ry h hs
  obtain ⟨z, i, c, rfl, rfl, hz, he, q⟩ := h
  obtain ⟨t, rfl⟩ := rx
  obtain ⟨t', rfl⟩ := ry
  obtain ⟨j, h1, h2, h3, h4, h5⟩ := atI_get he
  have hl : z.cps.toList.length = z.length := by simp [Str.length]
  rw [hl] at h1 h4 h5
  have hn := line63
  exact tail_any (typeIs_str s z t) slot_str_getitem.lookup (getItem_str (c := c) (by
    have e1 : decide (i < -(2 ^ 63 : Int)) = false := decide_eq_false (by omega)
    have e2 : decide (i ≥ 2 ^ 63) = false := decide_eq_false (by omega)
    rw [e1, e2, Bool.or_false]) (by rw [h1]; simpa using h2) ⟨.str ⟨#[c]⟩, H, I.tok _, ⟨_, rfl⟩, q⟩) hs
theorem Inv.lst {pins : List (Addr × Obj)} {σ : St} {H : Hp} {s : Shared} {p : Addr} {xs : List V} (I : Inv X pins σ H s) (h : H p = some (.lst xs)) :
    ∃ (its : List Value) (n : Nat), Vals xs its ∧ s.heap.get? p = some { cls := .type "list", data := .seq its.toArray n } ∧ xs.length ≤ sizeLine := by
  obtain ⟨z, its, n, r, e⟩ := I.hok p _ h
  exact ⟨its, n, r, e, z⟩
theorem slice_bounds (lo hi : Option Int) (n : Nat) : (sliceBounds lo hi none n).1 = ((HT.sIx n 0 lo : Nat) : Int) ∧ (sliceBounds lo hi none n).2.1 = ((HT.sIx n n hi : Nat) : Int) ∧ (sliceBounds lo hi none n).2.2 = 1 := by
  refine ⟨?_, ?_, rfl⟩
  · cases lo with
    | none => simp [sliceBounds, HT.sIx]
    | some i =>
      simp only [sliceBounds, HT.sIx, Option.getD_none, show (1 : Int) > 0 by decide, if_true]
      by_cases h : i < 0
      · simp only [h, if_true] <;> omega
      · simp only [h, if_false] <;> omega
  · cases hi with
    | none => simp [sliceBounds, HT.sIx]
    | some i =>
      simp only [sliceBounds, HT.sIx, Option.getD_none, show (1 : Int) > 0 by decide, if_true]
      by_cases h : i < 0
      · simp only [h, if_true] <;> omega
      · simp only [h, if_false] <;> omega
theorem slicePick_cut (its : List Value) (lo hi : Option Int) : slicePick its.toArray lo hi none = ((its.drop (HT.sIx its.length 0 lo)).take (HT.sIx its.length its.length hi - HT.sIx its.length 0 lo)).toArray := by
  obtain ⟨h1, h2, h3⟩ := slice_bounds lo hi its.toArray.size
  unfold slicePick
  rw [h1, h2, h3]
  simp only [sliceRange_one, pick_run, List.size_toArray] <;> rfl
def rSlL (K : PySem.W.Frag) : V → Option Int → Option Int → Hp → VK → Prop := fun x lo hi H Q => ∃ a xs, x = .ref a ∧ SqL K H a xs ∧ ∀ p, H p = none → Q (.ref p) (upd H p (.lst (cutV xs lo hi)))
theorem sl_list : SlR X (rSlL X.K) := by
  intro pins s σ H x v vl vu lo hi sl Q I rx hs pl pu h
  obtain ⟨a, xs, rfl, hx, q⟩ := h
  cases rx
  obtain ⟨its, r, ht, hz⟩ := I.list hx
  have hlen := r.length
  refine ⟨"list", _, slot_list_getitem.lookup, ht.isList.typeIs, ?_⟩
  refine wpAny_getItem_list_slice ht.isList hs pl pu .none (by simp) ?_ (by rw [List.size_toArray] <;> omega)
  rw [slicePick_cut, ← hlen]
  refine ⟨.ref s.heap.objs.size, _, I.laid (t' := s.toks) (o := .lst (cutV xs lo hi)) (fun b ob q => Heap.get?_push_of_some _ q) (Nat.le_refl _) ?_, rfl, q _ (I.hok.fresh (Nat.le_refl _))⟩
  exact ⟨Nat.le_trans (cutV_length xs lo hi) hz, _, 0, (r.drop (HT.sIx xs.length 0 lo)).take (HT.sIx xs.length xs.length hi - HT.sIx xs.length 0 lo), Heap.get?_push_size _ rfl⟩

def flatV : V → Bool
  | .non => true
  | .bl _ => true
  | .int _ => true
  | .str _ => true
  | _ => false
def eqV : V → V → Bool
  | .non, .non => true
  | .bl a, .bl b => a == b
  | .bl a, .int b => (if a then 1 else 0) == b
  | .int a, .bl b => a == (if b then 1 else 0)
  | .int a, .int b => a == b
  | .str a, .str b => a == b
  | _, _ => false
theorem eqAt_V {A : Around} {s : Shared} {y x : V} {u v : Value} (ry : RelV y u) (rx : RelV x v) (fy : flatV y = true) (fx : flatV x = true) : SeqAt.EqAt A s u v (eqV y x) := by
  cases y with
  | non =>
    cases ry
    cases x with
    | non => cases rx; exact SeqAt.EqAt.same _
    | bl b => cases rx; exact SeqAt.EqAt.none_bool b
    | int b => obtain ⟨t, rfl⟩ := rx; exact SeqAt.EqAt.none_int b t
    | str b => obtain ⟨t, rfl⟩ := rx; exact SeqAt.EqAt.none_str b t
    | _ => exact absurd (show false = true from fx) Bool.false_ne_true
  | bl a =>
    cases ry
    cases x with
    | non => cases rx; exact SeqAt.EqAt.bool_none a
    | bl b => cases rx; exact SeqAt.EqAt.bool_bool a b
    | int b => obtain ⟨t, rfl⟩ := rx; exact SeqAt.EqAt.bool_int a b t
    | str b => obtain ⟨t, rfl⟩ := rx; exact SeqAt.EqAt.bool_str a b t
    | _ => exact absurd (show false = true from fx) Bool.false_ne_true
  | int a =>
    obtain ⟨t', rfl⟩ := ry
    cases x with
    | non => cases rx; exact SeqAt.EqAt.int_none a t'
    | bl b => cases rx; exact SeqAt.EqAt.int_bool a t' b
    | int b => obtain ⟨t, rfl⟩ := rx; exact SeqAt.EqAt.int_int a t' b t
    | str b => obtain ⟨t, rfl⟩ := rx; exact SeqAt.EqAt.int_str a t' b t
    | _ => exact absurd (show false = true from fx) Bool.false_ne_true
  | str a =>
    obtain ⟨t', rfl⟩ := ry
    cases x with
    | non => cases rx; exact SeqAt.EqAt.str_none a t'
    | bl b => cases rx; exact SeqAt.EqAt.str_bool a t' b
    | int b => obtain ⟨t, rfl⟩ := rx; exact SeqAt.EqAt.str_int a t' b t
    | str b => obtain ⟨t, rfl⟩ := rx; exact SeqAt.EqAt.str_str a t' b t
    | _ => exact absurd (show false = true from fx) Bool.false_ne_true
  | _ => exact absurd (show false = true from fy) Bool.false_ne_true
def eqU (x : V) (u : Value) : Bool := match u with
  | .none => eqV .non x
  | .bool b => eqV (.bl b) x
  | .int i _ => eqV (.int i) x
  | .str z _ => eqV (.str z) x
  | _ => false
theorem eqU_of {x y : V} {u : Value} (r : RelV y u) (f : flatV y = true) : eqU x u = eqV y x := by
  cases y with
  | non => cases r; rfl
  | bl b => cases r; rfl
  | int i => obtain ⟨t, rfl⟩ := r; rfl
  | str z => obtain ⟨t, rfl⟩ := r; rfl
  | _ => exact absurd (show false = true from f) Bool.false_ne_true
theorem any_eqU {x : V} : ∀ {xs : List V} {us : List Value}, Vals xs us → xs.all flatV = true → us.any (eqU x) = xs.any fun y => eqV y x
  | _, _, .nil, _ => rfl
  | y :: xs, u :: us, .cons r t, f => by
    rw [List.all_cons, Bool.and_eq_true] at f
    rw [List.any_cons, List.any_cons, eqU_of r f.1, any_eqU t f.2]
theorem mem_eqAt {A : Around} {s : Shared} {x : V} {v : Value} (rx : RelV x v) (fx : flatV x = true) : ∀ {xs : List V} {us : List Value}, Vals xs us → xs.all flatV = true → ∀ u ∈ us, SeqAt.EqAt A s u v (eqU x u)
  | _, _, .nil, _ => fun u hu => by cases hu
  | y :: xs, u :: us, .cons r t, f => fun u' hu => by
    rw [List.all_cons, Bool.and_eq_true] at f
    rcases List.mem_cons.mp hu with rfl | hu
    · rw [eqU_of r f.1]; exact eqAt_V r rx f.1 fx
    · exact mem_eqAt rx fx t f.2 u' hu
def inV (x : V) (xs : List V) : Bool := xs.any fun y => eqV y x
def rIn (K : PySem.W.Frag) (neg : Bool) : R2 := fun x y H Q => ∃ p xs, y = .ref p ∧ (SqL K H p xs ∨ SqT K H p xs) ∧ flatV x = true ∧ xs.all flatV = true ∧ Q (.bl (if neg then !inV x xs else inV x xs)) H
theorem op_in_seq : OpR X (compareOp .In) (rIn X.K false) := by
  intro pins s σ H x y v u Q I rx ry h
  obtain ⟨p, xs, rfl, hq, fx, fs, q⟩ := h
  cases ry
  rcases hq with hq | hq
  · obtain ⟨its, r, pl, hz⟩ := I.list hq
    refine SeqAt.in_listAt (eqU x) pl.isList (fun w hw => mem_eqAt rx fx r fs w (by simpa using hw)) ⟨.bl _, H, I, rfl, ?_⟩
    rw [show its.toArray.any (eqU x) = its.any (eqU x) by simp, any_eqU r fs]
    exact q
  · obtain ⟨its, r, pl, hz⟩ := I.tuple hq
    refine SeqAt.in_tupleAt (eqU x) pl (fun w hw => mem_eqAt rx fx r fs w (by simpa using hw)) ⟨.bl _, H, I, rfl, ?_⟩
    rw [show its.toArray.any (eqU x) = its.any (eqU x) by simp, any_eqU r fs]
    exact q
theorem call_len_seq : CallR X (.builtin "len") (fun xs H Q => ∃ p ys, xs = [.ref p] ∧ (SqL X.K H p ys ∨ SqT X.K H p ys) ∧ Q (.int ys.length) H) := by
  intro pins s σ H xs us Q I r h
  obtain ⟨p, ys, rfl, hq, q⟩ := h
  obtain ⟨u, rfl, rx⟩ := vals1 r
  cases rx
  have hn := line63
  rcases hq with hq | hq
  · obtain ⟨its, r', pl, hz⟩ := I.list hq
    have hlen := r'.length
    exact Calls.call_len_list pl.isList (by simp only [List.size_toArray] <;> omega) ⟨.int ys.length, H, I.tok _, ⟨s.toks + 1, by rw [List.size_toArray, hlen]⟩, q⟩
  · obtain ⟨its, r', pl, hz⟩ := I.tuple hq
    have hlen := r'.length
    exact len_tuple pl (by simp only [List.size_toArray] <;> omega) ⟨.int ys.length, H, I.tok _, ⟨s.toks + 1, by rw [List.size_toArray, hlen]⟩, q⟩
theorem call_len_str : CallR X (.builtin "len") (fun xs H Q => ∃ z, xs = [.str z] ∧ z.length ≤ sizeLine ∧ Q (.int z.length) H) := by
  intro pins s σ H xs us Q I r h
  obtain ⟨z, rfl, hz, q⟩ := h
  obtain ⟨u, rfl, t, rfl⟩ := vals1 r
  have hn := line63
  exact len_str (by omega) ⟨.int z.length, H, I.tok _, ⟨_, rfl⟩, q⟩
theorem CallR.or {f : Value} {r r' : List V → Hp → VK → Prop} (h : CallR X f r) (h' : CallR X f r') : CallR X f (fun xs H Q => r xs H Q ∨ r' xs H Q) := by
  intro pins s σ H xs us Q I rs q
  rcases q with q | q
  · exact h pins s σ H xs us Q I rs q
  · exact h' pins s σ H xs us Q I rs q
theorem call_list_of : CallR X (.type "list") (fun xs H Q => ∃ p ys, xs = [.ref p] ∧ (SqL X.K H p ys ∨ SqT X.K H p ys) ∧ ∀ l, H l = none → Q (.ref l) (upd H l (.lst ys))) := by
  intro pins s σ H xs us Q I r h
  obtain ⟨p, ys, rfl, hq, q⟩ := h
  obtain ⟨u, rfl, rx⟩ := vals1 r
  cases rx
  have fin : ∀ (its : List Value), Vals ys its → ys.length ≤ sizeLine → ∀ (h' : Heap) (c' : Nat), (∀ b o', s.heap.get? b = some o' → h'.get? b = some o') →
      h'.get? s.heap.objs.size = some { cls := .type "list", dict := none, data := .seq its.toArray c', slots := #[] } → EP X pins σ Q (.ref s.heap.objs.size) { s with heap := h' } := fun its r' hz h' c' kp e =>
    ⟨.ref s.heap.objs.size, _, I.laid (t' := s.toks) kp (Nat.le_refl _) (show ObjOk X.prog X.w _ h' _ (.lst ys) from ⟨hz, its, c', r', e⟩), rfl, q _ (I.hok.fresh (Nat.le_refl _))⟩
  rcases hq with hq | hq
  · obtain ⟨its, r', pl, hz⟩ := I.list hq
    have hlen := r'.length
    obtain ⟨o, ho, hc, n, hd⟩ := pl.isList
    exact call_list_seq p (.inl rfl) ho hc hd (fun h' c' kp e => fin its r' hz h' c' kp e) (by simp only [List.size_toArray] <;> omega)
  · obtain ⟨its, r', pl, hz⟩ := I.tuple hq
    have hlen := r'.length
    obtain ⟨o, ho, hc, n, hd⟩ := pl
    exact call_list_seq p (.inr rfl) ho hc hd (fun h' c' kp e => fin its r' hz h' c' kp e) (by simp only [List.size_toArray] <;> omega)
theorem call_tuple_of : CallR X (.type "tuple") (fun xs H Q => ∃ p ys, xs = [.ref p] ∧ ((SqL X.K H p ys ∧ ∀ l, H l = none → Q (.ref l) (upd H l (.tup ys))) ∨ (SqT X.K H p ys ∧ Q (.ref p) H))) := by
  intro pins s σ H xs us Q I r h
  obtain ⟨p, ys, rfl, h⟩ := h
  obtain ⟨u, rfl, rx⟩ := vals1 r
  cases rx
  rcases h with ⟨hq, q⟩ | ⟨hq, q⟩
  · obtain ⟨its, r', pl, hz⟩ := I.list hq
    have hlen := r'.length
    refine call_tuple_list pl.isList (fun h' kp => ?_) (by simp only [List.size_toArray] <;> omega)
    have I1 : Inv X pins σ H { s with heap := h' } := I.kept (t' := s.toks) kp
    have I2 : Inv X pins σ (upd H h'.objs.size (.tup ys)) { s with heap := h'.push { cls := .type "tuple", data := .seq its.toArray } } :=
      I1.laid (t' := s.toks) (fun b o e => Heap.get?_push_of_some _ e) (Nat.le_refl _) (show ObjOk X.prog X.w _ _ _ (.tup ys) from ⟨hz, its, r', IsTup.new _ _⟩)
    exact ⟨.ref h'.objs.size, _, I2, rfl, q _ (I1.hok.fresh (Nat.le_refl _))⟩
  · obtain ⟨its, r', pl, hz⟩ := I.tuple hq
    exact call_tuple_same pl ⟨.ref p, H, I, rfl, q⟩

def tyV (K : PySem.W.Frag) (T : String) (x : V) (H : Hp) : Prop := match x with
  | .str _ => T = "str"
  | .int _ => T = "int"
  | .ref p => (T = "list" ∧ ∃ xs, SqL K H p xs) ∨ (T = "tuple" ∧ ∃ o, K.lookup p = some o ∧ o.cls = .type "tuple" ∧ o.dict = none) ∨
      (T = "dict" ∧ ((∃ kvs, H p = some (.dK kvs)) ∨ ∃ kvs, H p = some (.dT kvs))) ∨ (T = "set" ∧ ∃ S n, H p = some (.set S n))
  | _ => False
theorem tyV_is {pins : List (Addr × Obj)} {σ : St} {H : Hp} {s : Shared} {T : String} {x : V} {v : Value} (I : Inv X pins σ H s) (r : RelV x v) (ty : tyV X.K T x H) :
    s.TypeIs v T ∧ ∀ a, v = .ref a → ∃ ob, s.heap.get? a = some ob ∧ ob.dict = none := by
  cases x with
  | str z =>
    obtain ⟨t, rfl⟩ := r
    cases (show T = "str" from ty)
    exact ⟨typeIs_str s z t, fun _ e => nomatch e⟩
  | int i =>
    obtain ⟨t, rfl⟩ := r
    cases (show T = "int" from ty)
    exact ⟨typeIs_int s i t, fun _ e => nomatch e⟩
  | ref p =>
    cases r
    rcases ty with ⟨rfl, xs, hq⟩ | ⟨rfl, o, hk, hc, hd⟩ | ⟨rfl, hk⟩ | ⟨rfl, S, n, hk⟩
    · obtain ⟨its, _, pl, _⟩ := I.list hq
      refine ⟨pl.isList.typeIs, fun a e => ?_⟩
      cases e
      obtain ⟨o, n, e, c, hd, _⟩ := pl
      exact ⟨o, e, hd⟩
    · refine ⟨⟨o, I.kIn p o hk, hc⟩, fun a e => ?_⟩
      cases e
      exact ⟨o, I.kIn _ o hk, hd⟩
    · have z : ∃ o, s.heap.get? p = some o ∧ o.ExactDict := by
        rcases hk with ⟨kvs, hk⟩ | ⟨kvs, hk⟩
        · obtain ⟨_, _, _, _, o, _, _, e, ex, _⟩ := I.hok p _ hk
          exact ⟨o, e, ex⟩
        · obtain ⟨_, _, _, _, o, _, _, e, ex, _⟩ := I.hok p _ hk
          exact ⟨o, e, ex⟩
      obtain ⟨o, e, ex⟩ := z
      refine ⟨⟨o, e, ex.1⟩, fun a e2 => ?_⟩
      cases e2
      exact ⟨o, e, ex.2.1⟩
    · obtain ⟨o, _, _, _, e, ex, _⟩ := I.hok p _ hk
      refine ⟨⟨o, e, ex.1⟩, fun a e2 => ?_⟩
      cases e2
      exact ⟨o, e, ex.2.1⟩
  | _ => exact False.elim ty
def tBM0 (K : PySem.W.Frag) (T : String) (r : V → List V → Hp → VK → Prop) (to : TE) : TE := fun σ H Q => to σ H fun x H1 => tyV K T x H1 ∧ r x [] H1 Q
def tBM (K : PySem.W.Frag) (T : String) (r : V → List V → Hp → VK → Prop) (to : TE) (t : TA) : TE := fun σ H Q => to σ H fun x H1 => tyV K T x H1 ∧ t σ H1 fun xs H2 => r x xs H2 Q
variable {o e : Expr} {es : List Expr} {to : TE} {t : TA} {name : Str} {apos cpos : Pos} {T id : String} {r : V → List V → Hp → VK → Prop}
theorem pe_bm0 (pa : PlainAttrs T) (slot : Slot T name id) (hty : typeOf (.builtin id) = pure (.type "method_descriptor")) (hm : MtR X id r) (ho : PE X o to)
    (hbase : attributeBase o name X.env (eval o X.env) = eval o X.env := by rfl) (hline : (apos.endLine == cpos.line) = true := by rfl) : PE X (.Call (.Attribute o name apos) [] [] cpos) (tBM0 X.K T r to) := by
  intro pins s σ H Q I h
  refine wpAny_Call_method0_late hbase hline (thn (ho pins s σ H _ I h) fun v s1 ⟨x, H1, I1, r1, ty, q1⟩ => ?_)
  obtain ⟨h1, h2⟩ := tyV_is I1 r1 ty
  exact ⟨T, id, pa, slot, hty, h1, h2, Calls.callWith_builtin rfl (PySem.evalArgs_none (hm pins s1 σ H1 x [] v [] Q I1 r1 .nil q1))⟩
theorem pe_bm (pa : PlainAttrs T) (slot : Slot T name id) (hty : typeOf (.builtin id) = pure (.type "method_descriptor")) (hm : MtR X id r) (ho : PE X o to) (ha : PA X (e :: es) t)
    (hbase : attributeBase o name X.env (eval o X.env) = eval o X.env := by rfl)
    (hfew : ((backTo cpos (starEach (e :: es) X.env)).all (fun x => !x.1) && (backToKw cpos (keywordEach [] X.env)).all (fun x => x.1.isSome)
      && decide ((e :: es).length + ([] : List Keyword).length + (if ([] : List Keyword).isEmpty then 0 else 1) < 30)) = true := by rfl)
    (hline : (apos.endLine == cpos.line) = true := by rfl) (hs : starEach (e :: es) X.env = (false, eval e X.env) :: starEach es X.env := by rfl) (hplain : (backTo cpos (starEach es X.env)).any (·.1) = false := by rfl) :
    PE X (.Call (.Attribute o name apos) (e :: es) [] cpos) (tBM X.K T r to t) := by
  intro pins s σ H Q I h
  refine wpAny_Call_method_late hbase hfew hline rfl (thn (ho pins s σ H _ I h) fun v s1 ⟨x, H1, I1, r1, ty, q1⟩ => ?_)
  obtain ⟨h1, h2⟩ := tyV_is I1 r1 ty
  refine ⟨T, id, pa, slot, hty, h1, h2, ?_⟩
  have hA := ha cpos pins s1 σ H1 _ I1 q1
  rw [hs] at hA ⊢
  refine Calls.callWith_builtin (by show (false || (backTo cpos (starEach es X.env)).any (·.1)) = false; rw [hplain] <;> rfl) (Calls.evalArgs_plain ?_)
  exact thn hA fun us s2 ⟨vs, H2, I2, r2, q2⟩ => hm pins s2 σ H2 x vs v us Q I2 r1 r2 q2
end
end L2

namespace L2
open PySem PySem.Spec PyProof.Rows

def MtM (X : Cx) (id : String) (r : V → List V → Hp → VK → Prop) : Prop :=
  ∀ (pins : List (Addr × Obj)) (s : Shared) (σ : St) (H : Hp) (x : V) (xs : List V) (v : Value) (us : List Value) (Q : VK), Inv X pins σ H s → RelV x v → Vals xs us → r x xs H Q →
    wpAny (model X.prog X.w) X.A (call (.builtin id) (v :: us)) (EP X pins σ Q) X.xe s

theorem Vals.one : ∀ {x : V} {us : List Value}, Vals [x] us → ∃ u, us = [u] ∧ RelV x u
  | _, _, .cons r .nil => ⟨_, rfl, r⟩
theorem Vals.zero : ∀ {us : List Value}, Vals [] us → us = []
  | _, .nil => rfl
theorem Vals.dropLast {xs : List V} {us : List Value} (h : Vals xs us) : Vals xs.dropLast us.dropLast := by
  induction h with
  | nil => exact .nil
  | cons r t ih =>
    cases t with
    | nil => exact .nil
    | cons q t' => exact .cons r ih
theorem Vals.reverse {xs : List V} {us : List Value} (h : Vals xs us) : Vals xs.reverse us.reverse := by
  induction h with
  | nil => exact .nil
  | cons r t ih => rw [List.reverse_cons, List.reverse_cons]; exact Vals.append ih (.cons r .nil)
theorem Vals.rep {xs : List V} {us : List Value} (h : Vals xs us) : ∀ k : Nat, Vals (List.replicate k xs).flatten (List.replicate k us).flatten
  | 0 => .nil
  | k + 1 => by
    rw [List.replicate_succ, List.replicate_succ, List.flatten_cons, List.flatten_cons]
    exact Vals.append h (Vals.rep h k)
theorem erase_last {α : Type} (l : List α) : l.eraseIdx (l.length - 1) = l.dropLast := by
  induction l with
  | nil => rfl
  | cons a r ih =>
    cases r with
    | nil => rfl
    | cons b r =>
      have e : (a :: b :: r).length - 1 = ((b :: r).length - 1) + 1 := by
        have h1 : (a :: b :: r).length = r.length + 2 := rfl
        have h2 : (b :: r).length = r.length + 1 := rfl
        omega
      rw [e, List.eraseIdx_cons_succ, ih]
      all_goals rfl
theorem foldl_rep (its : List Value) : ∀ (k : Nat) (acc : List Value),
    List.foldl (fun x1 x2 => x1 ++ x2) acc.toArray (List.replicate k its.toArray) = (acc ++ (List.replicate k its).flatten).toArray
  | 0, acc => by simp
  | k + 1, acc => by
    have e : acc.toArray ++ its.toArray = (acc ++ its).toArray := by simp
    have e2 : (acc ++ its) ++ (List.replicate k its).flatten = acc ++ (List.replicate (k + 1) its).flatten := by
      rw [List.replicate_succ, List.flatten_cons, List.append_assoc]
    rw [← e2, ← foldl_rep its k (acc ++ its), ← e, List.replicate_succ, List.foldl_cons]

section
variable {X : Cx} {pins : List (Addr × Obj)} {σ : St} {H : Hp} {s : Shared} {l b : Addr} {xs ys zs : List V}

theorem Inv.lset {its its' : List Value} {n : Nat} {f : Array Value → Array Value} {t' : Nat} (I : Inv X pins σ H s) (hH : H l = some (.lst xs))
    (e : s.heap.get? l = some { cls := .type "list", data := .seq its.toArray n }) (hf : f its.toArray = its'.toArray) (hv : Vals ys its') (hz : ys.length ≤ sizeLine) :
    Inv X pins σ (upd H l (.lst ys)) { s with heap := s.heap.update l (Obj.mapSeq f), toks := t' } := by
  have q := PySem.IsL.update e f
  rw [hf] at q
  refine I.write (x := l) (e := l) (by rw [hH]; exact trivial) (.inl rfl) (fun b' u hb hu => (Heap.get?_update_other s.heap (Obj.mapSeq f) (Ne.symm hb)).trans hu) ⟨_, q⟩ ?_
  exact ⟨hz, its', _, hv, q⟩
theorem Inv.lnew {its : List Value} {t' : Nat} (I : Inv X pins σ H s) (hv : Vals ys its) (hz : ys.length ≤ sizeLine) :
    Inv X pins σ (upd H s.heap.objs.size (.lst ys)) { s with heap := s.heap.push { cls := .type "list", data := .seq its.toArray }, toks := t' } :=
  I.laid (fun _ _ q => Heap.get?_push_of_some _ q) (Nat.le_refl _) ⟨hz, its, 0, hv, Heap.get?_push_size _ rfl⟩
theorem Inv.fresh (I : Inv X pins σ H s) : H s.heap.objs.size = none := I.hok.fresh (Nat.le_refl _)
theorem Inv.lstM (I : Inv X pins σ H s) (hH : H l = some (.lst xs)) : xs.length ≤ sizeLine ∧ ∃ (its : List Value) (n : Nat), Vals xs its ∧ xs.length = its.length ∧ s.heap.get? l = some { cls := .type "list", data := .seq its.toArray n } := by
  obtain ⟨z, its, n, r, e⟩ := I.hok l _ hH
  exact ⟨z, its, n, r, r.length, e⟩

theorem notLongL {n : Nat} (h : n ≤ sizeLine) : Builtin.List.listTooLong n = false := by
  unfold Builtin.List.listTooLong
  exact decide_eq_false (by omega)
end

section
variable {X : Cx}

def rAppend : V → List V → Hp → VK → Prop := fun x vs H Q => ∃ l xs y, x = .ref l ∧ vs = [y] ∧ H l = some (.lst xs) ∧ xs.length < sizeLine ∧ Q .non (upd H l (.lst (xs ++ [y])))
theorem mt_append : MtM X "list.append" rAppend := by
  intro pins s σ H x vs v us Q I rx rv h
  obtain ⟨l, xs, y, rfl, rfl, hH, hz, q⟩ := h
  cases rx
  obtain ⟨u, rfl, ru⟩ := rv.one
  obtain ⟨z, its, n, r, hl, e⟩ := I.lstM hH
  refine call_meets F.slot_list_append ⟨_, e, rfl⟩ F.entry_list_append (F.args_list_append_2 _ _) (PySem.list_append l its.toArray n u (by rw [List.size_toArray]; omega)) ⟨e, ?_⟩
  refine ⟨.non, _, I.lset (its' := its ++ [u]) hH e (by simp) (r.append (.cons ru .nil)) ?_, rfl, q⟩
  rw [List.length_append, List.length_singleton]
  omega

def rPop : V → List V → Hp → VK → Prop := fun x vs H Q => ∃ l xs y, x = .ref l ∧ vs = [] ∧ H l = some (.lst xs) ∧ xs[xs.length - 1]? = some y ∧ Q y (upd H l (.lst xs.dropLast))
theorem mt_pop : MtM X "list.pop" rPop := by
  intro pins s σ H x vs v us Q I rx rv h
  obtain ⟨l, xs, y, rfl, rfl, hH, hy, q⟩ := h
  cases rx
  have hus := rv.zero
  subst hus
  obtain ⟨z, its, n, r, hl, e⟩ := I.lstM hH
  obtain ⟨u, hu, ru⟩ := r.get hy
  have hy' : its.toArray[its.toArray.size - 1]? = some u := by
    show its.toArray[its.length - 1]? = some u
    rw [← Array.getElem?_toList, ← hl]
    exact hu
  refine call_meets F.slot_list_pop ⟨_, e, rfl⟩ F.entry_list_pop (F.args_list_pop_1 _) (MeetsSeq.list_pop_last l its.toArray n u hy' (by rw [List.size_toArray]; omega)) ⟨e, ?_⟩
  refine ⟨y, _, I.lset (its' := its.dropLast) hH e ?_ r.dropLast ?_, ru, q⟩
  · show its.toArray.eraseIdxIfInBounds (its.toArray.size - 1) = its.dropLast.toArray
    rw [List.size_toArray, List.eraseIdxIfInBounds_toArray, erase_last]
  · rw [List.length_dropLast]
    omega

def rCat : R2 := fun x y H Q => ∃ l b xs zs, x = .ref l ∧ y = .ref b ∧ H l = some (.lst xs) ∧ H b = some (.lst zs) ∧ xs.length + zs.length ≤ sizeLine ∧ ∀ p, H p = none → Q (.ref p) (upd H p (.lst (xs ++ zs)))
theorem op_cat : OpR X (binaryOp .Add) rCat := by
  intro pins s σ H x y v u Q I rx ry h
  obtain ⟨l, b, xs, zs, rfl, rfl, hH, hB, hz, q⟩ := h
  cases rx
  cases ry
  obtain ⟨z, its, n, r, hl, e⟩ := I.lstM hH
  obtain ⟨z2, its2, n2, r2, hl2, e2⟩ := I.lstM hB
  refine PySem.P.add_list e e2 ?_ (by rw [List.size_toArray, List.size_toArray]; omega)
  have ea : its.toArray ++ its2.toArray = (its ++ its2).toArray := by simp
  rw [ea]
  exact ⟨.ref _, _, I.lnew (t' := s.toks) (r.append r2) (by rw [List.length_append]; omega), rfl, q _ I.fresh⟩
def rRep : R2 := fun x y H Q => ∃ l k xs, x = .ref l ∧ y = .int k ∧ H l = some (.lst xs) ∧ -(2 ^ 63) ≤ k ∧ k < 2 ^ 63 ∧ xs.length * k.toNat ≤ sizeLine ∧
  ∀ p, H p = none → Q (.ref p) (upd H p (.lst (List.replicate k.toNat xs).flatten))
theorem len_rep {α : Type} (xs : List α) (k : Nat) : (List.replicate k xs).flatten.length = k * xs.length := by
  induction k with
  | zero => simp
  | succ k ih => rw [List.replicate_succ, List.flatten_cons, List.length_append, ih, Nat.succ_mul, Nat.add_comm]
theorem op_rep : OpR X (binaryOp .Mult) rRep := by
  intro pins s σ H x y v u Q I rx ry h
  obtain ⟨l, k, xs, rfl, rfl, hH, h1, h2, hz, q⟩ := h
  cases rx
  obtain ⟨t, rfl⟩ := ry
  obtain ⟨z, its, n, r, hl, e⟩ := I.lstM hH
  have hlen : its.toArray.size * k.toNat ≤ sizeLine := by rw [List.size_toArray, ← hl]; exact hz
  have hcap : ¬ its.toArray.size * k.toNat > (2 ^ 63 - 1) / 8 := by
    have : (sizeLine : Nat) ≤ (2 ^ 63 - 1) / 8 := by decide
    omega
  have hfit : ¬ (!Builtin.List.listFitsIndex k) = true := by
    rw [fitsIndex_both h1 h2]
    exact Bool.false_ne_true
  have hlong : ¬ Builtin.List.listTooLong (its.toArray.size * k.toNat) = true := by
    rw [notLongL hlen]
    exact Bool.false_ne_true
  have hnew : List.foldl (fun x1 x2 => x1 ++ x2) #[] (List.replicate (if its.toArray.isEmpty = true then 0 else k.toNat) its.toArray) = (List.replicate k.toNat its).flatten.toArray := by
    have f0 : ∀ m : Nat, List.foldl (fun x1 x2 => x1 ++ x2) #[] (List.replicate m its.toArray) = (List.replicate m its).flatten.toArray := fun m => by
      have := foldl_rep its m []
      rw [List.nil_append] at this
      exact this
    rw [f0]
    cases its with
    | nil => simp
    | cons a r' => rw [if_neg (by simp)]
  refine wpAny_binaryOp_repeat_ref (T := "list") (U := "int") (by decide) ⟨_, e, rfl⟩ (fun s' => typeIs_int s' k t) noFill_list_mul F.fills_int_mul F.slot_int_rmul repeat_list F.slot_int_index.lookup
    (call_meets F.slot_int_rmul (typeIs_int s k t) F.entry_int_rmul (F.args_int_rmul_2 _ _) (int___rmul___int_list k t l its.toArray n)
      ⟨e, rfl, ⟨_, e, rfl⟩, call_meets F.slot_list_mul ⟨_, e, rfl⟩ F.entry_list_mul (F.args_list_mul_2 _ _) (AutoListH.list___mul___list_int_3 l its.toArray n k t hfit hcap hlong) ⟨e, ?_⟩⟩)
  rw [hnew]
  exact ⟨.ref _, _, I.lnew (t' := s.toks) (r.rep k.toNat) (by rw [len_rep, Nat.mul_comm]; exact hz), rfl, q _ I.fresh⟩

end

end L2

namespace Att
open PySem PySem.W PySem.Calls PyProof.Rows

theorem ints_of_wellAll {P : Params} {h : Heap} : ∀ (ns : List Int) (vs : List Value), WellAll P h vs (ns.map WData.int) → IntsAre vs ns := by
  intro ns
  induction ns with
  | nil =>
    intro vs w
    rw [List.map_nil] at w
    cases w
    exact .nil
  | cons n ns ih =>
    intro vs w
    rw [List.map_cons] at w
    cases w with
    | cons a b =>
      cases a
      exact .cons _ _ (ih _ b)

theorem script_of {l : OpenLaw} {n : Nat} (hn : l.most = some n) {P : Params} {h : Heap} {args : List WData} {vals : List Value}
    (hpre : l.row.toRowW.claim.pre args = true) (hwl : WellAll P h vals args) :
    ∃ a vs ns, vals = [Value.ref a] ∧ args = [WData.list (ns.map WData.int)] ∧ h.get? a = some { cls := .type "list", data := .seq vs.toArray } ∧ IntsAre vs ns ∧ ns.length ≤ n := by
  have hsh : WShape.hasAll [] args [.list .int] = true := (pre_splitW hpre).1
  have hc : l.pre.holds [] { args := args } = true := (pre_splitW hpre).2
  obtain ⟨d, r, rfl, h1, h2⟩ := hasAllW_cons hsh
  obtain rfl := hasAllW_nil h2
  obtain ⟨xs, rfl, h3⟩ := hasW_list h1
  obtain ⟨ns, rfl⟩ := items_int h3
  have hlen : ns.length ≤ n := by
    unfold OpenLaw.pre at hc
    have h4 : (WTm.not (.lt (.lit (.int (n : Int))) (.len (.arg 0)))).holds [] { args := [.list (ns.map .int)] } = true := by
      have h4 := (holds_andW hc).1
      rw [hn] at h4
      exact h4
    have h5 := condW_of h4 (w_not (w_lt w_lit (w_len_list (w_arg rfl))))
    rw [List.length_map] at h5
    refine Nat.le_of_not_lt fun q => ?_
    have q' : (n : Int) < ((ns.length : Nat) : Int) := by omega
    first
      | (rw [decide_eq_true q'] at h5; exact absurd h5 (by decide))
      | (simp at h5; omega)
  cases hwl with
  | cons w1 w2 =>
    cases w2
    cases w1 with
    | list ho hall => exact ⟨_, _, ns, rfl, rfl, ho, ints_of_wellAll ns _ hall, hlen⟩

theorem post_true (l : OpenLaw) (args : List WData) : l.row.toRowW.claim.post args (.bool true) args = true :=
  postW_of (r := l.row.toRowW) (X := (true == true))
    (show WShape.has [] (.bool true) .bool = true by first | rfl | decide | simp [WShape.has, WShape.arms, WShape.armsAll])
    (show (WTm.eq .res (.lit (.bool true))).value [] { args := args, res := some (.bool true), after := args } = some (.bool (true == true)) from w_eq_bool (w_res rfl) w_lit) rfl

theorem attach_call {l : OpenLaw} {n : Nat} {q : Program} {loose : List Str} {XP : (Str → Option Value) → Heap → Prop} {YP : World → Heap → Prop} {d : DefRec}
    (hn : l.most = some n) (hdf : d.params.defaults = [])
    (call : ∀ (w : World) (s₀ s₁ : Shared) (mg mb : Str → Option Value) (fa : Addr) (o : Obj) (pm cd doc : Value) (a : Addr) (vs : List Value) (ns : List Int),
      Ground q loose [] XP w s₀ mg mb s₁.heap → YP w s₁.heap →
      s₁.heap.get? fa = some o → o.data = .func (docDef d.name d.params d.body d.scope pm cd doc) → s₁.heap.CodeRec cd d.name → mg d.name = some (.ref fa) →
      s₁.heap.get? a = some { cls := .type "list", data := .seq vs.toArray } → IntsAre vs ns → ns.length ≤ n → s₁.gens = #[] →
      codeAny (model l.prog w) callerA (.call (.ref fa) ⟨[.ref a], []⟩) (fun r s' => r = .ok (.ret (.bool true)) ∧ OldK s₁.heap s'.heap ∧ s'.os = s₁.os ∧ AllBare s'.gens) s₁) :
    WalkO q loose XP YP l.row.toRowW d [] (fun f vs => PySem.call f vs) := by
  intro w s₀ s₁ mg mb G Y fa o pm cd doc dV kV ho hd hcd hD hmg hg args vals as hpre hlay hrd hwl hlo
  obtain rfl : dV = .none := Dflts.none hD hdf
  obtain rfl : kV = .none := Dflts.noKw hD
  obtain ⟨a, vs, ns, rfl, rfl, hobj, hints, hlen⟩ := script_of hn hpre hwl
  refine enter_call (codeAny_mono (call w s₀ s₁ mg mb fa o pm cd doc a vs ns G Y ho (fd_plain hd) hcd hmg hobj hints hlen hg) fun r s' hq => ?_)
  obtain ⟨rfl, h2, h3, h4⟩ := hq
  exact ⟨.inl ⟨.bool true, .bool true, [], rfl, fun _ => rfl, .bool true, post_true l _, fun _ => ⟨List.Pairwise.nil, fun _ hm => (nomatch hm)⟩⟩, h2, h3, h4⟩

end Att

namespace L2
open PySem PySem.Spec PyProof.Rows

theorem vals_ints : ∀ {vs : List Value} {ns : List Int}, IntsAre vs ns → Vals (ns.map V.int) vs
  | _, _, .nil => .nil
  | _, _, .cons n t h => .cons ⟨t, rfl⟩ (vals_ints h)

def Only (H : Hp) : Prop := ∀ b, H b = none ∨ ∃ o xs, H b = some (.frz o (.lst xs))

theorem law_call {P : Program} {w : World} {K : PySem.W.Frag} {mg mb : Str → Option Value} {CX : CXT} {k : Nat} {fa a : Addr} {fd : FuncData} {x : Str} {sp : Sp} {s₁ : Shared} {vs : List Value} {ns : List Int}
    (KX : K.In s₁.heap) (hns : s₁.heap.Ns mainGlobals mg) (hb : s₁.heap.Ns builtinsNs mb) (hbb : ∀ x : Str, x ≠ "__name__" → mb x = bootBuiltins x) (hlim : s₁.heap.NoLimit) (hg : s₁.gens = #[])
    (ha : s₁.heap.get? a = some { cls := .type "list", data := .seq vs.toArray }) (hi : IntsAre vs ns) (hl : ns.length ≤ sizeLine) (hr : Room k callerA)
    (F : ∀ base : Heap, K.In base → base.Ns mainGlobals mg → FnOk P w K mg base CX k fa fd [x] sp) (hbind : ∀ (s : Shared) (u : Value), BindsTo s fd ⟨[u], []⟩ [(x, u)])
    (hsp : ∀ H : Hp, Only H → SqL K H a (ns.map V.int) → sp [.ref a] H (fun v _ => v = .bl true) fun _ _ _ => False)
    (hCX : ∀ H e s', CX [] H s₁ (fun _ _ _ => False) e s' → False) :
    codeAny (model P w) callerA (.call (.ref fa) ⟨[.ref a], []⟩) (fun r s' => r = .ok (.ret (.bool true)) ∧ OldK s₁.heap s'.heap ∧ s'.os = s₁.os ∧ AllBare s'.gens) s₁ := by
  have rv := vals_ints hi
  have lenV := hi.length
  -- from an abstract heap in which nothing but the script may be tracked
  have core : ∀ H : Hp, Only H → SqL K H a (ns.map V.int) → HOk P w H s₁.heap → (∀ b, H b ≠ none → b = a) → (H a ≠ none → K.lookup a = none) →
      codeAny (model P w) callerA (.call (.ref fa) ⟨[.ref a], []⟩) (fun r s' => r = .ok (.ret (.bool true)) ∧ OldK s₁.heap s'.heap ∧ s'.os = s₁.os ∧ AllBare s'.gens) s₁ := by
    intro H hO hS hok hA hK
    have base_of : ∀ {b : Addr} {o : Obj}, s₁.heap.get? b = some o → H b = none → (hidT s₁.heap H).get? b = some o := fun e n => hidT_get e n
    have noA : ∀ {b : Addr} {o : Obj} {es : Array DictEntry} {ep : Nat}, s₁.heap.get? b = some o → o.data = .dict es ep → H b = none := fun {b o es ep} e d => by
      cases q : H b with
      | none => rfl
      | some u =>
        have e' : b = a := hA b (by rw [q]; simp)
        subst e'
        rw [ha] at e; cases e
        have d' : Data.seq vs.toArray _ = Data.dict es ep := d
        cases d'
    have nsK : ∀ {b : Addr} {m : Str → Option Value}, s₁.heap.Ns b m → (hidT s₁.heap H).Ns b m := fun {b m} ⟨o, es, ep, e, d, r⟩ => ⟨o, es, ep, base_of e (noA e d), d, r⟩
    have hKb : K.In (hidT s₁.heap H) := fun b o e => base_of (KX b o e) (by
      cases q : H b with
      | none => rfl
      | some u =>
        have e' : b = a := hA b (by rw [q]; simp)
        subst e'
        rw [hK (by rw [q]; simp)] at e; cases e)
    have hM : Mod K mg (hidT s₁.heap H) := ⟨hKb, nsK hns, ⟨mb, nsK hb, hbb⟩, let ⟨mc, h1, h2⟩ := hlim; ⟨mc, nsK h1, h2⟩⟩
    have e0 : Env0 P w K mg (hidT s₁.heap H) callerA [] s₁ H := ⟨rfl, hM, fun b o e => of_hidT e, Nat.le_of_eq (hidT_size _ _), trivial, fun b hb => absurd (show b ∈ ([] : List Addr) from hb) (by simp), hok, .of_eq hg⟩
    refine codeAny_mono ((F _ hKb (nsK hns)).run callerA [] s₁ H ⟨[.ref a], []⟩ [.ref a] [.ref a] _ _ hr e0 (hbind s₁ (.ref a)) (.cons rfl .nil) (hsp H hO hS)) fun r s' h => ?_
    cases r with
    | error e => exact (hCX H e s' h).elim
    | ok fl =>
      cases fl with
      | next => exact False.elim h
      | brk => exact False.elim h
      | cont => exact False.elim h
      | ret u =>
        obtain ⟨v, H', os, bare, un, hok', r', q⟩ := h
        have q' : v = .bl true := q
        subst q'
        obtain rfl : u = Value.bool true := r'
        refine ⟨rfl, OldK.of_keep fun b o e => ?_, os, bare⟩
        cases q : H b with
        | none => exact un.keep b o e q (by intro z; exact absurd (show b ∈ ([] : List Addr) from z) (by simp)) (by simp)
        | some u =>
          rcases hO b with z | ⟨ob, xs, z⟩
          · rw [q] at z; cases z
          · have z2 := un.frzs b ob _ z
            obtain ⟨e1, _⟩ := hok b _ z
            obtain ⟨e2, _⟩ := hok' b _ z2
            rw [e] at e1; cases e1
            exact e2
  cases hk : K.lookup a with
  | some o =>
    -- the script is one of the module's own objects
    have e := KX a o hk
    rw [ha] at e
    cases e
    refine core (fun _ => none) (fun _ => .inl rfl) (.inr ⟨_, vs.toArray, _, hk, rfl, rfl, rfl, by rw [List.size_toArray, lenV]; exact hl, by simpa using rv⟩) (fun b u z => by have z' : (none : Option HO) = some u := z; cases z') (fun b z => absurd rfl z) fun z => absurd rfl z
  | none =>
    refine core (fun b => if b = a then some (.frz { cls := .type "list", data := .seq vs.toArray } (.lst (ns.map V.int))) else none) (fun b => ?_) (.inl (.inr ⟨{ cls := .type "list", data := .seq vs.toArray }, if_pos rfl⟩)) (fun b u z => ?_) (fun b z => ?_) fun _ => hk
    · by_cases hb : b = a
      · exact .inr ⟨_, _, if_pos hb⟩
      · exact .inl (if_neg hb)
    · by_cases hb : b = a
      · have z' := (if_pos hb).symm.trans z
        cases z'
        subst hb
        exact ⟨ha, by rw [List.length_map]; exact hl, vs, _, rv, ha⟩
      · have z' := (if_neg hb).symm.trans z
        cases z'
    · by_cases hb : b = a
      · exact hb
      · exact absurd (if_neg hb) z
end L2

namespace L2
open PySem PySem.Spec PyProof.Rows

end L2


namespace L2
open PySem PySem.Spec PyProof.Rows

def inClass (s : Stmt) (j : Nat) : Stmt := match s with
  | .ClassDef _ _ _ body _ _ _ _ _ _ _ => body.getD j (.Pass ⟨0, 0, 0, 0⟩)
  | _ => .Pass ⟨0, 0, 0, 0⟩
def defArgs (s : Stmt) : Arguments := match s with
  | .FunctionDef _ a _ _ _ _ _ _ _ _ => a
  | _ => { posonlyargs := [], args := [], vararg := none, kwonlyargs := [], kw_defaults := [], kwarg := none, defaults := [] }
def defBody (s : Stmt) : List Stmt := match s with
  | .FunctionDef _ _ b _ _ _ _ _ _ _ => b
  | _ => []
def defScope (s : Stmt) : Scope := match s with
  | .FunctionDef _ _ _ _ _ _ sc _ _ _ => sc
  | _ => { kind := .function, names := [], isGenerator := false, isCoroutine := false }

abbrev CX0 : CXT := fun _ _ _ _ _ _ => False
abbrev E0 : XK := fun _ _ _ => False
theorem pass0 {X : Cx} : Passes CX0 X E0 := fun _ _ _ _ _ _ _ h => h.elim

structure Fun (K : PySem.W.Frag) (x qual : Str) (st : Stmt) (f : Addr) (fd : FuncData) : Prop where
  ex : ∃ (oc : Value) (od : Option Addr) (kV doc pm : Value) (an : Option Addr) (cdv ct : Value) (osl : Array (Option Value)),
    fd = PySem.W.fnOf x qual (defArgs st) (defBody st) (defScope st) .none kV doc pm an cdv ct ∧ K.lookup f = some ⟨oc, od, .func fd, osl⟩ ∧ PySem.W.codeIn K cdv qual = true
  kp : PySem.W.keepIn K (.ref f) = true
section
variable {P : Program} {w : World} {K : PySem.W.Frag} {mg : Str → Option Value} {base : Heap}
theorem Fun.ok {x qual : Str} {st : Stmt} {f : Addr} {fd : FuncData} {N ps : List Str} {k : Nat} {sp : Sp} (F : Fun K x qual st f fd) (S : FnScope N ps (defScope st)) (len : ∀ vs H Q E, sp vs H Q E → vs.length = ps.length)
    (hbody : ∀ (cdv : Value) (A : Around) (outer : List Env) (s : Shared) (H : Hp) (vs : List V) (Q : VK) (E : XK), Room k (A.deeper (envOfC qual (defScope st) s.heap.objs.size f cdv)) → sp vs H Q E →
      ∃ t, PSs (cxOf CX0 P w K mg base N qual (defScope st) f cdv A outer s H E).nox (defBody st) t ∧ t { nx := fun _ H' => Q .non H', rt := Q } (start N vs) H) : FnOk P w K mg base CX0 (k + 1) f fd ps sp := by
  obtain ⟨oc, od, kV, doc, pm, an, cdv, ct, osl, rfl, lk, hcd⟩ := F.ex
  refine fn_of lk hcd S len fun A outer s H vs Q E hr hsp => ?_
  obtain ⟨t, h, q⟩ := hbody cdv A outer s H vs Q E hr hsp
  exact ⟨t, h.nox, q⟩
theorem Fun.binds {x qual : Str} {st : Stmt} {f : Addr} {fd : FuncData} {ps : List Str} (F : Fun K x qual st f fd)
    (h : ∀ (kV doc pm : Value) (an : Option Addr) (cdv ct : Value) (us : List Value), us.length = ps.length → bindArgs (PySem.W.fnOf x qual (defArgs st) (defBody st) (defScope st) .none kV doc pm an cdv ct) ⟨us, []⟩ = pure (ps.zip us)) : Binds K fd ps [] := by
  obtain ⟨oc, od, kV, doc, pm, an, cdv, ct, osl, rfl, lk, hcd⟩ := F.ex
  exact .all (h kV doc pm an cdv ct)
end
theorem hu_of {A : Around} {k : Nat} (hr : Room k A) : A.units + 1 < cLine := Nat.lt_of_le_of_lt (Nat.add_le_add_left (by decide : 1 ≤ 64) _) hr.units
section
variable {X : Cx}
theorem pv (i : Nat) {x : Str} {pos : Pos} (hN : X.N[i]? = some x := by rfl) (hv : Vis X.env.scope x := by first | exact Or.inl rfl | exact Or.inr (Or.inl rfl) | exact Or.inr (Or.inr rfl)) (hd : (x == ("__debug__" : Str)) = false := by decide)
    (hcd : (x == ("__classdict__" : Str)) = false := by decide) : PE X (.Name x pos) (tVar i) := pe_var hN hv hd hcd
end

theorem iteF {A B : Prop} (h : B) : if false = true then A else B := by
  rw [if_neg Bool.false_ne_true]
  exact h
theorem iteT {A B : Prop} (h : A) : if true = true then A else B := by
  rw [if_pos rfl]
  exact h
theorem ite2 {c A B : Prop} [Decidable c] (h1 : c → A) (h2 : ¬ c → B) : if c then A else B := by
  by_cases h : c
  · rw [if_pos h]
    exact h1 h
  · rw [if_neg h]
    exact h2 h
def Same (H H' : Hp) : Prop := ∀ b o, H b = some o → H' b = some o
theorem Same.refl (H : Hp) : Same H H := fun _ _ h => h
theorem Same.seq {K : PySem.W.Frag} {H H' : Hp} {a : Addr} {xs : List V} (e : Same H H') (h : SqL K H a xs) : SqL K H' a xs := by
  rcases h with (h | ⟨o, h⟩) | h
  · exact .inl (.inl (e _ _ h))
  · exact .inl (.inr ⟨o, e _ _ h⟩)
  · exact .inr h

end L2

set_option Elab.async false
set_option linter.all false
set_option maxRecDepth 100000
set_option maxHeartbeats 4000000
namespace L2
open PySem PySem.Spec PyProof.Rows
section
variable {X : Cx}
def CDivB (_ j : Int) : Prop := 0 < j ∧ j < 2 ^ 250
theorem log2_big {j : Int} (h1 : 0 < j) (h2 : j < 2 ^ 250) : j.natAbs.log2 < 9000 := by
  have h0 : j.natAbs ≠ 0 := by omega
  have h3 : j.natAbs < 2 ^ 250 := by omega
  exact Nat.lt_trans ((Nat.log2_lt h0).mpr h3) (by decide)
theorem op_fdivB : OpR X (binaryOp .FloorDiv) (rI CDivB fun i j => .int (i / j)) := opI fun i j _ _ _ _ _ hc q => by
  have h1 : (0 : Int) < j := hc.1
  exact floordiv_int (by omega) (by rw [Int.fdiv_eq_ediv_of_nonneg i (by omega)]; exact q) (.inl (PyProof.noPylong_of_log2 (log2_big hc.1 hc.2)))
def CMulB (i j : Int) : Prop := i.natAbs < 2 ^ 250 ∧ j.natAbs < 2 ^ 250
theorem CMulB.ok {i j : Int} (h : CMulB i j) : IntMulOk i j := by
  have a : Builtin.Int.intBits i ≤ 250 := intBits_le h.1
  have b : Builtin.Int.intBits j ≤ 250 := intBits_le h.2
  unfold IntMulOk Builtin.Int.intTooBig
  intro z
  rw [Bool.and_eq_true] at z
  have c := of_decide_eq_true z.2
  rw [bitsLine_eq] at c
  omega
theorem op_mulB : OpR X (binaryOp .Mult) (rI CMulB fun i j => .int (i * j)) := opI fun _ _ _ _ _ _ _ hc q => mul_int q hc.ok
theorem call_isinst : CallR X (.builtin "isinstance") (fun xs H Q => ∃ x n t b, xs = [x, .ty n] ∧ TyOf X.K H x t ∧ PySem.W.kitOne X.K t (.type n) = some b ∧ Q (.bl b) H) := by
  intro pins s σ H xs us Q I r h
  obtain ⟨x, n, t, b, rfl, ty, e, q⟩ := h
  obtain ⟨u, w', rfl, r1, r2⟩ := vals2 r
  cases (show w' = Value.type n from r2)
  exact isinst_ok I r1 ty e (fun tk => ⟨.bl b, H, I.tok _, rfl, q⟩)
end
section
variable {K : PySem.W.Frag}
theorem kit_self (T : String) : PySem.W.kitOne K (.type T) (.type T) = some true := by
  unfold PySem.W.kitOne
  rw [if_pos (beq_self_eq_true _)]
theorem kit_of {T S : String} {b : Bool} (h1 : (Value.type T == Value.type S) = false) (h2 : PySem.W.kitMeta S = true) (h3 : (fastBuiltinMro T).map (·.contains (Value.type S)) = some b) : PySem.W.kitOne K (.type T) (.type S) = some b := by
  unfold PySem.W.kitOne
  rw [if_neg (by rw [h1]; exact Bool.false_ne_true)]
  show (if PySem.W.kitMeta S = true then PySem.W.subIn K (.type T) (.type S) else none) = some b
  rw [if_pos h2]
  exact h3
theorem bt_isinstance : bootBuiltins "isinstance" = some (.builtin "isinstance") := by decide +kernel
theorem bt_max : bootBuiltins "max" = some (.builtin "max") := by decide +kernel
theorem bt_min : bootBuiltins "min" = some (.builtin "min") := by decide +kernel
theorem bt_int : bootBuiltins "int" = some (.type "int") := by decide +kernel
theorem bt_bool : bootBuiltins "bool" = some (.type "bool") := by decide +kernel
theorem bt_str : bootBuiltins "str" = some (.type "str") := by decide +kernel
theorem bt_list : bootBuiltins "list" = some (.type "list") := by decide +kernel
theorem bt_tuple : bootBuiltins "tuple" = some (.type "tuple") := by decide +kernel
theorem bt_dict : bootBuiltins "dict" = some (.type "dict") := by decide +kernel
end
end L2

set_option Elab.async false
set_option linter.all false
set_option maxRecDepth 100000
set_option maxHeartbeats 4000000
namespace L2
open PySem PySem.Spec PyProof.Rows
theorem closure_of {scope : Scope} {env : Env} (h : ∀ y ∈ scope.names, y.2 = .free → ∃ c, env.cells.lookup y.1 = some c) :
    ∃ cl, closureFor scope env = pure cl ∧ (∀ x c, cl.lookup x = some c → env.cells.lookup x = some c) ∧ (∀ y ∈ scope.names, y.2 = .free → ∃ c, cl.lookup y.1 = some c) := by
  have key : ∀ (ns : List (Str × NameKind)) (cs : List (Str × Addr)), (∀ y ∈ ns, y.2 = .free → ∃ c, env.cells.lookup y.1 = some c) → (∀ x c, cs.lookup x = some c → env.cells.lookup x = some c) →
      ∃ cl, (forIn ns cs fun (x : Str × NameKind) (cs : List (Str × Addr)) => (if x.2 == .free then do let c ← cellOf env x.1; pure (ForInStep.yield ((x.1, c) :: cs)) else pure (ForInStep.yield cs) : Sem _)) = pure cl ∧
        (∀ x c, cl.lookup x = some c → env.cells.lookup x = some c) ∧ (∀ x c, cs.lookup x = some c → ∃ c, cl.lookup x = some c) ∧ (∀ y ∈ ns, y.2 = .free → ∃ c, cl.lookup y.1 = some c) := by
    intro ns
    induction ns with
    | nil => intro cs _ hc; exact ⟨cs, rfl, hc, fun x c e => ⟨c, e⟩, fun y hy => nomatch hy⟩
    | cons y r ih =>
      intro cs hn hc
      obtain ⟨n, k⟩ := y
      by_cases hk : k = .free
      · subst hk
        obtain ⟨c, e⟩ := hn (n, .free) List.mem_cons_self rfl
        obtain ⟨cl, e1, e2, e3, e4⟩ := ih ((n, c) :: cs) (fun y hy => hn y (List.mem_cons_of_mem _ hy)) (fun x c' q => by
          rw [List.lookup_cons] at q
          cases hx : x == n with
          | true =>
            rw [hx] at q
            cases q
            have : x = n := by simpa using hx
            rw [this]
            exact e
          | false =>
            rw [hx] at q
            exact hc x c' q)
        refine ⟨cl, ?_, e2, fun x c' q => ?_, fun y hy hyk => ?_⟩
        · rw [List.forIn_cons]
          have e' : env.cells.lookup n = some c := e
          simp only [beq_self_eq_true, if_true, cellOf, e']
          exact e1
        · cases hx : x == n with
          | true => exact e3 x c (by rw [List.lookup_cons, hx])
          | false => exact e3 x c' (by rw [List.lookup_cons, hx]; exact q)
        · rcases List.mem_cons.mp hy with rfl | hy
          · exact e3 n c (by rw [List.lookup_cons]; simp)
          · exact e4 y hy hyk
      · obtain ⟨cl, e1, e2, e3, e4⟩ := ih cs (fun y hy => hn y (List.mem_cons_of_mem _ hy)) hc
        refine ⟨cl, ?_, e2, e3, fun y hy hyk => ?_⟩
        · rw [List.forIn_cons]
          have hb : (k == NameKind.free) = false := by simpa using hk
          simp only [hb, Bool.false_eq_true, if_false]
          exact e1
        · rcases List.mem_cons.mp hy with rfl | hy
          · exact absurd hyk hk
          · exact e4 y hy hyk
  obtain ⟨cl, e1, e2, _, e4⟩ := key scope.names [] h (fun x c e => by simp at e)
  refine ⟨cl, ?_, e2, e4⟩
  simp only [closureFor]
  rw [show (forIn scope.names ([] : List (Str × Addr)) fun (x : Str × NameKind) (cs : List (Str × Addr)) => (if x.2 == .free then do let c ← cellOf env x.1; pure (ForInStep.yield ((x.1, c) :: cs)) else pure (ForInStep.yield cs) : Sem _)) = pure cl from e1]
  rfl
theorem relabel_inv {scope : Scope} {env : Env} {x : Str} {k : NameKind} (h : (relabel scope env).names.lookup x = some k) : ∃ k0, scope.names.lookup x = some k0 ∧ (k0 = k ∨ (k0 = .free ∧ k = .cell)) := by
  unfold relabel at h
  dsimp only at h
  revert h
  generalize scope.names = ns
  induction ns with
  | nil => intro h; simp at h
  | cons y r ih =>
    obtain ⟨n, k'⟩ := y
    intro h
    rw [List.map_cons] at h
    cases hx : x == n with
    | true =>
      rw [List.lookup_cons, hx]
      refine ⟨k', rfl, ?_⟩
      dsimp only at h
      split at h
      · rename_i hc
        rw [List.lookup_cons, hx] at h
        cases h
        rw [Bool.and_eq_true, Bool.and_eq_true] at hc
        exact .inr ⟨by simpa using hc.1.1, rfl⟩
      · rw [List.lookup_cons, hx] at h
        cases h
        exact .inl rfl
    | false =>
      rw [List.lookup_cons, hx]
      dsimp only at h
      apply ih
      split at h
      · rw [List.lookup_cons, hx] at h; exact h
      · rw [List.lookup_cons, hx] at h; exact h
theorem relabel_free {scope : Scope} {env : Env} {x : Str} (h : scope.names.lookup x = some .free) (hk : env.scope.kind = .function) (hc : env.kindOf x = some .cell) : (relabel scope env).names.lookup x = some .cell := by
  unfold relabel
  dsimp only
  revert h
  generalize scope.names = ns
  induction ns with
  | nil => intro h; simp at h
  | cons y r ih =>
    obtain ⟨n, k'⟩ := y
    intro h
    rw [List.map_cons]
    cases hx : x == n with
    | true =>
      rw [List.lookup_cons, hx] at h
      cases h
      have : x = n := by simpa using hx
      subst this
      dsimp only
      rw [if_pos (by rw [hk, hc]; rfl), List.lookup_cons, hx]
    | false =>
      rw [List.lookup_cons, hx] at h
      dsimp only
      split
      · rw [List.lookup_cons, hx]; exact ih h
      · rw [List.lookup_cons, hx]; exact ih h
section
variable {prog : Program} {w : World} {A : Around} {R : Result → Shared → Prop} {s : Shared}
theorem compLoop_any {elt target iter : Expr} {ifs : List Expr} {scope : Scope} {pos : Pos} {it acc : Value} {env : Env} (I : Nat → Shared → Prop)
    (turn : ∀ n s, I n s → wpAny (model prog w) A (pyNext it) (fun r s₁ => match r with
      | none => R (.ok .next) s₁
      | some v => wpAny (model prog w) A (letOwnedTupleGo target it v) (fun _ s₀ => wpAny (model prog w) A (assign target env v) (fun _ s₂ =>
          wpAny (model prog w) A (forIn ifs true fun c r => if r = true then do let ok ← isTrue c env (eval c env); pure (ForInStep.yield ok) else pure (ForInStep.yield r)) (fun ok s₃ =>
            if ok = true then wpAny (model prog w) A (eval elt env) (fun x s₄ =>
              wpAny (model prog w) A (call (.builtin "list.append") [acc, x]) (fun _ s₅ => ∃ m, m < n ∧ I m s₅) (fun _ _ => False) s₄) (fun _ _ => False) s₃
            else ∃ m, m < n ∧ I m s₃) (fun _ _ => False) s₂) (fun _ _ => False) s₀) (fun _ _ => False) s₁) (fun _ _ => False) s)
    (n : Nat) (h : I n s) :
    codeAny (model prog w) A (.compLoop (.ListComp elt [⟨target, iter, ifs, 0⟩] scope pos) 0 it acc env) R s := by
  refine codeAny_loop rfl I (fun n s hI => ?_) n h
  show wpAny _ A ((compTurn (.ListComp elt [⟨target, iter, ifs, 0⟩] scope pos) 0 it acc env).onRaise (fun x => do noteFrame x env; theTreesLotGoes x)) _ _ s
  refine wpAny_noted ?_
  rw [compTurn_list]
  refine wpAny_bind (wpAny_standAt (wpAny_bind (wpAny_mono (turn n s hI) (fun r s₁ h₁ => ?_) fun _ _ h' => h'.elim)))
  cases r with
  | none => exact wpAny_pure h₁
  | some v =>
    refine wpAny_bind (wpAny_mono h₁ (fun _ s₀ h₀ => ?_) fun _ _ h' => h'.elim)
    refine wpAny_bind (wpAny_mono h₀ (fun _ s₂ h₂ => wpAny_bind (wpAny_mono h₂ (fun ok s₃ h₃ => ?_) fun _ _ h' => h'.elim)) fun _ _ h' => h'.elim)
    cases ok with
    | false => exact wpAny_pure ⟨rfl, h₃⟩
    | true =>
      exact wpAny_bind (wpAny_bind (wpAny_mono h₃ (fun x s₄ h₄ => wpAny_bind (wpAny_mono h₄ (fun _ s₅ h₅ => wpAny_pure (wpAny_pure ⟨rfl, h₅⟩)) fun _ _ h' => h'.elim)) fun _ _ h' => h'.elim))
end

section
variable {X : Cx} {pins : List (Addr × Obj)} {σ : St} {H : Hp} {s : Shared}
def PCs (X : Cx) (ifs : List Expr) (t : TT) : Prop :=
  ∀ (pins : List (Addr × Obj)) (s : Shared) (σ : St) (H : Hp) (Q : Bool → Hp → Prop), Inv X pins σ H s → t σ H Q →
    wpAny (model X.prog X.w) X.A (forIn ifs true fun c r => if r = true then do let ok ← isTrue c X.env (eval c X.env); pure (ForInStep.yield ok) else pure (ForInStep.yield r)) (TP X pins σ Q) X.xe s
def tYes : TT := fun _ H Q => Q true H
theorem yesT {σ : St} {H : Hp} {A B : Hp → Prop} (h : A H) : tYes σ H (fun b H3 => if b = true then A H3 else B H3) := by
  show (if true = true then A H else B H)
  exact iteT h
theorem pcs_nil : PCs X [] tYes := fun pins s σ H Q I h => wpAny_tests_nil ⟨H, I, h⟩
theorem pcs_one {c : Expr} {t : TT} (h : PT X c t) : PCs X [c] t := fun pins s σ H Q I q => wpAny_tests_one (h pins s σ H Q I q)
end
def pick (n : Nat) (outs : List Nat) (σ : St) : St := List.replicate n none ++ outs.map fun j => (σ[j]?).join
theorem pick_len (n : Nat) (outs : List Nat) (σ : St) : (pick n outs σ).length = n + outs.length := by
  unfold pick
  rw [List.length_append, List.length_replicate, List.length_map]
def cxComp (X : Cx) (N' : List Str) (scope : Scope) (cl : List (Str × Addr)) (C : Addr) (s : Shared) (H : Hp) (ex : List Addr) : Cx where
  prog := X.prog
  w := X.w
  K := X.K
  mg := X.mg
  base := X.base
  A := X.A
  N := N'
  s₀ := s
  H₀ := H
  env := compEnvC scope cl C X.env
  outer := X.stack
  stack := X.stack
  ex := ex
  fn := fun _ => false
  calm := X.calm
  pn := []
  xe := fun _ _ => False
structure CompScope (dsc scope : Scope) (N tgs : List Str) (outs : List Nat) (N' : List Str) : Prop where
  kind : scope.kind = .function
  names : ∀ x ∈ scope.names, x.2 = .local → scope.names.lookup x.1 = some .local
  nocell : ∀ y ∈ scope.names, y.2 ≠ .cell
  free : ∀ y ∈ scope.names, y.2 = .free → dsc.names.lookup y.1 = some .cell
  isN : N' = tgs ++ outs.map (fun j => N.getD j "")
  lts : ∀ j ∈ outs, j < N.length
  outF : ∀ j ∈ outs, scope.names.lookup (N.getD j "") = some .free
  nd : N'.Nodup
def Tgt (n : Nat) (g : TG) : Prop := ∀ x σ H Q, g x σ H Q → g x σ H (fun σ2 H2 => Q σ2 H2 ∧ σ2.length = σ.length ∧ ∀ i, n ≤ i → σ2[i]? = σ[i]?)
theorem tgt_name {n i : Nat} (h : i < n) : Tgt n (gName i) := fun x σ H Q q => ⟨q, by rw [List.length_set], fun j hj => List.getElem?_set_ne (by omega)⟩
def Tgts (n : Nat) (g : TGs) : Prop := ∀ xs σ H Q, g xs σ H Q → g xs σ H (fun σ2 H2 => Q σ2 H2 ∧ σ2.length = σ.length ∧ ∀ i, n ≤ i → σ2[i]? = σ[i]?)
theorem tgts_nil {n : Nat} : Tgts n gNil := fun xs σ H Q ⟨e, q⟩ => ⟨e, q, rfl, fun _ _ => rfl⟩
def TMono (g : TGs) : Prop := ∀ xs σ H Q Q', (∀ σ2 H2, Q σ2 H2 → Q' σ2 H2) → g xs σ H Q → g xs σ H Q'
theorem tgts_name {n i : Nat} {u : TGs} (h : i < n) (hu : Tgts n u) (mu : TMono u) : Tgts n (gCons (gName i) u) := fun xs σ H Q ⟨v, r, e, q⟩ => by
  refine ⟨v, r, e, ?_⟩
  have z := hu r (σ.set i (some v)) H Q q
  refine mu r _ H _ _ (fun σ2 H2 ⟨a, b, c⟩ => ⟨a, ?_, fun j hj => ?_⟩) z
  · rw [b, List.length_set]
  · rw [c j hj, List.getElem?_set_ne (by omega)]
theorem tmono_nil : TMono gNil := fun xs σ H Q Q' h ⟨e, q⟩ => ⟨e, h _ _ q⟩
theorem tmono_name {i : Nat} {u : TGs} (mu : TMono u) : TMono (gCons (gName i) u) := fun xs σ H Q Q' h ⟨v, r, e, q⟩ => ⟨v, r, e, mu r _ H _ _ h q⟩
theorem tgt_tup {K : PySem.W.Frag} {n k : Nat} {t : TGs} (h : Tgts n t) : Tgt n (gTup K k t) := fun x σ H Q ⟨a, xs, e, hq, hl, q⟩ => ⟨a, xs, e, hq, hl, h xs σ H Q q⟩
def tComp (n : Nat) (outs : List Nat) (wi : TI) (g : TG) (tc : TT) (te : TE) : TE := fun σ H Q => wi σ H fun J H1 =>
  ∃ W : Nat → Nat → List V → Hp → Prop, (∃ m, W 0 m [] H1) ∧ ∀ i m acc H, W i m acc H →
    (J.stop i H ∧ acc.length ≤ sizeLine ∧ ∀ l, H l = none → Q (.ref l) (upd H l (.lst acc))) ∨
    (J.go i H ∧ acc.length < sizeLine ∧ ∃ N : List V → Hp → Prop, (∀ acc' H', N acc' H' → ∃ m', m' < m ∧ W (i + 1) m' acc' H') ∧ ∀ x H', J.yld i H x H' → g x (pick n outs σ) H' fun σ2 H2 => tc σ2 H2 fun b H3 =>
      if b = true then te σ2 H3 fun y H4 => N (acc ++ [y]) H4 else N acc H3)
section
variable {X : Cx} {pins : List (Addr × Obj)} {σ : St} {H2 : Hp} {s2 : Shared} {dsc scope : Scope} {tgs N' : List Str} {outs : List Nat} {cl : List (Str × Addr)} {fp : List Addr} {C D : Addr} {h1 : Heap} {tk : Nat} {mC : Str → Option Value}
theorem comp_start (S : CompScope dsc scope X.N tgs outs N') (hsc : X.env.scope = dsc) (I2 : Inv X pins σ H2 s2) (f2 : ∀ b ∈ fp, FpOk X pins H2 b) (hfp : ∀ b ∈ fp, b < s2.heap.objs.size)
    (hcl1 : ∀ x c, cl.lookup x = some c → X.env.cells.lookup x = some c) (hcl2 : ∀ y ∈ scope.names, y.2 = .free → ∃ c, cl.lookup y.1 = some c)
    (hC : s2.heap.objs.size ≤ C) (kp : ∀ b o, s2.heap.get? b = some o → h1.get? b = some o) (nC : h1.Ns C mC) :
    Inv (cxComp X N' scope cl C s2 H2 fp) [] (pick tgs.length outs σ) H2 { s2 with heap := h1, toks := tk } := by
  have freeAt : ∀ x, scope.names.lookup x = some .free → (relabel scope X.env).names.lookup x = some .cell := fun x e =>
    relabel_free e I2.ok.kind (by show X.env.scope.names.lookup x = some .cell; rw [hsc]; exact S.free (x, .free) (PySem.mem_of_lookup e) rfl)
  refine ⟨⟨I2.ok.mod, ?_, I2.ok.glob, I2.ok.blt, hC, fun x y c e1 e2 => I2.ok.inj x y c (hcl1 x c e1) (hcl1 y c e2), fun x hx => ?_, (fun x c h => nomatch h), I2.ok.hd, I2.ok.frames, .inl rfl, fun b hb => ?_, I2.bs, Nat.le_trans I2.ok.bsz I2.sz, fun b o e hb => ?_, fun b hb => ?_, I2.stack, I2.stkFree⟩,
    rfl, I2.bare, Un.kept kp, ⟨mC, nC, fun i x v e1 e2 e3 => ?_⟩, fun x c e => ?_, I2.hok.fresh hC, fun x c e => I2.freeC x c (hcl1 x c e), fun p hp => absurd (show p ∈ ([] : List (Addr × Obj)) from hp) (by simp), I2.hok.kept kp, ?_⟩
  · exact S.kind
  · have hx' : (relabel scope X.env).names.lookup x = some .cell ∨ (relabel scope X.env).names.lookup x = some .free := hx
    have z : scope.names.lookup x = some .free := by
      rcases hx' with hx' | hx'
      · obtain ⟨k0, e, h | ⟨h, _⟩⟩ := relabel_inv hx'
        · rw [h] at e
          exact absurd rfl (S.nocell _ (PySem.mem_of_lookup e))
        · rw [h] at e; exact e
      · obtain ⟨k0, e, h | ⟨h, _⟩⟩ := relabel_inv hx'
        · rw [h] at e; exact e
        · rw [h] at e; exact e
    exact hcl2 (x, .free) (PySem.mem_of_lookup z) rfl
  · refine ⟨fun z => ?_, fun x c e => (f2 b hb).2.2.2.2.1 x c (hcl1 x c e)⟩
    have z' : b = C := z
    exact absurd (Nat.lt_of_lt_of_le (hfp b hb) hC) (by rw [z']; exact Nat.lt_irrefl _)
  · rcases (f2 b hb).2.2.2.1 with z | z
    · exact I2.ok.noex b o e z
    · exact absurd (Nat.lt_of_lt_of_le (Heap.lt_size e) (Nat.le_trans I2.ok.bsz z)) (Nat.lt_irrefl _)
  · intro z
    rcases List.mem_cons.mp (I2.stkSub b z) with z | z
    · exact (f2 b hb).2.1 z
    · exact (f2 b hb).2.2.1 z
  · have e2' : (List.replicate tgs.length (none : Option V) ++ outs.map fun j => (σ[j]?).join)[i]? = some (some v) := e2
    have e1' : N'[i]? = some x := e1
    by_cases hi : i < tgs.length
    · rw [List.getElem?_append_left (by rw [List.length_replicate]; exact hi), List.getElem?_replicate, if_pos hi] at e2'
      cases e2'
    · rw [List.getElem?_append_right (by rw [List.length_replicate]; omega), List.length_replicate, List.getElem?_map] at e2'
      rw [S.isN, List.getElem?_append_right (by omega), List.getElem?_map] at e1'
      cases ej : outs[i - tgs.length]? with
      | none => rw [ej] at e2'; cases e2'
      | some j =>
        rw [ej] at e1' e2'
        have hj : j ∈ outs := List.mem_of_getElem? ej
        have ex : X.N.getD j "" = x := Option.some.inj e1'
        have ev : (σ[j]?).join = some v := Option.some.inj e2'
        have ev' : σ[j]? = some (some v) := by
          cases q : σ[j]? with
          | none => rw [q] at ev; cases ev
          | some o => rw [q] at ev; exact congrArg some ev
        have eN : X.N[j]? = some x := by
          have hl := S.lts j hj
          rw [← ex, List.getD_eq_getElem?_getD, List.getElem?_eq_getElem hl]
          rfl
        have fx : scope.names.lookup x = some .free := by rw [← ex]; exact S.outF j hj
        have cx : X.env.scope.names.lookup x = some .cell := by rw [hsc]; exact S.free (x, .free) (PySem.mem_of_lookup fx) rfl
        obtain ⟨m, hn, hl⟩ := I2.loc
        obtain ⟨u, ru, lk⟩ := hl j x v eN ev' (.inr (.inl cx))
        refine ⟨u, ru, ?_⟩
        rcases lk with ⟨k, _⟩ | ⟨k, c, ec, ⟨oc, hoc, hdc⟩⟩
        · have k' : X.env.scope.names.lookup x = some .local := k
          rw [cx] at k'; cases k'
        · obtain ⟨c', ec'⟩ := hcl2 (x, .free) (PySem.mem_of_lookup fx) rfl
          have ecc := hcl1 x c' ec'
          rw [ec] at ecc
          cases ecc
          exact .inr ⟨.inl (freeAt x fx), c, ec', oc, kp _ _ hoc, hdc⟩
  · obtain ⟨v, oc, hoc, hdc⟩ := I2.cell x c (hcl1 x c e)
    exact ⟨v, oc, kp _ _ hoc, hdc⟩
  · show (pick tgs.length outs σ).length = N'.length
    rw [pick_len, S.isN, List.length_append, List.length_map]
theorem comp_end {σ5 : St} {H5 : Hp} {s5 : Shared} {acc : List V} {its : List Value} {n : Nat} (I2 : Inv X pins σ H2 s2) (I5 : Inv (cxComp X N' scope cl C s2 H2 fp) [] σ5 H5 s5) (f2 : ∀ b ∈ fp, FpOk X pins H2 b)
    (hD : s2.heap.objs.size ≤ D) (eD : s5.heap.get? D = some { cls := .type "list", data := .seq its.toArray n }) (r : Vals acc its) (hz : acc.length ≤ sizeLine) (hn : H5 D = none) : Inv X pins σ (upd H5 D (.lst acc)) s5 := by
  have ne : ∀ b o, s2.heap.get? b = some o → b ≠ D := fun b o e z => absurd (Nat.lt_of_lt_of_le (Heap.lt_size e) (by rw [z]; exact hD)) (Nat.lt_irrefl _)
  refine I2.call' (ch := fp) I5.os ⟨fun b o e nn hb hx => ?_, fun b o e nn hb hx => ?_, fun b o e nn hx => ?_, fun b o e hx => ?_, fun b xs e => ?_, fun b o u e => ?_, fun b ps e => ?_⟩ (fun b u e => ?_) I5.bare fun b hb => ⟨(f2 b hb).2.2.2.1, (f2 b hb).2.1, (f2 b hb).2.2.2.2.1, (f2 b hb).2.2.2.2.2⟩
  · exact I5.base.keep b o e nn hb hx
  · exact I5.base.slot b o e nn hb hx
  · rw [upd_ne (ne b o e)]
    exact I5.base.free b o e nn hx
  · exact I5.base.there b o e hx
  · have q := I5.base.tups b xs e
    rw [upd_ne (ne_of_none q hn)]
    exact q
  · have q := I5.base.frzs b o u e
    rw [upd_ne (ne_of_none q hn)]
    exact q
  · obtain ⟨more, q⟩ := I5.base.tbls b ps e
    refine ⟨more, ?_⟩
    rw [upd_ne (ne_of_none q hn)]
    exact q
  · by_cases hb : b = D
    · subst hb
      rw [upd_same] at e
      cases e
      exact ⟨hz, its, n, r, eD⟩
    · rw [upd_ne hb] at e
      exact (I5.hok b u e).stay (fun c v _ q => q) (fun c q => by rw [upd_ne (ne_of_none q hn)]; exact q) fun c xs q => by rw [upd_ne (ne_of_none q hn)]; exact q
end

theorem pick_weak {n : Nat} {outs : List Nat} {σ σ6 : St} (k6 : ∀ i, n ≤ i → σ6[i]? = (pick n outs σ)[i]?) : ∀ (i : Nat) v, (pick n outs σ)[i]? = some (some v) → σ6[i]? = some (some v) := fun i v e => by
  by_cases hi : n ≤ i
  · rw [k6 i hi]; exact e
  · unfold pick at e
    rw [List.getElem?_append_left (by rw [List.length_replicate]; omega), List.getElem?_replicate, if_pos (by omega)] at e
    cases e
section
variable {X : Cx} {tg elt iter : Expr} {ifs : List Expr} {dsc scope : Scope} {tgs N' : List Str} {outs : List Nat} {wi : TI} {g : TG} {tc : TT} {te : TE} {pos : Pos}
theorem comp_block {pins : List (Addr × Obj)} {σ : St} {H2 : Hp} {s2 : Shared} {cl : List (Str × Addr)} {it : Addr} {fp : List Addr} {tn : Nat → Heap → Prop} {J : It} (S : CompScope dsc scope X.N tgs outs N') (hsc : X.env.scope = dsc) (hc : X.calm = true)
    (hg : ∀ cl C s H ex, PG (cxComp X N' scope cl C s H ex) tg g) (hgt : Tgt tgs.length g) (hcs : ∀ cl C s H ex, PCs (cxComp X N' scope cl C s H ex) ifs tc) (he : ∀ cl C s H ex, PE (cxComp X N' scope cl C s H ex) elt te)
    (hcl1 : ∀ x c, cl.lookup x = some c → X.env.cells.lookup x = some c) (hcl2 : ∀ y ∈ scope.names, y.2 = .free → ∃ c, cl.lookup y.1 = some c)
    (I2 : Inv X pins σ H2 s2) (T : Turn X.prog X.w X.K tg J fp it tn) (st2 : tn 0 s2.heap) (f2 : ∀ b ∈ fp, FpOk X pins H2 b)
    {W : Nat → Nat → List V → Hp → Prop} {m0 : Nat} (w0 : W 0 m0 [] H2) {Qf : List V → Hp → Prop}
    (turn : ∀ i m acc H, W i m acc H → (J.stop i H ∧ acc.length ≤ sizeLine ∧ Qf acc H) ∨ (J.go i H ∧ acc.length < sizeLine ∧ ∃ N : List V → Hp → Prop, (∀ acc' H', N acc' H' → ∃ m', m' < m ∧ W (i + 1) m' acc' H') ∧ ∀ x H', J.yld i H x H' → g x (pick tgs.length outs σ) H' fun σ2 H2 => tc σ2 H2 fun b H3 =>
      if b = true then te σ2 H3 fun y H4 => N (acc ++ [y]) H4 else N acc H3))
    {E : Value → Shared → Prop} {RR : Value → Addr → Result → Shared → Prop}
    (fin : ∀ D C s5 mC acc H5, Inv X pins σ (upd H5 D (.lst acc)) s5 → H5 D = none → Qf acc H5 → s5.heap.Ns C mC → FpOk X pins (upd H5 D (.lst acc)) C → RR (.ref D) C (.ok .next) s5) :
    wpAny (model X.prog X.w) X.A (newList []) (fun acc s₃ => wpAny (model X.prog X.w) X.A (newFunctionEnv scope X.env.globals cl [] X.env.qual none .none (some X.env)) (fun cenv s₄ =>
      codeAny (model X.prog X.w) X.A (.compStart (.ListComp elt [⟨tg, iter, ifs, 0⟩] scope pos) 0 (.ref it) acc { cenv with scope := relabel scope X.env }) (RR acc cenv.locals) s₄) E s₃) E s2 := by
  have hfp : ∀ b ∈ fp, b < s2.heap.objs.size := fun b hb => let ⟨o, e, _⟩ := T.obj 0 _ st2 b hb; Heap.lt_size e
  refine wpAny_newObj_type (wpAny_newFunctionEnv S.nocell (by intro y hy; simp at hy) (fun h₁ hns₁ hsb₁ => ?_) S.kind)
  dsimp only at hns₁ hsb₁ ⊢
  generalize hHH : s2.heap.push { cls := .type "list", dict := none, data := .seq ([] : List Value).toArray } = HH at hns₁ hsb₁ ⊢
  have hC : HH.objs.size = s2.heap.objs.size + 1 := by rw [← hHH, Heap.size_push]
  have hDC : s2.heap.objs.size ≠ HH.objs.size := by rw [hC]; exact Nat.ne_of_lt (Nat.lt_succ_self _)
  have hCle : s2.heap.objs.size ≤ HH.objs.size := by rw [hC]; exact Nat.le_succ _
  have old : ∀ b o, s2.heap.get? b = some o → h₁.get? b = some o := fun b o e => hsb₁.extBut b o (by rw [hC]; exact Nat.ne_of_lt (Nat.lt_succ_of_lt (Heap.lt_size e))) (Heap.get?_push_of_some _ (hHH ▸ Heap.get?_push_of_some _ e))
  have hacc : h₁.get? s2.heap.objs.size = some { cls := .type "list", data := .seq ([] : List Value).toArray 0 } := hsb₁.extBut _ _ hDC (Heap.get?_push_of_some _ (hHH ▸ Heap.get?_push_size _ rfl))
  have hDfp : ∀ b ∈ fp, s2.heap.objs.size ≠ b := fun b hb => Nat.ne_of_gt (hfp b hb)
  have fresh2 : H2 s2.heap.objs.size = none := I2.hok.fresh (Nat.le_refl _)
  have I4 := comp_start (tk := s2.toks + ([] : List (Str × Value)).length) S hsc I2 f2 hfp hcl1 hcl2 hCle old hns₁
  have st1 : tn 0 h₁ := T.keep 0 _ _ st2 fun b hb o e => old b o e
  generalize hCC : HH.objs.size = C at *
  generalize hDD : s2.heap.objs.size = D at *
  have nofs : D ∉ (cxComp X N' scope cl C s2 H2 fp).fs := fun z => by
    obtain ⟨_, o, ho, _⟩ := I2.stack.mem (show D ∈ frs X.stack from z)
    have := Heap.lt_size ho
    rw [hDD] at this
    exact Nat.lt_irrefl _ this
  have pinD : ∀ {σ' : St} {H' : Hp} {s' : Shared} {its : List Value} {n : Nat}, Inv (cxComp X N' scope cl C s2 H2 fp) [] σ' H' s' → s'.heap.get? D = some { cls := .type "list", data := .seq its.toArray n } → H' D = none →
      Inv (cxComp X N' scope cl C s2 H2 fp) [(D, { cls := .type "list", data := .seq its.toArray n })] σ' H' s' := fun {σ' H' s' its n} J e hn => J.pins_of fun p hp => by
    have ep : p = (D, { cls := .type "list", data := .seq its.toArray n }) := by simpa using hp
    subst ep
    exact ⟨e, hn, hDC, nofs, fun v z => by cases z⟩
  have stat : ∀ {H' : Hp} {o : Obj}, (∀ b ∈ fp, H' b = none) → ∀ b ∈ fp, FpOk (cxComp X N' scope cl C s2 H2 fp) [(D, o)] H' b := fun {H' o} hn b hb => by
    refine ⟨hn b hb, (I4.ok.exf b hb).1, I4.ok.exfs b hb, .inl hb, (I4.ok.exf b hb).2, fun p hp => ?_⟩
    have hp' : p ∈ ([] : List (Addr × Obj)) ++ [(D, o)] := hp
    have ep : p = (D, o) := by simpa using hp'
    subst ep
    exact hDfp b hb
  have loop : ∀ s₃ : Shared, s₃ = { s2 with heap := h₁, toks := s2.toks + ([] : List (Str × Value)).length } →
      codeAny (model X.prog X.w) X.A (.compLoop (.ListComp elt [⟨tg, iter, ifs, 0⟩] scope pos) 0 (.ref it) (.ref D) (compEnvC scope cl C X.env)) (RR (.ref D) C) s₃ := by
    rintro s₃ rfl
    refine compLoop_any (fun m s' => ∃ i acc H its n, Inv (cxComp X N' scope cl C s2 H2 fp) [(D, { cls := .type "list", data := .seq its.toArray n })] (pick tgs.length outs σ) H s' ∧ tn i s'.heap ∧ (∀ b ∈ fp, H b = none) ∧ Vals acc its ∧ W i m acc H) ?_ m0
      ⟨0, [], H2, [], 0, pinD I4 hacc fresh2, st1, fun b hb => (f2 b hb).1, .nil, w0⟩
    rintro m s' ⟨i, acc, H, its, n, I', st', fr', rD, w'⟩
    rcases turn i m acc H w' with ⟨stop, hz, q⟩ | ⟨go, hz, N, hN, step⟩
    · refine thn (T.done (cxComp X N' scope cl C s2 H2 fp) rfl rfl rfl hc i _ s' _ H _ I' (stat fr') st' stop) fun r s4 ⟨hr, J4⟩ => ?_
      subst hr
      obtain ⟨eD, nD, _⟩ := J4.pin (D, { cls := .type "list", data := .seq its.toArray n }) (List.mem_append_right _ List.mem_cons_self)
      obtain ⟨mC, nsC, _⟩ := J4.loc
      have I5 : Inv X pins σ (upd H D (.lst acc)) s4 := comp_end (D := D) I2 (J4.pins_of (pins' := []) (fun p hp => nomatch hp)) f2 (by rw [hDD]; exact Nat.le_refl _) eD rD hz nD
      refine fin D C s4 mC acc H I5 nD q nsC (I2.fpOk (by rw [hDD]; exact hCle) ?_)
      rw [upd_ne (Ne.symm hDC)]
      exact J4.free
    · refine thn (T.item (cxComp X N' scope cl C s2 H2 fp) rfl rfl rfl hc i _ s' _ H _ I' (stat fr') st' go) fun r s4 ⟨u, hr, h4⟩ => ?_
      subst hr
      dsimp only
      refine thn h4 fun _ s5 ⟨x, H5, I5, r5, y5, st5, fr5⟩ => ?_
      have I5' := I5.pinned (stat fr5) (T.obj _ _ st5)
      refine thn (hg cl C s2 H2 fp _ s5 _ H5 x u _ I5' r5 (hgt x _ H5 _ (step x H5 y5))) fun _ s6 ⟨σ6, H6, I6, q6, l6, k6⟩ => ?_
      refine thn (hcs cl C s2 H2 fp _ s6 σ6 H6 _ I6 q6) fun b s7 ⟨H7, I7, q7⟩ => ?_
      have tail : ∀ {H' : Hp} {s' : Shared}, Inv (cxComp X N' scope cl C s2 H2 fp) ([(D, { cls := .type "list", data := .seq its.toArray n })] ++ pinsAt fp s5.heap) σ6 H' s' → (∀ b ∈ fp, ∀ o, s5.heap.get? b = some o → s'.heap.get? b = some o) ∧ ∀ b ∈ fp, H' b = none := fun {H' s'} J =>
        ⟨fun b hb o e => (J.pin (b, o) (List.mem_append_right _ (List.mem_append_right _ (mem_pinsAt hb e)))).1, fun b hb => by
          obtain ⟨o, e, d⟩ := T.obj _ _ st5 b hb
          exact (J.pin (b, o) (List.mem_append_right _ (List.mem_append_right _ (mem_pinsAt hb e)))).2.1⟩
      cases b with
      | false =>
        rw [if_neg Bool.false_ne_true] at q7 ⊢
        obtain ⟨m', hm, w7⟩ := hN _ _ q7
        obtain ⟨t1, t2⟩ := tail I7
        exact ⟨m', hm, i + 1, acc, H7, its, n, I7.unpinned.weak l6.symm (pick_weak k6), T.keep _ _ _ st5 t1, t2, rD, w7⟩
      | true =>
        rw [if_pos rfl] at q7 ⊢
        refine thn (he cl C s2 H2 fp _ s7 σ6 H7 _ I7 q7) fun v s8 ⟨y, H8, I8, r8, q8⟩ => ?_
        obtain ⟨m', hm, w8⟩ := hN _ _ q8
        obtain ⟨t1, t2⟩ := tail I8
        obtain ⟨eD, nD, _⟩ := I8.pin (D, { cls := .type "list", data := .seq its.toArray n }) (List.mem_append_right _ (List.mem_append_left _ List.mem_cons_self))
        have hl := rD.length
        refine call_meets F.slot_list_append ⟨_, eD, rfl⟩ F.entry_list_append (F.args_list_append_2 _ _) (PySem.list_append D its.toArray n v (by rw [List.size_toArray]; omega)) ⟨eD, ?_⟩
        have q := PySem.IsL.update eD (·.push v)
        have eA : its.toArray.push v = (its ++ [v]).toArray := by simp
        rw [eA] at q
        refine ⟨m', hm, i + 1, acc ++ [y], H8, its ++ [v], _, pinD (Inv.weak (Inv.turned (it := D) (I8.pins_of (pins' := []) (fun p hp => nomatch hp)) (fun b o hb e => (Heap.get?_update_other _ _ (Ne.symm hb)).trans e) nD hDC (.inr (by show s2.heap.objs.size ≤ D; rw [hDD]; exact Nat.le_refl _)) (fun x c e z => ?_) (fun p hp => nomatch hp)) l6.symm (pick_weak k6)) q nD,
          T.keep _ _ _ st5 (fun b hb o e => (Heap.get?_update_other _ _ (hDfp b hb)).trans (t1 b hb o e)), t2, rD.append (.cons r8 .nil), w8⟩
        obtain ⟨v', oc, hoc, hdc⟩ := I8.cell x c e
        rw [z, eD] at hoc
        cases hoc
        cases hdc
  exact codeAny_compStart_list (loop _ rfl) (T.self X.A 0 _ _ _ st1 (loop _ rfl))
theorem pe_comp {N : List Str} (S : CompScope dsc scope N tgs outs N') (hi : PI X tg iter wi) (hg : ∀ cl C s H ex, PG (cxComp X N' scope cl C s H ex) tg g) (hgt : Tgt tgs.length g) (hcs : ∀ cl C s H ex, PCs (cxComp X N' scope cl C s H ex) ifs tc)
    (he : ∀ cl C s H ex, PE (cxComp X N' scope cl C s H ex) elt te) (hN0 : X.N = N := by rfl) (hsc : X.env.scope = dsc := by rfl) (hc : X.calm = true := by rfl) (hs : ∀ x, foldedSetIterable iter X.env x = pure x := by intro _; rfl) :
    PE X (.ListComp elt [⟨tg, iter, ifs, 0⟩] scope pos) (tComp tgs.length outs wi g tc te) := by
  subst hN0
  intro pins s σ H Q I h
  obtain ⟨cl, e1, e2, e3⟩ := closure_of (scope := scope) (env := X.env) (fun y hy hk => I.ok.has y.1 (.inl (by show X.env.scope.names.lookup y.1 = _; rw [hsc]; exact S.free y hy hk)))
  rw [eval_ListComp]
  refine wpAny_comprehension_free (use := none) rfl hs e1 S.kind S.names (wpAny_mono (hi pins s σ H _ I h) (fun xv s1 h1 => wpAny_mono h1 (fun itv s2 h2 => ?_) fun _ _ e => e) fun _ _ e => e)
  obtain ⟨it, fp, tn, J, H2, rfl, I2, T, st2, f2, W, ⟨m0, w0⟩, turn⟩ := h2
  refine comp_block (RR := fun acc C => compPost (model X.prog X.w) X.A X.xe none (EP X pins σ Q) acc C) S hsc hc hg hgt hcs he e2 e3 I2 T st2 f2 w0 (Qf := fun acc H => ∀ l, H l = none → Q (.ref l) (upd H l (.lst acc))) turn ?_
  intro D C s5 mC acc H5 I5 nD q nsC hf
  refine ⟨mC, nsC, fun h' hs' => ⟨.ref D, _, ?_, rfl, q D nD⟩⟩
  exact I5.turned (it := C) (t' := s5.toks) (fun b o hb e => (hs'.2 b hb).trans e) hf.1 hf.2.1 hf.2.2.2.1 hf.2.2.2.2.1 hf.2.2.2.2.2
theorem ps_setC {N : List Str} {i : Nat} {x : Str} {px spos : Pos} (hN : X.N.Nodup) (hx : X.N[i]? = some x) (hl : X.env.scope.names.lookup x = some .local) (S : CompScope dsc scope N tgs outs N') (hi : PI X tg iter wi) (hg : ∀ cl C s H ex, PG (cxComp X N' scope cl C s H ex) tg g) (hgt : Tgt tgs.length g)
    (hcs : ∀ cl C s H ex, PCs (cxComp X N' scope cl C s H ex) ifs tc) (he : ∀ cl C s H ex, PE (cxComp X N' scope cl C s H ex) elt te)
    (hsw : swapsWith (.ListComp elt [⟨tg, iter, ifs, 0⟩] scope pos) (some (.Name x px)) spos.line X.env = pure true := by rfl)
    (hN0 : X.N = N := by rfl) (hsc : X.env.scope = dsc := by rfl) (hc : X.calm = true := by rfl) (hs : ∀ x, foldedSetIterable iter X.env x = pure x := by intro _; rfl) :
    PS X (.Assign [.Name x px] (.ListComp elt [⟨tg, iter, ifs, 0⟩] scope pos) spos) (tAsg (tComp tgs.length outs wi g tc te) (gName i)) := by
  subst hN0
  intro pins s σ H Dn I h
  obtain ⟨cl, e1, e2, e3⟩ := closure_of (scope := scope) (env := X.env) (fun y hy hk => I.ok.has y.1 (.inl (by show X.env.scope.names.lookup y.1 = _; rw [hsc]; exact S.free y hy hk)))
  rw [exec_Assign_Name_used _ _ _ _ hsw]
  refine wpAny_bind (wpAny_standAt (wpAny_bind ?_))
  show wpAny _ X.A (do let _ ← comprehension (.ListComp elt [⟨tg, iter, ifs, 0⟩] scope pos) scope X.env _ (newList []) false (eval iter X.env) (some (assign (.Name x px) X.env))) _ _ s
  refine wpAny_bind (wpAny_mono (wpAny_comprehension_free (use := some (assign (.Name x px) X.env)) (Q := fun _ s' => SP X pins Dn .next s') rfl hs e1 S.kind S.names
    (wpAny_mono (hi pins s σ H _ I h) (fun xv s1 h1 => wpAny_mono h1 (fun itv s2 h2 => ?_) fun _ _ e => e) fun _ _ e => e)) (fun _ s' hq => wpAny_pure (wpAny_pure hq)) fun _ _ e => e)
  obtain ⟨it, fp, tn, J, H2, rfl, I2, T, st2, f2, W, ⟨m0, w0⟩, turn⟩ := h2
  refine comp_block (RR := fun acc C => compPost (model X.prog X.w) X.A X.xe (some (assign (.Name x px) X.env)) (fun _ s' => SP X pins Dn .next s') acc C) S hsc hc hg hgt hcs he e2 e3 I2 T st2 f2 w0
    (Qf := fun acc H => ∀ l, H l = none → Dn.nx (σ.set i (some (.ref l))) (upd H l (.lst acc))) turn ?_
  intro D C s5 mC acc H5 I5 nD q nsC hf
  show wpAny _ X.A (assign (.Name x px) X.env (.ref D)) _ _ _
  refine wpAny_assign_Name (store_ok2 I5 hN hx (.inl hl) (show RelV (.ref D) (.ref D) from rfl) (fun s' I' ⟨a, sb, ha⟩ => ?_) (.inr hl))
  have hCa : C ≠ a := by
    rcases ha with ha | ha
    · rw [ha]; exact hf.2.1
    · exact Ne.symm (hf.2.2.2.2.1 x a ha)
  refine ⟨mC, nsC.sameBut sb hCa, fun h' hs' => ⟨_, _, I'.turned (it := C) (t' := s'.toks) (fun b o hb e => (hs'.2 b hb).trans e) hf.1 hf.2.1 hf.2.2.2.1 hf.2.2.2.2.1 hf.2.2.2.2.2, q D nD⟩⟩
end

theorem comp_list {K : PySem.W.Frag} {a : Addr} {xs : List V} {g : TG} {tc : TT} {te : TE} {σ' : St} {H1 : Hp} {Fin : List V → Hp → Prop} (Pv : Nat → List V → Hp → Prop) (hz : xs.length ≤ 1000000) (h0 : Pv 0 [] H1) (hl : ∀ i acc H, i ≤ xs.length → Pv i acc H → SqL K H a xs ∧ acc.length ≤ i)
    (hs : ∀ i x acc H, xs[i]? = some x → Pv i acc H → g x σ' H fun σ2 H2 => tc σ2 H2 fun b H3 => if b = true then te σ2 H3 fun y H4 => Pv (i + 1) (acc ++ [y]) H4 else Pv (i + 1) acc H3) (hd : ∀ acc H, Pv xs.length acc H → Fin acc H) :
    ∃ W : Nat → Nat → List V → Hp → Prop, (∃ m, W 0 m [] H1) ∧ ∀ i m acc H, W i m acc H → ((Itl K a).stop i H ∧ acc.length ≤ sizeLine ∧ Fin acc H) ∨
      ((Itl K a).go i H ∧ acc.length < sizeLine ∧ ∃ N : List V → Hp → Prop, (∀ acc' H', N acc' H' → ∃ m', m' < m ∧ W (i + 1) m' acc' H') ∧ ∀ x H', (Itl K a).yld i H x H' → g x σ' H' fun σ2 H2 => tc σ2 H2 fun b H3 => if b = true then te σ2 H3 fun y H4 => N (acc ++ [y]) H4 else N acc H3) := by
  have zl : (1000000 : Nat) < sizeLine := by rw [sizeLine_eq]; decide
  refine ⟨fun i m acc H => m = xs.length - i ∧ i ≤ xs.length ∧ Pv i acc H, ⟨xs.length, by simp, Nat.zero_le _, h0⟩, ?_⟩
  rintro i m acc H ⟨rfl, hi, p⟩
  obtain ⟨q, al⟩ := hl i acc H hi p
  by_cases hlt : i < xs.length
  · refine .inr ⟨⟨xs, xs[i], q, by simp [hlt]⟩, by omega, Pv (i + 1), fun acc' H' p' => ⟨xs.length - (i + 1), by omega, rfl, hlt, p'⟩, fun x H' y => ?_⟩
    obtain ⟨e, y⟩ := y
    subst e
    exact hs i x acc _ (y xs q) p
  · have e : i = xs.length := by omega
    subst e
    exact .inl ⟨⟨xs, q, Nat.le_refl _⟩, by omega, hd acc H p⟩
theorem comp_range {lo : Int} {n : Nat} {g : TG} {tc : TT} {te : TE} {σ' : St} {H1 : Hp} {Fin : List V → Hp → Prop} (Pv : Nat → List V → Hp → Prop) (hz : n ≤ 1000000) (h0 : Pv 0 [] H1) (hl : ∀ i acc H, i ≤ n → Pv i acc H → acc.length ≤ i)
    (hs : ∀ i acc H, i < n → Pv i acc H → g (.int (lo + i)) σ' H fun σ2 H2 => tc σ2 H2 fun b H3 => if b = true then te σ2 H3 fun y H4 => Pv (i + 1) (acc ++ [y]) H4 else Pv (i + 1) acc H3) (hd : ∀ acc H, Pv n acc H → Fin acc H) :
    ∃ W : Nat → Nat → List V → Hp → Prop, (∃ m, W 0 m [] H1) ∧ ∀ i m acc H, W i m acc H → ((Itr lo n).stop i H ∧ acc.length ≤ sizeLine ∧ Fin acc H) ∨
      ((Itr lo n).go i H ∧ acc.length < sizeLine ∧ ∃ N : List V → Hp → Prop, (∀ acc' H', N acc' H' → ∃ m', m' < m ∧ W (i + 1) m' acc' H') ∧ ∀ x H', (Itr lo n).yld i H x H' → g x σ' H' fun σ2 H2 => tc σ2 H2 fun b H3 => if b = true then te σ2 H3 fun y H4 => N (acc ++ [y]) H4 else N acc H3) := by
  have zl : (1000000 : Nat) < sizeLine := by rw [sizeLine_eq]; decide
  refine ⟨fun i m acc H => m = n - i ∧ i ≤ n ∧ Pv i acc H, ⟨n, by simp, Nat.zero_le _, h0⟩, ?_⟩
  rintro i m acc H ⟨rfl, hi, p⟩
  have al := hl i acc H hi p
  by_cases hlt : i < n
  · refine .inr ⟨hlt, by omega, Pv (i + 1), fun acc' H' p' => ⟨n - (i + 1), by omega, rfl, hlt, p'⟩, fun x H' y => ?_⟩
    obtain ⟨e, y⟩ := y
    subst e y
    exact hs i acc _ hlt p
  · have e : i = n := by omega
    subst e
    exact .inl ⟨Nat.le_refl _, by omega, hd acc H p⟩
end L2

set_option Elab.async false
set_option linter.all false
set_option maxRecDepth 100000
set_option maxHeartbeats 4000000
namespace L2
open PySem PySem.Spec PyProof.Rows
section
variable {X : Cx}
theorem call_maxL (hc : X.calm = true) : CallR X (.builtin "max") (fun xs H Q => ∃ p ns, xs = [.ref p] ∧ SqL X.K H p (ns.map V.int) ∧ ns ≠ [] ∧ ∀ M, M ∈ ns → (∀ a ∈ ns, a ≤ M) → Q (.int M) H) := by
  intro pins s σ H xs us Q I r h
  obtain ⟨p, ns, rfl, hq, hne, q⟩ := h
  obtain ⟨u, rfl, rx⟩ := vals1 r
  cases rx
  obtain ⟨its, r', pl, hz⟩ := I.list hq
  have hi := intsAre_of r'
  obtain ⟨zs, e⟩ := hi.allInts.items
  have hns : ns = zs.toList.map (·.1) := by rw [← hi.numsOf, ← nums_intItems, ← e]
  have hsz : 0 < zs.size := by
    have h3 := List.length_pos_iff.mpr hne
    rw [hns, List.length_map, Array.length_toList] at h3
    exact h3
  have pl' := pl.isList
  rw [e] at pl'
  refine max_intList (I.ok.hd hc) pl' hsz fun v h' tk hv hk => ?_
  obtain ⟨t, rfl⟩ := intItems_at hv
  obtain ⟨h1, h2⟩ := argBest_gt (numAt zs) (zs.size - 1)
  refine ⟨.int _, H, I.kept hk, ⟨t, rfl⟩, q _ ?_ fun a ha => ?_⟩
  · rw [hns, numAt_eq]
    exact getD_mem (by rw [List.length_map, Array.length_toList]; omega)
  · rw [hns] at ha
    obtain ⟨j, hj, rfl⟩ := mem_getD ha
    rw [List.length_map, Array.length_toList] at hj
    rw [← numAt_eq]
    exact h2 j (by omega)
theorem op_eqNil (hu : X.A.units < cLine) : OpR X (compareOp .Eq) (fun x y H Q => ∃ p b xs, x = .ref p ∧ y = .ref b ∧ SqL X.K H p xs ∧ SqL X.K H b [] ∧ Q (.bl xs.isEmpty) H) := by
  intro pins s σ H x y v u Q I rx ry h
  obtain ⟨p, b, xs, rfl, rfl, h1, h2, q⟩ := h
  cases rx
  cases ry
  obtain ⟨its, r1, p1, _⟩ := I.list h1
  obtain ⟨its2, r2, p2, _⟩ := I.list h2
  cases r2
  cases r1 with
  | nil => exact PySem.SeqAt.eq_listAt (e := fun _ => true) p1.isList p2.isList rfl hu (fun j a1 => absurd a1 (by simp)) ⟨.bl true, H, I, rfl, q⟩
  | cons ra rb => exact PySem.SeqAt.eq_list_lengthsAt p1.isList p2.isList (by simp) hu ⟨.bl false, H, I, rfl, q⟩
theorem op_neNil (hu : X.A.units < cLine) : OpR X (compareOp .NotEq) (fun x y H Q => ∃ p b xs, x = .ref p ∧ y = .ref b ∧ SqL X.K H p xs ∧ SqL X.K H b [] ∧ Q (.bl (!xs.isEmpty)) H) := by
  intro pins s σ H x y v u Q I rx ry h
  obtain ⟨p, b, xs, rfl, rfl, h1, h2, q⟩ := h
  cases rx
  cases ry
  obtain ⟨its, r1, p1, _⟩ := I.list h1
  obtain ⟨its2, r2, p2, _⟩ := I.list h2
  cases r2
  cases r1 with
  | nil => exact PySem.SeqAt.RcNeAt.lists (e := fun _ => true) p1.isList p2.isList rfl hu (fun j a1 => absurd a1 (by simp)) _ _ _ _ ⟨.bl false, H, I, rfl, q⟩
  | cons ra rb => exact PySem.SeqAt.RcNeAt.lists_lengths p1.isList p2.isList (by simp) hu _ _ _ _ ⟨.bl true, H, I, rfl, q⟩
theorem sl_str : SlR X (fun x lo hi H Q => ∃ z, x = .str z ∧ z.length ≤ sizeLine ∧ Q (.str (Txt.slice z lo hi)) H) := by
  intro pins s σ H x v vl vu lo hi sl Q I rx hs pl pu h
  obtain ⟨z, rfl, hz, q⟩ := h
  obtain ⟨t, rfl⟩ := rx
  refine ⟨"str", _, PySem.F.slot_str_getitem.lookup, typeIs_str _ _ _, ?_⟩
  obtain ⟨o, h1, h2, h3⟩ := hs
  cases pl with
  | none =>
    cases pu with
    | none => exact wpAny_getItem_str_slice (l := none) (u := none) (st := none) ⟨o, h1, h2, h3⟩ rfl (post_val_or_str ⟨Nat.le_trans (Txt.slice_le z _ _) hz, fun t' k => ⟨.str _, H, I.tok _, ⟨_, rfl⟩, q⟩⟩)
    | int j uj => exact wpAny_getItem_str_slice (l := none) (u := some (j, uj)) (st := none) ⟨o, h1, h2, h3⟩ rfl (post_val_or_str ⟨Nat.le_trans (Txt.slice_le z _ _) hz, fun t' k => ⟨.str _, H, I.tok _, ⟨_, rfl⟩, q⟩⟩)
  | int i ui =>
    cases pu with
    | none => exact wpAny_getItem_str_slice (l := some (i, ui)) (u := none) (st := none) ⟨o, h1, h2, h3⟩ rfl (post_val_or_str ⟨Nat.le_trans (Txt.slice_le z _ _) hz, fun t' k => ⟨.str _, H, I.tok _, ⟨_, rfl⟩, q⟩⟩)
    | int j uj => exact wpAny_getItem_str_slice (l := some (i, ui)) (u := some (j, uj)) (st := none) ⟨o, h1, h2, h3⟩ rfl (post_val_or_str ⟨Nat.le_trans (Txt.slice_le z _ _) hz, fun t' k => ⟨.str _, H, I.tok _, ⟨_, rfl⟩, q⟩⟩)
theorem op_mul_str : OpR X (binaryOp .Mult) (fun x y H Q => ∃ z n, x = .str z ∧ y = .int n ∧ z.length ≤ 1000 ∧ 0 ≤ n ∧ n ≤ 1000 ∧ Q (.str (Txt.mul z n)) H) := by
  intro pins s σ H x y v u Q I rx ry h
  obtain ⟨z, n, rfl, rfl, hz, h0, h1, q⟩ := h
  obtain ⟨t, rfl⟩ := rx
  obtain ⟨t', rfl⟩ := ry
  exact SB.mul (mulOk_of 1000 1000 hz (by omega) (by omega) (by decide) (by decide)) fun t' k => ⟨.str _, H, I.tok _, ⟨_, rfl⟩, q⟩
theorem strsAre_of {ys : List Str} : ∀ {us : List Value}, Vals (ys.map V.str) us → StrsAre us ys := by
  induction ys with
  | nil => intro us r; rw [List.map_nil] at r; cases r; exact .nil
  | cons n ns ih =>
    intro us r
    rw [List.map_cons] at r
    cases r with
    | cons r1 r2 =>
      obtain ⟨t, e⟩ := r1
      subst e
      exact .cons n t (ih r2)
theorem mt_join : MtR X "str.join" (fun x vs H Q => ∃ z p ys, x = .str z ∧ vs = [.ref p] ∧ SqL X.K H p (ys.map V.str) ∧ (ys.map (·.length)).sum + ys.length * z.length ≤ 16777216 ∧ Q (.str (Txt.join z ys)) H) := by
  intro pins s σ H x vs v us Q I rx rv h
  obtain ⟨z, p, ys, rfl, rfl, hq, hok, q⟩ := h
  obtain ⟨t, rfl⟩ := rx
  obtain ⟨u, rfl, ru⟩ := rv.one
  cases ru
  obtain ⟨its, r', pl, hz⟩ := I.list hq
  exact join_list pl.isList (by rw [List.toList_toArray]; exact strsAre_of r') hok fun t' k => ⟨.str _, H, I.tok _, ⟨_, rfl⟩, q⟩
end

section
variable {X : Cx} (K : PySem.W.Frag) (h : X.K = K := by rfl)
include h
theorem ix_tupK : IxR X (rIxT K) := h ▸ ix_tup
theorem ix_listK : IxR X (rIxL K) := h ▸ ix_list
theorem call_lenK : CallR X (.builtin "len") (fun xs H Q => ∃ p ys, xs = [.ref p] ∧ (SqL K H p ys ∨ SqT K H p ys) ∧ Q (.int ys.length) H) := h ▸ call_len_seq
theorem call_isinstK : CallR X (.builtin "isinstance") (fun xs H Q => ∃ x n t b, xs = [x, .ty n] ∧ TyOf K H x t ∧ PySem.W.kitOne K t (.type n) = some b ∧ Q (.bl b) H) := h ▸ call_isinst
theorem op_inK : OpR X (compareOp .In) (rIn K false) := h ▸ op_in_seq
theorem sl_listK : SlR X (rSlL K) := h ▸ sl_list
theorem pg_tupK {pos : Pos} {es : List Expr} {k : Nat} {t : TGs} {n : Nat} (hc : X.calm = true) (hh : PGs X es t) (hn : (assignEach es X.env).length = n := by rfl) (hst : (assignEach es X.env).findIdx? (·.1) = none := by rfl) : PG X (.Tuple es k pos) (gTup K n t) := h ▸ pg_tup hc hh hn hst
end

def rMaxL (K : PySem.W.Frag) : List V → Hp → VK → Prop := fun xs H Q => ∃ p ns, xs = [.ref p] ∧ SqL K H p (ns.map V.int) ∧ ns ≠ [] ∧ ∀ M, M ∈ ns → (∀ a ∈ ns, a ≤ M) → Q (.int M) H
theorem call_maxR {X : Cx} (hc : X.calm = true) : CallR X (.builtin "max") (rMaxL X.K) := call_maxL hc
section
variable {K : PySem.W.Frag}
theorem kit_int_list : PySem.W.kitOne K (.type "int") (.type "list") = some false := kit_of (by decide +kernel) (by decide +kernel) (by decide +kernel)
theorem kit_int_tuple : PySem.W.kitOne K (.type "int") (.type "tuple") = some false := kit_of (by decide +kernel) (by decide +kernel) (by decide +kernel)
theorem kit_int_dict : PySem.W.kitOne K (.type "int") (.type "dict") = some false := kit_of (by decide +kernel) (by decide +kernel) (by decide +kernel)
theorem kit_str_list : PySem.W.kitOne K (.type "str") (.type "list") = some false := kit_of (by decide +kernel) (by decide +kernel) (by decide +kernel)
theorem kit_str_tuple : PySem.W.kitOne K (.type "str") (.type "tuple") = some false := kit_of (by decide +kernel) (by decide +kernel) (by decide +kernel)
theorem kit_str_dict : PySem.W.kitOne K (.type "str") (.type "dict") = some false := kit_of (by decide +kernel) (by decide +kernel) (by decide +kernel)
theorem kit_list_dict : PySem.W.kitOne K (.type "list") (.type "dict") = some false := kit_of (by decide +kernel) (by decide +kernel) (by decide +kernel)
theorem kit_tuple_list : PySem.W.kitOne K (.type "tuple") (.type "list") = some false := kit_of (by decide +kernel) (by decide +kernel) (by decide +kernel)
theorem kit_tuple_dict : PySem.W.kitOne K (.type "tuple") (.type "dict") = some false := kit_of (by decide +kernel) (by decide +kernel) (by decide +kernel)
end
end L2

set_option linter.all false
namespace Lf
open PySem
inductive Kd where
  | num (w m : Int)
  | row (k : Kd) (n : Int)
  | rcd (fs : List (Str × Kd))
  | cho (ks : List Kd)
def up (n m : Int) : Int := (n + m - 1) / m * m
theorem up_eq {n m : Int} (hm : 0 < m) : up n m = n + m - 1 - (n + m - 1) % m := by
  have := Int.mul_ediv_add_emod (n + m - 1) m
  rw [Int.mul_comm] at this
  unfold up
  omega
theorem up_bounds {n m : Int} (hm : 0 < m) : n ≤ up n m ∧ up n m < n + m := by
  have a := Int.emod_nonneg (n + m - 1) (Int.ne_of_gt hm)
  have b := Int.emod_lt_of_pos (n + m - 1) hm
  rw [up_eq hm]
  omega
def maxL (d : Int) (l : List Int) : Int := l.foldr max d
def ends (e : Int) : List (Int × Int) → List Int
  | [] => []
  | r :: rs => (up e r.2 + r.1) :: ends (up e r.2 + r.1) rs
def lastEnd (e : Int) : List (Int × Int) → Int
  | [] => e
  | r :: rs => lastEnd (up e r.2 + r.1) rs
def rcdRm (rs : List (Int × Int)) : Int × Int := (up (lastEnd 0 rs) (maxL 1 (rs.map (·.2))), maxL 1 (rs.map (·.2)))
def choRm (rs : List (Int × Int)) : Int × Int := (up (up 1 (maxL 1 (rs.map (·.2))) + maxL 0 (rs.map (·.1))) (maxL 1 (rs.map (·.2))), maxL 1 (rs.map (·.2)))
mutual
def Kd.rm : Kd → Int × Int
  | .num w m => (w, m)
  | .row k n => (n * up k.rm.1 k.rm.2, k.rm.2)
  | .rcd fs => rcdRm (rmF fs)
  | .cho ks => choRm (rmK ks)
def rmF : List (Str × Kd) → List (Int × Int)
  | [] => []
  | f :: r => f.2.rm :: rmF r
def rmK : List Kd → List (Int × Int)
  | [] => []
  | k :: r => k.rm :: rmK r
end
mutual
def Kd.deep : Kd → Nat
  | .num _ _ => 1
  | .row k _ => k.deep + 1
  | .rcd fs => deepF fs + 1
  | .cho ks => deepK ks + 1
def deepF : List (Str × Kd) → Nat
  | [] => 0
  | f :: r => max f.2.deep (deepF r)
def deepK : List Kd → Nat
  | [] => 0
  | k :: r => max k.deep (deepK r)
end
mutual
def Kd.Ok : Kd → Prop
  | .num w m => 1 ≤ w ∧ w ≤ 8 ∧ 1 ≤ m ∧ m ≤ 8
  | .row k n => k.Ok ∧ 0 ≤ n ∧ n ≤ 100
  | .rcd fs => okF fs ∧ fs.length ≤ 10
  | .cho ks => okK ks ∧ ks.length ≤ 10
def okF : List (Str × Kd) → Prop
  | [] => True
  | f :: r => f.2.Ok ∧ okF r
def okK : List Kd → Prop
  | [] => True
  | k :: r => k.Ok ∧ okK r
end
inductive Dt where
  | int (i : Int)
  | str (x : Str)
  | bl (b : Bool)
  | tup (ds : List Dt)
  | lst (ds : List Dt)
mutual
def Dt.deep : Dt → Nat
  | .int _ => 1
  | .str _ => 1
  | .bl _ => 1
  | .tup ds => deepD ds + 1
  | .lst ds => deepD ds + 1
def deepD : List Dt → Nat
  | [] => 0
  | d :: r => max d.deep (deepD r)
end
theorem Kd.deep_pos : ∀ k : Kd, 1 ≤ k.deep
  | .num _ _ => Nat.le_refl _
  | .row k _ => Nat.le_add_left 1 k.deep
  | .rcd fs => Nat.le_add_left 1 (deepF fs)
  | .cho ks => Nat.le_add_left 1 (deepK ks)
end Lf

set_option Elab.async false
set_option linter.all false
set_option maxRecDepth 100000
namespace Lf
open PySem L2
mutual
def IsD (H : Hp) : Dt → V → Prop
  | .int i, v => v = .int i
  | .str x, v => v = .str x
  | .bl b, v => v = .bl b
  | .tup ds, v => ∃ a vs, v = .ref a ∧ H a = some (.tup vs) ∧ IsDs H ds vs
  | .lst ds, v => ∃ a vs, v = .ref a ∧ H a = some (.lst vs) ∧ IsDs H ds vs
def IsDs (H : Hp) : List Dt → List V → Prop
  | [], vs => vs = []
  | d :: r, vs => ∃ v vr, vs = v :: vr ∧ IsD H d v ∧ IsDs H r vr
end
mutual
theorem IsD.same {H H' : Hp} (e : Same H H') : ∀ {d : Dt} {v : V}, IsD H d v → IsD H' d v
  | .int _, _, h => h
  | .str _, _, h => h
  | .bl _, _, h => h
  | .tup ds, _, ⟨a, vs, h1, h2, h3⟩ => ⟨a, vs, h1, e _ _ h2, IsDs.same e h3⟩
  | .lst ds, _, ⟨a, vs, h1, h2, h3⟩ => ⟨a, vs, h1, e _ _ h2, IsDs.same e h3⟩
theorem IsDs.same {H H' : Hp} (e : Same H H') : ∀ {ds : List Dt} {vs : List V}, IsDs H ds vs → IsDs H' ds vs
  | [], _, h => h
  | d :: r, _, ⟨v, vr, h1, h2, h3⟩ => ⟨v, vr, h1, IsD.same e h2, IsDs.same e h3⟩
end
theorem IsDs.len {H : Hp} : ∀ {ds : List Dt} {vs : List V}, IsDs H ds vs → vs.length = ds.length
  | [], _, h => by cases (show _ = [] from h); rfl
  | d :: r, _, ⟨v, vr, h1, _, h3⟩ => by subst h1; show vr.length + 1 = r.length + 1; rw [IsDs.len h3]
theorem same_new {H : Hp} {p : Addr} (h : H p = none) (o : HO) : Same H (upd H p o) := fun b u q => by rw [upd_ne (ne_of_none q h)]; exact q
def hide (p : Addr) (H : Hp) : Hp := fun b => if b = p then none else H b
theorem hide_ne {p b : Addr} {H : Hp} (h : b ≠ p) : hide p H b = H b := if_neg h
theorem hide_some {p b : Addr} {H : Hp} {o : HO} (h : hide p H b = some o) : b ≠ p ∧ H b = some o := by
  by_cases e : b = p
  · subst e; rw [show hide b H b = none from if_pos rfl] at h; cases h
  · rw [hide_ne e] at h; exact ⟨e, h⟩
abbrev SameX (p : Addr) (H H' : Hp) : Prop := Same (hide p H) (hide p H')
theorem SameX.upd (p : Addr) (H : Hp) (o : HO) : SameX p H (L2.upd H p o) := fun b u h => by
  obtain ⟨n, q⟩ := hide_some h
  rw [hide_ne n, upd_ne n]
  exact q
theorem SameX.get {p b : Addr} {H H' : Hp} {o : HO} (e : SameX p H H') (n : b ≠ p) (h : H b = some o) : H' b = some o := by
  have := e b o (by rw [hide_ne n]; exact h)
  rw [hide_ne n] at this
  exact this
end Lf

set_option Elab.async false
set_option linter.all false
set_option maxRecDepth 100000

namespace L2
open PySem PySem.Spec PyProof.Rows

section
variable {κ : Type} [DecidableEq κ]
def valV (kvs : List (κ × V)) (k : κ) : Option V := (kvs.find? fun kv => decide (kv.1 = k)).map (·.2)
def putK (kvs : List (κ × V)) (k : κ) (v : V) : List (κ × V) :=
  if (kvs.any fun kv => decide (kv.1 = k)) = true then kvs.map (fun kv => if kv.1 = k then (kv.1, v) else kv) else kvs ++ [(k, v)]
theorem valV_pos {p : κ × V} {r : List (κ × V)} {k : κ} (e : p.1 = k) : valV (p :: r) k = some p.2 := by simp [valV, List.find?_cons, e]
theorem valV_neg {p : κ × V} {r : List (κ × V)} {k : κ} (e : ¬ p.1 = k) : valV (p :: r) k = valV r k := by simp [valV, List.find?_cons, e]
theorem valV_any (k : κ) : ∀ kvs : List (κ × V), (kvs.any fun kv => decide (kv.1 = k)) = (valV kvs k).isSome
  | [] => rfl
  | p :: r => by
    rw [List.any_cons]
    by_cases e : p.1 = k
    · simp only [valV_pos e, decide_eq_true e, Bool.true_or, Option.isSome_some]
    · rw [valV_neg e, decide_eq_false e, Bool.false_or]; exact valV_any k r
theorem length_putK (kvs : List (κ × V)) (k : κ) (v : V) : (putK kvs k v).length ≤ kvs.length + 1 := by
  unfold putK
  split
  · rw [List.length_map]; omega
  · rw [List.length_append, List.length_cons, List.length_nil]; omega
theorem RelO.isSome_eq {o : Option V} {u : Option Value} (r : RelO o u) : o.isSome = u.isSome := by
  cases o with
  | none => cases u with
    | none => rfl
    | some _ => exact (show False from r).elim
  | some _ => cases u with
    | none => exact (show False from r).elim
    | some _ => rfl
theorem RelO.getD {o : Option V} {u : Option Value} {d : V} {d' : Value} (r : RelO o u) (rd : RelV d d') : RelV (o.getD d) (u.getD d') := by
  cases o with
  | none => cases u with
    | none => exact rd
    | some _ => exact (show False from r).elim
  | some _ => cases u with
    | none => exact (show False from r).elim
    | some _ => exact r

theorem KV.val {kvs : List (κ × V)} {vs : List (κ × Value)} (r : KV kvs vs) (k : κ) : RelO (valV kvs k) (valueAt vs k) := by
  unfold KV at r
  induction r with
  | nil => exact True.intro
  | @cons p q ps qs h t ih =>
    obtain ⟨h1, h2⟩ := h
    by_cases e : p.1 = k
    · have e' : q.1 = k := h1.symm.trans e
      have b : valueAt (q :: qs) k = some q.2 := by simp [valueAt, List.find?_cons, e']
      rw [valV_pos e, b]; exact h2
    · have e' : ¬ q.1 = k := fun z => e (h1.trans z)
      have b : valueAt (q :: qs) k = valueAt qs k := by simp [valueAt, List.find?_cons, e']
      rw [valV_neg e, b]; exact ih
theorem KV.any {kvs : List (κ × V)} {vs : List (κ × Value)} (r : KV kvs vs) (k : κ) : (kvs.any fun kv => decide (kv.1 = k)) = vs.any fun kv => decide (kv.1 = k) := by
  unfold KV at r
  induction r with
  | nil => rfl
  | cons h t ih => rw [List.any_cons, List.any_cons, ih, h.1]
theorem KV.repl {kvs : List (κ × V)} {vs : List (κ × Value)} (r : KV kvs vs) (k : κ) {y : V} {u : Value} (ry : RelV y u) :
    KV (kvs.map fun kv => if kv.1 = k then (kv.1, y) else kv) (vs.map fun kv => if kv.1 = k then (kv.1, u) else kv) := by
  unfold KV at r ⊢
  induction r with
  | nil => exact .nil
  | @cons p q ps qs h t ih =>
    rw [List.map_cons, List.map_cons]
    refine .cons ?_ ih
    obtain ⟨h1, h2⟩ := h
    by_cases e : p.1 = k
    · rw [if_pos e, if_pos (h1.symm.trans e)]; exact ⟨h1, ry⟩
    · rw [if_neg e, if_neg (fun z => e (h1.trans z))]; exact ⟨h1, h2⟩
theorem KV.put {kvs : List (κ × V)} {vs : List (κ × Value)} (r : KV kvs vs) (k : κ) {y : V} {u : Value} (ry : RelV y u) : KV (putK kvs k y) (stored vs k u) := by
  unfold putK stored
  rw [r.any k]
  by_cases e : (vs.any fun kv => decide (kv.1 = k)) = true
  · rw [if_pos e, if_pos e]; exact r.repl k ry
  · rw [if_neg e, if_neg e]; exact Paired.snoc r ⟨rfl, ry⟩
theorem KV.length {kvs : List (κ × V)} {vs : List (κ × Value)} (r : KV kvs vs) : kvs.length = vs.length := Paired.length r
end


theorem kV_is {P : Program} {w : World} {k : Key} {u : Value} (r : RelV (kV k) u) : (mixKind P w).is k u = true := by
  cases k with
  | inl i => obtain ⟨t, e⟩ := (show ∃ t, u = Value.int i t from r); subst e; exact mixKind_int P w i t
  | inr x => obtain ⟨t, e⟩ := (show ∃ t, u = Value.str x t from r); subst e; exact mixKind_str P w x t
theorem items_are {P : Program} {w : World} : ∀ {ks : List Key} {us : List Value}, Vals (ks.map kV) us → ItemsAre (mixKind P w) ks us
  | [], _, r => by rw [List.map_nil] at r; cases r; exact .nil
  | k :: ks, _, r => by
    rw [List.map_cons] at r
    cases r with
    | cons h t => exact .cons (kV_is h) (items_are t)

abbrev KT (H : Hp) : List (List Key × V) → List (List Key × Addr × Value) → Prop := Paired fun p q => p.1 = q.1 ∧ H q.2.1 = some (.tup (p.1.map kV)) ∧ RelV p.2 q.2.2
theorem KT.val {H : Hp} {kvs : List (List Key × V)} {xs : List (List Key × Addr × Value)} (r : KT H kvs xs) (k : List Key) : RelO (valV kvs k) ((atKey xs k).map (·.2)) := by
  induction r with
  | nil => exact True.intro
  | @cons p q ps qs h t ih =>
    obtain ⟨h1, _, h2⟩ := h
    by_cases e : p.1 = k
    · have e' : q.1 = k := h1.symm.trans e
      have b : atKey (q :: qs) k = some q.2 := by simp [atKey, List.find?_cons, e']
      rw [valV_pos e, b]; exact h2
    · have e' : ¬ q.1 = k := fun z => e (h1.trans z)
      have b : atKey (q :: qs) k = atKey qs k := by simp [atKey, List.find?_cons, e']
      rw [valV_neg e, b]; exact ih
theorem KT.repl {H : Hp} {kvs : List (List Key × V)} {xs : List (List Key × Addr × Value)} (r : KT H kvs xs) (k : List Key) {y : V} {u : Value} (ry : RelV y u) :
    KT H (kvs.map fun kv => if kv.1 = k then (kv.1, y) else kv) (xs.map (putAt k u)) := by
  induction r with
  | nil => exact .nil
  | @cons p q ps qs h t ih =>
    rw [List.map_cons, List.map_cons]
    refine .cons ?_ ih
    obtain ⟨h1, h2, h3⟩ := h
    unfold putAt
    by_cases e : p.1 = k
    · rw [if_pos e, if_pos (h1.symm.trans e)]; exact ⟨h1, h2, ry⟩
    · rw [if_neg e, if_neg (fun z => e (h1.trans z))]; exact ⟨h1, h2, h3⟩
theorem KT.put {H : Hp} {kvs : List (List Key × V)} {xs : List (List Key × Addr × Value)} (r : KT H kvs xs) (k : List Key) {b : Addr} {y : V} {u : Value} (hb : H b = some (.tup (k.map kV))) (ry : RelV y u) :
    KT H (putK kvs k y) (storedH xs k b u) := by
  have e : (kvs.any fun kv => decide (kv.1 = k)) = (atKey xs k).isSome := by
    rw [valV_any, (r.val k).isSome_eq, Option.isSome_map]
  unfold putK storedH
  rw [e]
  by_cases q : (atKey xs k).isSome = true
  · rw [if_pos q, if_pos q]; exact r.repl k ry
  · rw [if_neg q, if_neg q]; exact Paired.snoc r ⟨rfl, hb, ry⟩
theorem KT.keeps {H H' : Hp} {kvs : List (List Key × V)} {xs : List (List Key × Addr × Value)} (r : KT H kvs xs) (ht : ∀ b ys, H b = some (.tup ys) → H' b = some (.tup ys)) : KT H' kvs xs :=
  Paired.mapP r fun _ _ z => ⟨z.1, ht _ _ z.2.1, z.2.2⟩

section
variable {P : Program} {w : World} {H : Hp} {h : Heap} {a : Addr}
theorem rd_of {u : HO} (ok : HOk P w H h) (e : Rd H a u) : ObjOk P w H h a u := e.ok ok
theorem dk_rd {kvs : List (Key × V)} (ok : HOk P w H h) (e : Rd H a (.dK kvs)) : kvs.length ≤ sizeLine ∧ (a == sysModules) = false ∧ ∃ vs, KV kvs vs ∧ h.DictOf (mixKind P w) a vs :=
  show ObjOk P w H h a (.dK kvs) from rd_of ok e
theorem dk_of {kvs : List (Key × V)} (ok : HOk P w H h) (e : H a = some (.dK kvs)) : kvs.length ≤ sizeLine ∧ (a == sysModules) = false ∧ ∃ vs, KV kvs vs ∧ h.DictOf (mixKind P w) a vs := dk_rd ok (.inl e)
theorem key_of {ks : List Key} (ok : HOk P w H h) (e : H a = some (.tup (ks.map kV))) : (tupleKind (mixKind P w)).is h ks a := by
  obtain ⟨_, its, r, o, h1, h2, n, h3⟩ := (show ObjOk P w H h a (.tup (ks.map kV)) from ok a _ e)
  exact ⟨o, its.toArray, n, h1, h2, h3, by simpa using items_are r⟩
theorem dt_rd {kvs : List (List Key × V)} (ok : HOk P w H h) (e : Rd H a (.dT kvs)) : kvs.length ≤ sizeLine ∧ (a == sysModules) = false ∧
    ∃ xs, KT H kvs xs ∧ h.DictOfH (tupleKind (mixKind P w)) a xs := by
  obtain ⟨z, y, xs, r, o, es, ep, h1, h2, h3, h4, h5⟩ := (show ObjOk P w H h a (.dT kvs) from rd_of ok e)
  refine ⟨z, y, xs, r, o, es, ep, h1, h2, h3, h4, fun x hx => ?_, h5⟩
  have all : ∀ {l : List (List Key × V)} {m : List (List Key × Addr × Value)}, KT H l m → ∀ x ∈ m, (tupleKind (mixKind P w)).is h x.1 x.2.1 := by
    intro l m q
    induction q with
    | nil => intro x hx; exact nomatch hx
    | @cons p q ps qs hq t ih =>
      intro x hx
      rcases List.mem_cons.mp hx with e | hx
      · subst e
        exact key_of ok (by rw [← hq.1]; exact hq.2.1)
      · exact ih x hx
  exact all r x hx
theorem dt_of {kvs : List (List Key × V)} (ok : HOk P w H h) (e : H a = some (.dT kvs)) : kvs.length ≤ sizeLine ∧ (a == sysModules) = false ∧
    ∃ xs, KT H kvs xs ∧ h.DictOfH (tupleKind (mixKind P w)) a xs := dt_rd ok (.inl e)
end

def DGet (H : Hp) (a : Addr) (y : V) (r : Option V) : Prop :=
  (∃ kvs k, Rd H a (.dK kvs) ∧ y = kV k ∧ r = valV kvs k) ∨ ∃ kvs k b, Rd H a (.dT kvs) ∧ y = .ref b ∧ H b = some (.tup (k.map kV)) ∧ r = valV kvs k
def DPut (H : Hp) (a : Addr) (y v : V) (H' : Hp) : Prop :=
  (∃ kvs k, H a = some (.dK kvs) ∧ y = kV k ∧ kvs.length < sizeLine ∧ H' = upd H a (.dK (putK kvs k v))) ∨
  ∃ kvs k b, H a = some (.dT kvs) ∧ y = .ref b ∧ H b = some (.tup (k.map kV)) ∧ kvs.length < sizeLine ∧ H' = upd H a (.dT (putK kvs k v))
theorem DGet.k {H : Hp} {a : Addr} {kvs : List (Key × V)} {k : Key} (e : H a = some (.dK kvs)) : DGet H a (kV k) (valV kvs k) := .inl ⟨kvs, k, .inl e, rfl, rfl⟩
theorem DGet.t {H : Hp} {a b : Addr} {kvs : List (List Key × V)} {k : List Key} (e : H a = some (.dT kvs)) (eb : H b = some (.tup (k.map kV))) : DGet H a (.ref b) (valV kvs k) := .inr ⟨kvs, k, b, .inl e, rfl, eb, rfl⟩
theorem DPut.k {H : Hp} {a : Addr} {kvs : List (Key × V)} {k : Key} {v : V} (e : H a = some (.dK kvs)) (hl : kvs.length < sizeLine) : DPut H a (kV k) v (upd H a (.dK (putK kvs k v))) := .inl ⟨kvs, k, e, rfl, hl, rfl⟩
theorem DPut.t {H : Hp} {a b : Addr} {kvs : List (List Key × V)} {k : List Key} {v : V} (e : H a = some (.dT kvs)) (eb : H b = some (.tup (k.map kV))) (hl : kvs.length < sizeLine) :
    DPut H a (.ref b) v (upd H a (.dT (putK kvs k v))) := .inr ⟨kvs, k, b, e, rfl, eb, hl, rfl⟩


section
variable {X : Cx} {pins : List (Addr × Obj)} {σ : St} {H : Hp} {s : Shared} {a : Addr} {y v : V} {u r : Value} {o : Option V} {A : Around} {E : Value → Shared → Prop}

theorem Inv.big (I : Inv X pins σ H s) : sysModules < s.heap.objs.size := by
  have h : mainGlobals < s.heap.objs.size := (I.mod.glob.keeps I.bk).lt
  exact Nat.lt_trans (by decide) h

theorem d_getItem {Q : Value → Shared → Prop} (hu : A.units + 1 < cLine) (I : Inv X pins σ H s) (g : DGet H a y (some v)) (ry : RelV y u) (h : ∀ w' s', Inv X pins σ H s' → RelV v w' → Q w' s') :
    wpAny (model X.prog X.w) A (getItem (.ref a) u) Q E s := by
  rcases g with ⟨kvs, k, e, ey, l⟩ | ⟨kvs, k, b, e, ey, eb, l⟩
  · subst ey
    obtain ⟨z, hd, vs, rel, dd⟩ := dk_rd I.hok e
    obtain ⟨w', hw, rw'⟩ := RelO.some_of (v := v) (o := valueAt vs k) (by rw [l]; exact rel.val k)
    exact wpAny_getItem_of (kV_is ry) dd.mapOf hw (h w' _ (I.tok _) rw')
  · subst ey
    cases (show u = Value.ref b from ry)
    obtain ⟨z, hd, xs, rel, dd⟩ := dt_rd I.hok e
    obtain ⟨w', hw, rw'⟩ := RelO.some_of (v := v) (o := (atKey xs k).map (·.2)) (by rw [l]; exact rel.val k)
    obtain ⟨p, hp, hp2⟩ := Option.map_eq_some_iff.mp hw
    refine wpAny_getItem_heap (tupleKind_room_in1 hu) (key_of I.hok eb) dd hp ?_
    rw [hp2]
    exact h w' _ (I.tok _) rw'
theorem d_in {Q : Value → Shared → Prop} (hu : A.units + 1 < cLine) (I : Inv X pins σ H s) (g : DGet H a y o) (ry : RelV y u) (h : ∀ s', Inv X pins σ H s' → Q (.bool o.isSome) s') :
    wpAny (model X.prog X.w) A (compareOp .In u (.ref a)) Q E s := by
  rcases g with ⟨kvs, k, e, ey, l⟩ | ⟨kvs, k, b, e, ey, eb, l⟩
  · subst ey
    obtain ⟨z, hd, vs, rel, dd⟩ := dk_rd I.hok e
    refine wpAny_in_of (kV_is ry) hd dd.mapOf ?_
    rw [← (rel.val k).isSome_eq, ← l]
    exact h _ (I.tok _)
  · subst ey
    cases (show u = Value.ref b from ry)
    obtain ⟨z, hd, xs, rel, dd⟩ := dt_rd I.hok e
    refine wpAny_in_heap (tupleKind_room_in1 hu) (key_of I.hok eb) hd dd ?_
    have q := (rel.val k).isSome_eq
    rw [Option.isSome_map] at q
    rw [← q, ← l]
    exact h _ (I.tok _)
theorem d_write {h' : Heap} {t' : Nat} {ob : HO} (I : Inv X pins σ H s) (mu : Mut (H a)) (hs : Heap.SameBut a s.heap h') (he : ∃ q, h'.get? a = some q) (new : ObjOk X.prog X.w (upd H a ob) h' a ob) :
    Inv X pins σ (upd H a ob) { s with heap := h', toks := t' } :=
  I.write (x := a) (e := a) mu (.inl rfl) (fun b q hb z => (hs.2 b hb).trans z) he new
theorem dk_new {P : Program} {w : World} {H' : Hp} {h' : Heap} {kvs : List (Key × V)} {vs : List (Key × Value)} (z : kvs.length ≤ sizeLine) (hd : (a == sysModules) = false) (rel : KV kvs vs) (dd : h'.DictOf (mixKind P w) a vs) :
    ObjOk P w H' h' a (.dK kvs) := ⟨z, hd, vs, rel, dd⟩
theorem d_setItem {H' : Hp} {Q : Unit → Shared → Prop} (hu : A.units + 1 < cLine) (I : Inv X pins σ H s) (g : DPut H a y v H') (ry : RelV y u) (rv : RelV v r) (h : ∀ s', Inv X pins σ H' s' → Q () s') :
    wpAny (model X.prog X.w) A (setItem (.ref a) u r) Q E s := by
  rcases g with ⟨kvs, k, e, ey, l, eH⟩ | ⟨kvs, k, b, e, ey, eb, l, eH⟩
  · subst ey eH
    obtain ⟨z, hd, vs, rel, dd⟩ := dk_of I.hok e
    have hz : vs.length ≤ sizeLine := by rw [← rel.length]; exact z
    have hl : (putK kvs k v).length ≤ sizeLine := by have := length_putK kvs k v; omega
    refine wpAny_setItem_pairs (hsz := hz) (kV_is ry) dd fun h' dd' hs => h _ ?_
    have he : ∃ q, h'.get? a = some q := let ⟨q, _, _, hq, _⟩ := dd'; ⟨q, hq⟩
    exact d_write I (by rw [e]; exact True.intro) hs he (dk_new hl hd (rel.put k rv) dd')
  · subst ey eH
    cases (show u = Value.ref b from ry)
    obtain ⟨z, hd, xs, rel, dd⟩ := dt_of I.hok e
    have hz : xs.length ≤ sizeLine := by rw [← Paired.length rel]; exact z
    have hl : (putK kvs k v).length ≤ sizeLine := by have := length_putK kvs k v; omega
    refine wpAny_setItem_heap (hsz := hz) (tupleKind_room_in1 hu) (key_of I.hok eb) dd fun h' dd' hs => h _ ?_
    obtain ⟨q, es, ep, hq, h2, h3, h4, _, h5⟩ := dd'
    refine d_write I (by rw [e]; exact True.intro) hs ⟨q, hq⟩ ⟨hl, hd, _, (rel.put k eb rv).keeps fun c ys ec => ?_, q, es, ep, hq, h2, h3, h4, h5⟩
    rw [upd_ne (ne_of ec e (fun z => nomatch z))]
    exact ec
end

section
variable {X : Cx} {pins : List (Addr × Obj)} {σ : St} {H : Hp} {s : Shared} {a : Addr} {kvs : List (Key × V)} {k : Key} {u : Value} {A : Around} {E : Value → Shared → Prop}
theorem d_len {Q : Value → Shared → Prop} (I : Inv X pins σ H s) (e : Rd H a (.dK kvs)) (h : ∀ t s', Inv X pins σ H s' → Q (.int kvs.length t) s') : wpAny (model X.prog X.w) A (call (.builtin "len") [.ref a]) Q E s := by
  obtain ⟨z, hd, vs, rel, dd⟩ := dk_rd I.hok e
  refine call_len_dict hd dd (by rw [← rel.length]; rw [sizeLine_eq] at z; omega) ?_
  rw [← rel.length]
  exact h _ _ (I.tok _)
end


def NoSl (i : Expr) : Prop := ∀ ov iv, subscripted i false ov iv = operate [ov, iv] (getItem ov iv)
theorem subD_of {prog : Program} {w : World} {A : Around} {E : Value → Shared → Prop} {s : Shared} {env : Env} {value slice : Expr} {pos : Pos} {T id : String} {Q : Value → Shared → Prop}
    (hl : typeLookup (.type T) "__getitem__" = pure (some (.builtin id))) (hs : NoSl slice)
    (h : wpAny (model prog w) A (eval value env) (fun o s₁ => wpAny (model prog w) A (eval slice env) (fun i s₂ => s₂.TypeIs o T ∧ wpAny (model prog w) A (getItem o i) Q E s₂) E s₁) E s) :
    wpAny (model prog w) A (eval (.Subscript value slice pos) env) Q E s := by
  refine Subscript_ (wpAny_mono h (fun o s₁ h₁ => wpAny_mono h₁ (fun i s₂ h₂ => ?_) fun _ _ x => x) fun _ _ x => x)
  obtain ⟨hT, h₂⟩ := h₂
  unfold subscriptTail
  refine wpAny_bind ?_
  rw [getitemInPython_of_ne hT.not_modules]
  refine wpAny_bind (wpAny_specialOf hT hl ?_)
  have fin : wpAny (model prog w) A (subscripted slice false o i) (fun r s₃ => wpAny (model prog w) A (letTemporaryGo value o r >>= fun _ => pure r) Q E s₃) E s₂ := by
    rw [hs o i]
    exact wpAny_operating (wpAny_mono h₂ (fun r s₃ h₃ => wpAny_bind (wpAny_letTemporaryGo (wpAny_pure h₃))) fun _ _ x => x)
  first
    | exact wpAny_pure (wpAny_bind fin)
    | exact wpAny_bind (wpAny_pure (wpAny_bind fin))
    | exact wpAny_bind fin

theorem dict_typeIs {X : Cx} {pins : List (Addr × Obj)} {σ : St} {H : Hp} {s : Shared} {a : Addr} {y : V} {o : Option V} (I : Inv X pins σ H s) (g : DGet H a y o) : s.TypeIs (.ref a) "dict" := by
  rcases g with ⟨kvs, k, e, _, _⟩ | ⟨kvs, k, b, e, _, _, _⟩
  · obtain ⟨_, _, vs, _, dd⟩ := dk_rd I.hok e
    exact dd.typeIs
  · obtain ⟨_, _, xs, _, dd⟩ := dt_rd I.hok e
    exact dd.typeIs
def tDGet (td ty : TE) : TE := fun σ H Q => td σ H fun x H1 => ty σ H1 fun y H2 => ∃ a v, x = .ref a ∧ DGet H2 a y (some v) ∧ Q v H2
def tDIn (ty td : TE) : TE := fun σ H Q => ty σ H fun y H1 => td σ H1 fun x H2 => ∃ a o, x = .ref a ∧ DGet H2 a y o ∧ Q (.bl o.isSome) H2
def sDPut (td ty tv : TE) : TS := fun D σ H => tv σ H fun v H1 => td σ H1 fun x H2 => ty σ H2 fun y H3 => ∃ a H4, x = .ref a ∧ DPut H3 a y v H4 ∧ D.nx σ H4
section
variable {X : Cx} {o i e value : Expr} {pos pos' tpos : Pos} {td ty tv : TE}
theorem pe_dget (hu : X.A.units + 1 < cLine) (ho : PE X o td) (hi : PE X i ty) (hs : NoSl i) : PE X (.Subscript o i pos) (tDGet td ty) := by
  intro pins s σ H Q I h
  refine subD_of PySem.F.slot_dict_getitem.lookup hs (thn (ho pins s σ H _ I h) fun u s1 ⟨x, H1, I1, rx, q1⟩ => thn (hi pins s1 σ H1 _ I1 q1) fun iv s2 ⟨y, H2, I2, ry, a, v, ex, g, q2⟩ => ?_)
  subst ex
  obtain rfl : u = Value.ref a := rx
  exact ⟨dict_typeIs I2 g, d_getItem hu I2 g ry fun w' s3 I3 rw' => ⟨v, H2, I3, rw', q2⟩⟩
theorem pc_din (hu : X.A.units + 1 < cLine) (hi : PE X i ty) (ho : PE X o td) : PC X .In i o (tDIn ty td) := by
  intro pins s σ H Q I h
  refine thn (hi pins s σ H _ I h) fun iv s1 ⟨y, H1, I1, ry, q1⟩ => thn (ho pins s1 σ H1 _ I1 q1) fun u s2 ⟨x, H2, I2, rx, a, ov, ex, g, q2⟩ => ?_
  subst ex
  obtain rfl : u = Value.ref a := rx
  exact d_in hu I2 g ry fun s3 I3 => ⟨.bl ov.isSome, H2, I3, rfl, q2⟩
theorem ps_dput (hu : X.A.units + 1 < cLine) (ho : PE X o td) (hi : PE X i ty) (hv : PE X value tv) (hs : swapsWith value (some (.Subscript o i pos')) pos.line X.env = pure false) :
    PS X (.Assign [.Subscript o i pos'] value pos) (sDPut td ty tv) := by
  intro pins s σ H D I h
  refine wpAny_Assign_Subscript (thn (hv pins s σ H _ I h) fun r s1 ⟨v, H1, I1, rv, q1⟩ => thn (ho pins s1 σ H1 _ I1 q1) fun u s2 ⟨x, H2, I2, rx, q2⟩ => thn (hi pins s2 σ H2 _ I2 q2) fun iv s3 ⟨y, H3, I3, ry, a, H4, ex, g, q3⟩ => ?_) hs
  subst ex
  obtain rfl : u = Value.ref a := rx
  exact d_setItem hu I3 g ry rv fun s4 I4 => ⟨σ, H4, I4, q3⟩
end


theorem dk_empty {P : Program} {w : World} {H : Hp} (h : Heap) (hb : sysModules < h.objs.size) : ObjOk P w H (h.push { cls := .type "dict", data := .dict #[] }) h.objs.size (.dK []) :=
  ⟨Nat.zero_le _, beq_eq_false_iff_ne.mpr (Ne.symm (Nat.ne_of_lt hb)), [], .nil, Heap.DictOf.new h⟩
def tDNewK : TE := fun _ H Q => ∀ p, H p = none → Q (.ref p) (upd H p (.dK []))
section
variable {X : Cx} {pos : Pos}
theorem pe_dnewK : PE X (.Dict [] [] pos) tDNewK := fun pins s σ H Q I h =>
  wpAny_Dict_empty ⟨.ref s.heap.objs.size, _, I.laid (a := s.heap.objs.size) (o := .dK []) (t' := s.toks) (fun _ _ q => Heap.get?_push_of_some _ q) (Nat.le_refl _) (dk_empty s.heap I.big), rfl, h _ (I.hok.fresh (Nat.le_refl _))⟩
end

def IsD (H : Hp) (a : Addr) : Prop := (∃ kvs, Rd H a (.dK kvs)) ∨ ∃ kvs, Rd H a (.dT kvs)
end L2

set_option Elab.async false
set_option linter.all false
set_option maxRecDepth 100000
set_option maxHeartbeats 4000000
namespace L2
open PySem PySem.Spec PyProof.Rows
theorem bt_all : bootBuiltins "all" = some (.builtin "all") := by decide +kernel
theorem vals_bl : ∀ {bs : List Bool} {us : List Value}, Vals (bs.map V.bl) us → us = bs.map Value.bool
  | [], _, h => by cases h; rfl
  | b :: bs, _, h => by
    cases h with
    | cons ra rb =>
      cases ra
      rw [vals_bl rb]
      rfl
theorem range_all : ∀ (bs : List Bool), (List.range bs.length).all (fun i => bs[i]?.getD false) = bs.all id := by
  intro bs
  rw [Bool.eq_iff_iff, List.all_eq_true, List.all_eq_true]
  constructor
  · intro h b hb
    obtain ⟨i, hi, rfl⟩ := List.getElem_of_mem hb
    have := h i (List.mem_range.mpr hi)
    rw [List.getElem?_eq_getElem hi] at this
    exact this
  · intro h i hi
    have hi' := List.mem_range.mp hi
    rw [List.getElem?_eq_getElem hi']
    exact h _ (List.getElem_mem hi')
section
variable {X : Cx}
def rAllL (K : PySem.W.Frag) : List V → Hp → VK → Prop := fun xs H Q => ∃ (p : Addr) (bs : List Bool), xs = [.ref p] ∧ SqL K H p (bs.map V.bl) ∧ Q (.bl (bs.all id)) H
theorem call_allL (hc : X.calm = true) : CallR X (.builtin "all") (rAllL X.K) := by
  intro pins s σ H xs us Q I r h
  obtain ⟨p, bs, rfl, hq, q⟩ := h
  obtain ⟨u, rfl, rx⟩ := vals1 r
  cases rx
  obtain ⟨its, r', pl, hz⟩ := I.list hq
  have hi := vals_bl r'
  subst hi
  have hh : X.A.in1.handled = none := I.ok.hd hc
  have lt : p < s.heap.objs.size := by obtain ⟨_, e, _⟩ := pl.isList; exact Heap.lt_size e
  refine call_all_walk (wpAny_pyIter_list pl.isList ⟨_, _, _, _, _, _, fun i => bs[i]?.getD false, rfl, Walks.list hh s.heap.objs.size p (Nat.ne_of_lt lt) (bs.map Value.bool).toArray, ⟨⟨_, Heap.get?_push_size _ rfl, rfl, rfl⟩, ?_⟩, ?_, fun h' tk hk => ?_⟩)
  · obtain ⟨o, e, r⟩ := pl.isList
    exact ⟨o, Heap.get?_push_of_some _ e, r⟩
  · intro i v s' Q' E' hv hQ
    have hv' : (bs.map Value.bool)[i]? = some v := by simpa using hv
    rw [List.getElem?_map] at hv'
    cases hb : bs[i]? with
    | none => rw [hb] at hv'; cases hv'
    | some b =>
      rw [hb] at hv'
      cases hv'
      have hQ' : Q' (bs[i]?.getD false) s' := hQ
      rw [hb] at hQ'
      exact wpAny_truthy_bool hQ'
  · have hk' : ∀ b o, s.heap.get? b = some o → h'.get? b = some o := fun b o e => hk b o (by simp; exact Nat.ne_of_lt (Heap.lt_size e)) (Heap.get?_push_of_some _ e)
    refine ⟨.bl _, H, I.kept hk', ?_, q⟩
    show Value.bool _ = Value.bool _
    rw [List.size_toArray, List.length_map, range_all]
end
def Its (x : Str) : It := ⟨fun i H => i < x.cps.size, fun i H v H' => H' = H ∧ ∃ c, x.cps[i]? = some c ∧ v = .str ⟨#[c]⟩, fun i H => x.cps.size ≤ i⟩
theorem turn_strA {P : Program} {w : World} {K : PySem.W.Frag} {tg : Expr} (x : Str) (t : Tok) (it : Addr) : Turn P w K tg (Its x) [it] it (fun i h => h.IsStrIter it "str_ascii_iterator" x t i) where
  mem := by simp
  obj := fun i h st b hb => by
    have e : b = it := by simpa using hb
    subst e
    obtain ⟨o, e, c, d⟩ := st
    exact ⟨o, e, fun v z => by rw [d] at z; cases z⟩
  keep := fun i h h' st k => let ⟨o, ho, r⟩ := st; ⟨o, k it (by simp) o ho, r⟩
  item := by
    intro X hP hw hK hc i pins s σ H E I hf st hg
    subst hP hw hK
    obtain ⟨f0, f1, f2, f3, f4, f5⟩ := hf it (by simp)
    have hg' : i < x.cps.size := hg
    refine wpAny_pyNext_ascii_item st (c := x.cps[i]) (by simp [hg']) fun h' st' sb => ?_
    have I1 : Inv X pins σ H { s with heap := h', toks := s.toks + 1 } := I.turned (t' := s.toks + 1) (fun b o hb e => (sb.2 b hb).trans e) f0 f1 f3 f4 f5
    obtain ⟨o, e, c, d⟩ := id st'
    exact ⟨_, rfl, go_of (s := { s with heap := h', toks := s.toks + 1 }) e c d (by decide) ⟨.str ⟨#[x.cps[i]]⟩, H, I1, ⟨_, rfl⟩, ⟨rfl, _, by simp [hg'], rfl⟩, st', fun b hb => (hf b hb).1⟩⟩
  done := by
    intro X hP hw hK hc i pins s σ H E I hf st hg
    subst hP hw hK
    obtain ⟨f0, f1, f2, f3, f4, f5⟩ := hf it (by simp)
    have hg' : x.cps.size ≤ i := hg
    exact wpAny_pyNext_ascii_end (I.ok.hd hc) st (by simp [hg']) fun h' eb => ⟨rfl, I.turned (t' := s.toks) (fun b o hb e => eb b o hb e) f0 f1 f3 f4 f5⟩
  self := fun _ _ _ _ _ st h => wpAny_pyIter_striter_ascii st h
theorem turn_strW {P : Program} {w : World} {K : PySem.W.Frag} {tg : Expr} (x : Str) (t : Tok) (it : Addr) : Turn P w K tg (Its x) [it] it (fun i h => h.IsStrIter it "str_iterator" x t i) where
  mem := by simp
  obj := fun i h st b hb => by
    have e : b = it := by simpa using hb
    subst e
    obtain ⟨o, e, c, d⟩ := st
    exact ⟨o, e, fun v z => by rw [d] at z; cases z⟩
  keep := fun i h h' st k => let ⟨o, ho, r⟩ := st; ⟨o, k it (by simp) o ho, r⟩
  item := by
    intro X hP hw hK hc i pins s σ H E I hf st hg
    subst hP hw hK
    obtain ⟨f0, f1, f2, f3, f4, f5⟩ := hf it (by simp)
    have hg' : i < x.cps.size := hg
    refine wpAny_pyNext_wide_item st (c := x.cps[i]) (by simp [hg']) fun h' st' sb => ?_
    have I1 : Inv X pins σ H { s with heap := h', toks := s.toks + 1 } := I.turned (t' := s.toks + 1) (fun b o hb e => (sb.2 b hb).trans e) f0 f1 f3 f4 f5
    obtain ⟨o, e, c, d⟩ := id st'
    exact ⟨_, rfl, go_of (s := { s with heap := h', toks := s.toks + 1 }) e c d (by decide) ⟨.str ⟨#[x.cps[i]]⟩, H, I1, ⟨_, rfl⟩, ⟨rfl, _, by simp [hg'], rfl⟩, st', fun b hb => (hf b hb).1⟩⟩
  done := by
    intro X hP hw hK hc i pins s σ H E I hf st hg
    subst hP hw hK
    obtain ⟨f0, f1, f2, f3, f4, f5⟩ := hf it (by simp)
    have hg' : x.cps.size ≤ i := hg
    exact wpAny_pyNext_wide_end (I.ok.hd hc) st (by simp [hg']) fun h' eb => ⟨rfl, I.turned (t' := s.toks) (fun b o hb e => eb b o hb e) f0 f1 f3 f4 f5⟩
  self := fun _ _ _ _ _ st h => wpAny_pyIter_striter_wide st h
def iStr (tl : TE) : TI := fun σ H R => tl σ H fun v H1 => ∃ x, v = .str x ∧ R (Its x) H1
theorem pi_str {X : Cx} {tg l : Expr} {tl : TE} (hl : PE X l tl) : PI X tg l (iStr tl) := by
  intro pins s σ H R I h
  refine thn (hl pins s σ H _ I h) fun v s1 ⟨y, H1, I1, r1, q1⟩ => ?_
  obtain ⟨x, e, q⟩ := q1
  subst e
  obtain ⟨t, rfl⟩ := r1
  have fin : ∀ (o : Obj) (tn : Nat → Heap → Prop), Turn X.prog X.w X.K tg (Its x) [s1.heap.objs.size] s1.heap.objs.size tn → tn 0 (s1.heap.push o) → PIE X pins σ tg R (.ref s1.heap.objs.size) { s1 with heap := s1.heap.push o } := fun o tn T st => by
    refine ⟨s1.heap.objs.size, [s1.heap.objs.size], tn, _, H1, rfl, I1.kept (t' := s1.toks) fun b o e => Heap.get?_push_of_some _ e, T, st, fun b hb => ?_, q⟩
    have e : b = s1.heap.objs.size := by simpa using hb
    subst e
    exact I1.fpOk (Nat.le_refl _) (I1.hok.fresh (Nat.le_refl _))
  cases ha : x.cps.all (· < 128)
  · exact wpAny_pyIter_wide ha (fin _ _ (turn_strW x t _) ⟨_, Heap.get?_push_size _ rfl, rfl, rfl⟩)
  · exact wpAny_pyIter_ascii ha (fin _ _ (turn_strA x t _) ⟨_, Heap.get?_push_size _ rfl, rfl, rfl⟩)
theorem lets_cut : ∀ i, i < 26 → ("abcdefghijklmnopqrstuvwxyz" : Str).cps.extract i (i + 1) = #[97 + i] := by decide +kernel
theorem lets_has : ∀ j, j < 26 → (!(Builtin.Str.occurrences ("abcdefghijklmnopqrstuvwxyz" : Str) ⟨#[97 + j]⟩ 0 ("abcdefghijklmnopqrstuvwxyz" : Str).length 1).isEmpty) = true := by decide +kernel
theorem in_lets (c : Nat) : (!(Builtin.Str.occurrences ("abcdefghijklmnopqrstuvwxyz" : Str) ⟨#[c]⟩ 0 ("abcdefghijklmnopqrstuvwxyz" : Str).length 1).isEmpty) = (decide (97 ≤ c) && decide (c ≤ 122)) := by
  by_cases h : 97 ≤ c ∧ c ≤ 122
  · have e : c = 97 + (c - 97) := by omega
    rw [decide_eq_true h.1, decide_eq_true h.2, e]
    exact lets_has _ (by omega)
  · have z : (decide (97 ≤ c) && decide (c ≤ 122)) = false := by
      cases h1 : decide (97 ≤ c)
      · rfl
      · cases h2 : decide (c ≤ 122)
        · rfl
        · exact absurd ⟨of_decide_eq_true h1, of_decide_eq_true h2⟩ h
    rw [z, PySem.W.occ_nil_of_no]
    · rfl
    · intro i hi
      have hi' : i < 26 := by
        have : i + 1 ≤ 26 := hi
        omega
      show (("abcdefghijklmnopqrstuvwxyz" : Str).cps.extract i (i + 1) == #[c]) = false
      rw [lets_cut i hi']
      have : 97 + i ≠ c := by omega
      simpa using this
end L2

set_option Elab.async false
set_option linter.all false
set_option maxRecDepth 100000
set_option maxHeartbeats 4000000
namespace L2
open PySem PySem.Spec PyProof.Rows
end L2

set_option Elab.async false
set_option linter.all false
set_option maxRecDepth 100000
set_option maxHeartbeats 4000000
namespace L2
open PySem PySem.Spec PyProof.Rows
section
variable {X : Cx}
def rRevL (K : PySem.W.Frag) : V → Hp → VK → Prop := fun x H Q => ∃ a xs, x = .ref a ∧ SqL K H a xs ∧ ∀ p, H p = none → Q (.ref p) (upd H p (.lst xs.reverse))
def tRevL (K : PySem.W.Frag) (te : TE) : TE := fun σ H Q => te σ H fun x H1 => rRevL K x H1 Q
theorem pe_revL {e : Expr} {te : TE} {k : Nat} {p1 p2 p3 pos : Pos} (he : PE X e te) : PE X (.Subscript e (.Slice none none (some (.UnaryOp .USub (.Constant (.int 1) k p1) p2)) p3) pos) (tRevL X.K te) := by
  intro pins s σ H Q I h
  refine Subscript_ (thn (he pins s σ H _ I h) fun v s1 ⟨x, H1, I1, r1, q1⟩ => ?_)
  obtain ⟨a, xs, rfl, hx, q⟩ := q1
  cases r1
  refine wpAny_Slice ?_
  rw [evalPart_none]
  refine wpAny_pure (wpAny_pure ?_)
  rw [evalPart_some]
  refine thn ((pe_un un_neg pe_int : PE X (.UnaryOp .USub (.Constant (.int 1) k p1) p2) _) pins s1 σ H1 (fun x H' => x = .int (-1) ∧ H' = H1) I1 ⟨_, rfl, rfl, rfl⟩) fun vs s2 ⟨y, H2, I2, r2, e2, e3⟩ => ?_
  subst e2 e3
  obtain ⟨t, rfl⟩ := r2
  have I3 : Inv X pins σ H2 { s2 with heap := s2.heap.push { cls := .type "slice", data := .fields #[.none, .none, .int (-1) t] } } := I2.kept (t' := s2.toks) fun b ob q => Heap.get?_push_of_some _ q
  obtain ⟨its, r, ht, hz⟩ := I3.list hx
  have hlen := r.length
  refine tail_any (ops := [.ref a, .ref s2.heap.objs.size]) ht.isList.typeIs slot_list_getitem.lookup ?_ (by with_unfolding_all rfl)
  refine wpAny_getItem_list_slice ht.isList (Heap.IsSliceOf.new ..) .none .none (.int _ _) (by simp) ?_ (by rw [List.size_toArray] <;> omega)
  rw [PySem.W.krv_pick]
  refine ⟨.ref _, _, I3.laid (t' := s2.toks) (o := .lst xs.reverse) (fun b ob q => Heap.get?_push_of_some _ q) (Nat.le_refl _) ?_, rfl, q _ (I3.hok.fresh (Nat.le_refl _))⟩
  exact ⟨by rw [List.length_reverse]; exact hz, its.reverse, 0, r.reverse, Heap.get?_push_size _ rfl⟩
end
end L2

set_option Elab.async false
set_option linter.all false
set_option maxRecDepth 100000
set_option maxHeartbeats 4000000
namespace L2
open PySem PySem.Spec PyProof.Rows
end L2
namespace Lf
open PySem L2
mutual
theorem eqAt_data {X : Cx} {pins : List (Addr × Obj)} {σ : St} {H : Hp} {s : Shared} (I : Inv X pins σ H s) : ∀ (d : Dt) {v v' : V} {u u' : Value} {A : Around}, A.units + d.deep < cLine → IsD H d v → IsD H d v' → RelV v u → RelV v' u' → SeqAt.EqAt A s u u' true
  | .int i, v, v', u, u', A, _, h, h', r, r' => by
    cases (show v = .int i from h)
    cases (show v' = .int i from h')
    obtain ⟨t, rfl⟩ := r
    obtain ⟨t', rfl⟩ := r'
    have := SeqAt.EqAt.int_int (A := A) (s := s) i t i t'
    rw [beq_self_eq_true] at this
    exact this
  | .str x, v, v', u, u', A, _, h, h', r, r' => by
    cases (show v = .str x from h)
    cases (show v' = .str x from h')
    obtain ⟨t, rfl⟩ := r
    obtain ⟨t', rfl⟩ := r'
    have := SeqAt.EqAt.str_str (A := A) (s := s) x t x t'
    rw [beq_self_eq_true] at this
    exact this
  | .bl b, v, v', u, u', A, _, h, h', r, r' => by
    cases (show v = .bl b from h)
    cases (show v' = .bl b from h')
    cases r
    cases r'
    exact SeqAt.EqAt.same _
  | .tup ds, v, v', u, u', A, hA, h, h', r, r' => by
    obtain ⟨a, vs, rfl, ha, hv⟩ := h
    obtain ⟨b, ws, rfl, hb, hw⟩ := h'
    cases r
    cases r'
    by_cases hab : a = b
    · subst hab; exact SeqAt.EqAt.same _
    · obtain ⟨i1, r1, p1, z1⟩ := I.tuple (SqT.of (K := X.K) ha)
      obtain ⟨i2, r2, p2, z2⟩ := I.tuple (SqT.of (K := X.K) hb)
      have hd : A.units + (deepD ds + 1) < cLine := hA
      refine SeqAt.EqAt.of_refs hab ?_
      have q := SeqAt.RcAt.tuples (e := fun _ => true) p1 p2 (by omega) (eqAts_data I ds (A := A.in1) (by show A.units + 1 + deepD ds < cLine; omega) hv hw r1 r2)
      have n1 := r1.length
      have n2 := r2.length
      have l1 := hv.len
      have l2 := hw.len
      have e : ((List.range (min i1.toArray.size i2.toArray.size)).all (fun _ => true) && i1.toArray.size == i2.toArray.size) = true := by
        rw [Bool.and_eq_true]
        exact ⟨by simp, beq_iff_eq.mpr (by simp only [List.size_toArray]; omega)⟩
      rw [e] at q
      exact q
  | .lst ds, v, v', u, u', A, hA, h, h', r, r' => by
    obtain ⟨a, vs, rfl, ha, hv⟩ := h
    obtain ⟨b, ws, rfl, hb, hw⟩ := h'
    cases r
    cases r'
    by_cases hab : a = b
    · subst hab; exact SeqAt.EqAt.same _
    · obtain ⟨i1, r1, p1, z1⟩ := I.list (SqL.of (K := X.K) ha)
      obtain ⟨i2, r2, p2, z2⟩ := I.list (SqL.of (K := X.K) hb)
      have hd : A.units + (deepD ds + 1) < cLine := hA
      refine SeqAt.EqAt.of_refs hab ?_
      have n1 := r1.length
      have n2 := r2.length
      have l1 := hv.len
      have l2 := hw.len
      have q := SeqAt.RcAt.lists (e := fun _ => true) p1.isList p2.isList (by simp only [List.size_toArray]; omega) (by omega) (eqAts_data I ds (A := A.in1) (by show A.units + 1 + deepD ds < cLine; omega) hv hw r1 r2)
      have e : ((List.range i1.toArray.size).all (fun _ => true)) = true := by simp
      rw [e] at q
      exact q
theorem eqAts_data {X : Cx} {pins : List (Addr × Obj)} {σ : St} {H : Hp} {s : Shared} (I : Inv X pins σ H s) : ∀ (ds : List Dt) {vs ws : List V} {us us' : List Value} {A : Around}, A.units + deepD ds < cLine → IsDs H ds vs → IsDs H ds ws → Vals vs us → Vals ws us' →
    ∀ (j : Nat) (h1 : j < us.toArray.size) (h2 : j < us'.toArray.size), SeqAt.EqAt A s us.toArray[j] us'.toArray[j] true
  | [], _, _, us, _, _, _, h, h', r, r', j, h1, _ => by
    cases (show _ = [] from h)
    cases r
    simp at h1
  | d :: ds, _, _, us, us', A, hA, ⟨v, vr, e1, hv, hvs⟩, ⟨v', vr', e2, hw, hws⟩, r, r', j, h1, h2 => by
    subst e1
    subst e2
    cases r with
    | cons r1 r2 =>
    cases r' with
    | cons r1' r2' =>
    have hm : A.units + max d.deep (deepD ds) < cLine := hA
    cases j with
    | zero => exact eqAt_data I d (by omega) hv hw r1 r1'
    | succ j =>
      have := eqAts_data I ds (A := A) (by omega) hvs hws r2 r2' j (by simpa using h1) (by simpa using h2)
      simpa using this
end
def rSame (neg : Bool) : R2 := fun x y H Q => ∃ (d : Dt), d.deep ≤ 60 ∧ ((∃ ds, d = .lst ds) ∨ ∃ ds, d = .tup ds) ∧ IsD H d x ∧ IsD H d y ∧ Q (.bl neg) H
theorem op_neSame {X : Cx} (hu : X.A.units + 64 < cLine) : OpR X (compareOp .NotEq) (rSame false) := by
  intro pins s σ H x y v u Q I rx ry h
  obtain ⟨d, hd, hk, h1, h2, q⟩ := h
  cases d with
  | lst ds =>
    obtain ⟨a, vs, rfl, ha, hv⟩ := h1
    obtain ⟨b, ws, rfl, hb, hw⟩ := h2
    cases rx
    cases ry
    obtain ⟨i1, r1, p1, z1⟩ := I.list (SqL.of (K := X.K) ha)
    obtain ⟨i2, r2, p2, z2⟩ := I.list (SqL.of (K := X.K) hb)
    have n1 := r1.length
    have n2 := r2.length
    have l1 := hv.len
    have l2 := hw.len
    have hd' : deepD ds + 1 ≤ 60 := hd
    refine PySem.SeqAt.RcNeAt.lists (e := fun _ => true) p1.isList p2.isList (by simp only [List.size_toArray]; omega) (by omega) (eqAts_data I ds (A := X.A.in1) (by show X.A.units + 1 + deepD ds < cLine; omega) hv hw r1 r2) _ _ _ _ ?_
    refine ⟨.bl false, H, I, ?_, q⟩
    show Value.bool _ = Value.bool _
    have e : ((List.range i1.toArray.size).all (fun _ => true)) = true := by simp
    rw [e]
    rfl
  | tup ds =>
    obtain ⟨a, vs, rfl, ha, hv⟩ := h1
    obtain ⟨b, ws, rfl, hb, hw⟩ := h2
    cases rx
    cases ry
    obtain ⟨i1, r1, p1, z1⟩ := I.tuple (SqT.of (K := X.K) ha)
    obtain ⟨i2, r2, p2, z2⟩ := I.tuple (SqT.of (K := X.K) hb)
    have n1 := r1.length
    have n2 := r2.length
    have l1 := hv.len
    have l2 := hw.len
    have hd' : deepD ds + 1 ≤ 60 := hd
    refine PySem.SeqAt.RcNeAt.tuples (e := fun _ => true) p1 p2 (by omega) (eqAts_data I ds (A := X.A.in1) (by show X.A.units + 1 + deepD ds < cLine; omega) hv hw r1 r2) _ _ _ _ ?_
    refine ⟨.bl false, H, I, ?_, q⟩
    show Value.bool _ = Value.bool _
    have e : ((List.range (min i1.toArray.size i2.toArray.size)).all (fun _ => true) && i1.toArray.size == i2.toArray.size) = true := by
      rw [Bool.and_eq_true]
      exact ⟨by simp, beq_iff_eq.mpr (by simp only [List.size_toArray]; omega)⟩
    rw [e]
    rfl
  | int i => rcases hk with ⟨_, hk⟩ | ⟨_, hk⟩ <;> cases hk
  | str i => rcases hk with ⟨_, hk⟩ | ⟨_, hk⟩ <;> cases hk
  | bl i => rcases hk with ⟨_, hk⟩ | ⟨_, hk⟩ <;> cases hk
end Lf

set_option Elab.async false
set_option linter.all false
set_option maxRecDepth 100000
set_option maxHeartbeats 4000000
namespace L2
open PySem PySem.Spec PyProof.Rows
end L2

set_option Elab.async false
set_option linter.all false
set_option maxRecDepth 100000
set_option maxHeartbeats 4000000
namespace L2
open PySem PySem.Spec PyProof.Rows
section
variable {X : Cx}
theorem bt_sorted : bootBuiltins "sorted" = some (.builtin "sorted") := by decide +kernel
end
end L2

set_option Elab.async false
set_option linter.all false
set_option maxRecDepth 100000
set_option maxHeartbeats 4000000
namespace L2
open PySem PySem.Spec PyProof.Rows
end L2

set_option Elab.async false
set_option linter.all false
set_option maxRecDepth 100000
set_option maxHeartbeats 4000000
namespace L2
open PySem PySem.Spec PyProof.Rows
end L2

set_option linter.all false
set_option maxRecDepth 100000
namespace Lf
open PySem PySem.W PyProof.Rows
section
variable {lt : Nat → Nat → Bool}
def Blw (n : Nat) (p : Array Nat) : Prop := 0 < n ∧ ∀ x ∈ p.toList, x < n
theorem Blw.at {n : Nat} {p : Array Nat} (h : Blw n p) (k : Nat) : p.getD k 0 < n := by
  rw [Array.getD_eq_getD_getElem?]
  cases e : p[k]? with
  | none => exact h.1
  | some x =>
    refine h.2 x ?_
    rw [← Array.getElem?_toList] at e
    exact List.mem_of_getElem? e
end
end Lf

set_option Elab.async false
set_option linter.all false
set_option maxRecDepth 100000
set_option maxHeartbeats 4000000
namespace L2
open PySem PySem.Spec PyProof.Rows PySem.W
section
variable {prog : Program} {w : World} {A : Around} {E : Value → Shared → Prop} {s : Shared}
abbrev TI2 := Addr × List Int
def t0 : TI2 := (0, [])
end
end L2

set_option Elab.async false
set_option linter.all false
set_option maxRecDepth 100000
set_option maxHeartbeats 4000000
namespace L2
open PySem PySem.Spec PyProof.Rows PySem.W
end L2

set_option linter.all false
namespace Lf
open PySem
def Pw (m : Int) : Prop := m = 1 ∨ m = 2 ∨ m = 4 ∨ m = 8
theorem Pw.max {a b : Int} (ha : Pw a) (hb : Pw b) : Pw (max a b) := by
  by_cases h : a ≤ b
  · rw [Int.max_eq_right h]; exact hb
  · rw [Int.max_eq_left (by omega)]; exact ha
theorem Pw.maxL {l : List Int} (h : ∀ a ∈ l, Pw a) : Pw (maxL 1 l) := by
  induction l with
  | nil => exact .inl rfl
  | cons b r ih => exact Pw.max (h b List.mem_cons_self) (ih fun a ha => h a (List.mem_cons_of_mem _ ha))
end Lf

set_option linter.all false
namespace Lf
end Lf

set_option linter.all false
namespace Lf
open PySem
end Lf

set_option linter.all false
namespace Lf
open PySem
end Lf

set_option linter.all false
namespace Lf
end Lf

set_option linter.all false
namespace Lf
end Lf

set_option linter.all false
namespace Lf
end Lf

set_option linter.all false
namespace Lf
end Lf

set_option Elab.async false
set_option linter.all false
set_option maxRecDepth 100000
set_option maxHeartbeats 4000000
namespace L2
open PySem PySem.Spec PyProof.Rows
section
variable {X : Cx} {pins : List (Addr × Obj)} {σ : St} {H : Hp} {s : Shared} {a : Addr}
theorem Inv.other {u u' : HO} (I : Inv X pins σ H s) (e : H a = some u) (n1 : ∀ y, u ≠ .own y) (n2 : ∀ xs, u ≠ .tup xs) (n3 : ∀ ps, u ≠ .tbl ps) (n4 : ∀ o v, X.H₀ a ≠ some (.frz o v)) (hok : ObjOk X.prog X.w (upd H a u') s.heap a u') : Inv X pins σ (upd H a u') s := by
  have ne : ∀ {b : Addr}, H b = none → b ≠ a := fun h z => by rw [z, e] at h; cases h
  refine ⟨I.ok, I.os, I.bare, ⟨I.base.keep, I.base.slot, fun b o h1 h2 h3 => ?_, I.base.there, fun b xs h => ?_, fun b o v h => ?_, fun b ps h => ?_⟩, I.loc, I.cell, ?_, fun x c h => ?_, fun p hp => ?_, fun b v h => ?_, I.len⟩
  · have := I.base.free b o h1 h2 h3
    rw [upd_ne (ne this)]; exact this
  · have := I.base.tups b xs h
    rw [upd_ne (fun z => by rw [z, e] at this; exact n2 _ (Option.some.inj this))]; exact this
  · have := I.base.frzs b o v h
    rw [upd_ne (fun z => n4 o v (by rw [← z]; exact h))]; exact this
  · obtain ⟨m, q⟩ := I.base.tbls b ps h
    exact ⟨m, by rw [upd_ne (fun z => by rw [z, e] at q; exact n3 _ (Option.some.inj q))]; exact q⟩
  · rw [upd_ne (ne I.free)]; exact I.free
  · rw [upd_ne (ne (I.freeC x c h))]; exact I.freeC x c h
  · obtain ⟨p1, p2, p3⟩ := I.pin p hp
    exact ⟨p1, by rw [upd_ne (ne p2)]; exact p2, p3⟩
  · by_cases hb : b = a
    · subst hb
      rw [upd_same] at h
      cases h
      exact hok
    · rw [upd_ne hb] at h
      refine (I.hok b v h).stay (fun _ _ _ q => q) (fun c q => ?_) fun c xs q => ?_
      · rw [upd_ne (fun z => by rw [z, e] at q; exact n1 _ (Option.some.inj q))]; exact q
      · rw [upd_ne (fun z => by rw [z, e] at q; exact n2 _ (Option.some.inj q))]; exact q
theorem dk_upd {P : Program} {w : World} {H H' : Hp} {h : Heap} {a : Addr} {kvs : List (Key × V)} (x : ObjOk P w H h a (.dK kvs)) : ObjOk P w H' h a (.dK kvs) := x
theorem Inv.freeze {kvs : List (Key × V)} (I : Inv X pins σ H s) (e : H a = some (.dK kvs)) : ∃ o, Inv X pins σ (upd H a (.frz o (.dK kvs))) s := by
  have x := I.hok a _ e
  obtain ⟨_, _, vs, r, o, es, ep, h1, h2⟩ := id x
  refine ⟨o, I.other e (fun _ z => by cases z) (fun _ z => by cases z) (fun _ z => by cases z) (fun o v z => ?_) ⟨h1, dk_upd x⟩⟩
  have := I.base.frzs a o v z
  rw [e] at this; cases this
theorem Inv.thaw {o : Obj} {kvs : List (Key × V)} (I : Inv X pins σ H s) (e : H a = some (.frz o (.dK kvs))) (n : ∀ o v, X.H₀ a ≠ some (.frz o v)) : Inv X pins σ (upd H a (.dK kvs)) s :=
  I.other e (fun _ z => by cases z) (fun _ z => by cases z) (fun _ z => by cases z) n (dk_upd (I.hok a _ e).2)
end
def sFrz (H0 : Hp) (t : TS) : TS := fun D σ H => ∃ a kvs, H a = some (.dK kvs) ∧ (∀ o v, H0 a ≠ some (.frz o v)) ∧ ∀ o,
  t ⟨fun σ' H' => H' a = some (.frz o (.dK kvs)) ∧ D.nx σ' (upd H' a (.dK kvs)), fun v H' => H' a = some (.frz o (.dK kvs)) ∧ D.rt v (upd H' a (.dK kvs)), fun σ' H' => H' a = some (.frz o (.dK kvs)) ∧ D.bk σ' (upd H' a (.dK kvs)), fun σ' H' => H' a = some (.frz o (.dK kvs)) ∧ D.ct σ' (upd H' a (.dK kvs))⟩ σ (upd H a (.frz o (.dK kvs)))
theorem ps_frz {X : Cx} {st : Stmt} {t : TS} (h : PS X st t) : PS X st (sFrz X.H₀ t) := by
  intro pins s σ H D I ⟨a, kvs, ha, hn, q⟩
  obtain ⟨o, I1⟩ := I.freeze ha
  refine thn (h pins s σ _ _ I1 (q o)) fun f s1 h1 => ?_
  cases f with
  | next => obtain ⟨σ', H', I2, e1, q1⟩ := h1; exact ⟨σ', _, I2.thaw e1 hn, q1⟩
  | brk => obtain ⟨σ', H', I2, e1, q1⟩ := h1; exact ⟨σ', _, I2.thaw e1 hn, q1⟩
  | cont => obtain ⟨σ', H', I2, e1, q1⟩ := h1; exact ⟨σ', _, I2.thaw e1 hn, q1⟩
  | ret u => obtain ⟨v, σ', H', I2, r, e1, q1⟩ := h1; exact ⟨v, σ', _, I2.thaw e1 hn, r, q1⟩
def Itd (a : Addr) (o : Obj) (kvs : List (Key × V)) : It :=
  ⟨fun i H => H a = some (.frz o (.dK kvs)) ∧ i < kvs.length, fun i H x H' => H' = H ∧ ∃ kv, kvs[i]? = some kv ∧ x = kV kv.1, fun i H => H a = some (.frz o (.dK kvs)) ∧ kvs.length ≤ i⟩
theorem is_kV {P : Program} {w : World} {k : Key} {u : Value} (h : (mixKind P w).is k u = true) : RelV (kV k) u := by
  cases k with
  | inl i => exact Value.isInt_shape (k := i) h
  | inr x => exact Value.isStrOf_shape (x := x) h
theorem KV.at' {kvs : List (Key × V)} {vs : List (Key × Value)} (r : KV kvs vs) : ∀ {i : Nat} {kv : Key × V}, kvs[i]? = some kv → ∃ u, vs[i]? = some (kv.1, u) := by
  induction r with
  | nil => intro i kv h; simp at h
  | @cons p q ps qs hq t ih =>
    intro i kv h
    cases i with
    | zero => simp at h; subst h; exact ⟨q.2, by simp [hq.1]⟩
    | succ i => obtain ⟨u, e⟩ := ih (i := i) (by simpa using h); exact ⟨u, by simpa using e⟩
theorem frz_dict {X : Cx} {pins : List (Addr × Obj)} {σ : St} {H : Hp} {s : Shared} {a : Addr} {o : Obj} {kvs : List (Key × V)} {es : Array DictEntry} {ep : Nat} (I : Inv X pins σ H s) (e : H a = some (.frz o (.dK kvs))) (hd : o.data = .dict es ep) :
    (a == sysModules) = false ∧ ∃ vs, KV kvs vs ∧ s.heap.DictAt (mixKind X.prog X.w) a vs ep := by
  obtain ⟨h0, _, y, vs, r, o', es', ep', h1, h2, h3, h4⟩ := (show ObjOk X.prog X.w H s.heap a (.frz o (.dK kvs)) from I.hok a _ e)
  rw [h0] at h1
  cases h1
  rw [hd] at h3
  cases h3
  exact ⟨y, vs, r, o, es, h0, h2, hd, h4⟩
theorem turn_keys {P : Program} {w : World} {K : PySem.W.Frag} {tg : Expr} (a it : Addr) (hne : a ≠ it) (o : Obj) (kvs : List (Key × V)) (es : Array DictEntry) (ep : Nat) (hd : o.data = .dict es ep) : Turn P w K tg (Itd a o kvs) [it] it (fun i h => h.IsKeyIter it a i kvs.length ep) where
  mem := by simp
  obj := fun i h st b hb => by
    have e : b = it := by simpa using hb
    subst e
    obtain ⟨o, e, c, d⟩ := st
    exact ⟨o, e, fun v z => by rw [d] at z; cases z⟩
  keep := fun i h h' st k => st.at fun o e => k it (by simp) o e
  item := by
    intro X hP hw hK hc i pins s σ H E I hf st hg
    subst hP hw hK
    obtain ⟨ha, hi⟩ := hg
    obtain ⟨y, vs, r, dd⟩ := frz_dict I ha hd
    obtain ⟨f0, f1, f2, f3, f4, f5⟩ := hf it (by simp)
    have hl : kvs.length = vs.length := r.length
    obtain ⟨u, hu⟩ := r.at' (List.getElem?_eq_getElem hi)
    rw [hl] at st
    refine wpAny_pyNext_dict_item st dd hu fun key h' hk st' sb => ?_
    have I1 : Inv X pins σ H { s with heap := h' } := I.turned (t' := s.toks) (fun b o hb e => (sb.2 b hb).trans e) f0 f1 f3 f4 f5
    rw [← hl] at st'
    obtain ⟨o', e, c, d⟩ := id st'
    exact ⟨key, rfl, go_of (s := { s with heap := h' }) e c d (by decide) ⟨kV kvs[i].1, H, I1, is_kV hk, ⟨rfl, _, List.getElem?_eq_getElem hi, rfl⟩, st', fun b hb => (hf b hb).1⟩⟩
  done := by
    intro X hP hw hK hc i pins s σ H E I hf st hg
    subst hP hw hK
    obtain ⟨ha, hi⟩ := hg
    obtain ⟨y, vs, r, dd⟩ := frz_dict I ha hd
    obtain ⟨f0, f1, f2, f3, f4, f5⟩ := hf it (by simp)
    have hl : kvs.length = vs.length := r.length
    rw [hl] at st
    exact wpAny_pyNext_dict_end (I.ok.hd hc) st dd (by simp; omega) fun h' eb => ⟨rfl, I.turned (t' := s.toks) (fun b o hb e => eb b o hb e) f0 f1 f3 f4 f5⟩
  self := fun _ _ _ _ _ st h => wpAny_pyIter_keyiter st h
def iKeys (tl : TE) : TI := fun σ H R => tl σ H fun x H1 => ∃ a o kvs, x = .ref a ∧ H1 a = some (.frz o (.dK kvs)) ∧ R (Itd a o kvs) H1
theorem pi_keys {X : Cx} {tg l : Expr} {tl : TE} (hl : PE X l tl) : PI X tg l (iKeys tl) := by
  intro pins s σ H R I h
  refine thn (hl pins s σ H _ I h) fun v s1 ⟨x, H1, I1, r1, q1⟩ => ?_
  obtain ⟨a, o, kvs, e, ha, q⟩ := q1
  subst e
  cases r1
  obtain ⟨h0, _, y, vs, r, o', es, ep, h1, h2, h3, h4⟩ := (show ObjOk X.prog X.w H1 s1.heap a (.frz o (.dK kvs)) from I1.hok a _ ha)
  rw [h0] at h1
  cases h1
  have hl : kvs.length = vs.length := r.length
  refine wpAny_pyIter_dict y (⟨o, es, h0, h2, h3, h4⟩ : s1.heap.DictAt (mixKind X.prog X.w) a vs ep) ?_
  refine ⟨s1.heap.objs.size, [s1.heap.objs.size], _, _, H1, rfl, I1.kept (t' := s1.toks) fun b o e => Heap.get?_push_of_some _ e, turn_keys a _ (Nat.ne_of_lt (Heap.lt_size h0)) o kvs es ep h3, ⟨_, Heap.get?_push_size _ rfl, rfl, by rw [hl]; rfl⟩, fun b hb => ?_, q⟩
  have e : b = s1.heap.objs.size := by simpa using hb
  subst e
  exact I1.fpOk (Nat.le_refl _) (I1.hok.fresh (Nat.le_refl _))
end L2

set_option Elab.async false
set_option linter.all false
set_option maxRecDepth 100000
set_option maxHeartbeats 4000000
namespace L2
open PySem PySem.Spec PyProof.Rows
end L2

set_option Elab.async false
set_option linter.all false
set_option maxRecDepth 100000
set_option maxHeartbeats 4000000
namespace L2
open PySem PySem.W PySem.Spec PyProof.Rows PySem.Calls
def allF (h : Heap) : Frag := (List.range h.objs.size).filterMap fun a => (h.get? a).map fun o => (a, o)
theorem lookup_mem {α β : Type} [BEq α] [LawfulBEq α] {a : α} {b : β} : ∀ {l : List (α × β)}, l.lookup a = some b → (a, b) ∈ l
  | [], h => by simp at h
  | (c, d) :: r, h => by
    by_cases e : a = c
    · subst e; simp at h; subst h; exact List.mem_cons_self
    · rw [List.lookup_cons, beq_eq_false_iff_ne.mpr e] at h
      exact List.mem_cons_of_mem _ (lookup_mem h)
theorem allF_in (h : Heap) : (allF h).In h := fun a o e => by
  obtain ⟨b, _, hb⟩ := List.mem_filterMap.mp (lookup_mem e)
  obtain ⟨o', h1, h2⟩ := Option.map_eq_some_iff.mp hb
  cases h2
  exact h1
def exHook {α : Type} (f : Frag → α) (v : α) : Hook where
  α := α
  obs := fun s => f (allF s.heap)
  val := fun _ => v
  says := fun _ h => ∃ K : Frag, K.In h ∧ f K = v
  of := fun _ s e => ⟨allF s.heap, allF_in _, e⟩
  keeps := fun _ _ _ e g => by
    obtain ⟨K, k, e⟩ := e
    exact ⟨K, fun a o q => g _ _ (k a o q), e⟩
theorem boot_size : ∀ w : World, ((boot_heap w.params).isNs mainGlobals && (Array.mk [] : Array GenState).size == 0, (boot_heap w.params).objs.size, (boot_heap w.params).nsMap mainGlobals "__annotations__") = (true, 11, some (.ref 6)) := fun w => by kernel_rfl
noncomputable def onceSeen (tr : (String → Option Builtin) → Program → World → Nat → Option Value → Nat → Shared → Thread → Option Shared) (tb : String → Option Builtin) (im : List Stmt → List Str) {β : Type} (os : List Str → Shared → β) (p : Program) (N : Nat) {α : Type} (Yf : Frag → α) (w : World) (o : OsState) : Option (Bool × β × α) :=
  (tr tb p w 11 (some (.ref 6)) N ⟨boot_heap w.params, Array.mk [], boot_drawn, boot_toks, o⟩ (topStub p)).map fun s₁ =>
    (staticsOk (im p.main.body) (boot_heap w.params) s₁.heap && namesBound p s₁.heap && gensDone s₁ && laidKept (boot_heap w.params) s₁.heap, os (im p.main.body) s₁, Yf (allF s₁.heap))
theorem left_once {p q : Program} {loose : List Str} {Xt : Shared → Bool} {α : Type} {Yf : Frag → α} {v : α} {N : Nat} {g0 : Bool} (hN : Nat.ble 600 N = true) (e : opening p = plainProg p.main.scope.names) (f : ∀ s, fenceModules? p s = some s)
    (all : ∀ w : World, onceSeen topRun treeTable importedModules (fun m s => openSeen q loose m Xt g0 s) p N Yf w = fun _ => some (true, openGood q loose, v)) :
    LeftO p q loose Xt (exHook Yf v).obs (exHook Yf v).val N g0 := fun w => by
  obtain ⟨⟨h, gs, d, k, os⟩, e1, e'⟩ := Option.map_eq_some_iff.mp (boot_open e hN f w)
  obtain ⟨rfl, rfl, rfl, rfl⟩ : h = boot_heap w.params ∧ gs = Array.mk [] ∧ d = boot_drawn ∧ k = boot_toks := by simpa using e'
  obtain ⟨z1, z2, z3⟩ : _ ∧ _ ∧ _ := by simpa only [Prod.mk.injEq] using boot_size w
  obtain ⟨s₁, r, r2⟩ := Option.map_eq_some_iff.mp (congrFun (all w) os)
  obtain ⟨l1, l2, l3⟩ : _ ∧ _ ∧ _ := by simpa only [Prod.mk.injEq] using r2
  have t : topFrom treeTable p w N ⟨boot_heap w.params, Array.mk [], boot_drawn, boot_toks, os⟩ = some s₁ := by
    unfold topFrom
    dsimp only
    rw [z1, z2, z3]
    show (topRun treeTable p w 11 (some (.ref 6)) N _ (topStub p)).bind _ = _
    rw [r]
    show (match staticsOk (importedModules p.main.body) (boot_heap w.params) s₁.heap && namesBound p s₁.heap && gensDone s₁ && laidKept (boot_heap w.params) s₁.heap with | true => _ | false => _) = _
    rw [l1]
  unfold openEnds
  rw [e1]
  show (topFrom treeTable p w N _).map _ = _
  rw [t]
  exact congrArg some (Prod.ext l2 l3)
theorem walk_ex {l : PySem.W.OpenLaw} {n k : Nat} {q : Program} {loose : List Str} {XP : (Str → Option Value) → Heap → Prop} {α : Type} {f : Frag → α} {v : α} {d : DefRec} {CX : CXT} {sp : PySem.W.Frag → Sp} {x : Str}
    (hn : l.most = some n) (hn2 : n ≤ sizeLine) (hdf : d.params.defaults = []) (hr : Room k callerA)
    (F : ∀ (w : World) (K : Frag) (mg : Str → Option Value) (fa : Addr) (h : Heap), f K = v → K.In h → h.Ns mainGlobals mg → mg d.name = some (.ref fa) →
      ∃ fd : FuncData, (∀ (s : Shared) (u : Value), BindsTo s fd ⟨[u], []⟩ [(x, u)]) ∧
        ∀ base : Heap, K.In base → base.Ns mainGlobals mg → FnOk l.prog w K mg base CX k fa fd [x] (sp K))
    (hsp : ∀ (K : PySem.W.Frag) (H : Hp) (a : Addr) (ns : List Int), ns.length ≤ n → Only H → SqL K H a (ns.map V.int) → sp K [.ref a] H (fun v _ => v = .bl true) fun _ _ _ => False)
    (hCX : ∀ (H : Hp) (s : Shared) (e : Value) (s' : Shared), CX [] H s (fun _ _ _ => False) e s' → False) :
    PySem.W.WalkO q loose XP (exHook f v).says l.row.toRowW d [] (fun f vs => PySem.call f vs) := by
  refine Att.attach_call hn hdf fun w s₀ s₁ mg mb fa o pm cd doc a vs ns G Y ho hd hcd hmg hobj hints hlen hg => ?_
  obtain ⟨K, KX, hK⟩ := Y
  obtain ⟨fd, hb, hF⟩ := F w K mg fa _ hK KX G.T.g hmg
  exact law_call KX G.T.g G.T.b G.T.builtins G.T.nolimit hg hobj hints (Nat.le_trans hlen hn2) hr hF hb (fun H hO hS => hsp K H a ns hlen hO hS) fun H e s' => hCX H s₁ e s'
def topOf (p : Program) (i : Nat) : Stmt := p.main.body.getD i (.Pass ⟨0, 0, 0, 0⟩)
def defName (s : Stmt) : Str := match s with
  | .FunctionDef n .. => n
  | .Assign [.Name n _] _ _ => n
  | _ => ⟨#[]⟩
abbrev FO := Option ((Str × Str × Arguments × FuncBody × Scope) × (Addr × List (Str × Addr) × Value × Addr) × Bool)
def obsDef (K : Frag) (n : Str) : FO := match nsIn K mainGlobals n with
  | some (some (.ref f)) => (match K.lookup f with
    | some ⟨_, _, .func fd, _⟩ => some ((fd.name, fd.qualname, fd.params, fd.body, fd.scope), (fd.globals, fd.closure, fd.defaults, fd.builtins), codeIn K fd.code n)
    | _ => none)
  | _ => none
def expDef (s : Stmt) : FO := some ((defName s, defName s, defArgs s, .stmts (defBody s), defScope s), (mainGlobals, [], .none, builtinsNs), true)
def obsNo (K : Frag) (n : Str) : Bool := match nsIn K mainGlobals n with
  | some none => true
  | _ => false
def obsVal (K : Frag) (n : Str) : Option V := match nsIn K mainGlobals n with
  | some (some v) => absV v
  | _ => none
def obsTup (K : Frag) (n : Str) : Option (List (Option V)) := match nsIn K mainGlobals n with
  | some (some (.ref a)) => (match K.lookup a with
    | some ⟨.type "tuple", _, .seq xs _, _⟩ => some (xs.toList.map absV)
    | _ => none)
  | _ => none
theorem obsDef_ex {K : Frag} {s : Stmt} (h : obsDef K (defName s) = expDef s) : ∃ f fd, nsIn K mainGlobals (defName s) = some (some (.ref f)) ∧ Fun K (defName s) (defName s) s f fd := by
  unfold obsDef at h
  cases e : nsIn K mainGlobals (defName s) with
  | none => rw [e] at h; cases h
  | some o =>
    cases o with
    | none => rw [e] at h; cases h
    | some v =>
      cases v with
      | ref f =>
        rw [e] at h
        dsimp only at h
        cases e2 : K.lookup f with
        | none => rw [e2] at h; cases h
        | some ob =>
          obtain ⟨oc, od, da, sl⟩ := ob
          rw [e2] at h
          cases da with
          | func fd =>
            obtain ⟨nm, qn, pa, bo, sc, gl, cl, df, kw, dc, pm, an, cd, ct, bl⟩ := fd
            simp only [expDef, Option.some.injEq, Prod.mk.injEq] at h
            obtain ⟨⟨rfl, rfl, rfl, rfl, rfl⟩, ⟨rfl, rfl, rfl, rfl⟩, h3⟩ := h
            refine ⟨f, _, rfl, ⟨oc, od, kw, dc, pm, an, cd, ct, sl, rfl, e2, h3⟩, ?_⟩
            unfold keepIn
            dsimp only
            rw [e2]
          | _ => cases h
      | _ => rw [e] at h; cases h
theorem obsNo_ex {K : Frag} {n : Str} (h : obsNo K n = true) : nsIn K mainGlobals n = some none := by
  unfold obsNo at h
  split at h
  · assumption
  · cases h
theorem absV_rel : ∀ {v : Value} {x : V}, absV v = some x → RelV x v
  | .none, x, h => by cases h; rfl
  | .bool b, x, h => by cases h; rfl
  | .int i t, x, h => by cases h; exact ⟨t, rfl⟩
  | .str i t, x, h => by cases h; exact ⟨t, rfl⟩
  | .bytes i t, x, h => by cases h; exact ⟨t, rfl⟩
  | .float i t, x, h => by cases h; exact ⟨t, rfl⟩
  | .ref a, x, h => by cases h; rfl
  | .type n, x, h => by cases h; rfl
  | .builtin _, x, h => by cases h
theorem obsVal_ex {K : Frag} {n : Str} {x : V} (h : obsVal K n = some x) : ∃ v, nsIn K mainGlobals n = some (some v) ∧ RelV x v := by
  unfold obsVal at h
  split at h
  · exact ⟨_, by assumption, absV_rel h⟩
  · cases h
theorem vals_abs : ∀ {xs : List Value} {vs : List V}, xs.map absV = vs.map some → Vals vs xs
  | [], [], _ => .nil
  | x :: xs, v :: vs, h => by
    simp only [List.map_cons, List.cons.injEq] at h
    exact .cons (absV_rel h.1) (vals_abs h.2)
  | [], _ :: _, h => by simp at h
  | _ :: _, [], h => by simp at h
theorem obsTup_ex {K : Frag} {n : Str} {vs : List V} (h : obsTup K n = some (vs.map some)) : ∃ a od xs m sl, nsIn K mainGlobals n = some (some (.ref a)) ∧ K.lookup a = some ⟨.type "tuple", od, .seq xs m, sl⟩ ∧ Vals vs xs.toList := by
  unfold obsTup at h
  split at h
  · split at h
    · exact ⟨_, _, _, _, _, by assumption, by assumption, vals_abs (Option.some.inj h)⟩
    · cases h
  · cases h
section
variable {K : Frag} {x qual : Str} {st : Stmt} {f : Addr} {fd : FuncData} {p1 p2 p3 p4 p5 p6 : Str}
abbrev BA (x qual : Str) (st : Stmt) (us : List Value) (r : List (Str × Value)) : Prop := ∀ (kV doc pm : Value) (an : Option Addr) (cdv ct : Value), bindArgs (PySem.W.fnOf x qual (defArgs st) (defBody st) (defScope st) .none kV doc pm an cdv ct) ⟨us, []⟩ = pure r
theorem binds1 (F : Fun K x qual st f fd) (h : ∀ a, BA x qual st [a] [(p1, a)]) : Binds K fd [p1] [] := F.binds fun _ _ _ _ _ _ us hl => by
  match us, hl with
  | [a], _ => exact h a _ _ _ _ _ _
theorem binds2 (F : Fun K x qual st f fd) (h : ∀ a b, BA x qual st [a, b] [(p1, a), (p2, b)]) : Binds K fd [p1, p2] [] := F.binds fun _ _ _ _ _ _ us hl => by
  match us, hl with
  | [a, b], _ => exact h a b _ _ _ _ _ _
theorem binds3 (F : Fun K x qual st f fd) (h : ∀ a b c, BA x qual st [a, b, c] [(p1, a), (p2, b), (p3, c)]) : Binds K fd [p1, p2, p3] [] := F.binds fun _ _ _ _ _ _ us hl => by
  match us, hl with
  | [a, b, c], _ => exact h a b c _ _ _ _ _ _
end
def bltNs : List Str := [⟨#[105, 115, 105, 110, 115, 116, 97, 110, 99, 101]⟩, ⟨#[105, 110, 116]⟩, ⟨#[98, 111, 111, 108]⟩, ⟨#[108, 105, 115, 116]⟩, ⟨#[108, 101, 110]⟩, ⟨#[115, 116, 114]⟩, ⟨#[116, 117, 112, 108, 101]⟩, ⟨#[97, 108, 108]⟩, ⟨#[100, 105, 99, 116]⟩, ⟨#[109, 97, 120]⟩, ⟨#[109, 105, 110]⟩, ⟨#[114, 97, 110, 103, 101]⟩, ⟨#[122, 105, 112]⟩, ⟨#[101, 110, 117, 109, 101, 114, 97, 116, 101]⟩, ⟨#[115, 111, 114, 116, 101, 100]⟩, ⟨#[115, 117, 109]⟩, ⟨#[114, 101, 118, 101, 114, 115, 101, 100]⟩]
theorem no_of {K : Frag} (h : bltNs.map (obsNo K) = List.replicate 17 true) {n : Str} (i : Nat) (hi : i < 17) (e : bltNs[i]? = some n) : nsIn K mainGlobals n = some none := by
  refine obsNo_ex ?_
  have := congrArg (fun l => l[i]?) h
  simp only [List.getElem?_map, e, Option.map_some, List.getElem?_replicate, hi, if_true, Option.some.injEq] at this
  exact this
end L2

set_option Elab.async false
set_option linter.all false
set_option maxRecDepth 100000
namespace Lf
open PySem L2
def All2 {α β : Type} (g : α → β → Prop) : List α → List β → Prop
  | [], ys => ys = []
  | x :: xs, ys => ∃ y yr, ys = y :: yr ∧ g x y ∧ All2 g xs yr
section
variable {α β : Type} {g h : α → β → Prop}
theorem All2.nil : All2 g [] [] := rfl
theorem All2.imp (i : ∀ v x, g v x → h v x) : ∀ {vs : List α} {xs : List β}, All2 g vs xs → All2 h vs xs
  | [], _, e => e
  | _ :: _, _, ⟨x, xr, e, a, b⟩ => ⟨x, xr, e, i _ _ a, All2.imp i b⟩
theorem All2.len : ∀ {vs : List α} {xs : List β}, All2 g vs xs → xs.length = vs.length
  | [], _, e => by rw [show _ = [] from e]; rfl
  | _ :: _, _, ⟨x, xr, e, a, b⟩ => by rw [e, List.length_cons, List.length_cons, All2.len b]
theorem All2.get : ∀ {vs : List α} {xs : List β} {i : Nat} {x : β}, All2 g vs xs → xs[i]? = some x → ∃ v, vs[i]? = some v ∧ g v x
  | [], _, _, _, e, h => by rw [show _ = [] from e] at h; simp at h
  | v :: vs, _, 0, x, ⟨y, yr, e, a, b⟩, h => by rw [e] at h; cases (Option.some.inj h); exact ⟨v, rfl, a⟩
  | v :: vs, _, i + 1, x, ⟨y, yr, e, a, b⟩, h => by
    rw [e] at h
    obtain ⟨u, hu, hg⟩ := All2.get (i := i) b (by simpa using h)
    exact ⟨u, by simpa using hu, hg⟩
theorem All2.at : ∀ {vs : List α} {xs : List β} {i : Nat} {v : α}, All2 g vs xs → vs[i]? = some v → ∃ x, xs[i]? = some x ∧ g v x
  | [], _, _, _, e, h => by simp at h
  | v :: vs, _, 0, w, ⟨y, yr, e, a, b⟩, h => by rw [e]; cases (Option.some.inj h); exact ⟨y, rfl, a⟩
  | v :: vs, _, i + 1, w, ⟨y, yr, e, a, b⟩, h => by
    rw [e]
    obtain ⟨u, hu, hg⟩ := All2.at (i := i) b (by simpa using h)
    exact ⟨u, by simpa using hu, hg⟩
theorem All2.app {us : List α} {ys : List β} (hu : All2 g us ys) : ∀ {vs : List α} {xs : List β}, All2 g vs xs → All2 g (vs ++ us) (xs ++ ys)
  | [], _, e => by rw [show _ = [] from e]; exact hu
  | _ :: _, _, ⟨y, yr, e, a, b⟩ => by rw [e]; exact ⟨y, yr ++ ys, rfl, a, All2.app hu b⟩
theorem All2.one {v : α} {x : β} (hg : g v x) : All2 g [v] [x] := ⟨x, [], rfl, hg, rfl⟩
theorem All2.snoc {v : α} {x : β} (hg : g v x) {vs : List α} {xs : List β} (h : All2 g vs xs) : All2 g (vs ++ [v]) (xs ++ [x]) := All2.app (All2.one hg) h
theorem All2.take : ∀ (n : Nat) {vs : List α} {xs : List β}, All2 g vs xs → All2 g (vs.take n) (xs.take n)
  | 0, _, _, _ => by simp only [List.take_zero]; rfl
  | n + 1, [], _, e => by rw [show _ = [] from e]; rfl
  | n + 1, _ :: _, _, ⟨y, yr, e, a, b⟩ => by rw [e]; exact ⟨y, yr.take n, rfl, a, All2.take n b⟩
theorem All2.drop : ∀ (n : Nat) {vs : List α} {xs : List β}, All2 g vs xs → All2 g (vs.drop n) (xs.drop n)
  | 0, _, _, h => h
  | n + 1, [], _, e => by rw [show _ = [] from e]; rfl
  | n + 1, _ :: _, _, ⟨y, yr, e, a, b⟩ => by rw [e]; exact All2.drop n b
theorem All2.rev : ∀ {vs : List α} {xs : List β}, All2 g vs xs → All2 g vs.reverse xs.reverse
  | [], _, e => by rw [show _ = [] from e]; rfl
  | _ :: _, _, ⟨y, yr, e, a, b⟩ => by rw [e, List.reverse_cons, List.reverse_cons]; exact All2.snoc a (All2.rev b)
theorem All2.set {v : α} {x : β} (hg : g v x) : ∀ (i : Nat) {vs : List α} {xs : List β}, All2 g vs xs → All2 g (vs.set i v) (xs.set i x)
  | _, [], _, e => by rw [show _ = [] from e]; rfl
  | 0, _ :: _, _, ⟨y, yr, e, a, b⟩ => by rw [e]; exact ⟨x, yr, rfl, hg, b⟩
  | i + 1, _ :: _, _, ⟨y, yr, e, a, b⟩ => by rw [e]; exact ⟨y, yr.set i x, rfl, a, All2.set hg i b⟩
end
inductive Dx where
  | non | bl (b : Bool) | int (i : Int) | str (x : Str) | tup (l : List Dx) | lst (l : List Dx) | dic (l : List (Key × Dx)) | scr (K : PySem.W.Frag) (ns : List Int)
  | ins (C : Addr) (fs : List (Str × Dx)) | exc (c : Value)
def excP (a : Addr) (c : Value) : Heap → Prop := fun h => ∃ o vs, h.get? a = some o ∧ o.cls = c ∧ o.data = .fields vs ∧ o.dict = none
mutual
def IsX (H : Hp) : Dx → V → Prop
  | .non, v => v = .non
  | .bl b, v => v = .bl b
  | .int i, v => v = .int i
  | .str x, v => v = .str x
  | .tup ds, v => ∃ a vs, v = .ref a ∧ H a = some (.tup vs) ∧ IsXs H ds vs
  | .lst ds, v => ∃ a vs, v = .ref a ∧ H a = some (.lst vs) ∧ IsXs H ds vs
  | .dic ks, v => ∃ a ws, v = .ref a ∧ Rd H a (.dK ws) ∧ IsXk H ks ws
  | .scr K ns, v => ∃ a, v = .ref a ∧ SqL K H a (ns.map V.int)
  | .ins C fs, v => ∃ a dx ws, v = .ref a ∧ H a = some (.ins C dx ws) ∧ IsXf H fs ws
  | .exc c, v => ∃ a, v = .ref a ∧ H a = some (.ext (excP a c))
def IsXs (H : Hp) : List Dx → List V → Prop
  | [], vs => vs = []
  | d :: r, vs => ∃ v vr, vs = v :: vr ∧ IsX H d v ∧ IsXs H r vr
def IsXk (H : Hp) : List (Key × Dx) → List (Key × V) → Prop
  | [], ws => ws = []
  | k :: r, ws => ∃ w wr, ws = w :: wr ∧ (k.1 = w.1 ∧ IsX H k.2 w.2) ∧ IsXk H r wr
def IsXf (H : Hp) : List (Str × Dx) → List (Str × V) → Prop
  | [], ws => ws = []
  | k :: r, ws => ∃ w wr, ws = w :: wr ∧ (k.1 = w.1 ∧ IsX H k.2 w.2) ∧ IsXf H r wr
end
theorem IsXs.all {H : Hp} : ∀ {ds : List Dx} {vs : List V}, IsXs H ds vs ↔ All2 (IsX H) ds vs
  | [], vs => by simp only [IsXs, All2]
  | d :: r, vs => by
    simp only [IsXs, All2]
    constructor
    · rintro ⟨v, vr, e, a, b⟩; exact ⟨v, vr, e, a, IsXs.all.mp b⟩
    · rintro ⟨v, vr, e, a, b⟩; exact ⟨v, vr, e, a, IsXs.all.mpr b⟩
abbrev KvX (H : Hp) (k : Key × Dx) (w : Key × V) : Prop := k.1 = w.1 ∧ IsX H k.2 w.2
theorem IsXk.all {H : Hp} : ∀ {ds : List (Key × Dx)} {vs : List (Key × V)}, IsXk H ds vs ↔ All2 (KvX H) ds vs
  | [], vs => by simp only [IsXk, All2]
  | d :: r, vs => by
    simp only [IsXk, All2]
    constructor
    · rintro ⟨v, vr, e, a, b⟩; exact ⟨v, vr, e, a, IsXk.all.mp b⟩
    · rintro ⟨v, vr, e, a, b⟩; exact ⟨v, vr, e, a, IsXk.all.mpr b⟩
abbrev FvX (H : Hp) (k : Str × Dx) (w : Str × V) : Prop := k.1 = w.1 ∧ IsX H k.2 w.2
theorem IsXf.all {H : Hp} : ∀ {ds : List (Str × Dx)} {vs : List (Str × V)}, IsXf H ds vs ↔ All2 (FvX H) ds vs
  | [], vs => by simp only [IsXf, All2]
  | d :: r, vs => by
    simp only [IsXf, All2]
    constructor
    · rintro ⟨v, vr, e, a, b⟩; exact ⟨v, vr, e, a, IsXf.all.mp b⟩
    · rintro ⟨v, vr, e, a, b⟩; exact ⟨v, vr, e, a, IsXf.all.mpr b⟩
def SameF (H H' : Hp) : Prop := ∀ b o, H b = some o → H' b = some o ∨ ∃ ob ws, (o = .dK ws ∧ H' b = some (.frz ob (.dK ws))) ∨ (o = .frz ob (.dK ws) ∧ H' b = some (.dK ws))
theorem SameF.of {H H' : Hp} (e : Same H H') : SameF H H' := fun b o h => .inl (e _ _ h)
theorem SameF.tup {H H' : Hp} (e : SameF H H') {a : Addr} {vs : List V} (h : H a = some (.tup vs)) : H' a = some (.tup vs) := by
  rcases e _ _ h with q | ⟨ob, ws, q | q⟩
  · exact q
  · cases q.1
  · cases q.1
theorem SameF.lst {H H' : Hp} (e : SameF H H') {a : Addr} {vs : List V} (h : H a = some (.lst vs)) : H' a = some (.lst vs) := by
  rcases e _ _ h with q | ⟨ob, ws, q | q⟩
  · exact q
  · cases q.1
  · cases q.1
theorem SameF.dic {H H' : Hp} (e : SameF H H') {a : Addr} {ws : List (Key × V)} (h : Rd H a (.dK ws)) : Rd H' a (.dK ws) := by
  rcases h with h | ⟨o, h⟩
  · rcases e _ _ h with q | ⟨ob, ws, q | q⟩
    · exact .inl q
    · obtain ⟨q1, q2⟩ := q; cases q1; exact .inr ⟨_, q2⟩
    · cases q.1
  · rcases e _ _ h with q | ⟨ob, ws, q | q⟩
    · exact .inr ⟨_, q⟩
    · cases q.1
    · obtain ⟨q1, q2⟩ := q; cases q1; exact .inl q2
theorem SameF.ins {H H' : Hp} (e : SameF H H') {a C dx : Addr} {ws : List (Str × V)} (h : H a = some (.ins C dx ws)) : H' a = some (.ins C dx ws) := by
  rcases e _ _ h with q | ⟨ob, ws, q | q⟩
  · exact q
  · cases q.1
  · cases q.1
theorem SameF.ext {H H' : Hp} (e : SameF H H') {a : Addr} {φ : Heap → Prop} (h : H a = some (.ext φ)) : H' a = some (.ext φ) := by
  rcases e _ _ h with q | ⟨ob, ws, q | q⟩
  · exact q
  · cases q.1
  · cases q.1
theorem SameF.sq {H H' : Hp} (e : SameF H H') {K : PySem.W.Frag} {a : Addr} {xs : List V} (h : SqL K H a xs) : SqL K H' a xs := by
  rcases h with (h | ⟨o, h⟩) | h
  · exact .inl (.inl (e.lst h))
  · rcases e _ _ h with q | ⟨ob, ws, q | q⟩
    · exact .inl (.inr ⟨o, q⟩)
    · cases q.1
    · cases q.1
  · exact .inr h
mutual
theorem IsX.sameF {H H' : Hp} (e : SameF H H') : ∀ (d : Dx) (v : V), IsX H d v → IsX H' d v
  | .non, v, h => by simpa only [IsX] using h
  | .bl _, v, h => by simpa only [IsX] using h
  | .int _, v, h => by simpa only [IsX] using h
  | .str _, v, h => by simpa only [IsX] using h
  | .tup ds, v, h => by
    simp only [IsX] at h ⊢
    obtain ⟨a, vs, h1, h2, h3⟩ := h
    exact ⟨a, vs, h1, e.tup h2, IsXs.sameF e ds vs h3⟩
  | .lst ds, v, h => by
    simp only [IsX] at h ⊢
    obtain ⟨a, vs, h1, h2, h3⟩ := h
    exact ⟨a, vs, h1, e.lst h2, IsXs.sameF e ds vs h3⟩
  | .dic ks, v, h => by
    simp only [IsX] at h ⊢
    obtain ⟨a, ws, h1, h2, h3⟩ := h
    exact ⟨a, ws, h1, e.dic h2, IsXk.sameF e ks ws h3⟩
  | .scr K ns, v, h => by
    simp only [IsX] at h ⊢
    obtain ⟨a, h1, h2⟩ := h
    exact ⟨a, h1, e.sq h2⟩
  | .ins C fs, v, h => by
    simp only [IsX] at h ⊢
    obtain ⟨a, dx, ws, h1, h2, h3⟩ := h
    exact ⟨a, dx, ws, h1, e.ins h2, IsXf.sameF e fs ws h3⟩
  | .exc c, v, h => by
    simp only [IsX] at h ⊢
    obtain ⟨a, h1, h2⟩ := h
    exact ⟨a, h1, e.ext h2⟩
theorem IsXs.sameF {H H' : Hp} (e : SameF H H') : ∀ (ds : List Dx) (vs : List V), IsXs H ds vs → IsXs H' ds vs
  | [], vs, h => by simpa only [IsXs] using h
  | d :: r, vs, h => by
    simp only [IsXs] at h ⊢
    obtain ⟨v, vr, h1, h2, h3⟩ := h
    exact ⟨v, vr, h1, IsX.sameF e d v h2, IsXs.sameF e r vr h3⟩
theorem IsXk.sameF {H H' : Hp} (e : SameF H H') : ∀ (ds : List (Key × Dx)) (ws : List (Key × V)), IsXk H ds ws → IsXk H' ds ws
  | [], vs, h => by simpa only [IsXk] using h
  | d :: r, vs, h => by
    simp only [IsXk] at h ⊢
    obtain ⟨v, vr, h1, h2, h3⟩ := h
    exact ⟨v, vr, h1, ⟨h2.1, IsX.sameF e d.2 v.2 h2.2⟩, IsXk.sameF e r vr h3⟩
theorem IsXf.sameF {H H' : Hp} (e : SameF H H') : ∀ (ds : List (Str × Dx)) (ws : List (Str × V)), IsXf H ds ws → IsXf H' ds ws
  | [], vs, h => by simpa only [IsXf] using h
  | d :: r, vs, h => by
    simp only [IsXf] at h ⊢
    obtain ⟨v, vr, h1, h2, h3⟩ := h
    exact ⟨v, vr, h1, ⟨h2.1, IsX.sameF e d.2 v.2 h2.2⟩, IsXf.sameF e r vr h3⟩
end
theorem IsX.toF {H H' : Hp} {d : Dx} {v : V} (h : IsX H d v) (e : SameF H H') : IsX H' d v := IsX.sameF e d v h
theorem IsX.to {H H' : Hp} {d : Dx} {v : V} (h : IsX H d v) (e : Same H H') : IsX H' d v := IsX.sameF (.of e) d v h
theorem IsX.int_eq {H : Hp} {i : Int} {v : V} (h : IsX H (.int i) v) : v = .int i := by simpa only [IsX] using h
theorem IsX.bl_eq {H : Hp} {i : Bool} {v : V} (h : IsX H (.bl i) v) : v = .bl i := by simpa only [IsX] using h
theorem IsX.str_eq {H : Hp} {i : Str} {v : V} (h : IsX H (.str i) v) : v = .str i := by simpa only [IsX] using h
theorem IsX.non_eq {H : Hp} {v : V} (h : IsX H .non v) : v = .non := by simpa only [IsX] using h
theorem IsX.tup_eq {H : Hp} {l : List Dx} {v : V} (h : IsX H (.tup l) v) : ∃ a vs, v = .ref a ∧ H a = some (.tup vs) ∧ All2 (IsX H) l vs := by
  simp only [IsX] at h
  obtain ⟨a, vs, h1, h2, h3⟩ := h
  exact ⟨a, vs, h1, h2, IsXs.all.mp h3⟩
theorem IsX.lst_eq {H : Hp} {l : List Dx} {v : V} (h : IsX H (.lst l) v) : ∃ a vs, v = .ref a ∧ H a = some (.lst vs) ∧ All2 (IsX H) l vs := by
  simp only [IsX] at h
  obtain ⟨a, vs, h1, h2, h3⟩ := h
  exact ⟨a, vs, h1, h2, IsXs.all.mp h3⟩
theorem IsX.dic_eq {H : Hp} {l : List (Key × Dx)} {v : V} (h : IsX H (.dic l) v) : ∃ a ws, v = .ref a ∧ Rd H a (.dK ws) ∧ All2 (KvX H) l ws := by
  simp only [IsX] at h
  obtain ⟨a, vs, h1, h2, h3⟩ := h
  exact ⟨a, vs, h1, h2, IsXk.all.mp h3⟩
theorem IsX.scr_eq {H : Hp} {K : PySem.W.Frag} {ns : List Int} {v : V} (h : IsX H (.scr K ns) v) : ∃ a, v = .ref a ∧ SqL K H a (ns.map V.int) := by simpa only [IsX] using h
theorem IsX.of_scr {H : Hp} {K : PySem.W.Frag} {ns : List Int} {a : Addr} (h : SqL K H a (ns.map V.int)) : IsX H (.scr K ns) (.ref a) := by simp only [IsX]; exact ⟨a, rfl, h⟩
theorem IsX.of_ins {H : Hp} {C a dx : Addr} {fs : List (Str × Dx)} {ws : List (Str × V)} (h : H a = some (.ins C dx ws)) (h' : All2 (FvX H) fs ws) : IsX H (.ins C fs) (.ref a) := by simp only [IsX]; exact ⟨a, dx, ws, rfl, h, IsXf.all.mpr h'⟩
theorem IsX.of_int {H : Hp} (i : Int) : IsX H (.int i) (.int i) := by simp only [IsX]
theorem IsX.of_bl {H : Hp} (i : Bool) : IsX H (.bl i) (.bl i) := by simp only [IsX]
theorem IsX.of_str {H : Hp} (i : Str) : IsX H (.str i) (.str i) := by simp only [IsX]
theorem IsX.of_non {H : Hp} : IsX H .non .non := by simp only [IsX]
theorem IsX.of_tup {H : Hp} {l : List Dx} {a : Addr} {vs : List V} (h : H a = some (.tup vs)) (h' : All2 (IsX H) l vs) : IsX H (.tup l) (.ref a) := by simp only [IsX]; exact ⟨a, vs, rfl, h, IsXs.all.mpr h'⟩
theorem IsX.of_lst {H : Hp} {l : List Dx} {a : Addr} {vs : List V} (h : H a = some (.lst vs)) (h' : All2 (IsX H) l vs) : IsX H (.lst l) (.ref a) := by simp only [IsX]; exact ⟨a, vs, rfl, h, IsXs.all.mpr h'⟩
theorem IsX.of_dic {H : Hp} {l : List (Key × Dx)} {a : Addr} {vs : List (Key × V)} (h : Rd H a (.dK vs)) (h' : All2 (KvX H) l vs) : IsX H (.dic l) (.ref a) := by simp only [IsX]; exact ⟨a, vs, rfl, h, IsXk.all.mpr h'⟩
inductive Ow where
  | tr (d : Dx) | ol (a : Addr) (l : List Ow) | od (a : Addr) (l : List (Key × Ow)) | oi (C a dx : Addr) (l : List (Str × Ow)) | ot (l : List Ow)
mutual
def Ow.d : Ow → Dx
  | .tr d => d
  | .ol _ l => .lst (owDs l)
  | .od _ l => .dic (owDk l)
  | .oi C _ _ l => .ins C (owDf l)
  | .ot l => .tup (owDs l)
def owDs : List Ow → List Dx
  | [] => []
  | o :: r => o.d :: owDs r
def owDk : List (Key × Ow) → List (Key × Dx)
  | [] => []
  | o :: r => (o.1, o.2.d) :: owDk r
def owDf : List (Str × Ow) → List (Str × Dx)
  | [] => []
  | o :: r => (o.1, o.2.d) :: owDf r
end
mutual
def Ow.fp : Ow → List Addr
  | .tr _ => []
  | .ol a l => a :: owFs l
  | .od a l => a :: owFk l
  | .oi _ a dx l => a :: dx :: owFf l
  | .ot l => owFs l
def owFs : List Ow → List Addr
  | [] => []
  | o :: r => o.fp ++ owFs r
def owFk : List (Key × Ow) → List Addr
  | [] => []
  | o :: r => o.2.fp ++ owFk r
def owFf : List (Str × Ow) → List Addr
  | [] => []
  | o :: r => o.2.fp ++ owFf r
end
mutual
def OwOk (G H : Hp) : Ow → V → Prop
  | .tr d, v => IsX G d v
  | .ol a l, v => v = .ref a ∧ ∃ vs, H a = some (.lst vs) ∧ OwOks G H l vs
  | .od a l, v => v = .ref a ∧ ∃ ws, H a = some (.dK ws) ∧ OwOkk G H l ws
  | .oi C a dx l, v => v = .ref a ∧ ∃ ws, H a = some (.ins C dx ws) ∧ H dx = some (.own a) ∧ OwOkf G H l ws
  | .ot l, v => ∃ a vs, v = .ref a ∧ G a = some (.tup vs) ∧ OwOks G H l vs
def OwOks (G H : Hp) : List Ow → List V → Prop
  | [], vs => vs = []
  | o :: r, vs => ∃ v vr, vs = v :: vr ∧ OwOk G H o v ∧ OwOks G H r vr
def OwOkk (G H : Hp) : List (Key × Ow) → List (Key × V) → Prop
  | [], vs => vs = []
  | o :: r, vs => ∃ v vr, vs = v :: vr ∧ (o.1 = v.1 ∧ OwOk G H o.2 v.2) ∧ OwOkk G H r vr
def OwOkf (G H : Hp) : List (Str × Ow) → List (Str × V) → Prop
  | [], vs => vs = []
  | o :: r, vs => ∃ v vr, vs = v :: vr ∧ (o.1 = v.1 ∧ OwOk G H o.2 v.2) ∧ OwOkf G H r vr
end
section
variable {G G' H H' : Hp}
mutual
theorem OwOk.mono (e : SameF G G') : ∀ (o : Ow) (v : V), (∀ b ∈ o.fp, H' b = H b) → OwOk G H o v → OwOk G' H' o v
  | .tr d, v, _, h => by simp only [OwOk] at h ⊢; exact h.toF e
  | .ol a l, v, k, h => by
    simp only [OwOk, Ow.fp] at h k ⊢
    obtain ⟨h1, vs, h2, h3⟩ := h
    exact ⟨h1, vs, by rw [k a List.mem_cons_self]; exact h2, OwOks.mono e l vs (fun b hb => k b (List.mem_cons_of_mem _ hb)) h3⟩
  | .od a l, v, k, h => by
    simp only [OwOk, Ow.fp] at h k ⊢
    obtain ⟨h1, vs, h2, h3⟩ := h
    exact ⟨h1, vs, by rw [k a List.mem_cons_self]; exact h2, OwOkk.mono e l vs (fun b hb => k b (List.mem_cons_of_mem _ hb)) h3⟩
  | .oi C a dx l, v, k, h => by
    simp only [OwOk, Ow.fp] at h k ⊢
    obtain ⟨h1, vs, h2, h4, h3⟩ := h
    exact ⟨h1, vs, by rw [k a List.mem_cons_self]; exact h2, by rw [k dx (List.mem_cons_of_mem _ List.mem_cons_self)]; exact h4, OwOkf.mono e l vs (fun b hb => k b (List.mem_cons_of_mem _ (List.mem_cons_of_mem _ hb))) h3⟩
  | .ot l, v, k, h => by
    simp only [OwOk, Ow.fp] at h k ⊢
    obtain ⟨a, vs, h1, h2, h3⟩ := h
    exact ⟨a, vs, h1, e.tup h2, OwOks.mono e l vs k h3⟩
theorem OwOks.mono (e : SameF G G') : ∀ (l : List Ow) (vs : List V), (∀ b ∈ owFs l, H' b = H b) → OwOks G H l vs → OwOks G' H' l vs
  | [], vs, _, h => by simpa only [OwOks] using h
  | o :: r, vs, k, h => by
    simp only [OwOks, owFs] at h k ⊢
    obtain ⟨v, vr, h1, h2, h3⟩ := h
    exact ⟨v, vr, h1, OwOk.mono e o v (fun b hb => k b (List.mem_append_left _ hb)) h2, OwOks.mono e r vr (fun b hb => k b (List.mem_append_right _ hb)) h3⟩
theorem OwOkk.mono (e : SameF G G') : ∀ (l : List (Key × Ow)) (vs : List (Key × V)), (∀ b ∈ owFk l, H' b = H b) → OwOkk G H l vs → OwOkk G' H' l vs
  | [], vs, _, h => by simpa only [OwOkk] using h
  | o :: r, vs, k, h => by
    simp only [OwOkk, owFk] at h k ⊢
    obtain ⟨v, vr, h1, h2, h3⟩ := h
    exact ⟨v, vr, h1, ⟨h2.1, OwOk.mono e o.2 v.2 (fun b hb => k b (List.mem_append_left _ hb)) h2.2⟩, OwOkk.mono e r vr (fun b hb => k b (List.mem_append_right _ hb)) h3⟩
theorem OwOkf.mono (e : SameF G G') : ∀ (l : List (Str × Ow)) (vs : List (Str × V)), (∀ b ∈ owFf l, H' b = H b) → OwOkf G H l vs → OwOkf G' H' l vs
  | [], vs, _, h => by simpa only [OwOkf] using h
  | o :: r, vs, k, h => by
    simp only [OwOkf, owFf] at h k ⊢
    obtain ⟨v, vr, h1, h2, h3⟩ := h
    exact ⟨v, vr, h1, ⟨h2.1, OwOk.mono e o.2 v.2 (fun b hb => k b (List.mem_append_left _ hb)) h2.2⟩, OwOkf.mono e r vr (fun b hb => k b (List.mem_append_right _ hb)) h3⟩
end
def Fine (H : Hp) (b : Addr) : Prop := ∃ o, H b = some o ∧ ∀ ob u, o ≠ .frz ob u
mutual
theorem OwOk.there : ∀ (o : Ow) (v : V), OwOk G H o v → ∀ b ∈ o.fp, Fine H b
  | .tr d, v, _, b, hb => by simp only [Ow.fp] at hb; cases hb
  | .ol a l, v, h, b, hb => by
    simp only [OwOk, Ow.fp] at h hb
    obtain ⟨h1, vs, h2, h3⟩ := h
    rcases List.mem_cons.mp hb with rfl | hb
    · exact ⟨_, h2, fun _ _ z => nomatch z⟩
    · exact OwOks.there l vs h3 b hb
  | .od a l, v, h, b, hb => by
    simp only [OwOk, Ow.fp] at h hb
    obtain ⟨h1, vs, h2, h3⟩ := h
    rcases List.mem_cons.mp hb with rfl | hb
    · exact ⟨_, h2, fun _ _ z => nomatch z⟩
    · exact OwOkk.there l vs h3 b hb
  | .oi C a dx l, v, h, b, hb => by
    simp only [OwOk, Ow.fp] at h hb
    obtain ⟨h1, vs, h2, h4, h3⟩ := h
    rcases List.mem_cons.mp hb with rfl | hb
    · exact ⟨_, h2, fun _ _ z => nomatch z⟩
    · rcases List.mem_cons.mp hb with rfl | hb
      · exact ⟨_, h4, fun _ _ z => nomatch z⟩
      · exact OwOkf.there l vs h3 b hb
  | .ot l, v, h, b, hb => by
    simp only [OwOk, Ow.fp] at h hb
    obtain ⟨a, vs, h1, h2, h3⟩ := h
    exact OwOks.there l vs h3 b hb
theorem OwOks.there : ∀ (l : List Ow) (vs : List V), OwOks G H l vs → ∀ b ∈ owFs l, Fine H b
  | [], vs, _, b, hb => by simp only [owFs] at hb; cases hb
  | o :: r, vs, h, b, hb => by
    simp only [OwOks, owFs] at h hb
    obtain ⟨v, vr, h1, h2, h3⟩ := h
    rcases List.mem_append.mp hb with hb | hb
    · exact OwOk.there o v h2 b hb
    · exact OwOks.there r vr h3 b hb
theorem OwOkk.there : ∀ (l : List (Key × Ow)) (vs : List (Key × V)), OwOkk G H l vs → ∀ b ∈ owFk l, Fine H b
  | [], vs, _, b, hb => by simp only [owFk] at hb; cases hb
  | o :: r, vs, h, b, hb => by
    simp only [OwOkk, owFk] at h hb
    obtain ⟨v, vr, h1, h2, h3⟩ := h
    rcases List.mem_append.mp hb with hb | hb
    · exact OwOk.there o.2 v.2 h2.2 b hb
    · exact OwOkk.there r vr h3 b hb
theorem OwOkf.there : ∀ (l : List (Str × Ow)) (vs : List (Str × V)), OwOkf G H l vs → ∀ b ∈ owFf l, Fine H b
  | [], vs, _, b, hb => by simp only [owFf] at hb; cases hb
  | o :: r, vs, h, b, hb => by
    simp only [OwOkf, owFf] at h hb
    obtain ⟨v, vr, h1, h2, h3⟩ := h
    rcases List.mem_append.mp hb with hb | hb
    · exact OwOk.there o.2 v.2 h2.2 b hb
    · exact OwOkf.there r vr h3 b hb
end
mutual
theorem OwOk.tree (e : SameF G G') : ∀ (o : Ow) (v : V), (∀ b ∈ o.fp, G' b = H b) → OwOk G H o v → IsX G' o.d v
  | .tr d, v, _, h => by simp only [OwOk, Ow.d] at h ⊢; exact h.toF e
  | .ol a l, v, k, h => by
    simp only [OwOk, Ow.fp, Ow.d] at h k ⊢
    obtain ⟨h1, vs, h2, h3⟩ := h
    subst h1
    exact IsX.of_lst (by rw [k a List.mem_cons_self]; exact h2) (OwOks.tree e l vs (fun b hb => k b (List.mem_cons_of_mem _ hb)) h3)
  | .od a l, v, k, h => by
    simp only [OwOk, Ow.fp, Ow.d] at h k ⊢
    obtain ⟨h1, vs, h2, h3⟩ := h
    subst h1
    exact IsX.of_dic (.inl (by rw [k a List.mem_cons_self]; exact h2)) (OwOkk.tree e l vs (fun b hb => k b (List.mem_cons_of_mem _ hb)) h3)
  | .oi C a dx l, v, k, h => by
    simp only [OwOk, Ow.fp, Ow.d] at h k ⊢
    obtain ⟨h1, vs, h2, h4, h3⟩ := h
    subst h1
    exact IsX.of_ins (by rw [k a List.mem_cons_self]; exact h2) (OwOkf.tree e l vs (fun b hb => k b (List.mem_cons_of_mem _ (List.mem_cons_of_mem _ hb))) h3)
  | .ot l, v, k, h => by
    simp only [OwOk, Ow.fp, Ow.d] at h k ⊢
    obtain ⟨a, vs, h1, h2, h3⟩ := h
    subst h1
    exact IsX.of_tup (e.tup h2) (OwOks.tree e l vs k h3)
theorem OwOks.tree (e : SameF G G') : ∀ (l : List Ow) (vs : List V), (∀ b ∈ owFs l, G' b = H b) → OwOks G H l vs → All2 (IsX G') (owDs l) vs
  | [], vs, _, h => by simpa only [OwOks, owDs, All2] using h
  | o :: r, vs, k, h => by
    simp only [OwOks, owFs, owDs] at h k ⊢
    obtain ⟨v, vr, h1, h2, h3⟩ := h
    exact ⟨v, vr, h1, OwOk.tree e o v (fun b hb => k b (List.mem_append_left _ hb)) h2, OwOks.tree e r vr (fun b hb => k b (List.mem_append_right _ hb)) h3⟩
theorem OwOkk.tree (e : SameF G G') : ∀ (l : List (Key × Ow)) (vs : List (Key × V)), (∀ b ∈ owFk l, G' b = H b) → OwOkk G H l vs → All2 (KvX G') (owDk l) vs
  | [], vs, _, h => by simpa only [OwOkk, owDk, All2] using h
  | o :: r, vs, k, h => by
    simp only [OwOkk, owFk, owDk] at h k ⊢
    obtain ⟨v, vr, h1, h2, h3⟩ := h
    exact ⟨v, vr, h1, ⟨h2.1, OwOk.tree e o.2 v.2 (fun b hb => k b (List.mem_append_left _ hb)) h2.2⟩, OwOkk.tree e r vr (fun b hb => k b (List.mem_append_right _ hb)) h3⟩
theorem OwOkf.tree (e : SameF G G') : ∀ (l : List (Str × Ow)) (vs : List (Str × V)), (∀ b ∈ owFf l, G' b = H b) → OwOkf G H l vs → All2 (FvX G') (owDf l) vs
  | [], vs, _, h => by simpa only [OwOkf, owDf, All2] using h
  | o :: r, vs, k, h => by
    simp only [OwOkf, owFf, owDf] at h k ⊢
    obtain ⟨v, vr, h1, h2, h3⟩ := h
    exact ⟨v, vr, h1, ⟨h2.1, OwOk.tree e o.2 v.2 (fun b hb => k b (List.mem_append_left _ hb)) h2.2⟩, OwOkf.tree e r vr (fun b hb => k b (List.mem_append_right _ hb)) h3⟩
end
end
inductive Sv where
  | tr (d : Dx) | ol (l : List Dx) | od (l : List (Key × Dx)) | ow (o : Ow)
def Sv.d : Sv → Dx
  | .tr d => d
  | .ol l => .lst l
  | .od l => .dic l
  | .ow o => o.d
inductive Sl where
  | un | v (s : Sv) | bw (l : List Dx) | bo (o : Ow) | pn (v : V)
abbrev Rw := Sl × Option V
def ownA : Rw → List Addr
  | (.v (.ol _), some (.ref a)) => [a]
  | (.v (.od _), some (.ref a)) => [a]
  | (.bw _, some (.ref a)) => [a]
  | (.v (.ow o), _) => o.fp
  | (.bo o, _) => o.fp
  | _ => []
def owns (P : List Rw) : List Addr := P.flatMap ownA
def hid (O : List Addr) (H : Hp) : Hp := fun b => if b ∈ O then none else H b
theorem hid_some {O : List Addr} {H : Hp} {b : Addr} {o : HO} : hid O H b = some o ↔ b ∉ O ∧ H b = some o := by
  unfold hid
  by_cases h : b ∈ O
  · rw [if_pos h]; simp [h]
  · rw [if_neg h]; simp [h]
theorem hid_same {O : List Addr} {H H' : Hp} (e : Same H H') : Same (hid O H) (hid O H') := fun b o h => hid_some.mpr ⟨(hid_some.mp h).1, e _ _ (hid_some.mp h).2⟩
theorem hid_less {O O' : List Addr} {H : Hp} (e : ∀ a ∈ O', a ∈ O) : Same (hid O H) (hid O' H) := fun b o h => hid_some.mpr ⟨fun z => (hid_some.mp h).1 (e _ z), (hid_some.mp h).2⟩
theorem hid_sub {O : List Addr} {H : Hp} : Same (hid O H) H := fun b o h => (hid_some.mp h).2
def nf : Option HO → Option HO
  | some (.frz _ _) => none
  | o => o
theorem nf_some {x : Option HO} {o : HO} (h : nf x = some o) : x = some o := by
  unfold nf at h
  split at h
  · cases h
  · exact h
theorem nf_mono {x y : Option HO} {o : HO} (h : nf x = some o) (e : ∀ o, x = some o → y = some o) : nf y = some o := by
  have hx := nf_some h
  rw [hx] at h
  rw [e o hx]
  exact h
def ext (Hs H0 H : Hp) : Hp := fun b => match H0 b with | none => nf (H b) | some _ => Hs b
theorem ext_new {Hs H0 H : Hp} {b : Addr} (h : H0 b = none) : ext Hs H0 H b = nf (H b) := by unfold ext; rw [h]
theorem ext_old {Hs H0 H : Hp} {b : Addr} {o : HO} (h : H0 b = some o) : ext Hs H0 H b = Hs b := by unfold ext; rw [h]
theorem ext_same {Hs H0 H H' : Hp} (e : Same H H') : Same (ext Hs H0 H) (ext Hs H0 H') := fun b o h => by
  cases q : H0 b with
  | none => rw [ext_new q] at h ⊢; exact nf_mono h (e b)
  | some u => rw [ext_old q] at h ⊢; exact h
def RowOk (O : List Addr) (G H : Hp) : Rw → Prop
  | (.un, _) => True
  | (.pn w, v) => v = some w
  | (.v (.tr d), v) => ∃ x, v = some x ∧ IsX (hid O G) d x
  | (.v (.ol l), v) => ∃ a vs, v = some (.ref a) ∧ H a = some (.lst vs) ∧ All2 (IsX (hid O G)) l vs
  | (.v (.od l), v) => ∃ a ws, v = some (.ref a) ∧ H a = some (.dK ws) ∧ All2 (KvX (hid O G)) l ws
  | (.bw l, v) => ∃ a vs, v = some (.ref a) ∧ H a = some (.lst vs) ∧ All2 (IsX (hid O G)) l vs
  | (.v (.ow o), v) => ∃ x, v = some x ∧ OwOk (hid O G) H o x
  | (.bo o, v) => ∃ x, v = some x ∧ OwOk (hid O G) H o x
theorem KvX.toF {H H' : Hp} {k : Key × Dx} {w : Key × V} (h : KvX H k w) (e : SameF H H') : KvX H' k w := ⟨h.1, h.2.toF e⟩
theorem KvX.to {H H' : Hp} {k : Key × Dx} {w : Key × V} (h : KvX H k w) (e : Same H H') : KvX H' k w := ⟨h.1, h.2.to e⟩
theorem RowOk.mono {O O' : List Addr} {G G' H H' : Hp} {r : Rw} (h : RowOk O G H r) (e : SameF (hid O G) (hid O' G')) (ho : ∀ a ∈ ownA r, H' a = H a) : RowOk O' G' H' r := by
  match r, h, ho with
  | (.un, _), _, _ => trivial
  | (.pn w, v), h, _ => exact h
  | (.v (.tr d), v), ⟨x, h1, h2⟩, _ => exact ⟨x, h1, h2.toF e⟩
  | (.v (.ol l), v), ⟨a, vs, h1, h2, h3⟩, ho =>
    subst h1
    exact ⟨a, vs, rfl, by rw [ho a (List.mem_singleton.mpr rfl)]; exact h2, h3.imp fun _ _ z => z.toF e⟩
  | (.v (.od l), v), ⟨a, vs, h1, h2, h3⟩, ho =>
    subst h1
    exact ⟨a, vs, rfl, by rw [ho a (List.mem_singleton.mpr rfl)]; exact h2, h3.imp fun _ _ z => z.toF e⟩
  | (.bw l, v), ⟨a, vs, h1, h2, h3⟩, ho =>
    subst h1
    exact ⟨a, vs, rfl, by rw [ho a (List.mem_singleton.mpr rfl)]; exact h2, h3.imp fun _ _ z => z.toF e⟩
  | (.v (.ow o), v), ⟨x, h1, h2⟩, ho => exact ⟨x, h1, OwOk.mono e o x ho h2⟩
  | (.bo o, v), ⟨x, h1, h2⟩, ho => exact ⟨x, h1, OwOk.mono e o x ho h2⟩
structure Fm where
  H0 : Hp
  Hs : Hp
  B : List Addr
  sub : Same Hs H0
  nb : ∀ b ∈ B, Hs b = none
  ib : ∀ b ∈ B, ∃ o, H0 b = some o
abbrev Fm.vis (F : Fm) (H : Hp) : Hp := ext F.Hs F.H0 H
def FrOk (F : Fm) (r : Rw) (a : Addr) : Prop := match r.1 with
  | .bw _ => a ∈ F.B
  | .bo _ => a ∈ F.B ∨ F.H0 a = none
  | _ => F.H0 a = none
theorem FrOk.or {F : Fm} {r : Rw} {a : Addr} (h : FrOk F r a) : a ∈ F.B ∨ F.H0 a = none := by
  unfold FrOk at h
  split at h
  · exact .inl h
  · exact h
  · exact .inr h
structure Rep (F : Fm) (P : List Rw) (H : Hp) : Prop where
  nd : (owns P).Nodup
  ok : ∀ r ∈ P, RowOk (owns P) (F.vis H) H r
  fr : ∀ r ∈ P, ∀ a ∈ ownA r, FrOk F r a
  kp : ∀ b o, F.H0 b = some o → b ∉ F.B → H b = some o
  lv : ∀ b ∈ F.B, ∃ o, H b = some o
section
variable {F : Fm} {P P' : List Rw} {H H' : Hp} {r r' : Rw} {d : Dx} {v : V} {a p : Addr} {l l' : List Dx} {vs vs' : List V} {k k' : List (Key × Dx)} {ws ws' : List (Key × V)} {s : Sv} {x : Option V}
theorem owns_cons : owns (r :: P) = ownA r ++ owns P := by
  unfold owns
  rw [List.flatMap_cons]
theorem owns_app : owns (P ++ P') = owns P ++ owns P' := by
  unfold owns
  rw [List.flatMap_append]
theorem owns_some (h : ownA r = [a]) : owns (r :: P) = a :: owns P := by rw [owns_cons, h]; rfl
theorem owns_none (h : ownA r = []) : owns (r :: P) = owns P := by rw [owns_cons, h]; rfl
theorem owns_perm (h : P.Perm P') : (owns P).Perm (owns P') := h.flatMap_right _
theorem Rep.vis (R : Rep F P H) : Same (F.vis H) H := fun b o h => by
  cases q : F.H0 b with
  | none => exact nf_some ((ext_new q).symm.trans h)
  | some u =>
    have h := (ext_old q).symm.trans h
    have := F.sub _ _ h
    exact R.kp b o this fun z => by rw [F.nb b z] at h; cases h
theorem Rep.hv (R : Rep F P H) {O : List Addr} : Same (hid O (F.vis H)) H := fun b o h => R.vis b o (hid_some.mp h).2
theorem Rep.fresh (R : Rep F P H) (hp : H p = none) : F.H0 p = none := by
  cases q : F.H0 p with
  | none => rfl
  | some o =>
    by_cases hB : p ∈ F.B
    · obtain ⟨u, hu⟩ := R.lv p hB; rw [hp] at hu; cases hu
    · rw [R.kp p o q hB] at hp; cases hp
theorem Rep.perm (R : Rep F P H) (h : P.Perm P') : Rep F P' H := by
  have hp : (owns P).Perm (owns P') := owns_perm h
  exact ⟨hp.nodup_iff.mp R.nd, fun r hr => (R.ok r (h.mem_iff.mpr hr)).mono (.of (hid_less fun a ha => hp.mem_iff.mpr ha)) fun _ _ => rfl, fun r hr => R.fr r (h.mem_iff.mpr hr), R.kp, R.lv⟩
theorem Rep.tail (R : Rep F (r :: P) H) : Rep F P H := by
  have hs : ∀ a ∈ owns P, a ∈ owns (r :: P) := fun a ha => by rw [owns_cons]; exact List.mem_append_right _ ha
  refine ⟨?_, fun x hx => (R.ok x (List.mem_cons_of_mem _ hx)).mono (.of (hid_less hs)) fun _ _ => rfl, fun x hx => R.fr x (List.mem_cons_of_mem _ hx), R.kp, R.lv⟩
  have := R.nd
  rw [owns_cons] at this
  exact (List.nodup_append.mp this).2.1
theorem own_mem (h : r ∈ P) (e : a ∈ ownA r) : a ∈ owns P := List.mem_flatMap.mpr ⟨r, h, e⟩
theorem mem1 {α : Type} {x : α} {l : List α} (h : l = [x]) : x ∈ l := by rw [h]; exact List.mem_singleton.mpr rfl
theorem eq1 {α : Type} {x y : α} {l : List α} (h : l = [x]) (hy : y ∈ l) : y = x := by rw [h] at hy; exact List.mem_singleton.mp hy
theorem Rep.own_in (R : Rep F P H) (h : a ∈ owns P) : ∃ o, H a = some o := by
  obtain ⟨⟨sl, v⟩, hr, e⟩ := List.mem_flatMap.mp h
  have t := R.ok (sl, v) hr
  cases sl with
  | v s =>
    cases s with
    | tr d => exact absurd (show a ∈ ([] : List Addr) from e) List.not_mem_nil
    | ol l =>
      obtain ⟨c, vs, h1, h2, _⟩ := t
      cases h1
      rw [List.mem_singleton.mp (show a ∈ [c] from e)]
      exact ⟨_, h2⟩
    | od l =>
      obtain ⟨c, vs, h1, h2, _⟩ := t
      cases h1
      rw [List.mem_singleton.mp (show a ∈ [c] from e)]
      exact ⟨_, h2⟩
    | ow o =>
      obtain ⟨x, h1, h2⟩ := t
      obtain ⟨u, hu, _⟩ := OwOk.there o x h2 a e
      exact ⟨u, hu⟩
  | bw l =>
    obtain ⟨c, vs, h1, h2, _⟩ := t
    cases h1
    rw [List.mem_singleton.mp (show a ∈ [c] from e)]
    exact ⟨_, h2⟩
  | bo o =>
    obtain ⟨x, h1, h2⟩ := t
    obtain ⟨u, hu, _⟩ := OwOk.there o x h2 a e
    exact ⟨u, hu⟩
  | un => exact absurd (show a ∈ ([] : List Addr) from e) List.not_mem_nil
  | pn _ => exact absurd (show a ∈ ([] : List Addr) from e) List.not_mem_nil
theorem Rep.not_own (R : Rep F P H) (hp : H p = none) : p ∉ owns P := fun z => by
  obtain ⟨o, ho⟩ := R.own_in z
  rw [hp] at ho
  cases ho
theorem Rep.grow (R : Rep F P H) (e : Same H H') : Rep F P H' := by
  refine ⟨R.nd, fun r hr => (R.ok r hr).mono (.of (hid_same (ext_same e))) fun a ha => ?_, R.fr, fun b o h1 h2 => e _ _ (R.kp b o h1 h2), fun b hb => ?_⟩
  · obtain ⟨o, ho⟩ := R.own_in (own_mem hr ha)
    rw [ho, e _ _ ho]
  · obtain ⟨o, ho⟩ := R.lv b hb
    exact ⟨o, e _ _ ho⟩
theorem Rep.cons0 (R : Rep F P H) (ho : ownA r = []) (h : RowOk (owns P) (F.vis H) H r) : Rep F (r :: P) H := by
  refine ⟨by rw [owns_none ho]; exact R.nd, fun x hx => ?_, fun x hx a ha => ?_, R.kp, R.lv⟩
  · rw [owns_none ho]
    rcases List.mem_cons.mp hx with rfl | hx
    · exact h
    · exact R.ok x hx
  · rcases List.mem_cons.mp hx with rfl | hx
    · rw [ho] at ha; cases ha
    · exact R.fr x hx a ha
theorem Rep.add (R : Rep F P H) (h : IsX (hid (owns P) (F.vis H)) d v) : Rep F ((.v (.tr d), some v) :: P) H := R.cons0 rfl ⟨v, rfl, h⟩
theorem Rep.addU (R : Rep F P H) : Rep F ((.un, x) :: P) H := R.cons0 rfl trivial
theorem Rep.head (R : Rep F ((.v s, x) :: P) H) : ∃ v, x = some v ∧ IsX (hid (owns P) (F.vis H)) s.d v := by
  have h := R.ok _ List.mem_cons_self
  have hs : ∀ a ∈ owns P, a ∈ owns ((.v s, x) :: P) := fun a ha => by rw [owns_cons]; exact List.mem_append_right _ ha
  have hn := R.nd
  have hf := R.fr _ List.mem_cons_self
  match s, h with
  | .tr d, ⟨v, h1, h2⟩ => exact ⟨v, h1, h2.to (hid_less hs)⟩
  | .ol l, ⟨a, vs, h1, h2, h3⟩ =>
    subst h1
    have q : F.H0 a = none := hf a (List.mem_singleton.mpr rfl)
    rw [owns_some (a := a) rfl] at hn
    exact ⟨.ref a, rfl, IsX.of_lst (vs := vs) (hid_some.mpr ⟨(List.nodup_cons.mp hn).1, (ext_new q).trans (by rw [h2]; rfl)⟩) (h3.imp fun _ _ z => z.to (hid_less hs))⟩
  | .od l, ⟨a, vs, h1, h2, h3⟩ =>
    subst h1
    have q : F.H0 a = none := hf a (List.mem_singleton.mpr rfl)
    rw [owns_some (a := a) rfl] at hn
    exact ⟨.ref a, rfl, IsX.of_dic (vs := vs) (.inl (hid_some.mpr ⟨(List.nodup_cons.mp hn).1, (ext_new q).trans (by rw [h2]; rfl)⟩)) (h3.imp fun _ _ z => z.to (hid_less hs))⟩
  | .ow o, ⟨v, h1, h2⟩ =>
    refine ⟨v, h1, OwOk.tree (.of (hid_less hs)) o v (fun b hb => ?_) h2⟩
    have q : F.H0 b = none := hf b hb
    obtain ⟨u, hu, hn'⟩ := OwOk.there o v h2 b hb
    rw [owns_cons] at hn
    have hb2 : b ∉ owns P := fun z => (List.nodup_append.mp hn).2.2 b hb b z rfl
    rw [hu]
    refine hid_some.mpr ⟨hb2, (ext_new q).trans ?_⟩
    rw [hu]
    unfold nf
    split
    · rename_i e; cases e; exact absurd rfl (hn' _ _)
    · rfl
theorem Rep.frz (R : Rep F ((.v s, x) :: P) H) : Rep F ((.v (.tr s.d), x) :: P) H := by
  obtain ⟨v, rfl, h⟩ := R.head
  exact R.tail.add h
theorem hid_new {O : List Addr} {Hs H0 : Hp} (hp : H p = none) {o : HO} (hq : H0 p = none) : Same (hid O (ext Hs H0 H)) (hid (p :: O) (ext Hs H0 (upd H p o))) := fun b u hb => by
  have hb' := hid_some.mp hb
  have hbp : b ≠ p := fun z => by have := nf_some ((ext_new hq).symm.trans (z ▸ hb'.2)); rw [hp] at this; cases this
  refine hid_some.mpr ⟨fun z => (List.mem_cons.mp z).elim hbp hb'.1, ?_⟩
  cases q : H0 b with
  | none => exact (ext_new q).trans ((congrArg nf (upd_ne hbp)).trans ((ext_new q).symm.trans hb'.2))
  | some w => exact (ext_old q).trans ((ext_old q).symm.trans hb'.2)
theorem Rep.new_own (R : Rep F P H) (hp : H p = none) {o : HO} (hA : ownA (.v s, some (.ref p)) = [p]) (h : RowOk (p :: owns P) (F.vis (upd H p o)) (upd H p o) (.v s, some (.ref p))) : Rep F ((.v s, some (.ref p)) :: P) (upd H p o) := by
  have hno := R.not_own hp
  have hq := R.fresh hp
  refine ⟨by rw [owns_some hA]; exact List.nodup_cons.mpr ⟨hno, R.nd⟩, fun r hr => ?_, fun r hr a ha => ?_, fun b o h1 h2 => ?_, fun b hb => ?_⟩
  · rw [owns_some hA]
    rcases List.mem_cons.mp hr with rfl | hr
    · exact h
    · exact (R.ok r hr).mono (.of (hid_new hp hq)) fun a ha => upd_ne fun z => hno (z ▸ own_mem hr ha)
  · rcases List.mem_cons.mp hr with rfl | hr
    · cases eq1 hA ha; exact hq
    · exact R.fr r hr a ha
  · have := R.kp b o h1 h2
    rw [upd_ne fun z => by rw [z, hp] at this; cases this]
    exact this
  · obtain ⟨u, hu⟩ := R.lv b hb
    exact ⟨u, by rw [upd_ne fun z => by rw [z, hp] at hu; cases hu]; exact hu⟩
theorem Rep.newL (R : Rep F P H) (hp : H p = none) (h : All2 (IsX (hid (owns P) (F.vis H))) l vs) : Rep F ((.v (.ol l), some (.ref p)) :: P) (upd H p (.lst vs)) :=
  R.new_own hp rfl ⟨p, vs, rfl, upd_same, h.imp fun _ _ z => z.to (hid_new hp (R.fresh hp))⟩
theorem Rep.newD (R : Rep F P H) (hp : H p = none) (h : All2 (KvX (hid (owns P) (F.vis H))) k ws) : Rep F ((.v (.od k), some (.ref p)) :: P) (upd H p (.dK ws)) :=
  R.new_own hp rfl ⟨p, ws, rfl, upd_same, h.imp fun _ _ z => z.to (hid_new hp (R.fresh hp))⟩
theorem Rep.newT (R : Rep F P H) (hp : H p = none) (h : All2 (IsX (hid (owns P) (F.vis H))) l vs) : Rep F ((.v (.tr (.tup l)), some (.ref p)) :: P) (upd H p (.tup vs)) := by
  have e : Same H (upd H p (.tup vs)) := same_new hp _
  exact (R.grow e).add (IsX.of_tup (vs := vs) (hid_some.mpr ⟨R.not_own hp, (ext_new (R.fresh hp)).trans (by rw [upd_same]; rfl)⟩) (h.imp fun _ _ z => z.to (hid_same (ext_same e))))
theorem hid_put {O : List Addr} {o : HO} {Hs H0 : Hp} : Same (hid (a :: O) (ext Hs H0 H)) (hid (a :: O) (ext Hs H0 (upd H a o))) := fun b u hb => by
  have hb' := hid_some.mp hb
  have hba : b ≠ a := fun z => hb'.1 (by rw [z]; exact List.mem_cons_self)
  refine hid_some.mpr ⟨hb'.1, ?_⟩
  cases q : H0 b with
  | none => exact (ext_new q).trans ((congrArg nf (upd_ne hba)).trans ((ext_new q).symm.trans hb'.2))
  | some w => exact (ext_old q).trans ((ext_old q).symm.trans hb'.2)
theorem Rep.put {o : HO} (R : Rep F (r :: P) H) (hA : ownA r = [a]) (hA' : ownA r' = [a]) (hF : FrOk F r a → FrOk F r' a) (h : RowOk (a :: owns P) (F.vis (upd H a o)) (upd H a o) r') : Rep F (r' :: P) (upd H a o) := by
  have hn := R.nd
  rw [owns_some hA] at hn
  have hna := (List.nodup_cons.mp hn).1
  have R1 := R.ok
  rw [owns_some hA] at R1
  have hfr := R.fr r List.mem_cons_self a (mem1 hA)
  refine ⟨by rw [owns_some hA']; exact hn, fun x hx => ?_, fun x hx b hb => ?_, fun b u h1 h2 => ?_, fun b hb => ?_⟩
  · rw [owns_some hA']
    rcases List.mem_cons.mp hx with rfl | hx
    · exact h
    · exact (R1 x (List.mem_cons_of_mem _ hx)).mono (.of hid_put) fun b hb => upd_ne fun z => hna (z ▸ own_mem hx hb)
  · rcases List.mem_cons.mp hx with rfl | hx
    · cases eq1 hA' hb; exact hF hfr
    · exact R.fr x (List.mem_cons_of_mem _ hx) b hb
  · have hb := R.kp b u h1 h2
    by_cases z : b = a
    · subst z
      rcases hfr.or with hfr | hfr
      · exact absurd hfr h2
      · rw [hfr] at h1; cases h1
    · rw [upd_ne z]; exact hb
  · by_cases z : b = a
    · subst z; exact ⟨o, upd_same⟩
    · rw [upd_ne z]; exact R.lv b hb
theorem Rep.putD (R : Rep F ((.v (.od k), some (.ref a)) :: P) H) (h : All2 (KvX (hid (a :: owns P) (F.vis H))) k' ws') : Rep F ((.v (.od k'), some (.ref a)) :: P) (upd H a (.dK ws')) :=
  R.put (a := a) rfl rfl id ⟨a, ws', rfl, upd_same, h.imp fun _ _ z => z.to hid_put⟩
theorem Rep.atL (R : Rep F ((.v (.ol l), x) :: P) H) : ∃ a vs, x = some (.ref a) ∧ H a = some (.lst vs) ∧ All2 (IsX (hid (a :: owns P) (F.vis H))) l vs := by
  obtain ⟨a, vs, h1, h2, h3⟩ := R.ok _ List.mem_cons_self
  subst h1
  exact ⟨a, vs, rfl, h2, by rw [← owns_some (a := a) (r := (.v (.ol l), some (.ref a))) rfl]; exact h3⟩
theorem Rep.atB (R : Rep F ((.bw l, x) :: P) H) : ∃ a vs, x = some (.ref a) ∧ H a = some (.lst vs) ∧ All2 (IsX (hid (a :: owns P) (F.vis H))) l vs := by
  obtain ⟨a, vs, h1, h2, h3⟩ := R.ok _ List.mem_cons_self
  subst h1
  exact ⟨a, vs, rfl, h2, by rw [← owns_some (a := a) (r := (.bw l, some (.ref a))) rfl]; exact h3⟩
theorem Rep.atD (R : Rep F ((.v (.od k), x) :: P) H) : ∃ a ws, x = some (.ref a) ∧ H a = some (.dK ws) ∧ All2 (KvX (hid (a :: owns P) (F.vis H))) k ws := by
  obtain ⟨a, vs, h1, h2, h3⟩ := R.ok _ List.mem_cons_self
  subst h1
  exact ⟨a, vs, rfl, h2, by rw [← owns_some (a := a) (r := (.v (.od k), some (.ref a))) rfl]; exact h3⟩
theorem Rep.atT (R : Rep F ((.v (.tr d), x) :: P) H) : ∃ v, x = some v ∧ IsX (hid (owns P) (F.vis H)) d v := R.head
end
section
variable {ρ : List Sl} {σ : St} {i : Nat} {s s' : Sl} {v v' : Option V}
theorem zip_at (h1 : ρ[i]? = some s) (h2 : σ[i]? = some v) : (ρ.zip σ)[i]? = some (s, v) := (List.getElem?_zip_eq_some (z := (s, v))).mpr ⟨h1, h2⟩
theorem pullN {α : Type} : ∀ (l : List α) (i : Nat) (h : i < l.length), l.Perm (l[i] :: l.eraseIdx i)
  | x :: l, 0, _ => .refl _
  | x :: l, i + 1, h => ((pullN l i (by simpa using h)).cons x).trans (.swap _ _ _)
theorem pull {α : Type} {l : List α} {x : α} {i : Nat} (h : l[i]? = some x) : l.Perm (x :: l.eraseIdx i) := by
  obtain ⟨hi, e⟩ := List.getElem?_eq_some_iff.mp h
  subst e
  exact pullN l i hi
theorem zip_pull (h1 : ρ[i]? = some s) (h2 : σ[i]? = some v) : (ρ.zip σ).Perm ((s, v) :: (ρ.zip σ).eraseIdx i) := pull (zip_at h1 h2)
theorem zip_set : ∀ {ρ : List Sl} {σ : St} (i : Nat), (ρ.set i s).zip (σ.set i v) = (ρ.zip σ).set i (s, v)
  | [], _, _ => by simp
  | _ :: _, [], _ => by simp
  | a :: ρ, b :: σ, 0 => rfl
  | a :: ρ, b :: σ, i + 1 => by simp only [List.set_cons_succ, List.zip_cons_cons]; rw [zip_set i]
theorem zip_put (hl : ρ.length = σ.length) (h : i < ρ.length) : ((ρ.set i s).zip (σ.set i v)).Perm ((s, v) :: (ρ.zip σ).eraseIdx i) := by
  rw [zip_set]
  have hi : i < (ρ.zip σ).length := by rw [List.length_zip]; omega
  have := pull (l := (ρ.zip σ).set i (s, v)) (x := (s, v)) (i := i) (by rw [List.getElem?_set_self hi])
  rwa [List.eraseIdx_set_eq] at this
theorem set_same (h : σ[i]? = some v) : σ.set i v = σ := by
  obtain ⟨hi, e⟩ := List.getElem?_eq_some_iff.mp h
  subst e
  exact List.set_getElem_self hi
theorem zip_put' (hl : ρ.length = σ.length) (h : i < ρ.length) (h2 : σ[i]? = some v) : ((ρ.set i s).zip σ).Perm ((s, v) :: (ρ.zip σ).eraseIdx i) := by
  have := zip_put (s := s) (v := v) hl h
  rwa [set_same h2] at this
end
end Lf

set_option Elab.async false
set_option linter.all false
set_option maxRecDepth 100000
namespace L2
open PySem
theorem PE.weak {X : Cx} {e : Expr} {t u : TE} (h : PE X e t) (w : ∀ σ H Q, u σ H Q → t σ H Q) : PE X e u := fun pins s σ H Q I q => h pins s σ H Q I (w σ H Q q)
theorem PT.weak {X : Cx} {e : Expr} {t u : TT} (h : PT X e t) (w : ∀ σ H Q, u σ H Q → t σ H Q) : PT X e u := fun pins s σ H Q I q => h pins s σ H Q I (w σ H Q q)
theorem PW.weak {X : Cx} {e : Expr} {t u : TT} (h : PW X e t) (w : ∀ σ H Q, u σ H Q → t σ H Q) : PW X e u := fun wh pins s σ H Q I q => h wh pins s σ H Q I (w σ H Q q)
theorem PA.weak {X : Cx} {e : List Expr} {t u : TA} (h : PA X e t) (w : ∀ σ H Q, u σ H Q → t σ H Q) : PA X e u := fun pos pins s σ H Q I q => h pos pins s σ H Q I (w σ H Q q)
end L2
namespace Lf
open PySem L2
abbrev En := List Sl
abbrev XT := En → (Sv → En → Prop) → Prop
abbrev XC := En → (Bool → En → Prop) → Prop
abbrev XA := En → (List Sv → En → Prop) → Prop
structure EOk (F : Fm) (ρ : En) (σ : St) (fr : List Rw) (H : Hp) : Prop where
  len : ρ.length = σ.length
  rep : Rep F (ρ.zip σ ++ fr) H
def tX (F : Fm) (t : XT) : TE := fun σ H Q => ∃ ρ fr Qx, EOk F ρ σ fr H ∧ t ρ Qx ∧ ∀ v s H' ρ', EOk F ρ' σ ((.v s, some v) :: fr) H' → Qx s ρ' → Q v H'
def tXc (F : Fm) (t : XC) : TT := fun σ H Q => ∃ ρ fr Qx, EOk F ρ σ fr H ∧ t ρ Qx ∧ ∀ b H' ρ', EOk F ρ' σ fr H' → Qx b ρ' → Q b H'
def tmps (ss : List Sv) (vs : List V) : List Rw := (ss.zip vs).map fun p => (.v p.1, some p.2)
def tXa (F : Fm) (t : XA) : TA := fun σ H Q => ∃ ρ fr Qx, EOk F ρ σ fr H ∧ t ρ Qx ∧ ∀ vs ss H' ρ', ss.length = vs.length → EOk F ρ' σ (tmps ss vs ++ fr) H' → Qx ss ρ' → Q vs H'
abbrev ExT := Value → Prop
abbrev noEx : ExT := fun _ => False
def Kept (F : Fm) (H : Hp) : Prop := ∀ b o, F.H0 b = some o → b ∉ F.B → H b = some o
def Air (nw : Addr → Prop) (h' : Heap) (H : Hp) (ea : Addr) (cls : Value) : Prop := nw ea ∧ H ea = none ∧ ∃ oe vs, h'.get? ea = some oe ∧ oe.cls = cls ∧ oe.data = .fields vs ∧ oe.dict = none ∧ 1 < vs.size ∧
  (vs[1]? = some .none ∨ ∃ T oT ts, vs[1]? = some (.ref T) ∧ T ≠ ea ∧ nw T ∧ H T = none ∧ h'.get? T = some oT ∧ oT.data = .fields ts ∧ 3 < ts.size)
abbrev NwX (X : Cx) (pins : List (Addr × Obj)) : Addr → Prop := fun b => (X.s₀.heap.get? b = none ∨ b ∈ X.ex) ∧ ∀ p ∈ X.pn ++ pins, p.1 ≠ b
class OkF (X : Cx) (Ex : ExT) (F : Fm) : Prop where
  pass1 : ∀ (pins : List (Addr × Obj)) (σ : St) (H : Hp) (s' : Shared) (ea : Addr) (cls : Value), Inv X pins σ H s' → Air (NwX X pins) s'.heap H ea cls → Ex cls → Kept F H → X.xe (.ref ea) s'
instance {X : Cx} {F : Fm} : OkF X noEx F := ⟨fun _ _ _ _ _ _ _ _ h _ => h.elim⟩
def XE (X : Cx) (Ex : ExT) (e : Expr) (t : XT) : Prop := ∀ F, [OkF X Ex F] → PE X e (tX F t)
def XTe (X : Cx) (Ex : ExT) (e : Expr) (t : XC) : Prop := ∀ F, [OkF X Ex F] → PT X e (tXc F t)
def XW (X : Cx) (Ex : ExT) (e : Expr) (t : XC) : Prop := ∀ F, [OkF X Ex F] → PW X e (tXc F t)
def XAs (X : Cx) (Ex : ExT) (es : List Expr) (t : XA) : Prop := ∀ F, [OkF X Ex F] → PA X es (tXa F t)
section
variable {F : Fm} {ρ ρ' : En} {σ : St} {fr P : List Rw} {H H' : Hp} {s : Sv} {v x y : V} {a b : Dx}
theorem mid {α : Type} {x : α} {A B : List α} : (A ++ x :: B).Perm (x :: (A ++ B)) := List.perm_middle
theorem EOk.front {r : Rw} (E : EOk F ρ σ (r :: fr) H) : Rep F (r :: (ρ.zip σ ++ fr)) H := E.rep.perm mid
theorem EOk.back {r : Rw} (hl : ρ.length = σ.length) (R : Rep F (r :: (ρ.zip σ ++ fr)) H) : EOk F ρ σ (r :: fr) H := ⟨hl, R.perm mid.symm⟩
theorem EOk.drop {r : Rw} (E : EOk F ρ σ (r :: fr) H) : EOk F ρ σ fr H := ⟨E.len, E.front.tail⟩
theorem EOk.one (E : EOk F ρ σ ((.v s, some v) :: fr) H) : Rep F (ρ.zip σ ++ fr) H ∧ IsX (hid (owns (ρ.zip σ ++ fr)) (F.vis H)) s.d v := by
  obtain ⟨v', e, h⟩ := E.front.head
  cases e
  exact ⟨E.front.tail, h⟩
theorem EOk.two {s1 s2 : Sv} {v1 v2 : V} (E : EOk F ρ σ ((.v s2, some v2) :: (.v s1, some v1) :: fr) H) :
    Rep F (ρ.zip σ ++ fr) H ∧ IsX (hid (owns (ρ.zip σ ++ fr)) (F.vis H)) s1.d v1 ∧ IsX (hid (owns (ρ.zip σ ++ fr)) (F.vis H)) s2.d v2 := by
  obtain ⟨R1, h1⟩ := E.drop.one
  obtain ⟨R2, h2⟩ := E.one
  refine ⟨R1, h1, h2.to (hid_less fun c hc => ?_)⟩
  have : (owns ((.v s1, some v1) :: (ρ.zip σ ++ fr))).Perm (owns (ρ.zip σ ++ (.v s1, some v1) :: fr)) := mid.symm.flatMap_right _
  refine this.mem_iff.mp ?_
  rw [owns_cons]
  exact List.mem_append_right _ hc
end
def xVar (i : Nat) : XT := fun ρ Q => match ρ[i]? with
  | some (.v s) => Q (.tr s.d) (ρ.set i (.v (.tr s.d)))
  | _ => False
def xMove (i : Nat) : XT := fun ρ Q => match ρ[i]? with
  | some (.v s) => Q s (ρ.set i .un)
  | _ => False
theorem get_zip {ρ : En} {σ : St} {i : Nat} {s : Sl} (hl : ρ.length = σ.length) (h : ρ[i]? = some s) : ∃ v, σ[i]? = some v := by
  have := (List.getElem?_eq_some_iff.mp h).1
  exact ⟨_, List.getElem?_eq_getElem (by omega)⟩
section
variable {X : Cx} {Ex : ExT} {i : Nat} {x : Str} {pos : Pos}
theorem eok_slot {F : Fm} {ρ : En} {σ : St} {fr : List Rw} {H : Hp} {s : Sl} (E : EOk F ρ σ fr H) (h : ρ[i]? = some s) : ∃ v, σ[i]? = some v ∧ i < ρ.length ∧ Rep F ((s, v) :: ((ρ.zip σ).eraseIdx i ++ fr)) H := by
  obtain ⟨v, hv⟩ := get_zip E.len h
  exact ⟨v, hv, (List.getElem?_eq_some_iff.mp h).1, E.rep.perm ((zip_pull h hv).append_right fr)⟩
theorem eok_put {F : Fm} {ρ : En} {σ : St} {fr : List Rw} {H : Hp} {s : Sl} {v : Option V} (hl : ρ.length = σ.length) (hi : i < ρ.length) (hv : σ[i]? = some v) (R : Rep F ((s, v) :: ((ρ.zip σ).eraseIdx i ++ fr)) H) : EOk F (ρ.set i s) σ fr H :=
  ⟨by rw [List.length_set]; exact hl, R.perm ((zip_put' hl hi hv).append_right fr).symm⟩
theorem xe_var (h : PE X (.Name x pos) (tVar i)) : XE X Ex (.Name x pos) (xVar i) := fun F => h.weak fun σ H Q => by
  rintro ⟨ρ, fr, Qx, E, t, k⟩
  unfold xVar at t
  split at t
  · rename_i s hs
    obtain ⟨v, hv, hi, R⟩ := eok_slot E hs
    obtain ⟨w, rfl, hx⟩ := R.head
    refine ⟨w, hv, k w _ H _ ?_ t⟩
    have R2 := R.frz
    have R3 : Rep F ((.v (.tr s.d), some w) :: (.v (.tr s.d), some w) :: ((ρ.zip σ).eraseIdx i ++ fr)) H := R2.add hx
    exact EOk.back (by rw [List.length_set]; exact E.len) (R3.perm (((zip_put' E.len hi hv).append_right fr).symm.cons _))
  · exact t.elim
theorem xe_move (h : PE X (.Name x pos) (tVar i)) : XE X Ex (.Name x pos) (xMove i) := fun F => h.weak fun σ H Q => by
  rintro ⟨ρ, fr, Qx, E, t, k⟩
  unfold xMove at t
  split at t
  · rename_i s hs
    obtain ⟨v, hv, hi, R⟩ := eok_slot E hs
    obtain ⟨w, rfl, hx⟩ := R.head
    refine ⟨w, hv, k w _ H _ ?_ t⟩
    have R3 : Rep F ((.v s, some w) :: (.un, some w) :: ((ρ.zip σ).eraseIdx i ++ fr)) H := (R.addU (x := some w)).perm (.swap _ _ _)
    exact EOk.back (by rw [List.length_set]; exact E.len) (R3.perm (((zip_put' E.len hi hv).append_right fr).symm.cons _))
  · exact t.elim
end

def xC (d : Dx) : XT := fun ρ Q => Q (.tr d) ρ
theorem xe_c {X : Cx} {Ex : ExT} {e : Expr} {v : V} (h : PE X e (tC v)) (d : Dx) (hd : ∀ H, IsX H d v) : XE X Ex e (xC d) := fun F => h.weak fun σ H Q => by
  rintro ⟨ρ, fr, Qx, E, t, k⟩
  exact k v _ H ρ (EOk.back E.len (E.rep.add (hd _))) t
section
variable {X : Cx} {Ex : ExT}
theorem xe_int {i j pos} : XE X Ex (.Constant (.int i) j pos) (xC (.int i)) := xe_c pe_int _ fun _ => IsX.of_int _
theorem xe_bl {b j pos} : XE X Ex (.Constant (.bool b) j pos) (xC (.bl b)) := xe_c pe_bl _ fun _ => IsX.of_bl _
theorem xe_str {x j pos} : XE X Ex (.Constant (.str x) j pos) (xC (.str x)) := xe_c pe_str _ fun _ => IsX.of_str _
end
abbrev G2 := Dx → Dx → (Sv → Prop) → Prop
def OpX (r : R2) (g : G2) : Prop := ∀ (F : Fm) (P : List Rw) (H : Hp) (a b : Dx) (x y : V) (Q : VK) (Qx : Sv → Prop), Rep F P H → IsX (hid (owns P) (F.vis H)) a x → IsX (hid (owns P) (F.vis H)) b y → g a b Qx →
  (∀ v s H', Rep F ((.v s, some v) :: P) H' → Qx s → Q v H') → r x y H Q
def xOp (g : G2) (ta tb : XT) : XT := fun ρ Q => ta ρ fun a ρ1 => tb ρ1 fun b ρ2 => g a.d b.d fun s => Q s ρ2
theorem tOp_x {F : Fm} {r : R2} {g : G2} {ta tb : XT} (hx : OpX r g) : ∀ σ H Q, tX F (xOp g ta tb) σ H Q → tOp r (tX F ta) (tX F tb) σ H Q := by
  rintro σ H Q ⟨ρ, fr, Qx, E, t, k⟩
  refine ⟨ρ, fr, _, E, t, fun v s H' ρ' E' t' => ?_⟩
  refine ⟨ρ', _, _, E', t', fun w s2 H2 ρ2 E2 t2 => ?_⟩
  obtain ⟨R, h1, h2⟩ := E2.two
  exact hx F _ H2 s.d s2.d v w Q (fun z => Qx z ρ2) R h1 h2 t2 fun v' s' H' R' q => k v' s' H' ρ2 (EOk.back E2.len R') q
def xB (t : XT) : XC := fun ρ Q => t ρ fun s ρ' => match s with
  | .tr (.bl b) => Q b ρ'
  | _ => False
theorem tTest_x {F : Fm} {t : TE} {u : XT} (h : ∀ σ H Q, tX F u σ H Q → t σ H Q) : ∀ σ H Q, tXc F (xB u) σ H Q → tTest t σ H Q := by
  rintro σ H Q ⟨ρ, fr, Qx, E, t, k⟩
  refine h _ _ _ ⟨ρ, fr, _, E, t, fun v s H' ρ' E' q => ?_⟩
  split at q
  · rename_i b
    obtain ⟨_, hx⟩ := E'.one
    cases hx.bl_eq
    exact ⟨b, rfl, k b H' ρ' E'.drop q⟩
  · exact q.elim
section
variable {X : Cx} {Ex : ExT} {a b c e : Expr} {pos : Pos} {r r' : R2} {g g' : G2} {ta tb tc : XT}
theorem xe_op {op : Operator} (ho : OpR X (binaryOp op) r) (hx : OpX r g) (ha : XE X Ex a ta) (hb : XE X Ex b tb) : XE X Ex (.BinOp a op b pos) (xOp g ta tb) := fun F => (pe_op ho (ha F) (hb F)).weak (tOp_x hx)
theorem xe_cmp {op : CmpOp} (ho : OpR X (compareOp op) r) (hx : OpX r g) (ha : XE X Ex a ta) (hb : XE X Ex b tb) (hm : behindInMarks op b = false) : XE X Ex (.Compare a [op] [b] pos) (xOp g ta tb) := fun F => (pe_cmpR ho (ha F) (hb F) hm).weak (tOp_x hx)
theorem xt_cmp {op : CmpOp} (ho : OpR X (compareOp op) r) (hx : OpX r g) (ha : XE X Ex a ta) (hb : XE X Ex b tb) (hm : behindInMarks op b = false) : XTe X Ex (.Compare a [op] [b] pos) (xB (xOp g ta tb)) := fun F => (pt_cmpR ho (ha F) (hb F) hm).weak (tTest_x (tOp_x hx))
theorem xt_val {t : XT} (h : XE X Ex e t) (he : ∀ whole, isTrue e X.env whole = (do let v ← whole; standAt e.pos; holding [v] (truthy v)) := by intro _; rfl) : XTe X Ex e (xB t) := fun F => (pt_val (h F) he).weak (tTest_x fun _ _ _ z => z)
def xAnd (t u : XC) : XC := fun ρ Q => t ρ fun c ρ1 => if c = true then u ρ1 Q else Q false ρ1
def xOr (t u : XC) : XC := fun ρ Q => t ρ fun c ρ1 => if c = true then Q true ρ1 else u ρ1 Q
def xNot (t : XC) : XC := fun ρ Q => t ρ fun c ρ1 => Q (!c) ρ1
theorem xw_and1 {t : XC} (h : XTe X Ex a t) : XW X Ex (.BoolOp .And [a] pos) t := fun F => pw_and1 (h F)
theorem xw_or1 {t : XC} (h : XTe X Ex a t) : XW X Ex (.BoolOp .Or [a] pos) t := fun F => pw_or1 (h F)
theorem xw_and {t u : XC} {rest : List Expr} (h : XTe X Ex a t) (h' : XW X Ex (.BoolOp .And (b :: rest) pos) u) : XW X Ex (.BoolOp .And (a :: b :: rest) pos) (xAnd t u) := fun F => (pw_and (h F) (h' F)).weak fun σ H Q => by
  rintro ⟨ρ, fr, Qx, E, t, k⟩
  refine ⟨ρ, fr, _, E, t, fun c H' ρ' E' q => ?_⟩
  cases c with
  | true => exact ⟨ρ', fr, Qx, E', q, k⟩
  | false => exact k false H' ρ' E' q
theorem xw_or {t u : XC} {rest : List Expr} (h : XTe X Ex a t) (h' : XW X Ex (.BoolOp .Or (b :: rest) pos) u) : XW X Ex (.BoolOp .Or (a :: b :: rest) pos) (xOr t u) := fun F => (pw_or (h F) (h' F)).weak fun σ H Q => by
  rintro ⟨ρ, fr, Qx, E, t, k⟩
  refine ⟨ρ, fr, _, E, t, fun c H' ρ' E' q => ?_⟩
  cases c with
  | true => exact k true H' ρ' E' q
  | false => exact ⟨ρ', fr, Qx, E', q, k⟩
theorem xt_not {t : XC} (h : XTe X Ex a t) : XTe X Ex (.UnaryOp .Not a pos) (xNot t) := fun F => (pt_not (h F)).weak fun σ H Q => by
  rintro ⟨ρ, fr, Qx, E, t, k⟩
  exact ⟨ρ, fr, _, E, t, fun c H' ρ' E' q => k (!c) H' ρ' E' q⟩
theorem XW.pt {t : XC} (h : XW X Ex e t) : XTe X Ex e t := fun F => (h F).pt
def xAndV (t u : XT) : XT := fun ρ Q => xB t ρ fun c ρ1 => if c = true then u ρ1 Q else Q (.tr (.bl false)) ρ1
def xOrV (t u : XT) : XT := fun ρ Q => xB t ρ fun c ρ1 => if c = true then Q (.tr (.bl true)) ρ1 else u ρ1 Q
def xNotV (t : XT) : XT := fun ρ Q => xB t ρ fun c ρ1 => Q (.tr (.bl (!c))) ρ1
theorem xe_one {op} {t : XT} (h : XE X Ex a t) : XE X Ex (.BoolOp op [a] pos) t := fun F => pe_one (h F)
theorem xe_and {t u : XT} {rest : List Expr} (h : XE X Ex a t) (h' : XE X Ex (.BoolOp .And (b :: rest) pos) u) : XE X Ex (.BoolOp .And (a :: b :: rest) pos) (xAndV t u) := fun F => (pe_and (h F) (h' F)).weak fun σ H Q => by
  rintro ⟨ρ, fr, Qx, E, t, k⟩
  refine ⟨ρ, fr, _, E, t, fun v s H' ρ' E' q => ?_⟩
  split at q
  · rename_i c
    obtain ⟨_, hx⟩ := E'.one
    cases hx.bl_eq
    refine ⟨c, rfl, ?_⟩
    cases c with
    | true => exact ⟨ρ', fr, Qx, E'.drop, q, k⟩
    | false => exact k _ _ H' ρ' (EOk.back E'.len (E'.drop.rep.add (IsX.of_bl _))) q
  · exact q.elim
theorem xe_or {t u : XT} {rest : List Expr} (h : XE X Ex a t) (h' : XE X Ex (.BoolOp .Or (b :: rest) pos) u) : XE X Ex (.BoolOp .Or (a :: b :: rest) pos) (xOrV t u) := fun F => (pe_or (h F) (h' F)).weak fun σ H Q => by
  rintro ⟨ρ, fr, Qx, E, t, k⟩
  refine ⟨ρ, fr, _, E, t, fun v s H' ρ' E' q => ?_⟩
  split at q
  · rename_i c
    obtain ⟨_, hx⟩ := E'.one
    cases hx.bl_eq
    refine ⟨c, rfl, ?_⟩
    cases c with
    | false => exact ⟨ρ', fr, Qx, E'.drop, q, k⟩
    | true => exact k _ _ H' ρ' (EOk.back E'.len (E'.drop.rep.add (IsX.of_bl _))) q
  · exact q.elim
theorem xe_not {t : XT} (h : XE X Ex a t) : XE X Ex (.UnaryOp .Not a pos) (xNotV t) := fun F => (pe_not (h F)).weak fun σ H Q => by
  rintro ⟨ρ, fr, Qx, E, t, k⟩
  refine ⟨ρ, fr, _, E, t, fun v s H' ρ' E' q => ?_⟩
  split at q
  · rename_i c
    obtain ⟨_, hx⟩ := E'.one
    cases hx.bl_eq
    exact ⟨c, rfl, k _ _ H' ρ' (EOk.back E'.len (E'.drop.rep.add (IsX.of_bl _))) q⟩
  · exact q.elim
end
def xNil : XA := fun ρ Q => Q [] ρ
def xCons (t : XT) (u : XA) : XA := fun ρ Q => t ρ fun s ρ1 => u ρ1 fun ss ρ2 => Q (s :: ss) ρ2
section
variable {X : Cx} {Ex : ExT} {e : Expr} {es : List Expr} {t : XT} {u : XA} {pos : Pos}
theorem xa_nil : XAs X Ex [] xNil := fun F => (pa_nil (X := X)).weak fun σ H Q => by
  rintro ⟨ρ, fr, Qx, E, t, k⟩
  exact k [] [] H ρ rfl E t
theorem xa_cons (h : XE X Ex e t) (h' : XAs X Ex es u) (he : starEach (e :: es) X.env = (false, eval e X.env) :: starEach es X.env := by rfl) : XAs X Ex (e :: es) (xCons t u) := fun F => (pa_cons (h F) (h' F) he).weak fun σ H Q => by
  rintro ⟨ρ, fr, Qx, E, t, k⟩
  refine ⟨ρ, fr, _, E, t, fun v s H' ρ' E' q => ⟨ρ', _, _, E', q, fun vs ss H2 ρ2 hl E2 q2 => ?_⟩⟩
  refine k (v :: vs) (s :: ss) H2 ρ2 (by rw [List.length_cons, List.length_cons, hl]) ⟨E2.len, E2.rep.perm ?_⟩ q2
  exact List.Perm.append_left _ List.perm_middle
theorem EOk.many {F : Fm} {ρ : En} {σ : St} {fr : List Rw} {H : Hp} : ∀ {ss : List Sv} {vs : List V}, ss.length = vs.length → EOk F ρ σ (tmps ss vs ++ fr) H → Rep F (ρ.zip σ ++ fr) H ∧ All2 (IsX (hid (owns (ρ.zip σ ++ fr)) (F.vis H))) (ss.map Sv.d) vs
  | [], [], _, E => ⟨E.rep, rfl⟩
  | [], _ :: _, h, _ => by simp at h
  | _ :: _, [], h, _ => by simp at h
  | s :: ss, v :: vs, h, E => by
    have E' : EOk F ρ σ ((.v s, some v) :: (tmps ss vs ++ fr)) H := E
    obtain ⟨R, hs⟩ := EOk.many (ss := ss) (vs := vs) (by simpa using h) E'.drop
    obtain ⟨_, hx⟩ := E'.one
    refine ⟨R, v, vs, rfl, hx.to (hid_less fun c hc => ?_), hs⟩
    have : owns (ρ.zip σ ++ (tmps ss vs ++ fr)) = owns (ρ.zip σ) ++ (owns (tmps ss vs) ++ owns fr) := by unfold owns; rw [List.flatMap_append, List.flatMap_append]
    rw [this]
    have h2 : owns (ρ.zip σ ++ fr) = owns (ρ.zip σ) ++ owns fr := by unfold owns; rw [List.flatMap_append]
    rw [h2] at hc
    rcases List.mem_append.mp hc with hc | hc
    · exact List.mem_append_left _ hc
    · exact List.mem_append_right _ (List.mem_append_right _ hc)
def xTup (u : XA) : XT := fun ρ Q => u ρ fun ss ρ' => ss.length ≤ 1000000 ∧ Q (.tr (.tup (ss.map Sv.d))) ρ'
def xLst (u : XA) : XT := fun ρ Q => u ρ fun ss ρ' => ss.length ≤ 1000000 ∧ Q (.ol (ss.map Sv.d)) ρ'
theorem line1 : (1000000 : Nat) < sizeLine := by rw [sizeLine_eq]; decide
theorem xe_tup {j : Nat} (h : XAs X Ex es u) : XE X Ex (.Tuple es j pos) (xTup u) := fun F => (pe_tup (h F)).weak fun σ H Q => by
  rintro ⟨ρ, fr, Qx, E, t, k⟩
  refine ⟨ρ, fr, _, E, t, fun vs ss H2 ρ2 hl E2 q2 => ⟨by have := line1; omega, fun p hp => ?_⟩⟩
  obtain ⟨R, hs⟩ := E2.many hl
  exact k _ _ _ ρ2 (EOk.back E2.len (R.newT hp hs)) q2.2
theorem xe_lst (h : XAs X Ex es u) : XE X Ex (.List es pos) (xLst u) := fun F => (pe_lst (h F)).weak fun σ H Q => by
  rintro ⟨ρ, fr, Qx, E, t, k⟩
  refine ⟨ρ, fr, _, E, t, fun vs ss H2 ρ2 hl E2 q2 => ⟨by have := line1; omega, fun p hp => ?_⟩⟩
  obtain ⟨R, hs⟩ := E2.many hl
  exact k _ _ _ ρ2 (EOk.back E2.len (R.newL hp hs)) q2.2
end
end Lf

set_option Elab.async false
set_option linter.all false
set_option maxRecDepth 100000
set_option maxHeartbeats 4000000
namespace Lf
open PySem L2
def gI (f : Int → Int → Dx) : G2
  | .int i, .int j, Q => Q (.tr (f i j))
  | _, _, _ => False
def gIC (C : Int → Int → Prop) (f : Int → Int → Dx) : G2
  | .int i, .int j, Q => C i j ∧ Q (.tr (f i j))
  | _, _, _ => False
theorem opx_i {f : Int → Int → V} {fd : Int → Int → Dx} (h : ∀ H i j, IsX H (fd i j) (f i j)) : OpX (rI0 f) (gI fd) := by
  intro F P H a b x y Q Qx R ha hb g k
  unfold gI at g
  split at g
  · cases ha.int_eq; cases hb.int_eq
    exact ⟨_, _, rfl, rfl, k _ _ H (R.add (h _ _ _)) g⟩
  · exact g.elim
theorem opx_ic {C : Int → Int → Prop} {f : Int → Int → V} {fd : Int → Int → Dx} (h : ∀ H i j, IsX H (fd i j) (f i j)) : OpX (rI C f) (gIC C fd) := by
  intro F P H a b x y Q Qx R ha hb g k
  unfold gIC at g
  split at g
  · cases ha.int_eq; cases hb.int_eq
    exact ⟨_, _, rfl, rfl, g.1, k _ _ H (R.add (h _ _ _)) g.2⟩
  · exact g.elim
abbrev subX : G2 := gI fun i j => .int (i - j)
abbrev fdivX : G2 := gIC CDivB fun i j => .int (i / j)
abbrev modX : G2 := gIC (fun _ j => 0 < j) fun i j => .int (i % j)
abbrev powX : G2 := gIC CPow fun i j => .int (i ^ j.toNat)
abbrev ltX : G2 := gI fun i j => .bl (decide (i < j))
abbrev leX : G2 := gI fun i j => .bl (decide (i ≤ j))
abbrev gtX : G2 := gI fun i j => .bl (decide (j < i))
abbrev geX : G2 := gI fun i j => .bl (decide (j ≤ i))
theorem oi {f : Int → Int → Int} : ∀ H i j, IsX H (.int (f i j)) (.int (f i j)) := fun _ _ _ => IsX.of_int _
theorem ob {f : Int → Int → Bool} : ∀ H i j, IsX H (.bl (f i j)) (.bl (f i j)) := fun _ _ _ => IsX.of_bl _
def addX : G2
  | .int i, .int j, Q => Q (.tr (.int (i + j)))
  | .str i, .str j, Q => i.length + j.length ≤ 1000000 ∧ Q (.tr (.str (i ++ j)))
  | .lst l, .lst m, Q => l.length + m.length ≤ 1000000 ∧ Q (.ol (l ++ m))
  | _, _, _ => False
def mulX : G2
  | .int i, .int j, Q => CMulB i j ∧ Q (.tr (.int (i * j)))
  | .lst l, .int j, Q => (j ≤ 1000000 ∧ -1000000 ≤ j ∧ l.length * j.toNat ≤ 1000000) ∧ Q (.ol (List.replicate j.toNat l).flatten)
  | .str z, .int j, Q => (z.length ≤ 1000 ∧ 0 ≤ j ∧ j ≤ 1000) ∧ Q (.tr (.str (Txt.mul z j)))
  | _, _, _ => False
section
variable {X : Cx} {Ex : ExT} {a b e : Expr} {pos : Pos} {ta tb : XT}
theorem xe_add (ha : XE X Ex a ta) (hb : XE X Ex b tb) : XE X Ex (.BinOp a .Add b pos) (xOp addX ta tb) := xe_op (op_add.or (op_add_str.or op_cat)) (by
  intro F P H a b x y Q Qx R ha hb g k
  unfold addX at g
  split at g
  · cases ha.int_eq; cases hb.int_eq
    exact .inl ⟨_, _, rfl, rfl, k _ _ H (R.add (IsX.of_int _)) g⟩
  · cases ha.str_eq; cases hb.str_eq
    exact .inr (.inl ⟨_, _, rfl, rfl, by have := line1; omega, k _ _ H (R.add (IsX.of_str _)) g.2⟩)
  · obtain ⟨p, vs, rfl, h1, h2⟩ := ha.lst_eq
    obtain ⟨q, ws, rfl, h3, h4⟩ := hb.lst_eq
    refine .inr (.inr ⟨p, q, vs, ws, rfl, rfl, R.hv _ _ h1, R.hv _ _ h3, by rw [h2.len, h4.len]; have := line1; omega, fun l hl => k _ _ _ (R.newL hl (All2.app h4 h2)) g.2⟩)
  · exact g.elim) ha hb
theorem all2_flat {α β : Type} {g : α → β → Prop} {l : List α} {m : List β} (h : All2 g l m) : ∀ n, All2 g (List.replicate n l).flatten (List.replicate n m).flatten
  | 0 => rfl
  | n + 1 => by rw [List.replicate_succ, List.replicate_succ, List.flatten_cons, List.flatten_cons]; exact All2.app (all2_flat h n) h
theorem xe_mul (ha : XE X Ex a ta) (hb : XE X Ex b tb) : XE X Ex (.BinOp a .Mult b pos) (xOp mulX ta tb) := xe_op (op_mulB.or (op_rep.or op_mul_str)) (by
  intro F P H a b x y Q Qx R ha hb g k
  unfold mulX at g
  split at g
  · cases ha.int_eq; cases hb.int_eq
    exact .inl ⟨_, _, rfl, rfl, g.1, k _ _ H (R.add (IsX.of_int _)) g.2⟩
  · obtain ⟨p, vs, rfl, h1, h2⟩ := ha.lst_eq
    cases hb.int_eq
    obtain ⟨⟨g1, g2, g3⟩, g4⟩ := g
    refine .inr (.inl ⟨p, _, vs, rfl, rfl, R.hv _ _ h1, by omega, by omega, by rw [h2.len]; have := line1; omega, fun l hl => k _ _ _ (R.newL hl (all2_flat h2 _)) g4⟩)
  · cases ha.str_eq; cases hb.int_eq
    exact .inr (.inr ⟨_, _, rfl, rfl, g.1.1, g.1.2.1, g.1.2.2, k _ _ H (R.add (IsX.of_str _)) g.2⟩)
  · exact g.elim) ha hb
theorem xe_sub (ha : XE X Ex a ta) (hb : XE X Ex b tb) : XE X Ex (.BinOp a .Sub b pos) (xOp subX ta tb) := xe_op op_sub (opx_i oi) ha hb
theorem xe_fdiv (ha : XE X Ex a ta) (hb : XE X Ex b tb) : XE X Ex (.BinOp a .FloorDiv b pos) (xOp fdivX ta tb) := xe_op op_fdivB (opx_ic oi) ha hb
theorem xe_mod (ha : XE X Ex a ta) (hb : XE X Ex b tb) : XE X Ex (.BinOp a .Mod b pos) (xOp modX ta tb) := xe_op op_mod (opx_ic oi) ha hb
theorem xe_pow (ha : XE X Ex a ta) (hb : XE X Ex b tb) : XE X Ex (.BinOp a .Pow b pos) (xOp powX ta tb) := xe_op op_pow (opx_ic oi) ha hb
end
theorem ox_lt : OpX (rI0 fun i j => .bl (decide (i < j))) ltX := opx_i ob
theorem ox_le : OpX (rI0 fun i j => .bl (decide (i ≤ j))) leX := opx_i ob
theorem ox_gt : OpX (rI0 fun i j => .bl (decide (j < i))) gtX := opx_i ob
theorem ox_ge : OpX (rI0 fun i j => .bl (decide (j ≤ i))) geX := opx_i ob
def eqS : Dx → Dx → Option Bool
  | .int i, .int j => some (decide (i = j))
  | .str i, .str j => some (decide (i = j))
  | .bl i, .bl j => some (decide (i = j))
  | .non, .non => some true
  | .non, .int _ => some false | .int _, .non => some false | .non, .bl _ => some false | .bl _, .non => some false | .non, .str _ => some false | .str _, .non => some false
  | .int _, .str _ => some false | .str _, .int _ => some false | .bl _, .str _ => some false | .str _, .bl _ => some false
  | .lst l, .lst [] => some l.isEmpty
  | _, _ => none
def eqX : G2 := fun a b Q => match eqS a b with
  | some c => Q (.tr (.bl c))
  | none => False
def neX : G2 := fun a b Q => match eqS a b with
  | some c => Q (.tr (.bl (!c)))
  | none => False
def scV : Dx → Option V
  | .int i => some (.int i)
  | .str i => some (.str i)
  | .bl i => some (.bl i)
  | .non => some .non
  | _ => none
theorem scV_is {H : Hp} {d : Dx} {x v : V} (h : IsX H d x) (e : scV d = some v) : x = v := by
  cases d <;> simp only [scV, Option.some.injEq] at e <;> first | (subst e; first | exact h.int_eq | exact h.str_eq | exact h.bl_eq | exact h.non_eq) | cases e
theorem eqS_scal {a b : Dx} {c : Bool} (h : eqS a b = some c) : (∃ l, a = .lst l ∧ b = .lst [] ∧ c = l.isEmpty) ∨ ∃ x y, scV a = some x ∧ scV b = some y ∧ scal x y = true ∧ decide (x = y) = c := by
  unfold eqS at h
  split at h <;> (try simp only [Option.some.injEq] at h) <;> first
    | (subst h; exact .inr ⟨_, _, rfl, rfl, rfl, by simp⟩)
    | (subst h; exact .inl ⟨_, rfl, rfl, rfl⟩)
    | cases h
section
variable {K : PySem.W.Frag}
def rEqN (K : PySem.W.Frag) (n : Bool) : R2 := fun x y H Q => ∃ p b xs, x = .ref p ∧ y = .ref b ∧ SqL K H p xs ∧ SqL K H b [] ∧ Q (.bl (if n then !xs.isEmpty else xs.isEmpty)) H
theorem ox_eq : OpX (fun x y H Q => rEq x y H Q ∨ rEqN K false x y H Q) eqX := by
  intro F P H a b x y Q Qx R ha hb g k
  unfold eqX at g
  split at g
  · rename_i c hc
    rcases eqS_scal hc with ⟨l, rfl, rfl, rfl⟩ | ⟨u, w, h1, h2, h3, h4⟩
    · obtain ⟨p, vs, rfl, q1, q2⟩ := ha.lst_eq
      obtain ⟨p', vs', rfl, q3, q4⟩ := hb.lst_eq
      cases (show vs' = [] from q4)
      refine .inr ⟨p, p', vs, rfl, rfl, SqL.of (R.hv _ _ q1), SqL.of (R.hv _ _ q3), k _ (.tr (.bl l.isEmpty)) H (R.add ?_) g⟩
      have : vs.isEmpty = l.isEmpty := by
        have := q2.len
        cases vs <;> cases l <;> simp at this ⊢
      simp only [IsX, this]; rfl
    · cases scV_is ha h1; cases scV_is hb h2
      exact .inl ⟨h3, k _ _ H (R.add (by rw [h4]; exact IsX.of_bl _)) g⟩
  · exact g.elim
theorem ox_ne : OpX (fun x y H Q => rNe x y H Q ∨ rEqN K true x y H Q) neX := by
  intro F P H a b x y Q Qx R ha hb g k
  unfold neX at g
  split at g
  · rename_i c hc
    rcases eqS_scal hc with ⟨l, rfl, rfl, rfl⟩ | ⟨u, w, h1, h2, h3, h4⟩
    · obtain ⟨p, vs, rfl, q1, q2⟩ := ha.lst_eq
      obtain ⟨p', vs', rfl, q3, q4⟩ := hb.lst_eq
      cases (show vs' = [] from q4)
      refine .inr ⟨p, p', vs, rfl, rfl, SqL.of (R.hv _ _ q1), SqL.of (R.hv _ _ q3), k _ (.tr (.bl (!l.isEmpty))) H (R.add ?_) g⟩
      have : vs.isEmpty = l.isEmpty := by
        have := q2.len
        cases vs <;> cases l <;> simp at this ⊢
      simp only [IsX, this]; rfl
    · cases scV_is ha h1; cases scV_is hb h2
      exact .inl ⟨h3, k _ _ H (R.add (by rw [h4]; exact IsX.of_bl _)) g⟩
  · exact g.elim
end
section
variable {X : Cx} {Ex : ExT} (K : PySem.W.Frag) (h : X.K = K)
theorem op_eqA (hu : X.A.units < cLine) (h : X.K = K := by rfl) : OpR X (compareOp .Eq) (fun x y H Q => rEq x y H Q ∨ rEqN K false x y H Q) := by subst h; exact op_eq.or (op_eqNil hu)
theorem op_neA (hu : X.A.units < cLine) (h : X.K = K := by rfl) : OpR X (compareOp .NotEq) (fun x y H Q => rNe x y H Q ∨ rEqN K true x y H Q) := by subst h; exact op_ne.or (op_neNil hu)
end
def ixX : G2
  | .lst l, .int i, Q => (match atI l i with | some d => Q (.tr d) | none => False)
  | .tup l, .int i, Q => (match atI l i with | some d => Q (.tr d) | none => False)
  | .str z, .int i, Q => z.length ≤ 1000000 ∧ (match atI z.cps.toList i with | some c => Q (.tr (.str ⟨#[c]⟩)) | none => False)
  | _, _, _ => False
theorem all2_atI {α β : Type} {g : α → β → Prop} {l : List α} {m : List β} {i : Int} {d : α} (h : All2 g l m) (e : atI l i = some d) : ∃ v, atI m i = some v ∧ g d v := by
  unfold atI at e ⊢
  rw [h.len]
  obtain ⟨j, h1, h2⟩ := Option.bind_eq_some_iff.mp e
  obtain ⟨v, h3, h4⟩ := h.at h2
  exact ⟨v, Option.bind_eq_some_iff.mpr ⟨j, h1, h3⟩, h4⟩
theorem ox_ix {K : PySem.W.Frag} : OpX (fun x y H Q => rIxL K x y H Q ∨ rIxT K x y H Q ∨ rIxS x y H Q) ixX := by
  intro F P H a b x y Q Qx R ha hb g k
  unfold ixX at g
  split at g
  · obtain ⟨p, vs, rfl, h1, h2⟩ := ha.lst_eq
    cases hb.int_eq
    split at g
    · rename_i d hd
      obtain ⟨v, h3, h4⟩ := all2_atI h2 hd
      exact .inl ⟨p, vs, _, v, rfl, rfl, SqL.of (R.hv _ _ h1), h3, k _ _ H (R.add h4) g⟩
    · exact g.elim
  · obtain ⟨p, vs, rfl, h1, h2⟩ := ha.tup_eq
    cases hb.int_eq
    split at g
    · rename_i d hd
      obtain ⟨v, h3, h4⟩ := all2_atI h2 hd
      exact .inr (.inl ⟨p, vs, _, v, rfl, rfl, SqT.of (R.hv _ _ h1), h3, k _ _ H (R.add h4) g⟩)
    · exact g.elim
  · cases ha.str_eq; cases hb.int_eq
    obtain ⟨g0, g⟩ := g
    split at g
    · rename_i c hc
      exact .inr (.inr ⟨_, _, c, rfl, rfl, by have := line1; omega, hc, k _ _ H (R.add (IsX.of_str _)) g⟩)
    · exact g.elim
  · exact g.elim
theorem IxR.or {X : Cx} {r r' : R2} (h : IxR X r) (h' : IxR X r') : IxR X (fun x y H Q => r x y H Q ∨ r' x y H Q) := fun a b pins s σ H x y v u Q I rx ry q hs => q.elim (fun q => h a b pins s σ H x y v u Q I rx ry q hs) fun q => h' a b pins s σ H x y v u Q I rx ry q hs
theorem xe_ix {X : Cx} {Ex : ExT} {a b : Expr} {pos : Pos} {ta tb : XT} (K : PySem.W.Frag) (ha : XE X Ex a ta) (hb : XE X Ex b tb) (hs : PlainIx b) (h : X.K = K := by rfl) : XE X Ex (.Subscript a b pos) (xOp ixX ta tb) := fun F =>
  (pe_ix (IxR.or (ix_listK K h) (IxR.or (ix_tupK K h) ix_str)) (ha F) (hb F) hs).weak (tOp_x ox_ix)
def getK (l : List (Key × Dx)) (k : Key) : Option Dx := (l.find? fun p => decide (p.1 = k)).map (·.2)
theorem getK_val {G : Hp} {k : Key} : ∀ {l : List (Key × Dx)} {ws : List (Key × V)}, All2 (KvX G) l ws → (getK l k = none ∧ valV ws k = none) ∨ ∃ d v, getK l k = some d ∧ valV ws k = some v ∧ IsX G d v
  | [], _, h => by rw [show _ = [] from h]; exact .inl ⟨rfl, rfl⟩
  | p :: l, _, ⟨w, wr, e, ⟨h1, h2⟩, h3⟩ => by
    rw [e]
    by_cases hk : p.1 = k
    · refine .inr ⟨p.2, w.2, ?_, valV_pos (h1 ▸ hk), h2⟩
      unfold getK
      rw [List.find?_cons, decide_eq_true hk]
      rfl
    · rw [valV_neg (h1 ▸ hk)]
      have : getK (p :: l) k = getK l k := by unfold getK; rw [List.find?_cons, decide_eq_false hk]
      rw [this]
      exact getK_val h3
def keyD : Dx → Option Key
  | .int i => some (.inl i)
  | .str x => some (.inr x)
  | _ => none
theorem keyD_is {H : Hp} {d : Dx} {x : V} {k : Key} (h : IsX H d x) (e : keyD d = some k) : x = kV k := by
  cases d <;> simp only [keyD, Option.some.injEq] at e <;> first | (subst e; first | exact h.int_eq | exact h.str_eq) | cases e
def dgX : G2 := fun a b Q => match a, keyD b with
  | .dic l, some k => (match getK l k with | some d => Q (.tr d) | none => False)
  | _, _ => False
theorem DGet.rd {H : Hp} {a : Addr} {kvs : List (Key × V)} {k : Key} (e : Rd H a (.dK kvs)) : DGet H a (kV k) (valV kvs k) := .inl ⟨kvs, k, e, rfl, rfl⟩
theorem rd_hv {F : Fm} {P : List Rw} {H : Hp} (R : Rep F P H) {O : List Addr} {a : Addr} {u : HO} (h : Rd (hid O (F.vis H)) a u) : Rd H a u := by
  rcases h with h | ⟨o, h⟩
  · exact .inl (R.hv _ _ h)
  · exact .inr ⟨o, R.hv _ _ h⟩
theorem ox_dget : OpX (fun x y H Q => ∃ a v, x = .ref a ∧ DGet H a y (some v) ∧ Q v H) dgX := by
  intro F P H a b x y Q Qx R ha hb g k
  unfold dgX at g
  split at g
  · rename_i l kk hk
    obtain ⟨p, ws, rfl, h1, h2⟩ := ha.dic_eq
    cases keyD_is hb hk
    split at g
    · rename_i d hd
      rcases getK_val (k := kk) h2 with ⟨z, _⟩ | ⟨d', v, z1, z2, z3⟩
      · rw [z] at hd; cases hd
      · rw [z1] at hd; cases hd
        exact ⟨p, v, rfl, by rw [← z2]; exact DGet.rd (rd_hv R h1), k _ _ H (R.add z3) g⟩
    · exact g.elim
  · exact g.elim
section
variable {X : Cx} {Ex : ExT} {a b o i : Expr} {pos : Pos} {ta tb : XT}
theorem xe_dget (hu : X.A.units + 1 < cLine) (ha : XE X Ex o ta) (hb : XE X Ex i tb) (hs : NoSl i) : XE X Ex (.Subscript o i pos) (xOp dgX ta tb) := fun F => (pe_dget hu (ha F) (hb F) hs).weak fun σ H Q h => tOp_x ox_dget σ H Q h
def xDNew : XT := fun ρ Q => Q (.od []) ρ
theorem xe_dnew : XE X Ex (.Dict [] [] pos) xDNew := fun F => (pe_dnewK (X := X)).weak fun σ H Q => by
  rintro ⟨ρ, fr, Qx, E, t, k⟩
  exact fun p hp => k _ _ _ ρ (EOk.back E.len (E.rep.newD hp All2.nil)) t
end
end Lf

set_option Elab.async false
set_option linter.all false
set_option maxRecDepth 100000
set_option maxHeartbeats 4000000
namespace Lf
open PySem L2
abbrev GC := List Dx → (Sv → Prop) → Prop
def CallX (r : List V → Hp → VK → Prop) (g : GC) : Prop := ∀ (F : Fm) (P : List Rw) (H : Hp) (ds : List Dx) (xs : List V) (Q : VK) (Qx : Sv → Prop), Rep F P H → All2 (IsX (hid (owns P) (F.vis H))) ds xs → g ds Qx →
  (∀ v s H', Rep F ((.v s, some v) :: P) H' → Qx s → Q v H') → r xs H Q
def xCall (g : GC) (u : XA) : XT := fun ρ Q => u ρ fun ss ρ' => g (ss.map Sv.d) fun s => Q s ρ'
theorem tCB_x {F : Fm} {r : List V → Hp → VK → Prop} {g : GC} {u : XA} (hx : CallX r g) : ∀ σ H Q, tX F (xCall g u) σ H Q → tCB r (tXa F u) σ H Q := by
  rintro σ H Q ⟨ρ, fr, Qx, E, t, k⟩
  refine ⟨ρ, fr, _, E, t, fun vs ss H2 ρ2 hl E2 q2 => ?_⟩
  obtain ⟨R, hs⟩ := E2.many hl
  exact hx F _ H2 _ vs Q (fun s => Qx s ρ2) R hs q2 fun v s H' R' q => k v s H' ρ2 (EOk.back E2.len R') q
section
variable {X : Cx} {Ex : ExT} {e : Expr} {es : List Expr} {x : Str} {p pos : Pos} {r : List V → Hp → VK → Prop} {g : GC} {u : XA} {id T : String}
theorem xe_callB (hc : CallR X (.builtin id) r) (hx : CallX r g) (hg : Gl X x) (hm : X.mg x = none) (hv : bootBuiltins x = some (.builtin id)) (ha : XAs X Ex (e :: es) u) (hn : x ≠ "__name__" := by decide) (hdb : (x == ("__debug__" : Str)) = false := by decide)
    (he : starEach (e :: es) X.env = (false, eval e X.env) :: starEach es X.env := by rfl) (hpl : (backTo pos (starEach es X.env)).any (·.1) = false := by rfl) : XE X Ex (.Call (.Name x p) (e :: es) [] pos) (xCall g u) := fun F => (pe_callB hc hg hm hv (ha F) hn hdb he hpl).weak (tCB_x hx)
theorem xe_callTy (hc : CallR X (.type T) r) (hx : CallX r g) (hg : Gl X x) (hm : X.mg x = none) (hv : bootBuiltins x = some (.type T)) (ha : XAs X Ex (e :: es) u) (hn : x ≠ "__name__" := by decide) (hdb : (x == ("__debug__" : Str)) = false := by decide)
    (he : starEach (e :: es) X.env = (false, eval e X.env) :: starEach es X.env := by rfl) (hpl : (backTo pos (starEach es X.env)).any (·.1) = false := by rfl) : XE X Ex (.Call (.Name x p) (e :: es) [] pos) (xCall g u) := fun F => (pe_callTy hc hg hm hv (ha F) hn hdb he hpl).weak (tCB_x hx)
end
theorem all2_1 {α β : Type} {g : α → β → Prop} {a : α} {xs : List β} (h : All2 g [a] xs) : ∃ x, xs = [x] ∧ g a x := by
  obtain ⟨x, xr, rfl, h1, h2⟩ := h
  cases (show xr = [] from h2)
  exact ⟨x, rfl, h1⟩
theorem all2_2 {α β : Type} {g : α → β → Prop} {a b : α} {xs : List β} (h : All2 g [a, b] xs) : ∃ x y, xs = [x, y] ∧ g a x ∧ g b y := by
  obtain ⟨x, xr, rfl, h1, h2⟩ := h
  obtain ⟨y, rfl, h3⟩ := all2_1 h2
  exact ⟨x, y, rfl, h1, h3⟩
def lenX : GC
  | [.lst l], Q => Q (.tr (.int l.length))
  | [.tup l], Q => Q (.tr (.int l.length))
  | [.str z], Q => z.length ≤ 1000000 ∧ Q (.tr (.int z.length))
  | [.dic l], Q => Q (.tr (.int l.length))
  | _, _ => False
abbrev rLen (K : PySem.W.Frag) : List V → Hp → VK → Prop := fun xs H Q => (∃ p ys, xs = [.ref p] ∧ (SqL K H p ys ∨ SqT K H p ys) ∧ Q (.int ys.length) H) ∨ (∃ z, xs = [.str z] ∧ z.length ≤ sizeLine ∧ Q (.int z.length) H) ∨ (∃ a kvs, xs = [V.ref a] ∧ Rd H a (.dK kvs) ∧ Q (.int kvs.length) H)
theorem call_lenA {X : Cx} (K : PySem.W.Frag) (h : X.K = K := by rfl) : CallR X (.builtin "len") (rLen K) := by
  subst h
  refine call_len_seq.or (call_len_str.or ?_)
  intro pins s σ H xs us Q I r h
  obtain ⟨a, kvs, rfl, ha, q⟩ := h
  obtain ⟨u, rfl, ru⟩ := vals1 r
  cases ru
  exact d_len I ha fun t s' I' => ⟨.int kvs.length, H, I', ⟨t, rfl⟩, q⟩
theorem cx_len {K : PySem.W.Frag} : CallX (rLen K) lenX := by
  intro F P H ds xs Q Qx R hs g k
  unfold lenX at g
  split at g
  · obtain ⟨x, rfl, hx⟩ := all2_1 hs
    obtain ⟨a, vs, rfl, h1, h2⟩ := hx.lst_eq
    exact .inl ⟨a, vs, rfl, .inl (SqL.of (R.hv _ _ h1)), k _ _ H (R.add (by rw [h2.len]; exact IsX.of_int _)) g⟩
  · obtain ⟨x, rfl, hx⟩ := all2_1 hs
    obtain ⟨a, vs, rfl, h1, h2⟩ := hx.tup_eq
    exact .inl ⟨a, vs, rfl, .inr (SqT.of (R.hv _ _ h1)), k _ _ H (R.add (by rw [h2.len]; exact IsX.of_int _)) g⟩
  · obtain ⟨x, rfl, hx⟩ := all2_1 hs
    cases hx.str_eq
    exact .inr (.inl ⟨_, rfl, by have := line1; omega, k _ _ H (R.add (IsX.of_int _)) g.2⟩)
  · obtain ⟨x, rfl, hx⟩ := all2_1 hs
    obtain ⟨a, vs, rfl, h1, h2⟩ := hx.dic_eq
    exact .inr (.inr ⟨a, vs, rfl, rd_hv R h1, k _ _ H (R.add (by rw [h2.len]; exact IsX.of_int _)) g⟩)
  · exact g.elim
def intX : GC
  | [.int i], Q => Q (.tr (.int i))
  | [.bl b], Q => Q (.tr (.int (if b then 1 else 0)))
  | _, _ => False
theorem cx_int : CallX (fun xs H Q => (∃ i, xs = [.int i] ∧ Q (.int i) H) ∨ ∃ k, xs = [.bl k] ∧ Q (.int (if k then 1 else 0)) H) intX := by
  intro F P H ds xs Q Qx R hs g k
  unfold intX at g
  split at g
  · obtain ⟨x, rfl, hx⟩ := all2_1 hs
    cases hx.int_eq
    exact .inl ⟨_, rfl, k _ _ H (R.add (IsX.of_int _)) g⟩
  · obtain ⟨x, rfl, hx⟩ := all2_1 hs
    cases hx.bl_eq
    exact .inr ⟨_, rfl, k _ _ H (R.add (IsX.of_int _)) g⟩
  · exact g.elim
def listX : GC
  | [.lst l], Q => Q (.ol l)
  | [.tup l], Q => Q (.ol l)
  | _, _ => False
def tupleX : GC
  | [.lst l], Q => Q (.tr (.tup l))
  | [.tup l], Q => Q (.tr (.tup l))
  | _, _ => False
theorem call_tupleA {X : Cx} (K : PySem.W.Frag) (h : X.K = K := by rfl) : CallR X (.type "tuple") (fun xs H Q => ∃ p ys, xs = [.ref p] ∧ ((SqL K H p ys ∧ ∀ l, H l = none → Q (.ref l) (upd H l (.tup ys))) ∨ (SqT K H p ys ∧ Q (.ref p) H))) := by subst h; exact call_tuple_of
theorem cx_tuple {K : PySem.W.Frag} : CallX (fun xs H Q => ∃ p ys, xs = [.ref p] ∧ ((SqL K H p ys ∧ ∀ l, H l = none → Q (.ref l) (upd H l (.tup ys))) ∨ (SqT K H p ys ∧ Q (.ref p) H))) tupleX := by
  intro F P H ds xs Q Qx R hs g k
  unfold tupleX at g
  split at g
  · obtain ⟨x, rfl, hx⟩ := all2_1 hs
    obtain ⟨a, vs, rfl, h1, h2⟩ := hx.lst_eq
    exact ⟨a, vs, rfl, .inl ⟨SqL.of (R.hv _ _ h1), fun l hl => k _ _ _ (R.newT hl h2) g⟩⟩
  · obtain ⟨x, rfl, hx⟩ := all2_1 hs
    obtain ⟨a, vs, rfl, h1, h2⟩ := hx.tup_eq
    exact ⟨a, vs, rfl, .inr ⟨SqT.of (R.hv _ _ h1), k _ _ H (R.add (IsX.of_tup h1 h2)) g⟩⟩
  · exact g.elim
inductive Ty where
  | bool | int | str | tuple | list | dict
def Ty.nm : Ty → String
  | .bool => "bool" | .int => "int" | .str => "str" | .tuple => "tuple" | .list => "list" | .dict => "dict"
def tyN : Dx → String
  | .non => "NoneType" | .bl _ => "bool" | .int _ => "int" | .str _ => "str" | .tup _ => "tuple" | .lst _ => "list" | .dic _ => "dict" | .scr _ _ => "list" | .ins _ _ => "object" | .exc _ => "object"
def isT : Ty → Dx → Bool
  | .bool, .bl _ => true
  | .int, .int _ => true
  | .int, .bl _ => true
  | .str, .str _ => true
  | .tuple, .tup _ => true
  | .list, .lst _ => true
  | .dict, .dic _ => true
  | .list, .scr _ _ => true
  | _, _ => false
def noScr : Dx → Prop
  | .scr _ _ => False
  | .ins _ _ => False
  | .exc _ => False
  | _ => True
theorem kit_tab {K : PySem.W.Frag} {d : Dx} {n : Ty} (hd : noScr d) : PySem.W.kitOne K (.type (tyN d)) (.type n.nm) = some (isT n d) := by
  have h : ∀ T ∈ ["NoneType", "bool", "int", "str", "tuple", "list", "dict"], ∀ n : Ty, PySem.W.kitOne K (.type T) (.type n.nm) = some (T == n.nm || (n.nm == "int" && T == "bool")) := by
    intro T hT n
    simp only [List.mem_cons, List.not_mem_nil, or_false] at hT
    rcases hT with rfl | rfl | rfl | rfl | rfl | rfl | rfl <;> cases n <;> first
      | exact kit_self _
      | exact kit_of (by decide +kernel) (by decide +kernel) (by decide +kernel)
  rw [h _ (by cases d <;> first | exact hd.elim | simp [tyN]) n]
  cases d <;> cases n <;> first | rfl | exact hd.elim
theorem isinst_rd {X : Cx} {pins : List (Addr × Obj)} {σ : St} {H : Hp} {s : Shared} {A : Around} {E : Value → Shared → Prop} {Q : Value → Shared → Prop} {b : Bool} {c : Value} {d : Dx} {x : V} {u : Value} (I : Inv X pins σ H s) (rx : RelV x u) (hx : IsX H d x) (hd : noScr d) (e : PySem.W.kitOne X.K (.type (tyN d)) c = some b) (h : ∀ tk, Q (.bool b) { s with toks := tk }) :
    wpAny (model X.prog X.w) A (call (.builtin "isinstance") [u, c]) Q E s := by
  cases d with
  | non => cases hx.non_eq; exact isinst_ok I rx .non e h
  | bl _ => cases hx.bl_eq; exact isinst_ok I rx (.bl _) e h
  | int _ => cases hx.int_eq; exact isinst_ok I rx (.int _) e h
  | str _ => cases hx.str_eq; exact isinst_ok I rx (.str _) e h
  | tup _ => obtain ⟨a, vs, rfl, h1, _⟩ := hx.tup_eq; exact isinst_ok I rx (.tup h1) e h
  | lst _ => obtain ⟨a, vs, rfl, h1, _⟩ := hx.lst_eq; exact isinst_ok I rx (.lst h1) e h
  | dic _ =>
    obtain ⟨a, vs, rfl, h1, _⟩ := hx.dic_eq
    rcases h1 with h1 | ⟨ob, h1⟩
    · exact isinst_ok I rx (.dK h1) e h
    · cases (show u = Value.ref a from rx)
      obtain ⟨_, _, _, _, _, p⟩ := (show ObjOk X.prog X.w H s.heap a (.frz ob (.dK vs)) from I.hok a _ h1)
      obtain ⟨o, es, ep, h1, h2, _⟩ := p
      exact PySem.W.kia_one PySem.W.kitx_dict I.kIn ⟨o, h1, h2.1⟩ e (fun z => nomatch z) h
  | scr _ _ => exact hd.elim
  | ins _ _ => exact hd.elim
  | exc _ => exact hd.elim
theorem call_isX {X : Cx} (n : Ty) : CallR X (.builtin "isinstance") (fun xs H Q => ∃ x d, xs = [x, .ty n.nm] ∧ IsX H d x ∧ noScr d ∧ Q (.bl (isT n d)) H) := by
  intro pins s σ H xs us Q I r h
  obtain ⟨x, d, rfl, hx, hd, q⟩ := h
  obtain ⟨u, w', rfl, r1, r2⟩ := vals2 r
  cases (show w' = Value.type n.nm from r2)
  exact isinst_rd I r1 hx hd (kit_tab hd) (fun tk => ⟨.bl _, H, I.tok _, rfl, q⟩)
def xIs (n : Ty) (t : XT) : XT := fun ρ Q => t ρ fun s ρ' => match s.d with
  | .scr _ _ => False
  | .ins _ _ => False
  | .exc _ => False
  | d => Q (.tr (.bl (isT n d))) ρ'
theorem xe_isinst {X : Cx} {Ex : ExT} {e : Expr} {t : XT} {nm : Str} {p q pos : Pos} (n : Ty) (hm : X.mg "isinstance" = none) (h : XE X Ex e t) (hT : PE X (.Name nm q) (tC (.ty n.nm))) (hg : Gl X "isinstance" := by rfl)
    (he : starEach [e, .Name nm q] X.env = (false, eval e X.env) :: starEach [.Name nm q] X.env := by rfl) (he2 : starEach [.Name nm q] X.env = (false, eval (.Name nm q) X.env) :: starEach [] X.env := by rfl) (hpl : (backTo pos (starEach [.Name nm q] X.env)).any (·.1) = false := by rfl) : XE X Ex (.Call (.Name "isinstance" p) [e, .Name nm q] [] pos) (xIs n t) := fun F =>
  (pe_callB (call_isX n) hg hm bt_isinstance (pa_cons (h F) (pa_cons hT pa_nil he2) he) (by decide) (by decide) he hpl).weak fun σ H Q => by
    rintro ⟨ρ, fr, Qx, E, t, k⟩
    refine ⟨ρ, fr, _, E, t, fun v s H' ρ' E' q => ?_⟩
    obtain ⟨R, hx⟩ := E'.one
    generalize hd : s.d = d at q hx
    cases d with
    | scr _ _ => exact q.elim
    | ins _ _ => exact q.elim
    | exc _ => exact q.elim
    | _ => exact ⟨v, _, rfl, hx.to R.hv, trivial, k _ _ H' ρ' (EOk.back E'.len (R.add (IsX.of_bl _))) q⟩
def Cal (P : Program) (w : World) (K : PySem.W.Frag) (mg : Str → Option Value) (base : Heap) (j : Nat) (x : Str) (ps : List Str) (sp : Sp) : Prop := ∃ f fd, FnOk P w K mg base CX0 j f fd ps sp ∧ Binds K fd ps [] ∧ PySem.W.keepIn K (.ref f) = true ∧ mg x = some (.ref f)
theorem pe_cal {X : Cx} {j : Nat} {x : Str} {ps : List Str} {sp : Sp} {e : Expr} {es : List Expr} {t : TA} {p pos : Pos} (C : Cal X.prog X.w X.K X.mg X.base j x ps sp) (hr : Room j X.A) (ha : PA X (e :: es) t) (hg : Gl X x := by rfl) (hdb : (x == ("__debug__" : Str)) = false := by decide)
    (he : starEach (e :: es) X.env = (false, eval e X.env) :: starEach es X.env := by rfl) (hpl : (backTo pos (starEach es X.env)).any (·.1) = false := by rfl) : PE X (.Call (.Name x p) (e :: es) [] pos) (tCall sp [] E0 t) := by
  obtain ⟨f, fd, G, b, k, m⟩ := C
  exact pe_call G hr hg m k b .nil pass0 ha hdb he hpl
def ResOk (Hs H H' : Hp) : Sv → V → Prop
  | .tr d, v => IsX (ext Hs H H') d v
  | .ol l, v => ∃ a vs, v = .ref a ∧ H a = none ∧ H' a = some (.lst vs) ∧ All2 (IsX (hid [a] (ext Hs H H'))) l vs
  | .od l, v => ∃ a ws, v = .ref a ∧ H a = none ∧ H' a = some (.dK ws) ∧ All2 (KvX (hid [a] (ext Hs H H'))) l ws
  | .ow o, v => o.fp.Nodup ∧ (∀ a ∈ o.fp, H a = none) ∧ OwOk (hid o.fp (ext Hs H H')) H' o v
def spX (g : GC) : Sp := fun vs H Q _ => ∃ Hs ds Qx, Same Hs H ∧ All2 (IsX Hs) ds vs ∧ g ds Qx ∧ ∀ s v H', Same H H' → ResOk Hs H H' s v → Qx s → Q v H'
section
variable {F : Fm} {P : List Rw} {H H' : Hp} {a : Addr} {s : Sv} {v : V}
theorem ext_hid (R : Rep F P H) (e : Same H H') : Same (ext (hid (owns P) (F.vis H)) H H') (hid (owns P) (F.vis H')) := fun b o hb => by
  cases q : H b with
  | none =>
    rw [ext_new q] at hb
    exact hid_some.mpr ⟨R.not_own q, (ext_new (R.fresh q)).trans hb⟩
  | some u =>
    rw [ext_old q] at hb
    exact hid_same (ext_same e) _ _ hb
theorem Rep.adopt (R : Rep F P H) (e : Same H H') (ha : H a = none) (hA : ownA (.v s, some (.ref a)) = [a]) (h : RowOk (a :: owns P) (F.vis H') H' (.v s, some (.ref a))) : Rep F ((.v s, some (.ref a)) :: P) H' := by
  have hno := R.not_own ha
  have hq := R.fresh ha
  have R' := R.grow e
  refine ⟨by rw [owns_some hA]; exact List.nodup_cons.mpr ⟨hno, R.nd⟩, fun r hr => ?_, fun r hr b hb => ?_, R'.kp, R'.lv⟩
  · rw [owns_some hA]
    rcases List.mem_cons.mp hr with rfl | hr
    · exact h
    · refine (R.ok r hr).mono (.of fun b o hb => ?_) fun b hb => ?_
      · have hb' := hid_some.mp hb
        have hba : b ≠ a := fun z => by have := R.vis _ _ hb'.2; rw [z, ha] at this; cases this
        exact hid_some.mpr ⟨fun z => (List.mem_cons.mp z).elim hba hb'.1, ext_same e _ _ hb'.2⟩
      · obtain ⟨o, ho⟩ := R.own_in (own_mem hr hb)
        rw [ho, e _ _ ho]
  · rcases List.mem_cons.mp hr with rfl | hr
    · cases eq1 hA hb; exact hq
    · exact R.fr r hr b hb
theorem Rep.adoptW {o : Ow} (R : Rep F P H) (e : Same H H') (hn : o.fp.Nodup) (ha : ∀ a ∈ o.fp, H a = none) (h : OwOk (hid (o.fp ++ owns P) (F.vis H')) H' o v) : Rep F ((.v (.ow o), some v) :: P) H' := by
  have R' := R.grow e
  have hO : owns ((.v (.ow o), some v) :: P) = o.fp ++ owns P := owns_cons
  have hdis : ∀ a ∈ o.fp, a ∉ owns P := fun a h1 => R.not_own (ha a h1)
  refine ⟨?_, fun r hr => ?_, fun r hr b hb => ?_, R'.kp, R'.lv⟩
  · rw [hO]
    exact List.nodup_append.mpr ⟨hn, R.nd, fun a h1 b h2 z => hdis a h1 (z ▸ h2)⟩
  · rw [hO]
    rcases List.mem_cons.mp hr with rfl | hr
    · exact ⟨v, rfl, h⟩
    · refine (R.ok r hr).mono (.of fun b u hb => ?_) fun b hb => ?_
      · have hb' := hid_some.mp hb
        refine hid_some.mpr ⟨fun z => (List.mem_append.mp z).elim (fun z => ?_) hb'.1, ext_same e _ _ hb'.2⟩
        have := R.vis _ _ hb'.2; rw [ha b z] at this; cases this
      · obtain ⟨u, hu⟩ := R.own_in (own_mem hr hb)
        rw [hu, e _ _ hu]
  · rcases List.mem_cons.mp hr with rfl | hr
    · exact R.fresh (ha b hb)
    · exact R.fr r hr b hb
theorem ext_hid1 (R : Rep F P H) (e : Same H H') (ha : H a = none) : Same (hid [a] (ext (hid (owns P) (F.vis H)) H H')) (hid (a :: owns P) (F.vis H')) := fun b o hb => by
  have hb' := hid_some.mp hb
  have := hid_some.mp (ext_hid R e _ _ hb'.2)
  exact hid_some.mpr ⟨fun z => (List.mem_cons.mp z).elim (fun z => hb'.1 (by rw [z]; exact List.mem_cons_self)) this.1, this.2⟩
theorem Rep.res (R : Rep F P H) (e : Same H H') (h : ResOk (hid (owns P) (F.vis H)) H H' s v) : Rep F ((.v s, some v) :: P) H' := by
  match s, h with
  | .tr d, h => exact (R.grow e).add (IsX.to h (ext_hid R e))
  | .ol l, ⟨a, vs, h1, h2, h3, h4⟩ =>
    subst h1
    exact R.adopt e h2 rfl ⟨a, vs, rfl, h3, h4.imp fun _ _ z => z.to (ext_hid1 R e h2)⟩
  | .od l, ⟨a, vs, h1, h2, h3, h4⟩ =>
    subst h1
    exact R.adopt e h2 rfl ⟨a, vs, rfl, h3, h4.imp fun _ _ z => z.to (ext_hid1 R e h2)⟩
  | .ow o, ⟨h1, h2, h3⟩ =>
    refine R.adoptW e h1 h2 (OwOk.mono (.of fun b u hb => ?_) o v (fun _ _ => rfl) h3)
    have hb' := hid_some.mp hb
    have := hid_some.mp (ext_hid R e _ _ hb'.2)
    exact hid_some.mpr ⟨fun z => (List.mem_append.mp z).elim hb'.1 this.1, this.2⟩
end
theorem xe_call {X : Cx} {Ex : ExT} {j : Nat} {x : Str} {ps : List Str} {g : GC} {e : Expr} {es : List Expr} {u : XA} {p pos : Pos} (C : Cal X.prog X.w X.K X.mg X.base j x ps (spX g)) (hr : Room j X.A) (ha : XAs X Ex (e :: es) u) (hg : Gl X x := by rfl) (hdb : (x == ("__debug__" : Str)) = false := by decide)
    (he : starEach (e :: es) X.env = (false, eval e X.env) :: starEach es X.env := by rfl) (hpl : (backTo pos (starEach es X.env)).any (·.1) = false := by rfl) : XE X Ex (.Call (.Name x p) (e :: es) [] pos) (xCall g u) := fun F => (pe_cal C hr (ha F) hg hdb he hpl).weak fun σ H Q => by
  rintro ⟨ρ, fr, Qx, E, t, k⟩
  refine ⟨ρ, fr, _, E, t, fun vs ss H2 ρ2 hl E2 q2 => ?_⟩
  obtain ⟨R, hs⟩ := E2.many hl
  rw [List.append_nil]
  exact ⟨_, _, _, R.hv, hs, q2, fun s v H' e hr q => k v s H' ρ2 (EOk.back E2.len (R.res e hr)) q⟩
abbrev GB := List Dx → List Dx → (Dx → List Dx → Prop) → Prop
def spB (g : GB) : Sp := fun vs H Q _ => ∃ p ws l vr Hs ds Qx, vs = .ref p :: vr ∧ H p = some (.lst ws) ∧ Same Hs H ∧ Hs p = none ∧ All2 (IsX Hs) l ws ∧ All2 (IsX Hs) ds vr ∧ g l ds Qx ∧
  ∀ d v l' ws' H', SameX p H H' → H' p = some (.lst ws') → All2 (IsX (hid [p] (ext Hs H H'))) l' ws' → IsX (ext Hs H H') d v → Qx d l' → Q v H'
def lent : Sl → Option (List Dx × (List Dx → Sl))
  | .bw l => some (l, .bw)
  | .v (.ol l) => some (l, fun l' => .v (.ol l'))
  | _ => none
def xCallB (g : GB) (i : Nat) (u : XA) : XT := fun ρ Q => ((ρ[i]?).bind lent).isSome = true ∧ u ρ fun ss ρ' => match (ρ'[i]?).bind lent with
  | some (l, f) => g l (ss.map Sv.d) fun d l' => Q (.tr d) (ρ'.set i (f l'))
  | none => False
section
variable {F : Fm} {P : List Rw} {H H' : Hp} {a p : Addr} {s : Sv} {v : V} {r r' : Rw}
theorem Rep.called (R : Rep F (r :: P) H) (hA : ownA r = [p]) (hA' : ownA r' = [p]) (hF : FrOk F r p → FrOk F r' p) (e : SameX p H H') (hp : ∃ o, H' p = some o) (h : RowOk (p :: owns P) (F.vis H') H' r') : Rep F (r' :: P) H' := by
  have hn := R.nd
  rw [owns_some hA] at hn
  have hna := (List.nodup_cons.mp hn).1
  have R1 := R.ok
  rw [owns_some hA] at R1
  have hfr := R.fr r List.mem_cons_self p (mem1 hA)
  have ev : Same (hid (p :: owns P) (F.vis H)) (hid (p :: owns P) (F.vis H')) := fun b o hb => by
    have hb' := hid_some.mp hb
    have hbp : b ≠ p := fun z => hb'.1 (by rw [z]; exact List.mem_cons_self)
    refine hid_some.mpr ⟨hb'.1, ?_⟩
    cases q : F.H0 b with
    | none => exact (ext_new q).trans (nf_mono ((ext_new q).symm.trans hb'.2) fun o h => e.get hbp h)
    | some u => exact (ext_old q).trans ((ext_old q).symm.trans hb'.2)
  refine ⟨by rw [owns_some hA']; exact hn, fun x hx => ?_, fun x hx b hb => ?_, fun b u h1 h2 => ?_, fun b hb => ?_⟩
  · rw [owns_some hA']
    rcases List.mem_cons.mp hx with rfl | hx
    · exact h
    · refine (R1 x (List.mem_cons_of_mem _ hx)).mono (.of ev) fun b hb => ?_
      have hbp : b ≠ p := fun z => hna (z ▸ own_mem hx hb)
      obtain ⟨o, ho⟩ := R.own_in (own_mem (List.mem_cons_of_mem _ hx) hb)
      rw [ho, e.get hbp ho]
  · rcases List.mem_cons.mp hx with rfl | hx
    · cases eq1 hA' hb; exact hF hfr
    · exact R.fr x (List.mem_cons_of_mem _ hx) b hb
  · have hb := R.kp b u h1 h2
    by_cases z : b = p
    · subst z
      rcases hfr.or with hfr | hfr
      · exact absurd hfr h2
      · rw [hfr] at h1; cases h1
    · exact e.get z hb
  · by_cases z : b = p
    · subst z; exact hp
    · obtain ⟨o, ho⟩ := R.lv b hb
      exact ⟨o, e.get z ho⟩
theorem ext_called (R : Rep F (r :: P) H) (hA : ownA r = [p]) (e : SameX p H H') : Same (ext (hid (owns (r :: P)) (F.vis H)) H H') (hid (owns (r :: P)) (F.vis H')) := fun b o hb => by
  have hpo : p ∈ owns (r :: P) := by rw [owns_some hA]; exact List.mem_cons_self
  cases q : H b with
  | none =>
    rw [ext_new q] at hb
    exact hid_some.mpr ⟨R.not_own q, (ext_new (R.fresh q)).trans hb⟩
  | some u =>
    rw [ext_old q] at hb
    have hb' := hid_some.mp hb
    have hbp : b ≠ p := fun z => hb'.1 (by rw [z]; exact hpo)
    refine hid_some.mpr ⟨hb'.1, ?_⟩
    cases q : F.H0 b with
    | none => exact (ext_new q).trans (nf_mono ((ext_new q).symm.trans hb'.2) fun o h => e.get hbp h)
    | some u => exact (ext_old q).trans ((ext_old q).symm.trans hb'.2)
end
theorem lent_row {sl : Sl} {x : Option V} {l : List Dx} {f : List Dx → Sl} {F : Fm} {P : List Rw} {H : Hp} (h : lent sl = some (l, f)) (R : Rep F ((sl, x) :: P) H) : ∃ p ws, x = some (.ref p) ∧ H p = some (.lst ws) ∧ ownA (sl, some (.ref p)) = [p] ∧ All2 (IsX (hid (p :: owns P) (F.vis H))) l ws ∧
    ∀ l', ownA (f l', some (.ref p)) = [p] ∧ (FrOk F (sl, some (.ref p)) p → FrOk F (f l', some (.ref p)) p) ∧ ∀ {O : List Addr} {G H' : Hp} {ws' : List V}, H' p = some (.lst ws') → All2 (IsX (hid O G)) l' ws' → RowOk O G H' (f l', some (.ref p)) := by
  match sl, h with
  | .bw l, h =>
    cases h
    obtain ⟨p, ws, h1, h2, h3⟩ := R.atB
    exact ⟨p, ws, h1, h2, rfl, h3, fun l' => ⟨rfl, id, fun a b => ⟨p, _, rfl, a, b⟩⟩⟩
  | .v (.ol l), h =>
    cases h
    obtain ⟨p, ws, h1, h2, h3⟩ := R.atL
    exact ⟨p, ws, h1, h2, rfl, h3, fun l' => ⟨rfl, id, fun a b => ⟨p, _, rfl, a, b⟩⟩⟩
theorem xe_callP {X : Cx} {Ex : ExT} {j i : Nat} {x : Str} {ps : List Str} {g : GB} {e : Expr} {es : List Expr} {u : XA} {p pos : Pos} (C : Cal X.prog X.w X.K X.mg X.base j x ps (spB g)) (hr : Room j X.A) (hv : PE X e (tVar i)) (ha : XAs X Ex es u) (hg : Gl X x := by rfl) (hdb : (x == ("__debug__" : Str)) = false := by decide)
    (he : starEach (e :: es) X.env = (false, eval e X.env) :: starEach es X.env := by rfl) (hpl : (backTo pos (starEach es X.env)).any (·.1) = false := by rfl) : XE X Ex (.Call (.Name x p) (e :: es) [] pos) (xCallB g i u) := fun F => (pe_cal C hr (pa_cons hv (ha F) he) hg hdb he hpl).weak fun σ H Q => by
  rintro ⟨ρ, fr, Qx, E, ⟨t0, t⟩, k⟩
  obtain ⟨⟨l0, f0⟩, h0⟩ := Option.isSome_iff_exists.mp t0
  obtain ⟨sl0, h1, h2⟩ := Option.bind_eq_some_iff.mp h0
  obtain ⟨v, hv, hi, R0⟩ := eok_slot E h1
  obtain ⟨p, _, rfl, _⟩ := lent_row h2 R0
  refine ⟨.ref p, hv, ρ, fr, _, E, t, fun vs ss H2 ρ2 hl E2 q2 => ?_⟩
  obtain ⟨R, hs⟩ := E2.many hl
  split at q2
  · rename_i l f hb
    obtain ⟨sl, h3, h4⟩ := Option.bind_eq_some_iff.mp hb
    have E3 : EOk F ρ2 σ fr H2 := ⟨E2.len, R⟩
    obtain ⟨v', hv', hi', R2⟩ := eok_slot E3 h3
    rw [hv] at hv'
    cases hv'
    obtain ⟨p', ws, ep, h5, h6, h7, h8⟩ := lent_row h4 R2
    cases ep
    rw [List.append_nil]
    have hO : (owns (ρ2.zip σ ++ fr)).Perm (owns ((sl, some (V.ref p)) :: ((ρ2.zip σ).eraseIdx i ++ fr))) := ((zip_pull h3 hv).append_right fr).flatMap_right _
    have hOm : ∀ a ∈ owns ((sl, some (V.ref p)) :: ((ρ2.zip σ).eraseIdx i ++ fr)), a ∈ owns (ρ2.zip σ ++ fr) := fun a ha => hO.mem_iff.mpr ha
    refine ⟨p, ws, l, vs, hid (owns ((sl, some (V.ref p)) :: ((ρ2.zip σ).eraseIdx i ++ fr))) (F.vis H2), _, _, rfl, h5, R2.hv, ?_, ?_, hs.imp fun _ _ z => z.to (hid_less hOm), q2, fun d w l' ws' H' e hp hl' hd q => ?_⟩
    · unfold hid
      rw [if_pos (by rw [owns_some h6]; exact List.mem_cons_self)]
    · rw [owns_some h6]
      exact h7
    · obtain ⟨k1, k2, k3⟩ := h8 l'
      have ev := ext_called R2 h6 e
      have R3 := R2.called h6 k1 k2 e ⟨_, hp⟩ (k3 hp (hl'.imp fun _ _ z => z.to fun b o hb => by
        have hb' := hid_some.mp hb
        have := ev _ _ hb'.2
        rw [owns_some h6] at this
        exact this))
      refine k w (.tr d) H' _ (EOk.back (by rw [List.length_set]; exact E2.len) ?_) q
      have R4 := R3.add (d := d) (v := w) (hd.to fun b o hb => by
        have := ev _ _ hb
        rw [owns_some h6] at this
        rw [owns_some k1]
        exact this)
      exact R4.perm (((zip_put' E2.len hi' hv).append_right fr).symm.cons _)
  · exact q2.elim
end Lf

set_option Elab.async false
set_option linter.all false
set_option maxRecDepth 100000
set_option maxHeartbeats 4000000
namespace L2
open PySem
theorem PI.weak {X : Cx} {tg e : Expr} {t u : TI} (h : PI X tg e t) (w : ∀ σ H Q, u σ H Q → t σ H Q) : PI X tg e u := fun pins s σ H Q I q => h pins s σ H Q I (w σ H Q q)
theorem PCs.weak {X : Cx} {e : List Expr} {t u : TT} (h : PCs X e t) (w : ∀ σ H Q, u σ H Q → t σ H Q) : PCs X e u := fun pins s σ H Q I q => h pins s σ H Q I (w σ H Q q)
end L2
namespace Lf
open PySem L2
abbrev XI := En → (List Dx → En → Prop) → Prop
structure ItX (F : Fm) (J : It) (row : List Rw) (ds : List Dx) : Prop where
  go : ∀ P H i d, Rep F (row ++ P) H → ds[i]? = some d → J.go i H
  stop : ∀ P H i, Rep F (row ++ P) H → ds.length ≤ i → J.stop i H
  yld : ∀ P H i d x H', Rep F (row ++ P) H → ds[i]? = some d → J.yld i H x H' → Rep F ((.v (.tr d), some x) :: (row ++ P)) H'
def tXi (F : Fm) (t : XI) : TI := fun σ H R => ∃ ρ fr Qx, EOk F ρ σ fr H ∧ t ρ Qx ∧ ∀ J H' ρ' row ds, EOk F ρ' σ (row ++ fr) H' → ItX F J row ds → Qx ds ρ' → R J H'
def XIt (X : Cx) (Ex : ExT) (tg iter : Expr) (t : XI) : Prop := ∀ F, [OkF X Ex F] → PI X tg iter (tXi F t)
def xiL (t : XT) : XI := fun ρ Q => t ρ fun s ρ' => match s.d with
  | .lst l => Q l ρ'
  | _ => False
def xiT (t : XT) : XI := fun ρ Q => t ρ fun s ρ' => match s.d with
  | .tup l => Q l ρ'
  | _ => False
theorem itx_list {F : Fm} {K : PySem.W.Frag} {a : Addr} {l : List Dx} : ItX F (Itl K a) [(.v (.tr (.lst l)), some (.ref a))] l where
  go := fun P H i d R hd => by
    obtain ⟨v, e, h⟩ := R.atT; cases e
    obtain ⟨_, vs, e, h1, h2⟩ := h.lst_eq; cases e
    obtain ⟨x, h3, _⟩ := h2.at hd
    exact ⟨vs, x, SqL.of (R.hv _ _ h1), h3⟩
  stop := fun P H i R hi => by
    obtain ⟨v, e, h⟩ := R.atT; cases e
    obtain ⟨_, vs, e, h1, h2⟩ := h.lst_eq; cases e
    exact ⟨vs, SqL.of (R.hv _ _ h1), by rw [h2.len]; exact hi⟩
  yld := fun P H i d x H' R hd q => by
    obtain ⟨rfl, q⟩ := q
    obtain ⟨v, e, h⟩ := R.atT; cases e
    obtain ⟨_, vs, e, h1, h2⟩ := h.lst_eq; cases e
    obtain ⟨y, h3, h4⟩ := h2.at hd
    rw [q vs (SqL.of (R.hv _ _ h1))] at h3
    cases h3
    exact R.add h4
theorem itx_tup {F : Fm} {K : PySem.W.Frag} {a : Addr} {l : List Dx} : ItX F (Itt K a) [(.v (.tr (.tup l)), some (.ref a))] l where
  go := fun P H i d R hd => by
    obtain ⟨v, e, h⟩ := R.atT; cases e
    obtain ⟨_, vs, e, h1, h2⟩ := h.tup_eq; cases e
    obtain ⟨x, h3, _⟩ := h2.at hd
    exact ⟨vs, x, SqT.of (R.hv _ _ h1), h3⟩
  stop := fun P H i R hi => by
    obtain ⟨v, e, h⟩ := R.atT; cases e
    obtain ⟨_, vs, e, h1, h2⟩ := h.tup_eq; cases e
    exact ⟨vs, SqT.of (R.hv _ _ h1), by rw [h2.len]; exact hi⟩
  yld := fun P H i d x H' R hd q => by
    obtain ⟨rfl, q⟩ := q
    obtain ⟨v, e, h⟩ := R.atT; cases e
    obtain ⟨_, vs, e, h1, h2⟩ := h.tup_eq; cases e
    obtain ⟨y, h3, h4⟩ := h2.at hd
    rw [q vs (SqT.of (R.hv _ _ h1))] at h3
    cases h3
    exact R.add h4
section
variable {X : Cx} {Ex : ExT} {tg l a b : Expr} {t : XT} {u : XA} {p pos : Pos}
theorem xi_list (h : XE X Ex l t) : XIt X Ex tg l (xiL t) := fun F => (pi_list (h F)).weak fun σ H R => by
  rintro ⟨ρ, fr, Qx, E, t, k⟩
  refine ⟨ρ, fr, _, E, t, fun v s H' ρ' E' q => ?_⟩
  split at q
  · rename_i m hm
    have R1 := E'.front.frz
    rw [hm] at R1
    obtain ⟨v', e, h⟩ := R1.atT; cases e
    obtain ⟨c, vs, rfl, h1, h2⟩ := h.lst_eq
    exact ⟨c, rfl, ⟨vs, SqL.of (R1.hv _ _ h1)⟩, k _ H' ρ' [(.v (.tr (.lst m)), some (.ref c))] m (EOk.back E'.len R1) itx_list q⟩
  · exact q.elim
theorem xi_tup (h : XE X Ex l t) : XIt X Ex tg l (xiT t) := fun F => (pi_tup (h F)).weak fun σ H R => by
  rintro ⟨ρ, fr, Qx, E, t, k⟩
  refine ⟨ρ, fr, _, E, t, fun v s H' ρ' E' q => ?_⟩
  split at q
  · rename_i m hm
    have R1 := E'.front.frz
    rw [hm] at R1
    obtain ⟨v', e, h⟩ := R1.atT; cases e
    obtain ⟨c, vs, rfl, h1, h2⟩ := h.tup_eq
    exact ⟨c, rfl, ⟨vs, SqT.of (R1.hv _ _ h1)⟩, k _ H' ρ' [(.v (.tr (.tup m)), some (.ref c))] m (EOk.back E'.len R1) itx_tup q⟩
  · exact q.elim
def rngX (lo : Int) (n : Nat) : List Dx := (List.range n).map fun k : Nat => .int (lo + (k : Int))
theorem rngX_at {lo : Int} {n i : Nat} {d : Dx} (h : (rngX lo n)[i]? = some d) : i < n ∧ d = .int (lo + i) := by
  unfold rngX at h
  rw [List.getElem?_map] at h
  obtain ⟨k, h1, h2⟩ := Option.map_eq_some_iff.mp h
  obtain ⟨h3, h4⟩ := List.getElem?_eq_some_iff.mp h1
  rw [List.getElem_range] at h4
  rw [List.length_range] at h3
  subst h4
  exact ⟨h3, h2.symm⟩
theorem itx_range {F : Fm} {lo : Int} {n : Nat} : ItX F (Itr lo n) [] (rngX lo n) where
  go := fun P H i d R hd => (rngX_at hd).1
  stop := fun P H i R hi => by unfold rngX at hi; rw [List.length_map, List.length_range] at hi; exact hi
  yld := fun P H i d x H' R hd q => by
    obtain ⟨rfl, rfl⟩ := q
    rw [(rngX_at hd).2]
    exact R.add (IsX.of_int _)
def xiR1 (u : XA) : XI := fun ρ Q => u ρ fun ss ρ' => match ss.map Sv.d with
  | [.int j] => (-(2 ^ 62) ≤ j ∧ j < 2 ^ 62) ∧ Q (rngX 0 j.toNat) ρ'
  | _ => False
theorem xi_range1 (hm : X.mg "range" = none) (ha : XAs X Ex [a] u) (hg : Gl X "range" := by rfl) (hs : starEach [a] X.env = [(false, eval a X.env)] := by rfl) : XIt X Ex tg (.Call (.Name "range" p) [a] [] pos) (xiR1 u) := fun F => (pi_range1 hg hm (ha F) hs).weak fun σ H R => by
  rintro ⟨ρ, fr, Qx, E, t, k⟩
  refine ⟨ρ, fr, _, E, t, fun vs ss H2 ρ2 hl E2 q => ?_⟩
  obtain ⟨R, hs⟩ := E2.many hl
  split at q
  · rename_i j hj
    rw [hj] at hs
    obtain ⟨x, rfl, hx⟩ := all2_1 hs
    cases hx.int_eq
    exact ⟨j, rfl, q.1.1, q.1.2, k _ H2 ρ2 [] _ ⟨E2.len, R⟩ itx_range q.2⟩
  · exact q.elim
end
abbrev XG := Dx → En → (En → Prop) → Prop
def GX (n : Nat) (g : TG) (gx : XG) : Prop := ∀ (F : Fm) (ρ : En) (σ : St) (fr : List Rw) (H : Hp) (d : Dx) (x : V) (Q : St → Hp → Prop) (Qx : En → Prop), EOk F ρ σ ((.v (.tr d), some x) :: fr) H → gx d ρ Qx →
  (∀ σ' H' ρ', EOk F ρ' σ' fr H' → σ'.length = σ.length → (∀ i, n ≤ i → σ'[i]? = σ[i]?) → Qx ρ' → Q σ' H') → g x σ H Q
def gxN (i : Nat) : XG := fun d ρ Q => Q (ρ.set i (.v (.tr d)))
theorem eok_set {F : Fm} {ρ : En} {σ : St} {fr : List Rw} {H : Hp} {s : Sv} {x : V} {i : Nat} (E : EOk F ρ σ ((.v s, some x) :: fr) H) : EOk F (ρ.set i (.v s)) (σ.set i (some x)) fr H := by
  by_cases hi : i < ρ.length
  · refine ⟨by rw [List.length_set, List.length_set]; exact E.len, ?_⟩
    have hz := pull (l := ρ.zip σ) (i := i) (List.getElem?_eq_getElem (by rw [List.length_zip]; have := E.len; omega))
    have R := E.front.perm ((hz.append_right fr).cons _)
    exact (R.perm (.swap _ _ _)).tail.perm ((zip_put E.len hi).append_right fr).symm
  · rw [List.set_eq_of_length_le (by omega), List.set_eq_of_length_le (by have := E.len; omega)]
    exact E.drop
theorem gx_name {n i : Nat} (h : i < n) : GX n (gName i) (gxN i) := fun F ρ σ fr H d x Q Qx E g k => k _ H _ (eok_set E) (List.length_set) (fun j hj => List.getElem?_set_ne (by omega)) g
@[reducible] def gsOf : List Nat → TGs
  | [] => gNil
  | i :: is => gCons (gName i) (gsOf is)
def gxs : List Nat → List Dx → En → (En → Prop) → Prop
  | [], [], ρ, Q => Q ρ
  | i :: is, d :: ds, ρ, Q => gxs is ds (ρ.set i (.v (.tr d))) Q
  | _, _, _, _ => False
def gxT (is : List Nat) : XG := fun d ρ Q => match d with
  | .tup ds => gxs is ds ρ Q
  | _ => False
theorem gxs_ok {n : Nat} {F : Fm} {fr : List Rw} {H : Hp} {Q : St → Hp → Prop} {Qx : En → Prop} : ∀ {is : List Nat} {ds : List Dx} {xs : List V} {ρ : En} {σ : St}, (∀ i ∈ is, i < n) → EOk F ρ σ fr H → All2 (IsX (hid (owns (ρ.zip σ ++ fr)) (F.vis H))) ds xs → gxs is ds ρ Qx →
    (∀ σ' ρ', EOk F ρ' σ' fr H → σ'.length = σ.length → (∀ i, n ≤ i → σ'[i]? = σ[i]?) → Qx ρ' → Q σ' H) → gsOf is xs σ H Q
  | [], [], xs, ρ, σ, _, E, ha, g, k => ⟨ha, k σ ρ E rfl (fun _ _ => rfl) g⟩
  | i :: is, d :: ds, xs, ρ, σ, hi, E, ⟨x, xr, e, h1, h2⟩, g, k => by
    have E1 : EOk F (ρ.set i (.v (.tr d))) (σ.set i (some x)) fr H := eok_set (EOk.back E.len (E.rep.add h1))
    refine ⟨x, xr, e, gxs_ok (fun j hj => hi j (List.mem_cons_of_mem _ hj)) E1 (h2.imp fun a b z => z.to (hid_less fun c hc => ?_)) g fun σ' ρ' E' hl hs q => k σ' ρ' E' (hl.trans List.length_set) (fun j hj => (hs j hj).trans (List.getElem?_set_ne (by have := hi i List.mem_cons_self; omega))) q⟩
    -- what is owned has not grown
    by_cases hlt : i < ρ.length
    · have hp := ((zip_put (s := .v (.tr d)) (v := some x) E.len hlt).append_right fr).flatMap_right ownA
      have hz := ((pull (l := ρ.zip σ) (i := i) (List.getElem?_eq_getElem (by rw [List.length_zip]; have := E.len; omega))).append_right fr).flatMap_right ownA
      refine hz.mem_iff.mpr ?_
      have := hp.mem_iff.mp hc
      rw [List.cons_append, List.flatMap_cons] at this
      rw [List.cons_append, List.flatMap_cons]
      rcases List.mem_append.mp this with z | z
      · cases z
      · exact List.mem_append_right _ z
    · rw [List.set_eq_of_length_le (by omega), List.set_eq_of_length_le (by have := E.len; omega)] at hc
      exact hc
  | [], _ :: _, _, _, _, _, _, _, g, _ => g.elim
  | _ :: _, [], _, _, _, _, _, _, g, _ => g.elim
theorem gxs_len {Q : En → Prop} : ∀ {is : List Nat} {ds : List Dx} {ρ : En}, gxs is ds ρ Q → ds.length = is.length
  | [], [], _, _ => rfl
  | i :: is, d :: ds, ρ, g => congrArg (· + 1) (gxs_len (is := is) (ds := ds) (ρ := ρ.set i (.v (.tr d))) g)
  | [], _ :: _, _, g => g.elim
  | _ :: _, [], _, g => g.elim
theorem gx_tup {K : PySem.W.Frag} {n m : Nat} {is : List Nat} (hm : is.length = m) (h : ∀ i ∈ is, i < n) : GX n (gTup K m (gsOf is)) (gxT is) := fun F ρ σ fr H d x Q Qx E g k => by
  unfold gxT at g
  split at g
  · obtain ⟨R, hx⟩ := E.one
    obtain ⟨a, vs, rfl, h1, h2⟩ := hx.tup_eq
    exact ⟨a, vs, rfl, SqT.of (R.hv _ _ h1), by rw [h2.len, gxs_len g, hm], gxs_ok h E.drop h2 g fun σ' ρ' E' hl hs q => k σ' H ρ' E' hl hs q⟩
  · exact g.elim
end Lf

set_option Elab.async false
set_option linter.all false
set_option maxRecDepth 100000
set_option maxHeartbeats 4000000
namespace Lf
open PySem L2
def xYes : XC := fun ρ Q => Q true ρ
def XCs (X : Cx) (Ex : ExT) (ifs : List Expr) (t : XC) : Prop := ∀ F, [OkF X Ex F] → PCs X ifs (tXc F t)
theorem xcs_nil {X : Cx} {Ex : ExT} : XCs X Ex [] xYes := fun F => (pcs_nil (X := X)).weak fun σ H Q => by
  rintro ⟨ρ, fr, Qx, E, t, k⟩
  exact k true H ρ E t
theorem xcs_one {X : Cx} {Ex : ExT} {c : Expr} {t : XC} (h : XTe X Ex c t) : XCs X Ex [c] t := fun F => pcs_one (h F)
def compX (n : Nat) (gx : XG) (tc : XC) (te : XT) (Q : List Dx → List Sl → Prop) : List Dx → List Sl → List Dx → Prop
  | [], cs, acc => Q acc cs
  | d :: ds, cs, acc => gx d (List.replicate n .un ++ cs) fun ρ1 => tc ρ1 fun b ρ2 => if b = true then te ρ2 fun s ρ3 => compX n gx tc te Q ds (ρ3.drop n) (acc ++ [s.d]) else compX n gx tc te Q ds (ρ2.drop n) acc
def cut : List Nat → En → En
  | [], ρ => ρ
  | j :: js, ρ => cut js (ρ.set j .un)
def caps (outs : List Nat) (ρ : En) : List Sl := outs.map fun j => (ρ[j]?).getD .un
def back : List Nat → List Sl → En → En
  | j :: js, c :: cs, ρ => back js cs (ρ.set j c)
  | _, _, ρ => ρ
def xComp (n : Nat) (outs : List Nat) (ti : XI) (gx : XG) (tc : XC) (te : XT) : XT := fun ρ Q => ti ρ fun ds ρ1 => ds.length ≤ 1000000 ∧ compX n gx tc te (fun acc cs => Q (.ol acc) (back outs cs ρ1)) ds (caps outs ρ1) []
theorem sw {α : Type} {A B C : List α} : (A ++ (B ++ C)).Perm (B ++ (A ++ C)) := by
  rw [← List.append_assoc, ← List.append_assoc]
  exact List.perm_append_comm.append_right C
section
variable {F : Fm} {H : Hp} {σ : St}
abbrev vals (σ : St) (outs : List Nat) : St := outs.map fun j => (σ[j]?).join
theorem caps_set {js : List Nat} {j : Nat} {s : Sl} {ρ : En} (h : j ∉ js) : caps js (ρ.set j s) = caps js ρ := by
  unfold caps
  refine List.map_congr_left fun k hk => ?_
  rw [List.getElem?_set_ne (fun z => h (by rw [z]; exact hk))]
theorem cut_len : ∀ {js : List Nat} {ρ : En}, (cut js ρ).length = ρ.length
  | [], _ => rfl
  | j :: js, ρ => (cut_len (js := js)).trans List.length_set
theorem cut_set : ∀ {js : List Nat} {j : Nat} {s : Sl} {ρ : En}, j ∉ js → cut js (ρ.set j s) = (cut js ρ).set j s
  | [], _, _, _, _ => rfl
  | k :: js, j, s, ρ, h => by
    show cut js ((ρ.set j s).set k .un) = (cut js (ρ.set k .un)).set j s
    rw [List.set_comm _ _ (fun z => h (by rw [z]; exact List.mem_cons_self)), cut_set fun z => h (List.mem_cons_of_mem _ z)]
theorem pullAll : ∀ {outs : List Nat} {ρ : En} {T : List Rw}, outs.Nodup → ρ.length = σ.length → Rep F (ρ.zip σ ++ T) H → Rep F ((caps outs ρ).zip (vals σ outs) ++ ((cut outs ρ).zip σ ++ T)) H
  | [], _, _, _, _, R => R
  | j :: js, ρ, T, hn, hl, R => by
    have hn' := List.nodup_cons.mp hn
    have step : Rep F ((ρ.set j .un).zip σ ++ (((ρ[j]?).getD .un, (σ[j]?).join) :: T)) H := by
      by_cases hj : j < ρ.length
      · have h1 : ρ[j]? = some ρ[j] := List.getElem?_eq_getElem hj
        have h2 : σ[j]? = some (σ[j]'(by omega)) := List.getElem?_eq_getElem (by omega)
        have R1 := R.perm ((zip_pull h1 h2).append_right T)
        have R2 := R1.addU (x := σ[j]'(by omega))
        rw [h1, h2]
        refine R2.perm ?_
        refine (List.Perm.swap _ _ _).trans ?_
        exact (((zip_put' hl hj h2).append_right T).symm.cons _).trans mid.symm
      · rw [List.set_eq_of_length_le (by omega), List.getElem?_eq_none (by omega), List.getElem?_eq_none (by omega)]
        exact (R.addU (x := none)).perm mid.symm
    have := pullAll (outs := js) hn'.2 (by rw [List.length_set]; exact hl) step
    rw [caps_set hn'.1] at this
    show Rep F ((((ρ[j]?).getD .un, (σ[j]?).join) :: (caps js ρ).zip (vals σ js)) ++ ((cut js (ρ.set j .un)).zip σ ++ T)) H
    refine this.perm ?_
    refine List.Perm.trans ?_ (List.Perm.refl _)
    rw [← List.append_assoc]
    exact mid.trans (by rw [List.append_assoc]; exact .refl _)
theorem putAll : ∀ {outs : List Nat} {cs : List Sl} {ρ : En} {T : List Rw}, outs.Nodup → ρ.length = σ.length → cs.length = outs.length → Rep F (cs.zip (vals σ outs) ++ ((cut outs ρ).zip σ ++ T)) H → Rep F ((back outs cs ρ).zip σ ++ T) H
  | [], [], _, _, _, _, _, R => R
  | [], _ :: _, _, _, _, _, h, _ => by simp at h
  | _ :: _, [], _, _, _, _, h, _ => by simp at h
  | j :: js, c :: cs, ρ, T, hn, hl, hc, R => by
    have hn' := List.nodup_cons.mp hn
    refine putAll (outs := js) (cs := cs) (ρ := ρ.set j c) hn'.2 (by rw [List.length_set]; exact hl) (by simpa using hc) ?_
    have R1 : Rep F ((c, (σ[j]?).join) :: (cs.zip (vals σ js) ++ ((cut js (ρ.set j .un)).zip σ ++ T))) H := R
    rw [cut_set hn'.1] at R1 ⊢
    have hcl : (cut js ρ).length = σ.length := cut_len.trans hl
    by_cases hj : j < ρ.length
    · have hjc : j < (cut js ρ).length := by rw [cut_len]; exact hj
      have h2 : σ[j]? = some (σ[j]'(by omega)) := List.getElem?_eq_getElem (by omega)
      rw [h2] at R1
      have p1 := ((zip_put' (s := .un) hcl hjc h2).append_right T)
      have p2 := ((zip_put' (s := c) hcl hjc h2).append_right T)
      have R2 := R1.perm ((List.Perm.append_left _ p1).cons _)
      have R3 := R2.perm ((mid.cons _).trans (.swap _ _ _))
      exact R3.tail.perm (mid.symm.trans (List.Perm.append_left _ p2.symm))
    · have hz : (cut js ρ).length ≤ j := by rw [cut_len]; omega
      rw [List.set_eq_of_length_le hz] at R1 ⊢
      exact R1.tail
theorem Rep.drops : ∀ {A P : List Rw}, Rep F (A ++ P) H → Rep F P H
  | [], _, R => R
  | _ :: _, _, R => Rep.drops R.tail
theorem Rep.addUs {P : List Rw} (R : Rep F P H) : ∀ n, Rep F (List.replicate n (.un, none) ++ P) H
  | 0 => R
  | n + 1 => (Rep.addUs R n).addU
def accR (ds : List Dx) (xs : List V) : List Rw := (ds.zip xs).map fun p => (.v (.tr p.1), some p.2)
theorem Rep.accs : ∀ {ds : List Dx} {xs : List V} {P : List Rw}, ds.length = xs.length → Rep F (accR ds xs ++ P) H → Rep F P H ∧ All2 (IsX (hid (owns P) (F.vis H))) ds xs
  | [], [], P, _, R => ⟨R, rfl⟩
  | [], _ :: _, _, h, _ => by simp at h
  | _ :: _, [], _, h, _ => by simp at h
  | d :: ds, x :: xs, P, h, R => by
    obtain ⟨v, e, hx⟩ := Rep.atT (show Rep F ((.v (.tr d), some x) :: (accR ds xs ++ P)) H from R)
    cases e
    obtain ⟨R1, h1⟩ := Rep.accs (ds := ds) (xs := xs) (by simpa using h) (Rep.tail (show Rep F ((.v (.tr d), some x) :: (accR ds xs ++ P)) H from R))
    refine ⟨R1, x, xs, rfl, hx.to (hid_less fun c hc => ?_), h1⟩
    unfold owns
    rw [List.flatMap_append]
    exact List.mem_append_right _ hc
end
section
variable {X : Cx} {Ex : ExT} {dsc scope : Scope} {tgs N' : List Str} {outs : List Nat} {tg iter elt : Expr} {ifs : List Expr} {pos : Pos} {ti : XI} {g : TG} {gx : XG} {tc : XC} {te : XT}
theorem comp_core {F : Fm} {n : Nat} (hgx : GX n g gx) (hno : outs.Nodup) {tcT : TT} {teT : TE} (htc : ∀ σ H Q, tXc F tc σ H Q → tcT σ H Q) (hte : ∀ σ H Q, tX F te σ H Q → teT σ H Q) {σ : St} {H' : Hp} {Q : VK} {Qx : Sv → En → Prop} {ρ' : En} {fr row : List Rw} {ds : List Dx} {J : It}
    (k : ∀ v s H' ρ', EOk F ρ' σ ((.v s, some v) :: fr) H' → Qx s ρ' → Q v H') (E' : EOk F ρ' σ (row ++ fr) H') (hJ : ItX F J row ds) (q : ds.length ≤ 1000000 ∧ compX n gx tc te (fun acc cs => Qx (.ol acc) (back outs cs ρ')) ds (caps outs ρ') []) :
    ∃ W : Nat → Nat → List V → Hp → Prop, (∃ m, W 0 m [] H') ∧ ∀ i m acc H, W i m acc H →
    (J.stop i H ∧ acc.length ≤ sizeLine ∧ ∀ l, H l = none → Q (.ref l) (upd H l (.lst acc))) ∨
    (J.go i H ∧ acc.length < sizeLine ∧ ∃ N : List V → Hp → Prop, (∀ acc' H', N acc' H' → ∃ m', m' < m ∧ W (i + 1) m' acc' H') ∧ ∀ x H', J.yld i H x H' → g x (pick n outs σ) H' fun σ2 H2 => tcT σ2 H2 fun b H3 =>
      if b = true then teT σ2 H3 fun y H4 => N (acc ++ [y]) H4 else N acc H3) := by
  obtain ⟨hd, q⟩ := q
  have zl := line1
  -- the rows at each turn
  refine ⟨fun i m acc H => m = ds.length - i ∧ i ≤ ds.length ∧ ∃ cs accD, cs.length = outs.length ∧ accD.length = acc.length ∧ acc.length ≤ i ∧ Rep F (cs.zip (vals σ outs) ++ (accR accD acc ++ (row ++ ((cut outs ρ').zip σ ++ fr)))) H ∧
    compX n gx tc te (fun acc cs => Qx (.ol acc) (back outs cs ρ')) (ds.drop i) cs accD, ⟨ds.length, by simp, Nat.zero_le _, caps outs ρ', [], by simp [caps], rfl, Nat.le_refl _, ?_, by simpa using q⟩, ?_⟩
  · have R := pullAll (outs := outs) hno E'.len E'.rep
    refine R.perm (List.Perm.append_left _ ?_)
    exact sw
  rintro i m acc H3 ⟨rfl, hi, cs, accD, hcl, hal, hai, R, hq⟩
  have hrow : Rep F (row ++ (cs.zip (vals σ outs) ++ (accR accD acc ++ ((cut outs ρ').zip σ ++ fr)))) H3 := by
    exact R.perm ((List.Perm.append_left _ sw).trans sw)
  by_cases hlt : i < ds.length
  · right
    have hdi : ds[i]? = some ds[i] := List.getElem?_eq_getElem hlt
    rw [List.drop_eq_getElem_cons hlt] at hq
    refine ⟨hJ.go _ _ i _ hrow hdi, by omega, fun acc' H4 => ∃ m', m' < ds.length - i ∧ (m' = ds.length - (i + 1) ∧ i + 1 ≤ ds.length ∧ ∃ cs accD, cs.length = outs.length ∧ accD.length = acc'.length ∧ acc'.length ≤ i + 1 ∧ Rep F (cs.zip (vals σ outs) ++ (accR accD acc' ++ (row ++ ((cut outs ρ').zip σ ++ fr)))) H4 ∧
      compX n gx tc te (fun acc cs => Qx (.ol acc) (back outs cs ρ')) (ds.drop (i + 1)) cs accD), fun acc' H4 h => h, fun x H4 hy => ?_⟩
    have R4 := hJ.yld _ _ i _ x H4 hrow hdi hy
    have hzip : ∀ (cs : List Sl), cs.length = outs.length → (List.replicate n Sl.un ++ cs).zip (pick n outs σ) = List.replicate n (Sl.un, none) ++ cs.zip (vals σ outs) := fun cs hcs => by
      unfold pick
      rw [List.zip_append (by rw [List.length_replicate, List.length_replicate]), List.zip_replicate]
      simp
    have Ei : EOk F (List.replicate n .un ++ cs) (pick n outs σ) ((.v (.tr ds[i]), some x) :: (accR accD acc ++ (row ++ ((cut outs ρ').zip σ ++ fr)))) H4 := by
      refine ⟨by rw [pick_len, List.length_append, List.length_replicate, hcl], ?_⟩
      rw [hzip cs hcl, List.append_assoc]
      refine Rep.addUs (R4.perm ?_) n
      exact ((sw.trans (List.Perm.append_left _ sw)).cons _).trans mid.symm
    -- how a turn ends
    have fin : ∀ {ρ3 : En} {σ2 : St} {H5 : Hp} {accD' : List Dx} {acc' : List V}, σ2.length = (pick n outs σ).length → (∀ j, n ≤ j → σ2[j]? = (pick n outs σ)[j]?) → EOk F ρ3 σ2 (accR accD' acc' ++ (row ++ ((cut outs ρ').zip σ ++ fr))) H5 → accD'.length = acc'.length → acc'.length ≤ i + 1 →
        compX n gx tc te (fun acc cs => Qx (.ol acc) (back outs cs ρ')) (ds.drop (i + 1)) (ρ3.drop n) accD' →
        ∃ m', m' < ds.length - i ∧ (m' = ds.length - (i + 1) ∧ i + 1 ≤ ds.length ∧ ∃ cs accD, cs.length = outs.length ∧ accD.length = acc'.length ∧ acc'.length ≤ i + 1 ∧ Rep F (cs.zip (vals σ outs) ++ (accR accD acc' ++ (row ++ ((cut outs ρ').zip σ ++ fr)))) H5 ∧
          compX n gx tc te (fun acc cs => Qx (.ol acc) (back outs cs ρ')) (ds.drop (i + 1)) cs accD) := fun {ρ3 σ2 H5 accD' acc'} hl2 hs2 E3 h1 h2 h3 => by
      have hl3 : ρ3.length = n + outs.length := by rw [E3.len, hl2, pick_len]
      refine ⟨ds.length - (i + 1), by omega, rfl, hlt, ρ3.drop n, accD', by rw [List.length_drop, hl3]; omega, h1, h2, ?_, h3⟩
      have hv : σ2.drop n = vals σ outs := by
        apply List.ext_getElem?
        intro j
        rw [List.getElem?_drop, hs2 _ (Nat.le_add_right n j)]
        unfold pick
        rw [List.getElem?_append_right (by rw [List.length_replicate]; omega), List.length_replicate, Nat.add_sub_cancel_left]
      have hz : ρ3.zip σ2 = (ρ3.take n).zip (σ2.take n) ++ (ρ3.drop n).zip (σ2.drop n) := by
        rw [← List.zip_append (by rw [List.length_take, List.length_take, E3.len]), List.take_append_drop, List.take_append_drop]
      have R5 := E3.rep
      rw [hz, hv, List.append_assoc] at R5
      exact Rep.drops R5
    refine hgx F _ _ _ H4 _ x _ _ Ei hq fun σ2 H5 ρ1 E1 hl2 hs2 q1 => htc _ _ _ ⟨ρ1, _, _, E1, q1, fun b H6 ρ2 E2 q2 => ?_⟩
    cases b with
    | false => exact fin hl2 hs2 E2 hal (by omega) q2
    | true =>
      refine hte _ _ _ ⟨ρ2, _, _, E2, q2, fun y s H7 ρ3 E3 q3 => ?_⟩
      refine fin (accD' := accD ++ [s.d]) (acc' := acc ++ [y]) hl2 hs2 ⟨E3.len, ?_⟩ (by rw [List.length_append, List.length_append, hal]; rfl) (by rw [List.length_append]; show acc.length + 1 ≤ _; omega) q3
      have R7 := (EOk.front E3).frz
      have he : accR (accD ++ [s.d]) (acc ++ [y]) = accR accD acc ++ [(.v (.tr s.d), some y)] := by
        unfold accR
        rw [List.zip_append hal, List.map_append]
        rfl
      rw [he, List.append_assoc]
      exact R7.perm (mid.symm.trans (List.Perm.append_left _ mid.symm))
  · left
    have hie : i = ds.length := by omega
    subst hie
    rw [List.drop_length] at hq
    refine ⟨hJ.stop _ _ _ hrow (Nat.le_refl _), by omega, fun l hl => ?_⟩
    have R1 := R.perm (sw.trans (List.Perm.append_left _ sw))
    obtain ⟨R2, ha⟩ := R1.accs hal
    have R3 : Rep F (row ++ ((.v (.ol accD), some (.ref l)) :: (cs.zip (vals σ outs) ++ ((cut outs ρ').zip σ ++ fr)))) (upd H3 l (.lst acc)) := (R2.newL hl ha).perm mid.symm
    have R4 : Rep F (cs.zip (vals σ outs) ++ ((cut outs ρ').zip σ ++ ((.v (.ol accD), some (.ref l)) :: fr))) (upd H3 l (.lst acc)) := R3.drops.perm (mid.symm.trans (List.Perm.append_left _ mid.symm))
    have hbl : ∀ {js : List Nat} {cs : List Sl} {ρ : En}, (back js cs ρ).length = ρ.length := by
      intro js
      induction js with
      | nil => intro cs ρ; cases cs <;> rfl
      | cons j js ih => intro cs ρ; cases cs with
        | nil => rfl
        | cons c cs => exact (ih (cs := cs) (ρ := ρ.set j c)).trans List.length_set
    exact k _ (.ol accD) _ (back outs cs ρ') ⟨hbl.trans E'.len, putAll hno E'.len hcl R4⟩ hq
theorem tComp_x {F : Fm} {n : Nat} (hgx : GX n g gx) (hno : outs.Nodup) : ∀ σ H Q, tX F (xComp n outs ti gx tc te) σ H Q → tComp n outs (tXi F ti) g (tXc F tc) (tX F te) σ H Q := by
  rintro σ H Q ⟨ρ, fr, Qx, E, t, k⟩
  exact ⟨ρ, fr, _, E, t, fun J H' ρ' row ds E' hJ q => comp_core hgx hno (fun _ _ _ z => z) (fun _ _ _ z => z) k E' hJ q⟩
end
end Lf

set_option Elab.async false
set_option linter.all false
set_option maxRecDepth 100000
set_option maxHeartbeats 4000000
namespace L2
open PySem
theorem PS.weak {X : Cx} {e : Stmt} {t u : TS} (h : PS X e t) (w : ∀ D σ H, u D σ H → t D σ H) : PS X e u := fun pins s σ H D I q => h pins s σ H D I (w D σ H q)
theorem PSs.weak {X : Cx} {e : List Stmt} {t u : TS} (h : PSs X e t) (w : ∀ D σ H, u D σ H → t D σ H) : PSs X e u := fun pins s σ H D I q => h pins s σ H D I (w D σ H q)
end L2
namespace Lf
open PySem L2
theorem xe_comp {X : Cx} {Ex : ExT} {dsc scope : Scope} {tgs N' N : List Str} {outs : List Nat} {tg iter elt : Expr} {ifs : List Expr} {pos : Pos} {ti : XI} {g : TG} {gx : XG} {tc : XC} {te : XT} (S : CompScope dsc scope N tgs outs N') (hi : XIt X Ex tg iter ti) (hg : ∀ cl C s H ex, PG (cxComp X N' scope cl C s H ex) tg g) (hgx : GX tgs.length g gx) (hgt : Tgt tgs.length g)
    (hcs : ∀ cl C s H ex, XCs (cxComp X N' scope cl C s H ex) noEx ifs tc) (he : ∀ cl C s H ex, XE (cxComp X N' scope cl C s H ex) noEx elt te) (hno : outs.Nodup := by decide) (hN0 : X.N = N := by rfl) (hsc : X.env.scope = dsc := by rfl) (hc : X.calm = true := by rfl) (hs : ∀ x, foldedSetIterable iter X.env x = pure x := by intro _; rfl) :
    XE X Ex (.ListComp elt [⟨tg, iter, ifs, 0⟩] scope pos) (xComp tgs.length outs ti gx tc te) := fun F =>
  (pe_comp S (hi F) hg hgt (fun a b c d e => hcs a b c d e F) (fun a b c d e => he a b c d e F) hN0 hsc hc hs).weak (tComp_x hgx hno)
structure XD where
  nx : En → Prop
  rt : Sv → En → Prop
  bk : En → Prop
  ct : En → Prop
abbrev XS := En → XD → Prop
structure DOk (F : Fm) (n : Nat) (fr : List Rw) (D : Ends) (d : XD) : Prop where
  nx : ∀ σ' H' ρ', σ'.length = n → EOk F ρ' σ' fr H' → d.nx ρ' → D.nx σ' H'
  rt : ∀ v s σ' H' ρ', σ'.length = n → EOk F ρ' σ' ((.v s, some v) :: fr) H' → d.rt s ρ' → D.rt v H'
  bk : ∀ σ' H' ρ', σ'.length = n → EOk F ρ' σ' fr H' → d.bk ρ' → D.bk σ' H'
  ct : ∀ σ' H' ρ', σ'.length = n → EOk F ρ' σ' fr H' → d.ct ρ' → D.ct σ' H'
def tXS (F : Fm) (G : XS) : TS := fun D σ H => ∃ ρ fr d, EOk F ρ σ fr H ∧ G ρ d ∧ DOk F σ.length fr D d
def XSt (X : Cx) (Ex : ExT) (st : Stmt) (G : XS) : Prop := ∀ F, [OkF X Ex F] → PS X st (tXS F G)
def XSs (X : Cx) (Ex : ExT) (st : List Stmt) (G : XS) : Prop := ∀ F, [OkF X Ex F] → PSs X st (tXS F G)
def xNext : XS := fun ρ D => D.nx ρ
def xSeq (G K : XS) : XS := fun ρ D => G ρ { D with nx := fun ρ' => K ρ' D }
def xSet (i : Nat) (t : XT) : XS := fun ρ D => t ρ fun s ρ' => D.nx (ρ'.set i (.v s))
def xAsg (t : XT) (gx : XG) : XS := fun ρ D => t ρ fun s ρ' => gx s.d ρ' D.nx
def xExp (t : XT) : XS := fun ρ D => t ρ fun _ ρ' => D.nx ρ'
def xRet (t : XT) : XS := fun ρ D => t ρ fun s ρ' => D.rt s ρ'
def xIf (c : XC) (G K : XS) : XS := fun ρ D => c ρ fun b ρ' => if b = true then G ρ' D else K ρ' D
def forX (gx : XG) (G : XS) (D : XD) : List Dx → En → Prop
  | [], ρ => D.nx ρ
  | d :: ds, ρ => gx d ρ fun ρ1 => G ρ1 { D with nx := forX gx G D ds, ct := forX gx G D ds, bk := D.nx }
def xFor (ti : XI) (gx : XG) (G : XS) : XS := fun ρ D => ti ρ fun ds ρ' => forX gx G D ds ρ'
section
variable {X : Cx} {Ex : ExT} {st : Stmt} {rest : List Stmt} {G K : XS} {e c tg iter : Expr} {t : XT} {tc : XC} {pos : Pos} {i : Nat}
theorem xss_nil : XSs X Ex [] xNext := fun F => (pss_nil (X := X)).weak fun D σ H => by
  rintro ⟨ρ, fr, d, E, q, k⟩
  exact k.nx σ H ρ rfl E q
theorem xss_cons (h : XSt X Ex st G) (h' : XSs X Ex rest K) : XSs X Ex (st :: rest) (xSeq G K) := fun F => (pss_cons (h F) (h' F)).weak fun D σ H => by
  rintro ⟨ρ, fr, d, E, q, k⟩
  exact ⟨ρ, fr, _, E, q, ⟨fun σ' H' ρ' hl E' q' => ⟨ρ', fr, d, E', q', by rw [hl]; exact k⟩, k.rt, k.bk, k.ct⟩⟩
theorem xss_one (h : XSt X Ex st G) : XSs X Ex [st] G := fun F => pss_one (h F)
theorem xs_setP (h : ∀ F, [OkF X Ex F] → PS X st (tAsg (tX F t) (gName i))) : XSt X Ex st (xSet i t) := fun F => (h F).weak fun D σ H => by
  rintro ⟨ρ, fr, d, E, q, k⟩
  exact ⟨ρ, fr, _, E, q, fun v s H' ρ' E' q' => k.nx _ H' _ List.length_set (eok_set E') q'⟩
theorem xs_asgP {n : Nat} {g : TG} {gx : XG} (hgx : GX n g gx) (h : ∀ F, [OkF X Ex F] → PS X st (tAsg (tX F t) g)) : XSt X Ex st (xAsg t gx) := fun F => (h F).weak fun D σ H => by
  rintro ⟨ρ, fr, d, E, q, k⟩
  exact ⟨ρ, fr, _, E, q, fun v s H' ρ' E' q' => hgx F ρ' σ fr H' s.d v _ _ (EOk.back E'.len E'.front.frz) q' fun σ' H2 ρ2 E2 hl _ q2 => k.nx σ' H2 ρ2 hl E2 q2⟩
theorem xs_expr (he : XE X Ex e t) (hs : swapsWith e none pos.line X.env = pure false := by rfl) : XSt X Ex (.Expr e pos) (xExp t) := fun F => (ps_expr (he F) hs).weak fun D σ H => by
  rintro ⟨ρ, fr, d, E, q, k⟩
  exact ⟨ρ, fr, _, E, q, fun v s H' ρ' E' q' => k.nx σ H' ρ' rfl E'.drop q'⟩
theorem xs_ret (he : XE X Ex e t) : XSt X Ex (.Return (some e) pos) (xRet t) := fun F => (ps_ret (he F)).weak fun D σ H => by
  rintro ⟨ρ, fr, d, E, q, k⟩
  exact ⟨ρ, fr, _, E, q, fun v s H' ρ' E' q' => k.rt v s σ H' ρ' rfl E' q'⟩
theorem xs_if {a b : List Stmt} (hc : XTe X Ex c tc) (ha : XSs X Ex a G) (hb : XSs X Ex b K) : XSt X Ex (.If c a b pos) (xIf tc G K) := fun F => (ps_if (hc F) (ha F) (hb F)).weak fun D σ H => by
  rintro ⟨ρ, fr, d, E, q, k⟩
  refine ⟨ρ, fr, _, E, q, fun b H' ρ' E' q' => ?_⟩
  cases b with
  | true => exact ⟨ρ', fr, d, E', q', k⟩
  | false => exact ⟨ρ', fr, d, E', q', k⟩
def xNo : XS := fun _ _ => False
theorem xs_no : XSt X Ex st xNo := fun F => (ps_never (X := X)).weak fun D σ H => by
  rintro ⟨ρ, fr, d, E, q, k⟩
  exact q
theorem for_core {F : Fm} {n : Nat} {g : TG} {gx : XG} (hgx : GX n g gx) {tb : TS} (htb : ∀ D σ H, tXS F G D σ H → tb D σ H) {D : Ends} {d : XD} {σ : St} {H' : Hp} {ρ' : En} {fr row : List Rw} {ds : List Dx} {J : It} (k : DOk F σ.length fr D d) (E' : EOk F ρ' σ (row ++ fr) H') (hJ : ItX F J row ds) (q' : forX gx G d ds ρ') :
    ∃ W : Nat → Nat → St → Hp → Prop, (∃ m, W 0 m σ H') ∧ ∀ i m σ H, W i m σ H →
    (J.stop i H ∧ D.nx σ H) ∨ (J.go i H ∧ ∃ N : St → Hp → Prop, (∀ σ' H', N σ' H' → ∃ m', m' < m ∧ W (i + 1) m' σ' H') ∧ ∀ x H', J.yld i H x H' → g x σ H' fun σ2 H2 => tb { D with nx := N, ct := N, bk := D.nx } σ2 H2) := by
  refine ⟨fun i m σ1 H1 => m = ds.length - i ∧ i ≤ ds.length ∧ σ1.length = σ.length ∧ ∃ ρ1, EOk F ρ1 σ1 (row ++ fr) H1 ∧ forX gx G d (ds.drop i) ρ1, ⟨ds.length, by simp, Nat.zero_le _, rfl, ρ', E', by simpa using q'⟩, ?_⟩
  rintro i m σ1 H1 ⟨rfl, hi, hl, ρ1, E1, q1⟩
  have hrow : Rep F (row ++ (ρ1.zip σ1 ++ fr)) H1 := E1.rep.perm sw
  by_cases hlt : i < ds.length
  · right
    have hdi : ds[i]? = some ds[i] := List.getElem?_eq_getElem hlt
    rw [List.drop_eq_getElem_cons hlt] at q1
    refine ⟨hJ.go _ _ i _ hrow hdi, fun σ2 H2 => ∃ m', m' < ds.length - i ∧ (m' = ds.length - (i + 1) ∧ i + 1 ≤ ds.length ∧ σ2.length = σ.length ∧ ∃ ρ1, EOk F ρ1 σ2 (row ++ fr) H2 ∧ forX gx G d (ds.drop (i + 1)) ρ1), fun _ _ h => h, fun x H2 hy => ?_⟩
    have R2 := hJ.yld _ _ i _ x H2 hrow hdi hy
    have E2 : EOk F ρ1 σ1 ((.v (.tr ds[i]), some x) :: (row ++ fr)) H2 := ⟨E1.len, R2.perm ((sw.cons _).trans mid.symm)⟩
    refine hgx F ρ1 σ1 _ H2 _ x _ _ E2 q1 fun σ2 H3 ρ2 E3 hl2 _ q2 => ?_
    have nxt : ∀ σ' H' ρ', σ'.length = σ2.length → EOk F ρ' σ' (row ++ fr) H' → forX gx G d (ds.drop (i + 1)) ρ' → ∃ m', m' < ds.length - i ∧ (m' = ds.length - (i + 1) ∧ i + 1 ≤ ds.length ∧ σ'.length = σ.length ∧ ∃ ρ1, EOk F ρ1 σ' (row ++ fr) H' ∧ forX gx G d (ds.drop (i + 1)) ρ1) := fun σ' H' ρ' h1 h2 h3 =>
      ⟨ds.length - (i + 1), by omega, rfl, hlt, by rw [h1, hl2, hl], ρ', h2, h3⟩
    have ends : ∀ {σ' : St} {H' : Hp} {ρ' : En} {fr2 : List Rw}, EOk F ρ' σ' (row ++ fr2) H' → EOk F ρ' σ' fr2 H' := fun h => ⟨h.len, Rep.drops (A := row) (h.rep.perm sw)⟩
    refine htb _ _ _ ⟨ρ2, row ++ fr, _, E3, q2, ⟨nxt, fun v s σ' H' ρ' h1 h2 h3 => k.rt v s σ' H' ρ' (by rw [h1, hl2, hl]) ?_ h3, fun σ' H' ρ' h1 h2 h3 => k.nx σ' H' ρ' (by rw [h1, hl2, hl]) (ends h2) h3, nxt⟩⟩
    exact ends ⟨h2.len, h2.rep.perm (List.Perm.append_left _ mid.symm)⟩
  · left
    have hie : i = ds.length := by omega
    subst hie
    rw [List.drop_length] at q1
    exact ⟨hJ.stop _ _ _ hrow (Nat.le_refl _), k.nx σ1 H1 ρ1 hl ⟨E1.len, Rep.drops (A := row) hrow⟩ q1⟩
theorem tFor_x {F : Fm} {ti : XI} {n : Nat} {g : TG} {gx : XG} (hgx : GX n g gx) : ∀ D σ H, tXS F (xFor ti gx G) D σ H → tFor (tXi F ti) g (tXS F G) D σ H := by
  rintro D σ H ⟨ρ, fr, d, E, q, k⟩
  exact ⟨ρ, fr, _, E, q, fun J H' ρ' row ds E' hJ q' => for_core hgx (fun _ _ _ z => z) k E' hJ q'⟩
theorem xs_for {body : List Stmt} {ti : XI} {n : Nat} {g : TG} {gx : XG} (hp : PassesOwn (model X.prog X.w) X.A X.env X.xe) (hc : X.calm = true) (hi : XIt X Ex tg iter ti) (hg : PG X tg g) (hgx : GX n g gx) (hb : XSs X Ex body G) (hs : ∀ x, foldedSetIterable iter X.env x = pure x := by intro _; rfl) : XSt X Ex (.For tg iter body [] pos) (xFor ti gx G) := fun F =>
  (ps_for hp hc (hi F) hg (hb F) hs).weak (tFor_x hgx)
theorem xs_of (h : ∀ F, [OkF X Ex F] → PS X st (tXS F G)) : XSt X Ex st G := h
end
end Lf

set_option Elab.async false
set_option linter.all false
set_option maxRecDepth 100000
set_option maxHeartbeats 4000000
namespace Lf
open PySem L2
section
variable {F : Fm} {ρ : En} {σ : St} {fr : List Rw} {H : Hp} {i : Nat}
theorem lent_put {l : List Dx} {f : List Dx → Sl} (E : EOk F ρ σ fr H) (h : (ρ[i]?).bind lent = some (l, f)) : ∃ p ws, σ[i]? = some (some (.ref p)) ∧ H p = some (.lst ws) ∧ All2 (IsX (hid (owns (ρ.zip σ ++ fr)) (F.vis H))) l ws ∧
    ∀ l' ws', All2 (IsX (hid (owns (ρ.zip σ ++ fr)) (F.vis H))) l' ws' → EOk F (ρ.set i (f l')) σ fr (upd H p (.lst ws')) := by
  obtain ⟨sl, h3, h4⟩ := Option.bind_eq_some_iff.mp h
  obtain ⟨v, hv, hi, R⟩ := eok_slot E h3
  obtain ⟨p, ws, rfl, h5, h6, h7, h8⟩ := lent_row h4 R
  have hO : (owns (ρ.zip σ ++ fr)).Perm (owns ((sl, some (V.ref p)) :: ((ρ.zip σ).eraseIdx i ++ fr))) := ((zip_pull h3 hv).append_right fr).flatMap_right _
  rw [owns_some h6] at hO
  refine ⟨p, ws, hv, h5, h7.imp fun _ _ z => z.to (hid_less fun a ha => hO.mem_iff.mp ha), fun l' ws' hl' => ?_⟩
  obtain ⟨k1, k2, k3⟩ := h8 l'
  exact eok_put E.len hi hv (R.put h6 k1 k2 (k3 upd_same (hl'.imp fun _ _ z => (z.to (hid_less fun a ha => hO.mem_iff.mpr ha)).to hid_put)))
theorem dict_put {l : List (Key × Dx)} (E : EOk F ρ σ fr H) (h : ρ[i]? = some (.v (.od l))) : ∃ p ws, σ[i]? = some (some (.ref p)) ∧ H p = some (.dK ws) ∧ All2 (KvX (hid (owns (ρ.zip σ ++ fr)) (F.vis H))) l ws ∧
    ∀ l' ws', All2 (KvX (hid (owns (ρ.zip σ ++ fr)) (F.vis H))) l' ws' → EOk F (ρ.set i (.v (.od l'))) σ fr (upd H p (.dK ws')) := by
  obtain ⟨v, hv, hi, R⟩ := eok_slot E h
  obtain ⟨p, ws, rfl, h5, h7⟩ := R.atD
  have hO : (owns (ρ.zip σ ++ fr)).Perm (owns ((.v (.od l), some (V.ref p)) :: ((ρ.zip σ).eraseIdx i ++ fr))) := ((zip_pull h hv).append_right fr).flatMap_right _
  rw [owns_some (a := p) rfl] at hO
  refine ⟨p, ws, hv, h5, h7.imp fun _ _ z => z.to (hid_less fun a ha => hO.mem_iff.mp ha), fun l' ws' hl' => ?_⟩
  exact eok_put E.len hi hv (R.putD (hl'.imp fun _ _ z => z.to (hid_less fun a ha => hO.mem_iff.mpr ha)))
theorem lent_at {l : List Dx} {f : List Dx → Sl} (E : EOk F ρ σ fr H) (h : (ρ[i]?).bind lent = some (l, f)) : ∃ p ws, σ[i]? = some (some (.ref p)) ∧ H p = some (.lst ws) := by
  obtain ⟨p, ws, h1, h2, _⟩ := lent_put E h
  exact ⟨p, ws, h1, h2⟩
end
def xApp (i : Nat) (t : XT) : XS := fun ρ D => ((ρ[i]?).bind lent).isSome = true ∧ t ρ fun s ρ' => match (ρ'[i]?).bind lent with
  | some (l, f) => l.length < 1000000 ∧ D.nx (ρ'.set i (f (l ++ [s.d])))
  | none => False
def xExt (i : Nat) (t : XT) : XS := fun ρ D => ((ρ[i]?).bind lent).isSome = true ∧ t ρ fun s ρ' => match (ρ'[i]?).bind lent, s.d with
  | some (l, f), .lst m => l.length + m.length ≤ 1000000 ∧ D.nx (ρ'.set i (f (l ++ m)))
  | _, _ => False
def xPop (i : Nat) : XT := fun ρ Q => match (ρ[i]?).bind lent with
  | some (l, f) => (match l.getLast? with | some d => Q (.tr d) (ρ.set i (f l.dropLast)) | none => False)
  | none => False
def putX (l : List (Key × Dx)) (k : Key) (d : Dx) : List (Key × Dx) := if (l.any fun kv => decide (kv.1 = k)) = true then l.map (fun kv => if kv.1 = k then (kv.1, d) else kv) else l ++ [(k, d)]
def xDPut (i : Nat) (tk tv : XT) : XS := fun ρ D => tv ρ fun s ρ1 => (∃ l, ρ1[i]? = some (.v (.od l))) ∧ tk ρ1 fun k ρ2 => match ρ2[i]?, keyD k.d with
  | some (.v (.od l)), some key => l.length < 1000000 ∧ D.nx (ρ2.set i (.v (.od (putX l key s.d))))
  | _, _ => False
theorem putX_put {G : Hp} {l : List (Key × Dx)} {ws : List (Key × V)} {k : Key} {d : Dx} {v : V} (h : All2 (KvX G) l ws) (hd : IsX G d v) : All2 (KvX G) (putX l k d) (putK ws k v) := by
  have any : ∀ {l : List (Key × Dx)} {ws : List (Key × V)}, All2 (KvX G) l ws → (l.any fun kv => decide (kv.1 = k)) = (ws.any fun kv => decide (kv.1 = k)) := by
    intro l
    induction l with
    | nil => intro ws h; rw [show ws = [] from h]; rfl
    | cons p l ih =>
      intro ws h
      obtain ⟨w, wr, rfl, ⟨h1, _⟩, h3⟩ := h
      rw [List.any_cons, List.any_cons, ih h3, h1]
  have mp : ∀ {l : List (Key × Dx)} {ws : List (Key × V)}, All2 (KvX G) l ws → All2 (KvX G) (l.map fun kv => if kv.1 = k then (kv.1, d) else kv) (ws.map fun kv => if kv.1 = k then (kv.1, v) else kv) := by
    intro l
    induction l with
    | nil => intro ws h; rw [show ws = [] from h]; rfl
    | cons p l ih =>
      intro ws h
      obtain ⟨w, wr, rfl, ⟨h1, h2⟩, h3⟩ := h
      refine ⟨_, _, rfl, ?_, ih h3⟩
      by_cases e : p.1 = k
      · show KvX G (if p.1 = k then (p.1, d) else p) (if w.1 = k then (w.1, v) else w)
        rw [if_pos e, if_pos (h1 ▸ e)]; exact ⟨h1, hd⟩
      · show KvX G (if p.1 = k then (p.1, d) else p) (if w.1 = k then (w.1, v) else w)
        rw [if_neg e, if_neg (h1 ▸ e)]; exact ⟨h1, h2⟩
  unfold putX putK
  rw [any h]
  split
  · exact mp h
  · exact h.snoc ⟨rfl, hd⟩
section
variable {X : Cx} {Ex : ExT} {st : Stmt} {i : Nat} {t ti te tk tv : XT} {F : Fm} {K : PySem.W.Frag}
theorem tApp_x : ∀ D σ H, tXS F (xApp i t) D σ H → tDrop (tBM K "list" rAppend (tVar i) (tCons (tX F t) tNil)) D σ H := by
  rintro D σ H ⟨ρ, fr, d, E, ⟨q0, q⟩, k⟩
  obtain ⟨⟨l0, f0⟩, h0⟩ := Option.isSome_iff_exists.mp q0
  obtain ⟨p, ws, hv, hp⟩ := lent_at E h0
  refine ⟨.ref p, hv, .inl ⟨rfl, ws, SqL.of hp⟩, ρ, fr, _, E, q, fun y s H' ρ' E' q' => ?_⟩
  split at q'
  · rename_i l f hb
    obtain ⟨R, hx⟩ := E'.one
    obtain ⟨p', ws', hv', hp', hl, hput⟩ := lent_put E'.drop hb
    rw [hv] at hv'
    cases hv'
    exact ⟨p, ws', y, rfl, rfl, hp', by rw [hl.len]; have := line1; omega, k.nx σ _ _ rfl (hput _ _ (hl.snoc hx)) q'.2⟩
  · exact q'.elim
theorem all2_last {α β : Type} {g : α → β → Prop} {l : List α} {m : List β} {d : α} (h : All2 g l m) (e : l.getLast? = some d) : ∃ v, m[m.length - 1]? = some v ∧ g d v := by
  rw [List.getLast?_eq_getElem?] at e
  obtain ⟨v, h1, h2⟩ := h.at e
  exact ⟨v, by rw [h.len]; exact h1, h2⟩
theorem all2_dl {α β : Type} {g : α → β → Prop} {l : List α} {m : List β} (h : All2 g l m) : All2 g l.dropLast m.dropLast := by
  rw [List.dropLast_eq_take, List.dropLast_eq_take, h.len]
  exact h.take _
theorem tPop_x : ∀ σ H Q, tX F (xPop i) σ H Q → tBM0 K "list" rPop (tVar i) σ H Q := by
  rintro σ H Q ⟨ρ, fr, Qx, E, q, k⟩
  unfold xPop at q
  split at q
  · rename_i l f hb
    obtain ⟨p, ws, hv, hp, hl, hput⟩ := lent_put E hb
    split at q
    · rename_i d hd
      obtain ⟨v, h1, h2⟩ := all2_last hl hd
      refine ⟨.ref p, hv, .inl ⟨rfl, ws, SqL.of hp⟩, p, ws, v, rfl, rfl, hp, h1, k v (.tr d) _ _ ?_ q⟩
      have E2 := hput _ _ (all2_dl hl)
      refine EOk.back E2.len (E2.rep.add (h2.to ?_))
      obtain ⟨sl, h3, h4⟩ := Option.bind_eq_some_iff.mp hb
      obtain ⟨v', hv', hi, R⟩ := eok_slot E h3
      rw [hv] at hv'; cases hv'
      obtain ⟨_, _, e', _, h6, _, h8⟩ := lent_row h4 R
      cases e'
      have hO : (owns (ρ.zip σ ++ fr)).Perm (owns ((sl, some (V.ref p)) :: ((ρ.zip σ).eraseIdx i ++ fr))) := ((zip_pull h3 hv).append_right fr).flatMap_right _
      have hO2 : (owns ((ρ.set i (f l.dropLast)).zip σ ++ fr)).Perm (owns ((f l.dropLast, some (V.ref p)) :: ((ρ.zip σ).eraseIdx i ++ fr))) := ((zip_put' E.len hi hv).append_right fr).flatMap_right _
      rw [owns_some h6] at hO
      rw [owns_some (h8 _).1] at hO2
      intro b o hb
      have h9 := hid_less (O' := p :: owns ((ρ.zip σ).eraseIdx i ++ fr)) (fun a ha => hO.mem_iff.mpr ha) _ _ hb
      exact hid_less (fun a ha => hO2.mem_iff.mp ha) _ _ (hid_put (o := .lst ws.dropLast) _ _ h9)
    · exact q.elim
  · exact q.elim
theorem tDPut_x : ∀ D σ H, tXS F (xDPut i tk tv) D σ H → sDPut (tVar i) (tX F tk) (tX F tv) D σ H := by
  rintro D σ H ⟨ρ, fr, d, E, q, k⟩
  refine ⟨ρ, fr, _, E, q, fun y s H' ρ' E' q' => ?_⟩
  obtain ⟨⟨l0, h0⟩, q'⟩ := q'
  obtain ⟨p, ws, hv, hp, _⟩ := dict_put E' h0
  refine ⟨.ref p, hv, ρ', _, _, E', q', fun z s2 H2 ρ2 E2 q2 => ?_⟩
  split at q2
  · rename_i l key hb hk
    obtain ⟨R, hx1, hx2⟩ := E2.two
    obtain ⟨p', ws', hv', hp', hl, hput⟩ := dict_put (E2.drop.drop) hb
    rw [hv] at hv'
    cases hv'
    cases keyD_is hx2 hk
    exact ⟨p, _, rfl, DPut.k hp' (by rw [hl.len]; have := line1; omega), k.nx σ _ _ rfl (hput _ _ (putX_put hl hx1)) q2.2⟩
  · exact q2.elim
end
def xWhile (c : XC) (G : XS) : XS := fun ρ D => ∃ W : Nat → En → Prop, (∃ m, W m ρ) ∧ ∀ m ρ, W m ρ → c ρ fun b ρ1 => if b = true then ∃ N : En → Prop, (∀ ρ', N ρ' → ∃ m', m' < m ∧ W m' ρ') ∧ G ρ1 { D with nx := N, ct := N, bk := D.nx } else D.nx ρ1
theorem xs_while {X : Cx} {Ex : ExT} {c : Expr} {body : List Stmt} {pos : Pos} {tc : XC} {G : XS} (hp : PassesOwn (model X.prog X.w) X.A X.env X.xe) (hc : XTe X Ex c tc) (hb : XSs X Ex body G) : XSt X Ex (.While c body [] pos) (xWhile tc G) := fun F => (ps_while hp (hc F) (hb F)).weak fun D σ H => by
  rintro ⟨ρ, fr, d, E, ⟨W, ⟨m0, w0⟩, turn⟩, k⟩
  refine ⟨fun m σ1 H1 => σ1.length = σ.length ∧ ∃ ρ1, EOk F ρ1 σ1 fr H1 ∧ W m ρ1, ⟨m0, rfl, ρ, E, w0⟩, ?_⟩
  rintro m σ1 H1 ⟨hl, ρ1, E1, w1⟩
  refine ⟨ρ1, fr, _, E1, turn m ρ1 w1, fun b H2 ρ2 E2 q2 => ?_⟩
  cases b with
  | false => exact k.nx σ1 H2 ρ2 hl E2 q2
  | true =>
    obtain ⟨N, hN, q2⟩ := q2
    have nxt : ∀ σ' H' ρ', σ'.length = σ1.length → EOk F ρ' σ' fr H' → N ρ' → ∃ m', m' < m ∧ σ'.length = σ.length ∧ ∃ ρ1, EOk F ρ1 σ' fr H' ∧ W m' ρ1 := fun σ' H' ρ' h1 h2 h3 => by
      obtain ⟨m', h4, h5⟩ := hN ρ' h3
      exact ⟨m', h4, by rw [h1, hl], ρ', h2, h5⟩
    exact ⟨fun σ' H' => ∃ m', m' < m ∧ σ'.length = σ.length ∧ ∃ ρ1, EOk F ρ1 σ' fr H' ∧ W m' ρ1, fun σ' H' h => h, ρ2, fr, _, E2, q2, ⟨nxt, fun v s σ' H' ρ' h1 h2 h3 => k.rt v s σ' H' ρ' (by rw [h1, hl]) h2 h3, fun σ' H' ρ' h1 h2 h3 => k.nx σ' H' ρ' (by rw [h1, hl]) h2 h3, nxt⟩⟩
def startX (N : List Str) (ds : List Dx) : En := ds.map (fun d => .v (.tr d)) ++ List.replicate (N.length - ds.length) .un
abbrev retX (Q : Sv → Prop) : XD := ⟨fun _ => Q (.tr .non), fun s _ => Q s, fun _ => False, fun _ => False⟩
theorem rep_args {F : Fm} {H : Hp} (R0 : Rep F [] H) {m : Nat} : ∀ {ds : List Dx} {vs : List V}, All2 (IsX (F.vis H)) ds vs → Rep F ((ds.map (fun d => Sl.v (.tr d)) ++ List.replicate m Sl.un).zip (vs.map some ++ List.replicate m none)) H
  | [], _, h => by
    rw [show _ = [] from h]
    simp only [List.map_nil, List.nil_append]
    rw [List.zip_replicate, Nat.min_self]
    have := R0.addUs m
    simpa using this
  | d :: ds, _, ⟨v, vr, e, h1, h2⟩ => by
    subst e
    have R := rep_args (m := m) R0 h2
    simp only [List.map_cons, List.cons_append, List.zip_cons_cons]
    refine R.add (h1.to fun b o hb => hid_some.mpr ⟨fun z => ?_, hb⟩)
    obtain ⟨r, hr, hb⟩ := List.mem_flatMap.mp z
    have : ∀ {ds : List Dx} {vs : List (Option V)} {r : Rw}, r ∈ ((ds.map (fun d => Sl.v (.tr d)) ++ List.replicate m Sl.un).zip vs) → ownA r = [] := by
      intro ds vs r hr
      obtain ⟨a, b⟩ := r
      have := (List.of_mem_zip hr).1
      rcases List.mem_append.mp this with h | h
      · obtain ⟨d, _, rfl⟩ := List.mem_map.mp h; rfl
      · rw [(List.mem_replicate.mp h).2]; rfl
    rw [this hr] at hb
    cases hb
theorem res_ok {H Hs : Hp} {sub : Same Hs H} {nb : ∀ b ∈ ([] : List Addr), Hs b = none} {ib : ∀ b ∈ ([] : List Addr), ∃ o, H b = some o} {P : List Rw} {H' : Hp} {s : Sv} {v : V} (R : Rep ⟨H, Hs, [], sub, nb, ib⟩ ((.v s, some v) :: P) H') : Same H H' ∧ ResOk Hs H H' s v := by
  refine ⟨fun b o h => R.kp b o h (by simp), ?_⟩
  match s with
  | .tr d =>
    obtain ⟨v', e, h⟩ := R.atT
    cases e
    exact h.to hid_sub
  | .ol l =>
    obtain ⟨a, vs, e, h1, h2⟩ := R.atL
    cases e
    exact ⟨a, vs, rfl, R.fr _ List.mem_cons_self a (List.mem_singleton.mpr rfl), h1, h2.imp fun _ _ z => z.to (hid_less fun c hc => by rw [List.mem_singleton.mp hc]; exact List.mem_cons_self)⟩
  | .od l =>
    obtain ⟨a, vs, e, h1, h2⟩ := R.atD
    cases e
    exact ⟨a, vs, rfl, R.fr _ List.mem_cons_self a (List.mem_singleton.mpr rfl), h1, h2.imp fun _ _ z => z.to (hid_less fun c hc => by rw [List.mem_singleton.mp hc]; exact List.mem_cons_self)⟩
  | .ow o =>
    have hn := R.nd
    rw [owns_cons] at hn
    obtain ⟨x, e, h⟩ := R.ok _ List.mem_cons_self
    cases e
    refine ⟨(List.nodup_append.mp hn).1, fun a ha => R.fr _ List.mem_cons_self a ha, OwOk.mono (.of (hid_less fun c hc => ?_)) o v (fun _ _ => rfl) h⟩
    rw [owns_cons]
    exact List.mem_append_left _ hc
theorem fn_x {P : Program} {w : World} {K : PySem.W.Frag} {mg : Str → Option Value} {base : Heap} {x : Str} {st : Stmt} {f : Addr} {fd : FuncData} {N ps : List Str} {k : Nat} {g : GC} (Fn : Fun K x x st f fd) (S : FnScope N ps (defScope st)) (hlen : ∀ ds Q, g ds Q → ds.length = ps.length) (hN : ps.length ≤ N.length)
    (hbody : ∀ (cdv : Value) (A : Around) (outer : List Env) (s : Shared) (H : Hp) (E : XK), Room k (A.deeper (PyProof.Rows.envOfC x (defScope st) s.heap.objs.size f cdv)) →
      ∃ G, XSs (cxOf CX0 P w K mg base N x (defScope st) f cdv A outer s H E).nox noEx (defBody st) G ∧ ∀ ds Q, g ds Q → G (startX N ds) (retX Q)) : FnOk P w K mg base CX0 (k + 1) f fd ps (spX g) := by
  refine Fn.ok S (fun vs H Q E h => ?_) (fun cdv A outer s H vs Q E hr h => ?_)
  · obtain ⟨Hs, ds, Qx, h1, h2, h3, _⟩ := h
    rw [h2.len]
    exact hlen ds Qx h3
  obtain ⟨Hs, ds, Qx, h1, h2, h3, h4⟩ := h
  obtain ⟨G, hG, hq⟩ := hbody cdv A outer s H E hr
  have hl := hlen ds Qx h3
  refine ⟨_, hG ⟨H, Hs, [], h1, by simp, by simp⟩, startX N ds, [], retX Qx, ⟨?_, ?_⟩, hq ds Qx h3, ⟨fun σ' H' ρ' _ E' q => ?_, fun v s σ' H' ρ' _ E' q => ?_, fun _ _ _ _ _ q => q.elim, fun _ _ _ _ _ q => q.elim⟩⟩
  · unfold startX L2.start
    simp only [List.length_append, List.length_map, List.length_replicate]
    rw [h2.len]
  · rw [List.append_nil]
    have hv : (Fm.vis ⟨H, Hs, [], h1, by simp, by simp⟩ H) = ext Hs H H := rfl
    have R0 : Rep ⟨H, Hs, [], h1, by simp, by simp⟩ [] H := ⟨List.nodup_nil, fun r hr => by simp at hr, fun r hr => by simp at hr, fun b o h _ => h, fun b hb => by simp at hb⟩
    unfold startX L2.start
    rw [h2.len]
    refine rep_args R0 (h2.imp fun _ _ z => z.to fun b o hb => ?_)
    cases q : H b with
    | none => rw [h1 _ _ hb] at q; cases q
    | some u => exact (ext_old q).trans hb
  · have R := E'.rep.add (d := .non) (v := .non) IsX.of_non
    obtain ⟨e1, e2⟩ := res_ok R
    exact h4 _ _ _ e1 e2 q
  · obtain ⟨e1, e2⟩ := res_ok E'.front
    exact h4 _ _ _ e1 e2 q
end Lf

set_option Elab.async false
set_option linter.all false
set_option maxRecDepth 100000
set_option maxHeartbeats 4000000
namespace L2
open PySem
def sFrz' (t : TS) : TS := fun D σ H => ∃ a kvs, H a = some (.dK kvs) ∧ ∀ o,
  t ⟨fun σ' H' => H' a = some (.frz o (.dK kvs)) ∧ D.nx σ' (upd H' a (.dK kvs)), fun v H' => H' a = some (.frz o (.dK kvs)) ∧ D.rt v (upd H' a (.dK kvs)), fun σ' H' => H' a = some (.frz o (.dK kvs)) ∧ D.bk σ' (upd H' a (.dK kvs)), fun σ' H' => H' a = some (.frz o (.dK kvs)) ∧ D.ct σ' (upd H' a (.dK kvs))⟩ σ (upd H a (.frz o (.dK kvs)))
theorem ps_frz' {X : Cx} {st : Stmt} {t : TS} (h : PS X st t) : PS X st (sFrz' t) := by
  intro pins s σ H D I ⟨a, kvs, ha, q⟩
  exact ps_frz h pins s σ H D I ⟨a, kvs, ha, fun o v z => (by have := I.base.frzs a o v z; rw [ha] at this; cases this), q⟩
theorem PS.or {X : Cx} {st : Stmt} {t u : TS} (h : PS X st t) (h' : PS X st u) : PS X st (fun D σ H => t D σ H ∨ u D σ H) := fun pins s σ H D I q => q.elim (h pins s σ H D I) (h' pins s σ H D I)
end L2
namespace Lf
open PySem L2
section
variable {F : Fm} {P : List Rw} {H H' : Hp} {a : Addr} {kvs : List (Key × V)} {o : Obj}
theorem nem {b a : Addr} {B : List Addr} (h : b ∈ B) (h' : a ∉ B) : b ≠ a := fun z => h' (by rw [← z]; exact h)
def Fm.fz (F : Fm) (a : Addr) (o : Obj) (kvs : List (Key × V)) (ha : a ∉ F.B) : Fm where
  H0 := upd F.H0 a (.frz o (.dK kvs))
  Hs := upd F.Hs a (.frz o (.dK kvs))
  B := F.B
  sub := fun b u h => by
    by_cases e : b = a
    · subst e; rw [upd_same] at h ⊢; exact h
    · rw [upd_ne e] at h ⊢; exact F.sub _ _ h
  nb := fun b hb => by rw [upd_ne (nem hb ha)]; exact F.nb b hb
  ib := fun b hb => by rw [upd_ne (nem hb ha)]; exact F.ib b hb
theorem vis_B (h : F.vis H a = some (.dK kvs)) : a ∉ F.B := fun hB => by
  obtain ⟨u, hu⟩ := F.ib a hB
  have := (ext_old hu).symm.trans h
  rw [F.nb a hB] at this
  cases this
theorem vis_ne {F : Fm} {ha : a ∉ F.B} {b : Addr} {H H' : Hp} (hb : b ≠ a) (e : H' b = H b) : (F.fz a o kvs ha).vis H' b = F.vis H b := by
  have e1 : (F.fz a o kvs ha).H0 b = F.H0 b := upd_ne hb
  have e2 : (F.fz a o kvs ha).Hs b = F.Hs b := upd_ne hb
  show ext _ _ _ b = ext _ _ _ b
  unfold ext
  rw [e1, e2, e]
theorem Rep.fzD (R : Rep F P H) (hv : F.vis H a = some (.dK kvs)) (hno : a ∉ owns P) (ha : a ∉ F.B) : Rep (F.fz a o kvs ha) P (upd H a (.frz o (.dK kvs))) := by
  refine ⟨R.nd, fun r hr => (R.ok r hr).mono (fun b u hb => ?_) fun b hb => upd_ne fun z => hno (z ▸ own_mem hr hb), fun r hr b hb => ?_, fun b u h1 h2 => ?_, fun b hb => ?_⟩
  · have hb' := hid_some.mp hb
    by_cases e : b = a
    · subst e
      rw [hv] at hb'
      cases hb'.2
      refine .inr ⟨o, kvs, .inl ⟨rfl, hid_some.mpr ⟨hb'.1, ?_⟩⟩⟩
      exact (ext_old (show (F.fz b o kvs ha).H0 b = some (.frz o (.dK kvs)) from upd_same)).trans upd_same
    · exact .inl (hid_some.mpr ⟨hb'.1, by rw [vis_ne e (upd_ne e)]; exact hb'.2⟩)
  · have hba : b ≠ a := fun z => hno (z ▸ own_mem hr hb)
    have := R.fr r hr b hb
    unfold FrOk at this ⊢
    split at this <;> simp_all [Fm.fz, upd_ne]
  · by_cases e : b = a
    · subst e
      have : some (HO.frz o (.dK kvs)) = some u := upd_same.symm.trans h1
      rw [upd_same]; exact this
    · rw [upd_ne e]
      exact R.kp b u ((upd_ne e).symm.trans h1) h2
  · obtain ⟨u, hu⟩ := R.lv b hb
    exact ⟨u, by rw [upd_ne (nem hb ha)]; exact hu⟩
theorem Rep.thD {ha : a ∉ F.B} (R : Rep (F.fz a o kvs ha) P H) (hv : F.H0 a = none ∨ (F.H0 a = some (.dK kvs) ∧ F.Hs a = some (.dK kvs))) : H a = some (.frz o (.dK kvs)) ∧ Rep F P (upd H a (.dK kvs)) := by
  have hk : H a = some (.frz o (.dK kvs)) := R.kp a _ upd_same ha
  have hno : a ∉ owns P := fun z => by
    obtain ⟨r, hr, e⟩ := List.mem_flatMap.mp z
    have := R.fr r hr a e
    rcases this.or with this | this
    · exact ha this
    · have h2 : some (HO.frz o (.dK kvs)) = none := upd_same.symm.trans this
      cases h2
  refine ⟨hk, R.nd, fun r hr => (R.ok r hr).mono (fun b u hb => ?_) fun b hb => upd_ne fun z => hno (z ▸ own_mem hr hb), fun r hr b hb => ?_, fun b u h1 h2 => ?_, fun b hb => ?_⟩
  · have hb' := hid_some.mp hb
    by_cases e : b = a
    · subst e
      have hu : (F.fz b o kvs ha).vis H b = some (.frz o (.dK kvs)) := (ext_old (show (F.fz b o kvs ha).H0 b = some (.frz o (.dK kvs)) from upd_same)).trans upd_same
      rw [hu] at hb'
      cases hb'.2
      refine .inr ⟨o, kvs, .inr ⟨rfl, hid_some.mpr ⟨hb'.1, ?_⟩⟩⟩
      rcases hv with q | ⟨q1, q2⟩
      · exact (ext_new q).trans (by rw [upd_same]; rfl)
      · exact (ext_old q1).trans q2
    · exact .inl (hid_some.mpr ⟨hb'.1, by rw [← vis_ne (F := F) (o := o) (kvs := kvs) (ha := ha) e (upd_ne (o := .dK kvs) e).symm]; exact hb'.2⟩)
  · have hba : b ≠ a := fun z => hno (z ▸ own_mem hr hb)
    have := R.fr r hr b hb
    unfold FrOk at this ⊢
    split at this <;> simp_all [Fm.fz, upd_ne]
  · by_cases e : b = a
    · subst e
      rcases hv with q | ⟨q1, q2⟩
      · rw [q] at h1; cases h1
      · rw [q1] at h1; rw [upd_same]; exact h1
    · rw [upd_ne e]
      exact R.kp b u ((upd_ne e).trans h1) h2
  · obtain ⟨u, hu⟩ := R.lv b hb
    exact ⟨u, by rw [upd_ne (nem hb ha)]; exact hu⟩
end
def keyX : Key → Dx
  | .inl i => .int i
  | .inr x => .str x
theorem keyX_is {H : Hp} (k : Key) : IsX H (keyX k) (kV k) := by cases k <;> simp only [keyX, kV, IsX]
def keysX (l : List (Key × Dx)) : List Dx := l.map fun p => keyX p.1
theorem keysX_len {l : List (Key × Dx)} : (keysX l).length = l.length := List.length_map _
theorem itx_keys {F : Fm} {a : Addr} {o : Obj} {kvs : List (Key × V)} {l : List (Key × Dx)} {G : Hp} (h : ∀ P H, Rep F P H → H a = some (.frz o (.dK kvs))) (hl : All2 (KvX G) l kvs) : ItX F (Itd a o kvs) [] (keysX l) where
  go := fun P H i d R hd => ⟨h _ _ R, by have := (List.getElem?_eq_some_iff.mp hd).1; rw [keysX_len] at this; rw [hl.len]; exact this⟩
  stop := fun P H i R hi => ⟨h _ _ R, by rw [keysX_len] at hi; rw [hl.len]; exact hi⟩
  yld := fun P H i d x H' R hd q => by
    obtain ⟨rfl, kv, q1, rfl⟩ := q
    obtain ⟨p, h1, h2⟩ := hl.get q1
    unfold keysX at hd
    rw [List.getElem?_map, h1] at hd
    cases hd
    show Rep F ((Sl.v (Sv.tr (keyX p.1)), some (kV kv.1)) :: ([] ++ P)) H'
    rw [h2.1]
    exact R.add (keyX_is _)
def tXSe (G : XS) : TS := fun D σ H => ∃ F, tXS F G D σ H
theorem XSs.ex {X : Cx} {st : List Stmt} {G : XS} (h : XSs X noEx st G) : PSs X st (tXSe G) := fun pins s σ H D I ⟨F, q⟩ => h F pins s σ H D I q
def xForK (i : Nat) (gx : XG) (G : XS) : XS := fun ρ D => match ρ[i]? with
  | some (.v s) => (match s.d with | .dic l => forX gx G D (keysX l) (ρ.set i (.v (.tr s.d))) | _ => False)
  | _ => False
theorem slot_dict {F : Fm} {ρ : En} {σ : St} {fr : List Rw} {H : Hp} {i : Nat} {s : Sv} {l : List (Key × Dx)} (E : EOk F ρ σ fr H) (h : ρ[i]? = some (.v s)) (hs : s.d = .dic l) :
    ∃ a ws, σ[i]? = some (some (.ref a)) ∧ EOk F (ρ.set i (.v (.tr s.d))) σ fr H ∧ Rd (hid (owns ((ρ.set i (.v (.tr s.d))).zip σ ++ fr)) (F.vis H)) a (.dK ws) ∧ All2 (KvX (hid (owns ((ρ.set i (.v (.tr s.d))).zip σ ++ fr)) (F.vis H))) l ws := by
  obtain ⟨v, hv, hi, R⟩ := eok_slot E h
  have R2 := R.frz
  have E2 := eok_put E.len hi hv R2
  obtain ⟨w, e, hx⟩ := R2.atT
  subst e
  rw [hs] at hx
  have hO : (owns ((ρ.set i (.v (.tr s.d))).zip σ ++ fr)).Perm (owns ((.v (.tr s.d), some w) :: ((ρ.zip σ).eraseIdx i ++ fr))) := ((zip_put' E.len hi hv).append_right fr).flatMap_right _
  rw [owns_none rfl] at hO
  have hx2 := hx.to (hid_less fun a ha => hO.mem_iff.mp ha)
  obtain ⟨a, ws, rfl, h1, h2⟩ := hx2.dic_eq
  exact ⟨a, ws, hv, E2, h1, h2⟩
theorem vis_or {F : Fm} {P : List Rw} {H : Hp} {a : Addr} {kvs : List (Key × V)} (R : Rep F P H) (h : F.vis H a = some (.dK kvs)) : F.H0 a = none ∨ (F.H0 a = some (.dK kvs) ∧ F.Hs a = some (.dK kvs)) := by
  cases q : F.H0 a with
  | none => exact .inl rfl
  | some u =>
    have h1 : F.Hs a = some (.dK kvs) := (ext_old q).symm.trans h
    have h2 := F.sub _ _ h1
    rw [q] at h2
    exact .inr ⟨h2, h1⟩
theorem frz_vis {F : Fm} {H : Hp} {a : Addr} {o : Obj} {kvs : List (Key × V)} (h : F.vis H a = some (.frz o (.dK kvs))) : ∀ P H, Rep F P H → H a = some (.frz o (.dK kvs)) := fun P H2 R => by
  cases q : F.H0 a with
  | none =>
    have h1 := (ext_new q).symm.trans h
    rw [nf_some h1] at h1
    cases h1
  | some u =>
    have h1 : F.Hs a = some (.frz o (.dK kvs)) := (ext_old q).symm.trans h
    exact R.kp a _ (F.sub _ _ h1) fun hB => by rw [F.nb a hB] at h1; cases h1
section
variable {X : Cx} {Ex : ExT} {st : Stmt} {i n : Nat} {g : TG} {gx : XG} {G : XS} {outs : List Nat} {tc : XC} {te : XT}
theorem forK_x (hgx : GX n g gx) {F : Fm} : ∀ D σ H, tXS F (xForK i gx G) D σ H → tFor (iKeys (tVar i)) g (tXSe G) D σ H ∨ sFrz' (tFor (iKeys (tVar i)) g (tXSe G)) D σ H := by
  rintro D σ H ⟨ρ, fr, d, E, q, k⟩
  unfold xForK at q
  split at q
  · rename_i s hs
    split at q
    · rename_i l hl
      obtain ⟨a, ws, hv, E2, hr, hk⟩ := slot_dict E hs hl
      rw [hl] at E2 hr hk
      rw [← hl] at E2
      rcases hr with hr | ⟨o, hr⟩
      · have hr' := hid_some.mp hr
        have hB := vis_B hr'.2
        have hor := vis_or E2.rep hr'.2
        refine .inr ⟨a, ws, E2.rep.vis _ _ hr'.2, fun o => ⟨.ref a, hv, a, o, ws, rfl, upd_same, ?_⟩⟩
        have E3 : EOk (F.fz a o ws hB) (ρ.set i (.v (.tr s.d))) σ ([] ++ fr) (upd H a (.frz o (.dK ws))) := ⟨E2.len, E2.rep.fzD hr'.2 (by rw [hl]; exact hr'.1) hB⟩
        refine for_core (F := F.fz a o ws hB) hgx (tb := tXSe G) (fun _ _ _ z => ⟨_, z⟩) (d := d) ⟨fun σ' H' ρ' h1 h2 h3 => ?_, fun v s σ' H' ρ' h1 h2 h3 => ?_, fun σ' H' ρ' h1 h2 h3 => ?_, fun σ' H' ρ' h1 h2 h3 => ?_⟩ E3 (itx_keys (fun P H R => R.kp a _ upd_same hB) hk) q
        · obtain ⟨e1, e2⟩ := h2.rep.thD hor; exact ⟨e1, k.nx σ' _ ρ' h1 ⟨h2.len, e2⟩ h3⟩
        · obtain ⟨e1, e2⟩ := h2.rep.thD hor; exact ⟨e1, k.rt v s σ' _ ρ' h1 ⟨h2.len, e2⟩ h3⟩
        · obtain ⟨e1, e2⟩ := h2.rep.thD hor; exact ⟨e1, k.bk σ' _ ρ' h1 ⟨h2.len, e2⟩ h3⟩
        · obtain ⟨e1, e2⟩ := h2.rep.thD hor; exact ⟨e1, k.ct σ' _ ρ' h1 ⟨h2.len, e2⟩ h3⟩
      · have hr' := hid_some.mp hr
        refine .inl ⟨.ref a, hv, a, o, ws, rfl, E2.rep.vis _ _ hr'.2, ?_⟩
        exact for_core (F := F) hgx (tb := tXSe G) (fun _ _ _ z => ⟨_, z⟩) k (row := []) E2 (itx_keys (frz_vis hr'.2) hk) q
    · exact q.elim
  · exact q.elim
theorem xs_forK {x : Str} {px pos : Pos} {tg : Expr} {body : List Stmt} (hp : PassesOwn (model X.prog X.w) X.A X.env X.xe) (hc : X.calm = true) (hv : PE X (.Name x px) (tVar i)) (hg : PG X tg g) (hgx : GX n g gx) (hb : XSs X noEx body G) (hs : ∀ y, foldedSetIterable (.Name x px) X.env y = pure y := by intro _; rfl) : XSt X Ex (.For tg (.Name x px) body [] pos) (xForK i gx G) := fun F =>
  (PS.or (ps_for hp hc (pi_keys hv) hg hb.ex hs) (ps_frz' (ps_for hp hc (pi_keys hv) hg hb.ex hs))).weak (forK_x hgx)
end
end Lf

set_option Elab.async false
set_option linter.all false
set_option maxRecDepth 100000
set_option maxHeartbeats 4000000
namespace Lf
open PySem L2
def xChain (g g' : G2) (ta tb tc : XT) : XT := fun ρ Q => ta ρ fun a ρ1 => tb ρ1 fun b ρ2 => g a.d b.d fun s => match s with
  | .tr (.bl k) => if k = true then tc ρ2 fun c ρ3 => g' b.d c.d fun s' => Q s' ρ3 else Q (.tr (.bl false)) ρ2
  | _ => False
theorem tChain_x {F : Fm} {r r' : R2} {g g' : G2} {ta tb tc : XT} (hx : OpX r g) (hx' : OpX r' g') : ∀ σ H Q, tX F (xChain g g' ta tb tc) σ H Q → tChain r r' (tX F ta) (tX F tb) (tX F tc) σ H Q := by
  rintro σ H Q ⟨ρ, fr, Qx, E, t, k⟩
  refine ⟨ρ, fr, _, E, t, fun v s H' ρ' E' t' => ⟨ρ', _, _, E', t', fun w s2 H2 ρ2 E2 t2 => ?_⟩⟩
  obtain ⟨R, h1, h2⟩ := E2.two
  have E2b : EOk F ρ2 σ ((.v s2, some w) :: fr) H2 := ⟨E2.len, ((E2.rep.perm (List.Perm.append_left _ (.swap _ _ _))).perm mid).tail.perm (.refl _)⟩
  have E2c : EOk F ρ2 σ ((.v (.tr s2.d), some w) :: fr) H2 := EOk.back E2.len (E2b.front.frz)
  obtain ⟨Rb, hb⟩ := E2c.one
  have h1b : IsX (hid (owns (ρ2.zip σ ++ (.v (.tr s2.d), some w) :: fr)) (F.vis H2)) s.d v := h1.to (hid_less fun c hc => by
    have : (owns ((.v (.tr s2.d), some w) :: (ρ2.zip σ ++ fr))).Perm (owns (ρ2.zip σ ++ (.v (.tr s2.d), some w) :: fr)) := mid.symm.flatMap_right _
    have := this.mem_iff.mpr hc
    rw [owns_none rfl] at this
    exact this)
  have h2b : IsX (hid (owns (ρ2.zip σ ++ (.v (.tr s2.d), some w) :: fr)) (F.vis H2)) s2.d w := hb.to (hid_less fun c hc => by
    have : (owns ((.v (.tr s2.d), some w) :: (ρ2.zip σ ++ fr))).Perm (owns (ρ2.zip σ ++ (.v (.tr s2.d), some w) :: fr)) := mid.symm.flatMap_right _
    have := this.mem_iff.mpr hc
    rw [owns_none rfl] at this
    exact this)
  refine hx F (ρ2.zip σ ++ (.v (.tr s2.d), some w) :: fr) H2 s.d s2.d v w _ _ E2c.rep h1b h2b t2 fun z s3 H3 R3 q => ?_
  split at q
  · rename_i kb
    obtain ⟨z', e, hz⟩ := R3.atT
    cases e
    cases hz.bl_eq
    refine ⟨kb, rfl, ?_⟩
    have E3 : EOk F ρ2 σ ((.v (.tr s2.d), some w) :: fr) H3 := ⟨E2.len, R3.tail⟩
    cases kb with
    | true =>
      refine ⟨ρ2, _, _, E3, q, fun u s4 H4 ρ4 E4 q4 => ?_⟩
      obtain ⟨R5, h5, h6⟩ := E4.two
      exact hx' F _ H4 s2.d s4.d w u Q (fun z => Qx z ρ4) R5 h5 h6 q4 fun v' s' H' R' q => k v' s' H' ρ4 (EOk.back E4.len R') q
    | false => exact k _ _ H3 ρ2 (EOk.back E2.len (E3.drop.rep.add (IsX.of_bl _))) q
  · exact q.elim
section
variable {X : Cx} {Ex : ExT} {a b c e : Expr} {pos : Pos} {r r' : R2} {g g' : G2} {ta tb tc te : XT} {op op' : CmpOp}
theorem xe_chain (ho : OpR X (compareOp op) r) (hx : OpX r g) (ho' : OpR X (compareOp op') r') (hx' : OpX r' g') (ha : XE X Ex a ta) (hb : XE X Ex b tb) (hc : XE X Ex c tc) (hm : lastMarks [op, op'] [b, c] = false := by with_unfolding_all rfl) : XE X Ex (.Compare a [op, op'] [b, c] pos) (xChain g g' ta tb tc) := fun F => (pe_chain ho ho' (ha F) (hb F) (hc F) hm).weak (tChain_x hx hx')
theorem xt_chain (ho : OpR X (compareOp op) r) (hx : OpX r g) (ho' : OpR X (compareOp op') r') (hx' : OpX r' g') (ha : XE X Ex a ta) (hb : XE X Ex b tb) (hc : XE X Ex c tc) (hm : lastMarks [op, op'] [b, c] = false := by with_unfolding_all rfl) : XTe X Ex (.Compare a [op, op'] [b, c] pos) (xB (xChain g g' ta tb tc)) := fun F => (pt_chain ho ho' (ha F) (hb F) (hc F) hm).weak (tTest_x (tChain_x hx hx'))
end
abbrev XO := En → (Option Int → En → Prop) → Prop
def tXo (F : Fm) (t : XO) : TO := fun σ H Q => ∃ ρ fr Qx, EOk F ρ σ fr H ∧ t ρ Qx ∧ ∀ b H' ρ', EOk F ρ' σ fr H' → Qx b ρ' → Q b H'
def XOp (X : Cx) (Ex : ExT) (e : Option Expr) (t : XO) : Prop := ∀ F, [OkF X Ex F] → PO X e (tXo F t)
def xoN : XO := fun ρ Q => Q none ρ
def xoS (t : XT) : XO := fun ρ Q => t ρ fun s ρ' => match s.d with
  | .int i => Q (some i) ρ'
  | _ => False
theorem xo_none {X : Cx} {Ex : ExT} : XOp X Ex none xoN := fun F _ pins s σ H Q I h => by
  obtain ⟨ρ, fr, Qx, E, t, k⟩ := h
  exact po_none pins s σ H Q I (k none H ρ E t)
theorem xo_some {X : Cx} {Ex : ExT} {e : Expr} {t : XT} (h : XE X Ex e t) : XOp X Ex (some e) (xoS t) := fun F _ pins s σ H Q I hq => by
  refine po_some (h F) pins s σ H Q I ?_
  obtain ⟨ρ, fr, Qx, E, t, k⟩ := hq
  refine ⟨ρ, fr, _, E, t, fun v s H' ρ' E' q => ?_⟩
  split at q
  · rename_i i hi
    obtain ⟨R, hx⟩ := E'.one
    rw [hi] at hx
    cases hx.int_eq
    exact ⟨i, rfl, k (some i) H' ρ' E'.drop q⟩
  · exact q.elim
def cutX {α : Type} (xs : List α) (lo hi : Option Int) : List α := (xs.drop (HT.sIx xs.length 0 lo)).take (HT.sIx xs.length xs.length hi - HT.sIx xs.length 0 lo)
def slX (a : Dx) (lo hi : Option Int) (Q : Sv → Prop) : Prop := match a with
  | .lst l => Q (.ol (cutX l lo hi))
  | .str z => z.length ≤ 1000000 ∧ Q (.tr (.str (Txt.slice z lo hi)))
  | _ => False
def xSl (t : XT) (lo hi : XO) : XT := fun ρ Q => t ρ fun a ρ1 => lo ρ1 fun l ρ2 => hi ρ2 fun h ρ3 => slX a.d l h fun s => Q s ρ3
theorem xe_slice {X : Cx} {Ex : ExT} {e : Expr} {lo hi : Option Expr} {p2 pos : Pos} {t : XT} {tl th : XO} (K : PySem.W.Frag) (he : XE X Ex e t) (hl : XOp X Ex lo tl) (hh : XOp X Ex hi th) (h : X.K = K := by rfl) : XE X Ex (.Subscript e (.Slice lo hi none p2) pos) (xSl t tl th) := fun F =>
  (pe_slice (SlR.or (sl_listK K h) sl_str) (he F) (hl F) (hh F)).weak fun σ H Q => by
    rintro ⟨ρ, fr, Qx, E, t, k⟩
    refine ⟨ρ, fr, _, E, t, fun v s H' ρ' E' q => ⟨ρ', _, _, E', q, fun l H2 ρ2 E2 q2 => ⟨ρ2, _, _, E2, q2, fun u H3 ρ3 E3 q3 => ?_⟩⟩⟩
    obtain ⟨R, hx⟩ := E3.one
    unfold slX at q3
    split at q3
    · rename_i m hm
      rw [hm] at hx
      obtain ⟨a, vs, rfl, h1, h2⟩ := hx.lst_eq
      refine .inl ⟨a, vs, rfl, SqL.of (R.hv _ _ h1), fun p hp => k _ _ _ ρ3 (EOk.back E3.len (R.newL hp ?_)) q3⟩
      unfold cutV cutX
      rw [h2.len]
      exact (h2.drop _).take _
    · rename_i z hz
      rw [hz] at hx
      cases hx.str_eq
      exact .inr ⟨z, rfl, by have := line1; omega, k _ _ H3 ρ3 (EOk.back E3.len (R.add (IsX.of_str _))) q3.2⟩
    · exact q3.elim
def xRevL (t : XT) : XT := fun ρ Q => t ρ fun s ρ' => match s.d with
  | .lst l => Q (.ol l.reverse) ρ'
  | _ => False
theorem xe_revL {X : Cx} {Ex : ExT} {e : Expr} {t : XT} {k : Nat} {p1 p2 p3 pos : Pos} (he : XE X Ex e t) : XE X Ex (.Subscript e (.Slice none none (some (.UnaryOp .USub (.Constant (.int 1) k p1) p2)) p3) pos) (xRevL t) := fun F => (pe_revL (he F)).weak fun σ H Q => by
  rintro ⟨ρ, fr, Qx, E, t, k⟩
  refine ⟨ρ, fr, _, E, t, fun v s H' ρ' E' q => ?_⟩
  split at q
  · rename_i m hm
    obtain ⟨R, hx⟩ := E'.one
    rw [hm] at hx
    obtain ⟨a, vs, rfl, h1, h2⟩ := hx.lst_eq
    exact ⟨a, vs, rfl, SqL.of (R.hv _ _ h1), fun p hp => k _ _ _ ρ' (EOk.back E'.len (R.newL hp h2.rev)) q⟩
  · exact q.elim
theorem sc_flat {d : Dx} {v : V} (h : scV d = some v) : flatV v = true := by
  cases d <;> simp only [scV, Option.some.injEq] at h <;> first | (subst h; rfl) | cases h
def allX : GC
  | [.lst l], Q => (∃ bs : List Bool, l = bs.map Dx.bl ∧ Q (.tr (.bl (bs.all id))))
  | _, _ => False
theorem bls_are {G : Hp} : ∀ {bs : List Bool} {vs : List V}, All2 (IsX G) (bs.map Dx.bl) vs → vs = bs.map V.bl
  | [], _, h => h
  | b :: bs, _, ⟨v, vr, e, h1, h2⟩ => by rw [e, h1.bl_eq, bls_are h2]; rfl
theorem ints_are {G : Hp} : ∀ {bs : List Int} {vs : List V}, All2 (IsX G) (bs.map Dx.int) vs → vs = bs.map V.int
  | [], _, h => h
  | b :: bs, _, ⟨v, vr, e, h1, h2⟩ => by rw [e, h1.int_eq, ints_are h2]; rfl
theorem cx_all {K : PySem.W.Frag} : CallX (rAllL K) allX := by
  intro F P H ds xs Q Qx R hs g k
  unfold allX at g
  split at g
  · obtain ⟨bs, rfl, g⟩ := g
    obtain ⟨x, rfl, hx⟩ := all2_1 hs
    obtain ⟨a, vs, rfl, h1, h2⟩ := hx.lst_eq
    have := bls_are h2
    subst this
    exact ⟨a, bs, rfl, SqL.of (R.hv _ _ h1), k _ _ H (R.add (IsX.of_bl _)) g⟩
  · exact g.elim
theorem call_allA {X : Cx} (K : PySem.W.Frag) (hc : X.calm = true) (h : X.K = K := by rfl) : CallR X (.builtin "all") (rAllL K) := by subst h; exact call_allL hc
def max2X : GC
  | [.int i, .int j], Q => Q (.tr (.int (if j > i then j else i)))
  | _, _ => False
def min2X : GC
  | [.int i, .int j], Q => Q (.tr (.int (if j < i then j else i)))
  | _, _ => False
theorem cx_max2 : CallX (fun xs H Q => ∃ i j, xs = [.int i, .int j] ∧ Q (.int (if j > i then j else i)) H) max2X := by
  intro F P H ds xs Q Qx R hs g k
  unfold max2X at g
  split at g
  · obtain ⟨x, y, rfl, hx, hy⟩ := all2_2 hs
    cases hx.int_eq; cases hy.int_eq
    exact ⟨_, _, rfl, k _ _ H (R.add (IsX.of_int _)) g⟩
  · exact g.elim
theorem cx_min2 : CallX (fun xs H Q => ∃ i j, xs = [.int i, .int j] ∧ Q (.int (if j < i then j else i)) H) min2X := by
  intro F P H ds xs Q Qx R hs g k
  unfold min2X at g
  split at g
  · obtain ⟨x, y, rfl, hx, hy⟩ := all2_2 hs
    cases hx.int_eq; cases hy.int_eq
    exact ⟨_, _, rfl, k _ _ H (R.add (IsX.of_int _)) g⟩
  · exact g.elim
def maxLX : GC
  | [.lst l], Q => (∃ ns : List Int, l = ns.map Dx.int ∧ ns ≠ [] ∧ ∀ M, M ∈ ns → (∀ a ∈ ns, a ≤ M) → Q (.tr (.int M)))
  | _, _ => False
theorem cx_maxL {K : PySem.W.Frag} : CallX (rMaxL K) maxLX := by
  intro F P H ds xs Q Qx R hs g k
  unfold maxLX at g
  split at g
  · obtain ⟨bs, rfl, g1, g⟩ := g
    obtain ⟨x, rfl, hx⟩ := all2_1 hs
    obtain ⟨a, vs, rfl, h1, h2⟩ := hx.lst_eq
    have := ints_are h2
    subst this
    exact ⟨a, bs, rfl, SqL.of (R.hv _ _ h1), g1, fun M h3 h4 => k _ _ H (R.add (IsX.of_int _)) (g M h3 h4)⟩
  · exact g.elim
theorem call_maxA {X : Cx} (K : PySem.W.Frag) (hc : X.calm = true) (h : X.K = K := by rfl) : CallR X (.builtin "max") (rMaxL K) := by subst h; exact call_maxR hc
theorem setC_x {F : Fm} {ti : XI} {n i : Nat} {g : TG} {gx : XG} {outs : List Nat} {tc : XC} {te : XT} (hgx : GX n g gx) (hno : outs.Nodup) : ∀ D σ H, tXS F (xSet i (xComp n outs ti gx tc te)) D σ H → tAsg (tComp n outs (tXi F ti) g (tXc F tc) (tX F te)) (gName i) D σ H := by
  rintro D σ H ⟨ρ, fr, d, E, q, k⟩
  exact tComp_x hgx hno σ H _ ⟨ρ, fr, _, E, q, fun v s H' ρ' E' q' => k.nx _ H' _ List.length_set (eok_set E') q'⟩
end Lf

set_option Elab.async false
set_option linter.all false
set_option maxRecDepth 100000
set_option maxHeartbeats 4000000
namespace Lf
open PySem L2
def startB (N : List Str) (l : List Dx) (ds : List Dx) : En := .bw l :: (ds.map (fun d => .v (.tr d)) ++ List.replicate (N.length - (ds.length + 1)) .un)
def lentEnd (Q : Dx → List Dx → Prop) (d : Dx) (ρ : En) : Prop := match (ρ[0]? : Option Sl) with
  | some (Sl.bw l) => Q d l
  | _ => False
abbrev retB (Q : Dx → List Dx → Prop) : XD := ⟨fun ρ => lentEnd Q .non ρ, fun s ρ => lentEnd Q s.d ρ, fun _ => False, fun _ => False⟩
theorem fn_b {P : Program} {w : World} {K : PySem.W.Frag} {mg : Str → Option Value} {base : Heap} {x : Str} {st : Stmt} {f : Addr} {fd : FuncData} {N ps : List Str} {k : Nat} {g : GB} (Fn : Fun K x x st f fd) (S : FnScope N ps (defScope st)) (hlen : ∀ l ds Q, g l ds Q → ds.length + 1 = ps.length) (hN : ps.length ≤ N.length)
    (hbody : ∀ (cdv : Value) (A : Around) (outer : List Env) (s : Shared) (H : Hp) (E : XK), Room k (A.deeper (PyProof.Rows.envOfC x (defScope st) s.heap.objs.size f cdv)) →
      ∃ G, XSs (cxOf CX0 P w K mg base N x (defScope st) f cdv A outer s H E).nox noEx (defBody st) G ∧ ∀ l ds Q, g l ds Q → G (startB N l ds) (retB Q)) : FnOk P w K mg base CX0 (k + 1) f fd ps (spB g) := by
  refine Fn.ok S (fun vs H Q E h => ?_) (fun cdv A outer s H vs Q E hr h => ?_)
  · obtain ⟨p, ws, l, vr, Hs, ds, Qx, rfl, _, _, _, _, h2, h3, _⟩ := h
    rw [List.length_cons, h2.len]
    exact hlen l ds Qx h3
  obtain ⟨p, ws, l, vr, Hs, ds, Qx, rfl, hp, h1, hsp, hl, h2, h3, h4⟩ := h
  obtain ⟨G, hG, hq⟩ := hbody cdv A outer s H E hr
  have hlen' := hlen l ds Qx h3
  have nb : ∀ b ∈ [p], Hs b = none := fun b hb => by rw [List.mem_singleton.mp hb]; exact hsp
  have ib : ∀ b ∈ [p], ∃ o, H b = some o := fun b hb => by rw [List.mem_singleton.mp hb]; exact ⟨_, hp⟩
  -- how it ends
  have fin : ∀ {d : Dx} {v : V} {σ' : St} {H' : Hp} {ρ' : En}, EOk ⟨H, Hs, [p], h1, nb, ib⟩ ρ' σ' ((.v (.tr d), some v) :: []) H' → lentEnd Qx d ρ' → Q v H' := fun {d v σ' H' ρ'} E' q => by
    unfold lentEnd at q
    split at q
    · rename_i l' h0
      obtain ⟨R, hx⟩ := E'.one
      obtain ⟨y, hy, hi, R2⟩ := eok_slot ⟨E'.len, R⟩ h0
      obtain ⟨a, ws', rfl, h5, h6⟩ := R2.atB
      have ha : a = p := List.mem_singleton.mp (R2.fr _ List.mem_cons_self a (List.mem_singleton.mpr rfl))
      subst ha
      refine h4 d v l' ws' H' (fun b o hb => ?_) h5 (h6.imp fun _ _ z => z.to (hid_less fun c hc => by rw [List.mem_singleton.mp hc]; exact List.mem_cons_self)) (hx.to hid_sub) q
      have hb' : b ≠ a := fun z => by rw [z] at hb; unfold hide at hb; rw [if_pos rfl] at hb; cases hb
      rw [hide_ne hb'] at hb ⊢
      exact R.kp b o hb fun z => hb' (List.mem_singleton.mp z)
    · exact q.elim
  refine ⟨_, hG ⟨H, Hs, [p], h1, nb, ib⟩, startB N l ds, [], retB Qx, ⟨?_, ?_⟩, hq l ds Qx h3, ⟨fun σ' H' ρ' _ E' q => fin (EOk.back E'.len (E'.rep.add (d := .non) (v := .non) IsX.of_non)) q, fun v s σ' H' ρ' _ E' q => fin (EOk.back E'.len E'.front.frz) q, fun _ _ _ _ _ q => q.elim, fun _ _ _ _ _ q => q.elim⟩⟩
  · unfold startB L2.start
    simp only [List.length_append, List.length_map, List.length_replicate, List.length_cons]
    rw [h2.len]
    omega
  · have R0 : Rep ⟨H, Hs, [p], h1, nb, ib⟩ [] H := ⟨List.nodup_nil, fun r hr => by simp at hr, fun r hr => by simp at hr, fun b o h _ => h, ib⟩
    have hvis : Same Hs (Fm.vis ⟨H, Hs, [p], h1, nb, ib⟩ H) := fun b o hb => (ext_old (h1 _ _ hb)).trans hb
    have R1 := rep_args (m := N.length - (ds.length + 1)) R0 (h2.imp fun _ _ z => z.to hvis)
    have hown : owns ((ds.map (fun d => Sl.v (.tr d)) ++ List.replicate (N.length - (ds.length + 1)) Sl.un).zip (vr.map some ++ List.replicate (N.length - (ds.length + 1)) none)) = [] := by
      unfold owns
      refine List.flatMap_eq_nil_iff.mpr fun r hr => ?_
      obtain ⟨a, b⟩ := r
      rcases List.mem_append.mp (List.of_mem_zip hr).1 with h | h
      · obtain ⟨d, _, rfl⟩ := List.mem_map.mp h; rfl
      · rw [(List.mem_replicate.mp h).2]; rfl
    rw [List.append_nil]
    have e : (startB N l ds).zip (L2.start N (.ref p :: vr)) = (.bw l, some (.ref p)) :: (ds.map (fun d => Sl.v (.tr d)) ++ List.replicate (N.length - (ds.length + 1)) Sl.un).zip (vr.map some ++ List.replicate (N.length - (ds.length + 1)) none) := by
      unfold startB L2.start
      rw [List.map_cons, List.cons_append, List.zip_cons_cons, List.length_cons, h2.len]
    rw [e]
    refine ⟨by rw [owns_some (a := p) rfl, hown]; simp, fun r hr => ?_, fun r hr a ha => ?_, R1.kp, R1.lv⟩
    · rw [owns_some (a := p) rfl, hown]
      rcases List.mem_cons.mp hr with rfl | hr
      · refine ⟨p, ws, rfl, hp, hl.imp fun _ _ z => z.to fun b o hb => hid_some.mpr ⟨fun z => ?_, hvis _ _ hb⟩⟩
        rw [List.mem_singleton.mp z, hsp] at hb; cases hb
      · refine (R1.ok r hr).mono (.of fun b o hb => ?_) fun _ _ => rfl
        have hb' := hid_some.mp hb
        refine hid_some.mpr ⟨fun z => ?_, hb'.2⟩
        have h9 : Hs p = some o := (ext_old hp).symm.trans (List.mem_singleton.mp z ▸ hb'.2)
        rw [hsp] at h9; cases h9
    · rcases List.mem_cons.mp hr with rfl | hr
      · exact ha
      · exact R1.fr r hr a ha
theorem Cal.mono {P : Program} {w : World} {K : PySem.W.Frag} {mg : Str → Option Value} {base : Heap} {i j : Nat} {x : Str} {ps : List Str} {sp : Sp} (C : Cal P w K mg base i x ps sp) (h : i ≤ j) : Cal P w K mg base j x ps sp := by
  obtain ⟨f, fd, G, b, k, m⟩ := C
  exact ⟨f, fd, G.mono h, b, k, m⟩
end Lf

set_option Elab.async false
set_option linter.all false
set_option maxRecDepth 100000
set_option maxHeartbeats 4000000
namespace Lf
open PySem L2
theorem compX_map {n : Nat} {gx : XG} {tc : XC} {te : XT} {Q : List Dx → List Sl → Prop} {cs : List Sl} (f : Dx → List Dx) : ∀ {ds : List Dx} {acc : List Dx},
    (∀ d ∈ ds, ∀ (acc : List Dx) (P : List Dx → List Sl → Prop), P (acc ++ f d) cs → gx d (List.replicate n .un ++ cs) fun ρ1 => tc ρ1 fun b ρ2 => if b = true then te ρ2 fun s ρ3 => P (acc ++ [s.d]) (ρ3.drop n) else P acc (ρ2.drop n)) →
    Q (acc ++ (ds.map f).flatten) cs → compX n gx tc te Q ds cs acc
  | [], acc, _, q => by simpa [compX] using q
  | d :: ds, acc, h, q => by
    show gx d _ _
    exact h d List.mem_cons_self acc (fun acc cs => compX n gx tc te Q ds cs acc) (compX_map f (fun d' hd => h d' (List.mem_cons_of_mem _ hd)) (by simpa [List.append_assoc] using q))
theorem forX_ind {gx : XG} {G : XS} {D : XD} (Pv : List Dx → En → Prop) (hd : ∀ ρ, Pv [] ρ → D.nx ρ) (hs : ∀ d ds ρ (K : En → Prop), Pv (d :: ds) ρ → (∀ ρ', Pv ds ρ' → K ρ') → gx d ρ fun ρ1 => G ρ1 { D with nx := K, ct := K, bk := D.nx }) :
    ∀ {ds : List Dx} {ρ : En}, Pv ds ρ → forX gx G D ds ρ
  | [], ρ, h => hd ρ h
  | d :: ds, ρ, h => hs d ds ρ (forX gx G D ds) h fun ρ' h' => forX_ind Pv hd hs h'
end Lf

set_option Elab.async false
set_option linter.all false
set_option maxRecDepth 100000
set_option maxHeartbeats 4000000
namespace Lf
open PySem L2
theorem atI_of {α : Type} {l : List α} {i : Int} (h0 : 0 ≤ i) (h1 : i < l.length) : ∃ x, atI l i = some x ∧ l[i.toNat]? = some x := by
  have hk : i.toNat < l.length := by omega
  refine ⟨l[i.toNat], ?_, List.getElem?_eq_getElem hk⟩
  unfold atI
  have : ixN l.length i = some i.toNat := by
    unfold ixN
    simp only [h0]
    split <;> simp_all <;> omega
  rw [this]
  exact List.getElem?_eq_getElem hk
end Lf

set_option Elab.async false
set_option linter.all false
set_option maxRecDepth 100000
set_option maxHeartbeats 4000000
namespace Lf
open PySem L2
abbrev GP := List Dx → Dx → (Dx → Prop) → Prop
def OpL (r : R2) (g : GP) : Prop := ∀ (G : Hp) (H : Hp) (p : Addr) (ws : List V) (l : List Dx) (b : Dx) (y : V) (Q : VK) (Qx : Dx → Prop), Same G H → H p = some (.lst ws) → All2 (IsX G) l ws → IsX G b y → g l b Qx → (∀ v d, IsX G d v → Qx d → Q v H) → r (.ref p) y H Q
def xPkL (g : GP) (i : Nat) (t : XT) : XT := fun ρ Q => ((ρ[i]?).bind lent).isSome = true ∧ t ρ fun k ρ' => match (ρ'[i]?).bind lent with
  | some (l, _) => g l k.d fun d => Q (.tr d) ρ'
  | none => False
section
variable {X : Cx} {Ex : ExT} {F : Fm} {i : Nat} {t : XT} {r : R2} {g : GP} {x : Str} {a b e : Expr} {p pos : Pos}
theorem pkL_x (hx : OpL r g) : ∀ σ H Q, tX F (xPkL g i t) σ H Q → tOp r (tVar i) (tX F t) σ H Q := by
  rintro σ H Q ⟨ρ, fr, Qx, E, ⟨h0, q⟩, k⟩
  obtain ⟨⟨l, f⟩, h1⟩ := Option.isSome_iff_exists.mp h0
  obtain ⟨p, ws, hv, _⟩ := lent_put E h1
  refine ⟨.ref p, hv, ρ, fr, _, E, q, fun w s H' ρ' E' q' => ?_⟩
  split at q'
  · rename_i l' f' hb
    obtain ⟨R, hs⟩ := E'.one
    obtain ⟨p', ws', hv', hp, hl, _⟩ := lent_put E'.drop hb
    rw [hv] at hv'; cases hv'
    exact hx _ H' p ws' l' s.d w Q _ R.hv hp hl hs q' fun v d hd qd => k v (.tr d) H' ρ' (EOk.back E'.len (R.add hd)) qd
  · exact q'.elim
def neP (n : Bool) : GP := fun l k Q => match k with
  | .lst [] => Q (.bl (if n then !l.isEmpty else l.isEmpty))
  | _ => False
theorem ol_ne {K : PySem.W.Frag} {r : R2} (n : Bool) : OpL (fun x y H Q => r x y H Q ∨ rEqN K n x y H Q) (neP n) := by
  intro G H p ws l b y Q Qx hs hp hl hb g k
  unfold neP at g
  split at g
  · obtain ⟨p', vs', rfl, q3, q4⟩ := hb.lst_eq
    cases (show vs' = [] from q4)
    refine .inr ⟨p, p', ws, rfl, rfl, SqL.of hp, SqL.of (hs _ _ q3), k _ _ ?_ g⟩
    have : ws.isEmpty = l.isEmpty := by
      have := hl.len
      cases ws <;> cases l <;> simp at this ⊢
    rw [this]
    exact IsX.of_bl _
  · exact g.elim
theorem xt_pkEq (K : PySem.W.Frag) (hu : X.A.units < cLine) (hv : PE X (.Name x p) (tVar i)) (hb : XE X Ex b t) (hm : behindInMarks .Eq b = false) (h : X.K = K := by rfl) : XTe X Ex (.Compare (.Name x p) [.Eq] [b] pos) (xB (xPkL (neP false) i t)) := fun F => (pt_cmpR (op_eqA K hu h) hv (hb F) hm).weak (tTest_x (pkL_x (ol_ne false)))
end
end Lf

set_option Elab.async false
set_option linter.all false
set_option maxRecDepth 100000
set_option maxHeartbeats 4000000
namespace Lf
open PySem L2
theorem XE.at {X : Cx} {Ex : ExT} {e : Expr} {t : XT} (F : Fm) [OkF X Ex F] (h : XE X Ex e t) : PE X e (tX F t) := h F
theorem XIt.at {X : Cx} {Ex : ExT} {tg e : Expr} {t : XI} (F : Fm) [OkF X Ex F] (h : XIt X Ex tg e t) : PI X tg e (tXi F t) := h F
theorem XCs.at {X : Cx} {Ex : ExT} {e : List Expr} {t : XC} (F : Fm) [OkF X Ex F] (h : XCs X Ex e t) : PCs X e (tXc F t) := h F
section
variable {α : Type} {n : Nat} {gx : XG} {tc : XC} {te : XT} {Q : List Dx → List Sl → Prop}
abbrev stepX (n : Nat) (gx : XG) (tc : XC) (te : XT) (P : List Dx → List Sl → Prop) (d : Dx) (cs : List Sl) (acc : List Dx) : Prop := gx d (List.replicate n .un ++ cs) fun ρ1 => tc ρ1 fun b ρ2 => if b = true then te ρ2 fun s ρ3 => P (acc ++ [s.d]) (ρ3.drop n) else P acc (ρ2.drop n)
theorem compX_fun {cs : List Sl} (φ ψ : α → Dx) : ∀ {as : List α} {acc : List Dx}, (∀ a ∈ as, ∀ (acc : List Dx) (P : List Dx → List Sl → Prop), P (acc ++ [ψ a]) cs → stepX n gx tc te P (φ a) cs acc) →
    Q (acc ++ as.map ψ) cs → compX n gx tc te Q (as.map φ) cs acc
  | [], acc, _, q => by simpa [compX] using q
  | a :: as, acc, h, q => by
    show gx (φ a) _ _
    exact h a List.mem_cons_self acc (fun acc cs => compX n gx tc te Q (as.map φ) cs acc) (compX_fun φ ψ (fun a' ha => h a' (List.mem_cons_of_mem _ ha)) (by simpa [List.append_assoc] using q))
theorem compX_ind (φ : α → Dx) (I : List α → List Dx → List Sl → Prop) (hd : ∀ acc cs, I [] acc cs → Q acc cs) (hs : ∀ a as acc cs (P : List Dx → List Sl → Prop), I (a :: as) acc cs → (∀ acc' cs', I as acc' cs' → P acc' cs') → stepX n gx tc te P (φ a) cs acc) :
    ∀ {as : List α} {acc : List Dx} {cs : List Sl}, I as acc cs → compX n gx tc te Q (as.map φ) cs acc
  | [], acc, cs, h => hd acc cs h
  | a :: as, acc, cs, h => by
    show gx (φ a) _ _
    exact hs a as acc cs (fun acc cs => compX n gx tc te Q (as.map φ) cs acc) h fun acc' cs' h' => compX_ind φ I hd hs h'
theorem forX_map {gx : XG} {G : XS} {D : XD} (φ : α → Dx) (Pv : List α → En → Prop) (hd : ∀ ρ, Pv [] ρ → D.nx ρ) (hs : ∀ d ds ρ (K : En → Prop), Pv (d :: ds) ρ → (∀ ρ', Pv ds ρ' → K ρ') → gx (φ d) ρ fun ρ1 => G ρ1 { D with nx := K, ct := K, bk := D.nx }) :
    ∀ {ds : List α} {ρ : En}, Pv ds ρ → forX gx G D (ds.map φ) ρ
  | [], ρ, h => hd ρ h
  | d :: ds, ρ, h => hs d ds ρ (forX gx G D (ds.map φ)) h fun ρ' h' => forX_map φ Pv hd hs h'
end
end Lf

set_option Elab.async false
set_option linter.all false
set_option maxRecDepth 100000
set_option maxHeartbeats 4000000
namespace Lf
open PySem L2
section
variable {X : Cx} {Ex : ExT} {F : Fm} {e : Expr} {kws : List Keyword} {x : Str} {p pos : Pos} {u : XA} {t : XT}
theorem xe_glob {i : Int} (hg : Gl X x) (hm : ∃ t, X.mg x = some (.int i t)) (hd : (x == ("__debug__" : Str)) = false := by decide) : XE X Ex (.Name x pos) (xC (.int i)) := by
  obtain ⟨t, hm⟩ := hm
  exact xe_c (pe_glob (v := .int i) hg hm ⟨t, rfl⟩ hd) _ fun _ => IsX.of_int _
end
end Lf

set_option Elab.async false
set_option linter.all false
set_option maxRecDepth 100000
set_option maxHeartbeats 4000000
namespace Lf
open PySem L2
theorem vals_of : ∀ {xs : List V} {us : List Value}, xs.length = us.length → (∀ (i : Nat) x u, xs[i]? = some x → us[i]? = some u → RelV x u) → Vals xs us
  | [], [], _, _ => .nil
  | [], _ :: _, h, _ => by simp at h
  | _ :: _, [], h, _ => by simp at h
  | x :: xs, u :: us, hl, h => .cons (h 0 x u rfl rfl) (vals_of (by simpa using hl) fun i a b h1 h2 => h (i + 1) a b (by simpa using h1) (by simpa using h2))
end Lf

set_option Elab.async false
set_option linter.all false
set_option maxRecDepth 100000
set_option maxHeartbeats 4000000
namespace Lf
open PySem L2
def neL : G2 := fun a b Q => match a, b with
  | .lst l, .lst m => ∃ ns : List Int, l = ns.map Dx.int ∧ m = ns.map Dx.int ∧ Q (.tr (.bl false))
  | _, _ => False
end Lf

set_option Elab.async false
set_option linter.all false
set_option maxRecDepth 100000
set_option maxHeartbeats 4000000
namespace Lf
open PySem L2
theorem OkF.up {X : Cx} {Ex Ex' : ExT} {F F' : Fm} (h : OkF X Ex F) (hx : ∀ c, Ex' c → Ex c) (hk : ∀ H, Kept F' H → Kept F H) : OkF X Ex' F' :=
  ⟨fun pins σ H s' ea cls I a e k => h.pass1 pins σ H s' ea cls I a (hx _ e) (hk _ k)⟩
end Lf

set_option Elab.async false
set_option linter.all false
set_option maxRecDepth 100000
set_option maxHeartbeats 4000000
namespace Lf
open PySem L2
section
variable {X : Cx} {Ex : ExT} {F : Fm} {a b e : Expr} {x : Str} {p pos : Pos} {ta tb t : XT} {tl th : XO} {u : XA} {K : PySem.W.Frag}
theorem atI_map {α β : Type} {f : α → β} {l : List α} {i : Int} : atI (l.map f) i = (atI l i).map f := by
  unfold atI
  rw [List.length_map]
  cases ixN l.length i with
  | none => rfl
  | some n => exact List.getElem?_map
def ixZ (K : PySem.W.Frag) : G2
  | .scr K' ns, .int i, Q => K' = K ∧ (match atI ns i with | some n => Q (.tr (.int n)) | none => False)
  | _, _, _ => False
theorem ox_ixZ : OpX (rIxL K) (ixZ K) := by
  intro F P H a b x y Q Qx R ha hb g k
  unfold ixZ at g
  split at g
  · obtain ⟨rfl, g⟩ := g
    obtain ⟨p, rfl, h1⟩ := ha.scr_eq
    cases hb.int_eq
    split at g
    · rename_i n hn
      refine ⟨p, _, _, V.int n, rfl, rfl, SameF.sq (.of R.hv) h1, ?_, k _ _ H (R.add (IsX.of_int _)) g⟩
      rw [atI_map, hn]; rfl
    · exact g.elim
  · exact g.elim
theorem xe_ixZ (K : PySem.W.Frag) (ha : XE X Ex a ta) (hb : XE X Ex b tb) (hs : PlainIx b) (h : X.K = K := by rfl) : XE X Ex (.Subscript a b pos) (xOp (ixZ K) ta tb) := fun F => (pe_ix (ix_listK K h) (ha F) (hb F) hs).weak (tOp_x ox_ixZ)
def lenZ (K : PySem.W.Frag) : GC
  | [.scr K' ns], Q => K' = K ∧ Q (.tr (.int ns.length))
  | _, _ => False
theorem cx_lenZ : CallX (rLen K) (lenZ K) := by
  intro F P H ds xs Q Qx R hs g k
  unfold lenZ at g
  split at g
  · obtain ⟨rfl, g⟩ := g
    obtain ⟨x, rfl, hx⟩ := all2_1 hs
    obtain ⟨a, rfl, h1⟩ := hx.scr_eq
    exact .inl ⟨a, _, rfl, .inl (SameF.sq (.of R.hv) h1), k _ _ H (R.add (by rw [List.length_map]; exact IsX.of_int _)) g⟩
  · exact g.elim
end
def spLaw (K : PySem.W.Frag) : Sp := fun vs H Q _ => ∃ (a : Addr) (ns : List Int), vs = [.ref a] ∧ SqL K H a (ns.map V.int) ∧ ns.length ≤ 63 ∧ ∀ H', Q (.bl true) H'
def gLaw (K : PySem.W.Frag) : GC := fun ds Q => ∃ ns : List Int, ds = [.scr K ns] ∧ ns.length ≤ 63 ∧ Q (.tr (.bl true))
theorem law_tree {P : Program} {w : World} {K : PySem.W.Frag} {mg : Str → Option Value} {base : Heap} {f : Addr} {fd : FuncData} {j : Nat} (h : FnOk P w K mg base CX0 j f fd ["script"] (spX (gLaw K))) : FnOk P w K mg base CX0 j f fd ["script"] (spLaw K) := h.imp fun vs H Q E => by
  rintro ⟨a, ns, rfl, hS, hl, q⟩
  refine ⟨H, [.scr K ns], fun s => s = .tr (.bl true), Same.refl _, ⟨_, _, rfl, IsX.of_scr hS, rfl⟩, ⟨ns, rfl, hl, rfl⟩, fun s v H' _ hr e => ?_⟩
  subst e
  have hr' : IsX (ext H H H') (.bl true) v := hr
  cases hr'.bl_eq
  exact q H'
end Lf

set_option Elab.async false
set_option linter.all false
set_option maxRecDepth 100000
set_option maxHeartbeats 4000000
namespace L2
open PySem
end L2
namespace Lf
open PySem L2
end Lf

set_option Elab.async false
set_option linter.all false
set_option maxRecDepth 100000
set_option maxHeartbeats 4000000
namespace Lf
open PySem L2
abbrev GE := List Dx → (Sv → Prop) → ExT → Prop
end Lf

set_option Elab.async false
set_option linter.all false
set_option maxRecDepth 100000
set_option maxHeartbeats 4000000
namespace Lf
open PySem L2
theorem objOk_obj {P : Program} {w : World} {H : Hp} {h : Heap} {a : Addr} {o : HO} (x : ObjOk P w H h a o) : ∃ ob, h.get? a = some ob := by
  cases o with
  | lst xs => obtain ⟨z, its, n, r, e⟩ := x; exact ⟨_, e⟩
  | tup xs => obtain ⟨z, its, r, ob, e, c⟩ := x; exact ⟨_, e⟩
  | dK kvs => obtain ⟨z, y, vs, r, ob, es, ep, e, c⟩ := x; exact ⟨_, e⟩
  | dT kvs => obtain ⟨z, y, xs, r, ob, es, ep, e, c⟩ := x; exact ⟨_, e⟩
  | set S n => obtain ⟨ob, es, ep, t, e, c⟩ := x; exact ⟨_, e⟩
  | ins C dx fs => obtain ⟨d, z, ne, e, _⟩ := x; exact ⟨_, e⟩
  | own y => exact x
  | xd fs => obtain ⟨mA, ⟨od, es, ep, e, c⟩, r⟩ := x; exact ⟨_, e⟩
  | rng lo hi => obtain ⟨t, u, v, e⟩ := x; exact ⟨_, e⟩
  | frz ob u => exact ⟨_, x.1⟩
  | tbl ps => exact ⟨_, x⟩
  | met f y => exact ⟨_, x⟩
  | ext φ => exact x.2.1
theorem HOk.none {P : Program} {w : World} {H : Hp} {h : Heap} (x : HOk P w H h) {a : Addr} (n : h.get? a = .none) : H a = .none := by
  cases q : H a with
  | none => rfl
  | some o =>
    obtain ⟨ob, e⟩ := objOk_obj (x a o q)
    rw [n] at e; cases e
abbrev veM : List Value := [.type "ValueError", .type "Exception", .type "BaseException", .type "object"]
end Lf

set_option Elab.async false
set_option linter.all false
set_option maxRecDepth 100000
set_option maxHeartbeats 4000000
namespace Lf
open PySem L2
abbrev XQ := En → (En → Prop) → (Value → En → Prop) → Prop
end Lf

set_option Elab.async false
set_option linter.all false
set_option maxRecDepth 100000
set_option maxHeartbeats 4000000
namespace Lf
open PySem L2
end Lf

set_option Elab.async false
set_option linter.all false
set_option maxRecDepth 100000
set_option maxHeartbeats 4000000
namespace PySem.W
open PySem PySem.Spec PySem.Calls PyProof.Rows
section
variable {prog : Program} {w : World} {A : Around} {E : Value → Shared → Prop} {s : Shared} {K : Frag} {x C D : Addr} {ox : Obj} {od : Obj} {odo : Option Obj} {name : Str}
def excKit (K : Frag) (D : Addr) : Bool := (findIn K (.ref D) "__getattribute__" == some (some (.builtin "BaseException.__getattribute__"))) && (findIn K (.ref D) "__getattr__" == some none) && (mroIn K D (.type "BaseException") == some true) && (mroIn K D (.type "object") == some true) &&
  (findIn K (.ref D) "__class__" == some (some (.builtin "object.__class__"))) && (specialIn K (.builtin "object.__class__") "__get__" == some (some (.builtin "getset_descriptor.__get__"))) && (takesIn K (.builtin "object.__class__") == some true)
end
end PySem.W

set_option Elab.async false
set_option linter.all false
set_option maxRecDepth 100000
set_option maxHeartbeats 4000000
namespace Lf
open PySem L2
open PySem.W (Frag nsIn)
def noName (K : Frag) (N : Addr) (n : Str) : Bool := match K.lookup N with
  | some ⟨_, _, .dict es _, _⟩ => es.toList.all (fun e => match e.key with | .str _ _ => true | _ => false) && (es.toList.find? (·.key.isStr n)).isNone
  | _ => false
def tailOk (K : Frag) : Nat → List Value → Bool
  | n + 1, .ref A :: r => (match K.lookup A with
    | some ⟨_, _, .cls cd, _⟩ => noName K cd.ns "__init__" && tailOk K n r
    | _ => false)
  | _, l => l == veM
def clsOk (K : Frag) (C : Addr) : Bool := match K.lookup C with
  | some ⟨.type "type", _, .cls cd, sl⟩ => (match cd.mro with
    | .ref C' :: tl => C' == C && cd.hasDel == false && sl.size == 6 && sl[4]? == some (some (.builtin "ValueError.__new__")) && noName K cd.ns "__init__" && tailOk K 4 tl
    | _ => false) && PySem.W.excKit K C
  | _ => false
def clsAt (K : Frag) (n : Str) : Option Addr := match nsIn K mainGlobals n with
  | some (some (.ref C)) => some C
  | _ => none
section
variable {K : Frag} {h : Heap}
theorem noName_ns {N : Addr} {n : Str} (e : noName K N n = true) (X : K.In h) : ∃ m, h.Ns N m ∧ m n = none := by
  unfold noName at e
  split at e
  · rename_i c d es ep sl q
    obtain ⟨e1, e2⟩ := Bool.and_eq_true_iff.mp e
    refine ⟨nsFind es, ⟨_, es, ep, X _ _ q, rfl, fun en hen => ?_, fun _ => rfl⟩, ?_⟩
    · have := List.all_eq_true.mp e1 en (by simpa using hen)
      split at this
      · rename_i x t hk; exact ⟨x, t, hk⟩
      · cases this
    · unfold nsFind findBy
      rw [← Array.find?_toList]
      rw [Option.isNone_iff_eq_none] at e2
      rw [e2]
      rfl
  · cases e
theorem tailOk_own : ∀ (k : Nat) (l : List Value), tailOk K k l = true → K.In h → OwnTail h veM l
  | 0, l, e, X => by
    have : l = veM := by simpa [tailOk] using e
    rw [this]; exact .base
  | k + 1, [], e, X => by
    have : ([] : List Value) = veM := by simpa [tailOk] using e
    rw [this]; exact .base
  | k + 1, v :: r, e, X => by
    cases v with
    | ref A =>
      unfold tailOk at e
      split at e
      · rename_i c d cd sl q
        obtain ⟨e1, e2⟩ := Bool.and_eq_true_iff.mp e
        obtain ⟨m, hm, hn⟩ := noName_ns e1 X
        exact .own (X _ _ q) hm hn (tailOk_own k r e2 X)
      · cases e
    | none => have : Value.none :: r = veM := by simpa [tailOk] using e
              cases this
    | bool b => have : Value.bool b :: r = veM := by simpa [tailOk] using e
                cases this
    | int i t => have : Value.int i t :: r = veM := by simpa [tailOk] using e
                 cases this
    | str x t => have : Value.str x t :: r = veM := by simpa [tailOk] using e
                 cases this
    | bytes x t => have : Value.bytes x t :: r = veM := by simpa [tailOk] using e
                   cases this
    | float x t => have : Value.float x t :: r = veM := by simpa [tailOk] using e
                   cases this
    | builtin x => have : Value.builtin x :: r = veM := by simpa [tailOk] using e
                   cases this
    | type T => have : Value.type T :: r = veM := by simpa [tailOk] using e
                rw [this]; exact .base
    | _ => first | (simp [tailOk] at e; done) | (exfalso; revert e; simp [tailOk])
theorem clsOk_own {C : Addr} {x : Str} {mg : Str → Option Value} (e : clsOk K C = true) (hm : mg x = some (.ref C)) (X : K.In h) : PyProof.Rows.OwnCls x C veM "ValueError.__new__" mg h := by
  unfold clsOk at e
  split at e
  · rename_i dd cd sl q
    obtain ⟨e1, _⟩ := Bool.and_eq_true_iff.mp e
    split at e1
    · rename_i C' tl hmro
      simp only [Bool.and_eq_true, beq_iff_eq] at e1
      obtain ⟨⟨⟨⟨⟨rfl, h2⟩, h3⟩, h4⟩, h5⟩, h6⟩ := e1
      obtain ⟨m, hns, hni⟩ := noName_ns h5 X
      have hsl : sl = #[sl.getD 0 none, sl.getD 1 none, sl.getD 2 none, sl.getD 3 none, some (.builtin "ValueError.__new__"), sl.getD 5 none] := by
        apply Array.ext_getElem?
        intro i
        match i with
        | 0 => simp [h3]
        | 1 => simp [h3]
        | 2 => simp [h3]
        | 3 => simp [h3]
        | 4 => simp [h4]
        | 5 => simp [h3]
        | i + 6 => rw [Array.getElem?_eq_none (by rw [h3]; omega), Array.getElem?_eq_none (by simp)]
      refine ⟨hm, tl, cd.ns, cd.name, cd.qualname, cd.bases, cd.hasDict, cd.slotNames, cd.subclasses, cd.abstract, cd.collection, dd, sl.getD 0 none, sl.getD 1 none, sl.getD 2 none, sl.getD 3 none, sl.getD 5 none, m, ?_, hns, hni, tailOk_own 4 tl h6 X⟩
      have := X _ _ q
      rw [this]
      obtain ⟨nm, bs, mro, ns, qn, hd, sn, sub, ab, col, hdel⟩ := cd
      dsimp only at hmro h2 ⊢
      subst hmro h2
      unfold excClassObj
      rw [← hsl]
    · cases e1
  · cases e
end
end Lf

set_option Elab.async false
set_option linter.all false
set_option maxRecDepth 100000
set_option maxHeartbeats 4000000
namespace L2
open PySem PySem.Spec PySem.SeqAt PySem.AutoSeq1 PySem.MeetsSeq PyProof.Rows
end L2

set_option Elab.async false
set_option linter.all false
set_option maxRecDepth 100000
set_option maxHeartbeats 4000000
namespace L2
open PySem PySem.Spec PySem.SeqAt PyProof.Rows
end L2
namespace Lf
open PySem L2
end Lf

set_option Elab.async false
set_option linter.all false
set_option maxRecDepth 100000
set_option maxHeartbeats 4000000
namespace Lf
open PySem L2
open PySem.W (Frag nsIn)
structure ClsX (K : Frag) (mg : Str → Option Value) (n : Str) (C : Addr) : Prop where
  at' : clsAt K n = some C
  m : mg n = some (.ref C)
  ok : clsOk K C = true
theorem ClsX.own {K : Frag} {mg : Str → Option Value} {n : Str} {C : Addr} {base : Heap} (x : ClsX K mg n C) (X : K.In base) : PyProof.Rows.OwnCls n C veM "ValueError.__new__" mg base := clsOk_own x.ok x.m X
end Lf

set_option Elab.async false
set_option linter.all false
set_option maxRecDepth 100000
set_option maxHeartbeats 4000000
namespace Lf
open PySem L2
def rows : List Dx → List V → List Rw
  | d :: ds, v :: vs => (.v (.tr d), some v) :: rows ds vs
  | _, _ => []
end Lf

set_option Elab.async false
set_option linter.all false
set_option maxRecDepth 100000
set_option maxHeartbeats 4000000
namespace L2
open PySem PySem.Spec PyProof.Rows
end L2

set_option Elab.async false
set_option linter.all false
set_option maxRecDepth 100000
set_option maxHeartbeats 4000000
namespace L2
open PySem PySem.Spec PyProof.Rows
end L2

set_option Elab.async false
set_option linter.all false
set_option maxRecDepth 100000
set_option maxHeartbeats 4000000
namespace L2
open PySem PySem.Spec PyProof.Rows
end L2

set_option Elab.async false
set_option linter.all false
set_option maxRecDepth 100000
set_option maxHeartbeats 4000000
namespace Lf
open PySem L2
end Lf

set_option Elab.async false
set_option linter.all false
set_option maxRecDepth 100000
set_option maxHeartbeats 4000000
namespace Lf
open PySem L2
def sgX (x : Str) : List Dx := x.cps.toList.map fun c => .str ⟨#[c]⟩
theorem sgX_at {x : Str} {i : Nat} {d : Dx} (h : (sgX x)[i]? = some d) : ∃ c, x.cps[i]? = some c ∧ d = .str ⟨#[c]⟩ := by
  unfold sgX at h
  rw [List.getElem?_map] at h
  obtain ⟨c, h1, h2⟩ := Option.map_eq_some_iff.mp h
  exact ⟨c, by simpa using h1, h2.symm⟩
theorem itx_str {F : Fm} {x : Str} : ItX F (Its x) [] (sgX x) where
  go := fun P H i d R hd => by
    obtain ⟨c, h1, _⟩ := sgX_at hd
    exact (Array.getElem?_eq_some_iff.mp h1).1
  stop := fun P H i R hi => by
    unfold sgX at hi
    rw [List.length_map, Array.length_toList] at hi
    exact hi
  yld := fun P H i d y H' R hd q => by
    obtain ⟨rfl, c, h1, rfl⟩ := q
    obtain ⟨c', h2, rfl⟩ := sgX_at hd
    rw [h1] at h2
    cases h2
    exact R.add (IsX.of_str _)
def xiS (t : XT) : XI := fun ρ Q => t ρ fun s ρ' => match s.d with
  | .str z => Q (sgX z) ρ'
  | _ => False
section
variable {X : Cx} {Ex : ExT} {tg l a b : Expr} {t ta tb : XT} {x : Str} {p pos : Pos}
theorem xi_str (h : XE X Ex l t) : XIt X Ex tg l (xiS t) := fun F => (pi_str (h F)).weak fun σ H R => by
  rintro ⟨ρ, fr, Qx, E, t, k⟩
  refine ⟨ρ, fr, _, E, t, fun v s H' ρ' E' q => ?_⟩
  split at q
  · rename_i z hz
    obtain ⟨R1, hs⟩ := E'.one
    rw [hz] at hs
    cases hs.str_eq
    exact ⟨z, rfl, k _ H' ρ' [] _ ⟨E'.len, R1⟩ itx_str q⟩
  · exact q.elim
def inSX (neg : Bool) : G2
  | .str i, .str j, Q => Q (.tr (.bl (if neg then !(!(Builtin.Str.occurrences j i 0 j.length 1).isEmpty) else !(Builtin.Str.occurrences j i 0 j.length 1).isEmpty)))
  | _, _, _ => False
theorem ox_inS : OpX (fun x y H Q => ∃ i j, x = .str i ∧ y = .str j ∧ Q (.bl (!(Builtin.Str.occurrences j i 0 j.length 1).isEmpty)) H) (inSX false) := by
  intro F P H a b x y Q Qx R ha hb g k
  unfold inSX at g
  split at g
  · cases ha.str_eq
    cases hb.str_eq
    exact ⟨_, _, rfl, rfl, k _ _ H (R.add (IsX.of_bl _)) g⟩
  · exact g.elim
theorem xe_globS {i : Str} (hg : Gl X x) (hm : ∃ t, X.mg x = some (.str i t)) (hd : (x == ("__debug__" : Str)) = false := by decide) : XE X Ex (.Name x pos) (xC (.str i)) := by
  obtain ⟨t, hm⟩ := hm
  exact xe_c (pe_glob (v := .str i) hg hm ⟨t, rfl⟩ hd) _ fun _ => IsX.of_str _
def xInG (vs : List V) (t : XT) : XT := fun ρ Q => t ρ fun s ρ' => match scV s.d with
  | some v => Q (.tr (.bl (inV v vs))) ρ'
  | none => False
theorem inG_x {F : Fm} {K : PySem.W.Frag} {vs : List V} {c : Addr} (hf : vs.all flatV = true) (hq : ∀ H, SqT K H c vs) : ∀ σ H Q, tX F (xInG vs t) σ H Q → tOp (rIn K false) (tX F t) (tC (.ref c)) σ H Q := by
  rintro σ H Q ⟨ρ, fr, Qx, E, q, k⟩
  refine ⟨ρ, fr, _, E, q, fun v s H' ρ' E' q' => ?_⟩
  split at q'
  · rename_i u hu
    obtain ⟨R, hs⟩ := E'.one
    cases scV_is hs hu
    exact ⟨c, vs, rfl, .inr (hq _), sc_flat hu, hf, k _ _ H' ρ' (EOk.back E'.len (R.add (IsX.of_bl _))) q'⟩
  · exact q'.elim
theorem xe_inG (K : PySem.W.Frag) (vs : List V) (ha : XE X Ex a t) (hg : Gl X x) (hm : ∃ c, X.mg x = some (.ref c) ∧ ∀ H, SqT K H c vs) (hf : vs.all flatV = true := by decide) (hd : (x == ("__debug__" : Str)) = false := by decide) (hb : behindInMarks .In (.Name x p) = false := by with_unfolding_all rfl) (h : X.K = K := by rfl) :
    XE X Ex (.Compare a [.In] [.Name x p] pos) (xInG vs t) := fun F => by
  obtain ⟨c, hm, hq⟩ := hm
  exact (pe_cmpR (op_inK (h := h)) (ha F) (pe_glob (v := .ref c) hg hm rfl hd) hb).weak (inG_x hf hq)
end
end Lf

set_option Elab.async false
set_option linter.all false
set_option maxRecDepth 100000
set_option maxHeartbeats 4000000
namespace Lf
open PySem L2
def xPkD (t : XT) (i : Nat) : XT := fun ρ Q => t ρ fun k ρ' => match keyD k.d, ρ'[i]? with
  | some kk, some (.v (.od l)) => Q (.tr (.bl (getK l kk).isSome)) ρ'
  | _, _ => False
section
variable {X : Cx} {Ex : ExT} {F : Fm} {i : Nat} {t : XT} {x : Str} {a b e : Expr} {p pos : Pos}
theorem pkD_x : ∀ σ H Q, tX F (xPkD t i) σ H Q → tDIn (tX F t) (tVar i) σ H Q := by
  rintro σ H Q ⟨ρ, fr, Qx, E, q, k⟩
  refine ⟨ρ, fr, _, E, q, fun w s H' ρ' E' q' => ?_⟩
  split at q'
  · rename_i kk l hk hb
    obtain ⟨R, hs⟩ := E'.one
    obtain ⟨p, ws, hv, hp, hl, _⟩ := dict_put E'.drop hb
    cases keyD_is hs hk
    refine ⟨.ref p, hv, p, _, rfl, DGet.rd (k := kk) (.inl hp), k _ _ H' ρ' (EOk.back E'.len (R.add ?_)) q'⟩
    rcases getK_val (k := kk) hl with ⟨z1, z2⟩ | ⟨d', v, z1, z2, z3⟩
    · rw [z1, z2]; exact IsX.of_bl _
    · rw [z1, z2]; exact IsX.of_bl _
  · exact q'.elim
theorem xt_pkDin (hu : X.A.units + 1 < cLine) (hb : XE X Ex b t) (hv : PE X (.Name x p) (tVar i)) (hm : behindInMarks .In (.Name x p) = false) : XTe X Ex (.Compare b [.In] [.Name x p] pos) (xB (xPkD t i)) := fun F => (pt_cmp (pc_din hu (hb F) hv) hm).weak (tTest_x (t := tDIn (tX F t) (tVar i)) fun σ H Q h => pkD_x σ H Q h)
end
theorem xSeq_nx {G K : XS} {ρ : En} {D : XD} (M : En → Prop) (h1 : ∀ ρ', M ρ' → K ρ' D) (h2 : ∀ nx : En → Prop, (∀ ρ', M ρ' → nx ρ') → G ρ { D with nx := nx }) : xSeq G K ρ D := h2 _ h1
end Lf

set_option Elab.async false
set_option linter.all false
set_option maxRecDepth 100000
set_option maxHeartbeats 4000000
namespace L2
open PySem PySem.Spec PyProof.Rows
end L2
namespace Lf
open PySem L2
end Lf

set_option Elab.async false
set_option linter.all false
set_option maxRecDepth 100000
set_option maxHeartbeats 4000000
namespace Lf
open PySem L2
end Lf

set_option Elab.async false
set_option linter.all false
set_option maxRecDepth 100000
set_option maxHeartbeats 4000000
namespace Lf
open PySem L2
def nst : Expr → Bool
  | .Starred _ _ => false
  | _ => true
theorem starE {e : Expr} {es : List Expr} {env : Env} (h : nst e = true) : starEach (e :: es) env = (false, eval e env) :: starEach es env := by
  cases e <;> first | rfl | cases h
theorem xa_consN {X : Cx} {Ex : ExT} {e : Expr} {es : List Expr} {t : XT} {u : XA} (h : XE X Ex e t) (h' : XAs X Ex es u) (hn : nst e = true := by rfl) : XAs X Ex (e :: es) (xCons t u) := xa_cons h h' (starE hn)
end Lf

set_option Elab.async false
set_option linter.all false
set_option maxRecDepth 100000
set_option maxHeartbeats 4000000
namespace Lf
open PySem L2
structure Bx (p : Prop) : Prop where
  out : p
section
variable {X : Cx} {Ex : ExT} {a b c e o k v l : Expr} {es : List Expr} {t ta tb te tk tv : XT} {u : XA} {pos p p2 : Pos} {x : Str} {i j : Nat}
theorem be_int {i : Int} {j : Nat} : Bx (XE X Ex (.Constant (.int i) j pos) (xC (.int i))) := ⟨xe_int⟩
theorem be_str {x : Str} {j : Nat} : Bx (XE X Ex (.Constant (.str x) j pos) (xC (.str x))) := ⟨xe_str⟩
theorem be_tup {j : Nat} (h : Bx (XAs X Ex es u)) : Bx (XE X Ex (.Tuple es j pos) (xTup u)) := ⟨xe_tup h.out⟩
theorem be_lst (h : Bx (XAs X Ex es u)) : Bx (XE X Ex (.List es pos) (xLst u)) := ⟨xe_lst h.out⟩
theorem be_ix (K : PySem.W.Frag) (ha : Bx (XE X Ex a ta)) (hb : Bx (XE X Ex b tb)) (hs : PlainIx b) (h : X.K = K := by rfl) : Bx (XE X Ex (.Subscript a b pos) (xOp ixX ta tb)) := ⟨xe_ix K ha.out hb.out hs h⟩
variable {lo hi : Option Expr} {tl th : XO}
theorem ba_nil : Bx (XAs X Ex [] xNil) := ⟨xa_nil⟩
theorem ba_cons (h : Bx (XE X Ex e t)) (h' : Bx (XAs X Ex es u)) (hn : nst e = true := by rfl) : Bx (XAs X Ex (e :: es) (xCons t u)) := ⟨xa_consN h.out h'.out hn⟩
def nstA : List Expr → Bool
  | [] => true
  | e :: es => nst e && nstA es
theorem starA {env : Env} : ∀ {es : List Expr}, nstA es = true → (backTo pos (starEach es env)).any (·.1) = false
  | [], _ => rfl
  | e :: es, h => by
    simp only [nstA, Bool.and_eq_true] at h
    rw [starE h.1]
    exact starA h.2
theorem be_callP {ps : List Str} {g : GB} (C : Cal X.prog X.w X.K X.mg X.base j x ps (spB g)) (hr : Room j X.A) (hv : PE X e (tVar i)) (ha : Bx (XAs X Ex es u)) (hg : Gl X x := by rfl) (hdb : (x == ("__debug__" : Str)) = false := by decide) (he : nst e = true := by rfl) (hes : nstA es = true := by rfl) : Bx (XE X Ex (.Call (.Name x p) (e :: es) [] pos) (xCallB g i u)) := ⟨xe_callP C hr hv ha.out hg hdb (starE he) (starA hes)⟩
variable {r : R2} {g : G2} {op : CmpOp} {tc uc : XC} {rest : List Expr}
variable {st : Stmt} {sts as bs : List Stmt} {G K : XS}
theorem bs_if (hc : Bx (XTe X Ex c tc)) (ha : Bx (XSs X Ex as G)) (hb : Bx (XSs X Ex bs K)) : Bx (XSt X Ex (.If c as bs pos) (xIf tc G K)) := ⟨xs_if hc.out ha.out hb.out⟩
theorem bs_ret (he : Bx (XE X Ex e t)) : Bx (XSt X Ex (.Return (some e) pos) (xRet t)) := ⟨xs_ret he.out⟩
theorem bss_nil : Bx (XSs X Ex [] xNext) := ⟨xss_nil⟩
theorem bss_one (h : Bx (XSt X Ex st G)) : Bx (XSs X Ex [st] G) := ⟨xss_one h.out⟩
theorem bss_cons (h : Bx (XSt X Ex st G)) (h' : Bx (XSs X Ex sts K)) : Bx (XSs X Ex (st :: sts) (xSeq G K)) := ⟨xss_cons h.out h'.out⟩
end
end Lf

set_option Elab.async false
set_option linter.all false
set_option maxRecDepth 100000
set_option maxHeartbeats 4000000
namespace Lf
open PySem L2
end Lf

set_option Elab.async false
set_option linter.all false
set_option maxRecDepth 100000
set_option maxHeartbeats 4000000
namespace Lf
open PySem L2
end Lf

set_option Elab.async false
set_option linter.all false
set_option maxRecDepth 100000
set_option maxHeartbeats 4000000
namespace L2
open PySem PySem.Spec PySem.SeqAt PySem.AutoSeq1 PySem.MeetsSeq PyProof.Rows
def isNone : Value → Bool
  | .none => true
  | _ => false
end L2
namespace Lf
open PySem L2
end Lf

set_option Elab.async false
set_option linter.all false
set_option maxRecDepth 100000
set_option maxHeartbeats 4000000
namespace L2
open PySem PySem.Spec PySem.SeqAt PyProof.Rows
end L2
namespace Lf
open PySem L2
end Lf

set_option Elab.async false
set_option linter.all false
set_option maxRecDepth 100000
set_option maxHeartbeats 4000000
namespace Lf
open PySem L2
def xJoin (z : Str) (t : XT) : XT := fun ρ Q => t ρ fun s ρ' => ∃ ys : List Str, s.d = .lst (ys.map Dx.str) ∧ (ys.map (·.length)).sum + ys.length * z.length ≤ 16777216 ∧ Q (.tr (.str (Txt.join z ys))) ρ'
theorem strs_of {G : Hp} : ∀ {ys : List Str} {vs : List V}, All2 (IsX G) (ys.map Dx.str) vs → vs = ys.map V.str
  | [], _, h => h
  | x :: xs, _, ⟨v, vr, e, h1, h2⟩ => by rw [e, strs_of h2, h1.str_eq]; rfl
end Lf

set_option Elab.async false
set_option linter.all false
set_option maxRecDepth 100000
set_option maxHeartbeats 4000000
namespace L2
open PySem PySem.Spec PyProof.Rows
end L2

set_option Elab.async false
set_option linter.all false
set_option maxRecDepth 100000
set_option maxHeartbeats 4000000
namespace Lf
open PySem L2
end Lf

set_option Elab.async false
set_option linter.all false
set_option maxRecDepth 100000
set_option maxHeartbeats 4000000
namespace L2
open PySem PySem.Spec PyProof.Rows Builtin Builtin.Str
end L2
namespace Lf
open PySem L2
def xCallPk (g : GC) (i : Nat) (u : XA) : XT := fun ρ Q => (∃ s, ρ[i]? = some (.v s)) ∧ u ρ fun ss ρ' => match ρ'[i]? with
  | some (.v s) => g (s.d :: ss.map Sv.d) fun r => ∃ b, r = .tr (.bl b) ∧ Q (.tr (.bl b)) ρ'
  | _ => False
theorem xe_callPk {X : Cx} {Ex : ExT} {j i : Nat} {x : Str} {ps : List Str} {g : GC} {e : Expr} {es : List Expr} {u : XA} {p pos : Pos} (C : Cal X.prog X.w X.K X.mg X.base j x ps (spX g)) (hr : Room j X.A) (hv : PE X e (tVar i)) (ha : XAs X Ex es u) (hg : Gl X x := by rfl) (hdb : (x == ("__debug__" : Str)) = false := by decide)
    (he : starEach (e :: es) X.env = (false, eval e X.env) :: starEach es X.env := by rfl) (hpl : (backTo pos (starEach es X.env)).any (·.1) = false := by rfl) : XE X Ex (.Call (.Name x p) (e :: es) [] pos) (xCallPk g i u) := fun F => (pe_cal C hr (pa_cons hv (ha F) he) hg hdb he hpl).weak fun σ H Q => by
  rintro ⟨ρ, fr, Qx, E, ⟨⟨s0, h0⟩, t⟩, k⟩
  obtain ⟨v, hv', hi, R0⟩ := eok_slot E h0
  obtain ⟨w, rfl, _⟩ := R0.head
  refine ⟨w, hv', ρ, fr, _, E, t, fun vs ss H2 ρ2 hl E2 q2 => ?_⟩
  split at q2
  · rename_i s h3
    obtain ⟨R, hs⟩ := E2.many hl
    obtain ⟨v2, hv2, hi2, R2⟩ := eok_slot ⟨E2.len, R⟩ h3
    rw [hv'] at hv2
    cases hv2
    obtain ⟨w', e, hx⟩ := R2.head
    cases e
    rw [List.append_nil]
    have hO : (owns (ρ2.zip σ ++ fr)).Perm (owns ((.v s, some w) :: ((ρ2.zip σ).eraseIdx i ++ fr))) := ((zip_pull h3 hv').append_right fr).flatMap_right _
    refine ⟨_, s.d :: ss.map Sv.d, _, R2.tail.hv, ⟨w, vs, rfl, hx, hs.imp fun _ _ z => z.to (hid_less fun c hc => hO.mem_iff.mpr (by rw [owns_cons]; exact List.mem_append_right _ hc))⟩, q2, fun r v H' e hr q => ?_⟩
    · obtain ⟨b, rfl, q⟩ := q
      cases (IsX.bl_eq (H := ext (hid (owns ((ρ2.zip σ).eraseIdx i ++ fr)) (F.vis H2)) H2 H') hr)
      exact k _ _ H' ρ2 (EOk.back E2.len ((R.grow e).add (IsX.of_bl _))) q
  · exact q2.elim
end Lf

set_option Elab.async false
set_option linter.all false
set_option maxRecDepth 100000
set_option maxHeartbeats 4000000
namespace L2
open PySem PySem.Spec PyProof.Rows Builtin Builtin.Str
end L2

namespace L2
open PySem PySem.Spec PyProof.Rows
end L2
namespace Lf
open PySem L2
end Lf
namespace Lf
open PySem L2
theorem xss_no {X : Cx} {Ex : ExT} {sts : List Stmt} : XSs X Ex sts xNo := fun F => PSs.weak (pss_never (X := X)) fun D σ H => by
  rintro ⟨ρ, fr, d, E, q, k⟩
  exact q
end Lf

set_option Elab.async false
set_option linter.all false
set_option maxRecDepth 100000
set_option maxHeartbeats 4000000
namespace Lf
open PySem L2
def Sv.o? : Sv → Option Ow
  | .tr d => some (.tr d)
  | .ow o => some o
  | _ => none
def owR (os : List Ow) (xs : List V) : List Rw := (os.zip xs).map fun p => (.v (.ow p.1), some p.2)
section
variable {F : Fm} {P : List Rw} {H : Hp} {s : Sv} {x : Option V} {o : Ow} {p : Addr} {os : List Ow} {xs : List V}
theorem Rep.toOw (R : Rep F ((.v s, x) :: P) H) (h : s.o? = some o) : Rep F ((.v (.ow o), x) :: P) H := by
  cases s with
  | tr d =>
    cases h
    have e : ownA (.v (.ow (.tr d)), x) = [] := by simp only [ownA, Ow.fp]
    obtain ⟨v, rfl, hx⟩ := R.head
    exact R.tail.cons0 e ⟨v, rfl, by simp only [OwOk]; exact hx⟩
  | ol l => cases h
  | od l => cases h
  | ow o' => cases h; exact R
theorem owR_owns : ∀ {os : List Ow} {xs : List V}, os.length = xs.length → owns (owR os xs) = owFs os
  | [], [], _ => by simp only [owR, List.zip_nil_left, List.map_nil, owns, List.flatMap_nil, owFs]
  | [], _ :: _, h => by simp at h
  | _ :: _, [], h => by simp at h
  | o :: os, x :: xs, h => by
    show owns ((.v (.ow o), some x) :: owR os xs) = _
    rw [owns_cons, owR_owns (by simpa using h)]
    simp only [ownA, owFs]
theorem owR_oks {O : List Addr} {G H : Hp} : ∀ {os : List Ow} {xs : List V}, os.length = xs.length → (∀ r ∈ owR os xs, RowOk O G H r) → OwOks (hid O G) H os xs
  | [], [], _, _ => by simp only [OwOks]
  | [], _ :: _, h, _ => by simp at h
  | _ :: _, [], h, _ => by simp at h
  | o :: os, x :: xs, h, k => by
    obtain ⟨y, e, h1⟩ := k (.v (.ow o), some x) List.mem_cons_self
    cases e
    simp only [OwOks]
    exact ⟨x, xs, rfl, h1, owR_oks (by simpa using h) fun r hr => k r (List.mem_cons_of_mem _ hr)⟩
theorem owR_v {r : Rw} (h : r ∈ owR os xs) : ∃ s, r.1 = .v s := by
  obtain ⟨q, _, rfl⟩ := List.mem_map.mp h
  exact ⟨_, rfl⟩
theorem Rep.join {A : List Rw} {s : Sv} {x : Option V} {ob : HO} (R : Rep F (A ++ P) H) (hp : H p = none) (hA : (ownA (.v s, x)).Perm (p :: owns A)) (hv : ∀ r ∈ A, ∃ s, r.1 = .v s) (h : RowOk (ownA (.v s, x) ++ owns P) (F.vis (upd H p ob)) (upd H p ob) (.v s, x)) : Rep F ((.v s, x) :: P) (upd H p ob) := by
  have hno := R.not_own hp
  have hq := R.fresh hp
  have hperm : (ownA (.v s, x) ++ owns P).Perm (p :: owns (A ++ P)) := by
    rw [owns_app]
    exact hA.append_right _
  refine ⟨by rw [owns_cons]; exact hperm.nodup_iff.mpr (List.nodup_cons.mpr ⟨hno, R.nd⟩), fun r hr => ?_, fun r hr a ha => ?_, fun b o h1 h2 => ?_, fun b hb => ?_⟩
  · rw [owns_cons]
    rcases List.mem_cons.mp hr with rfl | hr
    · exact h
    · have hr' : r ∈ A ++ P := List.mem_append_right _ hr
      exact (R.ok r hr').mono (.of fun b u hb => hid_less (fun a ha => hperm.mem_iff.mp ha) b u (hid_new hp hq b u hb)) fun a ha => upd_ne fun z => hno (z ▸ own_mem hr' ha)
  · rcases List.mem_cons.mp hr with rfl | hr
    · rcases List.mem_cons.mp (hA.mem_iff.mp ha) with rfl | ha
      · exact hq
      · obtain ⟨r, hr, e⟩ := List.mem_flatMap.mp ha
        have hf := R.fr r (List.mem_append_left _ hr) a e
        obtain ⟨s', es⟩ := hv r hr
        unfold FrOk at hf
        rw [es] at hf
        exact hf
    · exact R.fr r (List.mem_append_right _ hr) a ha
  · have := R.kp b o h1 h2
    rw [upd_ne fun z => by rw [z, hp] at this; cases this]
    exact this
  · obtain ⟨u, hu⟩ := R.lv b hb
    exact ⟨u, by rw [upd_ne fun z => by rw [z, hp] at hu; cases hu]; exact hu⟩
theorem Rep.bundleL (R : Rep F (owR os xs ++ P) H) (hl : os.length = xs.length) (hp : H p = none) : Rep F ((.v (.ow (.ol p os)), some (.ref p)) :: P) (upd H p (.lst xs)) := by
  have e : ownA (.v (.ow (.ol p os)), some (.ref p)) = p :: owns (owR os xs) := by rw [owR_owns hl]; simp only [ownA, Ow.fp]
  refine R.join hp (by rw [e]) (fun r hr => owR_v hr) ?_
  rw [e]
  have hno := R.not_own hp
  have hq := R.fresh hp
  refine ⟨.ref p, rfl, ?_⟩
  simp only [OwOk]
  refine ⟨trivial, xs, upd_same, ?_⟩
  have h1 := owR_oks hl fun r hr => R.ok r (List.mem_append_left _ hr)
  refine OwOks.mono (.of fun b u hb => ?_) os xs (fun b hb => upd_ne fun z => ?_) h1
  · have := hid_new hp hq (o := .lst xs) b u hb
    rw [owns_app] at this
    exact this
  · rw [owR_owns hl |>.symm] at hb
    exact hno (z ▸ (by rw [owns_app]; exact List.mem_append_left _ hb))
end
end Lf

set_option Elab.async false
set_option linter.all false
set_option maxRecDepth 100000
set_option maxHeartbeats 4000000
namespace Lf
open PySem L2
section
variable {F : Fm} {P A : List Rw} {H H' : Hp} {s : Sv} {x : Option V} {o : Ow} {p : Addr} {os : List Ow} {xs : List V}
theorem Rep.shift (R : Rep F (A ++ P) H) (hA : (ownA (.v s, x)).Perm (owns A)) (hv : ∀ r ∈ A, ∃ s, r.1 = .v s) (e : ∀ b, b ∉ owns A → H' b = H b) (e2 : ∀ b ∈ owns A, ∃ o, H' b = some o) (h : RowOk (ownA (.v s, x) ++ owns P) (F.vis H') H' (.v s, x)) : Rep F ((.v s, x) :: P) H' := by
  have hperm : (ownA (.v s, x) ++ owns P).Perm (owns (A ++ P)) := by
    rw [owns_app]
    exact hA.append_right _
  have hn : ∀ a ∈ owns A, F.H0 a = none := fun a ha => by
    obtain ⟨r, hr, e⟩ := List.mem_flatMap.mp ha
    have hf := R.fr r (List.mem_append_left _ hr) a e
    obtain ⟨s', es⟩ := hv r hr
    unfold FrOk at hf
    rw [es] at hf
    exact hf
  have hnd := R.nd
  rw [owns_app] at hnd
  refine ⟨by rw [owns_cons]; exact hperm.nodup_iff.mpr R.nd, fun r hr => ?_, fun r hr a ha => ?_, fun b o h1 h2 => ?_, fun b hb => ?_⟩
  · rw [owns_cons]
    rcases List.mem_cons.mp hr with rfl | hr
    · exact h
    · have hr' : r ∈ A ++ P := List.mem_append_right _ hr
      refine (R.ok r hr').mono (.of fun b u hb => ?_) fun a ha => e a fun z => (List.nodup_append.mp hnd).2.2 a z a (own_mem hr ha) rfl
      have hb' := hid_some.mp hb
      have hbA : b ∉ owns A := fun z => hb'.1 (by rw [owns_app]; exact List.mem_append_left _ z)
      refine hid_some.mpr ⟨fun z => hb'.1 (hperm.mem_iff.mp z), ?_⟩
      cases q : F.H0 b with
      | none => exact (ext_new q).trans ((congrArg nf (e b hbA)).trans ((ext_new q).symm.trans hb'.2))
      | some w => exact (ext_old q).trans ((ext_old q).symm.trans hb'.2)
  · rcases List.mem_cons.mp hr with rfl | hr
    · exact hn a (hA.mem_iff.mp ha)
    · exact R.fr r (List.mem_append_right _ hr) a ha
  · rw [e b fun z => by rw [hn b z] at h1; cases h1]
    exact R.kp b o h1 h2
  · by_cases z : b ∈ owns A
    · exact e2 b z
    · obtain ⟨u, hu⟩ := R.lv b hb
      exact ⟨u, by rw [e b z]; exact hu⟩
theorem Rep.bundleT (R : Rep F (owR os xs ++ P) H) (hl : os.length = xs.length) (hp : H p = none) : Rep F ((.v (.ow (.ot os)), some (.ref p)) :: P) (upd H p (.tup xs)) := by
  have e : Same H (upd H p (.tup xs)) := same_new hp _
  have hno := R.not_own hp
  have hq := R.fresh hp
  have R1 := R.grow e
  have eA : ownA (.v (.ow (.ot os)), some (.ref p)) = owns (owR os xs) := by rw [owR_owns hl]; simp only [ownA, Ow.fp]
  refine R1.shift (by rw [eA]) (fun r hr => owR_v hr) (fun _ _ => rfl) (fun b hb => R1.own_in (by rw [owns_app]; exact List.mem_append_left _ hb)) ?_
  rw [eA]
  refine ⟨.ref p, rfl, ?_⟩
  simp only [OwOk]
  have h1 := owR_oks hl fun r hr => R1.ok r (List.mem_append_left _ hr)
  rw [owns_app] at h1
  refine ⟨p, xs, rfl, hid_some.mpr ⟨fun z => hno (by rw [owns_app]; exact z), (ext_new hq).trans (by rw [upd_same]; rfl)⟩, h1⟩
end
section
variable {X : Cx} {Ex : ExT} {F : Fm} {i : Nat} {tk tv : XT} {es : List Expr} {u : XA} {pos : Pos}
def xTupO (u : XA) : XT := fun ρ Q => u ρ fun ss ρ' => ∃ os, ss.map Sv.o? = os.map some ∧ ss.length ≤ 1000000 ∧ Q (.ow (.ot os)) ρ'
theorem Rep.tmpsO {P : List Rw} {H : Hp} : ∀ {ss : List Sv} {os : List Ow} {vs : List V}, ss.length = vs.length → ss.map Sv.o? = os.map some → Rep F (tmps ss vs ++ P) H → Rep F (owR os vs ++ P) H
  | [], [], [], _, _, R => R
  | [], [], _ :: _, h, _, _ => by simp at h
  | [], _ :: _, _, _, h, _ => by simp at h
  | _ :: _, [], _, _, h, _ => by simp at h
  | _ :: _, _ :: _, [], h, _, _ => by simp at h
  | s :: ss, o :: os, v :: vs, h, e, R => by
    have e' := List.cons.inj e
    have R1 : Rep F ((.v s, some v) :: (tmps ss vs ++ P)) H := R
    have R2 := R1.toOw e'.1
    have R3 : Rep F (tmps ss vs ++ ((.v (.ow o), some v) :: P)) H := R2.perm mid.symm
    have R4 := Rep.tmpsO (by simpa using h) e'.2 R3
    exact R4.perm mid
theorem xe_tupO {j : Nat} (h : XAs X Ex es u) : XE X Ex (.Tuple es j pos) (xTupO u) := fun F => (pe_tup (h F)).weak fun σ H Q => by
  rintro ⟨ρ, fr, Qx, E, t, k⟩
  refine ⟨ρ, fr, _, E, t, fun vs ss H2 ρ2 hl E2 q2 => ?_⟩
  obtain ⟨os, ho, hz, q2⟩ := q2
  refine ⟨by have := line1; omega, fun p hp => ?_⟩
  have R1 : Rep F (tmps ss vs ++ (ρ2.zip σ ++ fr)) H2 := E2.rep.perm (List.perm_append_comm_assoc _ _ _)
  have hlo : os.length = vs.length := by have := congrArg List.length ho; rw [List.length_map, List.length_map] at this; omega
  exact k _ _ _ ρ2 (EOk.back E2.len ((Rep.tmpsO hl ho R1).bundleT hlo hp)) q2
end
end Lf

set_option Elab.async false
set_option linter.all false
set_option maxRecDepth 100000
set_option maxHeartbeats 4000000
namespace Lf
open PySem L2
theorem strsAre_of : ∀ {ks : List Str} {us : List Value}, Vals (ks.map V.str) us → PyProof.Rows.StrsAre us ks
  | [], us, h => by cases h; exact .nil
  | k :: ks, us, h => by
    cases h with
    | cons r t =>
      obtain ⟨tk, rfl⟩ := r
      exact .cons k tk (strsAre_of t)
theorem vals_strs : ∀ {us : List Value} {ks : List Str}, PyProof.Rows.StrsAre us ks → Vals (ks.map V.str) us
  | _, _, .nil => .nil
  | _, _, .cons y t h => .cons ⟨t, rfl⟩ (vals_strs h)
section
variable {X : Cx} {Ex : ExT}
def rSortD : List V → Hp → VK → Prop := fun xs H Q => ∃ a kvs ks, xs = [V.ref a] ∧ Rd H a (.dK kvs) ∧ (kvs.map (·.1) = ks.map Sum.inr) ∧ ks.length < 64 ∧ ∀ ss : List Str, ss.Perm ks → PyProof.Rows.sortedS ss = true → ∀ l, H l = none → Q (.ref l) (upd H l (.lst (ss.map V.str)))
theorem call_sortedD (hc : X.calm = true) : CallR X (.builtin "sorted") rSortD := by
  intro pins s σ H xs us Q I r h
  obtain ⟨a, kvs, ks, rfl, ha, hks, h64, q⟩ := h
  obtain ⟨u, rfl, rx⟩ := vals1 r
  cases rx
  obtain ⟨z, hd, vs, rel, dd⟩ := dk_rd I.hok ha
  obtain ⟨o, es, ep, h1, h2, h3, h4⟩ := dd
  have hl : kvs.length = vs.length := rel.length
  have hkl : kvs.length = ks.length := by have := congrArg List.length hks; rwa [List.length_map, List.length_map] at this
  refine Calls.call_function_entry PyProof.Rows.kind_sorted PyProof.Rows.plain_sorted PyProof.Rows.entry_sorted (PyProof.Rows.args_sorted1 _) ?_
  unfold Builtin.«sorted»
  refine wpAny_bind (m := checkCount "sorted" 1 1 _) (wpAny_pure ?_)
  refine wpAny_bind (PySem.W.kdu_collect (A := X.A.in1) (PySem.W.kdl_dict (knd := mixKind X.prog X.w) (kvs := vs) (ep := ep) hd) (I.ok.hd hc) ⟨o, es, h1, h2, h3, h4⟩ (by omega) fun h' tk acc hk hacc => ?_)
  have hv : Vals (ks.map V.str) acc.toList := by
    refine vals_of (by have h5 := hacc.1; have h6 := Array.length_toList (xs := acc); rw [List.length_map]; omega) fun i x u e1 e2 => ?_
    rw [Array.getElem?_toList] at e2
    obtain ⟨k, y, e3, e4⟩ := hacc.2 i u e2
    rw [List.getElem?_map] at e1
    obtain ⟨kx, e5, rfl⟩ := Option.map_eq_some_iff.mp e1
    have e6 : (kvs.map (·.1))[i]? = some (Sum.inr kx) := by rw [hks, List.getElem?_map, e5]; rfl
    rw [List.getElem?_map] at e6
    obtain ⟨kv, e7, e8⟩ := Option.map_eq_some_iff.mp e6
    obtain ⟨v', e9⟩ := rel.at' e7
    rw [e3] at e9
    cases e9
    have := is_kV e4
    rw [e8] at this
    exact this
  have hS := strsAre_of hv
  have hal : acc.toList.length = ks.length := by rw [Array.length_toList, hacc.1]; omega
  refine wpAny_bind (wpAny_newList ?_ (by rw [hal, sizeLine_eq]; omega))
  have hoL : (h'.push (PyProof.Rows.seqObj "list" acc.toList.toArray 0)).get? h'.objs.size = some (PyProof.Rows.seqObj "list" acc.toList.toArray 0) := Heap.get?_push_size _ rfl
  show wpAny _ _ _ _ _ { s with heap := h'.push (PyProof.Rows.seqObj "list" acc.toList.toArray 0), toks := tk }
  refine wpAny_bind (wpAny_holding (wpAny_call_entry PyProof.Rows.slot_list_sort ⟨_, hoL, rfl⟩ PyProof.Rows.entry_list_sort (PyProof.Rows.list_sort_treeK PyProof.Rows.strKind_oneLt hoL hS.keysOf (fun v₁ v₂ rest e => PyProof.Rows.keyKind_strs (by rw [← e]; exact hS)) (by rw [hal]; exact h64) fun st' a1 a2 => ⟨_, rfl, ?_⟩) (PyProof.Rows.args_list_sort _)))
  obtain ⟨ss, b1, b2, b3⟩ := PyProof.Rows.sorted_out_str hS a1 a2
  obtain ⟨e, he⟩ := PyProof.Rows.sortedHeap_at (out := (PyProof.Rows.arrOf st').map (·.2)) hoL
  have hkeep : ∀ b ob, h'.get? b = some ob → (PyProof.Rows.sortedHeap (h'.push (PyProof.Rows.seqObj "list" acc.toList.toArray 0)) h'.objs.size acc.toList ((PyProof.Rows.arrOf st').map (·.2))).get? b = some ob := fun b ob hb => by
    have hlt := Heap.lt_size hb
    rw [PyProof.Rows.sortedHeap_old (Nat.ne_of_lt hlt) (by rw [PyProof.Rows.size_push']; exact Nat.lt_succ_of_lt hlt), Heap.get?_push_ne _ _ _ (Nat.ne_of_lt hlt)]
    exact hb
  refine wpAny_pure ⟨_, rfl, .ref h'.objs.size, _, (I.kept (t' := tk) hk).laid (t' := tk) hkeep (Nat.le_refl _) (show ObjOk X.prog X.w _ _ _ (.lst (ss.map V.str)) from ⟨by rw [List.length_map, b2.length_eq, sizeLine_eq]; omega, _, e, vals_strs b1, by rw [Array.toArray_toList]; exact he⟩), rfl, q ss b2 b3 _ ((I.kept (t' := tk) hk).hok.fresh (Nat.le_refl _))⟩
def txtI (n : Int) : Str := Str.ofString (toString n)
theorem call_strI : CallR X (.type "str") (fun xs H Q => ∃ n : Int, xs = [.int n] ∧ 0 ≤ n ∧ n < 1000000000 ∧ Q (.str (txtI n)) H) := by
  intro pins s σ H xs us Q I r h
  obtain ⟨n, rfl, h0, h1, q⟩ := h
  obtain ⟨u, rfl, rx⟩ := vals1 r
  obtain ⟨t, rfl⟩ := rx
  exact PyProof.Rows.str_of_int_fit (N := 1000000000) (by rw [if_neg (by omega)]; exact h1) (by decide) fun _ => ⟨.str (txtI n), H, I.tok _, ⟨_, rfl⟩, q⟩
end
end Lf

set_option Elab.async false
set_option linter.all false
set_option maxRecDepth 100000
set_option maxHeartbeats 4000000
namespace Lf
open PySem L2
section
variable {F : Fm} {P A A' : List Rw} {H H' : Hp}
theorem Rep.alter (R : Rep F (A ++ P) H) (hA : (owns A').Nodup) (hs : ∀ a ∈ owns A', a ∈ owns A) (hv : ∀ r ∈ A, ∃ s, r.1 = .v s) (hv' : ∀ r ∈ A', ∃ s, r.1 = .v s) (e : ∀ b u, b ∉ owns A → H b = some u → H' b = some u) (e2 : ∀ b ∈ owns A, ∃ o, H' b = some o) (h : ∀ r ∈ A', RowOk (owns A' ++ owns P) (F.vis H') H' r) : Rep F (A' ++ P) H' := by
  have hsub : ∀ a ∈ owns A' ++ owns P, a ∈ owns (A ++ P) := fun a ha => by
    rw [owns_app]
    rcases List.mem_append.mp ha with ha | ha
    · exact List.mem_append_left _ (hs a ha)
    · exact List.mem_append_right _ ha
  have hn : ∀ a ∈ owns A, F.H0 a = none := fun a ha => by
    obtain ⟨r, hr, e⟩ := List.mem_flatMap.mp ha
    have hf := R.fr r (List.mem_append_left _ hr) a e
    obtain ⟨s', es⟩ := hv r hr
    unfold FrOk at hf
    rw [es] at hf
    exact hf
  have hnd := R.nd
  rw [owns_app] at hnd
  refine ⟨by rw [owns_app]; exact List.nodup_append.mpr ⟨hA, (List.nodup_append.mp hnd).2.1, fun a h1 b h2 z => (List.nodup_append.mp hnd).2.2 a (hs a h1) b h2 z⟩, fun r hr => ?_, fun r hr a ha => ?_, fun b o h1 h2 => ?_, fun b hb => ?_⟩
  · rw [owns_app]
    rcases List.mem_append.mp hr with hr | hr
    · exact h r hr
    · have hr' : r ∈ A ++ P := List.mem_append_right _ hr
      refine (R.ok r hr').mono (.of fun b u hb => ?_) fun a ha => ?_
      · have hb' := hid_some.mp hb
        have hbA : b ∉ owns A := fun z => hb'.1 (by rw [owns_app]; exact List.mem_append_left _ z)
        refine hid_some.mpr ⟨fun z => hb'.1 (hsub b z), ?_⟩
        cases q : F.H0 b with
        | none => exact (ext_new q).trans (nf_mono ((ext_new q).symm.trans hb'.2) fun o ho => e b o hbA ho)
        | some w => exact (ext_old q).trans ((ext_old q).symm.trans hb'.2)
      · obtain ⟨o, ho⟩ := R.own_in (own_mem hr' ha)
        rw [ho]
        exact e a o (fun z => (List.nodup_append.mp hnd).2.2 a z a (own_mem hr ha) rfl) ho
  · rcases List.mem_append.mp hr with hr | hr
    · have : a ∈ owns A := hs a (own_mem hr ha)
      obtain ⟨s', es⟩ := hv' r hr
      unfold FrOk
      rw [es]
      exact hn a this
    · exact R.fr r (List.mem_append_right _ hr) a ha
  · exact e b o (fun z => by rw [hn b z] at h1; cases h1) (R.kp b o h1 h2)
  · by_cases z : b ∈ owns A
    · exact e2 b z
    · obtain ⟨u, hu⟩ := R.lv b hb
      exact ⟨u, e b u z hu⟩
end
end Lf

set_option Elab.async false
set_option linter.all false
set_option maxRecDepth 100000
set_option maxHeartbeats 4000000
namespace Lf
open PySem L2
abbrev FsO := List (Str × Ow)
abbrev GO := Addr → FsO → List Dx → (Sv → FsO → Prop) → Prop
def spO (g : GO) : Sp := fun vs H Q _ => ∃ (F : Fm) (C a dx : Addr) (l : FsO) (vr : List V) (ds : List Dx) (Qx : Sv → FsO → Prop), vs = .ref a :: vr ∧ F.H0 = H ∧ F.B = (Ow.oi C a dx l).fp ∧ ds.length = vr.length ∧ Rep F ((.bo (.oi C a dx l), some (.ref a)) :: tmps (ds.map .tr) vr) H ∧ g C l ds Qx ∧
  ∀ s v l' H', Rep F [(.bo (.oi C a dx l'), some (.ref a)), (.v s, some v)] H' → Qx s l' → Q v H'
def objOf : Sl → Option (Addr × Addr × Addr × FsO × (Ow → Sl))
  | .bo (.oi C a dx l) => some (C, a, dx, l, .bo)
  | .v (.ow (.oi C a dx l)) => some (C, a, dx, l, fun o => .v (.ow o))
  | _ => none
abbrev objAt (ρ : En) (i : Nat) : Option (Addr × Addr × Addr × FsO × (Ow → Sl)) := (ρ[i]?).bind objOf
def xCallO (g : GO) (i : Nat) (u : XA) : XT := fun ρ Q => (objAt ρ i).isSome = true ∧ u ρ fun ss ρ' => match objAt ρ' i with
  | some (C, a, dx, l, f) => g C l (ss.map Sv.d) fun s l' => Q s (ρ'.set i (f (.oi C a dx l')))
  | none => False
def xMethO (C0 : Addr) (m : Str) (g : GO) (i : Nat) (u : XA) : XT := fun ρ Q => (match objAt ρ i with
  | some (C, _, _, l, _) => C = C0 ∧ l.lookup m = none
  | none => False) ∧ u ρ fun ss ρ' => match objAt ρ' i with
  | some (C, a, dx, l, f) => g C l (ss.map Sv.d) fun s l' => Q s (ρ'.set i (f (.oi C a dx l')))
  | none => False
def xMakeO (C : Addr) (g : GO) (u : XA) : XT := fun ρ Q => u ρ fun ss ρ' => ∀ a dx, g C [] (ss.map Sv.d) fun s l' => s.d = .non ∧ Q (.ow (.oi C a dx l')) ρ'
def xFld (C0 : Addr) (f : Str) (i : Nat) : XT := fun ρ Q => match objAt ρ i with
  | some (C, _, _, l, _) => C = C0 ∧ (match l.lookup f with
    | some (.tr d) => Q (.tr d) ρ
    | _ => False)
  | none => False
def putFO (f : Str) (o : Ow) : FsO → FsO
  | [] => [(f, o)]
  | (g, x) :: r => if g = f then (g, o) :: r else (g, x) :: putFO f o r
def xSetF (C0 : Addr) (f : Str) (i : Nat) (t : XT) : XS := fun ρ D => t ρ fun s ρ' => match objAt ρ' i with
  | some (C, a, dx, l, g) => C = C0 ∧ l.length < 1000 ∧ (∀ o, l.lookup f = some o → ∃ d, o = .tr d) ∧ D.nx (ρ'.set i (g (.oi C a dx (putFO f (.tr s.d) l))))
  | none => False
section
variable {F F' : Fm} {P A' : List Rw} {H H' : Hp} {r : Rw} {sl : Sl} {x : Option V} {C a dx : Addr} {l l' : FsO} {f : Ow → Sl}
theorem Rep.back (R : Rep F (r :: P) H) (h0 : F'.H0 = H) (hB : F'.B = ownA r) (hS : F'.Hs = hid (owns (r :: P)) (F.vis H)) (R' : Rep F' A' H') (hv : ∀ q ∈ A', (∃ o, q.1 = .bo o) ∨ ∃ s, q.1 = .v s) : Rep F (A' ++ P) H' := by
  have hr : ∀ b ∈ ownA r, b ∈ F.B ∨ F.H0 b = none := fun b hb => (R.fr r List.mem_cons_self b hb).or
  have nd := R.nd
  rw [owns_cons] at nd
  have hdis : ∀ b ∈ ownA r, b ∉ owns P := fun b h1 h2 => (List.nodup_append.mp nd).2.2 b h1 b h2 rfl
  have hnew : ∀ b ∈ owns A', b ∈ ownA r ∨ H b = none := fun b hb => by
    obtain ⟨q, hq, e⟩ := List.mem_flatMap.mp hb
    have := (R'.fr q hq b e).or
    rw [hB, h0] at this
    exact this
  have hkeep : ∀ b u, b ∉ ownA r → H b = some u → H' b = some u := fun b u h1 h2 => R'.kp b u (by rw [h0]; exact h2) (by rw [hB]; exact h1)
  have hvis : ∀ b u, b ∉ ownA r → F.vis H b = some u → F.vis H' b = some u := fun b u h1 h2 => by
    cases q : F.H0 b with
    | none => exact (ext_new q).trans (nf_mono ((ext_new q).symm.trans h2) fun o h => hkeep b o h1 h)
    | some w => exact (ext_old q).trans ((ext_old q).symm.trans h2)
  have hPP : ∀ b ∈ owns P, b ∉ owns A' := fun b h1 h2 => by
    rcases hnew b h2 with h | h
    · exact hdis b h h1
    · exact R.not_own h (by rw [owns_cons]; exact List.mem_append_right _ h1)
  refine ⟨?_, fun q hq => ?_, fun q hq b hb => ?_, fun b u h1 h2 => ?_, fun b hb => ?_⟩
  · rw [owns_app]
    exact List.nodup_append.mpr ⟨R'.nd, (List.nodup_append.mp nd).2.1, fun a h1 b h2 z => hPP b h2 (z ▸ h1)⟩
  · rw [owns_app]
    rcases List.mem_append.mp hq with hq | hq
    · refine (R'.ok q hq).mono (.of fun b u hb => ?_) fun _ _ => rfl
      obtain ⟨k1, k2⟩ := hid_some.mp hb
      cases z : H b with
      | none =>
        have k2 := (ext_new (by rw [h0]; exact z)).symm.trans k2
        refine hid_some.mpr ⟨fun w => (List.mem_append.mp w).elim k1 fun w => R.not_own z (by rw [owns_cons]; exact List.mem_append_right _ w), (ext_new (R.fresh z)).trans k2⟩
      | some w =>
        have k2 := (ext_old (by rw [h0]; exact z)).symm.trans k2
        rw [hS] at k2
        obtain ⟨k3, k4⟩ := hid_some.mp k2
        rw [owns_cons] at k3
        exact hid_some.mpr ⟨fun w => (List.mem_append.mp w).elim k1 fun w => k3 (List.mem_append_right _ w), hvis b u (fun w => k3 (List.mem_append_left _ w)) k4⟩
    · refine (R.ok q (List.mem_cons_of_mem _ hq)).mono (.of fun b u hb => ?_) fun b hb => ?_
      · obtain ⟨k3, k4⟩ := hid_some.mp hb
        rw [owns_cons] at k3
        have k5 : b ∉ ownA r := fun w => k3 (List.mem_append_left _ w)
        refine hid_some.mpr ⟨fun w => (List.mem_append.mp w).elim (fun w => ?_) fun w => k3 (List.mem_append_right _ w), hvis b u k5 k4⟩
        rcases hnew b w with h | h
        · exact k5 h
        · have := R.vis _ _ k4; rw [h] at this; cases this
      · have hbP := own_mem hq hb
        obtain ⟨u, hu⟩ := R.own_in (own_mem (List.mem_cons_of_mem _ hq) hb)
        rw [hu, hkeep b u (fun w => hdis b w hbP) hu]
  · rcases List.mem_append.mp hq with hq | hq
    · have hf := R'.fr q hq b hb
      obtain ⟨q1, q2⟩ := q
      rcases hv _ hq with ⟨o, e⟩ | ⟨s, e⟩
      · cases (show q1 = Sl.bo o from e)
        have hf : b ∈ F'.B ∨ F'.H0 b = none := hf
        rw [hB, h0] at hf
        rcases hf with h | h
        · exact hr b h
        · exact .inr (R.fresh h)
      · cases (show q1 = Sl.v s from e)
        have hf : F'.H0 b = none := hf
        rw [h0] at hf
        exact R.fresh hf
    · exact R.fr q (List.mem_cons_of_mem _ hq) b hb
  · by_cases z : b ∈ ownA r
    · rcases hr b z with h | h
      · exact absurd h h2
      · rw [h] at h1; cases h1
    · exact hkeep b u z (R.kp b u h1 h2)
  · by_cases z : b ∈ ownA r
    · exact R'.lv b (by rw [hB]; exact z)
    · obtain ⟨u, hu⟩ := R.lv b hb
      exact ⟨u, hkeep b u z hu⟩
theorem Rep.boOw {o : Ow} (R : Rep F ((.bo o, x) :: P) H) (h : ∀ b ∈ o.fp, F.H0 b = none) : Rep F ((.v (.ow o), x) :: P) H := by
  have e : owns ((.v (.ow o), x) :: P) = owns ((.bo o, x) :: P) := by rw [owns_cons, owns_cons]; rfl
  refine ⟨by rw [e]; exact R.nd, fun r hr => ?_, fun r hr b hb => ?_, R.kp, R.lv⟩
  · rw [e]
    rcases List.mem_cons.mp hr with rfl | hr
    · exact R.ok (.bo o, x) List.mem_cons_self
    · exact R.ok r (List.mem_cons_of_mem _ hr)
  · rcases List.mem_cons.mp hr with rfl | hr
    · exact h b hb
    · exact R.fr r (List.mem_cons_of_mem _ hr) b hb
theorem obj_row (h : objOf sl = some (C, a, dx, l, f)) (R : Rep F ((sl, x) :: P) H) : x = some (.ref a) ∧ ownA (sl, x) = (Ow.oi C a dx l).fp ∧ OwOk (hid (owns ((sl, x) :: P)) (F.vis H)) H (.oi C a dx l) (.ref a) ∧
    ((sl = .bo (.oi C a dx l) ∧ f = .bo) ∨ (sl = .v (.ow (.oi C a dx l)) ∧ f = fun o => .v (.ow o))) := by
  match sl, h with
  | .bo (.oi C a dx l), h =>
    cases h
    obtain ⟨v, e, h2⟩ := R.ok _ List.mem_cons_self
    have e2 := h2
    simp only [OwOk] at e2
    obtain ⟨rfl, _⟩ := e2
    subst e
    exact ⟨rfl, rfl, h2, .inl ⟨rfl, rfl⟩⟩
  | .v (.ow (.oi C a dx l)), h =>
    cases h
    obtain ⟨v, e, h2⟩ := R.ok _ List.mem_cons_self
    have e2 := h2
    simp only [OwOk] at e2
    obtain ⟨rfl, _⟩ := e2
    subst e
    exact ⟨rfl, rfl, h2, .inr ⟨rfl, rfl⟩⟩
theorem OwOk.ins (h : OwOk (hid (owns P) (F.vis H)) H' (.oi C a dx l) (.ref a)) : ∃ ws, H' a = some (.ins C dx ws) ∧ H' dx = some (.own a) ∧ OwOkf (hid (owns P) (F.vis H)) H' l ws := by
  simp only [OwOk] at h
  obtain ⟨_, ws, h1, h2, h3⟩ := h
  exact ⟨ws, h1, h2, h3⟩
theorem Rep.lend (h : objOf sl = some (C, a, dx, l, f)) (R : Rep F ((sl, x) :: P) H) : ∃ F' : Fm, F'.H0 = H ∧ F'.B = (Ow.oi C a dx l).fp ∧ F'.Hs = hid (owns ((sl, x) :: P)) (F.vis H) ∧ Rep F' [(.bo (.oi C a dx l), some (.ref a))] H ∧
    ∀ {s : Sv} {v : V} {l' : FsO} {H' : Hp}, Rep F' [(.bo (.oi C a dx l'), some (.ref a)), (.v s, some v)] H' → Rep F ((.v s, some v) :: (f (.oi C a dx l'), x) :: P) H' := by
  obtain ⟨rfl, hA, hO, hf⟩ := obj_row h R
  have hin : ∀ b ∈ (Ow.oi C a dx l).fp, b ∈ owns ((sl, some (.ref a)) :: P) := fun b hb => by rw [owns_cons, hA]; exact List.mem_append_left _ hb
  have nb : ∀ b ∈ (Ow.oi C a dx l).fp, hid (owns ((sl, some (.ref a)) :: P)) (F.vis H) b = none := fun b hb => by unfold hid; rw [if_pos (hin b hb)]
  have ib : ∀ b ∈ (Ow.oi C a dx l).fp, ∃ o, H b = some o := fun b hb => R.own_in (hin b hb)
  refine ⟨⟨H, hid (owns ((sl, some (.ref a)) :: P)) (F.vis H), (Ow.oi C a dx l).fp, R.hv, nb, ib⟩, rfl, rfl, rfl, ?_, fun {s v l' H'} R' => ?_⟩
  · have e : owns [((Sl.bo (.oi C a dx l), some (V.ref a)) : Rw)] = (Ow.oi C a dx l).fp := by rw [owns_cons]; exact List.append_nil _
    refine ⟨?_, fun r hr => ?_, fun r hr b hb => ?_, fun b o hb _ => hb, ib⟩
    · rw [e, ← hA]
      have := R.nd
      rw [owns_cons] at this
      exact (List.nodup_append.mp this).1
    · rw [List.mem_singleton.mp hr, e]
      refine ⟨_, rfl, OwOk.mono (.of fun b u hb => ?_) _ _ (fun _ _ => rfl) hO⟩
      have hb' := hid_some.mp hb
      exact hid_some.mpr ⟨fun z => hb'.1 (hin b z), (ext_old (R.hv _ _ hb)).trans hb⟩
    · rw [List.mem_singleton.mp hr] at hb ⊢
      exact .inl hb
  · have R2 := R.back (F' := ⟨H, hid (owns ((sl, some (.ref a)) :: P)) (F.vis H), (Ow.oi C a dx l).fp, R.hv, nb, ib⟩) rfl hA.symm rfl R' fun q hq => by
      rcases List.mem_cons.mp hq with rfl | hq
      · exact .inl ⟨_, rfl⟩
      · rw [List.mem_singleton.mp hq]; exact .inr ⟨_, rfl⟩
    rcases hf with ⟨e1, rfl⟩ | ⟨e1, rfl⟩
    · exact R2.perm (.swap _ _ _)
    · refine Rep.perm (R2.boOw fun b hb => ?_) (.swap _ _ _)
      have hfr : b ∈ (Ow.oi C a dx l).fp ∨ H b = none := R'.fr _ List.mem_cons_self b hb
      rcases hfr with hb | hb
      · have := R.fr _ List.mem_cons_self b (by rw [hA]; exact hb)
        rw [e1] at this
        exact this
      · exact R.fresh hb
theorem OwOkf.look {G : Hp} {f : Str} {o : Ow} : ∀ {l : FsO} {ws : List (Str × V)}, OwOkf G H l ws → l.lookup f = some o → ∃ v, ws.lookup f = some v ∧ OwOk G H o v
  | [], _, _, e => by simp at e
  | (g, y) :: r, ws, h, e => by
    simp only [OwOkf] at h
    obtain ⟨w, wr, rfl, ⟨h1, h2⟩, h3⟩ := h
    obtain ⟨w1, w2⟩ := w
    cases (show g = w1 from h1)
    by_cases z : f = g
    · subst z
      rw [List.lookup_cons_self] at e ⊢
      cases e
      exact ⟨w2, rfl, h2⟩
    · have hz : (f == g) = false := by simpa using z
      rw [List.lookup_cons, hz] at e ⊢
      exact OwOkf.look h3 e
theorem OwOkf.miss {G : Hp} {f : Str} : ∀ {l : FsO} {ws : List (Str × V)}, OwOkf G H l ws → l.lookup f = none → ws.lookup f = none
  | [], _, h, _ => by simp only [OwOkf] at h; rw [h]; rfl
  | (g, y) :: r, ws, h, e => by
    simp only [OwOkf] at h
    obtain ⟨w, wr, rfl, ⟨h1, h2⟩, h3⟩ := h
    obtain ⟨w1, w2⟩ := w
    cases (show g = w1 from h1)
    by_cases z : f = g
    · subst z
      rw [List.lookup_cons_self] at e
      cases e
    · have hz : (f == g) = false := by simpa using z
      rw [List.lookup_cons, hz] at e ⊢
      exact OwOkf.miss h3 e
theorem OwOkf.len {G : Hp} : ∀ {l : FsO} {ws : List (Str × V)}, OwOkf G H l ws → ws.length = l.length
  | [], _, h => by simp only [OwOkf] at h; rw [h]; rfl
  | (g, y) :: r, ws, h => by
    simp only [OwOkf] at h
    obtain ⟨w, wr, rfl, _, h3⟩ := h
    rw [List.length_cons, List.length_cons, OwOkf.len h3]
theorem OwOkf.put {G : Hp} {f : Str} {d : Dx} {v : V} (hd : IsX G d v) : ∀ {l : FsO} {ws : List (Str × V)}, OwOkf G H l ws → OwOkf G H (putFO f (.tr d) l) (putF f v ws)
  | [], _, h => by
    simp only [OwOkf] at h
    subst h
    simp only [putFO, putF, OwOkf, OwOk]
    exact ⟨_, _, rfl, ⟨rfl, hd⟩, rfl⟩
  | (g, y) :: r, ws, h => by
    simp only [OwOkf] at h
    obtain ⟨w, wr, rfl, ⟨h1, h2⟩, h3⟩ := h
    obtain ⟨w1, w2⟩ := w
    cases (show g = w1 from h1)
    by_cases z : g = f
    · simp only [putFO, putF, if_pos z, OwOkf, OwOk]
      exact ⟨_, _, rfl, ⟨rfl, hd⟩, h3⟩
    · simp only [putFO, putF, if_neg z, OwOkf]
      exact ⟨_, _, rfl, ⟨rfl, h2⟩, OwOkf.put hd h3⟩
theorem putFO_fp {f : Str} {d : Dx} : ∀ {l : FsO}, (∀ o, l.lookup f = some o → ∃ d, o = .tr d) → owFf (putFO f (.tr d) l) = owFf l
  | [], _ => by simp only [putFO, owFf, Ow.fp, List.append_nil]
  | (g, y) :: r, h => by
    by_cases z : g = f
    · subst z
      obtain ⟨d', rfl⟩ := h y List.lookup_cons_self
      simp only [putFO, if_pos, owFf, Ow.fp]
    · have hz : (f == g) = false := by simpa using fun e => z e.symm
      simp only [putFO, if_neg z, owFf]
      rw [putFO_fp fun o ho => h o (by rw [List.lookup_cons, hz]; exact ho)]
theorem Rep.setF {fl : Str} {d : Dx} {v : V} {ws : List (Str × V)} (h : objOf sl = some (C, a, dx, l, f)) (R : Rep F ((sl, x) :: P) H) (hn : ∀ o, l.lookup fl = some o → ∃ d, o = .tr d) (hd : IsX (hid (owns ((sl, x) :: P)) (F.vis H)) d v) (hw : H a = some (.ins C dx ws)) :
    Rep F ((f (.oi C a dx (putFO fl (.tr d) l)), x) :: P) (upd H a (.ins C dx (putF fl v ws))) := by
  obtain ⟨F', h0, hB, hS, R1, bk⟩ := R.lend h
  obtain ⟨rfl, hA, hO, hf⟩ := obj_row h R
  obtain ⟨ws', h1, h2, h3⟩ := OwOk.ins hO
  rw [hw] at h1
  cases h1
  have hfp : (Ow.oi C a dx (putFO fl (.tr d) l)).fp = (Ow.oi C a dx l).fp := by simp only [Ow.fp, putFO_fp hn]
  have hnd := R1.nd
  have e1 : owns [((Sl.bo (.oi C a dx l), some (V.ref a)) : Rw)] = (Ow.oi C a dx l).fp := by rw [owns_cons]; exact List.append_nil _
  have e2 : owns [((Sl.bo (.oi C a dx (putFO fl (.tr d) l)), some (V.ref a)) : Rw)] = (Ow.oi C a dx l).fp := by rw [owns_cons, ← hfp]; exact List.append_nil _
  rw [e1] at hnd
  simp only [Ow.fp] at hnd
  have hna := (List.nodup_cons.mp hnd).1
  have hdx : dx ≠ a := fun z => hna (by rw [z]; exact List.mem_cons_self)
  have hff : ∀ b ∈ owFf l, b ≠ a := fun b hb z => hna (List.mem_cons_of_mem _ (z ▸ hb))
  have haB : a ∈ F'.B := by rw [hB]; simp only [Ow.fp]; exact List.mem_cons_self
  have hin : ∀ b ∈ (Ow.oi C a dx l).fp, b ∈ owns ((sl, some (.ref a)) :: P) := fun b hb => by rw [owns_cons, hA]; exact List.mem_append_left _ hb
  have R2 : Rep F' [(.bo (.oi C a dx (putFO fl (.tr d) l)), some (.ref a))] (upd H a (.ins C dx (putF fl v ws))) := by
    refine ⟨by rw [e2, ← e1]; exact R1.nd, fun r hr => ?_, fun r hr b hb => ?_, fun b o hb hb2 => ?_, fun b hb => ?_⟩
    · rw [List.mem_singleton.mp hr, e2]
      refine ⟨_, rfl, ?_⟩
      simp only [OwOk]
      refine ⟨trivial, _, upd_same, by rw [upd_ne hdx]; exact h2, ?_⟩
      refine OwOkf.mono (.of fun b u hb => ?_) _ _ (fun b hb => upd_ne (hff b (by rw [putFO_fp hn] at hb; exact hb))) (OwOkf.put hd h3)
      have hb' := hid_some.mp hb
      exact hid_some.mpr ⟨fun z => hb'.1 (hin b z), (ext_old (by rw [h0]; exact R.hv _ _ hb)).trans (by rw [hS]; exact hb)⟩
    · rw [List.mem_singleton.mp hr] at hb ⊢
      refine .inl ?_
      rw [hB, ← hfp]
      exact hb
    · have hba : b ≠ a := fun z => hb2 (by rw [z]; exact haB)
      rw [upd_ne hba]
      rw [h0] at hb
      exact hb
    · by_cases z : b = a
      · exact ⟨_, by rw [z]; exact upd_same⟩
      · rw [upd_ne z]
        obtain ⟨o, ho⟩ := F'.ib b hb
        rw [h0] at ho
        exact ⟨o, ho⟩
  have R3 := bk (s := .tr .non) (v := .non) (Rep.perm (R2.add (d := .non) (v := .non) IsX.of_non) (.swap _ _ _))
  exact R3.tail
end
theorem rep_tmps {F : Fm} {H : Hp} : ∀ {ds : List Dx} {vs : List V} {P : List Rw}, Rep F P H → All2 (IsX (hid (owns P) (F.vis H))) ds vs → Rep F (tmps (ds.map .tr) vs ++ P) H ∧ owns (tmps (ds.map .tr) vs ++ P) = owns P
  | [], _, P, R, e => by rw [show _ = [] from e]; exact ⟨R, rfl⟩
  | d :: ds, _, P, R, ⟨y, yr, e, h1, h2⟩ => by
    subst e
    obtain ⟨R2, e2⟩ := rep_tmps R h2
    refine ⟨Rep.add (P := tmps (ds.map .tr) yr ++ P) (d := d) (v := y) R2 (by rw [e2]; exact h1), ?_⟩
    show owns ((.v (.tr d), some y) :: (tmps (ds.map .tr) yr ++ P)) = _
    rw [owns_none rfl, e2]
theorem spO_run {F : Fm} {ρ2 : En} {σ : St} {fr : List Rw} {H2 : Hp} {ss : List Sv} {vs : List V} {g : GO} {i : Nat} {Q : VK} {Qx : Sv → En → Prop} {a0 : Addr} {Ek : XK} (hvi : σ[i]? = some (some (.ref a0))) (hl : ss.length = vs.length) (E2 : EOk F ρ2 σ (tmps ss vs ++ fr) H2)
    (q2 : match objAt ρ2 i with
      | some (C, a, dx, l, f) => g C l (ss.map Sv.d) fun s l' => Qx s (ρ2.set i (f (.oi C a dx l')))
      | none => False)
    (k : ∀ v s H' ρ', EOk F ρ' σ ((.v s, some v) :: fr) H' → Qx s ρ' → Q v H') : spO g (.ref a0 :: vs) H2 Q Ek := by
  obtain ⟨R, hs⟩ := E2.many hl
  split at q2
  · rename_i C a dx l f hb
    obtain ⟨sl, h3, h4⟩ := Option.bind_eq_some_iff.mp hb
    have E3 : EOk F ρ2 σ fr H2 := ⟨E2.len, R⟩
    obtain ⟨v', hv', hi', R2⟩ := eok_slot E3 h3
    rw [hvi] at hv'
    cases hv'
    obtain ⟨ex, hA, _⟩ := obj_row h4 R2
    cases ex
    obtain ⟨F', h0, hB, hS, R1, bk⟩ := R2.lend h4
    have hO : (owns (ρ2.zip σ ++ fr)).Perm (owns ((sl, some (V.ref a0)) :: ((ρ2.zip σ).eraseIdx i ++ fr))) := ((zip_pull h3 hvi).append_right fr).flatMap_right _
    have e1 : owns [((Sl.bo (.oi C a0 dx l), some (V.ref a0)) : Rw)] = (Ow.oi C a0 dx l).fp := by rw [owns_cons]; exact List.append_nil _
    have hs' : All2 (IsX (hid (owns [((Sl.bo (.oi C a0 dx l), some (V.ref a0)) : Rw)]) (F'.vis H2))) (ss.map Sv.d) vs := hs.imp fun d v z => z.to fun b u hb => by
      have hb2 := hid_less (fun c hc => hO.mem_iff.mpr hc) b u hb
      have hb' := hid_some.mp hb2
      refine hid_some.mpr ⟨fun z => hb'.1 ?_, (ext_old (by rw [h0]; exact R2.hv _ _ hb2)).trans (by rw [hS]; exact hb2)⟩
      rw [owns_cons, hA]
      rw [e1] at z
      exact List.mem_append_left _ z
    refine ⟨F', C, a0, dx, l, vs, ss.map Sv.d, _, rfl, h0, hB, by rw [List.length_map]; exact hl, (rep_tmps R1 hs').1.perm ?_, q2, fun s v l' H' R' q => k v s H' _ (EOk.back (by rw [List.length_set]; exact E2.len) ((bk R').perm (((zip_put' E2.len hi' hvi).append_right fr).symm.cons _))) q⟩
    exact List.perm_append_comm
  · exact q2.elim
section
variable {X : Cx} {Ex : ExT} {j i : Nat} {x m : Str} {ps : List Str} {g : GO} {e o : Expr} {es : List Expr} {u : XA} {p pos apos : Pos} {C : Addr}
theorem xe_callO (C : Cal X.prog X.w X.K X.mg X.base j x ps (spO g)) (hr : Room j X.A) (hv : PE X e (tVar i)) (ha : XAs X Ex es u) (hg : Gl X x := by rfl) (hdb : (x == ("__debug__" : Str)) = false := by decide)
    (he : starEach (e :: es) X.env = (false, eval e X.env) :: starEach es X.env := by rfl) (hpl : (backTo pos (starEach es X.env)).any (·.1) = false := by rfl) : XE X Ex (.Call (.Name x p) (e :: es) [] pos) (xCallO g i u) := fun F => (pe_cal C hr (pa_cons hv (ha F) he) hg hdb he hpl).weak fun σ H Q => by
  rintro ⟨ρ, fr, Qx, E, ⟨t0, t⟩, k⟩
  obtain ⟨⟨C0, a0, dx0, l0, f0⟩, h0⟩ := Option.isSome_iff_exists.mp t0
  obtain ⟨sl0, h1, h2⟩ := Option.bind_eq_some_iff.mp h0
  obtain ⟨v, hv, hi, R0⟩ := eok_slot E h1
  obtain ⟨rfl, _⟩ := obj_row h2 R0
  refine ⟨.ref a0, hv, ρ, fr, _, E, t, fun vs ss H2 ρ2 hl E2 q2 => ?_⟩
  show spO g (V.ref a0 :: (vs ++ [])) H2 Q E0
  rw [List.append_nil]
  exact spO_run hv hl E2 q2 k
def CalM (P : Program) (w : World) (K : PySem.W.Frag) (mg : Str → Option Value) (base : Heap) (j : Nat) (C : Addr) (m : Str) (ps : List Str) (sp : Sp) : Prop := Cls K C ∧ ∃ f fd, Meth K C m f ∧ FnOk P w K mg base CX0 j f fd ps sp ∧ Binds K fd ps []
def CalK (P : Program) (w : World) (K : PySem.W.Frag) (mg : Str → Option Value) (base : Heap) (j : Nat) (C : Addr) (ps : List Str) (sp : Sp) : Prop := ∃ f fd, Mk K C f ∧ FnOk P w K mg base CX0 j f fd ps sp ∧ Binds K fd ps []
theorem xe_methO {pl : Sem Bool} (M : CalM X.prog X.w X.K X.mg X.base j C m ps (spO g)) (hr : Room j X.A) (hv : PE X o (tVar i)) (ha : XAs X Ex (e :: es) u)
    (hst : starEach (e :: es) X.env = (false, eval e X.env) :: starEach es X.env := by rfl) (hpl : (backTo pos (starEach es X.env)).any (·.1) = false := by rfl)
    (ht : eval (.Call (.Attribute o m apos) (e :: es) [] pos) X.env = (do
      let ov ← eval o X.env
      standAt apos.atName
      let (f, first) ← holding [ov] (getMethod ov m pl)
      callWith pos f first (backTo pos (starEach (e :: es) X.env)) (backToKw pos (keywordEach [] X.env))) := by rfl) :
    XE X Ex (.Call (.Attribute o m apos) (e :: es) [] pos) (xMethO C m g i u) := fun F => by
  obtain ⟨c, f, fd, hm, hf, hb⟩ := M
  refine (pe_meth hv c hm hf hr hb .nil pass0 (ha F) hst hpl ht).weak fun σ H Q => ?_
  rintro ⟨ρ, fr, Qx, E, ⟨t0, t⟩, k⟩
  split at t0
  · rename_i C0 a0 dx0 l0 f0 h0
    obtain ⟨rfl, hmm⟩ := t0
    obtain ⟨sl0, h1, h2⟩ := Option.bind_eq_some_iff.mp h0
    obtain ⟨v, hv, hi, R0⟩ := eok_slot E h1
    obtain ⟨rfl, _, hO, _⟩ := obj_row h2 R0
    obtain ⟨ws, h5, _, h6⟩ := OwOk.ins hO
    refine ⟨.ref a0, hv, a0, dx0, ws, rfl, h5, h6.miss hmm, ρ, fr, _, E, t, fun vs ss H2 ρ2 hl E2 q2 => ?_⟩
    show spO g (V.ref a0 :: (vs ++ [])) H2 Q E0
    rw [List.append_nil]
    exact spO_run hv hl E2 q2 k
  · exact t0.elim
theorem xe_methO0 {pl : Sem Bool} (M : CalM X.prog X.w X.K X.mg X.base j C m ps (spO g)) (hr : Room j X.A) (hv : PE X o (tVar i))
    (ht : eval (.Call (.Attribute o m apos) [] [] pos) X.env = (do
      let ov ← eval o X.env
      standAt apos.atName
      let (f, first) ← holding [ov] (getMethod ov m pl)
      callWith pos f first (backTo pos (starEach [] X.env)) (backToKw pos (keywordEach [] X.env))) := by rfl) :
    XE X Ex (.Call (.Attribute o m apos) [] [] pos) (xMethO C m g i xNil) := fun F => by
  obtain ⟨c, f, fd, hm, hf, hb⟩ := M
  refine (pe_meth0 hv c hm hf hr hb .nil pass0 ht).weak fun σ H Q => ?_
  rintro ⟨ρ, fr, Qx, E, ⟨t0, t⟩, k⟩
  split at t0
  · rename_i C0 a0 dx0 l0 f0 h0
    obtain ⟨rfl, hmm⟩ := t0
    obtain ⟨sl0, h1, h2⟩ := Option.bind_eq_some_iff.mp h0
    obtain ⟨v, hv, hi, R0⟩ := eok_slot E h1
    obtain ⟨rfl, _, hO, _⟩ := obj_row h2 R0
    obtain ⟨ws, h5, _, h6⟩ := OwOk.ins hO
    refine ⟨.ref a0, hv, a0, dx0, ws, rfl, h5, h6.miss hmm, ?_⟩
    exact spO_run (ss := []) (vs := []) (Ek := E0) hv rfl E t k
  · exact t0.elim
theorem xe_makeO (M : CalK X.prog X.w X.K X.mg X.base j C ps (spO g)) (hr : Room (j + 1) X.A) (hm : X.mg x = some (.ref C)) (ha : XAs X Ex (e :: es) u) (hg : Gl X x := by rfl) (hdb : (x == ("__debug__" : Str)) = false := by decide)
    (he : starEach (e :: es) X.env = (false, eval e X.env) :: starEach es X.env := by rfl) (hpl : (backTo pos (starEach es X.env)).any (·.1) = false := by rfl) :
    XE X Ex (.Call (.Name x p) (e :: es) [] pos) (xMakeO C g u) := fun F => by
  obtain ⟨f, fd, hk, hf, hb⟩ := M
  refine (pe_make hk hf hr hg hm hb .nil pass0 (ha F) hdb he hpl).weak fun σ H Q => ?_
  rintro ⟨ρ, fr, Qx, E, t, k⟩
  refine ⟨ρ, fr, _, E, t, fun vs ss H2 ρ2 hl E2 q2 => ?_⟩
  intro a dx ha hdx hne
  rw [List.append_nil]
  obtain ⟨R, hs⟩ := E2.many hl
  have eS : Same H2 (upd (upd H2 dx (.own a)) a (.ins C dx [])) := fun b o hb => by
    have n1 : b ≠ a := fun z => by rw [z, ha] at hb; cases hb
    have n2 : b ≠ dx := fun z => by rw [z, hdx] at hb; cases hb
    rw [upd_ne n1, upd_ne n2]
    exact hb
  have hfp : (Ow.oi C a dx []).fp = [a, dx] := by simp only [Ow.fp, owFf]
  have R1 : Rep F ((.v (.ow (.oi C a dx [])), some (.ref a)) :: (ρ2.zip σ ++ fr)) (upd (upd H2 dx (.own a)) a (.ins C dx [])) := by
    refine R.adoptW eS (by rw [hfp]; simp [Ne.symm hne]) (fun b hb => ?_) ?_
    · rw [hfp] at hb
      rcases List.mem_cons.mp hb with rfl | hb
      · exact ha
      · rw [List.mem_singleton.mp hb]; exact hdx
    · simp only [OwOk, OwOkf]
      exact ⟨trivial, [], upd_same, by rw [upd_ne hne]; exact upd_same, rfl⟩
  obtain ⟨F', h0, hB, hS, R2, bk⟩ := R1.lend rfl
  have e1 : owns [((Sl.bo (.oi C a dx []), some (V.ref a)) : Rw)] = [a, dx] := by rw [owns_cons, ← hfp]; exact List.append_nil _
  have e2 : owns ((Sl.v (.ow (.oi C a dx [])), some (V.ref a)) :: (ρ2.zip σ ++ fr)) = [a, dx] ++ owns (ρ2.zip σ ++ fr) := by rw [owns_cons, ← hfp]; rfl
  have hs' : All2 (IsX (hid (owns [((Sl.bo (.oi C a dx []), some (V.ref a)) : Rw)]) (F'.vis (upd (upd H2 dx (.own a)) a (.ins C dx []))))) (ss.map Sv.d) vs := hs.imp fun d v z => z.to fun b u hb => by
    have hb' := hid_some.mp hb
    have hH := R.hv _ _ hb
    have hnot : b ∉ [a, dx] := fun z => by
      rcases List.mem_cons.mp z with rfl | z
      · rw [ha] at hH; cases hH
      · rw [List.mem_singleton.mp z, hdx] at hH; cases hH
    refine hid_some.mpr ⟨by rw [e1]; exact hnot, (ext_old (by rw [h0]; exact eS _ _ hH)).trans ?_⟩
    rw [hS, e2]
    exact hid_some.mpr ⟨fun z => (List.mem_append.mp z).elim hnot hb'.1, ext_same eS _ _ hb'.2⟩
  refine ⟨F', C, a, dx, [], vs, ss.map Sv.d, _, rfl, h0, hB, by rw [List.length_map]; exact hl, (rep_tmps R2 hs').1.perm List.perm_append_comm, q2 a dx, fun s v l' H' R' q => ?_⟩
  have R3 := bk R'
  obtain ⟨w, ew, hw⟩ := R3.head
  cases ew
  rw [q.1] at hw
  refine ⟨?_, k _ _ H' ρ2 (EOk.back E2.len R3.tail) q.2⟩
  simpa only [IsX] using hw
theorem xe_fld {f : Str} (c : Cls X.K C) (hn : NoAttr X.K C f) (hv : PE X o (tVar i)) (hb : attributeBase o f X.env (eval o X.env) = eval o X.env := by rfl) : XE X Ex (.Attribute o f pos) (xFld C f i) := fun F => (pe_fld hv hb).weak fun σ H Q => by
  rintro ⟨ρ, fr, Qx, E, t, k⟩
  unfold xFld at t
  split at t
  · rename_i C0 a0 dx0 l0 f0 h0
    obtain ⟨rfl, t⟩ := t
    split at t
    · rename_i d hd
      obtain ⟨sl0, h1, h2⟩ := Option.bind_eq_some_iff.mp h0
      obtain ⟨v, hv, hi, R0⟩ := eok_slot E h1
      obtain ⟨rfl, _, hO, _⟩ := obj_row h2 R0
      obtain ⟨ws, h5, _, h6⟩ := OwOk.ins hO
      obtain ⟨w, hw, hx⟩ := h6.look hd
      simp only [OwOk] at hx
      refine ⟨.ref a0, hv, a0, C0, dx0, ws, w, rfl, h5, c, hn, hw, k w _ H ρ (EOk.back E.len (E.rep.add (hx.to (hid_less fun b hb => ?_)))) t⟩
      exact (((zip_pull h1 hv).append_right fr).flatMap_right _).mem_iff.mp hb
    · exact t.elim
  · exact t.elim
theorem xs_fld {f : Str} {value : Expr} {tv : XT} {pos' : Pos} (c : Cls X.K C) (hn : NoAttr X.K C f) (hv : PE X o (tVar i)) (ht : XE X Ex value tv) (hs : swapsWith value (some (.Attribute o f pos')) pos.line X.env = pure false := by rfl) : XSt X Ex (.Assign [.Attribute o f pos'] value pos) (xSetF C f i tv) := fun F => (ps_fld hv (ht F) hs).weak fun D σ H => by
  rintro ⟨ρ, fr, d, E, t, DK⟩
  refine ⟨ρ, fr, _, E, t, fun v s H2 ρ2 E2 t2 => ?_⟩
  split at t2
  · rename_i C0 a0 dx0 l0 f0 h0
    obtain ⟨rfl, hl, hno, t2⟩ := t2
    obtain ⟨R, hx⟩ := E2.one
    obtain ⟨sl0, h1, h2⟩ := Option.bind_eq_some_iff.mp h0
    obtain ⟨v', hv', hi, R0⟩ := eok_slot ⟨E2.len, R⟩ h1
    obtain ⟨rfl, _, hO, _⟩ := obj_row h2 R0
    obtain ⟨ws, h5, _, h6⟩ := OwOk.ins hO
    refine ⟨.ref a0, hv', a0, C0, dx0, ws, rfl, h5, c, hn, by rw [h6.len]; exact hl, DK.nx _ _ _ rfl (eok_put E2.len hi hv' (R0.setF h2 hno (hx.to (hid_less fun b hb => ?_)) h5)) t2⟩
    exact (((zip_pull h1 hv').append_right fr).flatMap_right _).mem_iff.mpr hb
  · exact t2.elim
end
def startO (N : List Str) (o : Ow) (ds : List Dx) : En := .bo o :: (ds.map (fun d => .v (.tr d)) ++ List.replicate (N.length - (ds.length + 1)) .un)
def lentEndO (C a dx : Addr) (Q : Sv → FsO → Prop) (s : Sv) (ρ : En) : Prop := match (ρ[0]? : Option Sl) with
  | some (.bo (.oi C' a' dx' l)) => C' = C ∧ a' = a ∧ dx' = dx ∧ Q s l
  | _ => False
abbrev retO (C a dx : Addr) (Q : Sv → FsO → Prop) : XD := ⟨fun ρ => lentEndO C a dx Q (.tr .non) ρ, fun s ρ => lentEndO C a dx Q s ρ, fun _ => False, fun _ => False⟩
theorem zip_tmps : ∀ {ds : List Dx} {vs : List V}, ds.length = vs.length → (ds.map (fun d => Sl.v (.tr d))).zip (vs.map some) = tmps (ds.map .tr) vs
  | [], [], _ => rfl
  | [], _ :: _, h => by simp at h
  | _ :: _, [], h => by simp at h
  | d :: ds, v :: vs, h => by
    show (Sl.v (.tr d), some v) :: (ds.map (fun d => Sl.v (.tr d))).zip (vs.map some) = (Sl.v (.tr d), some v) :: tmps (ds.map .tr) vs
    rw [zip_tmps (by simpa using h)]
theorem fn_o {P : Program} {w : World} {K : PySem.W.Frag} {mg : Str → Option Value} {base : Heap} {x qual : Str} {st : Stmt} {f : Addr} {fd : FuncData} {N ps : List Str} {k : Nat} {g : GO} (Fn : Fun K x qual st f fd) (S : FnScope N ps (defScope st)) (hlen : ∀ C l ds Q, g C l ds Q → ds.length + 1 = ps.length) (hN : ps.length ≤ N.length)
    (hbody : ∀ (cdv : Value) (A : Around) (outer : List Env) (s : Shared) (H : Hp) (E : XK), Room k (A.deeper (PyProof.Rows.envOfC qual (defScope st) s.heap.objs.size f cdv)) →
      ∃ G, XSs (cxOf CX0 P w K mg base N qual (defScope st) f cdv A outer s H E).nox noEx (defBody st) G ∧ ∀ C a dx l ds Q, g C l ds Q → G (startO N (.oi C a dx l) ds) (retO C a dx Q)) : FnOk P w K mg base CX0 (k + 1) f fd ps (spO g) := by
  refine Fn.ok S (fun vs H Q E h => ?_) (fun cdv A outer s H vs Q E hr h => ?_)
  · obtain ⟨F, C, a, dx, l, vr, ds, Qx, rfl, _, _, h2, _, h3, _⟩ := h
    rw [List.length_cons, ← h2]
    exact hlen C l ds Qx h3
  obtain ⟨F, C, a, dx, l, vr, ds, Qx, rfl, h0, hB, h2, R, h3, h4⟩ := h
  obtain ⟨G, hG, hq⟩ := hbody cdv A outer s H E hr
  have hlen' := hlen C l ds Qx h3
  have fin : ∀ {sv : Sv} {v : V} {σ' : St} {H' : Hp} {ρ' : En}, EOk F ρ' σ' ((.v sv, some v) :: []) H' → lentEndO C a dx Qx sv ρ' → Q v H' := fun {sv v σ' H' ρ'} E' q => by
    unfold lentEndO at q
    split at q
    · rename_i C' a' dx' l' e0
      obtain ⟨rfl, rfl, rfl, q⟩ := q
      obtain ⟨y, hy, hi, R2⟩ := eok_slot E' e0
      obtain ⟨rfl, _⟩ := obj_row rfl R2
      refine h4 sv v l' H' (Rep.drops (A := (ρ'.zip σ').eraseIdx 0) (R2.perm ?_)) q
      exact List.perm_middle.symm
    · exact q.elim
  refine ⟨_, hG F, startO N (.oi C a dx l) ds, [], retO C a dx Qx, ⟨?_, ?_⟩, hq C a dx l ds Qx h3, ⟨fun σ' H' ρ' _ E' q => fin (EOk.back E'.len (E'.rep.add (d := .non) (v := .non) IsX.of_non)) q, fun v s σ' H' ρ' _ E' q => fin E' q, fun _ _ _ _ _ q => q.elim, fun _ _ _ _ _ q => q.elim⟩⟩
  · unfold startO L2.start
    simp only [List.length_append, List.length_map, List.length_replicate, List.length_cons]
    omega
  · have e : (startO N (.oi C a dx l) ds).zip (L2.start N (.ref a :: vr)) = ((.bo (.oi C a dx l), some (.ref a)) :: tmps (ds.map .tr) vr) ++ List.replicate (N.length - (ds.length + 1)) (.un, none) := by
      unfold startO L2.start
      rw [List.map_cons, List.cons_append, List.zip_cons_cons, List.length_cons, ← h2, List.zip_append (by rw [List.length_map, List.length_map]; exact h2), zip_tmps h2, List.zip_replicate', List.cons_append]
    rw [e, List.append_nil]
    exact (R.addUs _).perm List.perm_append_comm
end Lf

set_option Elab.async false
set_option linter.all false
set_option maxRecDepth 100000
set_option maxHeartbeats 4000000
namespace L2
open PySem PySem.Spec PyProof.Rows
section
variable {X : Cx}
def st3 (x y : Str) (i : Int) : Bool := fromIndex x.length i + y.length ≤ x.length && Builtin.Str.subAt x y (fromIndex x.length i)
theorem mt_starts : MtR X "str.startswith" (fun x vs H Q => ∃ z y i, x = .str z ∧ vs = [.str y, .int i] ∧ Q (.bl (st3 z y i)) H) := by
  intro pins s σ H x vs v us Q I rx rv h
  obtain ⟨z, y, i, rfl, rfl, q⟩ := h
  obtain ⟨t, rfl⟩ := rx
  cases rv with
  | cons r1 r2 =>
    cases r2 with
    | cons r3 r4 =>
      cases r4
      obtain ⟨u, rfl⟩ := r1
      obtain ⟨u2, rfl⟩ := r3
      exact call_gives F.slot_str_startswith (typeIs_str s z t) F.entry_str_startswith (F.args_str_startswith_3 _ _ _) (gives_str_startswith_from z y i t u u2) ⟨.bl _, H, I, rfl, q⟩
theorem call_intT : CallR X (.type "int") (fun xs H Q => ∃ x n, xs = [.str x] ∧ x.length ≤ 640 ∧ PySem.intText? x = some n ∧ Q (.int n) H) := by
  intro pins s σ H xs us Q I r h
  obtain ⟨x, n, rfl, hl, hn, q⟩ := h
  obtain ⟨u, rfl, rx⟩ := vals1 r
  obtain ⟨t, rfl⟩ := rx
  exact PySem.W.KIN.call_text hn hl ⟨.int n, H, I.tok _, ⟨_, rfl⟩, q⟩
end
end L2
namespace Lf
open PySem L2
def intT : GC := fun ds Q => ∃ x n, ds = [.str x] ∧ x.length ≤ 640 ∧ PySem.intText? x = some n ∧ Q (.tr (.int n))
theorem cx_intT : CallX (fun xs H Q => ∃ x n, xs = [.str x] ∧ x.length ≤ 640 ∧ PySem.intText? x = some n ∧ Q (.int n) H) intT := by
  intro F P H ds xs Q Qx R hs g k
  obtain ⟨x, n, rfl, hl, hn, q⟩ := g
  obtain ⟨y, rfl, hx⟩ := all2_1 hs
  cases hx.str_eq
  exact ⟨x, n, rfl, hl, hn, k _ _ H (R.add (IsX.of_int _)) q⟩
def xStarts (to ta tb : XT) : XT := fun ρ Q => to ρ fun o ρ1 => (∃ z, o.d = .str z) ∧ ta ρ1 fun a ρ2 => tb ρ2 fun b ρ3 => match o.d, a.d, b.d with
  | .str z, .str y, .int i => Q (.tr (.bl (st3 z y i))) ρ3
  | _, _, _ => False
section
variable {X : Cx} {Ex : ExT} {o e e2 : Expr} {to t t2 : XT} {apos cpos pos : Pos} {F : Fm} {i : Nat} {K : PySem.W.Frag} {es : List Expr} {u : XA}
theorem xe_starts (ho : XE X Ex o to) (h : XE X Ex e t) (h2 : XE X Ex e2 t2)
    (hbase : attributeBase o "startswith" X.env (eval o X.env) = eval o X.env := by rfl)
    (hfew : ((backTo cpos (starEach [e, e2] X.env)).all (fun x => !x.1) && (backToKw cpos (keywordEach [] X.env)).all (fun x => x.1.isSome)
      && decide ([e, e2].length + ([] : List Keyword).length + (if ([] : List Keyword).isEmpty then 0 else 1) < 30)) = true := by rfl)
    (hline : (apos.endLine == cpos.line) = true := by rfl) (hs : starEach [e, e2] X.env = (false, eval e X.env) :: starEach [e2] X.env := by rfl) (hs2 : starEach [e2] X.env = (false, eval e2 X.env) :: starEach [] X.env := by rfl) (hplain : (backTo cpos (starEach [e2] X.env)).any (·.1) = false := by rfl) :
    XE X Ex (.Call (.Attribute o "startswith" apos) [e, e2] [] cpos) (xStarts to t t2) := fun F =>
  (pe_bm PySem.F.plainAttrs_str PySem.F.slot_str_startswith PySem.F.type_str_startswith mt_starts (ho F) (pa_cons (h F) (pa_cons (h2 F) pa_nil hs2) hs) hbase hfew hline hs hplain).weak fun σ H Q => by
    rintro ⟨ρ, fr, Qx, E, q, k⟩
    refine ⟨ρ, fr, _, E, q, fun v s H' ρ' E' q' => ?_⟩
    obtain ⟨⟨z, hz⟩, q'⟩ := q'
    obtain ⟨R, hx⟩ := E'.one
    rw [hz] at hx q'
    cases hx.str_eq
    refine ⟨rfl, ρ', _, _, E'.drop, q', fun u s2 H2 ρ2 E2 q2 => ?_⟩
    refine ⟨ρ2, _, _, E2, q2, fun u3 s3 H3 ρ3 E3 q3 => ?_⟩
    obtain ⟨R3, hx2, hx3⟩ := E3.two
    split at q3
    · rename_i z' y' i' e1 e2 e3
      cases e1
      rw [e2] at hx2
      rw [e3] at hx3
      cases hx2.str_eq
      cases hx3.int_eq
      exact ⟨z, y', i', rfl, rfl, k _ _ H3 ρ3 (EOk.back E3.len (R3.add (IsX.of_bl _))) q3⟩
    · exact q3.elim
theorem xe_joinG {c : Str} {z : Str} {p : Pos} (hg : Gl X c) (hm : ∃ t, X.mg c = some (.str z t)) (h : XE X Ex e t) (hd : (c == ("__debug__" : Str)) = false := by decide)
    (hbase : attributeBase (.Name c p) "join" X.env (eval (.Name c p) X.env) = eval (.Name c p) X.env := by rfl)
    (hfew : ((backTo cpos (starEach [e] X.env)).all (fun x => !x.1) && (backToKw cpos (keywordEach [] X.env)).all (fun x => x.1.isSome)
      && decide ([e].length + ([] : List Keyword).length + (if ([] : List Keyword).isEmpty then 0 else 1) < 30)) = true := by rfl)
    (hline : (apos.endLine == cpos.line) = true := by rfl) (hs : starEach [e] X.env = (false, eval e X.env) :: starEach [] X.env := by rfl) (hplain : (backTo cpos (starEach [] X.env)).any (·.1) = false := by rfl) :
    XE X Ex (.Call (.Attribute (.Name c p) "join" apos) [e] [] cpos) (xJoin z t) := fun F => by
  obtain ⟨tk, hm⟩ := hm
  refine (pe_bm PySem.F.plainAttrs_str PySem.F.slot_str_join PySem.F.type_str_join mt_join (pe_glob (v := .str z) hg hm ⟨tk, rfl⟩ hd) (pa_cons (h F) pa_nil hs) hbase hfew hline hs hplain).weak fun σ H Q => ?_
  rintro ⟨ρ, fr, Qx, E, t, k⟩
  refine ⟨rfl, ρ, fr, _, E, t, fun v s H' ρ' E' q => ?_⟩
  obtain ⟨ys, hd, hz, q⟩ := q
  obtain ⟨R, hx⟩ := E'.one
  rw [hd] at hx
  obtain ⟨p, vs, rfl, q1, q2⟩ := hx.lst_eq
  cases strs_of q2
  exact ⟨z, p, ys, rfl, rfl, SqL.of (R.hv _ _ q1), hz, k _ _ H' ρ' (EOk.back E'.len (R.add (IsX.of_str _))) q⟩
def xLstO (u : XA) : XT := fun ρ Q => u ρ fun ss ρ' => ∃ os, ss.map Sv.o? = os.map some ∧ ss.length ≤ 1000000 ∧ ∀ a, Q (.ow (.ol a os)) ρ'
theorem xe_lstO (h : XAs X Ex es u) : XE X Ex (.List es pos) (xLstO u) := fun F => (pe_lst (h F)).weak fun σ H Q => by
  rintro ⟨ρ, fr, Qx, E, t, k⟩
  refine ⟨ρ, fr, _, E, t, fun vs ss H2 ρ2 hl E2 q2 => ?_⟩
  obtain ⟨os, ho, hz, q2⟩ := q2
  refine ⟨by have := line1; omega, fun p hp => ?_⟩
  have R1 : Rep F (tmps ss vs ++ (ρ2.zip σ ++ fr)) H2 := E2.rep.perm (List.perm_append_comm_assoc _ _ _)
  have hlo : os.length = vs.length := by have := congrArg List.length ho; rw [List.length_map, List.length_map] at this; omega
  exact k _ _ _ ρ2 (EOk.back E2.len ((Rep.tmpsO hl ho R1).bundleL hlo hp)) (q2 p)
theorem OwOks.len {G H : Hp} : ∀ {l : List Ow} {ws : List V}, OwOks G H l ws → ws.length = l.length
  | [], _, h => by simp only [OwOks] at h; rw [h]; rfl
  | o :: r, ws, h => by
    simp only [OwOks] at h
    obtain ⟨w, wr, rfl, _, h3⟩ := h
    rw [List.length_cons, List.length_cons, OwOks.len h3]
theorem OwOks.snoc {G H : Hp} {o : Ow} {v : V} (ho : OwOk G H o v) : ∀ {l : List Ow} {ws : List V}, OwOks G H l ws → OwOks G H (l ++ [o]) (ws ++ [v])
  | [], _, h => by
    simp only [OwOks] at h
    subst h
    simp only [List.nil_append, OwOks]
    exact ⟨_, _, rfl, ho, rfl⟩
  | p :: r, ws, h => by
    simp only [OwOks] at h
    obtain ⟨w, wr, rfl, h2, h3⟩ := h
    simp only [List.cons_append, OwOks]
    exact ⟨w, wr ++ [v], rfl, h2, OwOks.snoc ho h3⟩
theorem owFs_snoc {o : Ow} : ∀ l : List Ow, owFs (l ++ [o]) = owFs l ++ o.fp
  | [] => by simp only [List.nil_append, owFs, List.append_nil]
  | p :: r => by simp only [List.cons_append, owFs, owFs_snoc, List.append_assoc]
theorem Rep.appO {P : List Rw} {H : Hp} {o : Ow} {x : Option V} {a : Addr} {l : List Ow} {v : V} (R : Rep F ((.v (.ow o), some v) :: (.v (.ow (.ol a l)), x) :: P) H) : x = some (.ref a) ∧ ∃ ws, H a = some (.lst ws) ∧ ws.length = l.length ∧ Rep F ((.v (.ow (.ol a (l ++ [o]))), x) :: P) (upd H a (.lst (ws ++ [v]))) := by
  obtain ⟨y, rfl, h1⟩ := R.ok _ (List.mem_cons_of_mem _ List.mem_cons_self)
  obtain ⟨y2, e2, h2⟩ := R.ok _ List.mem_cons_self
  cases e2
  simp only [OwOk] at h1
  obtain ⟨rfl, ws, h3, h4⟩ := h1
  refine ⟨rfl, ws, h3, h4.len, ?_⟩
  have eo : owns [((.v (.ow o), some v) : Rw), (.v (.ow (.ol a l)), some (.ref a))] = o.fp ++ (a :: owFs l) := by
    rw [owns_cons, owns_cons]
    simp only [ownA, Ow.fp, owns, List.flatMap_nil, List.append_nil]
  have en : ownA (.v (.ow (.ol a (l ++ [o]))), some (.ref a)) = a :: (owFs l ++ o.fp) := by simp only [ownA, Ow.fp, owFs_snoc]
  have R' : Rep F ([((.v (.ow o), some v) : Rw), (.v (.ow (.ol a l)), some (.ref a))] ++ P) H := R
  have hao : a ∉ o.fp ++ owFs l := by
    have hn := R'.nd
    rw [owns_app, eo] at hn
    have hn2 := (List.nodup_append.mp hn).1
    have := (List.perm_middle (a := a) (l₁ := o.fp) (l₂ := owFs l)).nodup_iff.mp hn2
    exact (List.nodup_cons.mp this).1
  refine R'.shift (A := [(.v (.ow o), some v), (.v (.ow (.ol a l)), some (.ref a))]) ?_ ?_ (fun b hb => ?_) (fun b hb => ?_) ?_
  · rw [en, eo]
    exact (List.perm_append_comm.cons a).trans List.perm_middle.symm
  · intro r hr
    rcases List.mem_cons.mp hr with rfl | hr
    · exact ⟨_, rfl⟩
    · rw [List.mem_singleton.mp hr]; exact ⟨_, rfl⟩
  · refine upd_ne fun z => hb ?_
    rw [eo, z]
    exact List.mem_append_right _ List.mem_cons_self
  · by_cases z : b = a
    · rw [z]; exact ⟨_, upd_same⟩
    · obtain ⟨u, hu⟩ := R'.own_in (by rw [owns_app]; exact List.mem_append_left _ hb)
      exact ⟨u, by rw [upd_ne z]; exact hu⟩
  · rw [en]
    refine ⟨.ref a, rfl, ?_⟩
    simp only [OwOk]
    refine ⟨trivial, _, upd_same, ?_⟩
    have hs : ∀ b u, hid (owns ([((.v (.ow o), some v) : Rw), (.v (.ow (.ol a l)), some (.ref a))] ++ P)) (F.vis H) b = some u → hid (a :: (owFs l ++ o.fp) ++ owns P) (F.vis (upd H a (.lst (ws ++ [v])))) b = some u := fun b u hb => by
      have hb' := hid_some.mp hb
      rw [owns_app, eo] at hb'
      have hba : b ≠ a := fun z => hb'.1 (by rw [z]; exact List.mem_append_left _ (List.mem_append_right _ List.mem_cons_self))
      refine hid_some.mpr ⟨fun z => hb'.1 ?_, ?_⟩
      · rcases List.mem_append.mp z with z | z
        · refine List.mem_append_left _ ?_
          rcases List.mem_cons.mp z with z | z
          · rw [z]; exact List.mem_append_right _ List.mem_cons_self
          · rcases List.mem_append.mp z with z | z
            · exact List.mem_append_right _ (List.mem_cons_of_mem _ z)
            · exact List.mem_append_left _ z
        · exact List.mem_append_right _ z
      · cases q : F.H0 b with
        | none => exact (ext_new q).trans ((congrArg nf (upd_ne hba)).trans ((ext_new q).symm.trans hb'.2))
        | some w => exact (ext_old q).trans ((ext_old q).symm.trans hb'.2)
    have k1 : ∀ b ∈ o.fp, upd H a (.lst (ws ++ [v])) b = H b := fun b hb => upd_ne fun z => hao (by rw [← z]; exact List.mem_append_left _ hb)
    have k2 : ∀ b ∈ owFs l, upd H a (.lst (ws ++ [v])) b = H b := fun b hb => upd_ne fun z => hao (by rw [← z]; exact List.mem_append_right _ hb)
    exact OwOks.snoc (OwOk.mono (.of hs) o v k1 h2) (OwOks.mono (.of hs) l ws k2 h4)
def xAppO (i : Nat) (t : XT) : XS := fun ρ D => (match ρ[i]? with
  | some (.v (.ow (.ol _ _))) => True
  | _ => False) ∧ t ρ fun s ρ' => match ρ'[i]? with
  | some (.v (.ow (.ol a l))) => ∃ o, s.o? = some o ∧ l.length < 1000000 ∧ D.nx (ρ'.set i (.v (.ow (.ol a (l ++ [o])))))
  | _ => False
theorem tAppO_x : ∀ D σ H, tXS F (xAppO i t) D σ H → tDrop (tBM K "list" rAppend (tVar i) (tCons (tX F t) tNil)) D σ H := by
  rintro D σ H ⟨ρ, fr, d, E, ⟨q0, q⟩, k⟩
  split at q0
  · rename_i a0 l0 h0
    obtain ⟨v0, hv0, hi0, R0⟩ := eok_slot E h0
    obtain ⟨y0, rfl, ho0⟩ := R0.ok _ List.mem_cons_self
    simp only [OwOk] at ho0
    obtain ⟨rfl, ws0, hp0, _⟩ := ho0
    refine ⟨.ref a0, hv0, .inl ⟨rfl, ws0, SqL.of hp0⟩, ρ, fr, _, E, q, fun y s H' ρ' E' q' => ?_⟩
    split at q'
    · rename_i a l hb
      obtain ⟨o, hso, hll, q'⟩ := q'
      have R3 := E'.front.toOw hso
      obtain ⟨v1, hv1⟩ := get_zip E'.len hb
      have hi1 : i < ρ'.length := (List.getElem?_eq_some_iff.mp hb).1
      have R4 : Rep F ((.v (.ow o), some y) :: (.v (.ow (.ol a l)), v1) :: ((ρ'.zip σ).eraseIdx i ++ fr)) H' := R3.perm (((zip_pull hb hv1).append_right fr).cons _)
      obtain ⟨rfl, ws, h3, h4, R5⟩ := R4.appO
      rw [hv0] at hv1
      cases hv1
      refine ⟨a0, ws, y, rfl, rfl, h3, by rw [h4]; have := line1; omega, k.nx σ _ _ rfl ⟨by rw [List.length_set]; exact E'.len, ?_⟩ q'⟩
      exact R5.perm (((zip_put' E'.len hi1 hv0).append_right fr).symm)
    · exact q'.elim
  · exact q0.elim
end
end Lf

set_option Elab.async false
set_option linter.all false
set_option maxRecDepth 100000
set_option maxHeartbeats 4000000
namespace L2
open PySem PySem.W PySem.Spec PyProof.Rows PySem.Calls
def obsMeth (K : Frag) (C : Addr) (m q : Str) : FO := match findIn K (.ref C) m with
  | some (some (.ref f)) => (match K.lookup f with
    | some ⟨_, _, .func fd, _⟩ => some ((fd.name, fd.qualname, fd.params, fd.body, fd.scope), (fd.globals, fd.closure, fd.defaults, fd.builtins), codeIn K fd.code q)
    | _ => none)
  | _ => none
def obsMf (K : Frag) (C : Addr) (m : Str) : Bool := match findIn K (.ref C) m with
  | some (some v) => isFn K v
  | _ => false
def expMeth (m q : Str) (s : Stmt) : FO := some ((m, q, defArgs s, .stmts (defBody s), defScope s), (mainGlobals, [], .none, builtinsNs), true)
theorem obsMeth_ex {K : Frag} {C : Addr} {m q : Str} {s : Stmt} (h : obsMeth K C m q = expMeth m q s) (h2 : obsMf K C m = true) : ∃ f fd, findIn K (.ref C) m = some (some (.ref f)) ∧ isFn K (.ref f) = true ∧ Fun K m q s f fd := by
  unfold obsMeth at h
  unfold obsMf at h2
  cases e : findIn K (.ref C) m with
  | none => rw [e] at h; cases h
  | some o =>
    cases o with
    | none => rw [e] at h; cases h
    | some v =>
      rw [e] at h2
      cases v with
      | ref f =>
        rw [e] at h
        dsimp only at h
        cases e2 : K.lookup f with
        | none => rw [e2] at h; cases h
        | some ob =>
          obtain ⟨oc, od, da, sl⟩ := ob
          rw [e2] at h
          cases da with
          | func fd =>
            obtain ⟨nm, qn, pa, bo, sc, gl, cl, df, kw, dc, pm, an, cd, ct, bl⟩ := fd
            simp only [expMeth, Option.some.injEq, Prod.mk.injEq] at h
            obtain ⟨⟨rfl, rfl, rfl, rfl, rfl⟩, ⟨rfl, rfl, rfl, rfl⟩, h3⟩ := h
            refine ⟨f, _, rfl, h2, ⟨oc, od, kw, dc, pm, an, cd, ct, sl, rfl, e2, h3⟩, ?_⟩
            unfold keepIn
            dsimp only
            rw [e2]
          | _ => cases h
      | _ => rw [e] at h; cases h
abbrev OCl := Option ((Bool × Bool × Bool × Option (Option Value) × Bool × Bool) × List FO × List Bool × List (Option (Option Value)))
def obsCl (K : Frag) (n : Str) (ms : List (Str × Str)) (fs : List Str) : OCl := match nsIn K mainGlobals n with
  | some (some (.ref C)) => some ((plainGet K C Str.empty, hasDictIn K C, plainOver K C, findIn K (.ref C) "__setattr__", makesIn K C, keepIn K (.ref C)), ms.map (fun p => obsMeth K C p.1 p.2), ms.map (fun p => obsMf K C p.1), fs.map fun f => findIn K (.ref C) f)
  | _ => none
def expCl (es : List FO) (ms : List (Str × Str)) (fs : List Str) : OCl := some ((true, true, true, some (some (.builtin "object.__setattr__")), true, true), es, List.replicate ms.length true, List.replicate fs.length (some none))
theorem rep_all {α β : Type} {f : α → β} {b : β} : ∀ {l : List α}, l.map f = List.replicate l.length b → ∀ a ∈ l, f a = b
  | [], _, a, h => by simp at h
  | x :: r, h, a, ha => by
    simp only [List.map_cons, List.length_cons, List.replicate_succ, List.cons.injEq] at h
    rcases List.mem_cons.mp ha with rfl | ha
    · exact h.1
    · exact rep_all h.2 a ha
theorem obsCl_ex {K : Frag} {n : Str} {ms : List (Str × Str)} {fs : List Str} {es : List FO} (h : obsCl K n ms fs = expCl es ms fs) : ∃ C, nsIn K mainGlobals n = some (some (.ref C)) ∧ Cls K C ∧ makesIn K C = true ∧ keepIn K (.ref C) = true ∧ ms.map (fun p => obsMeth K C p.1 p.2) = es ∧ (∀ p ∈ ms, obsMf K C p.1 = true) ∧ ∀ f ∈ fs, NoAttr K C f := by
  unfold obsCl expCl at h
  split at h
  · rename_i C hn
    simp only [Option.some.injEq, Prod.mk.injEq] at h
    obtain ⟨⟨h1, h2, h3, h4, h5, h6⟩, h7, h8, h9⟩ := h
    exact ⟨C, hn, ⟨h1, h2, h3, h4⟩, h5, h6, h7, rep_all h8, rep_all h9⟩
  · cases h
end L2

set_option maxHeartbeats 4000000
namespace Lf
open PySem L2
def top (i : Nat) : Stmt := PySem.Challenge.pw_laidfields_k44_kinds_written_and_read.main.body.getD i (.Pass ⟨0, 0, 0, 0⟩)
abbrev s_is_whole : Stmt := top 12
abbrev s_is_whole_up_to : Stmt := top 13
abbrev s_is_list_up_to : Stmt := top 14
abbrev s_is_name : Stmt := top 15
abbrev s_has_form : Stmt := top 16
abbrev s_is_kind : Stmt := top 17
abbrev s_is_kind_within : Stmt := top 18
abbrev s_are_kinds : Stmt := top 19
abbrev s_are_fields : Stmt := top 20
abbrev s_show_kind : Stmt := top 25
abbrev s_read_kind : Stmt := top 26
abbrev s_are_figures : Stmt := top 27
abbrev s_taken_kind : Stmt := top 29
abbrev s_taken_inner_kind : Stmt := top 30
abbrev s_taken_fields : Stmt := top 31
abbrev s_taken_field : Stmt := top 32
abbrev s_taken_kinds : Stmt := top 33
abbrev s_law_cell_at : Stmt := top 35
abbrev s_law_numbers : Stmt := top 36
abbrev s_law_deck : Stmt := top 37
abbrev s_law_take : Stmt := top 38
abbrev s_law_kind : Stmt := top 39
abbrev s_law_name : Stmt := top 40
abbrev s_law_up : Stmt := top 41
abbrev s_law_room : Stmt := top 42
abbrev s_law_kind_within : Stmt := top 43
abbrev s_law_kind_written : Stmt := top 44
abbrev s_law_alike : Stmt := top 45
abbrev s_law_holders : Stmt := top 46
abbrev s_law_apart : Stmt := top 47
abbrev s_law_copy : Stmt := top 48
abbrev s_law : Stmt := top 49
theorem sc_is_whole : FnScope ["thing"] ["thing"] (defScope s_is_whole) := ⟨rfl, rfl, rfl, by decide +kernel, rfl, by decide +kernel, by decide +kernel⟩
theorem sc_is_whole_up_to : FnScope ["thing", "greatest"] ["thing", "greatest"] (defScope s_is_whole_up_to) := ⟨rfl, rfl, rfl, by decide +kernel, rfl, by decide +kernel, by decide +kernel⟩
theorem sc_is_list_up_to : FnScope ["thing", "longest"] ["thing", "longest"] (defScope s_is_list_up_to) := ⟨rfl, rfl, rfl, by decide +kernel, rfl, by decide +kernel, by decide +kernel⟩
theorem sc_is_name : FnScope ["thing"] ["thing"] (defScope s_is_name) := ⟨rfl, rfl, rfl, by decide +kernel, rfl, by decide +kernel, by decide +kernel⟩
theorem sc_has_form : FnScope ["thing", "word", "length"] ["thing", "word", "length"] (defScope s_has_form) := ⟨rfl, rfl, rfl, by decide +kernel, rfl, by decide +kernel, by decide +kernel⟩
theorem sc_is_kind : FnScope ["thing"] ["thing"] (defScope s_is_kind) := ⟨rfl, rfl, rfl, by decide +kernel, rfl, by decide +kernel, by decide +kernel⟩
theorem sc_is_kind_within : FnScope ["thing", "depth"] ["thing", "depth"] (defScope s_is_kind_within) := ⟨rfl, rfl, rfl, by decide +kernel, rfl, by decide +kernel, by decide +kernel⟩
theorem sc_are_kinds : FnScope ["things", "depth"] ["things", "depth"] (defScope s_are_kinds) := ⟨rfl, rfl, rfl, by decide +kernel, rfl, by decide +kernel, by decide +kernel⟩
theorem sc_are_fields : FnScope ["things", "depth", "names", "thing"] ["things", "depth"] (defScope s_are_fields) := ⟨rfl, rfl, rfl, by decide +kernel, rfl, by decide +kernel, by decide +kernel⟩
theorem sc_show_kind : FnScope ["kind"] ["kind"] (defScope s_show_kind) := ⟨rfl, rfl, rfl, by decide +kernel, rfl, by decide +kernel, by decide +kernel⟩
theorem sc_read_kind : FnScope ["text", "reader", "kind"] ["text"] (defScope s_read_kind) := ⟨rfl, rfl, rfl, by decide +kernel, rfl, by decide +kernel, by decide +kernel⟩
theorem sc_are_figures : FnScope ["text"] ["text"] (defScope s_are_figures) := ⟨rfl, rfl, rfl, by decide +kernel, rfl, by decide +kernel, by decide +kernel⟩
theorem sc_taken_kind : FnScope ["reader", "depth", "kind"] ["reader", "depth"] (defScope s_taken_kind) := ⟨rfl, rfl, rfl, by decide +kernel, rfl, by decide +kernel, by decide +kernel⟩
theorem sc_taken_inner_kind : FnScope ["reader", "depth", "w"] ["reader", "depth"] (defScope s_taken_inner_kind) := ⟨rfl, rfl, rfl, by decide +kernel, rfl, by decide +kernel, by decide +kernel⟩
theorem sc_taken_fields : FnScope ["reader", "depth", "fields"] ["reader", "depth"] (defScope s_taken_fields) := ⟨rfl, rfl, rfl, by decide +kernel, rfl, by decide +kernel, by decide +kernel⟩
theorem sc_taken_field : FnScope ["reader", "depth", "name"] ["reader", "depth"] (defScope s_taken_field) := ⟨rfl, rfl, rfl, by decide +kernel, rfl, by decide +kernel, by decide +kernel⟩
theorem sc_taken_kinds : FnScope ["reader", "depth", "kinds"] ["reader", "depth"] (defScope s_taken_kinds) := ⟨rfl, rfl, rfl, by decide +kernel, rfl, by decide +kernel, by decide +kernel⟩
theorem sc_law_cell_at : FnScope ["script", "k"] ["script", "k"] (defScope s_law_cell_at) := ⟨rfl, rfl, rfl, by decide +kernel, rfl, by decide +kernel, by decide +kernel⟩
theorem sc_law_numbers : FnScope ["cell", "many", "found", "rest", "stir", "k", "again"] ["cell", "many"] (defScope s_law_numbers) := ⟨rfl, rfl, rfl, by decide +kernel, rfl, by decide +kernel, by decide +kernel⟩
theorem sc_law_deck : FnScope ["cell", "many"] ["cell", "many"] (defScope s_law_deck) := ⟨rfl, rfl, rfl, by decide +kernel, rfl, by decide +kernel, by decide +kernel⟩
theorem sc_law_take : FnScope ["deck", "many"] ["deck", "many"] (defScope s_law_take) := ⟨rfl, rfl, rfl, by decide +kernel, rfl, by decide +kernel, by decide +kernel⟩
theorem sc_law_kind : FnScope ["deck", "depth", "way", "many", "alike", "parts"] ["deck", "depth"] (defScope s_law_kind) := ⟨rfl, rfl, rfl, by decide +kernel, rfl, by decide +kernel, by decide +kernel⟩
theorem sc_law_name : FnScope ["deck", "k", "alike", "name", "j"] ["deck", "k", "alike"] (defScope s_law_name) := ⟨rfl, rfl, rfl, by decide +kernel, rfl, by decide +kernel, by decide +kernel⟩
theorem sc_law_up : FnScope ["number", "m"] ["number", "m"] (defScope s_law_up) := ⟨rfl, rfl, rfl, by decide +kernel, rfl, by decide +kernel, by decide +kernel⟩
theorem sc_law_room : FnScope ["kind", "room", "m", "end", "most", "name", "part", "rooms"] ["kind"] (defScope s_law_room) := ⟨rfl, rfl, rfl, by decide +kernel, rfl, by decide +kernel, by decide +kernel⟩
theorem sc_law_kind_within : FnScope ["deck", "depth", "most", "kind"] ["deck", "depth", "most"] (defScope s_law_kind_within) := ⟨rfl, rfl, rfl, by decide +kernel, rfl, by decide +kernel, by decide +kernel⟩
theorem sc_law_kind_written : FnScope ["kind", "found", "part"] ["kind"] (defScope s_law_kind_written) := ⟨rfl, rfl, rfl, by decide +kernel, rfl, by decide +kernel, by decide +kernel⟩
theorem sc_law_alike : FnScope ["found", "due"] ["found", "due"] (defScope s_law_alike) := ⟨rfl, rfl, rfl, by decide +kernel, rfl, by decide +kernel, by decide +kernel⟩
theorem sc_law_holders : FnScope ["thing", "parts", "found", "part"] ["thing"] (defScope s_law_holders) := ⟨rfl, rfl, rfl, by decide +kernel, rfl, by decide +kernel, by decide +kernel⟩
theorem sc_law_apart : FnScope ["told", "holders", "sizes", "k"] ["told"] (defScope s_law_apart) := ⟨rfl, rfl, rfl, by decide +kernel, rfl, by decide +kernel, by decide +kernel⟩
theorem sc_law_copy : FnScope ["thing", "found", "name"] ["thing"] (defScope s_law_copy) := ⟨rfl, rfl, rfl, by decide +kernel, rfl, by decide +kernel, by decide +kernel⟩
theorem sc_law : FnScope ["script", "k", "deck", "kind", "due", "handed", "found", "told"] ["script"] (defScope s_law) := ⟨rfl, rfl, rfl, by decide +kernel, rfl, by decide +kernel, by decide +kernel⟩
abbrev s_init : Stmt := inClass (top 28) 0
theorem sc_init : FnScope ["self", "text"] ["self", "text"] (defScope s_init) := ⟨rfl, rfl, rfl, by decide +kernel, rfl, by decide +kernel, by decide +kernel⟩
abbrev s_passes : Stmt := inClass (top 28) 1
theorem sc_passes : FnScope ["self", "signs"] ["self", "signs"] (defScope s_passes) := ⟨rfl, rfl, rfl, by decide +kernel, rfl, by decide +kernel, by decide +kernel⟩
abbrev s_take : Stmt := inClass (top 28) 2
theorem sc_take : FnScope ["self", "signs"] ["self", "signs"] (defScope s_take) := ⟨rfl, rfl, rfl, by decide +kernel, rfl, by decide +kernel, by decide +kernel⟩
abbrev s_take_end : Stmt := inClass (top 28) 3
theorem sc_take_end : FnScope ["self"] ["self"] (defScope s_take_end) := ⟨rfl, rfl, rfl, by decide +kernel, rfl, by decide +kernel, by decide +kernel⟩
abbrev s_take_run : Stmt := inClass (top 28) 4
theorem sc_take_run : FnScope ["self", "signs", "begin"] ["self", "signs"] (defScope s_take_run) := ⟨rfl, rfl, rfl, by decide +kernel, rfl, by decide +kernel, by decide +kernel⟩
abbrev s_take_number : Stmt := inClass (top 28) 5
theorem sc_take_number : FnScope ["self", "most_figures", "figures"] ["self", "most_figures"] (defScope s_take_number) := ⟨rfl, rfl, rfl, by decide +kernel, rfl, by decide +kernel, by decide +kernel⟩

theorem go_set {i : Nat} {t : XT} {K : XS} {ρ : En} {D : XD} (h : t ρ fun s ρ' => K (ρ'.set i (.v s)) D) : xSeq (xSet i t) K ρ D := h
theorem go_setL {i : Nat} {t : XT} {ρ : En} {D : XD} (h : t ρ fun s ρ' => D.nx (ρ'.set i (.v s))) : xSet i t ρ D := h
theorem go_var {i : Nat} {s : Sv} {ρ : En} {Q : Sv → En → Prop} (hi : ρ[i]? = some (.v s)) (h : Q (.tr s.d) (ρ.set i (.v (.tr s.d)))) : xVar i ρ Q := by
  unfold xVar
  rw [hi]
  exact h
theorem to_tr {i : Nat} {s : Sv} {ρ : En} {Q : Sv → En → Prop} {d : Dx} (hi : ρ[i]? = some (.v s)) (hs : s.d = d) (h : Q (.tr d) (ρ.set i (.v (.tr d)))) : xVar i ρ Q := by
  subst hs
  exact go_var hi h
theorem go_c1 {d : Dx} {ρ : En} {Q : Sv → En → Prop} (h : Q (.tr d) ρ) : xC d ρ Q := h
theorem go_cons {t : XT} {u : XA} {ρ : En} {Q : List Sv → En → Prop} (h : t ρ fun s ρ1 => u ρ1 fun ss ρ2 => Q (s :: ss) ρ2) : xCons t u ρ Q := h
theorem go_op {g : G2} {ta tb : XT} {ρ : En} {Q : Sv → En → Prop} (h : ta ρ fun a ρ1 => tb ρ1 fun b ρ2 => g a.d b.d fun s => Q s ρ2) : xOp g ta tb ρ Q := h
theorem go_skip {c : XC} {G K : XS} {ρ ρ' : En} {D : XD} (hc : ∀ Q : Bool → En → Prop, Q false ρ' → c ρ Q) (h : K ρ' D) : xSeq (xIf c G xNext) K ρ D := hc _ h
theorem go_last {c : XC} {G : XS} {ρ ρ' : En} {D : XD} (hc : ∀ Q : Bool → En → Prop, Q false ρ' → c ρ Q) (h : D.nx ρ') : xIf c G xNext ρ D := hc _ h
theorem go_ifB {c : XC} {G K : XS} {ρ ρ' : En} {D : XD} (b : Bool) (hc : ∀ Q : Bool → En → Prop, Q b ρ' → c ρ Q) (ht : b = true → G ρ' { D with nx := fun ρ => K ρ D }) (hf : b = false → K ρ' D) : xSeq (xIf c G xNext) K ρ D := by
  refine hc _ ?_
  cases b with
  | true => exact ht rfl
  | false => exact hf rfl
theorem len2 {α : Type} {a b : α} : [a, b].length ≤ 1000000 := by show 2 ≤ 1000000; decide
theorem ixX_in {l : List Dx} {r : Int} {Q : Sv → Prop} (h0 : 0 ≤ r) (h1 : r < l.length) (q : ∀ d ∈ l, Q (.tr d)) : ixX (.lst l) (.int r) Q := by
  obtain ⟨x, hx, hm⟩ := atI_of h0 h1
  show (match atI l r with | some d => Q (.tr d) | none => False)
  rw [hx]
  exact q x (List.mem_of_getElem? hm)
theorem go_ifE {c : XC} {G K : XS} {ρ ρ' : En} {D : XD} (b : Bool) (hc : ∀ Q : Bool → En → Prop, Q b ρ' → c ρ Q) (ht : b = true → G ρ' D) (hf : b = false → K ρ' D) : xIf c G K ρ D := by
  refine hc _ ?_
  cases b with
  | true => exact ht rfl
  | false => exact hf rfl

def codes (x : Str) : List Nat := x.cps.toList
theorem codes_len (x : Str) : x.length = (codes x).length := by simp [codes, Str.length]
theorem codes_app (x y : Str) : codes (x ++ y) = codes x ++ codes y := by
  show (x.cps ++ y.cps).toList = _
  rw [Array.toList_append]
  rfl
theorem codes_inj {x y : Str} (h : codes x = codes y) : x = y := by
  obtain ⟨a⟩ := x
  obtain ⟨b⟩ := y
  have : a = b := Array.ext' h
  rw [this]
theorem codes_to {x : Str} {k : Int} (h0 : 0 ≤ k) (h1 : k ≤ (codes x).length) : codes (Txt.slice x none (some k)) = (codes x).take k.toNat := by
  have e := beq_iff_eq.mp (PyProof.Rows.slice_closes_toL (x := x) h0 (by rw [codes_len]; exact h1))
  rw [e]
  show (((x.cps.toList.drop 0).take (k - 0).toNat).toArray).toList = _
  simp [codes]
theorem codes_from {x : Str} {k : Int} (h0 : 0 ≤ k) (h1 : k ≤ (codes x).length) : codes (Txt.slice x (some k) none) = (codes x).drop k.toNat := by
  rw [PyProof.Rows.slice_from_eq (x := x) (b := x.length) h0 (by rw [codes_len]; exact h1) rfl]
  show (((x.cps.toList.drop k.toNat).take ((x.length : Int) - k).toNat).toArray).toList = _
  rw [List.toList_toArray, List.take_of_length_le]
  · rfl
  · rw [List.length_drop, codes_len]
    show x.cps.toList.length - k.toNat ≤ (((codes x).length : Int) - k).toNat
    show (codes x).length - k.toNat ≤ (((codes x).length : Int) - k).toNat
    omega
def Low (l : List Nat) : Prop := ∀ c ∈ l, 97 ≤ c ∧ c ≤ 122
def Nm (x : Str) : Prop := 1 ≤ (codes x).length ∧ (codes x).length ≤ 8 ∧ Low (codes x)
abbrev lets : Str := "abcdefghijklmnopqrstuvwxyz"
theorem len_app (x y : Str) : (x ++ y).length = x.length + y.length := by rw [codes_len, codes_app, List.length_append, codes_len x, codes_len y]

mutual
def Kd.Full : Kd → Prop
  | .num _ _ => True
  | .row k _ => k.Full
  | .rcd fs => fs ≠ [] ∧ fullF fs
  | .cho ks => ks ≠ [] ∧ fullK ks
def fullF : List (Str × Kd) → Prop
  | [] => True
  | f :: r => f.2.Full ∧ fullF r
def fullK : List Kd → Prop
  | [] => True
  | k :: r => k.Full ∧ fullK r
end
mutual
def Kd.Fit : Kd → Prop
  | .num w m => 1 ≤ w ∧ w ≤ 8 ∧ (m = 1 ∨ m = 2 ∨ m = 4 ∨ m = 8)
  | .row k n => k.Fit ∧ 1 ≤ n ∧ n ≤ 20
  | .rcd fs => fitF fs ∧ 1 ≤ fs.length ∧ fs.length ≤ 8 ∧ (fs.map (·.1)).Nodup
  | .cho ks => fitK ks ∧ 1 ≤ ks.length ∧ ks.length ≤ 6
def fitF : List (Str × Kd) → Prop
  | [] => True
  | f :: r => (Nm f.1 ∧ f.2.Fit) ∧ fitF r
def fitK : List Kd → Prop
  | [] => True
  | k :: r => k.Fit ∧ fitK r
end
mutual
theorem Kd.Fit.ok : ∀ (k : Kd), k.Fit → k.Ok
  | .num w m, h => by
    obtain ⟨a, b, c⟩ := h
    exact ⟨a, b, by omega, by omega⟩
  | .row k n, h => ⟨Kd.Fit.ok k h.1, by have := h.2.1; omega, by have := h.2.2; omega⟩
  | .rcd fs, h => ⟨fitF_ok fs h.1, by have := h.2.2.1; omega⟩
  | .cho ks, h => ⟨fitK_ok ks h.1, by have := h.2.2; omega⟩
theorem fitF_ok : ∀ (fs : List (Str × Kd)), fitF fs → okF fs
  | [], _ => trivial
  | f :: r, h => ⟨Kd.Fit.ok f.2 h.1.2, fitF_ok r h.2⟩
theorem fitK_ok : ∀ (ks : List Kd), fitK ks → okK ks
  | [], _ => trivial
  | k :: r, h => ⟨Kd.Fit.ok k h.1, fitK_ok r h.2⟩
end
theorem fitF_snoc : ∀ {fs : List (Str × Kd)} {f : Str × Kd}, fitF fs → Nm f.1 → f.2.Fit → fitF (fs ++ [f])
  | [], _, _, a, b => ⟨⟨a, b⟩, trivial⟩
  | g :: r, f, h, a, b => ⟨h.1, fitF_snoc h.2 a b⟩
theorem fitK_snoc : ∀ {ks : List Kd} {k : Kd}, fitK ks → k.Fit → fitK (ks ++ [k])
  | [], _, _, b => ⟨b, trivial⟩
  | g :: r, f, h, b => ⟨h.1, fitK_snoc h.2 b⟩
theorem deepF_snoc : ∀ {fs : List (Str × Kd)} {f : Str × Kd} {n : Nat}, deepF fs ≤ n → f.2.deep ≤ n → deepF (fs ++ [f]) ≤ n
  | [], f, n, _, b => by show max f.2.deep 0 ≤ n; omega
  | g :: r, f, n, h, b => by
    have h' : max g.2.deep (deepF r) ≤ n := h
    have := deepF_snoc (fs := r) (f := f) (n := n) (by omega) b
    show max g.2.deep (deepF (r ++ [f])) ≤ n
    omega
theorem deepK_snoc : ∀ {ks : List Kd} {k : Kd} {n : Nat}, deepK ks ≤ n → k.deep ≤ n → deepK (ks ++ [k]) ≤ n
  | [], f, n, _, b => by show max f.deep 0 ≤ n; omega
  | g :: r, f, n, h, b => by
    have h' : max g.deep (deepK r) ≤ n := h
    have := deepK_snoc (ks := r) (k := f) (n := n) (by omega) b
    show max g.deep (deepK (r ++ [f])) ≤ n
    omega
def tk : Nat → Int
  | 0 => 0
  | n + 1 => 3000 + 12 * tk n
mutual
def Kd.x : Kd → Dx
  | .num w m => .tup [.str "number", .int w, .int m]
  | .row k n => .tup [.str "row", k.x, .int n]
  | .rcd fs => .tup [.str "record", .lst (xF fs)]
  | .cho ks => .tup [.str "choice", .lst (xK ks)]
def xF : List (Str × Kd) → List Dx
  | [] => []
  | f :: r => .tup [.str f.1, f.2.x] :: xF r
def xK : List Kd → List Dx
  | [] => []
  | k :: r => k.x :: xK r
end
theorem xF_map : ∀ fs : List (Str × Kd), xF fs = fs.map fun f => .tup [.str f.1, f.2.x]
  | [] => rfl
  | f :: r => by rw [xF, xF_map r]; rfl
theorem xK_map : ∀ ks : List Kd, xK ks = ks.map Kd.x
  | [] => rfl
  | f :: r => by rw [xK, xK_map r]; rfl

def rdr (t : Str) (p : Nat) : FsO := [("text", .tr (.str t)), ("place", .tr (.int (p : Int)))]
abbrev figS : Str := "0123456789"
abbrev comS : Str := ", "
def gIN (C0 : Addr) : GO := fun C l ds Q => C = C0 ∧ l = [] ∧ ∃ t : Str, ds = [.str t] ∧ Q (.tr .non) (rdr t 0)
def gPA (C0 : Addr) : GO := fun C l ds Q => C = C0 ∧ ∃ (t y : Str) (p : Nat), l = rdr t p ∧ ds = [.str y] ∧ p ≤ t.length ∧ t.length ≤ 100000 ∧ (∀ b, b = (codes y).isPrefixOf ((codes t).drop p) → Q (.tr (.bl b)) (rdr t (if b = true then p + y.length else p)))
def gTA (C0 : Addr) : GO := fun C l ds Q => C = C0 ∧ ∃ (t y : Str) (p : Nat), l = rdr t p ∧ ds = [.str y] ∧ p ≤ t.length ∧ t.length ≤ 100000 ∧ (codes y).isPrefixOf ((codes t).drop p) = true ∧ Q (.tr .non) (rdr t (p + y.length))
def gTE (C0 : Addr) : GO := fun C l ds Q => C = C0 ∧ ∃ (t : Str), l = rdr t t.length ∧ ds = [] ∧ t.length ≤ 100000 ∧ Q (.tr .non) (rdr t t.length)
theorem tw_stop {f : Nat → Bool} : ∀ {l : List Nat} {k : Nat}, (∀ c ∈ l.take k, f c = true) → (∀ c, l[k]? = some c → f c = false) → l.takeWhile f = l.take k
  | [], _, _, _ => by simp
  | a :: l, 0, _, h2 => by rw [List.takeWhile_cons, h2 a rfl]; simp
  | a :: l, k + 1, h, h2 => by
    rw [List.takeWhile_cons, h a (by simp), if_pos rfl, List.take_succ_cons, tw_stop (fun c hc => h c (by rw [List.take_succ_cons]; exact List.mem_cons_of_mem _ hc)) (fun c hc => h2 c (by simpa using hc))]
theorem st3_at {t y : Str} {p : Nat} (hp : p ≤ t.length) : st3 t y (p : Int) = (codes y).isPrefixOf ((codes t).drop p) := by
  have hf : PySem.fromIndex t.length (p : Int) = p := by
    unfold PySem.fromIndex
    rw [if_neg (by omega)]
    omega
  have hx : (t.cps.extract p (p + y.length)).toList = ((codes t).drop p).take y.length := by
    rw [Array.toList_extract]
    simp only [codes, List.extract_eq_take_drop, Nat.add_sub_cancel_left]
  unfold st3 Builtin.Str.subAt
  rw [hf, Bool.eq_iff_iff, Bool.and_eq_true, decide_eq_true_eq, beq_iff_eq, List.isPrefixOf_iff_prefix, List.prefix_iff_eq_take, ← codes_len]
  constructor
  · rintro ⟨_, h⟩
    rw [← hx, h]
    rfl
  · intro h
    refine ⟨?_, Array.ext' (by rw [hx]; exact h.symm)⟩
    have h2 := congrArg List.length h
    rw [List.length_take, List.length_drop, ← codes_len, ← codes_len] at h2
    omega
theorem pre_len {t y : Str} {p : Nat} (h : (codes y).isPrefixOf ((codes t).drop p) = true) : y.length ≤ t.length := by
  have := (List.isPrefixOf_iff_prefix.mp h).length_le
  rw [List.length_drop, ← codes_len, ← codes_len] at this
  omega
theorem rdr_no {t : Str} {p : Nat} {o : Ow} (ho : List.lookup (Str.ofString "place") (rdr t p) = some o) : ∃ d, o = .tr d := by
  cases ho
  exact ⟨_, rfl⟩
def inT (z : Str) (c : Nat) : Bool := !(Builtin.Str.occurrences z ⟨#[c]⟩ 0 z.length 1).isEmpty
def gAF4 : GC := fun ds Q => ∃ x : Str, ds = [.str x] ∧ x.length ≤ 1000 ∧ (∀ c ∈ codes x, inT figS c = true) ∧ (∃ c r, codes x = c :: r ∧ (r = [] ∨ c ≠ 48)) ∧ Q (.tr (.bl true))
def runT (z t : Str) (p : Nat) : List Nat := ((codes t).drop p).takeWhile (inT z)
def gTR (C0 : Addr) : GO := fun C l ds Q => C = C0 ∧ ∃ (t z : Str) (p : Nat), l = rdr t p ∧ ds = [.str z] ∧ p ≤ t.length ∧ t.length ≤ 100000 ∧ Q (.tr (.str ⟨(runT z t p).toArray⟩)) (rdr t (p + (runT z t p).length))
def gTN (C0 : Addr) : GO := fun C l ds Q => C = C0 ∧ ∃ (t : Str) (p : Nat) (n : Int), l = rdr t p ∧ ds = [.int 2] ∧ p ≤ t.length ∧ t.length ≤ 100000 ∧ 0 < n ∧ n < 21 ∧ runT figS t p = codes (txtI n) ∧ Q (.tr (.int n)) (rdr t (p + (txtI n).length))
section
variable {P : Program} {w : World} {K : PySem.W.Frag} {mg : Str → Option Value} {base : Heap} {f : Addr} {fd : FuncData} {C_Reader : Addr}
theorem okx_init (F : Fun K "__init__" "Reader.__init__" s_init f fd) (cls_Reader : Cls K C_Reader) (na_Reader_text : NoAttr K C_Reader "text") (na_Reader_place : NoAttr K C_Reader "place") (m_isinstance : mg "isinstance" = none) (m_str : mg "str" = none) : FnOk P w K mg base CX0 1 f fd ["self", "text"] (spO (gIN C_Reader)) := by
  refine fn_o F sc_init (fun C l ds Q h => by obtain ⟨_, _, t, rfl, _⟩ := h; rfl) (by decide) fun cdv A outer s H E hr => ?_
  have hu1 := hu_of hr
  have hu0 := Nat.lt_of_succ_lt hu1
  refine ⟨_, (xss_cons (xs_if (xt_not (xt_val (xe_isinst .str m_isinstance (xe_var (pv 1)) (pe_bltn (v := .ty "str") rfl m_str bt_str rfl)))) xss_no xss_nil)
    (xss_cons (xs_fld (C := C_Reader) cls_Reader na_Reader_text (pv 0) (xe_var (pv 1)))
    (xss_one (xs_fld (C := C_Reader) cls_Reader na_Reader_place (pv 0) xe_int)))), fun C a dx l ds Q h => ?_⟩
  obtain ⟨rfl, rfl, t, rfl, q⟩ := h
  refine ⟨rfl, (by decide), (fun o ho => by cases ho), ?_⟩
  refine ⟨rfl, (by decide : 1 < 1000), (fun o ho => by cases ho), ?_⟩
  exact ⟨rfl, rfl, rfl, q⟩
theorem okx_passes (F : Fun K "passes" "Reader.passes" s_passes f fd) (cls_Reader : Cls K C_Reader) (na_Reader_text : NoAttr K C_Reader "text") (na_Reader_place : NoAttr K C_Reader "place") (m_len : mg "len" = none) : FnOk P w K mg base CX0 1 f fd ["self", "signs"] (spO (gPA C_Reader)) := by
  refine fn_o F sc_passes (fun C l ds Q h => by obtain ⟨_, t, y, p, _, rfl, _⟩ := h; rfl) (by decide) fun cdv A outer s H E hr => ?_
  have hu1 := hu_of hr
  have hu0 := Nat.lt_of_succ_lt hu1
  refine ⟨_, (xss_cons (xs_if (xt_not (xt_val (xe_starts (xe_fld (C := C_Reader) cls_Reader na_Reader_text (pv 0)) (xe_var (pv 1)) (xe_fld (C := C_Reader) cls_Reader na_Reader_place (pv 0))))) (xss_one (xs_ret xe_bl)) xss_nil)
    (xss_cons (xs_fld (C := C_Reader) cls_Reader na_Reader_place (pv 0) (xe_add (xe_fld (C := C_Reader) cls_Reader na_Reader_place (pv 0)) (xe_callB (call_lenA K) cx_len (by rfl) m_len PySem.boot_len (xa_cons (xe_var (pv 1)) xa_nil))))
    (xss_one (xs_ret xe_bl)))), fun C a dx l ds Q h => ?_⟩
  obtain ⟨rfl, t, y, p, rfl, rfl, hp, hl, q⟩ := h
  refine ⟨rfl, ⟨t, rfl⟩, rfl, ?_⟩
  have e := st3_at (y := y) hp
  cases hb : (codes y).isPrefixOf ((codes t).drop p) with
  | false =>
    rw [hb] at e
    have e' : (!(st3 t y (p : Int))) = true := by rw [e]; rfl
    refine (if_pos e').mpr ?_
    exact ⟨rfl, rfl, rfl, q false hb.symm⟩
  | true =>
    rw [hb] at e
    have e' : ¬ ((!(st3 t y (p : Int))) = true) := by rw [e]; decide
    refine (if_neg e').mpr ?_
    have hy := pre_len hb
    refine ⟨rfl, by show y.length ≤ 1000000; omega, rfl, (by show 2 < 1000; decide), fun o ho => rdr_no ho, ?_⟩
    exact ⟨rfl, rfl, rfl, q true hb.symm⟩
theorem okx_take (F : Fun K "take" "Reader.take" s_take f fd) (CM_passes : CalM P w K mg base 1 C_Reader "passes" ["self", "signs"] (spO (gPA C_Reader))) : FnOk P w K mg base CX0 2 f fd ["self", "signs"] (spO (gTA C_Reader)) := by
  refine fn_o F sc_take (fun C l ds Q h => by obtain ⟨_, t, y, p, _, rfl, _⟩ := h; rfl) (by decide) fun cdv A outer s H E hr => ?_
  have hu1 := hu_of hr
  have hu0 := Nat.lt_of_succ_lt hu1
  refine ⟨_, (xss_one (xs_if (xt_not (xt_val (xe_methO (C := C_Reader) (i := 0) CM_passes (hr.mono (by omega)) (pv 0) (xa_cons (xe_var (pv 1)) xa_nil)))) (xss_one xs_no) xss_nil)), fun C a dx l ds Q h => ?_⟩
  obtain ⟨rfl, t, y, p, rfl, rfl, hp, hl, hy, q⟩ := h
  refine ⟨⟨rfl, rfl⟩, rfl, t, y, p, rfl, rfl, hp, hl, fun b hb => ?_⟩
  rw [hy] at hb
  subst hb
  exact ⟨rfl, rfl, rfl, q⟩
theorem okx_take_end (F : Fun K "take_end" "Reader.take_end" s_take_end f fd) (cls_Reader : Cls K C_Reader) (na_Reader_text : NoAttr K C_Reader "text") (na_Reader_place : NoAttr K C_Reader "place") (m_len : mg "len" = none) : FnOk P w K mg base CX0 1 f fd ["self"] (spO (gTE C_Reader)) := by
  refine fn_o F sc_take_end (fun C l ds Q h => by obtain ⟨_, t, _, rfl, _⟩ := h; rfl) (by decide) fun cdv A outer s H E hr => ?_
  have hu1 := hu_of hr
  have hu0 := Nat.lt_of_succ_lt hu1
  refine ⟨_, (xss_one (xs_if (xt_cmp op_lt ox_lt (xe_fld (C := C_Reader) cls_Reader na_Reader_place (pv 0)) (xe_callB (call_lenA K) cx_len (by rfl) m_len PySem.boot_len (xa_cons (xe_fld (C := C_Reader) cls_Reader na_Reader_text (pv 0)) xa_nil)) (nomark _)) (xss_one xs_no) xss_nil)), fun C a dx l ds Q h => ?_⟩
  obtain ⟨rfl, t, rfl, rfl, hl, q⟩ := h
  refine ⟨rfl, rfl, by show t.length ≤ 1000000; omega, ?_⟩
  refine (if_neg (show ¬ (decide ((t.length : Int) < (t.length : Int)) = true) by simp)).mpr ?_
  exact ⟨rfl, rfl, rfl, q⟩
theorem okx_take_run (F : Fun K "take_run" "Reader.take_run" s_take_run f fd) (cls_Reader : Cls K C_Reader) (na_Reader_text : NoAttr K C_Reader "text") (na_Reader_place : NoAttr K C_Reader "place") (m_len : mg "len" = none) : FnOk P w K mg base CX0 1 f fd ["self", "signs"] (spO (gTR C_Reader)) := by
  refine fn_o F sc_take_run (fun C l ds Q h => by obtain ⟨_, t, z, p, _, rfl, _⟩ := h; rfl) (by decide) fun cdv A outer s H E hr => ?_
  have hu1 := hu_of hr
  have hu0 := Nat.lt_of_succ_lt hu1
  refine ⟨_, (xss_cons (xs_setP fun F => ps_set (i := 2) sc_take_run.nd rfl (Or.inl rfl) (XE.at (Ex := noEx) F (xe_fld (C := C_Reader) cls_Reader na_Reader_place (pv 0))))
    (xss_cons (xs_while PassesOwn.never (XW.pt (xw_and (xt_cmp op_lt ox_lt (xe_fld (C := C_Reader) cls_Reader na_Reader_place (pv 0)) (xe_callB (call_lenA K) cx_len (by rfl) m_len PySem.boot_len (xa_cons (xe_fld (C := C_Reader) cls_Reader na_Reader_text (pv 0)) xa_nil)) (nomark _)) (xw_and1 (xt_cmp op_in_str ox_inS (xe_ix K (xe_fld (C := C_Reader) cls_Reader na_Reader_text (pv 0)) (xe_fld (C := C_Reader) cls_Reader na_Reader_place (pv 0)) (fun _ _ => rfl)) (xe_var (pv 1)) (by with_unfolding_all rfl))))) (xss_one (xs_fld (C := C_Reader) cls_Reader na_Reader_place (pv 0) (xe_add (xe_fld (C := C_Reader) cls_Reader na_Reader_place (pv 0)) xe_int))))
    (xss_one (xs_ret (xe_slice K (xe_fld (C := C_Reader) cls_Reader na_Reader_text (pv 0)) (xo_some (xe_var (pv 2))) (xo_some (xe_fld (C := C_Reader) cls_Reader na_Reader_place (pv 0)))))))), fun C a dx l ds Q h => ?_⟩
  obtain ⟨rfl, t, z, p, rfl, rfl, hp, hl, q⟩ := h
  refine ⟨rfl, ?_⟩
  refine ⟨fun m ρ => ∃ k : Nat, p + k + m = t.length ∧ (∀ c ∈ ((codes t).drop p).take k, inT z c = true) ∧ ρ = [.bo (.oi C a dx (rdr t (p + k))), .v (.tr (.str z)), .v (.tr (.int (p : Int)))], ⟨t.length - p, 0, by omega, fun c hc => by simp at hc, rfl⟩, ?_⟩
  rintro m ρ ⟨k, hk, hin, rfl⟩
  have hlc := codes_len t
  refine ⟨rfl, rfl, by show t.length ≤ 1000000; omega, ?_⟩
  have stop : ∀ n, runT z t p = ((codes t).drop p).take n → n ≤ t.length - p → n = k → lentEndO C a dx Q (.tr (.str (Txt.slice t (some (p : Int)) (some ((p + k : Nat) : Int))))) [.bo (.oi C a dx (rdr t (p + k))), .v (.tr (.str z)), .v (.tr (.int (p : Int)))] := fun n hn hl2 e => by
    subst e
    have hsl : Txt.slice t (some (p : Int)) (some ((p + n : Nat) : Int)) = ⟨(runT z t p).toArray⟩ := by
      rw [beq_iff_eq.mp (PyProof.Rows.slice_closesL (x := t) (i := (p : Int)) (j := ((p + n : Nat) : Int)) (by omega) (by omega) (by omega)), hn]
      congr 3
      omega
    have hll : (runT z t p).length = n := by rw [hn, List.length_take, List.length_drop]; omega
    rw [hsl]
    rw [hll] at q
    exact ⟨rfl, rfl, rfl, q⟩
  by_cases hlt : p + k < t.length
  · have hd : decide ((((p + k : Nat) : Int)) < ((t.length : Nat) : Int)) = true := decide_eq_true (by omega)
    refine (if_pos hd).mpr ?_
    obtain ⟨c, hc⟩ : ∃ c, (codes t)[p + k]? = some c := ⟨_, List.getElem?_eq_getElem (by omega)⟩
    have hat : atI t.cps.toList ((p + k : Nat) : Int) = some c := atI_nat hc
    refine ⟨rfl, rfl, by show t.length ≤ 1000000; omega, ?_⟩
    show match atI t.cps.toList ((p + k : Nat) : Int) with | some c => _ | none => False
    rw [hat]
    show if inT z c = true then _ else _
    have hdr : ((codes t).drop p)[k]? = some c := by rw [List.getElem?_drop]; exact hc
    cases hz : inT z c with
    | true =>
      refine (if_pos rfl).mpr ?_
      refine ⟨fun ρ' => ∃ m', m' < m ∧ ∃ k : Nat, p + k + m' = t.length ∧ (∀ c ∈ ((codes t).drop p).take k, inT z c = true) ∧ ρ' = [.bo (.oi C a dx (rdr t (p + k))), .v (.tr (.str z)), .v (.tr (.int (p : Int)))], fun ρ' h => h, ?_⟩
      refine ⟨rfl, rfl, (by show 2 < 1000; decide), fun o ho => rdr_no ho, m - 1, by omega, k + 1, by omega, fun c' hc' => ?_, rfl⟩
      rw [List.take_succ, hdr] at hc'
      rcases List.mem_append.mp hc' with h | h
      · exact hin c' h
      · rw [List.mem_singleton.mp h]; exact hz
    | false =>
      refine (if_neg Bool.false_ne_true).mpr ?_
      exact ⟨rfl, rfl, (by show t.length ≤ 1000000; omega), stop k (tw_stop hin fun c' h => by rw [hdr] at h; cases h; exact hz) (by omega) rfl⟩
  · have hd : ¬ (decide ((((p + k : Nat) : Int)) < ((t.length : Nat) : Int)) = true) := by rw [decide_eq_true_eq]; omega
    refine (if_neg hd).mpr ?_
    exact ⟨rfl, rfl, (by show t.length ≤ 1000000; omega), stop k (tw_stop hin fun c' h => by
      have := (List.getElem?_eq_some_iff.mp h).1
      rw [List.length_drop] at this
      omega) (by omega) rfl⟩
end

def figOk (x : Str) : Bool := (codes x).all (inT figS) && (match codes x with | [] => false | c :: r => r.isEmpty || c != 48) && decide (x.length ≤ 2)
theorem num_ok : ∀ n : Fin 21, n.val ≠ 0 → figOk (txtI (n.val : Int)) = true := by decide +kernel
theorem num_fig {n : Int} (h0 : 0 < n) (h1 : n < 21) : (∀ c ∈ codes (txtI n), inT figS c = true) ∧ (∃ c r, codes (txtI n) = c :: r ∧ (r = [] ∨ c ≠ 48)) ∧ (txtI n).length ≤ 2 := by
  have h := num_ok ⟨n.toNat, by omega⟩ (by show n.toNat ≠ 0; omega)
  have e : ((n.toNat : Nat) : Int) = n := by omega
  rw [e] at h
  unfold figOk at h
  rw [Bool.and_eq_true, Bool.and_eq_true, decide_eq_true_eq, List.all_eq_true] at h
  refine ⟨h.1.1, ?_, h.2⟩
  have h2 := h.1.2
  cases q : codes (txtI n) with
  | nil => rw [q] at h2; cases h2
  | cons c r =>
    rw [q] at h2
    refine ⟨c, r, rfl, ?_⟩
    cases r with
    | nil => exact .inl rfl
    | cons b r => exact .inr (by simpa using h2)
section
variable {P : Program} {w : World} {K : PySem.W.Frag} {mg : Str → Option Value} {base : Heap} {f : Addr} {fd : FuncData} {C_Reader : Addr}
theorem okx_af4 (F : Fun K "are_figures" "are_figures" s_are_figures f fd) (m_len : mg "len" = none) (m_all : mg "all" = none) (c_FIGURES : ∃ t, mg "FIGURES" = some (.str figS t)) : FnOk P w K mg base CX0 1 f fd ["text"] (spX gAF4) := by
  refine fn_x F sc_are_figures (fun ds Q h => by obtain ⟨_, rfl, _⟩ := h; rfl) (by decide) fun cdv A outer s H E hr => ?_
  have hu1 := hu_of hr
  have hu0 := Nat.lt_of_succ_lt hu1
  refine ⟨_, (xss_cons (xs_if (XW.pt (xw_or (xt_cmp (op_eqA K hu0) ox_eq (xe_var (pv 0)) xe_str (nomark _)) (xw_or1 (xt_not (xt_val (xe_callB (call_allA K (by rfl)) cx_all (by rfl) m_all bt_all (xa_cons (xe_comp (dsc := defScope s_are_figures) (N := ["text"]) (tgs := ["sign"]) (outs := []) (N' := ["sign"]) (by refine ⟨rfl, ?_, ?_, ?_, rfl, ?_, ?_, ?_⟩ <;> decide +kernel) (xi_str (xe_var (pv 0))) (fun _ _ _ _ _ => (pg_name (i := 0) (show (["sign"] : List Str).Nodup by decide +kernel) rfl (Or.inl rfl) (.inr rfl))) (gx_name (n := 1) (i := 0) (by decide)) (tgt_name (by decide)) (fun _ _ _ _ _ => xcs_nil) (fun _ _ _ _ _ => (xe_cmp op_in_str ox_inS (xe_var (pv 0)) (xe_globS (by rfl) c_FIGURES) (by with_unfolding_all rfl)))) xa_nil))))))) (xss_one (xs_ret xe_bl)) xss_nil)
    (xss_one (xs_ret (xe_or (xe_cmp (op_eqA K hu0) ox_eq (xe_callB (call_lenA K) cx_len (by rfl) m_len PySem.boot_len (xa_cons (xe_var (pv 0)) xa_nil)) xe_int (nomark _)) (xe_one (xe_cmp (op_neA K hu0) ox_ne (xe_ix K (xe_var (pv 0)) xe_int (fun _ _ => rfl)) xe_str (nomark _))))))), fun ds Q h => ?_⟩
  obtain ⟨x, rfl, hxl, hall, ⟨c, r, hc, hr2⟩, q⟩ := h
  have hne : x ≠ "" := fun z => by rw [z] at hc; cases hc
  refine go_ifB false (ρ' := [.v (.tr (.str x))]) (fun Q q => ?_) (fun hb => by cases hb) (fun hb => ?_)
  · show if decide (x = "") = true then _ else _
    rw [decide_eq_false hne]
    show (sgX x).length ≤ 1000000 ∧ compX _ _ _ _ _ (sgX x) _ _
    have esg : sgX x = (codes x).map fun c => Dx.str ⟨#[c]⟩ := rfl
    rw [esg]
    refine ⟨by rw [List.length_map, ← codes_len]; omega, ?_⟩
    refine compX_fun (fun c : Nat => Dx.str ⟨#[c]⟩) (fun c => .bl (inT figS c)) (fun c hm acc P p => p) ?_
    refine ⟨(codes x).map (inT figS), by rw [List.map_map]; rfl, ?_⟩
    have e : ((codes x).map (inT figS)).all id = true := by
      rw [List.all_eq_true]
      intro b hb
      obtain ⟨c', h1, rfl⟩ := List.mem_map.mp hb
      exact hall c' h1
    rw [e]
    exact q
  · have hx0 : atI x.cps.toList 0 = some c := atI_nat (xs := codes x) (j := 0) (by rw [hc]; rfl)
    have hlen : x.length = r.length + 1 := by rw [codes_len, hc]; rfl
    refine ⟨by show x.length ≤ 1000000; omega, ?_⟩
    show if decide ((x.length : Int) = 1) = true then _ else _
    by_cases h1 : x.length = 1
    · rw [decide_eq_true (by omega)]
      exact q
    · rw [decide_eq_false (by omega)]
      refine ⟨by show x.length ≤ 1000000; omega, ?_⟩
      show match atI x.cps.toList 0 with | some c => _ | none => False
      rw [hx0]
      have hc48 : c ≠ 48 := by
        rcases hr2 with h | h
        · rw [h] at hlen; exact absurd hlen h1
        · exact h
      have hne2 : (⟨#[c]⟩ : Str) ≠ "0" := fun z => hc48 (by
        have := congrArg codes z
        exact (List.cons.inj (show [c] = [48] from this)).1)
      show Q (.tr (.bl (!decide ((⟨#[c]⟩ : Str) = "0"))))
      rw [decide_eq_false hne2]
      exact q
theorem okx_take_number (F : Fun K "take_number" "Reader.take_number" s_take_number f fd) (CM_take_run : CalM P w K mg base 1 C_Reader "take_run" ["self", "signs"] (spO (gTR C_Reader))) (CAF : Cal P w K mg base 1 "are_figures" ["text"] (spX gAF4)) (m_len : mg "len" = none) (m_int : mg "int" = none) (c_FIGURES : ∃ t, mg "FIGURES" = some (.str figS t)) : FnOk P w K mg base CX0 2 f fd ["self", "most_figures"] (spO (gTN C_Reader)) := by
  refine fn_o F sc_take_number (fun C l ds Q h => by obtain ⟨_, t, p, n, _, rfl, _⟩ := h; rfl) (by decide) fun cdv A outer s H E hr => ?_
  have hu1 := hu_of hr
  have hu0 := Nat.lt_of_succ_lt hu1
  refine ⟨_, (xss_cons (xs_setP fun F => ps_set (i := 2) sc_take_number.nd rfl (Or.inl rfl) (XE.at (Ex := noEx) F (xe_methO (C := C_Reader) (i := 0) CM_take_run (hr.mono (by omega)) (pv 0) (xa_cons (xe_globS (by rfl) c_FIGURES) xa_nil))))
    (xss_cons (xs_if (XW.pt (xw_or (xt_not (xt_val (xe_call CAF (hr.mono (by omega)) (xa_cons (xe_var (pv 2)) xa_nil)))) (xw_or1 (xt_cmp op_gt ox_gt (xe_callB (call_lenA K) cx_len (by rfl) m_len PySem.boot_len (xa_cons (xe_var (pv 2)) xa_nil)) (xe_var (pv 1)) (nomark _))))) (xss_one xs_no) xss_nil)
    (xss_one (xs_ret (xe_callTy call_intT cx_intT (by rfl) m_int bt_int (xa_cons (xe_var (pv 2)) xa_nil)))))), fun C a dx l ds Q h => ?_⟩
  obtain ⟨rfl, t, p, n, rfl, rfl, hp, hl, h0, h1, hrun, q⟩ := h
  obtain ⟨n1, n2, n3⟩ := num_fig h0 h1
  have etx : (⟨(runT figS t p).toArray⟩ : Str) = txtI n := codes_inj (by rw [hrun]; rfl)
  have elen : (runT figS t p).length = (txtI n).length := by rw [hrun, ← codes_len]
  refine ⟨⟨rfl, rfl⟩, rfl, t, figS, p, rfl, rfl, hp, hl, ?_⟩
  rw [etx, elen]
  dsimp only
  change xSeq _ _ [.bo (.oi C a dx (rdr t (p + (txtI n).length))), .v (.tr (.int 2)), .v (.tr (.str (txtI n)))] _
  refine go_skip (ρ' := [.bo (.oi C a dx (rdr t (p + (txtI n).length))), .v (.tr (.int 2)), .v (.tr (.str (txtI n)))]) (fun Q q => ?_) ?_
  · refine ⟨txtI n, rfl, by omega, n1, n2, ?_⟩
    refine ⟨by show (txtI n).length ≤ 1000000; omega, ?_⟩
    show Q (decide ((2 : Int) < ((txtI n).length : Int))) _
    rw [decide_eq_false (by omega)]
    exact q
  · exact ⟨txtI n, n, rfl, by omega, PySem.W.KIN.num_reads (by omega) (by omega), rfl, rfl, rfl, q⟩
end

mutual
def Kd.w : Kd → List Nat
  | .num w m => 110 :: (codes (txtI w) ++ 47 :: codes (txtI m))
  | .row k n => k.w ++ 42 :: codes (txtI n)
  | .rcd fs => 123 :: ((wF fs).drop 2 ++ [125])
  | .cho ks => 60 :: ((wK ks).drop 2 ++ [62])
def wF : List (Str × Kd) → List Nat
  | [] => []
  | f :: r => 44 :: 32 :: (codes f.1 ++ 32 :: (f.2.w ++ wF r))
def wK : List Kd → List Nat
  | [] => []
  | k :: r => 44 :: 32 :: (k.w ++ wK r)
end
mutual
def Ow.Own : Ow → Prop
  | .tr d => (∃ i, d = .int i) ∨ ∃ x, d = .str x
  | .ol _ l => ownL l
  | .ot l => ownL l
  | _ => False
def ownL : List Ow → Prop
  | [] => True
  | o :: r => o.Own ∧ ownL r
end
def Halt (r : List Nat) : Prop := ∀ c l, r = c :: l → c ≠ 42 ∧ inT figS c = false
def HaltD (r : List Nat) : Prop := ∀ c l, r = c :: l → inT figS c = false
theorem tw_app {f : Nat → Bool} {l r : List Nat} (h : ∀ c ∈ l, f c = true) (h2 : ∀ c r', r = c :: r' → f c = false) : (l ++ r).takeWhile f = l := by
  induction l with
  | nil =>
    cases r with
    | nil => rfl
    | cons c r => rw [List.nil_append, List.takeWhile_cons, h2 c r rfl]; rfl
  | cons a l ih => rw [List.cons_append, List.takeWhile_cons, h a List.mem_cons_self, if_pos rfl, ih fun c hc => h c (List.mem_cons_of_mem _ hc)]
def rowsOf (k : Kd) (ns : List Int) : Kd := ns.foldl (fun k n => .row k n) k
def stars : List Int → List Nat
  | [] => []
  | n :: r => 42 :: (codes (txtI n) ++ stars r)
theorem rows_w : ∀ (ns : List Int) (k : Kd), (rowsOf k ns).w = k.w ++ stars ns
  | [], k => by simp [rowsOf, stars]
  | n :: r, k => by
    show (rowsOf (.row k n) r).w = _
    rw [rows_w r]
    simp only [Kd.w, stars, List.append_assoc, List.cons_append]
theorem rows_snoc (k : Kd) (ns : List Int) (n : Int) : rowsOf k (ns ++ [n]) = .row (rowsOf k ns) n := by unfold rowsOf; rw [List.foldl_append]; rfl
def Kd.isRow : Kd → Bool
  | .row _ _ => true
  | _ => false
theorem kd_rows : ∀ k : Kd, ∃ k0 ns, k = rowsOf k0 ns ∧ k0.isRow = false
  | .num w m => ⟨.num w m, [], rfl, rfl⟩
  | .rcd fs => ⟨.rcd fs, [], rfl, rfl⟩
  | .cho ks => ⟨.cho ks, [], rfl, rfl⟩
  | .row k n => by
    obtain ⟨k0, ns, e, h⟩ := kd_rows k
    exact ⟨k0, ns ++ [n], by rw [rows_snoc, ← e], h⟩
theorem rows_fit : ∀ (ns : List Int) (k : Kd), (rowsOf k ns).Fit → k.Fit ∧ ∀ n ∈ ns, 1 ≤ n ∧ n ≤ 20
  | [], k, h => ⟨h, fun n hn => absurd hn List.not_mem_nil⟩
  | n :: r, k, h => by
    obtain ⟨h1, h2⟩ := rows_fit r (.row k n) h
    simp only [Kd.Fit] at h1
    exact ⟨h1.1, fun m hm => (List.mem_cons.mp hm).elim (fun e => e ▸ h1.2) (h2 m)⟩
theorem rows_deep : ∀ (ns : List Int) (k : Kd), k.deep ≤ (rowsOf k ns).deep
  | [], k => Nat.le_refl _
  | n :: r, k => by
    have := rows_deep r (.row k n)
    simp only [Kd.deep] at this
    exact Nat.le_trans (Nat.le_succ _) this
theorem deep_one : ∀ k : Kd, 1 ≤ k.deep
  | .num _ _ => Nat.le_refl _
  | .row k n => Nat.succ_le_succ (Nat.zero_le _)
  | .rcd fs => Nat.succ_le_succ (Nat.zero_le _)
  | .cho ks => Nat.succ_le_succ (Nat.zero_le _)
def gTI (C0 : Addr) (n : Nat) : GO := fun C l ds Q => C = C0 ∧ ∃ (t : Str) (p : Nat) (d : Int) (k : Kd) (rest : List Nat), l = rdr t p ∧ ds = [.int d] ∧ t.length ≤ 100000 ∧ k.isRow = false ∧ k.Fit ∧ k.deep ≤ n ∧ (k.deep : Int) ≤ d ∧ (codes t).drop p = k.w ++ rest ∧ HaltD rest ∧ p ≤ t.length ∧
  ∀ o : Ow, o.Own → o.d = k.x → Q (.ow o) (rdr t (p + k.w.length))
def gTD (C0 : Addr) (n : Nat) : GO := fun C l ds Q => C = C0 ∧ ∃ (t : Str) (p : Nat) (d : Int) (k : Kd) (rest : List Nat), l = rdr t p ∧ ds = [.int d] ∧ t.length ≤ 100000 ∧ k.Fit ∧ k.deep ≤ n ∧ (k.deep : Int) ≤ d ∧ (codes t).drop p = k.w ++ rest ∧ Halt rest ∧ p ≤ t.length ∧
  ∀ o : Ow, o.Own → o.d = k.x → Q (.ow o) (rdr t (p + k.w.length))
def fieldX (f : Str × Kd) : Dx := .tup [.str f.1, f.2.x]
def gTG (C0 : Addr) (n : Nat) : GO := fun C l ds Q => C = C0 ∧ ∃ (t : Str) (p : Nat) (d : Int) (f : Str × Kd) (rest : List Nat), l = rdr t p ∧ ds = [.int d] ∧ t.length ≤ 100000 ∧ Nm f.1 ∧ f.2.Fit ∧ f.2.deep ≤ n ∧ (f.2.deep : Int) ≤ d ∧ (codes t).drop p = codes f.1 ++ 32 :: (f.2.w ++ rest) ∧ Halt rest ∧ p ≤ t.length ∧
  ∀ o : Ow, o.Own → o.d = fieldX f → Q (.ow o) (rdr t (p + ((codes f.1).length + 1 + f.2.w.length)))
def gTF (C0 : Addr) (n : Nat) : GO := fun C l ds Q => C = C0 ∧ ∃ (t : Str) (p : Nat) (d : Int) (fs : List (Str × Kd)) (rest : List Nat), l = rdr t p ∧ ds = [.int d] ∧ t.length ≤ 100000 ∧ fs ≠ [] ∧ fs.length ≤ 8 ∧ fitF fs ∧ deepF fs ≤ n ∧ (deepF fs : Int) ≤ d ∧ (codes t).drop p = (wF fs).drop 2 ++ 125 :: rest ∧ p ≤ t.length ∧
  ∀ o : Ow, o.Own → o.d = .lst (xF fs) → Q (.ow o) (rdr t (p + (((wF fs).drop 2).length + 1)))
def gTS (C0 : Addr) (n : Nat) : GO := fun C l ds Q => C = C0 ∧ ∃ (t : Str) (p : Nat) (d : Int) (ks : List Kd) (rest : List Nat), l = rdr t p ∧ ds = [.int d] ∧ t.length ≤ 100000 ∧ ks ≠ [] ∧ ks.length ≤ 8 ∧ fitK ks ∧ deepK ks ≤ n ∧ (deepK ks : Int) ≤ d ∧ (codes t).drop p = (wK ks).drop 2 ++ 62 :: rest ∧ p ≤ t.length ∧
  ∀ o : Ow, o.Own → o.d = .lst (xK ks) → Q (.ow o) (rdr t (p + (((wK ks).drop 2).length + 1)))
theorem drop_more {t : Str} {p : Nat} {a r : List Nat} (h : (codes t).drop p = a ++ r) : (codes t).drop (p + a.length) = r ∧ (p ≤ t.length → p + a.length ≤ t.length) := by
  refine ⟨by rw [← List.drop_drop, h, List.drop_left], fun hp => ?_⟩
  have := congrArg List.length h
  rw [List.length_drop, List.length_append, ← codes_len] at this
  omega
theorem num_at {t : Str} {p : Nat} {n : Int} {r : List Nat} (h0 : 0 < n) (h1 : n < 21) (h : (codes t).drop p = codes (txtI n) ++ r) (hr : HaltD r) : runT figS t p = codes (txtI n) := by
  unfold runT
  rw [h]
  exact tw_app (num_fig h0 h1).1 hr
section
variable {P : Program} {w : World} {K : PySem.W.Frag} {mg : Str → Option Value} {base : Heap} {f : Addr} {fd : FuncData} {C_Reader : Addr} {n j : Nat}
theorem okx_td (F : Fun K "taken_kind" "taken_kind" s_taken_kind f fd) (CTI : Cal P w K mg base (j + 2) "taken_inner_kind" ["reader", "depth"] (spO (gTI C_Reader n))) (CM_passes : CalM P w K mg base 1 C_Reader "passes" ["self", "signs"] (spO (gPA C_Reader))) (CM_take_number : CalM P w K mg base 2 C_Reader "take_number" ["self", "most_figures"] (spO (gTN C_Reader))) (c_FIGURES_OF_A_KIND : ∃ t, mg "FIGURES_OF_A_KIND" = some (.int 2 t)) : FnOk P w K mg base CX0 (j + 3) f fd ["reader", "depth"] (spO (gTD C_Reader n)) := by
  refine fn_o F sc_taken_kind (fun C l ds Q h => by obtain ⟨_, _, _, _, _, _, _, rfl, _⟩ := h; rfl) (by decide) fun cdv A outer s H E hr => ?_
  have hu1 := hu_of hr
  have hu0 := Nat.lt_of_succ_lt hu1
  refine ⟨_, (xss_cons (xs_if (xt_cmp op_lt ox_lt (xe_var (pv 1)) xe_int (nomark _)) (xss_one xs_no) xss_nil)
    (xss_cons (xs_setP fun F => ps_set (i := 2) sc_taken_kind.nd rfl (Or.inl rfl) (XE.at (Ex := noEx) F (xe_callO (i := 0) CTI (hr.mono (by omega)) (pv 0) (xa_cons (xe_var (pv 1)) xa_nil))))
    (xss_cons (xs_while PassesOwn.never (xt_val (xe_methO (C := C_Reader) (i := 0) CM_passes (hr.mono (by omega)) (pv 0) (xa_cons xe_str xa_nil))) (xss_one (xs_setP fun F => ps_set (i := 2) sc_taken_kind.nd rfl (Or.inl rfl) (XE.at (Ex := noEx) F (xe_tupO (xa_cons xe_str (xa_cons (xe_move (pv 2)) (xa_cons (xe_methO (C := C_Reader) (i := 0) CM_take_number (hr.mono (by omega)) (pv 0) (xa_cons (xe_glob (by rfl) c_FIGURES_OF_A_KIND) xa_nil)) xa_nil))))))))
    (xss_one (xs_ret (xe_move (pv 2))))))), fun C a dx l ds Q h => ?_⟩
  obtain ⟨rfl, t, p, d, k, rest, rfl, rfl, htl, hfit, hdn, hdd, hw, hh, hp, q⟩ := h
  obtain ⟨k0, ns, rfl, hk0⟩ := kd_rows k
  obtain ⟨hf0, hns⟩ := rows_fit ns k0 hfit
  have hd0 := rows_deep ns k0
  have hd1 := deep_one k0
  refine go_skip (ρ' := [.bo (.oi C a dx (rdr t p)), .v (.tr (.int d)), .un]) (fun Q q => ?_) ?_
  · show Q (decide (d < 1)) _
    rw [decide_eq_false (by omega)]
    exact q
  have hw0 : (codes t).drop p = k0.w ++ (stars ns ++ rest) := by rw [hw, rows_w, List.append_assoc]
  have haltD : ∀ ns : List Int, HaltD (stars ns ++ rest) := fun ns c l e => by
    cases ns with
    | nil => exact (hh c l e).2
    | cons n r => cases e; decide +kernel
  refine ⟨rfl, rfl, t, p, d, k0, stars ns ++ rest, rfl, rfl, htl, hk0, hf0, by omega, by omega, hw0, haltD ns, hp, fun o ho hod => ?_⟩
  dsimp only
  change xSeq _ _ [.bo (.oi C a dx (rdr t (p + k0.w.length))), .v (.tr (.int d)), .v (.ow o)] _
  refine ⟨fun m ρ => ∃ (dn td : List Int) (o : Ow) (x : Nat), m = td.length ∧ ns = dn ++ td ∧ o.Own ∧ o.d = (rowsOf k0 dn).x ∧ (codes t).drop x = stars td ++ rest ∧ x ≤ t.length ∧ x + (stars td).length = p + (rowsOf k0 ns).w.length ∧ ρ = [.bo (.oi C a dx (rdr t x)), .v (.tr (.int d)), .v (.ow o)], ⟨_, [], ns, o, _, rfl, rfl, ho, hod, (drop_more hw0).1, (drop_more hw0).2 hp, by rw [rows_w, List.length_append]; omega, rfl⟩, ?_⟩
  rintro m ρ ⟨dn, td, o, x, rfl, hnd, ho, hod, hdr, hx, hxe, rfl⟩
  refine ⟨⟨rfl, rfl⟩, rfl, t, "*", x, rfl, rfl, hx, htl, fun b hb => ?_⟩
  rw [hdr] at hb
  cases td with
  | nil =>
    have hb0 : b = false := by
      rw [hb]
      cases hr : rest with
      | nil => rfl
      | cons c l =>
        have := (hh c l hr).1
        show (42 == c && _) = false
        rw [show (42 == c) = false from by simpa using fun e => this e.symm]
        rfl
    subst hb0
    have hxe' : x = p + (rowsOf k0 ns).w.length := hxe
    have hnd' : ns = dn := by rw [hnd, List.append_nil]
    refine ⟨rfl, rfl, rfl, ?_⟩
    have q' := q o ho (by rw [hod, hnd'])
    rw [← hxe'] at q'
    exact q'
  | cons n r =>
    have hb1 : b = true := by rw [hb]; rfl
    subst hb1
    have hn := hns n (by rw [hnd]; exact List.mem_append_right _ List.mem_cons_self)
    have h2 : (codes t).drop x = [42] ++ (codes (txtI n) ++ (stars r ++ rest)) := by rw [hdr]; simp only [stars, List.cons_append, List.append_assoc, List.nil_append]
    obtain ⟨h3, h3'⟩ := drop_more h2
    obtain ⟨h4, h4'⟩ := drop_more h3
    refine ⟨fun ρ' => ∃ m', m' < r.length + 1 ∧ ∃ (dn td : List Int) (o : Ow) (x : Nat), m' = td.length ∧ ns = dn ++ td ∧ o.Own ∧ o.d = (rowsOf k0 dn).x ∧ (codes t).drop x = stars td ++ rest ∧ x ≤ t.length ∧ x + (stars td).length = p + (rowsOf k0 ns).w.length ∧ ρ' = [.bo (.oi C a dx (rdr t x)), .v (.tr (.int d)), .v (.ow o)], fun ρ' h => h, ?_⟩
    refine ⟨⟨rfl, rfl⟩, rfl, t, x + 1, n, rfl, rfl, h3' hx, htl, by omega, by omega, num_at (by omega) (by omega) h3 (haltD r), ?_⟩
    refine ⟨[.tr (.str "row"), o, .tr (.int n)], rfl, (by show 3 ≤ 1000000; decide), r.length, by omega, dn ++ [n], r, _, x + 1 + (txtI n).length, rfl, by rw [hnd, List.append_assoc]; rfl, ?_, ?_, ?_, ?_, ?_, rfl⟩
    · simp only [Ow.Own, ownL]
      exact ⟨.inr ⟨_, rfl⟩, ho, .inl ⟨_, rfl⟩, trivial⟩
    · rw [rows_snoc]
      simp only [Ow.d, owDs, hod, Kd.x]
    · rw [codes_len]; exact h4
    · rw [codes_len]; exact h4' (h3' hx)
    · rw [codes_len]
      simp only [stars, List.length_cons, List.length_append] at hxe
      omega
end

theorem low_ok : ∀ i : Fin 26, inT lets (97 + i.val) = true := by decide +kernel
theorem low_in {l : List Nat} (h : Low l) : ∀ c ∈ l, inT lets c = true := fun c hc => by
  have := h c hc
  have e := low_ok ⟨c - 97, by omega⟩
  rw [show 97 + (c - 97) = c from by omega] at e
  exact e
theorem nm_at {t : Str} {p : Nat} {x : Str} {r : List Nat} (hx : Nm x) (h : (codes t).drop p = codes x ++ 32 :: r) : runT lets t p = codes x := by
  unfold runT
  rw [h]
  exact tw_app (low_in hx.2.2) fun c r' e => by cases e; decide +kernel
theorem pre_app {a b : List Nat} : a.isPrefixOf (a ++ b) = true := List.isPrefixOf_iff_prefix.mpr (List.prefix_append a b)
theorem own_snoc {o : Ow} : ∀ {l : List Ow}, ownL l → o.Own → ownL (l ++ [o])
  | [], _, h => ⟨h, trivial⟩
  | _ :: _, h, h2 => ⟨h.1, own_snoc h.2 h2⟩
theorem owDs_snoc {o : Ow} : ∀ {l : List Ow}, owDs (l ++ [o]) = owDs l ++ [o.d]
  | [] => by simp only [List.nil_append, owDs]
  | p :: r => by simp only [List.cons_append, owDs, owDs_snoc]
theorem owDs_len : ∀ {l : List Ow}, (owDs l).length = l.length
  | [] => rfl
  | p :: r => by simp only [owDs, List.length_cons, owDs_len]
theorem fitF_app : ∀ {a b : List (Str × Kd)}, fitF (a ++ b) → fitF b
  | [], _, h => h
  | _ :: _, _, h => fitF_app h.2
theorem deepF_app : ∀ {a b : List (Str × Kd)}, deepF b ≤ deepF (a ++ b)
  | [], _ => Nat.le_refl _
  | x :: a, b => Nat.le_trans (deepF_app (a := a)) (Nat.le_max_right _ _)
theorem fitK_app : ∀ {a b : List Kd}, fitK (a ++ b) → fitK b
  | [], _, h => h
  | _ :: _, _, h => fitK_app h.2
theorem deepK_app : ∀ {a b : List Kd}, deepK b ≤ deepK (a ++ b)
  | [], _ => Nat.le_refl _
  | x :: a, b => Nat.le_trans (deepK_app (a := a)) (Nat.le_max_right _ _)
theorem xF_snoc {f : Str × Kd} : ∀ {l : List (Str × Kd)}, xF (l ++ [f]) = xF l ++ [fieldX f]
  | [] => by simp only [List.nil_append, xF, fieldX]
  | g :: l => by simp only [List.cons_append, xF, xF_snoc]
theorem xK_snoc {f : Kd} : ∀ {l : List Kd}, xK (l ++ [f]) = xK l ++ [f.x]
  | [] => by simp only [List.nil_append, xK]
  | g :: l => by simp only [List.cons_append, xK, xK_snoc]
theorem xF_len : ∀ {l : List (Str × Kd)}, (xF l).length = l.length
  | [] => rfl
  | g :: l => by simp only [xF, List.length_cons, xF_len]
theorem xK_len : ∀ {l : List Kd}, (xK l).length = l.length
  | [] => rfl
  | g :: l => by simp only [xK, List.length_cons, xK_len]
section
variable {P : Program} {w : World} {K : PySem.W.Frag} {mg : Str → Option Value} {base : Heap} {f : Addr} {fd : FuncData} {C_Reader : Addr} {n j : Nat}
theorem okx_tg (F : Fun K "taken_field" "taken_field" s_taken_field f fd) (CTD : Cal P w K mg base (j + 2) "taken_kind" ["reader", "depth"] (spO (gTD C_Reader n))) (CM_take : CalM P w K mg base 2 C_Reader "take" ["self", "signs"] (spO (gTA C_Reader))) (CM_take_run : CalM P w K mg base 1 C_Reader "take_run" ["self", "signs"] (spO (gTR C_Reader))) (c_SMALL_LETTERS : ∃ t, mg "SMALL_LETTERS" = some (.str lets t)) : FnOk P w K mg base CX0 (j + 3) f fd ["reader", "depth"] (spO (gTG C_Reader n)) := by
  refine fn_o F sc_taken_field (fun C l ds Q h => by obtain ⟨_, _, _, _, _, _, _, rfl, _⟩ := h; rfl) (by decide) fun cdv A outer s H E hr => ?_
  have hu1 := hu_of hr
  have hu0 := Nat.lt_of_succ_lt hu1
  refine ⟨_, (xss_cons (xs_setP fun F => ps_set (i := 2) sc_taken_field.nd rfl (Or.inl rfl) (XE.at (Ex := noEx) F (xe_methO (C := C_Reader) (i := 0) CM_take_run (hr.mono (by omega)) (pv 0) (xa_cons (xe_globS (by rfl) c_SMALL_LETTERS) xa_nil))))
    (xss_cons (xs_expr (xe_methO (C := C_Reader) (i := 0) CM_take (hr.mono (by omega)) (pv 0) (xa_cons xe_str xa_nil)))
    (xss_one (xs_ret (xe_tupO (xa_cons (xe_var (pv 2)) (xa_cons (xe_callO (i := 0) CTD (hr.mono (by omega)) (pv 0) (xa_cons (xe_var (pv 1)) xa_nil)) xa_nil))))))), fun C a dx l ds Q h => ?_⟩
  obtain ⟨rfl, t, p, d, fl, rest, rfl, rfl, htl, hnm, hfit, hdn, hdd, hw, hh, hp, q⟩ := h
  obtain ⟨h1, h1'⟩ := drop_more hw
  have h1b : (codes t).drop (p + (codes fl.1).length) = [32] ++ (fl.2.w ++ rest) := h1
  obtain ⟨h2, h2'⟩ := drop_more h1b
  have erun := nm_at hnm hw
  have etx : (⟨(runT lets t p).toArray⟩ : Str) = fl.1 := codes_inj (by rw [erun]; rfl)
  refine ⟨⟨rfl, rfl⟩, rfl, t, lets, p, rfl, rfl, hp, htl, ?_⟩
  rw [etx, erun]
  refine ⟨⟨rfl, rfl⟩, rfl, t, " ", p + (codes fl.1).length, rfl, rfl, h1' hp, htl, by rw [h1b]; exact pre_app (a := [32]), ?_⟩
  refine ⟨rfl, rfl, t, p + (codes fl.1).length + 1, d, fl.2, rest, rfl, rfl, htl, hfit, hdn, hdd, h2, hh, h2' (h1' hp), fun o ho hod => ?_⟩
  refine ⟨[.tr (.str fl.1), o], rfl, (by show 2 ≤ 1000000; decide), rfl, rfl, rfl, ?_⟩
  have q' := q (.ot [.tr (.str fl.1), o]) (by simp only [Ow.Own, ownL]; exact ⟨.inr ⟨_, rfl⟩, ho, trivial⟩) (by simp only [Ow.d, owDs, hod, fieldX])
  have e : p + ((codes fl.1).length + 1 + fl.2.w.length) = p + (codes fl.1).length + 1 + fl.2.w.length := by omega
  rw [e] at q'
  exact q'
theorem okx_tf (F : Fun K "taken_fields" "taken_fields" s_taken_fields f fd) (CTG : Cal P w K mg base (j + 3) "taken_field" ["reader", "depth"] (spO (gTG C_Reader n))) (CM_take : CalM P w K mg base 2 C_Reader "take" ["self", "signs"] (spO (gTA C_Reader))) (CM_passes : CalM P w K mg base 1 C_Reader "passes" ["self", "signs"] (spO (gPA C_Reader))) (c_COMMA : ∃ t, mg "COMMA" = some (.str comS t)) : FnOk P w K mg base CX0 (j + 4) f fd ["reader", "depth"] (spO (gTF C_Reader n)) := by
  refine fn_o F sc_taken_fields (fun C l ds Q h => by obtain ⟨_, _, _, _, _, _, _, rfl, _⟩ := h; rfl) (by decide) fun cdv A outer s H E hr => ?_
  have hu1 := hu_of hr
  have hu0 := Nat.lt_of_succ_lt hu1
  refine ⟨_, (xss_cons (xs_setP fun F => ps_set (i := 2) sc_taken_fields.nd rfl (Or.inl rfl) (XE.at (Ex := noEx) F (xe_lstO (xa_cons (xe_callO (i := 0) CTG (hr.mono (by omega)) (pv 0) (xa_cons (xe_var (pv 1)) xa_nil)) xa_nil))))
    (xss_cons (xs_while PassesOwn.never (xt_val (xe_methO (C := C_Reader) (i := 0) CM_passes (hr.mono (by omega)) (pv 0) (xa_cons (xe_globS (by rfl) c_COMMA) xa_nil))) (xss_one (xs_of fun F => PS.weak (ps_expr (pe_bm PySem.F.plainAttrs_list PySem.F.slot_list_append PySem.F.type_list_append mt_append (pv 2) (pa_cons (XE.at (Ex := noEx) F (xe_callO (i := 0) CTG (hr.mono (by omega)) (pv 0) (xa_cons (xe_var (pv 1)) xa_nil))) pa_nil))) tAppO_x)))
    (xss_cons (xs_expr (xe_methO (C := C_Reader) (i := 0) CM_take (hr.mono (by omega)) (pv 0) (xa_cons xe_str xa_nil)))
    (xss_one (xs_ret (xe_move (pv 2))))))), fun C a dx l ds Q h => ?_⟩
  obtain ⟨rfl, t, p, d, fs, rest, rfl, rfl, htl, hne, hf8, hfit, hdn, hdd, hw, hp, q⟩ := h
  cases fs with
  | nil => exact absurd rfl hne
  | cons f0 fr =>
  have hH : ∀ r : List (Str × Kd), Halt (wF r ++ 125 :: rest) := fun r c l e => by
    cases r with
    | nil => cases e; exact ⟨by decide, by decide +kernel⟩
    | cons g r => simp only [wF, List.cons_append] at e; cases e; exact ⟨by decide, by decide +kernel⟩
  have hw1 : (codes t).drop p = codes f0.1 ++ 32 :: (f0.2.w ++ (wF fr ++ 125 :: rest)) := by rw [hw]; simp only [wF, List.drop_succ_cons, List.drop_zero, List.append_assoc, List.cons_append]
  have hw1b : (codes t).drop p = (codes f0.1 ++ 32 :: f0.2.w) ++ (wF fr ++ 125 :: rest) := by rw [hw1]; simp only [List.append_assoc, List.cons_append]
  have hfitA := hfit
  have hdeepA : deepF (f0 :: fr) ≤ n ∧ (deepF (f0 :: fr) : Int) ≤ d := ⟨hdn, hdd⟩
  simp only [fitF] at hfit
  simp only [deepF] at hdn hdd
  refine ⟨rfl, rfl, t, p, d, f0, wF fr ++ 125 :: rest, rfl, rfl, htl, hfit.1.1, hfit.1.2, by omega, by omega, hw1, hH fr, hp, fun o ho hod => ?_⟩
  refine ⟨[o], rfl, (by show 1 ≤ 1000000; decide), fun a0 => ?_⟩
  dsimp only
  change xSeq _ _ [.bo (.oi C a dx (rdr t (p + ((codes f0.1).length + 1 + f0.2.w.length)))), .v (.tr (.int d)), .v (.ow (.ol a0 [o]))] _
  have eL : ((wF (f0 :: fr)).drop 2).length = ((codes f0.1).length + 1 + f0.2.w.length) + (wF fr).length := by
    (simp only [wF, List.drop_succ_cons, List.drop_zero, List.length_append, List.length_cons]) <;> omega
  have hstart : p + (codes f0.1 ++ 32 :: f0.2.w).length = p + ((codes f0.1).length + 1 + f0.2.w.length) := by rw [List.length_append, List.length_cons]; omega
  obtain ⟨hb1, hb2⟩ := drop_more hw1b
  rw [hstart] at hb1 hb2
  refine ⟨fun m ρ => ∃ (dn td : List (Str × Kd)) (os : List Ow) (x : Nat), m = td.length ∧ f0 :: fr = dn ++ td ∧ ownL os ∧ owDs os = xF dn ∧ (codes t).drop x = wF td ++ 125 :: rest ∧ x ≤ t.length ∧ x + (wF td).length = p + ((wF (f0 :: fr)).drop 2).length ∧ ρ = [.bo (.oi C a dx (rdr t x)), .v (.tr (.int d)), .v (.ow (.ol a0 os))], ⟨_, [f0], fr, [o], _, rfl, rfl, ⟨ho, trivial⟩, by simp only [owDs, xF, hod, fieldX], hb1, hb2 hp, by rw [eL]; omega, rfl⟩, ?_⟩
  rintro m ρ ⟨dn, td, os, x, rfl, hnd, hos, hod, hdr, hx, hxe, rfl⟩
  have hosl : os.length ≤ 8 := by
    have e1 := congrArg List.length hod
    rw [owDs_len, xF_len] at e1
    have e2 := congrArg List.length hnd
    rw [List.length_append] at e2
    omega
  refine ⟨⟨rfl, rfl⟩, rfl, t, comS, x, rfl, rfl, hx, htl, fun b hb => ?_⟩
  rw [hdr] at hb
  cases td with
  | nil =>
    have hb0 : b = false := by rw [hb]; rfl
    subst hb0
    have hdr1 : (codes t).drop x = [125] ++ rest := hdr
    have hnd' : f0 :: fr = dn := by rw [hnd, List.append_nil]
    refine ⟨⟨rfl, rfl⟩, rfl, t, "}", x, rfl, rfl, hx, htl, by rw [hdr1]; exact pre_app (a := [125]), ?_⟩
    refine ⟨rfl, rfl, rfl, ?_⟩
    have q' := q (.ol a0 os) (by simp only [Ow.Own]; exact hos) (by simp only [Ow.d, hod, hnd'])
    have e : p + (((wF (f0 :: fr)).drop 2).length + 1) = x + 1 := by
      have hxe' : x = p + ((wF (f0 :: fr)).drop 2).length := hxe
      omega
    rw [e] at q'
    exact q'
  | cons g r =>
    have hb1 : b = true := by rw [hb]; rfl
    subst hb1
    have hfall := hfitA
    have hdall := hdeepA
    rw [hnd] at hfall hdall
    have hfg := fitF_app hfall
    have hdg := Nat.le_trans (deepF_app (a := dn) (b := g :: r)) hdall.1
    have hdg2 : deepF (g :: r) ≤ deepF (dn ++ g :: r) := deepF_app
    have hdgd := hdall.2
    simp only [fitF] at hfg
    have hmx : g.2.deep ≤ deepF (g :: r) := Nat.le_max_left _ _
    have h2 : (codes t).drop x = [44, 32] ++ (codes g.1 ++ 32 :: (g.2.w ++ (wF r ++ 125 :: rest))) := by rw [hdr]; simp only [wF, List.cons_append, List.append_assoc, List.nil_append]
    obtain ⟨h3, h3'⟩ := drop_more h2
    have h3b : (codes t).drop (x + [44, 32].length) = (codes g.1 ++ 32 :: g.2.w) ++ (wF r ++ 125 :: rest) := by (rw [h3]) <;> simp only [List.append_assoc, List.cons_append]
    obtain ⟨h4, h4'⟩ := drop_more h3b
    refine ⟨fun ρ' => ∃ m', m' < r.length + 1 ∧ ∃ (dn td : List (Str × Kd)) (os : List Ow) (x : Nat), m' = td.length ∧ f0 :: fr = dn ++ td ∧ ownL os ∧ owDs os = xF dn ∧ (codes t).drop x = wF td ++ 125 :: rest ∧ x ≤ t.length ∧ x + (wF td).length = p + ((wF (f0 :: fr)).drop 2).length ∧ ρ' = [.bo (.oi C a dx (rdr t x)), .v (.tr (.int d)), .v (.ow (.ol a0 os))], fun ρ' h => h, ?_⟩
    refine ⟨trivial, rfl, rfl, t, x + 2, d, g, wF r ++ 125 :: rest, rfl, rfl, htl, hfg.1.1, hfg.1.2, by omega, by omega, h3, hH r, h3' hx, fun o2 ho2 hod2 => ?_⟩
    refine ⟨o2, rfl, by omega, r.length, by omega, dn ++ [g], r, os ++ [o2], x + 2 + ((codes g.1).length + 1 + g.2.w.length), rfl, by rw [hnd, List.append_assoc]; rfl, own_snoc hos ho2, by rw [owDs_snoc, xF_snoc, hod, hod2], ?_, ?_, ?_, rfl⟩
    · have e : x + [44, 32].length + (codes g.1 ++ 32 :: g.2.w).length = x + 2 + ((codes g.1).length + 1 + g.2.w.length) := by simp only [List.length_append, List.length_cons, List.length_nil]; omega
      rw [← e]; exact h4
    · have e : x + [44, 32].length + (codes g.1 ++ 32 :: g.2.w).length = x + 2 + ((codes g.1).length + 1 + g.2.w.length) := by simp only [List.length_append, List.length_cons, List.length_nil]; omega
      rw [← e]; exact h4' (h3' hx)
    · rw [eL] at hxe ⊢
      have eg : (wF (g :: r)).length = 2 + ((codes g.1).length + 1 + g.2.w.length) + (wF r).length := by (simp only [wF, List.length_cons, List.length_append]) <;> omega
      rw [eg] at hxe
      omega
theorem okx_ts (F : Fun K "taken_kinds" "taken_kinds" s_taken_kinds f fd) (CTD : Cal P w K mg base (j + 3) "taken_kind" ["reader", "depth"] (spO (gTD C_Reader n))) (CM_take : CalM P w K mg base 2 C_Reader "take" ["self", "signs"] (spO (gTA C_Reader))) (CM_passes : CalM P w K mg base 1 C_Reader "passes" ["self", "signs"] (spO (gPA C_Reader))) (c_COMMA : ∃ t, mg "COMMA" = some (.str comS t)) : FnOk P w K mg base CX0 (j + 4) f fd ["reader", "depth"] (spO (gTS C_Reader n)) := by
  refine fn_o F sc_taken_kinds (fun C l ds Q h => by obtain ⟨_, _, _, _, _, _, _, rfl, _⟩ := h; rfl) (by decide) fun cdv A outer s H E hr => ?_
  have hu1 := hu_of hr
  have hu0 := Nat.lt_of_succ_lt hu1
  refine ⟨_, (xss_cons (xs_setP fun F => ps_set (i := 2) sc_taken_kinds.nd rfl (Or.inl rfl) (XE.at (Ex := noEx) F (xe_lstO (xa_cons (xe_callO (i := 0) CTD (hr.mono (by omega)) (pv 0) (xa_cons (xe_var (pv 1)) xa_nil)) xa_nil))))
    (xss_cons (xs_while PassesOwn.never (xt_val (xe_methO (C := C_Reader) (i := 0) CM_passes (hr.mono (by omega)) (pv 0) (xa_cons (xe_globS (by rfl) c_COMMA) xa_nil))) (xss_one (xs_of fun F => PS.weak (ps_expr (pe_bm PySem.F.plainAttrs_list PySem.F.slot_list_append PySem.F.type_list_append mt_append (pv 2) (pa_cons (XE.at (Ex := noEx) F (xe_callO (i := 0) CTD (hr.mono (by omega)) (pv 0) (xa_cons (xe_var (pv 1)) xa_nil))) pa_nil))) tAppO_x)))
    (xss_cons (xs_expr (xe_methO (C := C_Reader) (i := 0) CM_take (hr.mono (by omega)) (pv 0) (xa_cons xe_str xa_nil)))
    (xss_one (xs_ret (xe_move (pv 2))))))), fun C a dx l ds Q h => ?_⟩
  obtain ⟨rfl, t, p, d, ks, rest, rfl, rfl, htl, hne, hf8, hfit, hdn, hdd, hw, hp, q⟩ := h
  cases ks with
  | nil => exact absurd rfl hne
  | cons k0 kr =>
  have hH : ∀ r : List Kd, Halt (wK r ++ 62 :: rest) := fun r c l e => by
    cases r with
    | nil => cases e; exact ⟨by decide, by decide +kernel⟩
    | cons g r => simp only [wK, List.cons_append] at e; cases e; exact ⟨by decide, by decide +kernel⟩
  have hw1b : (codes t).drop p = k0.w ++ (wK kr ++ 62 :: rest) := by rw [hw]; simp only [wK, List.drop_succ_cons, List.drop_zero, List.append_assoc, List.cons_append]
  have hfitA := hfit
  have hdeepA : deepK (k0 :: kr) ≤ n ∧ (deepK (k0 :: kr) : Int) ≤ d := ⟨hdn, hdd⟩
  simp only [fitK] at hfit
  simp only [deepK] at hdn hdd
  refine ⟨rfl, rfl, t, p, d, k0, wK kr ++ 62 :: rest, rfl, rfl, htl, hfit.1, by omega, by omega, hw1b, hH kr, hp, fun o ho hod => ?_⟩
  refine ⟨[o], rfl, (by show 1 ≤ 1000000; decide), fun a0 => ?_⟩
  dsimp only
  change xSeq _ _ [.bo (.oi C a dx (rdr t (p + k0.w.length))), .v (.tr (.int d)), .v (.ow (.ol a0 [o]))] _
  have eL : ((wK (k0 :: kr)).drop 2).length = k0.w.length + (wK kr).length := by
    (simp only [wK, List.drop_succ_cons, List.drop_zero, List.length_append, List.length_cons]) <;> omega
  have hstart : p + (k0.w).length = p + k0.w.length := by rfl
  obtain ⟨hb1, hb2⟩ := drop_more hw1b
  rw [hstart] at hb1 hb2
  refine ⟨fun m ρ => ∃ (dn td : List Kd) (os : List Ow) (x : Nat), m = td.length ∧ k0 :: kr = dn ++ td ∧ ownL os ∧ owDs os = xK dn ∧ (codes t).drop x = wK td ++ 62 :: rest ∧ x ≤ t.length ∧ x + (wK td).length = p + ((wK (k0 :: kr)).drop 2).length ∧ ρ = [.bo (.oi C a dx (rdr t x)), .v (.tr (.int d)), .v (.ow (.ol a0 os))], ⟨_, [k0], kr, [o], _, rfl, rfl, ⟨ho, trivial⟩, by simp only [owDs, xK, hod], hb1, hb2 hp, by rw [eL]; omega, rfl⟩, ?_⟩
  rintro m ρ ⟨dn, td, os, x, rfl, hnd, hos, hod, hdr, hx, hxe, rfl⟩
  have hosl : os.length ≤ 8 := by
    have e1 := congrArg List.length hod
    rw [owDs_len, xK_len] at e1
    have e2 := congrArg List.length hnd
    rw [List.length_append] at e2
    omega
  refine ⟨⟨rfl, rfl⟩, rfl, t, comS, x, rfl, rfl, hx, htl, fun b hb => ?_⟩
  rw [hdr] at hb
  cases td with
  | nil =>
    have hb0 : b = false := by rw [hb]; rfl
    subst hb0
    have hdr1 : (codes t).drop x = [62] ++ rest := hdr
    have hnd' : k0 :: kr = dn := by rw [hnd, List.append_nil]
    refine ⟨⟨rfl, rfl⟩, rfl, t, ">", x, rfl, rfl, hx, htl, by rw [hdr1]; exact pre_app (a := [62]), ?_⟩
    refine ⟨rfl, rfl, rfl, ?_⟩
    have q' := q (.ol a0 os) (by simp only [Ow.Own]; exact hos) (by simp only [Ow.d, hod, hnd'])
    have e : p + (((wK (k0 :: kr)).drop 2).length + 1) = x + 1 := by
      have hxe' : x = p + ((wK (k0 :: kr)).drop 2).length := hxe
      omega
    rw [e] at q'
    exact q'
  | cons g r =>
    have hb1 : b = true := by rw [hb]; rfl
    subst hb1
    have hfall := hfitA
    have hdall := hdeepA
    rw [hnd] at hfall hdall
    have hfg := fitK_app hfall
    have hdg := Nat.le_trans (deepK_app (a := dn) (b := g :: r)) hdall.1
    have hdg2 : deepK (g :: r) ≤ deepK (dn ++ g :: r) := deepK_app
    have hdgd := hdall.2
    simp only [fitK] at hfg
    have hmx : g.deep ≤ deepK (g :: r) := Nat.le_max_left _ _
    have h2 : (codes t).drop x = [44, 32] ++ (g.w ++ (wK r ++ 62 :: rest)) := by rw [hdr]; simp only [wK, List.cons_append, List.append_assoc, List.nil_append]
    obtain ⟨h3, h3'⟩ := drop_more h2
    have h3b : (codes t).drop (x + [44, 32].length) = (g.w) ++ (wK r ++ 62 :: rest) := by (rw [h3]) <;> simp only [List.append_assoc, List.cons_append]
    obtain ⟨h4, h4'⟩ := drop_more h3b
    refine ⟨fun ρ' => ∃ m', m' < r.length + 1 ∧ ∃ (dn td : List Kd) (os : List Ow) (x : Nat), m' = td.length ∧ k0 :: kr = dn ++ td ∧ ownL os ∧ owDs os = xK dn ∧ (codes t).drop x = wK td ++ 62 :: rest ∧ x ≤ t.length ∧ x + (wK td).length = p + ((wK (k0 :: kr)).drop 2).length ∧ ρ' = [.bo (.oi C a dx (rdr t x)), .v (.tr (.int d)), .v (.ow (.ol a0 os))], fun ρ' h => h, ?_⟩
    refine ⟨trivial, rfl, rfl, t, x + 2, d, g, wK r ++ 62 :: rest, rfl, rfl, htl, hfg.1, by omega, by omega, h3, hH r, h3' hx, fun o2 ho2 hod2 => ?_⟩
    refine ⟨o2, rfl, by omega, r.length, by omega, dn ++ [g], r, os ++ [o2], x + 2 + g.w.length, rfl, by rw [hnd, List.append_assoc]; rfl, own_snoc hos ho2, by rw [owDs_snoc, xK_snoc, hod, hod2], ?_, ?_, ?_, rfl⟩
    · have e : x + [44, 32].length + (g.w).length = x + 2 + g.w.length := by rfl
      rw [← e]; exact h4
    · have e : x + [44, 32].length + (g.w).length = x + 2 + g.w.length := by rfl
      rw [← e]; exact h4' (h3' hx)
    · rw [eL] at hxe ⊢
      have eg : (wK (g :: r)).length = 2 + g.w.length + (wK r).length := by (simp only [wK, List.length_cons, List.length_append]) <;> omega
      rw [eg] at hxe
      omega
end

section
variable {P : Program} {w : World} {K : PySem.W.Frag} {mg : Str → Option Value} {base : Heap} {f : Addr} {fd : FuncData} {C_Reader : Addr} {n j : Nat}
set_option maxHeartbeats 16000000 in
theorem okx_ti (F : Fun K "taken_inner_kind" "taken_inner_kind" s_taken_inner_kind f fd) (CTF : Cal P w K mg base (j + 4) "taken_fields" ["reader", "depth"] (spO (gTF C_Reader n))) (CTS : Cal P w K mg base (j + 4) "taken_kinds" ["reader", "depth"] (spO (gTS C_Reader n))) (CM_take : CalM P w K mg base 2 C_Reader "take" ["self", "signs"] (spO (gTA C_Reader))) (CM_passes : CalM P w K mg base 1 C_Reader "passes" ["self", "signs"] (spO (gPA C_Reader))) (CM_take_number : CalM P w K mg base 2 C_Reader "take_number" ["self", "most_figures"] (spO (gTN C_Reader))) (c_FIGURES_OF_A_KIND : ∃ t, mg "FIGURES_OF_A_KIND" = some (.int 2 t)) : FnOk P w K mg base CX0 (j + 5) f fd ["reader", "depth"] (spO (gTI C_Reader (n + 1))) := by
  refine fn_o F sc_taken_inner_kind (fun C l ds Q h => by obtain ⟨_, _, _, _, _, _, _, rfl, _⟩ := h; rfl) (by decide) fun cdv A outer s H E hr => ?_
  have hu1 := hu_of hr
  have hu0 := Nat.lt_of_succ_lt hu1
  refine ⟨_, (xss_cons (xs_if (xt_val (xe_methO (C := C_Reader) (i := 0) CM_passes (hr.mono (by omega)) (pv 0) (xa_cons xe_str xa_nil))) (xss_one (xs_ret (xe_tupO (xa_cons xe_str (xa_cons (xe_callO (i := 0) CTF (hr.mono (by omega)) (pv 0) (xa_cons (xe_sub (xe_var (pv 1)) xe_int) xa_nil)) xa_nil))))) xss_nil)
    (xss_cons (xs_if (xt_val (xe_methO (C := C_Reader) (i := 0) CM_passes (hr.mono (by omega)) (pv 0) (xa_cons xe_str xa_nil))) (xss_one (xs_ret (xe_tupO (xa_cons xe_str (xa_cons (xe_callO (i := 0) CTS (hr.mono (by omega)) (pv 0) (xa_cons (xe_sub (xe_var (pv 1)) xe_int) xa_nil)) xa_nil))))) xss_nil)
    (xss_cons (xs_expr (xe_methO (C := C_Reader) (i := 0) CM_take (hr.mono (by omega)) (pv 0) (xa_cons xe_str xa_nil)))
    (xss_cons (xs_setP fun F => ps_set (i := 2) sc_taken_inner_kind.nd rfl (Or.inl rfl) (XE.at (Ex := noEx) F (xe_methO (C := C_Reader) (i := 0) CM_take_number (hr.mono (by omega)) (pv 0) (xa_cons (xe_glob (by rfl) c_FIGURES_OF_A_KIND) xa_nil))))
    (xss_cons (xs_expr (xe_methO (C := C_Reader) (i := 0) CM_take (hr.mono (by omega)) (pv 0) (xa_cons xe_str xa_nil)))
    (xss_one (xs_ret (xe_tupO (xa_cons xe_str (xa_cons (xe_var (pv 2)) (xa_cons (xe_methO (C := C_Reader) (i := 0) CM_take_number (hr.mono (by omega)) (pv 0) (xa_cons (xe_glob (by rfl) c_FIGURES_OF_A_KIND) xa_nil)) xa_nil))))))))))), fun C a dx l ds Q h => ?_⟩
  obtain ⟨rfl, t, p, d, k, rest, rfl, rfl, htl, hrow, hfit, hdn, hdd, hw, hh, hp, q⟩ := h
  refine ⟨⟨rfl, rfl⟩, rfl, t, "{", p, rfl, rfl, hp, htl, fun b hb => ?_⟩
  rw [hw] at hb
  cases k with
  | row k m => cases hrow
  | rcd fs =>
    have hb1 : b = true := by rw [hb]; simp only [Kd.w]; rfl
    subst hb1
    simp only [Kd.Fit] at hfit
    simp only [Kd.deep] at hdn hdd
    have hw2 : (codes t).drop p = [123] ++ ((wF fs).drop 2 ++ 125 :: rest) := by rw [hw]; simp only [Kd.w, List.cons_append, List.append_assoc, List.nil_append]
    obtain ⟨h2, h2'⟩ := drop_more hw2
    refine ⟨rfl, rfl, t, p + 1, d - 1, fs, rest, rfl, rfl, htl, (fun e => by rw [e] at hfit; exact absurd hfit.2.1 (by decide)), by omega, hfit.1, by omega, by omega, h2, h2' hp, fun o ho hod => ?_⟩
    refine ⟨[.tr (.str "record"), o], rfl, (by show 2 ≤ 1000000; decide), rfl, rfl, rfl, ?_⟩
    have q' := q (.ot [.tr (.str "record"), o]) (by simp only [Ow.Own, ownL]; exact ⟨.inr ⟨_, rfl⟩, ho, trivial⟩) (by simp only [Ow.d, owDs, hod, Kd.x])
    have e : p + (Kd.rcd fs).w.length = p + 1 + (((wF fs).drop 2).length + 1) := by (simp only [Kd.w, List.length_cons, List.length_append, List.length_nil]) <;> omega
    rw [e] at q'
    exact q'
  | cho ks =>
    have hb1 : b = false := by rw [hb]; simp only [Kd.w]; rfl
    subst hb1
    refine ⟨⟨rfl, rfl⟩, rfl, t, "<", p, rfl, rfl, hp, htl, fun b hb => ?_⟩
    rw [hw] at hb
    have hb1 : b = true := by rw [hb]; simp only [Kd.w]; rfl
    subst hb1
    simp only [Kd.Fit] at hfit
    simp only [Kd.deep] at hdn hdd
    have hw2 : (codes t).drop p = [60] ++ ((wK ks).drop 2 ++ 62 :: rest) := by rw [hw]; simp only [Kd.w, List.cons_append, List.append_assoc, List.nil_append]
    obtain ⟨h2, h2'⟩ := drop_more hw2
    refine ⟨rfl, rfl, t, p + 1, d - 1, ks, rest, rfl, rfl, htl, (fun e => by rw [e] at hfit; exact absurd hfit.2.1 (by decide)), by omega, hfit.1, by omega, by omega, h2, h2' hp, fun o ho hod => ?_⟩
    refine ⟨[.tr (.str "choice"), o], rfl, (by show 2 ≤ 1000000; decide), rfl, rfl, rfl, ?_⟩
    have q' := q (.ot [.tr (.str "choice"), o]) (by simp only [Ow.Own, ownL]; exact ⟨.inr ⟨_, rfl⟩, ho, trivial⟩) (by simp only [Ow.d, owDs, hod, Kd.x])
    have e : p + (Kd.cho ks).w.length = p + 1 + (((wK ks).drop 2).length + 1) := by (simp only [Kd.w, List.length_cons, List.length_append, List.length_nil]) <;> omega
    rw [e] at q'
    exact q'
  | num v m =>
    have hb1 : b = false := by rw [hb]; simp only [Kd.w]; rfl
    subst hb1
    refine ⟨⟨rfl, rfl⟩, rfl, t, "<", p, rfl, rfl, hp, htl, fun b hb => ?_⟩
    rw [hw] at hb
    have hb1 : b = false := by rw [hb]; simp only [Kd.w]; rfl
    subst hb1
    simp only [Kd.Fit] at hfit
    have hw2 : (codes t).drop p = [110] ++ (codes (txtI v) ++ ([47] ++ (codes (txtI m) ++ rest))) := by rw [hw]; simp only [Kd.w, List.cons_append, List.append_assoc, List.nil_append]
    obtain ⟨h2, h2'⟩ := drop_more hw2
    obtain ⟨h3, h3'⟩ := drop_more h2
    obtain ⟨h4, h4'⟩ := drop_more h3
    obtain ⟨h5, h5'⟩ := drop_more h4
    rw [← codes_len] at h3 h3' h4 h4' h5 h5'
    refine ⟨⟨rfl, rfl⟩, rfl, t, "n", p, rfl, rfl, hp, htl, by rw [hw2]; exact pre_app (a := [110]), ?_⟩
    refine ⟨⟨rfl, rfl⟩, rfl, t, p + 1, v, rfl, rfl, h2' hp, htl, by omega, by omega, num_at (by omega) (by omega) h2 (fun c l e => by cases e; decide +kernel), ?_⟩
    refine ⟨⟨rfl, rfl⟩, rfl, t, "/", p + 1 + (txtI v).length, rfl, rfl, h3' (h2' hp), htl, by rw [show (codes t).drop (p + 1 + (txtI v).length) = [47] ++ (codes (txtI m) ++ rest) from h3]; exact pre_app (a := [47]), ?_⟩
    refine ⟨⟨rfl, rfl⟩, rfl, t, p + 1 + (txtI v).length + 1, m, rfl, rfl, h4' (h3' (h2' hp)), htl, by omega, by omega, num_at (by omega) (by omega) h4 hh, ?_⟩
    refine ⟨[.tr (.str "number"), .tr (.int v), .tr (.int m)], rfl, (by show 3 ≤ 1000000; decide), rfl, rfl, rfl, ?_⟩
    have q' := q (.ot [.tr (.str "number"), .tr (.int v), .tr (.int m)]) (by simp only [Ow.Own, ownL]; exact ⟨.inr ⟨_, rfl⟩, .inl ⟨_, rfl⟩, .inl ⟨_, rfl⟩, trivial⟩) (by simp only [Ow.d, owDs, Kd.x])
    have e : p + (Kd.num v m).w.length = p + 1 + (txtI v).length + 1 + (txtI m).length := by
      rw [codes_len, codes_len]
      (simp only [Kd.w, List.length_cons, List.length_append, List.length_nil]) <;> omega
    rw [e] at q'
    exact q'
end

def NumsX (l : List Dx) : Prop := ∃ xs : List Int, l = xs.map Dx.int ∧ ∀ x ∈ xs, 0 ≤ x
def gCA (K : PySem.W.Frag) : GC := fun ds Q => ∃ (ns : List Int) (k : Int), ds = [.scr K ns, .int k] ∧ 0 ≤ k ∧ ∀ c : Int, Q (.tr (.int c))
def gNU : GC := fun ds Q => ∃ (c m : Int), ds = [.int c, .int m] ∧ 0 ≤ m ∧ m ≤ 200 ∧ ∀ xs : List Int, (xs.length : Int) = m → (∀ x ∈ xs, 0 ≤ x ∧ x < 720720) → Q (.ol (xs.map Dx.int))
def gTK : GB := fun l ds Q => ∃ many : Int, ds = [.int many] ∧ NumsX l ∧ 0 < many ∧ ∀ (r : Int) (l' : List Dx), 0 ≤ r → r < many → NumsX l' → Q (.int r) l'
section
variable {P : Program} {w : World} {K : PySem.W.Frag} {mg : Str → Option Value} {base : Heap} {f : Addr} {fd : FuncData}
theorem okx_ca (F : Fun K "_law_cell_at" "_law_cell_at" s_law_cell_at f fd) (m_len : mg "len" = none) : FnOk P w K mg base CX0 1 f fd ["script", "k"] (spX (gCA K)) := by
  refine fn_x F sc_law_cell_at (fun ds Q h => by obtain ⟨ns, k, rfl, _⟩ := h; rfl) (by decide) fun cdv A outer s H E hr => ?_
  have hu1 := hu_of hr
  have hu0 := Nat.lt_of_succ_lt hu1
  refine ⟨_, (xss_cons (xs_if (xt_cmp op_lt ox_lt (xe_var (pv 1)) (xe_callB (call_lenA K) cx_lenZ (by rfl) m_len PySem.boot_len (xa_cons (xe_var (pv 0)) xa_nil)) (nomark _)) (xss_one (xs_ret (xe_ixZ K (xe_var (pv 0)) (xe_var (pv 1)) (fun _ _ => rfl)))) xss_nil)
    (xss_one (xs_ret xe_int))), fun ds Q h => ?_⟩
  obtain ⟨ns, k, rfl, h0, q⟩ := h
  refine ⟨rfl, ?_⟩
  refine ite2 (fun c => ?_) (fun c => q 0)
  have c' := of_decide_eq_true c
  obtain ⟨v, hv, _⟩ := atI_of (l := ns) h0 c'
  refine ⟨rfl, ?_⟩
  rw [hv]
  exact q v
theorem okx_nu (F : Fun K "_law_numbers" "_law_numbers" s_law_numbers f fd) (m_range : mg "range" = none) : FnOk P w K mg base CX0 1 f fd ["cell", "many"] (spX gNU) := by
  refine fn_x F sc_law_numbers (fun ds Q h => by obtain ⟨ns, k, rfl, _⟩ := h; rfl) (by decide) fun cdv A outer s H E hr => ?_
  have hu1 := hu_of hr
  have hu0 := Nat.lt_of_succ_lt hu1
  refine ⟨_, (xss_cons (xs_setP fun F => ps_set (i := 2) sc_law_numbers.nd rfl (Or.inl rfl) (XE.at (Ex := noEx) F (xe_lst xa_nil)))
    (xss_cons (xs_setP fun F => ps_set (i := 3) sc_law_numbers.nd rfl (Or.inl rfl) (XE.at (Ex := noEx) F (xe_var (pv 0))))
    (xss_cons (xs_setP fun F => ps_set (i := 4) sc_law_numbers.nd rfl (Or.inl rfl) (XE.at (Ex := noEx) F (xe_mod (xe_var (pv 0)) xe_int)))
    (xss_cons (xs_for PassesOwn.never rfl (xi_range1 m_range (xa_cons (xe_var (pv 1)) xa_nil)) (pg_name (i := 5) sc_law_numbers.nd rfl (Or.inl rfl)) (gx_name (n := 99) (i := 5) (by decide)) (xss_one (xs_if (XW.pt (xw_and (xt_cmp op_ge ox_ge (xe_var (pv 0)) (xe_pow xe_int xe_int) (nomark _)) (xw_and1 (xt_cmp op_gt ox_gt (xe_var (pv 3)) xe_int (nomark _))))) (xss_cons (xs_of fun F => PS.weak (ps_expr (pe_bm PySem.F.plainAttrs_list PySem.F.slot_list_append PySem.F.type_list_append mt_append (pv 2) (pa_cons (XE.at (Ex := noEx) F (xe_mod (xe_var (pv 3)) xe_int)) pa_nil))) tApp_x)
    (xss_one (xs_setP fun F => ps_set (i := 3) sc_law_numbers.nd rfl (Or.inl rfl) (XE.at (Ex := noEx) F (xe_fdiv (xe_var (pv 3)) xe_int))))) (xss_cons (xs_setP fun F => ps_set (i := 4) sc_law_numbers.nd rfl (Or.inl rfl) (XE.at (Ex := noEx) F (xe_mod (xe_mul (xe_add (xe_add (xe_var (pv 4)) (xe_mul xe_int (xe_var (pv 5)))) xe_int) xe_int) xe_int)))
    (xss_cons (xs_setP fun F => ps_set (i := 6) sc_law_numbers.nd rfl (Or.inl rfl) (XE.at (Ex := noEx) F (xe_mod (xe_mul (xe_mod (xe_mul (xe_var (pv 4)) (xe_var (pv 4))) xe_int) xe_int) xe_int)))
    (xss_one (xs_of fun F => PS.weak (ps_expr (pe_bm PySem.F.plainAttrs_list PySem.F.slot_list_append PySem.F.type_list_append mt_append (pv 2) (pa_cons (XE.at (Ex := noEx) F (xe_mod (xe_fdiv (xe_var (pv 6)) xe_int) xe_int)) pa_nil))) tApp_x)))))))
    (xss_one (xs_ret (xe_move (pv 2)))))))), fun ds Q h => ?_⟩
  obtain ⟨c, m, rfl, m0, m1, q⟩ := h
  have cp : CPow 10 18 := ⟨by decide, by decide, by decide⟩
  refine ⟨Nat.zero_le _, ?_⟩
  dsimp only
  refine ⟨by show (0 : Int) < 2147483647; decide, ?_⟩
  dsimp only
  change xSeq _ _ [.v (.tr (.int c)), .v (.tr (.int m)), .v (.ol []), .v (.tr (.int c)), .v (.tr (.int (c % 2147483647))), .un, .un] _
  refine xSeq_nx (fun ρ => ∃ (xs : List Int) (y3 y4 y5 y6 : Sl), (xs.length : Int) = m ∧ (∀ x ∈ xs, 0 ≤ x ∧ x < 720720) ∧ ρ = [.v (.tr (.int c)), .v (.tr (.int m)), .v (.ol (xs.map Dx.int)), y3, y4, y5, y6]) ?_ (fun nx hnx => ?_)
  · rintro ρ ⟨xs, y3, y4, y5, y6, hl, hx, rfl⟩
    exact q xs hl hx
  refine ⟨⟨by omega, by omega⟩, ?_⟩
  refine forX_map (fun k : Nat => Dx.int (0 + (k : Int))) (fun rest ρ => ∃ (xs : List Int) (re st : Int) (y5 y6 : Sl), ((xs.length + rest.length : Nat) : Int) = m ∧ (∀ x ∈ xs, 0 ≤ x ∧ x < 720720) ∧ (∀ k ∈ rest, k < 200) ∧ 0 ≤ st ∧ st < 2147483647 ∧ ρ = [.v (.tr (.int c)), .v (.tr (.int m)), .v (.ol (xs.map Dx.int)), .v (.tr (.int re)), .v (.tr (.int st)), y5, y6]) (fun ρ h => ?_) (fun k rest ρ Kn h hk => ?_) ⟨[], c, c % 2147483647, .un, .un, by rw [List.length_range, List.length_nil]; omega, fun x hx => absurd hx List.not_mem_nil, fun k hk => by have := List.mem_range.mp hk; omega, Int.emod_nonneg _ (by decide), Int.emod_lt_of_pos _ (by decide), rfl⟩
  · obtain ⟨xs, re, st, y5, y6, hl, hx, _, _, _, rfl⟩ := h
    exact hnx _ ⟨xs, _, _, _, _, hl, hx, rfl⟩
  obtain ⟨xs, re, st, y5, y6, hl, hx, hr200, hs0, hs1, rfl⟩ := h
  have hk200 := hr200 k List.mem_cons_self
  have hx6 : (xs.map Dx.int).length < 1000000 := by rw [List.length_map]; omega
  have fin : ∀ (x re' st' : Int) (y6 : Sl), 0 ≤ x ∧ x < 720720 → 0 ≤ st' → st' < 2147483647 → Kn [.v (.tr (.int c)), .v (.tr (.int m)), .v (.ol (xs.map Dx.int ++ [.int x])), .v (.tr (.int re')), .v (.tr (.int st')), .v (.tr (.int (0 + (k : Int)))), y6] := fun x re' st' y6 h0 h1 h2 => by
    refine hk _ ⟨xs ++ [x], re', st', _, _, by rw [List.length_append, List.length_singleton]; rw [List.length_cons] at hl; omega, fun z hz => ?_, fun k' hk' => hr200 k' (List.mem_cons_of_mem _ hk'), h1, h2, by rw [List.map_append]; rfl⟩
    rcases List.mem_append.mp hz with hz | hz
    · exact hx z hz
    · rw [List.mem_singleton.mp hz]; exact h0
  refine go_ifE (decide ((10 : Int) ^ 18 ≤ c) && decide (0 < re)) (ρ' := [.v (.tr (.int c)), .v (.tr (.int m)), .v (.ol (xs.map Dx.int)), .v (.tr (.int re)), .v (.tr (.int st)), .v (.tr (.int (0 + (k : Int)))), y6]) (fun Q q => ?_) (fun _ => ?_) (fun _ => ?_)
  · refine ⟨cp, ?_⟩
    refine ite2 (fun h => ?_) (fun h => ?_)
    · have h' : decide ((10 : Int) ^ 18 ≤ c) = true := h
      rw [h', Bool.true_and] at q
      exact q
    · have h' : decide ((10 : Int) ^ 18 ≤ c) = false := Bool.not_eq_true _ ▸ h
      rw [h', Bool.false_and] at q
      exact q
  · refine ⟨rfl, by show (0 : Int) < 64; decide, ?_⟩
    dsimp only
    refine ⟨hx6, ?_⟩
    refine go_setL ⟨by show CDivB re 64; exact ⟨by decide, by decide⟩, ?_⟩
    exact fin (re % 64) _ _ _ ⟨Int.emod_nonneg _ (by decide), by have := Int.emod_lt_of_pos re (show (0 : Int) < 64 by decide); omega⟩ hs0 hs1
  · refine ⟨⟨by decide, by omega⟩, ⟨by omega, by decide⟩, by show (0 : Int) < 2147483647; decide, ?_⟩
    dsimp only
    have a0 : (0 : Int) ≤ (st + 7 * (0 + (k : Int)) + 3) * 48271 % 2147483647 := Int.emod_nonneg _ (by decide)
    have a1 : (st + 7 * (0 + (k : Int)) + 3) * 48271 % 2147483647 < 2147483647 := Int.emod_lt_of_pos _ (by decide)
    generalize (st + 7 * (0 + (k : Int)) + 3) * 48271 % 2147483647 = S at a0 a1 ⊢
    have b0 : (0 : Int) ≤ S * S % 2147483629 := Int.emod_nonneg _ (by decide)
    have b1 : S * S % 2147483629 < 2147483629 := Int.emod_lt_of_pos _ (by decide)
    refine ⟨⟨by omega, by omega⟩, by show (0 : Int) < 2147483629; decide, ⟨by show (S * S % 2147483629).natAbs < 2 ^ 250; omega, by decide⟩, by show (0 : Int) < 2147483587; decide, ?_⟩
    refine ⟨rfl, ⟨by decide, by decide⟩, by show (0 : Int) < 720720; decide, hx6, ?_⟩
    exact fin _ _ _ _ ⟨Int.emod_nonneg _ (by decide), Int.emod_lt_of_pos _ (by decide)⟩ a0 a1
set_option maxHeartbeats 16000000 in
theorem okx_tk (F : Fun K "_law_take" "_law_take" s_law_take f fd) : FnOk P w K mg base CX0 1 f fd ["deck", "many"] (spB gTK) := by
  refine fn_b F sc_law_take (fun l ds Q h => by obtain ⟨m, rfl, _⟩ := h; rfl) (by decide) fun cdv A outer s H E hr => ?_
  have hu0 := Nat.lt_of_succ_lt (hu_of hr)
  refine ⟨_, (xss_cons (xs_if (xt_pkEq K hu0 (pv 0) (xe_lst xa_nil) (nomark _)) (xss_one (xs_ret xe_int)) xss_nil)
    (xss_one (xs_ret (xe_mod (fun F => PE.weak (pe_bm0 PySem.F.plainAttrs_list PySem.F.slot_list_pop PySem.F.type_list_pop mt_pop (pv 0)) tPop_x) (xe_var (pv 1)))))), fun l ds Q h => ?_⟩
  obtain ⟨many, rfl, ⟨xs, rfl, hx⟩, h2, q⟩ := h
  by_cases e : xs = []
  · subst e
    exact ⟨rfl, Nat.zero_le _, q 0 [] (by decide) h2 ⟨[], rfl, hx⟩⟩
  · have hemp : (xs.map Dx.int).isEmpty = false := by cases xs <;> first | rfl | exact absurd rfl e
    refine go_skip (ρ' := [.bw (xs.map Dx.int), .v (.tr (.int many))]) (fun Q q => ?_) ?_
    · refine ⟨rfl, Nat.zero_le _, ?_⟩
      show Q (xs.map Dx.int).isEmpty _
      rw [hemp]
      exact q
    · show match (xs.map Dx.int).getLast? with | some d => _ | none => False
      rw [List.getLast?_map, List.getLast?_eq_getLast e]
      refine ⟨h2, q _ _ (Int.emod_nonneg _ (by omega)) (Int.emod_lt_of_pos _ h2) ⟨xs.dropLast, by rw [List.map_dropLast], fun x hm => hx x ((List.dropLast_sublist xs).subset hm)⟩⟩
theorem okx_dk (F : Fun K "_law_deck" "_law_deck" s_law_deck f fd) (CNU : Cal P w K mg base 1 "_law_numbers" ["cell", "many"] (spX gNU)) : FnOk P w K mg base CX0 2 f fd ["cell", "many"] (spX gNU) := by
  refine fn_x F sc_law_deck (fun ds Q h => by obtain ⟨ns, k, rfl, _⟩ := h; rfl) (by decide) fun cdv A outer s H E hr => ?_
  have hu1 := hu_of hr
  have hu0 := Nat.lt_of_succ_lt hu1
  refine ⟨_, (xss_one (xs_ret (xe_revL (xe_call CNU (hr.mono (by omega)) (xa_cons (xe_var (pv 0)) (xa_cons (xe_var (pv 1)) xa_nil)))))), fun ds Q h => ?_⟩
  obtain ⟨c, m, rfl, m0, m1, q⟩ := h
  refine ⟨c, m, rfl, m0, m1, fun xs hl hx => ?_⟩
  show Q (.ol (xs.map Dx.int).reverse)
  rw [← List.map_reverse]
  exact q xs.reverse (by rw [List.length_reverse]; exact hl) (fun x hm => hx x (List.mem_reverse.mp hm))
end

abbrev n1S : Str := "abcdefgh"
abbrev n2S : Str := "nmlkjiop"
abbrev n3S : Str := "qrstuvwx"
def tabS (al : Int) : Str := if al = 1 then n1S else if al = 2 then n2S else n3S
def tabN (al k : Int) : Nat := ((codes (tabS al))[k.toNat]?).getD 0
theorem tab_at : ∀ (a : Fin 3) (k : Fin 8), (codes (tabS (a.val + 1 : Nat)))[k.val]? = some (tabN (a.val + 1 : Nat) (k.val : Nat)) ∧ 97 ≤ tabN (a.val + 1 : Nat) (k.val : Nat) ∧ tabN (a.val + 1 : Nat) (k.val : Nat) ≤ 122 := by decide +kernel
theorem tab_inj : ∀ (a : Fin 3) (k l : Fin 8), tabN (a.val + 1 : Nat) (k.val : Nat) = tabN (a.val + 1 : Nat) (l.val : Nat) → k = l := by decide +kernel
def NmK (al k : Int) (x : Str) : Prop := if al = 0 then codes x = List.replicate (k.toNat + 1) 97 else (codes x).head? = some (tabN al k)
theorem nmK_inj {al k l : Int} {x : Str} (ha : 0 ≤ al) (ha3 : al < 4) (hk : 0 ≤ k) (hk8 : k < 8) (hl : 0 ≤ l) (hl8 : l < 8) (h : NmK al k x) (h' : NmK al l x) : k = l := by
  unfold NmK at h h'
  by_cases e : al = 0
  · rw [if_pos e] at h h'
    have := congrArg List.length (h.symm.trans h')
    rw [List.length_replicate, List.length_replicate] at this
    omega
  · rw [if_neg e] at h h'
    have e2 := Option.some.inj (h.symm.trans h')
    have := tab_inj ⟨(al - 1).toNat, by omega⟩ ⟨k.toNat, by omega⟩ ⟨l.toNat, by omega⟩ (by
      show tabN (((al - 1).toNat + 1 : Nat) : Int) (k.toNat : Nat) = tabN (((al - 1).toNat + 1 : Nat) : Int) (l.toNat : Nat)
      rw [show (((al - 1).toNat + 1 : Nat) : Int) = al from by omega, show ((k.toNat : Nat) : Int) = k from by omega, show ((l.toNat : Nat) : Int) = l from by omega]
      exact e2)
    have := congrArg Fin.val this
    dsimp only at this
    omega
theorem abc_at {r : Int} (h0 : 0 ≤ r) (h1 : r < 7) : ∃ c, atI (Str.ofString "abcxyzn").cps.toList r = some c ∧ 97 ≤ c ∧ c ≤ 122 := by
  have h : ∀ i : Fin 7, ∃ c, ((Str.ofString "abcxyzn").cps.toList)[i.val]? = some c ∧ 97 ≤ c ∧ c ≤ 122 := fun i => by
    have : ∀ i : Fin 7, (match ((Str.ofString "abcxyzn").cps.toList)[i.val]? with | some c => decide (97 ≤ c ∧ c ≤ 122) | none => false) = true := by decide +kernel
    have := this i
    split at this
    · rename_i c e; exact ⟨c, e, of_decide_eq_true this⟩
    · cases this
  obtain ⟨c, h2, h3⟩ := h ⟨r.toNat, by omega⟩
  have q := atI_nat h2
  have e : ((r.toNat : Nat) : Int) = r := by omega
  exact ⟨c, by rw [← e]; exact q, h3⟩
theorem three_inX {v : Dx} {a b c : Int} (h : v ∈ [Dx.int a, Dx.int b, Dx.int c]) : ∃ z, v = .int z ∧ (z = a ∨ z = b ∨ z = c) := by
  simp only [List.mem_cons, List.not_mem_nil, or_false] at h
  rcases h with rfl | rfl | rfl
  · exact ⟨_, rfl, .inl rfl⟩
  · exact ⟨_, rfl, .inr (.inl rfl)⟩
  · exact ⟨_, rfl, .inr (.inr rfl)⟩
theorem tabS_at {al : Int} (h0 : 0 < al) (h1 : al < 4) : atI [Dx.str "abcdefgh", Dx.str "nmlkjiop", Dx.str "qrstuvwx"] (al - 1) = some (.str (tabS al)) := by
  have : al = 1 ∨ al = 2 ∨ al = 3 := by omega
  rcases this with rfl | rfl | rfl
  · exact atI_nat (j := 0) rfl
  · exact atI_nat (j := 1) rfl
  · exact atI_nat (j := 2) rfl
theorem tabN_at {al k : Int} (h0 : 0 < al) (h1 : al < 4) (k0 : 0 ≤ k) (k1 : k < 8) : atI (tabS al).cps.toList k = some (tabN al k) ∧ 97 ≤ tabN al k ∧ tabN al k ≤ 122 := by
  obtain ⟨e, h⟩ := tab_at ⟨(al - 1).toNat, by omega⟩ ⟨k.toNat, by omega⟩
  dsimp only at e h
  rw [show (((al - 1).toNat + 1 : Nat) : Int) = al from by omega, show ((k.toNat : Nat) : Int) = k from by omega] at e h
  refine ⟨?_, h⟩
  have q := atI_nat e
  rw [show ((k.toNat : Nat) : Int) = k from by omega] at q
  exact q
theorem tabS_len (al : Int) : (tabS al).length ≤ 1000000 := by
  unfold tabS
  split
  · decide
  · split <;> decide
def gNM4 : GB := fun l ds Q => ∃ k al : Int, ds = [.int k, .int al] ∧ NumsX l ∧ 0 ≤ k ∧ k < 8 ∧ 0 ≤ al ∧ al < 4 ∧ ∀ (x : Str) (l' : List Dx), Nm x → NmK al k x → NumsX l' → Q (.str x) l'
section
variable {P : Program} {w : World} {K : PySem.W.Frag} {mg : Str → Option Value} {base : Heap} {f : Addr} {fd : FuncData} {n j : Nat}
set_option maxHeartbeats 16000000 in
theorem okx_nm4 (F : Fun K "_law_name" "_law_name" s_law_name f fd) (CTK : Cal P w K mg base 1 "_law_take" ["deck", "many"] (spB gTK)) (m_range : mg "range" = none) : FnOk P w K mg base CX0 2 f fd ["deck", "k", "alike"] (spB gNM4) := by
  refine fn_b F sc_law_name (fun l ds Q h => by obtain ⟨k, al, rfl, _⟩ := h; rfl) (by decide) fun cdv A outer s H E hr => ?_
  have hu1 := hu_of hr
  have hu0 := Nat.lt_of_succ_lt hu1
  refine ⟨_, (xss_cons (xs_if (xt_cmp (op_eqA K hu0) ox_eq (xe_var (pv 2)) xe_int (nomark _)) (xss_one (xs_ret (xe_slice K xe_str xo_none (xo_some (xe_add (xe_var (pv 1)) xe_int))))) xss_nil)
    (xss_cons (xs_setP fun F => ps_set (i := 3) sc_law_name.nd rfl (Or.inl rfl) (XE.at (Ex := noEx) F (xe_ix K (xe_ix K (xe_lst (xa_cons xe_str (xa_cons xe_str (xa_cons xe_str xa_nil)))) (xe_sub (xe_var (pv 2)) xe_int) (fun _ _ => rfl)) (xe_var (pv 1)) (fun _ _ => rfl))))
    (xss_cons (xs_for PassesOwn.never rfl (xi_range1 m_range (xa_cons (xe_callP (i := 0) CTK (hr.mono (by omega)) (pv 0) (xa_cons (xe_ix K (xe_lst (xa_cons xe_int (xa_cons xe_int (xa_cons xe_int xa_nil)))) (xe_callP (i := 0) CTK (hr.mono (by omega)) (pv 0) (xa_cons xe_int xa_nil)) (fun _ _ => rfl)) xa_nil)) xa_nil)) (pg_name (i := 4) sc_law_name.nd rfl (Or.inl rfl)) (gx_name (n := 99) (i := 4) (by decide)) (xss_one (xs_setP fun F => ps_set (i := 3) sc_law_name.nd rfl (Or.inl rfl) (XE.at (Ex := noEx) F (xe_add (xe_var (pv 3)) (xe_ix K xe_str (xe_callP (i := 0) CTK (hr.mono (by omega)) (pv 0) (xa_cons xe_int xa_nil)) (fun _ _ => rfl)))))))
    (xss_one (xs_ret (xe_move (pv 3))))))), fun l ds Q h => ?_⟩
  obtain ⟨k, al, rfl, hl, k0, k8, a0, a4, q⟩ := h
  refine go_ifB (decide (al = 0)) (ρ' := [.bw l, .v (.tr (.int k)), .v (.tr (.int al)), .un, .un]) (fun Q q => q) (fun hb => ?_) (fun hb => ?_)
  · have ha := of_decide_eq_true hb
    refine ⟨(by decide), ?_⟩
    have ec : codes (Txt.slice "aaaaaaaa" none (some (k + 1))) = List.replicate (k.toNat + 1) 97 := by
      rw [codes_to (by omega) (by rw [show (codes "aaaaaaaa").length = 8 from by decide]; omega), show codes "aaaaaaaa" = List.replicate 8 97 from by decide, List.take_replicate]
      congr 1
      omega
    refine q _ l ⟨by rw [ec, List.length_replicate]; omega, by rw [ec, List.length_replicate]; omega, fun c hc => ?_⟩ (by unfold NmK; rw [if_pos ha]; exact ec) hl
    rw [ec] at hc
    have := (List.mem_replicate.mp hc).2
    omega
  · have ha : al ≠ 0 := fun e => by rw [e] at hb; cases hb
    obtain ⟨e2, c0, c1⟩ := tabN_at (al := al) (k := k) (by omega) a4 k0 k8
    refine ⟨(by show 3 ≤ 1000000; decide), ?_⟩
    show match atI [Dx.str "abcdefgh", Dx.str "nmlkjiop", Dx.str "qrstuvwx"] (al - 1) with | some d => _ | none => False
    rw [tabS_at (by omega) a4]
    refine ⟨tabS_len al, ?_⟩
    show match atI (tabS al).cps.toList k with | some c => _ | none => False
    rw [e2]
    dsimp only
    change xSeq _ _ [.bw l, .v (.tr (.int k)), .v (.tr (.int al)), .v (.tr (.str ⟨#[tabN al k]⟩)), .un] _
    refine xSeq_nx (fun ρ => ∃ (x : Str) (l' : List Dx) (y : Sl), Nm x ∧ NmK al k x ∧ NumsX l' ∧ ρ = [.bw l', .v (.tr (.int k)), .v (.tr (.int al)), .v (.tr (.str x)), y]) ?_ (fun nx hnx => ?_)
    · rintro ρ ⟨x, l', y, h1, h2, h3, rfl⟩
      exact q x l' h1 h2 h3
    refine ⟨rfl, (by show 3 ≤ 1000000; decide), rfl, 3, rfl, hl, by decide, fun r l1 r0 r1 hl1 => ?_⟩
    refine ixX_in r0 r1 fun v hv => ?_
    obtain ⟨z, rfl, hz⟩ := three_inX hv
    refine ⟨z, rfl, hl1, by omega, fun m l2 m0 m1 hl2 => ?_⟩
    refine ⟨⟨by omega, by omega⟩, ?_⟩
    have hne : ¬ al = 0 := ha
    refine forX_map (fun i : Nat => Dx.int (0 + (i : Int))) (fun rest ρ => ∃ (x : Str) (l' : List Dx) (y : Sl), 1 ≤ (codes x).length ∧ (codes x).length + rest.length ≤ 8 ∧ Low (codes x) ∧ (codes x).head? = some (tabN al k) ∧ NumsX l' ∧ ρ = [.bw l', .v (.tr (.int k)), .v (.tr (.int al)), .v (.tr (.str x)), y]) (fun ρ h => ?_) (fun i rest ρ Kn h hk => ?_) ⟨⟨#[tabN al k]⟩, l2, .un, (by decide : 1 ≤ 1), by rw [List.length_range]; show 1 + _ ≤ 8; omega, fun c hc => by rw [List.mem_singleton.mp (show c ∈ [tabN al k] from hc)]; exact ⟨c0, c1⟩, rfl, hl2, rfl⟩
    · obtain ⟨x, l', y, h1, h2, h3, h4, h5, rfl⟩ := h
      rw [List.length_nil] at h2
      exact hnx _ ⟨x, l', y, ⟨h1, by omega, h3⟩, by unfold NmK; rw [if_neg hne]; exact h4, h5, rfl⟩
    · obtain ⟨x, l', y, h1, h2, h3, h4, h5, rfl⟩ := h
      rw [List.length_cons] at h2
      refine ⟨rfl, 7, rfl, h5, by decide, fun r l3 r0 r1 hl3 => ?_⟩
      obtain ⟨c, hc, hc0, hc1⟩ := abc_at r0 r1
      refine ⟨(by decide), ?_⟩
      show match atI (Str.ofString "abcxyzn").cps.toList r with | some c => _ | none => False
      rw [hc]
      refine ⟨by show x.length + 1 ≤ 1000000; rw [codes_len]; omega, hk _ ⟨x ++ ⟨#[c]⟩, l3, _, ?_, ?_, ?_, ?_, hl3, rfl⟩⟩
      · rw [codes_app, List.length_append]; omega
      · rw [codes_app, List.length_append]; show _ + 1 + _ ≤ 8; omega
      · intro b hb
        rw [codes_app] at hb
        rcases List.mem_append.mp hb with hb | hb
        · exact h3 b hb
        · rw [List.mem_singleton.mp (show b ∈ [c] from hb)]; exact ⟨hc0, hc1⟩
      · rw [codes_app]
        cases hx : codes x with
        | nil => rw [hx] at h1; exact absurd h1 (by decide)
        | cons b r => rw [hx] at h4; exact h4
end

def gKN (n : Nat) : GB := fun l ds Q => ∃ d : Int, ds = [.int d] ∧ NumsX l ∧ 1 ≤ d ∧ d ≤ n ∧ n ≤ 5 ∧ ∀ (kd : Kd) (l' : List Dx), kd.Fit → (kd.deep : Int) ≤ d → NumsX l' → Q kd.x l'
theorem fourX {v : Dx} (h : v ∈ [Dx.int 1, Dx.int 2, Dx.int 4, Dx.int 8]) : ∃ z, v = .int z ∧ (z = 1 ∨ z = 2 ∨ z = 4 ∨ z = 8) := by
  simp only [List.mem_cons, List.not_mem_nil, or_false] at h
  rcases h with rfl | rfl | rfl | rfl
  · exact ⟨_, rfl, by omega⟩
  · exact ⟨_, rfl, by omega⟩
  · exact ⟨_, rfl, by omega⟩
  · exact ⟨_, rfl, by omega⟩
theorem eightX {v : Dx} (h : v ∈ [Dx.int 1, Dx.int 2, Dx.int 4, Dx.int 8, Dx.int 3, Dx.int 5, Dx.int 6, Dx.int 7]) : ∃ z, v = .int z ∧ 1 ≤ z ∧ z ≤ 8 := by
  simp only [List.mem_cons, List.not_mem_nil, or_false] at h
  rcases h with rfl | rfl | rfl | rfl | rfl | rfl | rfl | rfl <;> exact ⟨_, rfl, by decide, by decide⟩
def mx (way : Int) : Int := if 5 < way then 6 else 8
theorem mx_at (way : Int) : atI [Dx.int 8, Dx.int 6] (if decide (5 < way) = true then 1 else 0) = some (.int (mx way)) := by
  unfold mx
  by_cases h : 5 < way
  · rw [if_pos (decide_eq_true h), if_pos h]; exact atI_nat (j := 1) rfl
  · rw [if_neg (by rw [decide_eq_true_eq]; exact h), if_neg h]; exact atI_nat (j := 0) rfl
theorem fit_at : ∀ {ks : List Kd} {i : Nat} {k : Kd}, fitK ks → ks[i]? = some k → k.Fit ∧ k.deep ≤ deepK ks
  | [], _, _, _, e => by simp at e
  | k' :: r, 0, k, h, e => by simp at e; subst e; exact ⟨h.1, Nat.le_max_left _ _⟩
  | k' :: r, i + 1, k, h, e => by obtain ⟨a, b⟩ := fit_at (i := i) h.2 (by simpa using e); exact ⟨a, Nat.le_trans b (Nat.le_max_right _ _)⟩
theorem range_drop {N i k : Nat} {r : List Nat} (h : k :: r = (List.range N).drop i) : k = i ∧ r = (List.range N).drop (i + 1) ∧ i < N := by
  have e : (k :: r)[0]? = ((List.range N).drop i)[0]? := by rw [h]
  rw [List.getElem?_drop, List.getElem?_cons_zero] at e
  have hi : i < N := by
    have := (List.getElem?_eq_some_iff.mp e.symm).1
    rw [List.length_range] at this
    omega
  rw [Nat.add_zero, List.getElem?_range hi] at e
  refine ⟨Option.some.inj e, ?_, hi⟩
  have e2 := congrArg List.tail h
  rw [List.tail_drop] at e2
  exact e2
theorem bxss {X : Cx} {Ex : ExT} {l : List Stmt} {G : XS} (h : Bx (XSs X Ex l G)) : XSs X Ex l G := h.out
section
variable {P : Program} {w : World} {K : PySem.W.Frag} {mg : Str → Option Value} {base : Heap} {f : Addr} {fd : FuncData} {n j : Nat}
set_option maxHeartbeats 16000000 in
theorem okx_kn (F : Fun K "_law_kind" "_law_kind" s_law_kind f fd) (CTK : Cal P w K mg base 1 "_law_take" ["deck", "many"] (spB gTK)) (CNM : Cal P w K mg base 2 "_law_name" ["deck", "k", "alike"] (spB gNM4)) (CKN : Cal P w K mg base (j + 2) "_law_kind" ["deck", "depth"] (spB (gKN n))) (m_range : mg "range" = none) (m_int : mg "int" = none) : FnOk P w K mg base CX0 (j + 3) f fd ["deck", "depth"] (spB (gKN (n + 1))) := by
  refine fn_b F sc_law_kind (fun l ds Q h => by obtain ⟨d, rfl, _⟩ := h; rfl) (by decide) fun cdv A outer s H E hr => ?_
  have hu1 := hu_of hr
  have hu0 := Nat.lt_of_succ_lt hu1
  refine ⟨_, (bxss (bss_cons (Bx.mk (xs_setP fun F => ps_set (i := 2) sc_law_kind.nd rfl (Or.inl rfl) (XE.at (Ex := noEx) F (xe_callP (i := 0) CTK (hr.mono (by omega)) (pv 0) (xa_cons xe_int xa_nil)))))
    (bss_cons (bs_if (Bx.mk (XW.pt (xw_or (xt_cmp op_lt ox_lt (xe_var (pv 1)) xe_int (nomark _)) (xw_or1 (xt_cmp op_lt ox_lt (xe_var (pv 2)) xe_int (nomark _)))))) (bss_one (bs_ret (be_tup (ba_cons be_str (ba_cons (be_ix K (be_lst (ba_cons be_int (ba_cons be_int (ba_cons be_int (ba_cons be_int (ba_cons be_int (ba_cons be_int (ba_cons be_int (ba_cons be_int ba_nil))))))))) (be_callP (i := 0) CTK (hr.mono (by omega)) (pv 0) (ba_cons be_int ba_nil)) (fun _ _ => rfl)) (ba_cons (be_ix K (be_lst (ba_cons be_int (ba_cons be_int (ba_cons be_int (ba_cons be_int ba_nil))))) (be_callP (i := 0) CTK (hr.mono (by omega)) (pv 0) (ba_cons be_int ba_nil)) (fun _ _ => rfl)) ba_nil)))))) bss_nil)
    (bss_cons (Bx.mk (xs_if (xt_cmp (op_eqA K hu0) ox_eq (xe_var (pv 2)) xe_int (nomark _)) (bxss (bss_one (Bx.mk (xs_ret (xe_tup (xa_cons xe_str (xa_cons (xe_callP (i := 0) CKN (hr.mono (by omega)) (pv 0) (xa_cons (xe_sub (xe_var (pv 1)) xe_int) xa_nil)) (xa_cons (xe_add xe_int (xe_callP (i := 0) CTK (hr.mono (by omega)) (pv 0) (xa_cons (xe_ix K (xe_lst (xa_cons xe_int (xa_cons xe_int (xa_cons xe_int xa_nil)))) (xe_callP (i := 0) CTK (hr.mono (by omega)) (pv 0) (xa_cons xe_int xa_nil)) (fun _ _ => rfl)) xa_nil))) xa_nil)))))))) xss_nil))
    (bss_cons (Bx.mk (xs_setP fun F => ps_set (i := 3) sc_law_kind.nd rfl (Or.inl rfl) (XE.at (Ex := noEx) F (xe_add xe_int (xe_callP (i := 0) CTK (hr.mono (by omega)) (pv 0) (xa_cons (xe_ix K (xe_lst (xa_cons xe_int (xa_cons xe_int (xa_cons xe_int (xa_cons (xe_ix K (xe_lst (xa_cons xe_int (xa_cons xe_int xa_nil))) (xe_callTy call_int1 cx_int (by rfl) m_int bt_int (xa_cons (xe_cmp op_gt ox_gt (xe_var (pv 2)) xe_int (nomark _)) xa_nil)) (fun _ _ => rfl)) xa_nil))))) (xe_callP (i := 0) CTK (hr.mono (by omega)) (pv 0) (xa_cons xe_int xa_nil)) (fun _ _ => rfl)) xa_nil))))))
    (bss_cons (Bx.mk (xs_setP fun F => ps_set (i := 4) sc_law_kind.nd rfl (Or.inr rfl) (XE.at (Ex := noEx) F (xe_callP (i := 0) CTK (hr.mono (by omega)) (pv 0) (xa_cons xe_int xa_nil)))))
    (bss_cons (Bx.mk (xs_setP fun F => ps_set (i := 5) sc_law_kind.nd rfl (Or.inr rfl) (XE.at (Ex := noEx) F (xe_comp (dsc := defScope s_law_kind) (N := ["deck", "depth", "way", "many", "alike", "parts"]) (tgs := ["k"]) (outs := [0, 1]) (N' := ["k", "deck", "depth"]) (by refine ⟨rfl, ?_, ?_, ?_, rfl, ?_, ?_, ?_⟩ <;> decide +kernel) (xi_range1 m_range (xa_cons (xe_var (pv 3)) xa_nil)) (fun _ _ _ _ _ => (pg_name (i := 0) (show (["k", "deck", "depth"] : List Str).Nodup by decide +kernel) rfl (Or.inl rfl) (.inr rfl))) (gx_name (n := 1) (i := 0) (by decide)) (tgt_name (by decide)) (fun _ _ _ _ _ => xcs_nil) (fun _ _ _ _ _ => (xe_callP (i := 1) CKN (hr.mono (by omega)) (pv 1) (xa_cons (xe_sub (xe_var (pv 2)) xe_int) xa_nil)))))))
    (bss_cons (Bx.mk (xs_if (xt_cmp op_gt ox_gt (xe_var (pv 2)) xe_int (nomark _)) (bxss (bss_one (Bx.mk (xs_ret (xe_tup (xa_cons xe_str (xa_cons (xe_var (pv 5)) xa_nil))))))) xss_nil))
    (bss_one (Bx.mk (xs_ret (xe_tup (xa_cons xe_str (xa_cons (xe_comp (dsc := defScope s_law_kind) (N := ["deck", "depth", "way", "many", "alike", "parts"]) (tgs := ["k"]) (outs := [0, 4, 5]) (N' := ["k", "deck", "alike", "parts"]) (by refine ⟨rfl, ?_, ?_, ?_, rfl, ?_, ?_, ?_⟩ <;> decide +kernel) (xi_range1 m_range (xa_cons (xe_var (pv 3)) xa_nil)) (fun _ _ _ _ _ => (pg_name (i := 0) (show (["k", "deck", "alike", "parts"] : List Str).Nodup by decide +kernel) rfl (Or.inl rfl) (.inr rfl))) (gx_name (n := 1) (i := 0) (by decide)) (tgt_name (by decide)) (fun _ _ _ _ _ => xcs_nil) (fun _ _ _ _ _ => (xe_tup (xa_cons (xe_callP (i := 1) CNM (hr.mono (by omega)) (pv 1) (xa_cons (xe_var (pv 0)) (xa_cons (xe_var (pv 2)) xa_nil))) (xa_cons (xe_ix K (xe_var (pv 3)) (xe_var (pv 0)) (fun _ _ => rfl)) xa_nil))))) xa_nil)))))))))))))), fun l ds Q h => ?_⟩
  obtain ⟨d, rfl, hl, d1, dn, n5, q⟩ := h
  refine ⟨rfl, 8, rfl, hl, by decide, fun way l1 w0 w1 hl1 => ?_⟩
  dsimp only
  change xSeq _ _ [.bw l1, .v (.tr (.int d)), .v (.tr (.int way)), .un, .un, .un] _
  refine go_ifB (decide (d < 2) || decide (way < 3)) (ρ' := [.bw l1, .v (.tr (.int d)), .v (.tr (.int way)), .un, .un, .un]) (fun Q q => ?_) (fun hb => ?_) (fun hb => ?_)
  · refine ite2 (fun h => ?_) (fun h => ?_)
    · have h' : decide (d < 2) = true := h
      rw [h', Bool.true_or] at q
      exact q
    · have h' : decide (d < 2) = false := Bool.not_eq_true _ ▸ h
      rw [h', Bool.false_or] at q
      exact q
  · refine ⟨(by show 8 ≤ 1000000; decide), rfl, 8, rfl, hl1, by decide, fun r l2 r0 r1 hl2 => ?_⟩
    refine ixX_in r0 r1 fun v hv => ?_
    obtain ⟨x, rfl, x0, x1⟩ := eightX hv
    refine ⟨(by show 4 ≤ 1000000; decide), rfl, 4, rfl, hl2, by decide, fun r l3 r0 r1 hl3 => ?_⟩
    refine ixX_in r0 r1 fun v hv => ?_
    obtain ⟨m, rfl, hm⟩ := fourX hv
    exact ⟨(by show 3 ≤ 1000000; decide), q (.num x m) l3 ⟨x0, x1, hm⟩ (by show ((1 : Nat) : Int) ≤ d; omega) hl3⟩
  have hd2 : 2 ≤ d := by
    rw [Bool.or_eq_false_iff] at hb
    have := of_decide_eq_false hb.1
    omega
  refine go_ifB (decide (way = 3)) (ρ' := [.bw l1, .v (.tr (.int d)), .v (.tr (.int way)), .un, .un, .un]) (fun Q q => q) (fun hb => ?_) (fun hb3 => ?_)
  · refine ⟨rfl, d - 1, rfl, hl1, by omega, by omega, by omega, fun kd l2 hF hdp hl2 => ?_⟩
    refine ⟨rfl, (by show 3 ≤ 1000000; decide), rfl, 3, rfl, hl2, by decide, fun r l3 r0 r1 hl3 => ?_⟩
    refine ixX_in r0 r1 fun v hv => ?_
    obtain ⟨z, rfl, hz⟩ := three_inX hv
    refine ⟨z, rfl, hl3, by omega, fun m l4 m0 m1 hl4 => ?_⟩
    refine ⟨(by show 3 ≤ 1000000; decide), q (.row kd (1 + m)) l4 ⟨hF, by omega, by omega⟩ ?_ hl4⟩
    show ((kd.deep + 1 : Nat) : Int) ≤ d
    omega
  refine ⟨rfl, len2, ?_⟩
  show match atI [Dx.int 8, Dx.int 6] (if decide (5 < way) = true then 1 else 0) with | some d => _ | none => False
  rw [mx_at]
  refine ⟨(by show 4 ≤ 1000000; decide), rfl, 4, rfl, hl1, by decide, fun r l2 r0 r1 hl2 => ?_⟩
  have hmx : mx way = 6 ∨ mx way = 8 := by unfold mx; split <;> omega
  refine ixX_in r0 r1 fun v hv => ?_
  have hvz : ∃ z, v = .int z ∧ 0 < z ∧ z ≤ mx way := by
    have hv' : v ∈ [Dx.int 3, Dx.int 3, Dx.int 3, Dx.int (mx way)] := hv
    simp only [List.mem_cons, List.not_mem_nil, or_false] at hv'
    rcases hv' with rfl | rfl | rfl | rfl
    · exact ⟨_, rfl, by decide, by omega⟩
    · exact ⟨_, rfl, by decide, by omega⟩
    · exact ⟨_, rfl, by decide, by omega⟩
    · exact ⟨_, rfl, by omega, by omega⟩
  obtain ⟨z, rfl, z0, z1⟩ := hvz
  refine ⟨z, rfl, hl2, z0, fun m l3 m0 m1 hl3 => ?_⟩
  refine ⟨rfl, 4, rfl, hl3, by decide, fun al l4 a0 a1 hl4 => ?_⟩
  dsimp only
  change xSeq _ _ [.bw l4, .v (.tr (.int d)), .v (.tr (.int way)), .v (.tr (.int (1 + m))), .v (.tr (.int al)), .un] _
  have hdd : d - 1 = ((d - 1).toNat : Int) := by omega
  refine ⟨⟨by omega, by omega⟩, by show ((List.range _).map _).length ≤ _; rw [List.length_map, List.length_range]; omega, ?_⟩
  refine compX_ind (fun k : Nat => Dx.int (0 + (k : Int))) (fun rest acc cs => ∃ (ks : List Kd) (l' : List Dx), ks.length + rest.length = (1 + m).toNat ∧ acc = xK ks ∧ cs = [.bw l', .v (.tr (.int d))] ∧ fitK ks ∧ deepK ks ≤ (d - 1).toNat ∧ NumsX l') (fun acc cs h => ?_) (fun nm rest acc cs Pn h hk => ?_) ⟨[], l4, by rw [List.length_range]; simp, rfl, rfl, trivial, Nat.zero_le _, hl4⟩
  rotate_left
  · obtain ⟨ks, l', e1, rfl, rfl, hF, hdp, hP6⟩ := h
    rw [List.length_cons] at e1
    exact ⟨rfl, d - 1, rfl, hP6, by omega, by omega, by omega, fun kd l6 hF6 hdp6 hP7 => hk _ _ ⟨ks ++ [kd], l6, by rw [List.length_append]; show ks.length + 1 + _ = _; omega, by rw [xK_snoc]; rfl, rfl, fitK_snoc hF hF6, deepK_snoc hdp (by omega), hP7⟩⟩
  obtain ⟨ks, l', e1, rfl, rfl, hF, hdp, hP6⟩ := h
  rw [List.length_nil] at e1
  dsimp only
  change xSeq _ _ [.bw l', .v (.tr (.int d)), .v (.tr (.int way)), .v (.tr (.int (1 + m))), .v (.tr (.int al)), .v (.ol (xK ks))] _
  refine go_ifB (decide (5 < way)) (ρ' := [.bw l', .v (.tr (.int d)), .v (.tr (.int way)), .v (.tr (.int (1 + m))), .v (.tr (.int al)), .v (.ol (xK ks))]) (fun Q q => q) (fun hb => ?_) (fun hb => ?_)
  · have h5 := of_decide_eq_true hb
    have hm6 : mx way = 6 := by unfold mx; rw [if_pos h5]
    refine ⟨len2, q (.cho ks) l' ⟨hF, by omega, by omega⟩ ?_ hP6⟩
    show ((deepK ks + 1 : Nat) : Int) ≤ d
    omega
  refine ⟨⟨by omega, by omega⟩, by show ((List.range _).map _).length ≤ _; rw [List.length_map, List.length_range]; omega, ?_⟩
  refine compX_ind (fun k : Nat => Dx.int (0 + (k : Int))) (fun rest acc cs => ∃ (fs : List (Str × Kd)) (l' : List Dx) (sv : Sv), rest = (List.range (1 + m).toNat).drop fs.length ∧ fs.map (·.2) = ks.take fs.length ∧ fs.length ≤ ks.length ∧ acc = xF fs ∧ sv.d = .lst (xK ks) ∧ cs = [.bw l', .v (.tr (.int al)), .v sv] ∧ fitF fs ∧ deepF fs ≤ (d - 1).toNat ∧ (fs.map (·.1)).Nodup ∧ (∀ x ∈ fs.map (·.1), ∃ i : Nat, i < fs.length ∧ NmK al i x) ∧ NumsX l') (fun acc cs h => ?_) (fun k rest acc cs Pn h hk => ?_) ⟨[], l', .ol (xK ks), rfl, rfl, Nat.zero_le _, rfl, rfl, rfl, trivial, Nat.zero_le _, List.nodup_nil, fun x hx => absurd hx List.not_mem_nil, hP6⟩
  · obtain ⟨fs, l', sv, e2, e3, e4, rfl, e5, rfl, hF2, hdp2, hnd, hnm, hP7⟩ := h
    have hfl : (1 + m).toNat ≤ fs.length := by
      have := congrArg List.length e2
      rw [List.length_nil, List.length_drop, List.length_range] at this
      omega
    refine ⟨len2, q (.rcd fs) l' ⟨hF2, by omega, by omega, hnd⟩ ?_ hP7⟩
    show ((deepF fs + 1 : Nat) : Int) ≤ d
    omega
  · obtain ⟨fs, l', sv, e2, e3, e4, rfl, e5, rfl, hF2, hdp2, hnd, hnm, hP7⟩ := h
    obtain ⟨rfl, e2b, hlt⟩ := range_drop e2
    obtain ⟨kd, hkd⟩ : ∃ kd, ks[fs.length]? = some kd := ⟨_, List.getElem?_eq_getElem (by omega)⟩
    obtain ⟨hFk, hdk⟩ := fit_at hF hkd
    refine ⟨rfl, 0 + (fs.length : Int), al, rfl, hP7, by omega, by omega, a0, a1, fun x l6 hx hxk hl6 => ?_⟩
    have hix : atI (xK ks) (0 + (fs.length : Int)) = some kd.x := by
      rw [Int.zero_add]
      exact atI_nat (by rw [xK_map, List.getElem?_map, hkd]; rfl)
    dsimp only
    refine go_cons (go_op (to_tr (s := sv) rfl e5 ?_))
    show match atI (xK ks) (0 + (fs.length : Int)) with | some d => _ | none => False
    rw [hix]
    rw [Int.zero_add] at hxk
    refine ⟨len2, hk _ _ ⟨fs ++ [(x, kd)], l6, .tr (.lst (xK ks)), by rw [List.length_append]; exact e2b, ?_, by rw [List.length_append]; show fs.length + 1 ≤ _; omega, by rw [xF_snoc]; rfl, rfl, rfl, fitF_snoc hF2 hx hFk, deepF_snoc hdp2 (by show kd.deep ≤ _; omega), ?_, ?_, hl6⟩⟩
    · rw [List.map_append, e3, List.length_append]
      show ks.take fs.length ++ [kd] = ks.take (fs.length + 1)
      rw [List.take_succ, hkd]
      rfl
    · rw [List.map_append]
      refine List.nodup_append.mpr ⟨hnd, by simp, fun y hy b hb e => ?_⟩
      have hbx : b = x := List.mem_singleton.mp hb
      obtain ⟨i, hi, hyk⟩ := hnm y hy
      rw [e, hbx] at hyk
      have := nmK_inj a0 a1 (by omega) (by omega) (by omega) (by omega) hyk hxk
      omega
    · intro y hy
      rw [List.map_append] at hy
      rw [List.length_append]
      rcases List.mem_append.mp hy with hy | hy
      · obtain ⟨i, hi, hyk⟩ := hnm y hy
        exact ⟨i, Nat.lt_of_lt_of_le hi (Nat.le_add_right _ _), hyk⟩
      · have hyx : y = x := List.mem_singleton.mp hy
        rw [hyx]
        exact ⟨fs.length, Nat.lt_succ_self _, hxk⟩
end

def strIX : GC := fun ds Q => ∃ n : Int, ds = [.int n] ∧ 0 ≤ n ∧ n < 1000000000 ∧ Q (.tr (.str (txtI n)))
theorem cx_strI : CallX (fun xs H Q => ∃ n : Int, xs = [.int n] ∧ 0 ≤ n ∧ n < 1000000000 ∧ Q (.str (txtI n)) H) strIX := by
  intro F P H ds xs Q Qx R hs g k
  obtain ⟨n, rfl, h0, h1, q⟩ := g
  obtain ⟨y, rfl, hx⟩ := all2_1 hs
  cases hx.int_eq
  exact ⟨n, rfl, h0, h1, k _ _ H (R.add (IsX.of_str _)) q⟩
def Kd.ws (k : Kd) : Str := ⟨k.w.toArray⟩
theorem ws_codes (k : Kd) : codes k.ws = k.w := by unfold Kd.ws codes; rfl
theorem ws_len (k : Kd) : k.ws.length = k.w.length := by rw [codes_len, ws_codes]
def wl : Nat → Nat
  | 0 => 6
  | 1 => 6
  | n + 2 => 90 + 8 * wl (n + 1)
theorem wl_step : ∀ n, wl n ≤ wl (n + 1) ∧ (1 ≤ n → wl (n + 1) = 90 + 8 * wl n)
  | 0 => ⟨by decide, fun h => absurd h (by decide)⟩
  | n + 1 => ⟨by show wl (n + 1) ≤ 90 + 8 * wl (n + 1); omega, fun _ => rfl⟩
theorem wl_mono {a b : Nat} (h : a ≤ b) : wl a ≤ wl b := by
  induction b with
  | zero => rw [Nat.le_zero.mp h]; exact Nat.le_refl _
  | succ b ih =>
    by_cases e : a = b + 1
    · rw [e]; exact Nat.le_refl _
    · exact Nat.le_trans (ih (by omega)) (wl_step b).1
mutual
theorem w_len : ∀ k : Kd, k.Fit → k.w.length ≤ wl k.deep
  | .num w m, h => by
    simp only [Kd.Fit] at h
    have h1 := (num_fig (n := w) (by omega) (by omega)).2.2
    have h2 := (num_fig (n := m) (by omega) (by omega)).2.2
    rw [codes_len] at h1 h2
    simp only [Kd.w, Kd.deep, List.length_cons, List.length_append]
    show _ ≤ 6
    omega
  | .row k n, h => by
    simp only [Kd.Fit] at h
    have h1 := (num_fig (n := n) (by omega) (by omega)).2.2
    have h2 := w_len k h.1
    have h3 := (wl_step k.deep).2 (deep_one k)
    rw [codes_len] at h1
    simp only [Kd.w, Kd.deep, List.length_cons, List.length_append]
    omega
  | .rcd fs, h => by
    simp only [Kd.Fit] at h
    have h2 := wF_len fs (deepF fs) h.1 (Nat.le_refl _)
    have h4 := Nat.mul_le_mul_right (11 + wl (deepF fs)) h.2.2.1
    have h1 : 1 ≤ deepF fs := by
      cases fs with
      | nil => exact absurd h.2.1 (by decide)
      | cons f r => exact Nat.le_trans (deep_one f.2) (Nat.le_max_left _ _)
    have h3 := (wl_step (deepF fs)).2 h1
    simp only [Kd.w, Kd.deep, List.length_cons, List.length_append, List.length_drop, List.length_nil]
    omega
  | .cho ks, h => by
    simp only [Kd.Fit] at h
    have h2 := wK_len ks (deepK ks) h.1 (Nat.le_refl _)
    have h4 := Nat.mul_le_mul_right (11 + wl (deepK ks)) (Nat.le_trans h.2.2 (by decide : 6 ≤ 8))
    have h1 : 1 ≤ deepK ks := by
      cases ks with
      | nil => exact absurd h.2.1 (by decide)
      | cons f r => exact Nat.le_trans (deep_one f) (Nat.le_max_left _ _)
    have h3 := (wl_step (deepK ks)).2 h1
    simp only [Kd.w, Kd.deep, List.length_cons, List.length_append, List.length_drop, List.length_nil]
    omega
theorem wF_len : ∀ (fs : List (Str × Kd)) (D : Nat), fitF fs → deepF fs ≤ D → (wF fs).length ≤ fs.length * (11 + wl D)
  | [], D, _, _ => by simp [wF]
  | f :: r, D, h, hd => by
    simp only [fitF] at h
    simp only [deepF] at hd
    have h1 := w_len f.2 h.1.2
    have h2 := wl_mono (a := f.2.deep) (b := D) (by omega)
    have h3 := wF_len r D h.2 (by omega)
    have h4 := h.1.1.2.1
    simp only [wF, List.length_cons, List.length_append]
    rw [Nat.add_mul, Nat.one_mul]
    omega
theorem wK_len : ∀ (ks : List Kd) (D : Nat), fitK ks → deepK ks ≤ D → (wK ks).length ≤ ks.length * (11 + wl D)
  | [], D, _, _ => by simp [wK]
  | k :: r, D, h, hd => by
    simp only [fitK] at h
    simp only [deepK] at hd
    have h1 := w_len k h.1
    have h2 := wl_mono (a := k.deep) (b := D) (by omega)
    have h3 := wK_len r D h.2 (by omega)
    simp only [wK, List.length_cons, List.length_append]
    rw [Nat.add_mul, Nat.one_mul]
    omega
end
theorem w_100 {k : Kd} (h : k.Fit) (hd : k.deep ≤ 5) : k.w.length ≤ 80000 := Nat.le_trans (w_len k h) (Nat.le_trans (wl_mono hd) (by decide))
theorem join_fold (g : List Nat) : ∀ (r : List Str) (acc : Array Nat), (r.foldl (fun acc p => acc ++ g.toArray ++ p.cps) acc).toList = acc.toList ++ (r.map fun y => g ++ codes y).flatten
  | [], acc => by simp
  | y :: r, acc => by
    rw [List.foldl_cons, join_fold g r]
    simp [codes]
theorem codes_joinC (ys : List Str) (h : ys ≠ []) : codes (Txt.join comS ys) = (ys.map fun y => 44 :: 32 :: codes y).flatten.drop 2 := by
  cases ys with
  | nil => exact absurd rfl h
  | cons y r =>
    show ((r).foldl (fun acc p => acc ++ (Str.ofString ", ").cps ++ p.cps) y.cps).toList = _
    rw [show (Str.ofString ", ").cps = [44, 32].toArray from by decide, join_fold]
    simp only [List.map_cons, List.flatten_cons, List.cons_append, List.drop_succ_cons, List.drop_zero, List.nil_append]
    rfl
theorem wF_flat : ∀ fs : List (Str × Kd), wF fs = (fs.map fun f => 44 :: 32 :: (codes f.1 ++ 32 :: f.2.w)).flatten
  | [] => rfl
  | f :: r => by simp only [wF, List.map_cons, List.flatten_cons, wF_flat r, List.cons_append, List.append_assoc]
theorem wK_flat : ∀ ks : List Kd, wK ks = (ks.map fun k => 44 :: 32 :: k.w).flatten
  | [] => rfl
  | k :: r => by simp only [wK, List.map_cons, List.flatten_cons, wK_flat r, List.cons_append, List.append_assoc]
theorem fitF_mem : ∀ {fs : List (Str × Kd)} {f : Str × Kd}, fitF fs → f ∈ fs → Nm f.1 ∧ f.2.Fit ∧ f.2.deep ≤ deepF fs
  | [], _, _, h => absurd h List.not_mem_nil
  | g :: r, f, h, hf => by
    rcases List.mem_cons.mp hf with rfl | hf
    · exact ⟨h.1.1, h.1.2, Nat.le_max_left _ _⟩
    · obtain ⟨a, b, c⟩ := fitF_mem h.2 hf
      exact ⟨a, b, Nat.le_trans c (Nat.le_max_right _ _)⟩
theorem fitK_mem : ∀ {ks : List Kd} {k : Kd}, fitK ks → k ∈ ks → k.Fit ∧ k.deep ≤ deepK ks
  | [], _, _, h => absurd h List.not_mem_nil
  | g :: r, f, h, hf => by
    rcases List.mem_cons.mp hf with rfl | hf
    · exact ⟨h.1, Nat.le_max_left _ _⟩
    · obtain ⟨b, c⟩ := fitK_mem h.2 hf
      exact ⟨b, Nat.le_trans c (Nat.le_max_right _ _)⟩
theorem sum_le {B : Nat} : ∀ {ys : List Str}, (∀ y ∈ ys, y.length ≤ B) → (ys.map (·.length)).sum ≤ ys.length * B
  | [], _ => by simp
  | y :: r, h => by
    have h1 := h y List.mem_cons_self
    have h2 := sum_le (ys := r) fun z hz => h z (List.mem_cons_of_mem _ hz)
    rw [List.map_cons, List.sum_cons, List.length_cons, Nat.add_mul, Nat.one_mul]
    omega
def fdS (f : Str × Kd) : Str := f.1 ++ " " ++ f.2.ws
theorem fdS_codes (f : Str × Kd) : codes (fdS f) = codes f.1 ++ 32 :: f.2.w := by
  unfold fdS
  rw [codes_app, codes_app, ws_codes, show codes " " = [32] from by decide, List.append_assoc]
  rfl
theorem num_ws (v m : Int) : ("n" ++ txtI v ++ "/" ++ txtI m : Str) = (Kd.num v m).ws := codes_inj (by
  rw [ws_codes, codes_app, codes_app, codes_app, show codes "n" = [110] from by decide, show codes "/" = [47] from by decide]
  simp only [Kd.w, List.cons_append, List.nil_append, List.append_assoc])
theorem row_ws (k : Kd) (m : Int) : (k.ws ++ "*" ++ txtI m : Str) = (Kd.row k m).ws := codes_inj (by
  rw [ws_codes, codes_app, codes_app, ws_codes, show codes "*" = [42] from by decide]
  simp only [Kd.w, List.cons_append, List.nil_append, List.append_assoc])
theorem rcd_ws {fs : List (Str × Kd)} (h : fs ≠ []) : ("{" ++ Txt.join comS (fs.map fdS) ++ "}" : Str) = (Kd.rcd fs).ws := codes_inj (by
  rw [ws_codes, codes_app, codes_app, codes_joinC _ (fun z => h (List.map_eq_nil_iff.mp z)), show codes "{" = [123] from by decide, show codes "}" = [125] from by decide, List.map_map]
  simp only [Kd.w, wF_flat, List.cons_append, List.nil_append, List.append_assoc]
  congr 5
  funext f
  show 44 :: 32 :: codes (fdS f) = _
  rw [fdS_codes])
theorem cho_ws {ks : List Kd} (h : ks ≠ []) : ("<" ++ Txt.join comS (ks.map Kd.ws) ++ ">" : Str) = (Kd.cho ks).ws := codes_inj (by
  rw [ws_codes, codes_app, codes_app, codes_joinC _ (fun z => h (List.map_eq_nil_iff.mp z)), show codes "<" = [60] from by decide, show codes ">" = [62] from by decide, List.map_map]
  simp only [Kd.w, wK_flat, List.cons_append, List.nil_append, List.append_assoc]
  congr 5)
def gSW (n : Nat) : GC := fun ds Q => ∃ k : Kd, ds = [k.x] ∧ k.Fit ∧ k.deep ≤ n ∧ n ≤ 5 ∧ Q (.tr (.str k.ws))
section
variable {P : Program} {w : World} {K : PySem.W.Frag} {mg : Str → Option Value} {base : Heap} {f : Addr} {fd : FuncData} {n j : Nat}
set_option maxHeartbeats 16000000 in
theorem okx_sw (F : Fun K "show_kind" "show_kind" s_show_kind f fd) (CSW : Cal P w K mg base j "show_kind" ["kind"] (spX (gSW n))) (m_str : mg "str" = none) (c_COMMA : ∃ t, mg "COMMA" = some (.str comS t)) : FnOk P w K mg base CX0 (j + 1) f fd ["kind"] (spX (gSW (n + 1))) := by
  refine fn_x F sc_show_kind (fun ds Q h => by obtain ⟨_, rfl, _⟩ := h; rfl) (by decide) fun cdv A outer s H E hr => ?_
  have hu1 := hu_of hr
  have hu0 := Nat.lt_of_succ_lt hu1
  refine ⟨_, (xss_cons (xs_if (xt_cmp (op_eqA K hu0) ox_eq (xe_ix K (xe_var (pv 0)) xe_int (fun _ _ => rfl)) xe_str (nomark _)) (xss_one (xs_ret (xe_add (xe_add (xe_add xe_str (xe_callTy call_strI cx_strI (by rfl) m_str bt_str (xa_cons (xe_ix K (xe_var (pv 0)) xe_int (fun _ _ => rfl)) xa_nil))) xe_str) (xe_callTy call_strI cx_strI (by rfl) m_str bt_str (xa_cons (xe_ix K (xe_var (pv 0)) xe_int (fun _ _ => rfl)) xa_nil))))) xss_nil)
    (xss_cons (xs_if (xt_cmp (op_eqA K hu0) ox_eq (xe_ix K (xe_var (pv 0)) xe_int (fun _ _ => rfl)) xe_str (nomark _)) (xss_one (xs_ret (xe_add (xe_add (xe_call CSW (hr.mono (by omega)) (xa_cons (xe_ix K (xe_var (pv 0)) xe_int (fun _ _ => rfl)) xa_nil)) xe_str) (xe_callTy call_strI cx_strI (by rfl) m_str bt_str (xa_cons (xe_ix K (xe_var (pv 0)) xe_int (fun _ _ => rfl)) xa_nil))))) xss_nil)
    (xss_cons (xs_if (xt_cmp (op_eqA K hu0) ox_eq (xe_ix K (xe_var (pv 0)) xe_int (fun _ _ => rfl)) xe_str (nomark _)) (xss_one (xs_ret (xe_add (xe_add xe_str (xe_joinG (by rfl) c_COMMA (xe_comp (dsc := defScope s_show_kind) (N := ["kind"]) (tgs := ["field"]) (outs := []) (N' := ["field"]) (by refine ⟨rfl, ?_, ?_, ?_, rfl, ?_, ?_, ?_⟩ <;> decide +kernel) (xi_list (xe_ix K (xe_var (pv 0)) xe_int (fun _ _ => rfl))) (fun _ _ _ _ _ => (pg_name (i := 0) (show (["field"] : List Str).Nodup by decide +kernel) rfl (Or.inl rfl) (.inr rfl))) (gx_name (n := 1) (i := 0) (by decide)) (tgt_name (by decide)) (fun _ _ _ _ _ => xcs_nil) (fun _ _ _ _ _ => (xe_add (xe_add (xe_ix K (xe_var (pv 0)) xe_int (fun _ _ => rfl)) xe_str) (xe_call CSW (hr.mono (by omega)) (xa_cons (xe_ix K (xe_var (pv 0)) xe_int (fun _ _ => rfl)) xa_nil))))))) xe_str))) xss_nil)
    (xss_one (xs_ret (xe_add (xe_add xe_str (xe_joinG (by rfl) c_COMMA (xe_comp (dsc := defScope s_show_kind) (N := ["kind"]) (tgs := ["inner"]) (outs := []) (N' := ["inner"]) (by refine ⟨rfl, ?_, ?_, ?_, rfl, ?_, ?_, ?_⟩ <;> decide +kernel) (xi_list (xe_ix K (xe_var (pv 0)) xe_int (fun _ _ => rfl))) (fun _ _ _ _ _ => (pg_name (i := 0) (show (["inner"] : List Str).Nodup by decide +kernel) rfl (Or.inl rfl) (.inr rfl))) (gx_name (n := 1) (i := 0) (by decide)) (tgt_name (by decide)) (fun _ _ _ _ _ => xcs_nil) (fun _ _ _ _ _ => (xe_call CSW (hr.mono (by omega)) (xa_cons (xe_var (pv 0)) xa_nil)))))) xe_str)))))), fun ds Q h => ?_⟩
  obtain ⟨k, rfl, hF, hd, hn5, q⟩ := h
  have hlen := w_100 hF (by omega)
  have hq := ws_len
  cases k with
  | num v m =>
    simp only [Kd.Fit] at hF
    have h1 := (num_fig (n := v) (by omega) (by omega)).2.2
    have h2 := (num_fig (n := m) (by omega) (by omega)).2.2
    rw [← num_ws] at q
    refine ⟨v, rfl, by omega, by omega, (by show 1 + (txtI v).length ≤ 1000000; omega), ?_⟩
    refine ⟨(by show ("n" ++ txtI v : Str).length + 1 ≤ 1000000; rw [len_app]; show 1 + _ + 1 ≤ _; omega), m, rfl, by omega, by omega, (by show ("n" ++ txtI v ++ "/" : Str).length + (txtI m).length ≤ 1000000; rw [len_app, len_app]; show 1 + _ + 1 + _ ≤ _; omega), q⟩
  | row k m =>
    simp only [Kd.Fit] at hF
    simp only [Kd.deep] at hd
    have h2 := (num_fig (n := m) (by omega) (by omega)).2.2
    have h3 := w_100 hF.1 (by omega)
    have h4 := ws_len k
    rw [← row_ws] at q
    refine ⟨k, rfl, hF.1, by omega, by omega, (by show k.ws.length + 1 ≤ 1000000; omega), m, rfl, by omega, by omega, (by show (k.ws ++ "*" : Str).length + (txtI m).length ≤ 1000000; rw [len_app]; show _ + 1 + _ ≤ _; omega), q⟩
  | rcd fs =>
    have hlw := ws_len (.rcd fs)
    simp only [Kd.Fit] at hF
    simp only [Kd.deep] at hd
    have hne : fs ≠ [] := fun e => by rw [e] at hF; exact absurd hF.2.1 (by decide)
    rw [← rcd_ws hne] at q hlw
    rw [len_app, len_app] at hlw
    have hlw2 : 1 + (Txt.join comS (fs.map fdS)).length + 1 = (Kd.rcd fs).w.length := hlw
    have hfd : ∀ y ∈ fs.map fdS, y.length ≤ 80020 := fun y hy => by
      obtain ⟨g, hg, rfl⟩ := List.mem_map.mp hy
      obtain ⟨a1, a2, a3⟩ := fitF_mem hF.1 hg
      have := w_100 a2 (by omega)
      have h8 := a1.2.1
      rw [codes_len, fdS_codes, List.length_append, List.length_cons]
      omega
    have hsum := sum_le hfd
    rw [List.length_map] at hsum
    refine ⟨show (xF fs).length ≤ 1000000 by rw [xF_map, List.length_map]; omega, show compX _ _ _ _ _ (xF fs) _ _ from ?_⟩
    rw [xF_map]
    refine compX_fun (fun f => Dx.tup [.str f.1, f.2.x]) (fun f => .str (fdS f)) (fun g hg acc P p => ?_) ?_
    · obtain ⟨a1, a2, a3⟩ := fitF_mem hF.1 hg
      have h3 := w_100 a2 (by omega)
      have h4 := ws_len g.2
      have h8 := a1.2.1
      rw [← codes_len] at h8
      exact ⟨(by show g.1.length + 1 ≤ 1000000; omega), g.2, rfl, a2, by omega, by omega, (by show (g.1 ++ " " : Str).length + g.2.ws.length ≤ 1000000; rw [len_app]; show _ + 1 + _ ≤ _; omega), p⟩
    · refine ⟨fs.map fdS, by rw [List.map_map]; rfl, ?_, (by show 1 + (Txt.join comS (fs.map fdS)).length ≤ 1000000; omega), (by show ("{" ++ Txt.join comS (fs.map fdS) : Str).length + 1 ≤ 1000000; rw [len_app]; show 1 + _ + 1 ≤ _; omega), q⟩
      rw [List.length_map]
      show _ + fs.length * 2 ≤ 16777216
      have : fs.length * 80020 ≤ 8 * 80020 := Nat.mul_le_mul_right _ hF.2.2.1
      omega
  | cho ks =>
    have hlw := ws_len (.cho ks)
    simp only [Kd.Fit] at hF
    simp only [Kd.deep] at hd
    have hne : ks ≠ [] := fun e => by rw [e] at hF; exact absurd hF.2.1 (by decide)
    rw [← cho_ws hne] at q hlw
    rw [len_app, len_app] at hlw
    have hlw2 : 1 + (Txt.join comS (ks.map Kd.ws)).length + 1 = (Kd.cho ks).w.length := hlw
    have hfd : ∀ y ∈ ks.map Kd.ws, y.length ≤ 80020 := fun y hy => by
      obtain ⟨g, hg, rfl⟩ := List.mem_map.mp hy
      obtain ⟨a2, a3⟩ := fitK_mem hF.1 hg
      have := w_100 a2 (by omega)
      rw [ws_len]
      omega
    have hsum := sum_le hfd
    rw [List.length_map] at hsum
    refine ⟨show (xK ks).length ≤ 1000000 by rw [xK_map, List.length_map]; omega, show compX _ _ _ _ _ (xK ks) _ _ from ?_⟩
    rw [xK_map]
    refine compX_fun Kd.x (fun k => .str k.ws) (fun g hg acc P p => ?_) ?_
    · obtain ⟨a2, a3⟩ := fitK_mem hF.1 hg
      exact ⟨g, rfl, a2, by omega, by omega, p⟩
    · refine ⟨ks.map Kd.ws, by rw [List.map_map]; rfl, ?_, (by show 1 + (Txt.join comS (ks.map Kd.ws)).length ≤ 1000000; omega), (by show ("<" ++ Txt.join comS (ks.map Kd.ws) : Str).length + 1 ≤ 1000000; rw [len_app]; show 1 + _ + 1 ≤ _; omega), q⟩
      rw [List.length_map]
      show _ + ks.length * 2 ≤ 16777216
      have : ks.length * 80020 ≤ 6 * 80020 := Nat.mul_le_mul_right _ hF.2.2
      omega
end

def tS (l : List Nat) : Str := ⟨l.toArray⟩
theorem tS_codes (l : List Nat) : codes (tS l) = l := by unfold tS codes; rfl
theorem tS_len (l : List Nat) : (tS l).length = l.length := by rw [codes_len, tS_codes]
theorem wF_snoc (fs : List (Str × Kd)) (f : Str × Kd) : wF (fs ++ [f]) = wF fs ++ 44 :: 32 :: (codes f.1 ++ 32 :: f.2.w) := by
  rw [wF_flat, wF_flat, List.map_append, List.flatten_append]
  simp
theorem wK_snoc (ks : List Kd) (k : Kd) : wK (ks ++ [k]) = wK ks ++ 44 :: 32 :: k.w := by
  rw [wK_flat, wK_flat, List.map_append, List.flatten_append]
  simp
theorem wF_app (a b : List (Str × Kd)) : wF (a ++ b) = wF a ++ wF b := by rw [wF_flat, wF_flat, wF_flat, List.map_append, List.flatten_append]
theorem wK_app (a b : List Kd) : wK (a ++ b) = wK a ++ wK b := by rw [wK_flat, wK_flat, wK_flat, List.map_append, List.flatten_append]
theorem rcd_cut {fs : List (Str × Kd)} (h : fs ≠ []) : ("{" ++ Txt.slice (tS (wF fs)) (some 2) none ++ "}" : Str) = (Kd.rcd fs).ws := codes_inj (by
  cases fs with
  | nil => exact absurd rfl h
  | cons f r =>
  have hl : 2 ≤ (wF (f :: r)).length := by simp only [wF, List.length_cons]; omega
  rw [ws_codes, codes_app, codes_app, codes_from (by decide) (by rw [tS_codes]; omega), tS_codes, show codes "{" = [123] from by decide, show codes "}" = [125] from by decide]
  simp only [Kd.w, List.cons_append, List.nil_append]
  rfl)
theorem cho_cut {ks : List Kd} (h : ks ≠ []) : ("<" ++ Txt.slice (tS (wK ks)) (some 2) none ++ ">" : Str) = (Kd.cho ks).ws := codes_inj (by
  cases ks with
  | nil => exact absurd rfl h
  | cons f r =>
  have hl : 2 ≤ (wK (f :: r)).length := by simp only [wK, List.length_cons]; omega
  rw [ws_codes, codes_app, codes_app, codes_from (by decide) (by rw [tS_codes]; omega), tS_codes, show codes "<" = [60] from by decide, show codes ">" = [62] from by decide]
  simp only [Kd.w, List.cons_append, List.nil_append]
  rfl)
section
variable {P : Program} {w : World} {K : PySem.W.Frag} {mg : Str → Option Value} {base : Heap} {f : Addr} {fd : FuncData} {n j : Nat}
set_option maxHeartbeats 16000000 in
theorem okx_wr (F : Fun K "_law_kind_written" "_law_kind_written" s_law_kind_written f fd) (CWR : Cal P w K mg base j "_law_kind_written" ["kind"] (spX (gSW n))) (m_str : mg "str" = none) : FnOk P w K mg base CX0 (j + 1) f fd ["kind"] (spX (gSW (n + 1))) := by
  refine fn_x F sc_law_kind_written (fun ds Q h => by obtain ⟨_, rfl, _⟩ := h; rfl) (by decide) fun cdv A outer s H E hr => ?_
  have hu1 := hu_of hr
  have hu0 := Nat.lt_of_succ_lt hu1
  refine ⟨_, (xss_cons (xs_if (xt_cmp (op_eqA K hu0) ox_eq (xe_ix K (xe_var (pv 0)) xe_int (fun _ _ => rfl)) xe_str (nomark _)) (xss_one (xs_ret (xe_add (xe_add (xe_add xe_str (xe_callTy call_strI cx_strI (by rfl) m_str bt_str (xa_cons (xe_ix K (xe_var (pv 0)) xe_int (fun _ _ => rfl)) xa_nil))) xe_str) (xe_callTy call_strI cx_strI (by rfl) m_str bt_str (xa_cons (xe_ix K (xe_var (pv 0)) xe_int (fun _ _ => rfl)) xa_nil))))) xss_nil)
    (xss_cons (xs_if (xt_cmp (op_eqA K hu0) ox_eq (xe_ix K (xe_var (pv 0)) xe_int (fun _ _ => rfl)) xe_str (nomark _)) (xss_one (xs_ret (xe_add (xe_add (xe_call CWR (hr.mono (by omega)) (xa_cons (xe_ix K (xe_var (pv 0)) xe_int (fun _ _ => rfl)) xa_nil)) xe_str) (xe_callTy call_strI cx_strI (by rfl) m_str bt_str (xa_cons (xe_ix K (xe_var (pv 0)) xe_int (fun _ _ => rfl)) xa_nil))))) xss_nil)
    (xss_cons (xs_setP fun F => ps_set (i := 1) sc_law_kind_written.nd rfl (Or.inl rfl) (XE.at (Ex := noEx) F xe_str))
    (xss_cons (xs_for PassesOwn.never rfl (xi_list (xe_ix K (xe_var (pv 0)) xe_int (fun _ _ => rfl))) (pg_name (i := 2) sc_law_kind_written.nd rfl (Or.inl rfl)) (gx_name (n := 99) (i := 2) (by decide)) (xss_one (xs_if (xt_cmp (op_eqA K hu0) ox_eq (xe_ix K (xe_var (pv 0)) xe_int (fun _ _ => rfl)) xe_str (nomark _)) (xss_one (xs_setP fun F => ps_set (i := 1) sc_law_kind_written.nd rfl (Or.inl rfl) (XE.at (Ex := noEx) F (xe_add (xe_add (xe_add (xe_add (xe_var (pv 1)) xe_str) (xe_ix K (xe_var (pv 2)) xe_int (fun _ _ => rfl))) xe_str) (xe_call CWR (hr.mono (by omega)) (xa_cons (xe_ix K (xe_var (pv 2)) xe_int (fun _ _ => rfl)) xa_nil)))))) (xss_one (xs_setP fun F => ps_set (i := 1) sc_law_kind_written.nd rfl (Or.inl rfl) (XE.at (Ex := noEx) F (xe_add (xe_add (xe_var (pv 1)) xe_str) (xe_call CWR (hr.mono (by omega)) (xa_cons (xe_var (pv 2)) xa_nil)))))))))
    (xss_cons (xs_if (xt_cmp (op_eqA K hu0) ox_eq (xe_ix K (xe_var (pv 0)) xe_int (fun _ _ => rfl)) xe_str (nomark _)) (xss_one (xs_ret (xe_add (xe_add xe_str (xe_slice K (xe_var (pv 1)) (xo_some xe_int) xo_none)) xe_str))) xss_nil)
    (xss_one (xs_ret (xe_add (xe_add xe_str (xe_slice K (xe_var (pv 1)) (xo_some xe_int) xo_none)) xe_str)))))))), fun ds Q h => ?_⟩
  obtain ⟨k, rfl, hF, hd, hn5, q⟩ := h
  have hlen := w_100 hF (by omega)
  have hq := ws_len
  cases k with
  | num v m =>
    simp only [Kd.Fit] at hF
    have h1 := (num_fig (n := v) (by omega) (by omega)).2.2
    have h2 := (num_fig (n := m) (by omega) (by omega)).2.2
    rw [← num_ws] at q
    refine ⟨v, rfl, by omega, by omega, (by show 1 + (txtI v).length ≤ 1000000; omega), ?_⟩
    refine ⟨(by show ("n" ++ txtI v : Str).length + 1 ≤ 1000000; rw [len_app]; show 1 + _ + 1 ≤ _; omega), m, rfl, by omega, by omega, (by show ("n" ++ txtI v ++ "/" : Str).length + (txtI m).length ≤ 1000000; rw [len_app, len_app]; show 1 + _ + 1 + _ ≤ _; omega), q⟩
  | row k m =>
    simp only [Kd.Fit] at hF
    simp only [Kd.deep] at hd
    have h2 := (num_fig (n := m) (by omega) (by omega)).2.2
    have h3 := w_100 hF.1 (by omega)
    have h4 := ws_len k
    rw [← row_ws] at q
    refine ⟨k, rfl, hF.1, by omega, by omega, (by show k.ws.length + 1 ≤ 1000000; omega), m, rfl, by omega, by omega, (by show (k.ws ++ "*" : Str).length + (txtI m).length ≤ 1000000; rw [len_app]; show _ + 1 + _ ≤ _; omega), q⟩
  | rcd fs =>
    simp only [Kd.Fit] at hF
    simp only [Kd.deep] at hd
    have hne : fs ≠ [] := fun e => by rw [e] at hF; exact absurd hF.2.1 (by decide)
    have hlw : (wF fs).length ≤ 80000 := by
      simp only [Kd.w, List.length_cons, List.length_append, List.length_drop, List.length_nil] at hlen
      omega
    rw [← rcd_cut hne] at q
    refine go_skip (ρ' := [.v (.tr (Kd.rcd fs).x), .un, .un]) (fun Q q => q) ?_
    refine go_skip (ρ' := [.v (.tr (Kd.rcd fs).x), .un, .un]) (fun Q q => q) ?_
    refine go_set (go_c1 ?_)
    change xSeq _ _ [.v (.tr (Kd.rcd fs).x), .v (.tr (.str "")), .un] _
    refine xSeq_nx (fun ρ => ∃ y : Sl, ρ = [.v (.tr (Kd.rcd fs).x), .v (.tr (.str (tS (wF fs)))), y]) ?_ (fun nx hnx => ?_)
    · rintro ρ ⟨y, rfl⟩
      have hsl := Txt.slice_le (tS (wF fs)) (some 2) none
      rw [tS_len] at hsl
      exact ⟨(by show (tS (wF fs)).length ≤ 1000000; rw [tS_len]; omega), (by show 1 + (Txt.slice (tS (wF fs)) (some 2) none).length ≤ 1000000; omega), (by show ("{" ++ Txt.slice (tS (wF fs)) (some 2) none : Str).length + 1 ≤ 1000000; rw [len_app]; show 1 + _ + 1 ≤ _; omega), q⟩
    show forX _ _ _ (xF fs) _
    rw [xF_map]
    refine forX_map (fun f => Dx.tup [.str f.1, f.2.x]) (fun rest ρ => ∃ (dn : List (Str × Kd)) (y : Sl), fs = dn ++ rest ∧ ρ = [.v (.tr (Kd.rcd fs).x), .v (.tr (.str (tS (wF dn)))), y]) (fun ρ h => ?_) (fun g rest ρ Kn h hk => ?_) ⟨[], .un, rfl, rfl⟩
    · obtain ⟨dn, y, e, rfl⟩ := h
      rw [List.append_nil] at e
      subst e
      exact hnx _ ⟨y, rfl⟩
    · obtain ⟨dn, y, e, rfl⟩ := h
      have hg : g ∈ fs := by rw [e]; exact List.mem_append_right _ List.mem_cons_self
      obtain ⟨a1, a2, a3⟩ := fitF_mem hF.1 hg
      have h3 := w_100 a2 (by omega)
      have h4 := ws_len g.2
      have h8 := a1.2.1
      rw [← codes_len] at h8
      have hdn : (wF dn).length ≤ 80000 := by rw [e, wF_app, List.length_append] at hlw; omega
      have eS : (tS (wF dn) ++ ", " ++ g.1 ++ " " ++ g.2.ws : Str) = tS (wF (dn ++ [g])) := codes_inj (by
        rw [codes_app, codes_app, codes_app, codes_app, tS_codes, tS_codes, ws_codes, wF_snoc, show codes ", " = [44, 32] from by decide, show codes " " = [32] from by decide]
        simp only [List.append_assoc, List.cons_append, List.nil_append])
      refine ⟨(by show (tS (wF dn)).length + 2 ≤ 1000000; rw [tS_len]; omega), (by show (tS (wF dn) ++ ", " : Str).length + g.1.length ≤ 1000000; rw [len_app, tS_len]; show _ + 2 + _ ≤ _; omega), (by show (tS (wF dn) ++ ", " ++ g.1 : Str).length + 1 ≤ 1000000; rw [len_app, len_app, tS_len]; show _ + 2 + _ + 1 ≤ _; omega), g.2, rfl, a2, by omega, by omega, (by show (tS (wF dn) ++ ", " ++ g.1 ++ " " : Str).length + g.2.ws.length ≤ 1000000; rw [len_app, len_app, len_app, tS_len]; show _ + 2 + _ + 1 + _ ≤ _; omega), hk _ ⟨dn ++ [g], .v (.tr (.tup [.str g.1, g.2.x])), by rw [e, List.append_assoc]; rfl, ?_⟩⟩
      rw [← eS]
      rfl
  | cho ks =>
    simp only [Kd.Fit] at hF
    simp only [Kd.deep] at hd
    have hne : ks ≠ [] := fun e => by rw [e] at hF; exact absurd hF.2.1 (by decide)
    have hlw : (wK ks).length ≤ 80000 := by
      simp only [Kd.w, List.length_cons, List.length_append, List.length_drop, List.length_nil] at hlen
      omega
    rw [← cho_cut hne] at q
    refine go_skip (ρ' := [.v (.tr (Kd.cho ks).x), .un, .un]) (fun Q q => q) ?_
    refine go_skip (ρ' := [.v (.tr (Kd.cho ks).x), .un, .un]) (fun Q q => q) ?_
    refine go_set (go_c1 ?_)
    change xSeq _ _ [.v (.tr (Kd.cho ks).x), .v (.tr (.str "")), .un] _
    refine xSeq_nx (fun ρ => ∃ y : Sl, ρ = [.v (.tr (Kd.cho ks).x), .v (.tr (.str (tS (wK ks)))), y]) ?_ (fun nx hnx => ?_)
    · rintro ρ ⟨y, rfl⟩
      have hsl := Txt.slice_le (tS (wK ks)) (some 2) none
      rw [tS_len] at hsl
      exact ⟨(by show (tS (wK ks)).length ≤ 1000000; rw [tS_len]; omega), (by show 1 + (Txt.slice (tS (wK ks)) (some 2) none).length ≤ 1000000; omega), (by show ("<" ++ Txt.slice (tS (wK ks)) (some 2) none : Str).length + 1 ≤ 1000000; rw [len_app]; show 1 + _ + 1 ≤ _; omega), q⟩
    show forX _ _ _ (xK ks) _
    rw [xK_map]
    refine forX_map Kd.x (fun rest ρ => ∃ (dn : List Kd) (y : Sl), ks = dn ++ rest ∧ ρ = [.v (.tr (Kd.cho ks).x), .v (.tr (.str (tS (wK dn)))), y]) (fun ρ h => ?_) (fun g rest ρ Kn h hk => ?_) ⟨[], .un, rfl, rfl⟩
    · obtain ⟨dn, y, e, rfl⟩ := h
      rw [List.append_nil] at e
      subst e
      exact hnx _ ⟨y, rfl⟩
    · obtain ⟨dn, y, e, rfl⟩ := h
      have hg : g ∈ ks := by rw [e]; exact List.mem_append_right _ List.mem_cons_self
      obtain ⟨a2, a3⟩ := fitK_mem hF.1 hg
      have h3 := w_100 a2 (by omega)
      have h4 := ws_len g
      have hdn : (wK dn).length ≤ 80000 := by rw [e, wK_app, List.length_append] at hlw; omega
      have eS : (tS (wK dn) ++ ", " ++ g.ws : Str) = tS (wK (dn ++ [g])) := codes_inj (by
        rw [codes_app, codes_app, tS_codes, tS_codes, ws_codes, wK_snoc, show codes ", " = [44, 32] from by decide]
        simp only [List.append_assoc, List.cons_append, List.nil_append])
      refine ⟨(by show (tS (wK dn)).length + 2 ≤ 1000000; rw [tS_len]; omega), g, rfl, a2, by omega, by omega, (by show (tS (wK dn) ++ ", " : Str).length + g.ws.length ≤ 1000000; rw [len_app, tS_len]; show _ + 2 + _ ≤ _; omega), hk _ ⟨dn ++ [g], .v (.tr g.x), by rw [e, List.append_assoc]; rfl, ?_⟩⟩
      rw [← eS]
      rfl
end

mutual
def Dx.deep : Dx → Nat
  | .tup l => deepX l + 1
  | .lst l => deepX l + 1
  | .dic l => deepXk l + 1
  | _ => 1
def deepX : List Dx → Nat
  | [] => 0
  | d :: r => max d.deep (deepX r)
def deepXk : List (Key × Dx) → Nat
  | [] => 0
  | k :: r => max k.2.deep (deepXk r)
end
mutual
def Dx.Sz : Dx → Prop
  | .tup l => l.length ≤ 100000 ∧ szX l
  | .lst l => l.length ≤ 100000 ∧ szX l
  | .dic l => l.length ≤ 100000 ∧ (l.map (·.1)).Nodup ∧ szXk l
  | .str x => x.length ≤ 100000
  | .scr _ _ => False
  | .ins _ _ => False
  | .exc _ => False
  | _ => True
def szX : List Dx → Prop
  | [] => True
  | d :: r => d.Sz ∧ szX r
def szXk : List (Key × Dx) → Prop
  | [] => True
  | k :: r => k.2.Sz ∧ szXk r
end
theorem deepX_mem : ∀ {l : List Dx} {d : Dx}, d ∈ l → d.deep ≤ deepX l
  | e :: r, d, h => by
    show _ ≤ max _ _
    rcases List.mem_cons.mp h with rfl | h
    · exact Nat.le_max_left _ _
    · exact Nat.le_trans (deepX_mem h) (Nat.le_max_right _ _)
theorem deepXk_mem : ∀ {l : List (Key × Dx)} {p : Key × Dx}, p ∈ l → p.2.deep ≤ deepXk l
  | e :: r, d, h => by
    show _ ≤ max _ _
    rcases List.mem_cons.mp h with rfl | h
    · exact Nat.le_max_left _ _
    · exact Nat.le_trans (deepXk_mem h) (Nat.le_max_right _ _)
theorem szX_mem : ∀ {l : List Dx} {d : Dx}, szX l → d ∈ l → d.Sz
  | e :: r, d, hs, h => by
    rcases List.mem_cons.mp h with rfl | h
    · exact hs.1
    · exact szX_mem hs.2 h
theorem szXk_mem : ∀ {l : List (Key × Dx)} {p : Key × Dx}, szXk l → p ∈ l → p.2.Sz
  | e :: r, d, hs, h => by
    rcases List.mem_cons.mp h with rfl | h
    · exact hs.1
    · exact szXk_mem hs.2 h
def Dx.own : Dx → Sv
  | .lst l => .ol l
  | .dic l => .od l
  | d => .tr d
theorem own_d (d : Dx) : d.own.d = d := by cases d <;> rfl
def gCP (n : Nat) : GC := fun ds Q => ∃ d, ds = [d] ∧ d.Sz ∧ d.deep ≤ n ∧ Q d.own
theorem map_one {α β : Type} {f : α → β} : ∀ (l : List α), (l.map fun d => [f d]).flatten = l.map f
  | [] => rfl
  | d :: l => by simp [map_one l]
theorem flat_id (l : List Dx) : [] ++ (l.map fun d => [d]).flatten = l := by simp [map_one (f := fun d : Dx => d)]
theorem putX_new {l : List (Key × Dx)} {k : Key} {d : Dx} (h : k ∉ l.map (·.1)) : putX l k d = l ++ [(k, d)] := by
  unfold putX
  have : (l.any fun kv => decide (kv.1 = k)) = false := by
    rw [List.any_eq_false]
    intro kv hkv z
    exact h (by rw [← of_decide_eq_true z]; exact List.mem_map_of_mem (f := fun x : Key × Dx => x.1) hkv)
  rw [this, if_neg Bool.false_ne_true]
theorem getK_at : ∀ {l : List (Key × Dx)} {p : Key × Dx}, (l.map (·.1)).Nodup → p ∈ l → getK l p.1 = some p.2
  | q :: l, p, hn, h => by
    unfold getK
    rw [List.find?_cons]
    have hn' := List.nodup_cons.mp hn
    rcases List.mem_cons.mp h with rfl | h
    · rw [decide_eq_true rfl]; rfl
    · have hne : ¬ q.1 = p.1 := fun z => hn'.1 (by show q.1 ∈ _; rw [z]; exact List.mem_map_of_mem (f := fun x : Key × Dx => x.1) h)
      rw [decide_eq_false hne]
      exact getK_at hn'.2 h
theorem keyX_key (k : Key) : keyD (keyX k) = some k := by cases k <;> rfl
section
variable {P : Program} {w : World} {K : PySem.W.Frag} {mg : Str → Option Value} {base : Heap} {f : Addr} {fd : FuncData} {n j : Nat}
set_option maxHeartbeats 16000000 in
theorem ok_cp (F : Fun K "_law_copy" "_law_copy" s_law_copy f fd) (CCP : Cal P w K mg base j "_law_copy" ["thing"] (spX (gCP n))) (m_isinstance : mg "isinstance" = none) (m_list : mg "list" = none) (m_tuple : mg "tuple" = none) (m_dict : mg "dict" = none) :
    FnOk P w K mg base CX0 (j + 1) f fd ["thing"] (spX (gCP (n + 1))) := by
  refine fn_x F sc_law_copy (fun ds Q h => by obtain ⟨d, rfl, _⟩ := h; rfl) (by decide) fun cdv A outer s H E hr => ?_
  have hu1 := hu_of hr
  refine ⟨_, (xss_cons (xs_if (xt_val (xe_isinst .list m_isinstance (xe_var (pv 0)) (pe_bltn (v := .ty "list") rfl m_list bt_list rfl))) (xss_one (xs_ret (xe_comp (dsc := defScope s_law_copy) (N := ["thing", "found", "name"]) (tgs := ["one"]) (outs := []) (N' := ["one"]) (by refine ⟨rfl, ?_, ?_, ?_, rfl, ?_, ?_, ?_⟩ <;> decide +kernel) (xi_list (xe_var (pv 0))) (fun _ _ _ _ _ => (pg_name (i := 0) (show (["one"] : List Str).Nodup by decide +kernel) rfl (Or.inl rfl) (.inr rfl))) (gx_name (n := 1) (i := 0) (by decide)) (tgt_name (by decide)) (fun _ _ _ _ _ => xcs_nil) (fun _ _ _ _ _ => (xe_call CCP (hr.mono (by omega)) (xa_cons (xe_var (pv 0)) xa_nil)))))) xss_nil)
    (xss_cons (xs_if (xt_val (xe_isinst .tuple m_isinstance (xe_var (pv 0)) (pe_bltn (v := .ty "tuple") rfl m_tuple bt_tuple rfl))) (xss_one (xs_ret (xe_callTy (call_tupleA K) cx_tuple (by rfl) m_tuple bt_tuple (xa_cons (xe_comp (dsc := defScope s_law_copy) (N := ["thing", "found", "name"]) (tgs := ["one"]) (outs := []) (N' := ["one"]) (by refine ⟨rfl, ?_, ?_, ?_, rfl, ?_, ?_, ?_⟩ <;> decide +kernel) (xi_tup (xe_var (pv 0))) (fun _ _ _ _ _ => (pg_name (i := 0) (show (["one"] : List Str).Nodup by decide +kernel) rfl (Or.inl rfl) (.inr rfl))) (gx_name (n := 1) (i := 0) (by decide)) (tgt_name (by decide)) (fun _ _ _ _ _ => xcs_nil) (fun _ _ _ _ _ => (xe_call CCP (hr.mono (by omega)) (xa_cons (xe_var (pv 0)) xa_nil)))) xa_nil)))) xss_nil)
    (xss_cons (xs_if (xt_val (xe_isinst .dict m_isinstance (xe_var (pv 0)) (pe_bltn (v := .ty "dict") rfl m_dict bt_dict rfl))) (xss_cons (xs_setP fun F => ps_set (i := 1) sc_law_copy.nd rfl (Or.inl rfl) (XE.at (Ex := noEx) F xe_dnew))
    (xss_cons (xs_forK PassesOwn.never rfl (pv 0) (pg_name (i := 2) sc_law_copy.nd rfl (Or.inl rfl)) (gx_name (n := 99) (i := 2) (by decide)) (xss_one (xs_of fun F => PS.weak (ps_dput hu1 (pv 1) (XE.at (Ex := noEx) F (xe_var (pv 2))) (XE.at (Ex := noEx) F (xe_call CCP (hr.mono (by omega)) (xa_cons (xe_dget hu1 (xe_var (pv 0)) (xe_var (pv 2)) (fun _ _ => rfl)) xa_nil))) rfl) tDPut_x)))
    (xss_one (xs_ret (xe_move (pv 1)))))) xss_nil)
    (xss_one (xs_ret (xe_move (pv 0))))))), fun ds Q h => ?_⟩
  obtain ⟨d, rfl, hs, hd, q⟩ := h
  cases d with
  | scr _ _ => simp only [Dx.Sz] at hs
  | ins _ _ => simp only [Dx.Sz] at hs
  | exc _ => simp only [Dx.Sz] at hs
  | lst l =>
    show l.length ≤ 1000000 ∧ compX 1 (gxN 0) xYes (xCall (gCP n) (xCons (xVar 0) xNil)) _ l [] []
    simp only [Dx.Sz] at hs
    refine ⟨by omega, compX_map (fun d => [d]) (fun d hm acc P p => ?_) (by rw [flat_id]; exact q)⟩
    exact ⟨d, rfl, szX_mem hs.2 hm, by have := deepX_mem hm; simp only [Dx.deep] at hd; omega, by show P (acc ++ [d.own.d]) []; rw [own_d]; exact p⟩
  | tup l =>
    show l.length ≤ 1000000 ∧ compX 1 (gxN 0) xYes (xCall (gCP n) (xCons (xVar 0) xNil)) _ l [] []
    simp only [Dx.Sz] at hs
    refine ⟨by omega, compX_map (fun d => [d]) (fun d hm acc P p => ?_) (by rw [flat_id]; exact q)⟩
    exact ⟨d, rfl, szX_mem hs.2 hm, by have := deepX_mem hm; simp only [Dx.deep] at hd; omega, by show P (acc ++ [d.own.d]) []; rw [own_d]; exact p⟩
  | dic l =>
    simp only [Dx.Sz] at hs
    simp only [Dx.deep] at hd
    show forX _ _ _ (keysX l) _
    refine forX_ind (fun ks ρ => ∃ done rest x, l = done ++ rest ∧ ks = keysX rest ∧ ρ = [.v (.tr (.dic l)), .v (.od done), x]) (fun ρ h => ?_) (fun k ks ρ K h hk => ?_) ⟨[], l, .un, rfl, rfl, rfl⟩
    · obtain ⟨done, rest, x, e1, e2, rfl⟩ := h
      have : rest = [] := by cases rest with | nil => rfl | cons a b => simp [keysX] at e2
      subst this
      rw [List.append_nil] at e1
      subst e1
      exact q
    · obtain ⟨done, rest, x, e1, e2, rfl⟩ := h
      cases rest with
      | nil => simp [keysX] at e2
      | cons p rest =>
        simp only [keysX, List.map_cons, List.cons.injEq] at e2
        obtain ⟨rfl, rfl⟩ := e2
        have hm : p ∈ l := by rw [e1]; exact List.mem_append_right _ List.mem_cons_self
        have hget := getK_at hs.2.1 hm
        have hnew : p.1 ∉ done.map (·.1) := by
          have := hs.2.1
          rw [e1, List.map_append, List.nodup_append] at this
          exact fun z => this.2.2 _ z _ (List.mem_map_of_mem (f := fun x : Key × Dx => x.1) List.mem_cons_self) rfl
        have hlen : done.length ≤ l.length := by rw [e1, List.length_append]; omega
        have hk' := hk [.v (.tr (.dic l)), .v (.od (putX done p.1 p.2)), .v (.tr (keyX p.1))] ⟨done ++ [p], rest, .v (.tr (keyX p.1)), by rw [e1, List.append_assoc]; rfl, rfl, by rw [putX_new hnew]⟩
        have hk'' : K [.v (.tr (.dic l)), .v (.od (putX done p.1 p.2.own.d)), .v (.tr (keyX p.1))] := by rw [own_d]; exact hk'
        simp only [gxN, xDPut, xCall, xCons, xNil, xOp, xVar, List.getElem?_cons_zero, List.getElem?_cons_succ, List.set_cons_zero, List.set_cons_succ, Sv.d, List.map_cons, List.map_nil, dgX, keyX_key, hget]
        exact ⟨p.2, rfl, szXk_mem hs.2.2 hm, by have := deepXk_mem hm; omega, ⟨done, rfl⟩, by omega, hk''⟩
  | non => exact q
  | bl b => exact q
  | int i => exact q
  | str x => exact q
end

mutual
def Dx.Pl : Dx → Prop
  | .int _ => True
  | .str _ => True
  | .tup l => l.length ≤ 100000 ∧ plX l
  | .lst l => l.length ≤ 100000 ∧ plX l
  | _ => False
def plX : List Dx → Prop
  | [] => True
  | d :: r => d.Pl ∧ plX r
end
theorem plX_mem : ∀ {l : List Dx} {d : Dx}, plX l → d ∈ l → d.Pl
  | e :: r, d, hs, h => by
    rcases List.mem_cons.mp h with rfl | h
    · exact hs.1
    · exact plX_mem hs.2 h
def gAK4 (n : Nat) : GC := fun ds Q => ∃ d : Dx, ds = [d, d] ∧ d.Pl ∧ d.deep ≤ n ∧ Q (.tr (.bl true))
section
variable {P : Program} {w : World} {K : PySem.W.Frag} {mg : Str → Option Value} {base : Heap} {f : Addr} {fd : FuncData} {n j : Nat}
set_option maxHeartbeats 16000000 in
theorem okx_ak4 (F : Fun K "_law_alike" "_law_alike" s_law_alike f fd) (CAL : Cal P w K mg base j "_law_alike" ["found", "due"] (spX (gAK4 n))) (m_isinstance : mg "isinstance" = none) (m_dict : mg "dict" = none) (m_tuple : mg "tuple" = none) (m_list : mg "list" = none) (m_len : mg "len" = none) (m_range : mg "range" = none) (m_str : mg "str" = none) (m_int : mg "int" = none) (m_bool : mg "bool" = none) : FnOk P w K mg base CX0 (j + 1) f fd ["found", "due"] (spX (gAK4 (n + 1))) := by
  refine fn_x F sc_law_alike (fun ds Q h => by obtain ⟨_, rfl, _⟩ := h; rfl) (by decide) fun cdv A outer s H E hr => ?_
  have hu1 := hu_of hr
  have hu0 := Nat.lt_of_succ_lt hu1
  refine ⟨_, (xss_cons (xs_if (xt_val (xe_isinst .dict m_isinstance (xe_var (pv 1)) (pe_bltn (v := .ty "dict") rfl m_dict bt_dict rfl))) xss_no xss_nil)
    (xss_cons (xs_if (XW.pt (xw_or (xt_val (xe_isinst .tuple m_isinstance (xe_var (pv 1)) (pe_bltn (v := .ty "tuple") rfl m_tuple bt_tuple rfl))) (xw_or1 (xt_val (xe_isinst .list m_isinstance (xe_var (pv 1)) (pe_bltn (v := .ty "list") rfl m_list bt_list rfl)))))) (xss_cons (xs_if (XW.pt (xw_or (xt_cmp (op_neA K hu0) ox_ne (xe_isinst .tuple m_isinstance (xe_var (pv 0)) (pe_bltn (v := .ty "tuple") rfl m_tuple bt_tuple rfl)) (xe_isinst .tuple m_isinstance (xe_var (pv 1)) (pe_bltn (v := .ty "tuple") rfl m_tuple bt_tuple rfl)) (nomark _)) (xw_or1 (xt_cmp (op_neA K hu0) ox_ne (xe_isinst .list m_isinstance (xe_var (pv 0)) (pe_bltn (v := .ty "list") rfl m_list bt_list rfl)) (xe_isinst .list m_isinstance (xe_var (pv 1)) (pe_bltn (v := .ty "list") rfl m_list bt_list rfl)) (nomark _))))) (xss_one (xs_ret xe_bl)) xss_nil)
    (xss_cons (xs_if (xt_cmp (op_neA K hu0) ox_ne (xe_callB (call_lenA K) cx_len (by rfl) m_len PySem.boot_len (xa_cons (xe_var (pv 0)) xa_nil)) (xe_callB (call_lenA K) cx_len (by rfl) m_len PySem.boot_len (xa_cons (xe_var (pv 1)) xa_nil)) (nomark _)) (xss_one (xs_ret xe_bl)) xss_nil)
    (xss_one (xs_ret (xe_cmp (op_eqA K hu0) ox_eq (xe_comp (dsc := defScope s_law_alike) (N := ["found", "due"]) (tgs := ["k"]) (outs := [0, 1]) (N' := ["k", "found", "due"]) (by refine ⟨rfl, ?_, ?_, ?_, rfl, ?_, ?_, ?_⟩ <;> decide +kernel) (xi_range1 m_range (xa_cons (xe_callB (call_lenA K) cx_len (by rfl) m_len PySem.boot_len (xa_cons (xe_var (pv 1)) xa_nil)) xa_nil)) (fun _ _ _ _ _ => (pg_name (i := 0) (show (["k", "found", "due"] : List Str).Nodup by decide +kernel) rfl (Or.inl rfl) (.inr rfl))) (gx_name (n := 1) (i := 0) (by decide)) (tgt_name (by decide)) (fun _ _ _ _ _ => (xcs_one (xt_not (xt_val (xe_call CAL (hr.mono (by omega)) (xa_cons (xe_ix K (xe_var (pv 1)) (xe_var (pv 0)) (fun _ _ => rfl)) (xa_cons (xe_ix K (xe_var (pv 2)) (xe_var (pv 0)) (fun _ _ => rfl)) xa_nil))))))) (fun _ _ _ _ _ => (xe_var (pv 0)))) (xe_lst xa_nil) (nomark _)))))) xss_nil)
    (xss_cons (xs_if (xt_val (xe_isinst .str m_isinstance (xe_var (pv 1)) (pe_bltn (v := .ty "str") rfl m_str bt_str rfl))) (xss_one (xs_ret (xe_and (xe_isinst .str m_isinstance (xe_var (pv 0)) (pe_bltn (v := .ty "str") rfl m_str bt_str rfl)) (xe_one (xe_cmp (op_eqA K hu0) ox_eq (xe_var (pv 0)) (xe_var (pv 1)) (nomark _)))))) xss_nil)
    (xss_one (xs_ret (xe_and (xe_isinst .int m_isinstance (xe_var (pv 0)) (pe_bltn (v := .ty "int") rfl m_int bt_int rfl)) (xe_and (xe_not (xe_isinst .bool m_isinstance (xe_var (pv 0)) (pe_bltn (v := .ty "bool") rfl m_bool bt_bool rfl))) (xe_one (xe_cmp (op_eqA K hu0) ox_eq (xe_var (pv 0)) (xe_var (pv 1)) (nomark _)))))))))), fun ds Q h => ?_⟩
  obtain ⟨d, rfl, hp, hd, q⟩ := h
  cases d with
  | int i =>
    show Q (.tr (.bl (decide (i = i))))
    rw [decide_eq_true rfl]
    exact q
  | str x =>
    show Q (.tr (.bl (decide (x = x))))
    rw [decide_eq_true rfl]
    exact q
  | tup xs =>
    simp only [Dx.Pl] at hp
    simp only [Dx.deep] at hd
    show if (!decide ((xs.length : Int) = (xs.length : Int))) = true then _ else _
    rw [decide_eq_true rfl]
    refine ⟨⟨by omega, by omega⟩, ?_⟩
    rw [show ((xs.length : Nat) : Int).toNat = xs.length from by omega]
    have hlen : (rngX 0 xs.length).length ≤ 1000000 := by unfold rngX; rw [List.length_map, List.length_range]; omega
    refine ⟨hlen, ?_⟩
    show compX _ _ _ _ _ ((List.range xs.length).map fun t : Nat => Dx.int (0 + (t : Int))) _ _
    refine compX_ind (fun t : Nat => Dx.int (0 + (t : Int))) (fun rest acc cs => (∀ t ∈ rest, t < xs.length) ∧ acc = [] ∧ cs = [.v (.tr (.tup xs)), .v (.tr (.tup xs))]) (fun acc cs h => ?_) (fun t rest acc cs Pn h hk => ?_) ⟨fun t ht => List.mem_range.mp ht, rfl, rfl⟩
    · obtain ⟨_, rfl, rfl⟩ := h
      exact ⟨Nat.zero_le _, q⟩
    · obtain ⟨ht, rfl, rfl⟩ := h
      have htx := ht t List.mem_cons_self
      obtain ⟨d, hd1, hd2⟩ := atI_of (l := xs) (i := 0 + (t : Int)) (by omega) (by omega)
      have hm : d ∈ xs := List.mem_of_getElem? hd2
      have hdm := deepX_mem hm
      show match atI xs (0 + (t : Int)) with | some d => _ | none => False
      rw [hd1]
      show match atI xs (0 + (t : Int)) with | some d => _ | none => False
      rw [hd1]
      exact ⟨d, rfl, plX_mem hp.2 hm, by omega, hk _ _ ⟨fun t' h' => ht t' (List.mem_cons_of_mem _ h'), rfl, rfl⟩⟩
  | lst xs =>
    simp only [Dx.Pl] at hp
    simp only [Dx.deep] at hd
    show if (!decide ((xs.length : Int) = (xs.length : Int))) = true then _ else _
    rw [decide_eq_true rfl]
    refine ⟨⟨by omega, by omega⟩, ?_⟩
    rw [show ((xs.length : Nat) : Int).toNat = xs.length from by omega]
    have hlen : (rngX 0 xs.length).length ≤ 1000000 := by unfold rngX; rw [List.length_map, List.length_range]; omega
    refine ⟨hlen, ?_⟩
    show compX _ _ _ _ _ ((List.range xs.length).map fun t : Nat => Dx.int (0 + (t : Int))) _ _
    refine compX_ind (fun t : Nat => Dx.int (0 + (t : Int))) (fun rest acc cs => (∀ t ∈ rest, t < xs.length) ∧ acc = [] ∧ cs = [.v (.tr (.lst xs)), .v (.tr (.lst xs))]) (fun acc cs h => ?_) (fun t rest acc cs Pn h hk => ?_) ⟨fun t ht => List.mem_range.mp ht, rfl, rfl⟩
    · obtain ⟨_, rfl, rfl⟩ := h
      exact ⟨Nat.zero_le _, q⟩
    · obtain ⟨ht, rfl, rfl⟩ := h
      have htx := ht t List.mem_cons_self
      obtain ⟨d, hd1, hd2⟩ := atI_of (l := xs) (i := 0 + (t : Int)) (by omega) (by omega)
      have hm : d ∈ xs := List.mem_of_getElem? hd2
      have hdm := deepX_mem hm
      show match atI xs (0 + (t : Int)) with | some d => _ | none => False
      rw [hd1]
      show match atI xs (0 + (t : Int)) with | some d => _ | none => False
      rw [hd1]
      exact ⟨d, rfl, plX_mem hp.2 hm, by omega, hk _ _ ⟨fun t' h' => ht t' (List.mem_cons_of_mem _ h'), rfl, rfl⟩⟩
  | non => simp only [Dx.Pl] at hp
  | bl b => simp only [Dx.Pl] at hp
  | dic l => simp only [Dx.Pl] at hp
  | scr _ _ => simp only [Dx.Pl] at hp
  | ins _ _ => simp only [Dx.Pl] at hp
  | exc _ => simp only [Dx.Pl] at hp
end

def gUP : GC := fun ds Q => ∃ n m : Int, ds = [.int n, .int m] ∧ 0 ≤ n ∧ n < 2 ^ 60 ∧ 0 < m ∧ m ≤ 8 ∧ Q (.tr (.int (up n m)))
def rb : Nat → Int
  | 0 => 8
  | n + 1 => 1000 * rb n
theorem rb_pos : ∀ n, 8 ≤ rb n
  | 0 => by decide
  | n + 1 => by have := rb_pos n; show 8 ≤ 1000 * rb n; omega
theorem rb_le : ∀ {n : Nat}, n ≤ 4 → rb n < 2 ^ 50 := by
  intro n h
  have : n = 0 ∨ n = 1 ∨ n = 2 ∨ n = 3 ∨ n = 4 := by omega
  rcases this with rfl | rfl | rfl | rfl | rfl <;> decide
def gRM (n : Nat) : GC := fun ds Q => ∃ k : Kd, ds = [k.x] ∧ k.Fit ∧ k.deep ≤ n ∧ n ≤ 5 ∧ ∀ a b : Int, 0 ≤ a → a ≤ rb n → 1 ≤ b → b ≤ 8 → Q (.tr (.tup [.int a, .int b]))
section
variable {P : Program} {w : World} {K : PySem.W.Frag} {mg : Str → Option Value} {base : Heap} {f : Addr} {fd : FuncData} {n j : Nat}
theorem okx_up (F : Fun K "_law_up" "_law_up" s_law_up f fd) : FnOk P w K mg base CX0 1 f fd ["number", "m"] (spX gUP) := by
  refine fn_x F sc_law_up (fun ds Q h => by obtain ⟨_, _, rfl, _⟩ := h; rfl) (by decide) fun cdv A outer s H E hr => ?_
  have hu1 := hu_of hr
  have hu0 := Nat.lt_of_succ_lt hu1
  refine ⟨_, (xss_one (xs_ret (xe_mul (xe_fdiv (xe_sub (xe_add (xe_var (pv 0)) (xe_var (pv 1))) xe_int) (xe_var (pv 1))) (xe_var (pv 1))))), fun ds Q h => ?_⟩
  obtain ⟨n, m, rfl, h0, h1, h2, h3, q⟩ := h
  have h4 : (n + m - 1) / m ≤ n + m - 1 := Int.ediv_le_self _ (by omega)
  have h5 : 0 ≤ (n + m - 1) / m := Int.ediv_nonneg (by omega) (by omega)
  exact ⟨⟨h2, by omega⟩, ⟨by omega, by omega⟩, q⟩
set_option maxHeartbeats 16000000 in
theorem okx_rm (F : Fun K "_law_room" "_law_room" s_law_room f fd) (CRM : Cal P w K mg base (j + 1) "_law_room" ["kind"] (spX (gRM n))) (CUP : Cal P w K mg base 1 "_law_up" ["number", "m"] (spX gUP)) (m_max : mg "max" = none) : FnOk P w K mg base CX0 (j + 2) f fd ["kind"] (spX (gRM (n + 1))) := by
  refine fn_x F sc_law_room (fun ds Q h => by obtain ⟨_, rfl, _⟩ := h; rfl) (by decide) fun cdv A outer s H E hr => ?_
  have hu1 := hu_of hr
  have hu0 := Nat.lt_of_succ_lt hu1
  refine ⟨_, (xss_cons (xs_if (xt_cmp (op_eqA K hu0) ox_eq (xe_ix K (xe_var (pv 0)) xe_int (fun _ _ => rfl)) xe_str (nomark _)) (xss_one (xs_ret (xe_tup (xa_cons (xe_ix K (xe_var (pv 0)) xe_int (fun _ _ => rfl)) (xa_cons (xe_ix K (xe_var (pv 0)) xe_int (fun _ _ => rfl)) xa_nil))))) xss_nil)
    (xss_cons (xs_if (xt_cmp (op_eqA K hu0) ox_eq (xe_ix K (xe_var (pv 0)) xe_int (fun _ _ => rfl)) xe_str (nomark _)) (xss_cons (xs_asgP (gx_tup (n := 99) (is := [1, 2]) rfl (by decide)) fun F => ps_asg (XE.at (Ex := noEx) F (xe_call CRM (hr.mono (by omega)) (xa_cons (xe_ix K (xe_var (pv 0)) xe_int (fun _ _ => rfl)) xa_nil))) (pg_tup rfl (pgs_cons (pg_name (i := 1) sc_law_room.nd rfl (Or.inl rfl)) (pgs_cons (pg_name (i := 2) sc_law_room.nd rfl (Or.inl rfl)) pgs_nil))))
    (xss_one (xs_ret (xe_tup (xa_cons (xe_mul (xe_call CUP (hr.mono (by omega)) (xa_cons (xe_var (pv 1)) (xa_cons (xe_var (pv 2)) xa_nil))) (xe_ix K (xe_var (pv 0)) xe_int (fun _ _ => rfl))) (xa_cons (xe_var (pv 2)) xa_nil)))))) xss_nil)
    (xss_cons (xs_setP fun F => ps_set (i := 3) sc_law_room.nd rfl (Or.inl rfl) (XE.at (Ex := noEx) F xe_int))
    (xss_cons (xs_setP fun F => ps_set (i := 4) sc_law_room.nd rfl (Or.inl rfl) (XE.at (Ex := noEx) F xe_int))
    (xss_cons (xs_if (xt_cmp (op_eqA K hu0) ox_eq (xe_ix K (xe_var (pv 0)) xe_int (fun _ _ => rfl)) xe_str (nomark _)) (xss_cons (xs_for PassesOwn.never rfl (xi_list (xe_ix K (xe_var (pv 0)) xe_int (fun _ _ => rfl))) (pg_tup rfl (pgs_cons (pg_name (i := 5) sc_law_room.nd rfl (Or.inl rfl)) (pgs_cons (pg_name (i := 6) sc_law_room.nd rfl (Or.inl rfl)) pgs_nil))) (gx_tup (n := 99) (is := [5, 6]) rfl (by decide)) (xss_cons (xs_asgP (gx_tup (n := 99) (is := [1, 2]) rfl (by decide)) fun F => ps_asg (XE.at (Ex := noEx) F (xe_call CRM (hr.mono (by omega)) (xa_cons (xe_var (pv 6)) xa_nil))) (pg_tup rfl (pgs_cons (pg_name (i := 1) sc_law_room.nd rfl (Or.inl rfl)) (pgs_cons (pg_name (i := 2) sc_law_room.nd rfl (Or.inl rfl)) pgs_nil))))
    (xss_cons (xs_setP fun F => ps_set (i := 3) sc_law_room.nd rfl (Or.inl rfl) (XE.at (Ex := noEx) F (xe_add (xe_call CUP (hr.mono (by omega)) (xa_cons (xe_var (pv 3)) (xa_cons (xe_var (pv 2)) xa_nil))) (xe_var (pv 1)))))
    (xss_one (xs_setP fun F => ps_set (i := 4) sc_law_room.nd rfl (Or.inl rfl) (XE.at (Ex := noEx) F (xe_callB (call_max2 (by rfl)) cx_max2 (by rfl) m_max bt_max (xa_cons (xe_var (pv 4)) (xa_cons (xe_var (pv 2)) xa_nil)))))))))
    (xss_one (xs_ret (xe_tup (xa_cons (xe_call CUP (hr.mono (by omega)) (xa_cons (xe_var (pv 3)) (xa_cons (xe_var (pv 4)) xa_nil))) (xa_cons (xe_var (pv 4)) xa_nil)))))) xss_nil)
    (xss_cons (xs_of fun F => PS.weak (ps_setC (i := 7) sc_law_room.nd rfl rfl (dsc := defScope s_law_room) (N := ["kind", "room", "m", "end", "most", "name", "part", "rooms"]) (tgs := ["part"]) (outs := []) (N' := ["part"]) (by refine ⟨rfl, ?_, ?_, ?_, rfl, ?_, ?_, ?_⟩ <;> decide +kernel) (XIt.at (Ex := noEx) F (xi_list (xe_ix K (xe_var (pv 0)) xe_int (fun _ _ => rfl)))) (fun _ _ _ _ _ => (pg_name (i := 0) (show (["part"] : List Str).Nodup by decide +kernel) rfl (Or.inl rfl) (.inr rfl))) (tgt_name (by decide)) (fun a b c d e => XCs.at (Ex := noEx) F xcs_nil) (fun a b c d e => XE.at (Ex := noEx) F (xe_call CRM (hr.mono (by omega)) (xa_cons (xe_var (pv 0)) xa_nil)))) (setC_x (gx_name (n := 1) (i := 0) (by decide)) (by decide)))
    (xss_cons (xs_setP fun F => ps_set (i := 4) sc_law_room.nd rfl (Or.inl rfl) (XE.at (Ex := noEx) F (xe_callB (call_maxA K (by rfl)) cx_maxL (by rfl) m_max bt_max (xa_cons (xe_comp (dsc := defScope s_law_room) (N := ["kind", "room", "m", "end", "most", "name", "part", "rooms"]) (tgs := ["room", "m"]) (outs := []) (N' := ["room", "m"]) (by refine ⟨rfl, ?_, ?_, ?_, rfl, ?_, ?_, ?_⟩ <;> decide +kernel) (xi_list (xe_var (pv 7))) (fun _ _ _ _ _ => (pg_tupK K (n := 2) rfl rfl (pgs_cons (pg_name (i := 0) (show (["room", "m"] : List Str).Nodup by decide +kernel) rfl (Or.inl rfl) (.inr rfl)) (pgs_cons (pg_name (i := 1) (show (["room", "m"] : List Str).Nodup by decide +kernel) rfl (Or.inl rfl) (.inr rfl)) pgs_nil)))) (gx_tup (n := 2) (is := [0, 1]) rfl (by decide)) (tgt_tup (tgts_name (by decide) (tgts_name (by decide) tgts_nil tmono_nil) (tmono_name tmono_nil))) (fun _ _ _ _ _ => xcs_nil) (fun _ _ _ _ _ => (xe_var (pv 1)))) xa_nil))))
    (xss_one (xs_ret (xe_tup (xa_cons (xe_call CUP (hr.mono (by omega)) (xa_cons (xe_add (xe_call CUP (hr.mono (by omega)) (xa_cons xe_int (xa_cons (xe_var (pv 4)) xa_nil))) (xe_callB (call_maxA K (by rfl)) cx_maxL (by rfl) m_max bt_max (xa_cons (xe_comp (dsc := defScope s_law_room) (N := ["kind", "room", "m", "end", "most", "name", "part", "rooms"]) (tgs := ["room", "m"]) (outs := []) (N' := ["room", "m"]) (by refine ⟨rfl, ?_, ?_, ?_, rfl, ?_, ?_, ?_⟩ <;> decide +kernel) (xi_list (xe_var (pv 7))) (fun _ _ _ _ _ => (pg_tupK K (n := 2) rfl rfl (pgs_cons (pg_name (i := 0) (show (["room", "m"] : List Str).Nodup by decide +kernel) rfl (Or.inl rfl) (.inr rfl)) (pgs_cons (pg_name (i := 1) (show (["room", "m"] : List Str).Nodup by decide +kernel) rfl (Or.inl rfl) (.inr rfl)) pgs_nil)))) (gx_tup (n := 2) (is := [0, 1]) rfl (by decide)) (tgt_tup (tgts_name (by decide) (tgts_name (by decide) tgts_nil tmono_nil) (tmono_name tmono_nil))) (fun _ _ _ _ _ => xcs_nil) (fun _ _ _ _ _ => (xe_var (pv 0)))) xa_nil))) (xa_cons (xe_var (pv 4)) xa_nil))) (xa_cons (xe_var (pv 4)) xa_nil)))))))))))), fun ds Q h => ?_⟩
  obtain ⟨k, rfl, hF, hd, hn5, q⟩ := h
  have hp := rb_pos n
  have hl := rb_le (n := n) (by omega)
  have e1 : rb (n + 1) = 1000 * rb n := rfl
  rw [e1] at q
  cases k with
  | num v m =>
    simp only [Kd.Fit] at hF
    exact ⟨len2, q v m (by omega) (by omega) (by omega) (by omega)⟩
  | row k m =>
    simp only [Kd.Fit] at hF
    simp only [Kd.deep] at hd
    refine ⟨k, rfl, hF.1, by omega, by omega, fun a b a0 a1 b0 b1 => ?_⟩
    obtain ⟨u1, u2⟩ := up_bounds (n := a) (m := b) (by omega)
    refine ⟨a, b, rfl, a0, by omega, by omega, b1, ?_⟩
    have hm : up a b * m ≤ (rb n + 8) * 20 := Int.mul_le_mul (by omega) (by omega) (by omega) (by omega)
    have hm0 : 0 ≤ up a b * m := Int.mul_nonneg (by omega) (by omega)
    exact ⟨⟨by omega, by omega⟩, len2, q _ b hm0 (by omega) b0 b1⟩
  | rcd fs =>
    simp only [Kd.Fit] at hF
    simp only [Kd.deep] at hd
    refine go_skip (ρ' := [.v (.tr (Kd.rcd fs).x), .un, .un, .un, .un, .un, .un, .un]) (fun Q q => q) ?_
    refine go_skip (ρ' := [.v (.tr (Kd.rcd fs).x), .un, .un, .un, .un, .un, .un, .un]) (fun Q q => q) ?_
    refine go_set (go_c1 (go_set (go_c1 ?_)))
    refine go_ifB true (ρ' := [.v (.tr (Kd.rcd fs).x), .un, .un, .v (.tr (.int 0)), .v (.tr (.int 1)), .un, .un, .un]) (fun Q q => q) (fun _ => ?_) (fun hb => by cases hb)
    refine xSeq_nx (fun ρ => ∃ (e mo : Int) (y1 y2 y5 y6 : Sl), 0 ≤ e ∧ e ≤ 8 * (rb n + 8) ∧ 1 ≤ mo ∧ mo ≤ 8 ∧ ρ = [.v (.tr (Kd.rcd fs).x), y1, y2, .v (.tr (.int e)), .v (.tr (.int mo)), y5, y6, .un]) ?_ (fun nx hnx => ?_)
    · rintro ρ ⟨e, mo, y1, y2, y5, y6, e0, e1, m0, m1, rfl⟩
      obtain ⟨u1, u2⟩ := up_bounds (n := e) (m := mo) (by omega)
      exact ⟨e, mo, rfl, e0, by omega, by omega, m1, len2, q _ mo (by omega) (by omega) m0 m1⟩
    show forX _ _ _ (xF fs) _
    rw [xF_map]
    refine forX_map (fun f => Dx.tup [.str f.1, f.2.x]) (fun rest ρ => (∀ g ∈ rest, g ∈ fs) ∧ ∃ (c : Nat) (e mo : Int) (y1 y2 y5 y6 : Sl), c + rest.length = fs.length ∧ 0 ≤ e ∧ e ≤ (c : Int) * (rb n + 8) ∧ 1 ≤ mo ∧ mo ≤ 8 ∧ ρ = [.v (.tr (Kd.rcd fs).x), y1, y2, .v (.tr (.int e)), .v (.tr (.int mo)), y5, y6, .un]) (fun ρ h => ?_) (fun g rest ρ Kn h hk => ?_) ⟨fun g hg => hg, 0, 0, 1, .un, .un, .un, .un, by simp, by decide, by simp, by decide, by decide, rfl⟩
    · obtain ⟨_, c, e, mo, y1, y2, y5, y6, hc, e0, e1, m0, m1, rfl⟩ := h
      rw [List.length_nil] at hc
      have : (c : Int) * (rb n + 8) ≤ 8 * (rb n + 8) := Int.mul_le_mul_of_nonneg_right (by omega) (by omega)
      exact hnx _ ⟨e, mo, y1, y2, y5, y6, e0, by omega, m0, m1, rfl⟩
    · obtain ⟨hsub, c, e, mo, y1, y2, y5, y6, hc, e0, e1, m0, m1, rfl⟩ := h
      rw [List.length_cons] at hc
      obtain ⟨a1, a2, a3⟩ := fitF_mem hF.1 (hsub g List.mem_cons_self)
      have hcc : (c : Int) * (rb n + 8) ≤ 8 * (rb n + 8) := Int.mul_le_mul_of_nonneg_right (by omega) (by omega)
      have hcs : ((c + 1 : Nat) : Int) * (rb n + 8) = (c : Int) * (rb n + 8) + (rb n + 8) := by push_cast; rw [Int.add_mul, Int.one_mul]
      refine ⟨g.2, rfl, a2, by omega, by omega, fun a b a0 a1 b0 b1 => ?_⟩
      obtain ⟨u1, u2⟩ := up_bounds (n := e) (m := b) (by omega)
      refine ⟨e, b, rfl, e0, by omega, by omega, b1, ?_⟩
      exact hk _ ⟨fun x hx => hsub x (List.mem_cons_of_mem _ hx), c + 1, up e b + a, if b > mo then b else mo, _, _, _, _, by omega, by omega, by omega, by split <;> omega, by split <;> omega, rfl⟩
  | cho ks =>
    simp only [Kd.Fit] at hF
    simp only [Kd.deep] at hd
    have hne : ks ≠ [] := fun e => by rw [e] at hF; exact absurd hF.2.1 (by decide)
    refine go_skip (ρ' := [.v (.tr (Kd.cho ks).x), .un, .un, .un, .un, .un, .un, .un]) (fun Q q => q) ?_
    refine go_skip (ρ' := [.v (.tr (Kd.cho ks).x), .un, .un, .un, .un, .un, .un, .un]) (fun Q q => q) ?_
    refine go_set (go_c1 (go_set (go_c1 ?_)))
    refine go_skip (ρ' := [.v (.tr (Kd.cho ks).x), .un, .un, .v (.tr (.int 0)), .v (.tr (.int 1)), .un, .un, .un]) (fun Q q => q) ?_
    refine ⟨show (xK ks).length ≤ 1000000 by rw [xK_map, List.length_map]; omega, show compX _ _ _ _ _ (xK ks) _ _ from ?_⟩
    rw [xK_map]
    refine compX_ind Kd.x (fun rest acc cs => (∀ g ∈ rest, g ∈ ks) ∧ ∃ rs : List (Int × Int), rs.length + rest.length = ks.length ∧ (∀ r ∈ rs, 0 ≤ r.1 ∧ r.1 ≤ rb n ∧ 1 ≤ r.2 ∧ r.2 ≤ 8) ∧ acc = rs.map (fun r => Dx.tup [.int r.1, .int r.2]) ∧ cs = []) (fun acc cs h => ?_) (fun g rest acc cs Pn h hk => ?_) ⟨fun g hg => hg, [], by simp, fun r hr => absurd hr List.not_mem_nil, rfl, rfl⟩
    rotate_left
    · obtain ⟨hsub, rs, hl1, hrs, rfl, rfl⟩ := h
      obtain ⟨a2, a3⟩ := fitK_mem hF.1 (hsub g List.mem_cons_self)
      refine ⟨g, rfl, a2, by omega, by omega, fun a b a0 a1 b0 b1 => hk _ _ ⟨fun x hx => hsub x (List.mem_cons_of_mem _ hx), rs ++ [(a, b)], by rw [List.length_append]; rw [List.length_cons] at hl1; show rs.length + 1 + _ = _; omega, fun r hr => ?_, by rw [List.map_append]; rfl, rfl⟩⟩
      rcases List.mem_append.mp hr with hr | hr
      · exact hrs r hr
      · rw [List.mem_singleton.mp hr]; exact ⟨a0, a1, b0, b1⟩
    obtain ⟨hsub, rs, hl1, hrs, rfl, rfl⟩ := h
    rw [List.length_nil] at hl1
    have hrne : rs ≠ [] := fun e => by rw [e, List.length_nil] at hl1; omega
    dsimp only
    change xSeq _ _ [.v (.tr (Kd.cho ks).x), .un, .un, .v (.tr (.int 0)), .v (.tr (.int 1)), .un, .un, .v (.ol (rs.map (fun r => Dx.tup [.int r.1, .int r.2])))] _
    refine ⟨by show (rs.map _).length ≤ 1000000; rw [List.length_map]; omega, show compX _ _ _ _ _ (rs.map fun r => Dx.tup [.int r.1, .int r.2]) _ _ from ?_⟩
    refine compX_fun (fun r : Int × Int => Dx.tup [.int r.1, .int r.2]) (fun r => .int r.2) (fun r _ acc P p => p) ?_
    refine ⟨rs.map (·.2), by rw [List.map_map]; rfl, fun z => hrne (List.map_eq_nil_iff.mp z), fun M hM _ => ?_⟩
    obtain ⟨r, hr2, rfl⟩ := List.mem_map.mp hM
    obtain ⟨c0, c1, c2, c3⟩ := hrs r hr2
    obtain ⟨u1, u2⟩ := up_bounds (n := 1) (m := r.2) (by omega)
    refine ⟨1, r.2, rfl, by decide, by decide, by omega, c3, ?_⟩
    refine ⟨by show (rs.map _).length ≤ 1000000; rw [List.length_map]; omega, show compX _ _ _ _ _ (rs.map fun r => Dx.tup [.int r.1, .int r.2]) _ _ from ?_⟩
    refine compX_fun (fun r : Int × Int => Dx.tup [.int r.1, .int r.2]) (fun r => .int r.1) (fun r _ acc P p => p) ?_
    refine ⟨rs.map (·.1), by rw [List.map_map]; rfl, fun z => hrne (List.map_eq_nil_iff.mp z), fun M hM _ => ?_⟩
    obtain ⟨r', hr3, rfl⟩ := List.mem_map.mp hM
    obtain ⟨d0, d1, d2, d3⟩ := hrs r' hr3
    obtain ⟨v1, v2⟩ := up_bounds (n := up 1 r.2 + r'.1) (m := r.2) (by omega)
    exact ⟨up 1 r.2 + r'.1, r.2, rfl, by omega, by omega, by omega, c3, len2, q _ r.2 (by omega) (by omega) c2 c3⟩
end

def gKW4 : GB := fun l ds Q => ∃ d mo : Int, ds = [.int d, .int mo] ∧ NumsX l ∧ 1 ≤ d ∧ d ≤ 5 ∧ ∀ (kd : Kd) (l' : List Dx), kd.Fit → kd.deep ≤ 5 → NumsX l' → Q kd.x l'
section
variable {P : Program} {w : World} {K : PySem.W.Frag} {mg : Str → Option Value} {base : Heap} {f : Addr} {fd : FuncData} {n j : Nat}
set_option maxHeartbeats 16000000 in
theorem okx_kw4 (F : Fun K "_law_kind_within" "_law_kind_within" s_law_kind_within f fd) (CTK : Cal P w K mg base 1 "_law_take" ["deck", "many"] (spB gTK)) (CKN : Cal P w K mg base (j + 1) "_law_kind" ["deck", "depth"] (spB (gKN 5))) (CRM : Cal P w K mg base (j + 1) "_law_room" ["kind"] (spX (gRM 5))) : FnOk P w K mg base CX0 (j + 2) f fd ["deck", "depth", "most"] (spB gKW4) := by
  refine fn_b F sc_law_kind_within (fun l ds Q h => by obtain ⟨d, mo, rfl, _⟩ := h; rfl) (by decide) fun cdv A outer s H E hr => ?_
  have hu1 := hu_of hr
  have hu0 := Nat.lt_of_succ_lt hu1
  refine ⟨_, (xss_cons (xs_setP fun F => ps_set (i := 3) sc_law_kind_within.nd rfl (Or.inl rfl) (XE.at (Ex := noEx) F (xe_callP (i := 0) CKN (hr.mono (by omega)) (pv 0) (xa_cons (xe_var (pv 1)) xa_nil))))
    (xss_cons (xs_if (XW.pt (xw_and (xt_cmp op_gt ox_gt (xe_ix K (xe_call CRM (hr.mono (by omega)) (xa_cons (xe_var (pv 3)) xa_nil)) xe_int (fun _ _ => rfl)) (xe_var (pv 2)) (nomark _)) (xw_and1 (xt_cmp op_lt ox_lt (xe_var (pv 2)) xe_int (nomark _))))) (xss_one (xs_ret (xe_tup (xa_cons xe_str (xa_cons (xe_add xe_int (xe_callP (i := 0) CTK (hr.mono (by omega)) (pv 0) (xa_cons xe_int xa_nil))) (xa_cons (xe_ix K (xe_lst (xa_cons xe_int (xa_cons xe_int (xa_cons xe_int (xa_cons xe_int xa_nil))))) (xe_callP (i := 0) CTK (hr.mono (by omega)) (pv 0) (xa_cons xe_int xa_nil)) (fun _ _ => rfl)) xa_nil)))))) xss_nil)
    (xss_cons (xs_if (xt_cmp op_gt ox_gt (xe_ix K (xe_call CRM (hr.mono (by omega)) (xa_cons (xe_var (pv 3)) xa_nil)) xe_int (fun _ _ => rfl)) (xe_var (pv 2)) (nomark _)) (xss_one (xs_ret (xe_tup (xa_cons xe_str (xa_cons (xe_tup (xa_cons xe_str (xa_cons (xe_add xe_int (xe_callP (i := 0) CTK (hr.mono (by omega)) (pv 0) (xa_cons xe_int xa_nil))) (xa_cons xe_int xa_nil)))) (xa_cons (xe_add xe_int (xe_callP (i := 0) CTK (hr.mono (by omega)) (pv 0) (xa_cons xe_int xa_nil))) xa_nil)))))) xss_nil)
    (xss_one (xs_ret (xe_move (pv 3))))))), fun l ds Q h => ?_⟩
  obtain ⟨d, mo, rfl, hl, d1, d5, q⟩ := h
  refine ⟨rfl, d, rfl, hl, d1, by omega, by decide, fun kd l1 hF hdp hl1 => ?_⟩
  dsimp only
  change xSeq _ _ [.bw l1, .v (.tr (.int d)), .v (.tr (.int mo)), .v (.tr kd.x)] _
  refine ⟨kd, rfl, hF, by omega, by decide, fun a b _ _ _ _ => ite2 (fun h => ite2 (fun h2 => ?_) (fun h2 => ?_)) (fun h => ?_)⟩
  · refine ⟨rfl, 8, rfl, hl1, by decide, fun r l2 r0 r1 hl2 => ?_⟩
    refine ⟨(by show 4 ≤ 1000000; decide), rfl, 4, rfl, hl2, by decide, fun r3 l3 r30 r31 hl3 => ?_⟩
    refine ixX_in r30 r31 fun v hv => ?_
    obtain ⟨m, rfl, hm⟩ := fourX hv
    exact ⟨(by show 3 ≤ 1000000; decide), q (.num (1 + r) m) l3 ⟨by omega, by omega, hm⟩ (by show 1 ≤ 5; decide) hl3⟩
  · refine ⟨kd, rfl, hF, by omega, by decide, fun a2 b2 _ _ _ _ => ite2 (fun h => ?_) (fun h => q kd l1 hF (by omega) hl1)⟩
    refine ⟨rfl, 8, rfl, hl1, by decide, fun r l2 r0 r1 hl2 => ⟨(by show 3 ≤ 1000000; decide), rfl, 20, rfl, hl2, by decide, fun r3 l3 r30 r31 hl3 => ⟨(by show 3 ≤ 1000000; decide), ?_⟩⟩⟩
    exact q (.row (.num (1 + r) 1) (1 + r3)) l3 ⟨⟨by omega, by omega, by omega⟩, by omega, by omega⟩ (by show 2 ≤ 5; decide) hl3
  · refine ⟨kd, rfl, hF, by omega, by decide, fun a2 b2 _ _ _ _ => ite2 (fun h => ?_) (fun h => q kd l1 hF (by omega) hl1)⟩
    refine ⟨rfl, 8, rfl, hl1, by decide, fun r l2 r0 r1 hl2 => ⟨(by show 3 ≤ 1000000; decide), rfl, 20, rfl, hl2, by decide, fun r3 l3 r30 r31 hl3 => ⟨(by show 3 ≤ 1000000; decide), ?_⟩⟩⟩
    exact q (.row (.num (1 + r) 1) (1 + r3)) l3 ⟨⟨by omega, by omega, by omega⟩, by omega, by omega⟩ (by show 2 ≤ 5; decide) hl3
end

theorem go_ixT {l : List Dx} {i j : Nat} {d : Dx} {ρ : En} {Q : Sv → En → Prop} (hi : ρ[i]? = some (.v (.tr (.tup l)))) (h : l[j]? = some d) (q : Q (.tr d) ρ) : xOp ixX (xVar i) (xC (.int (j : Int))) ρ Q := by
  have e : ρ.set i (.v (.tr (.tup l))) = ρ := by
    obtain ⟨h1, h2⟩ := List.getElem?_eq_some_iff.mp hi
    rw [← h2, List.set_getElem_self]
  unfold xOp xVar xC
  rw [hi]
  show ixX (.tup l) (.int (j : Int)) fun s => Q s (ρ.set i (.v (.tr (.tup l))))
  rw [e]
  show (match atI l (j : Int) with | some d => Q (.tr d) ρ | none => False)
  rw [atI_nat h]
  exact q
theorem go_andV {t u : XT} {ρ : En} {Q : Sv → En → Prop} (h : t ρ fun s ρ' => match s with
  | .tr (.bl b) => if b = true then u ρ' Q else Q (.tr (.bl false)) ρ'
  | _ => False) : xAndV t u ρ Q := h
theorem go_is {n : Ty} {t : XT} {ρ : En} {Q : Sv → En → Prop} (h : t ρ fun s ρ' => match s.d with
  | .scr _ _ => False
  | .ins _ _ => False
  | .exc _ => False
  | d => Q (.tr (.bl (isT n d))) ρ') : xIs n t ρ Q := h
def whD : Dx → Bool
  | .int _ => true
  | _ => false
def nmB (x : Str) : Bool := decide (1 ≤ (x.length : Int)) && decide ((x.length : Int) ≤ 8) && x.cps.toList.all fun c => decide (97 ≤ c) && decide (c ≤ 122)
def nmD : Dx → Bool
  | .str x => nmB x
  | _ => false
def wuD : Dx → Int → Bool
  | .int i, g => decide (1 ≤ i) && decide (i ≤ g)
  | _, _ => false
def luD : Dx → Int → Bool
  | .lst l, g => decide (1 ≤ (l.length : Int)) && decide ((l.length : Int) ≤ g)
  | _, _ => false
def hfD : Dx → Str → Int → Bool
  | .tup (.str z :: l), w, n => decide (((l.length + 1 : Nat) : Int) = n) && decide (z = w)
  | _, _, _ => false
def inM : Dx → Bool
  | .int i => inV (.int i) [.int 1, .int 2, .int 4, .int 8]
  | _ => false
def sndD : Dx → Dx
  | .tup [_, b] => b
  | _ => .non
def fldN : List Str → List Dx → Bool
  | _, [] => true
  | seen, .tup [.str x, _] :: r => nmB x && !decide (x ∈ seen) && fldN (seen ++ [x]) r
  | _, _ :: _ => false
def ikN : Nat → Dx → Bool
  | n + 1, .tup [.str w, a, b] => if w = ("number" : Str) then wuD a 8 && whD b && inM b else if w = ("row" : Str) then wuD b 20 && ikN n a else false
  | n + 1, .tup [.str w, a] => if w = ("record" : Str) then luD a 8 && (match a with
      | .lst l => fldN [] l && l.all fun t => ikN n (sndD t)
      | _ => false) else if w = ("choice" : Str) then luD a 6 && (match a with
      | .lst l => l.all (ikN n)
      | _ => false) else false
  | _, _ => false
theorem sz_no {d : Dx} (h : d.Sz) : noScr d := by cases d <;> simp only [Dx.Sz] at h <;> first | exact h.elim | trivial
def gWB : GC := fun ds Q => ∃ d : Dx, ds = [d] ∧ noScr d ∧ Q (.tr (.bl (whD d)))
def gWU : GC := fun ds Q => ∃ (d : Dx) (g : Int), ds = [d, .int g] ∧ noScr d ∧ Q (.tr (.bl (wuD d g)))
def gLU : GC := fun ds Q => ∃ (d : Dx) (g : Int), ds = [d, .int g] ∧ noScr d ∧ Q (.tr (.bl (luD d g)))
def gNM : GC := fun ds Q => ∃ d : Dx, ds = [d] ∧ d.Sz ∧ Q (.tr (.bl (nmD d)))
def gHF : GC := fun ds Q => ∃ (d : Dx) (w : Str) (n : Int), ds = [d, .str w, .int n] ∧ d.Sz ∧ 1 ≤ n ∧ Q (.tr (.bl (hfD d w n)))
def gKW (n : Nat) : GC := fun ds Q => ∃ d : Dx, ds = [d, .int (n : Int)] ∧ d.Sz ∧ Q (.tr (.bl (ikN n d)))
def gAK (n : Nat) : GC := fun ds Q => ∃ l : List Dx, ds = [.lst l, .int (n : Int)] ∧ (Dx.lst l).Sz ∧ Q (.tr (.bl (l.all (ikN n))))
def gAF (n : Nat) : GC := fun ds Q => ∃ l : List Dx, ds = [.lst l, .int (n : Int)] ∧ (Dx.lst l).Sz ∧ Q (.tr (.bl (fldN [] l && l.all fun t => ikN n (sndD t))))
def gNo : GC := fun _ _ => False
def gIK : GC := fun ds Q => ∃ d : Dx, ds = [d] ∧ d.Sz ∧ Q (.tr (.bl (ikN 5 d)))
section
variable {P : Program} {w : World} {K : PySem.W.Frag} {mg : Str → Option Value} {base : Heap} {f : Addr} {fd : FuncData} {n j : Nat}
theorem okx_wb (F : Fun K "is_whole" "is_whole" s_is_whole f fd) (m_isinstance : mg "isinstance" = none) (m_int : mg "int" = none) (m_bool : mg "bool" = none) : FnOk P w K mg base CX0 1 f fd ["thing"] (spX gWB) := by
  refine fn_x F sc_is_whole (fun ds Q h => by obtain ⟨_, rfl, _⟩ := h; rfl) (by decide) fun cdv A outer s H E hr => ?_
  refine ⟨_, (xss_one (xs_ret (xe_and (xe_isinst .int m_isinstance (xe_var (pv 0)) (pe_bltn (v := .ty "int") rfl m_int bt_int rfl)) (xe_one (xe_not (xe_isinst .bool m_isinstance (xe_var (pv 0)) (pe_bltn (v := .ty "bool") rfl m_bool bt_bool rfl))))))), fun ds Q h => ?_⟩
  obtain ⟨d, rfl, hd, q⟩ := h
  cases d <;> first | exact q | exact hd.elim
theorem okx_wu (F : Fun K "is_whole_up_to" "is_whole_up_to" s_is_whole_up_to f fd) (CIW : Cal P w K mg base 1 "is_whole" ["thing"] (spX gWB)) : FnOk P w K mg base CX0 2 f fd ["thing", "greatest"] (spX gWU) := by
  refine fn_x F sc_is_whole_up_to (fun ds Q h => by obtain ⟨_, _, rfl, _⟩ := h; rfl) (by decide) fun cdv A outer s H E hr => ?_
  refine ⟨_, (xss_one (xs_ret (xe_and (xe_call CIW (hr.mono (by omega)) (xa_cons (xe_var (pv 0)) xa_nil)) (xe_one (xe_chain op_le ox_le op_le ox_le xe_int (xe_var (pv 0)) (xe_var (pv 1))))))), fun ds Q h => ?_⟩
  obtain ⟨d, g, rfl, hd, q⟩ := h
  refine ⟨d, rfl, hd, ?_⟩
  cases d <;> first | exact q | skip
  rename_i i
  simp only [wuD] at q
  by_cases h1 : 1 ≤ i
  · rw [decide_eq_true h1, Bool.true_and] at q
    show if decide (1 ≤ i) = true then _ else _
    rw [if_pos (decide_eq_true h1)]
    exact q
  · rw [decide_eq_false h1, Bool.false_and] at q
    show if decide (1 ≤ i) = true then _ else _
    rw [decide_eq_false h1]
    exact q
theorem okx_lu (F : Fun K "is_list_up_to" "is_list_up_to" s_is_list_up_to f fd) (m_isinstance : mg "isinstance" = none) (m_list : mg "list" = none) (m_len : mg "len" = none) : FnOk P w K mg base CX0 1 f fd ["thing", "longest"] (spX gLU) := by
  refine fn_x F sc_is_list_up_to (fun ds Q h => by obtain ⟨_, _, rfl, _⟩ := h; rfl) (by decide) fun cdv A outer s H E hr => ?_
  refine ⟨_, (xss_one (xs_ret (xe_and (xe_isinst .list m_isinstance (xe_var (pv 0)) (pe_bltn (v := .ty "list") rfl m_list bt_list rfl)) (xe_one (xe_chain op_le ox_le op_le ox_le xe_int (xe_callB (call_lenA K) cx_len (by rfl) m_len PySem.boot_len (xa_cons (xe_var (pv 0)) xa_nil)) (xe_var (pv 1))))))), fun ds Q h => ?_⟩
  obtain ⟨d, g, rfl, hd, q⟩ := h
  cases d <;> first | exact q | exact hd.elim | skip
  rename_i l
  simp only [luD] at q
  by_cases h1 : 1 ≤ (l.length : Int)
  · rw [decide_eq_true h1, Bool.true_and] at q
    show if decide (1 ≤ (l.length : Int)) = true then _ else _
    rw [if_pos (decide_eq_true h1)]
    exact q
  · rw [decide_eq_false h1, Bool.false_and] at q
    show if decide (1 ≤ (l.length : Int)) = true then _ else _
    rw [decide_eq_false h1]
    exact q
theorem okx_nm (F : Fun K "is_name" "is_name" s_is_name f fd) (m_isinstance : mg "isinstance" = none) (m_str : mg "str" = none) (m_len : mg "len" = none) (m_all : mg "all" = none) (c_LONGEST_NAME : ∃ t, mg "LONGEST_NAME" = some (.int 8 t)) (c_SMALL_LETTERS : ∃ t, mg "SMALL_LETTERS" = some (.str lets t)) : FnOk P w K mg base CX0 1 f fd ["thing"] (spX gNM) := by
  refine fn_x F sc_is_name (fun ds Q h => by obtain ⟨_, rfl, _⟩ := h; rfl) (by decide) fun cdv A outer s H E hr => ?_
  refine ⟨_, (xss_cons (xs_if (XW.pt (xw_or (xt_not (xt_val (xe_isinst .str m_isinstance (xe_var (pv 0)) (pe_bltn (v := .ty "str") rfl m_str bt_str rfl)))) (xw_or1 (xt_not (xt_chain op_le ox_le op_le ox_le xe_int (xe_callB (call_lenA K) cx_len (by rfl) m_len PySem.boot_len (xa_cons (xe_var (pv 0)) xa_nil)) (xe_glob (by rfl) c_LONGEST_NAME)))))) (xss_one (xs_ret xe_bl)) xss_nil)
    (xss_one (xs_ret (xe_callB (call_allA K (by rfl)) cx_all (by rfl) m_all bt_all (xa_cons (xe_comp (dsc := defScope s_is_name) (N := ["thing"]) (tgs := ["sign"]) (outs := []) (N' := ["sign"]) (by refine ⟨rfl, ?_, ?_, ?_, rfl, ?_, ?_, ?_⟩ <;> decide +kernel) (xi_str (xe_var (pv 0))) (fun _ _ _ _ _ => (pg_name (i := 0) (show (["sign"] : List Str).Nodup by decide +kernel) rfl (Or.inl rfl) (.inr rfl))) (gx_name (n := 1) (i := 0) (by decide)) (tgt_name (by decide)) (fun _ _ _ _ _ => xcs_nil) (fun _ _ _ _ _ => (xe_cmp op_in_str ox_inS (xe_var (pv 0)) (xe_globS (by rfl) c_SMALL_LETTERS) (by with_unfolding_all rfl)))) xa_nil))))), fun ds Q h => ?_⟩
  obtain ⟨d, rfl, hd, q⟩ := h
  cases d <;> first | exact q | (simp only [Dx.Sz] at hd; done) | skip
  rename_i x
  simp only [Dx.Sz] at hd
  simp only [nmD, nmB] at q
  refine ⟨by omega, ?_⟩
  by_cases h1 : 1 ≤ (x.length : Int)
  · by_cases h2 : (x.length : Int) ≤ 8
    · rw [decide_eq_true h1, decide_eq_true h2, Bool.true_and, Bool.true_and] at q
      show if decide (1 ≤ (x.length : Int)) = true then _ else _
      rw [if_pos (decide_eq_true h1)]
      show if (!decide ((x.length : Int) ≤ 8)) = true then _ else _
      rw [decide_eq_true h2]
      refine ⟨show (sgX x).length ≤ 1000000 from ?_, show compX _ _ _ _ _ (sgX x) _ _ from ?_⟩
      · unfold sgX
        rw [List.length_map, Array.length_toList]
        show x.length ≤ 1000000
        omega
      · unfold sgX
        refine compX_fun (fun c : Nat => Dx.str ⟨#[c]⟩) (fun c => .bl (decide (97 ≤ c) && decide (c ≤ 122))) (fun c hc acc P p => ?_) ?_
        · show P (acc ++ [Dx.bl (!(Builtin.Str.occurrences ("abcdefghijklmnopqrstuvwxyz" : Str) ⟨#[c]⟩ 0 ("abcdefghijklmnopqrstuvwxyz" : Str).length 1).isEmpty)]) _
          rw [in_lets]
          exact p
        · rw [List.nil_append]
          refine ⟨x.cps.toList.map fun c => (decide (97 ≤ c) && decide (c ≤ 122)), by rw [List.map_map]; rfl, ?_⟩
          rw [List.all_map]
          exact q
    · rw [decide_eq_true h1, decide_eq_false h2, Bool.true_and, Bool.false_and] at q
      show if decide (1 ≤ (x.length : Int)) = true then _ else _
      rw [if_pos (decide_eq_true h1)]
      show if (!decide ((x.length : Int) ≤ 8)) = true then _ else _
      rw [decide_eq_false h2]
      exact q
  · rw [decide_eq_false h1, Bool.false_and, Bool.false_and] at q
    show if decide (1 ≤ (x.length : Int)) = true then _ else _
    rw [decide_eq_false h1]
    exact q
theorem okx_hf (F : Fun K "has_form" "has_form" s_has_form f fd) (m_isinstance : mg "isinstance" = none) (m_tuple : mg "tuple" = none) (m_str : mg "str" = none) (m_len : mg "len" = none) : FnOk P w K mg base CX0 1 f fd ["thing", "word", "length"] (spX gHF) := by
  refine fn_x F sc_has_form (fun ds Q h => by obtain ⟨_, _, _, rfl, _⟩ := h; rfl) (by decide) fun cdv A outer s H E hr => ?_
  have hu1 := hu_of hr
  have hu0 := Nat.lt_of_succ_lt hu1
  refine ⟨_, (xss_cons (xs_if (XW.pt (xw_or (xt_not (xt_val (xe_isinst .tuple m_isinstance (xe_var (pv 0)) (pe_bltn (v := .ty "tuple") rfl m_tuple bt_tuple rfl)))) (xw_or1 (xt_cmp (op_neA K hu0) ox_ne (xe_callB (call_lenA K) cx_len (by rfl) m_len PySem.boot_len (xa_cons (xe_var (pv 0)) xa_nil)) (xe_var (pv 2)) (nomark _))))) (xss_one (xs_ret xe_bl)) xss_nil)
    (xss_one (xs_ret (xe_and (xe_isinst .str m_isinstance (xe_ix K (xe_var (pv 0)) xe_int (fun _ _ => rfl)) (pe_bltn (v := .ty "str") rfl m_str bt_str rfl)) (xe_one (xe_cmp (op_eqA K hu0) ox_eq (xe_ix K (xe_var (pv 0)) xe_int (fun _ _ => rfl)) (xe_var (pv 1)) (nomark _))))))), fun ds Q h => ?_⟩
  obtain ⟨d, w, n, rfl, hd, hn, q⟩ := h
  cases d <;> first | exact q | (simp only [Dx.Sz] at hd; done) | skip
  rename_i l
  simp only [Dx.Sz] at hd
  show if (!decide ((l.length : Int) = n)) = true then _ else _
  by_cases hl : (l.length : Int) = n
  · rw [decide_eq_true hl]
    cases l with
    | nil => rw [← hl] at hn; exact absurd hn (by decide)
    | cons a r =>
      have ha := hd.2.1
      show xAndV (xIs Ty.str (xOp ixX (xVar 0) (xC (.int 0)))) (xOp eqX (xOp ixX (xVar 0) (xC (.int 0))) (xVar 1)) [.v (.tr (.tup (a :: r))), .v (.tr (.str w)), .v (.tr (.int n))] _
      refine go_andV (go_is (go_ixT (l := a :: r) (i := 0) (j := 0) (d := a) rfl rfl ?_))
      cases a <;> first | exact q | (simp only [Dx.Sz] at ha; done) | skip
      rename_i z
      simp only [hfD] at q
      rw [decide_eq_true (show ((r.length + 1 : Nat) : Int) = n from hl), Bool.true_and] at q
      show xOp eqX (xOp ixX (xVar 0) (xC (.int 0))) (xVar 1) [.v (.tr (.tup (.str z :: r))), .v (.tr (.str w)), .v (.tr (.int n))] _
      refine go_op (go_ixT (l := .str z :: r) (i := 0) (j := 0) (d := .str z) rfl rfl ?_)
      exact q
  · rw [decide_eq_false hl]
    have : hfD (.tup l) w n = false := by
      cases l with
      | nil => rfl
      | cons a r =>
        cases a <;> first | rfl | skip
        show (decide (((r.length + 1 : Nat) : Int) = n) && _) = false
        rw [decide_eq_false (show ¬ ((r.length + 1 : Nat) : Int) = n from hl)]
        rfl
    rw [this] at q
    exact q
theorem okx_ak (F : Fun K "are_kinds" "are_kinds" s_are_kinds f fd) (CKW : Cal P w K mg base j "is_kind_within" ["thing", "depth"] (spX (gKW n))) (m_all : mg "all" = none) : FnOk P w K mg base CX0 (j + 1) f fd ["things", "depth"] (spX (gAK n)) := by
  refine fn_x F sc_are_kinds (fun ds Q h => by obtain ⟨_, rfl, _⟩ := h; rfl) (by decide) fun cdv A outer s H E hr => ?_
  refine ⟨_, (xss_one (xs_ret (xe_callB (call_allA K (by rfl)) cx_all (by rfl) m_all bt_all (xa_cons (xe_comp (dsc := defScope s_are_kinds) (N := ["things", "depth"]) (tgs := ["thing"]) (outs := [1]) (N' := ["thing", "depth"]) (by refine ⟨rfl, ?_, ?_, ?_, rfl, ?_, ?_, ?_⟩ <;> decide +kernel) (xi_list (xe_var (pv 0))) (fun _ _ _ _ _ => (pg_name (i := 0) (show (["thing", "depth"] : List Str).Nodup by decide +kernel) rfl (Or.inl rfl) (.inr rfl))) (gx_name (n := 1) (i := 0) (by decide)) (tgt_name (by decide)) (fun _ _ _ _ _ => xcs_nil) (fun _ _ _ _ _ => (xe_call CKW (hr.mono (by omega)) (xa_cons (xe_var (pv 0)) (xa_cons (xe_var (pv 1)) xa_nil))))) xa_nil)))), fun ds Q h => ?_⟩
  obtain ⟨l, rfl, hd, q⟩ := h
  simp only [Dx.Sz] at hd
  refine ⟨show l.length ≤ 1000000 by omega, show compX _ _ _ _ _ l _ _ from ?_⟩
  rw [show l = l.map (fun d : Dx => d) from (List.map_id' l).symm]
  refine compX_fun (fun d : Dx => d) (fun d => .bl (ikN n d)) (fun d hm acc P p => ⟨d, rfl, szX_mem hd.2 hm, p⟩) ?_
  rw [List.nil_append]
  refine ⟨l.map (ikN n), by rw [List.map_map]; rfl, ?_⟩
  rw [List.all_map]
  exact q
theorem keys_true (seen : List Str) (x : Str) : (getK (seen.map fun y => ((Sum.inr y, .bl true) : Key × Dx)) (Sum.inr x)).isSome = decide (x ∈ seen) := by
  induction seen with
  | nil => rfl
  | cons y r ih =>
    by_cases h : y = x
    · subst h
      rw [decide_eq_true List.mem_cons_self]
      simp [getK]
    · have e : getK ((y :: r).map fun y => ((Sum.inr y, .bl true) : Key × Dx)) (Sum.inr x) = getK (r.map fun y => ((Sum.inr y, .bl true) : Key × Dx)) (Sum.inr x) := by
        simp [getK, h]
      rw [e, ih]
      congr 1
      simp [List.mem_cons, show ¬ x = y from fun z => h z.symm]
theorem szX_of : ∀ {l : List Dx}, (∀ d ∈ l, d.Sz) → szX l
  | [], _ => trivial
  | d :: l, h => ⟨h d List.mem_cons_self, szX_of fun e he => h e (List.mem_cons_of_mem _ he)⟩
theorem fld_two : ∀ {l : List Dx} {seen : List Str}, fldN seen l = true → ∀ d ∈ l, ∃ a b, d = .tup [a, b]
  | [], _, _, d, hm => by simp at hm
  | e :: r, seen, h, d, hm => by
    unfold fldN at h
    split at h
    · rename_i h0; cases h0
    · rename_i x b r' h0
      cases h0
      rcases List.mem_cons.mp hm with rfl | hm
      · exact ⟨_, _, rfl⟩
      · rw [Bool.and_eq_true] at h
        exact fld_two h.2 d hm
    · cases h
theorem fld_nm {a b : Dx} {r : List Dx} {seen : List Str} (h : nmD a = false) : fldN seen (.tup [a, b] :: r) = false := by
  cases a <;> first | rfl | skip
  simp only [fldN]
  rw [show nmB _ = false from h]
  rfl
theorem fld_len {t r : List Dx} {seen : List Str} (h : ¬ (t.length : Int) = 2) : fldN seen (.tup t :: r) = false := by
  unfold fldN
  split
  · rename_i h0; cases h0
  · rename_i x b r' h0
    cases h0
    exact absurd rfl h
  · rfl
set_option maxHeartbeats 16000000 in
theorem okx_af (F : Fun K "are_fields" "are_fields" s_are_fields f fd) (CNM : Cal P w K mg base 1 "is_name" ["thing"] (spX gNM)) (CAK : Cal P w K mg base j "are_kinds" ["things", "depth"] (spX (gAK n))) (m_isinstance : mg "isinstance" = none) (m_tuple : mg "tuple" = none) (m_len : mg "len" = none) (hj : 1 ≤ j) : FnOk P w K mg base CX0 (j + 1) f fd ["things", "depth"] (spX (gAF n)) := by
  refine fn_x F sc_are_fields (fun ds Q h => by obtain ⟨_, rfl, _⟩ := h; rfl) (by decide) fun cdv A outer s H E hr => ?_
  have hu1 := hu_of hr
  have hu0 := Nat.lt_of_succ_lt hu1
  refine ⟨_, (xss_cons (xs_setP fun F => ps_set (i := 2) sc_are_fields.nd rfl (Or.inl rfl) (XE.at (Ex := noEx) F xe_dnew))
    (xss_cons (xs_for PassesOwn.never rfl (xi_list (xe_var (pv 0))) (pg_name (i := 3) sc_are_fields.nd rfl (Or.inl rfl)) (gx_name (n := 99) (i := 3) (by decide)) (xss_cons (xs_if (XW.pt (xw_or (xt_not (xt_val (xe_isinst .tuple m_isinstance (xe_var (pv 3)) (pe_bltn (v := .ty "tuple") rfl m_tuple bt_tuple rfl)))) (xw_or1 (xt_cmp (op_neA K hu0) ox_ne (xe_callB (call_lenA K) cx_len (by rfl) m_len PySem.boot_len (xa_cons (xe_var (pv 3)) xa_nil)) xe_int (nomark _))))) (xss_one (xs_ret xe_bl)) xss_nil)
    (xss_cons (xs_if (XW.pt (xw_or (xt_not (xt_val (xe_call CNM (hr.mono (by omega)) (xa_cons (xe_ix K (xe_var (pv 3)) xe_int (fun _ _ => rfl)) xa_nil)))) (xw_or1 (xt_pkDin hu1 (xe_ix K (xe_var (pv 3)) xe_int (fun _ _ => rfl)) (pv 2) (by with_unfolding_all rfl))))) (xss_one (xs_ret xe_bl)) xss_nil)
    (xss_one (xs_of fun F => PS.weak (ps_dput hu1 (pv 2) (XE.at (Ex := noEx) F (xe_ix K (xe_var (pv 3)) xe_int (fun _ _ => rfl))) (XE.at (Ex := noEx) F xe_bl) rfl) tDPut_x)))))
    (xss_one (xs_ret (xe_call CAK (hr.mono (by omega)) (xa_cons (xe_comp (dsc := defScope s_are_fields) (N := ["things", "depth", "names", "thing"]) (tgs := ["thing"]) (outs := []) (N' := ["thing"]) (by refine ⟨rfl, ?_, ?_, ?_, rfl, ?_, ?_, ?_⟩ <;> decide +kernel) (xi_list (xe_var (pv 0))) (fun _ _ _ _ _ => (pg_name (i := 0) (show (["thing"] : List Str).Nodup by decide +kernel) rfl (Or.inl rfl) (.inr rfl))) (gx_name (n := 1) (i := 0) (by decide)) (tgt_name (by decide)) (fun _ _ _ _ _ => xcs_nil) (fun _ _ _ _ _ => (xe_ix K (xe_var (pv 0)) xe_int (fun _ _ => rfl)))) (xa_cons (xe_var (pv 1)) xa_nil))))))), fun ds Q h => ?_⟩
  obtain ⟨l, rfl, hd, q⟩ := h
  simp only [Dx.Sz] at hd
  refine go_set ?_
  change xSeq _ _ [.v (.tr (.lst l)), .v (.tr (.int (n : Int))), .v (.od []), .un] _
  refine xSeq_nx (fun ρ => fldN [] l = true ∧ ∃ (y2 y3 : Sl), ρ = [.v (.tr (.lst l)), .v (.tr (.int (n : Int))), y2, y3]) ?_ (fun nx hnx => ?_)
  · rintro ρ ⟨hf, y2, y3, rfl⟩
    rw [hf, Bool.true_and] at q
    refine ⟨show l.length ≤ 1000000 by omega, show compX _ _ _ _ _ l _ _ from ?_⟩
    have hall := fld_two hf
    rw [show l = l.map (fun d : Dx => d) from (List.map_id' l).symm]
    refine compX_fun (fun d : Dx => d) sndD (fun d hm acc P p => ?_) ?_
    · obtain ⟨a, b, rfl⟩ := hall d hm
      exact p
    · rw [List.nil_append]
      refine ⟨l.map sndD, rfl, ?_, ?_⟩
      · simp only [Dx.Sz]
        refine ⟨by rw [List.length_map]; omega, szX_of fun d hm => ?_⟩
        obtain ⟨t, ht, rfl⟩ := List.mem_map.mp hm
        obtain ⟨a, b, rfl⟩ := hall t ht
        have := szX_mem hd.2 ht
        simp only [Dx.Sz, szX] at this
        exact this.2.2.1
      · rw [List.all_map]
        exact q
  · have hq : fldN [] l = false → Q (.tr (.bl false)) := fun hf => by rw [hf, Bool.false_and] at q; exact q
    show forX _ _ _ l _
    refine forX_ind (fun rest ρ => ∃ (seen : List Str) (y3 : Sl), fldN [] l = fldN seen rest ∧ (∀ d ∈ rest, d.Sz) ∧ seen.length + rest.length = l.length ∧ ρ = [.v (.tr (.lst l)), .v (.tr (.int (n : Int))), .v (.od (seen.map fun x => (Sum.inr x, .bl true))), y3]) (fun ρ h => ?_) (fun d rest ρ Kn h hk => ?_) ⟨[], .un, rfl, fun d hm => szX_mem hd.2 hm, by simp, rfl⟩
    · obtain ⟨seen, y3, e1, _, _, rfl⟩ := h
      exact hnx _ ⟨by rw [e1]; simp only [fldN], _, _, rfl⟩
    · obtain ⟨seen, y3, e1, hsz, hln, rfl⟩ := h
      have hds := hsz d List.mem_cons_self
      rw [List.length_cons] at hln
      cases d with
      | tup t =>
        simp only [Dx.Sz] at hds
        show if (!decide ((t.length : Int) = 2)) = true then _ else _
        by_cases ht : (t.length : Int) = 2
        · rw [decide_eq_true ht]
          obtain ⟨a, b, rfl⟩ : ∃ a b, t = [a, b] := by
            match t, ht with
            | [a, b], _ => exact ⟨a, b, rfl⟩
          have ha := hds.2.1
          refine ⟨a, rfl, ha, ?_⟩
          cases hn : nmD a with
          | false =>
            refine hq ?_
            rw [e1]
            exact fld_nm hn
          | true =>
            obtain ⟨x, rfl⟩ : ∃ x, a = .str x := by
              cases a <;> first | exact ⟨_, rfl⟩ | (simp only [nmD] at hn; cases hn)
            show if ((getK (seen.map fun x => ((Sum.inr x, .bl true) : Key × Dx)) (Sum.inr x)).isSome) = true then _ else _
            rw [keys_true]
            by_cases hx : x ∈ seen
            · rw [decide_eq_true hx]
              refine hq ?_
              rw [e1]
              simp only [fldN]
              rw [decide_eq_true hx]
              simp
            · rw [decide_eq_false hx]
              have hnew : (Sum.inr x : Key) ∉ (seen.map fun x => ((Sum.inr x, .bl true) : Key × Dx)).map (·.1) := by
                rw [List.map_map]
                intro z
                obtain ⟨y, hy, e⟩ := List.mem_map.mp z
                exact hx ((Sum.inr.inj e) ▸ hy)
              refine ⟨⟨_, rfl⟩, show (seen.map _).length < 1000000 by rw [List.length_map]; omega, ?_⟩
              refine hk _ ⟨seen ++ [x], .v (.tr (.tup [.str x, b])), ?_, fun d hm => hsz d (List.mem_cons_of_mem _ hm), by rw [List.length_append, List.length_singleton]; omega, ?_⟩
              · rw [e1]
                simp only [fldN]
                rw [decide_eq_false hx, show nmB x = true from hn]
                simp
              · rw [List.map_append, List.map_cons, List.map_nil, ← putX_new hnew]
                rfl
        · rw [decide_eq_false ht]
          refine hq ?_
          rw [e1]
          exact fld_len ht
      | _ => first | exact hq (by rw [e1]; rfl) | (simp only [Dx.Sz] at hds; done)
theorem kwx_zero (F : Fun K "is_kind_within" "is_kind_within" s_is_kind_within f fd) (CHF : Cal P w K mg base 1 "has_form" ["thing", "word", "length"] (spX gHF)) (CWU : Cal P w K mg base 2 "is_whole_up_to" ["thing", "greatest"] (spX gWU)) (CLU : Cal P w K mg base 1 "is_list_up_to" ["thing", "longest"] (spX gLU)) (CIW : Cal P w K mg base 1 "is_whole" ["thing"] (spX gWB)) (CKW : Cal P w K mg base j "is_kind_within" ["thing", "depth"] (spX gNo)) (CAF : Cal P w K mg base j "are_fields" ["things", "depth"] (spX gNo)) (CAK : Cal P w K mg base j "are_kinds" ["things", "depth"] (spX gNo)) (c_WIDEST_NUMBER : ∃ t, mg "WIDEST_NUMBER" = some (.int 8 t)) (c_LONGEST_ROW : ∃ t, mg "LONGEST_ROW" = some (.int 20 t)) (c_MOST_FIELDS : ∃ t, mg "MOST_FIELDS" = some (.int 8 t)) (c_MOST_CHOICES : ∃ t, mg "MOST_CHOICES" = some (.int 6 t)) (c_MULTIPLES : ∃ c, mg "MULTIPLES" = some (.ref c) ∧ ∀ H, SqT K H c [.int 1, .int 2, .int 4, .int 8]) (hj : 2 ≤ j) : FnOk P w K mg base CX0 (j + 1) f fd ["thing", "depth"] (spX (gKW 0)) := by
  refine fn_x F sc_is_kind_within (fun ds Q h => by obtain ⟨_, rfl, _⟩ := h; rfl) (by decide) fun cdv A outer s H E hr => ?_
  have hu1 := hu_of hr
  have hu0 := Nat.lt_of_succ_lt hu1
  refine ⟨_, (xss_cons (xs_if (xt_cmp op_lt ox_lt (xe_var (pv 1)) xe_int (nomark _)) (xss_one (xs_ret xe_bl)) xss_nil)
    (xss_cons (xs_if (xt_val (xe_call CHF (hr.mono (by omega)) (xa_cons (xe_var (pv 0)) (xa_cons xe_str (xa_cons xe_int xa_nil))))) (xss_one (xs_ret (xe_and (xe_call CWU (hr.mono (by omega)) (xa_cons (xe_ix K (xe_var (pv 0)) xe_int (fun _ _ => rfl)) (xa_cons (xe_glob (by rfl) c_WIDEST_NUMBER) xa_nil))) (xe_and (xe_call CIW (hr.mono (by omega)) (xa_cons (xe_ix K (xe_var (pv 0)) xe_int (fun _ _ => rfl)) xa_nil)) (xe_one (xe_inG K [.int 1, .int 2, .int 4, .int 8] (xe_ix K (xe_var (pv 0)) xe_int (fun _ _ => rfl)) (by rfl) c_MULTIPLES)))))) xss_nil)
    (xss_cons (xs_if (xt_val (xe_call CHF (hr.mono (by omega)) (xa_cons (xe_var (pv 0)) (xa_cons xe_str (xa_cons xe_int xa_nil))))) (xss_one (xs_ret (xe_and (xe_call CWU (hr.mono (by omega)) (xa_cons (xe_ix K (xe_var (pv 0)) xe_int (fun _ _ => rfl)) (xa_cons (xe_glob (by rfl) c_LONGEST_ROW) xa_nil))) (xe_one (xe_call CKW (hr.mono (by omega)) (xa_cons (xe_ix K (xe_var (pv 0)) xe_int (fun _ _ => rfl)) (xa_cons (xe_sub (xe_var (pv 1)) xe_int) xa_nil))))))) xss_nil)
    (xss_cons (xs_if (xt_val (xe_call CHF (hr.mono (by omega)) (xa_cons (xe_var (pv 0)) (xa_cons xe_str (xa_cons xe_int xa_nil))))) (xss_one (xs_ret (xe_and (xe_call CLU (hr.mono (by omega)) (xa_cons (xe_ix K (xe_var (pv 0)) xe_int (fun _ _ => rfl)) (xa_cons (xe_glob (by rfl) c_MOST_FIELDS) xa_nil))) (xe_one (xe_call CAF (hr.mono (by omega)) (xa_cons (xe_ix K (xe_var (pv 0)) xe_int (fun _ _ => rfl)) (xa_cons (xe_sub (xe_var (pv 1)) xe_int) xa_nil))))))) xss_nil)
    (xss_cons (xs_if (xt_val (xe_call CHF (hr.mono (by omega)) (xa_cons (xe_var (pv 0)) (xa_cons xe_str (xa_cons xe_int xa_nil))))) (xss_one (xs_ret (xe_and (xe_call CLU (hr.mono (by omega)) (xa_cons (xe_ix K (xe_var (pv 0)) xe_int (fun _ _ => rfl)) (xa_cons (xe_glob (by rfl) c_MOST_CHOICES) xa_nil))) (xe_one (xe_call CAK (hr.mono (by omega)) (xa_cons (xe_ix K (xe_var (pv 0)) xe_int (fun _ _ => rfl)) (xa_cons (xe_sub (xe_var (pv 1)) xe_int) xa_nil))))))) xss_nil)
    (xss_one (xs_ret xe_bl))))))), fun ds Q h => ?_⟩
  obtain ⟨d, rfl, hs, q⟩ := h
  have : ikN 0 d = false := by cases d <;> rfl
  rw [this] at q
  exact q
theorem hf3 {w k : Str} {x y : Dx} : hfD (.tup [.str w, x, y]) k 3 = decide (w = k) := by simp [hfD]
theorem hf2 {w k : Str} {x : Dx} : hfD (.tup [.str w, x]) k 2 = decide (w = k) := by simp [hfD]
theorem hf0 {w k : Str} {r : List Dx} {n : Int} (h : ((r.length + 1 : Nat) : Int) ≠ n) : hfD (.tup (.str w :: r)) k n = false := by simp only [hfD]; rw [decide_eq_false h]; rfl
set_option maxHeartbeats 16000000 in
theorem okx_kw (F : Fun K "is_kind_within" "is_kind_within" s_is_kind_within f fd) (CHF : Cal P w K mg base 1 "has_form" ["thing", "word", "length"] (spX gHF)) (CWU : Cal P w K mg base 2 "is_whole_up_to" ["thing", "greatest"] (spX gWU)) (CLU : Cal P w K mg base 1 "is_list_up_to" ["thing", "longest"] (spX gLU)) (CIW : Cal P w K mg base 1 "is_whole" ["thing"] (spX gWB)) (CKW : Cal P w K mg base j "is_kind_within" ["thing", "depth"] (spX (gKW n))) (CAF : Cal P w K mg base j "are_fields" ["things", "depth"] (spX (gAF n))) (CAK : Cal P w K mg base j "are_kinds" ["things", "depth"] (spX (gAK n))) (c_WIDEST_NUMBER : ∃ t, mg "WIDEST_NUMBER" = some (.int 8 t)) (c_LONGEST_ROW : ∃ t, mg "LONGEST_ROW" = some (.int 20 t)) (c_MOST_FIELDS : ∃ t, mg "MOST_FIELDS" = some (.int 8 t)) (c_MOST_CHOICES : ∃ t, mg "MOST_CHOICES" = some (.int 6 t)) (c_MULTIPLES : ∃ c, mg "MULTIPLES" = some (.ref c) ∧ ∀ H, SqT K H c [.int 1, .int 2, .int 4, .int 8]) (hj : 2 ≤ j) : FnOk P w K mg base CX0 (j + 1) f fd ["thing", "depth"] (spX (gKW (n + 1))) := by
  refine fn_x F sc_is_kind_within (fun ds Q h => by obtain ⟨_, rfl, _⟩ := h; rfl) (by decide) fun cdv A outer s H E hr => ?_
  have hu1 := hu_of hr
  have hu0 := Nat.lt_of_succ_lt hu1
  refine ⟨_, (xss_cons (xs_if (xt_cmp op_lt ox_lt (xe_var (pv 1)) xe_int (nomark _)) (xss_one (xs_ret xe_bl)) xss_nil)
    (xss_cons (xs_if (xt_val (xe_call CHF (hr.mono (by omega)) (xa_cons (xe_var (pv 0)) (xa_cons xe_str (xa_cons xe_int xa_nil))))) (xss_one (xs_ret (xe_and (xe_call CWU (hr.mono (by omega)) (xa_cons (xe_ix K (xe_var (pv 0)) xe_int (fun _ _ => rfl)) (xa_cons (xe_glob (by rfl) c_WIDEST_NUMBER) xa_nil))) (xe_and (xe_call CIW (hr.mono (by omega)) (xa_cons (xe_ix K (xe_var (pv 0)) xe_int (fun _ _ => rfl)) xa_nil)) (xe_one (xe_inG K [.int 1, .int 2, .int 4, .int 8] (xe_ix K (xe_var (pv 0)) xe_int (fun _ _ => rfl)) (by rfl) c_MULTIPLES)))))) xss_nil)
    (xss_cons (xs_if (xt_val (xe_call CHF (hr.mono (by omega)) (xa_cons (xe_var (pv 0)) (xa_cons xe_str (xa_cons xe_int xa_nil))))) (xss_one (xs_ret (xe_and (xe_call CWU (hr.mono (by omega)) (xa_cons (xe_ix K (xe_var (pv 0)) xe_int (fun _ _ => rfl)) (xa_cons (xe_glob (by rfl) c_LONGEST_ROW) xa_nil))) (xe_one (xe_call CKW (hr.mono (by omega)) (xa_cons (xe_ix K (xe_var (pv 0)) xe_int (fun _ _ => rfl)) (xa_cons (xe_sub (xe_var (pv 1)) xe_int) xa_nil))))))) xss_nil)
    (xss_cons (xs_if (xt_val (xe_call CHF (hr.mono (by omega)) (xa_cons (xe_var (pv 0)) (xa_cons xe_str (xa_cons xe_int xa_nil))))) (xss_one (xs_ret (xe_and (xe_call CLU (hr.mono (by omega)) (xa_cons (xe_ix K (xe_var (pv 0)) xe_int (fun _ _ => rfl)) (xa_cons (xe_glob (by rfl) c_MOST_FIELDS) xa_nil))) (xe_one (xe_call CAF (hr.mono (by omega)) (xa_cons (xe_ix K (xe_var (pv 0)) xe_int (fun _ _ => rfl)) (xa_cons (xe_sub (xe_var (pv 1)) xe_int) xa_nil))))))) xss_nil)
    (xss_cons (xs_if (xt_val (xe_call CHF (hr.mono (by omega)) (xa_cons (xe_var (pv 0)) (xa_cons xe_str (xa_cons xe_int xa_nil))))) (xss_one (xs_ret (xe_and (xe_call CLU (hr.mono (by omega)) (xa_cons (xe_ix K (xe_var (pv 0)) xe_int (fun _ _ => rfl)) (xa_cons (xe_glob (by rfl) c_MOST_CHOICES) xa_nil))) (xe_one (xe_call CAK (hr.mono (by omega)) (xa_cons (xe_ix K (xe_var (pv 0)) xe_int (fun _ _ => rfl)) (xa_cons (xe_sub (xe_var (pv 1)) xe_int) xa_nil))))))) xss_nil)
    (xss_one (xs_ret xe_bl))))))), fun ds Q h => ?_⟩
  obtain ⟨d, rfl, hs, q⟩ := h
  have hm1 : ((n + 1 : Nat) : Int) - 1 = (n : Int) := by omega
  cases d with
  | tup t =>
    cases t with
    | nil => exact ⟨_, _, _, rfl, hs, by decide, ⟨_, _, _, rfl, hs, by decide, ⟨_, _, _, rfl, hs, by decide, ⟨_, _, _, rfl, hs, by decide, q⟩⟩⟩⟩
    | cons a r =>
      cases a with
      | str w =>
        have hsz := hs
        simp only [Dx.Sz, szX] at hsz
        match r, hs, hsz, q with
        | [], hs, _, q => exact ⟨_, _, _, rfl, hs, by decide, ⟨_, _, _, rfl, hs, by decide, ⟨_, _, _, rfl, hs, by decide, ⟨_, _, _, rfl, hs, by decide, q⟩⟩⟩⟩
        | [x], hs, hsz, q =>
          refine ⟨_, _, _, rfl, hs, by decide, ⟨_, _, _, rfl, hs, by decide, ⟨_, _, _, rfl, hs, by decide, ?_⟩⟩⟩
          show if hfD (.tup [.str w, x]) "record" 2 = true then _ else _
          rw [hf2]
          simp only [ikN] at q
          by_cases h1 : w = ("record" : Str)
          · rw [if_pos h1] at q
            rw [decide_eq_true h1]
            refine ⟨x, 8, rfl, sz_no hsz.2.2.1, ?_⟩
            cases hl : luD x 8 with
            | false => rw [hl, Bool.false_and] at q; exact q
            | true =>
              rw [hl, Bool.true_and] at q
              cases x with
              | lst l =>
                refine ⟨l, ?_, hsz.2.2.1, q⟩
                show [Dx.lst l, Dx.int (((n + 1 : Nat) : Int) - 1)] = _
                rw [hm1]
              | _ => simp only [luD] at hl; cases hl
          · rw [if_neg h1] at q
            rw [decide_eq_false h1]
            refine ⟨_, _, _, rfl, hs, by decide, ?_⟩
            show if hfD (.tup [.str w, x]) "choice" 2 = true then _ else _
            rw [hf2]
            by_cases h2 : w = ("choice" : Str)
            · rw [if_pos h2] at q
              rw [decide_eq_true h2]
              refine ⟨x, 6, rfl, sz_no hsz.2.2.1, ?_⟩
              cases hl : luD x 6 with
              | false => rw [hl, Bool.false_and] at q; exact q
              | true =>
                rw [hl, Bool.true_and] at q
                cases x with
                | lst l =>
                  refine ⟨l, ?_, hsz.2.2.1, q⟩
                  show [Dx.lst l, Dx.int (((n + 1 : Nat) : Int) - 1)] = _
                  rw [hm1]
                | _ => simp only [luD] at hl; cases hl
            · rw [if_neg h2] at q
              rw [decide_eq_false h2]
              exact q
        | [x, y], hs, hsz, q =>
          refine ⟨_, _, _, rfl, hs, by decide, ?_⟩
          show if hfD (.tup [.str w, x, y]) "number" 3 = true then _ else _
          rw [hf3]
          simp only [ikN] at q
          by_cases h1 : w = ("number" : Str)
          · rw [if_pos h1] at q
            rw [decide_eq_true h1]
            refine ⟨x, 8, rfl, sz_no hsz.2.2.1, ?_⟩
            cases hl : wuD x 8 with
            | false => rw [hl, Bool.false_and, Bool.false_and] at q; exact q
            | true =>
              rw [hl, Bool.true_and] at q
              refine ⟨y, rfl, sz_no hsz.2.2.2.1, ?_⟩
              cases y with
              | int i => exact q
              | _ => exact q
          · rw [if_neg h1] at q
            rw [decide_eq_false h1]
            refine ⟨_, _, _, rfl, hs, by decide, ?_⟩
            show if hfD (.tup [.str w, x, y]) "row" 3 = true then _ else _
            rw [hf3]
            by_cases h2 : w = ("row" : Str)
            · rw [if_pos h2] at q
              rw [decide_eq_true h2]
              refine ⟨y, 20, rfl, sz_no hsz.2.2.2.1, ?_⟩
              cases hl : wuD y 20 with
              | false => rw [hl, Bool.false_and] at q; exact q
              | true =>
                rw [hl, Bool.true_and] at q
                refine ⟨x, ?_, hsz.2.2.1, q⟩
                show [x, Dx.int (((n + 1 : Nat) : Int) - 1)] = _
                rw [hm1]
            · rw [if_neg h2] at q
              rw [decide_eq_false h2]
              exact ⟨_, _, _, rfl, hs, by decide, ⟨_, _, _, rfl, hs, by decide, q⟩⟩
        | x :: y :: z :: s, hs, hsz, q =>
          have e3 : ∀ k, hfD (.tup (.str w :: x :: y :: z :: s)) k 3 = false := fun k => hf0 (by simp only [List.length_cons]; omega)
          have e2 : ∀ k, hfD (.tup (.str w :: x :: y :: z :: s)) k 2 = false := fun k => hf0 (by simp only [List.length_cons]; omega)
          refine ⟨_, _, _, rfl, hs, by decide, ?_⟩
          show if hfD (.tup (.str w :: x :: y :: z :: s)) "number" 3 = true then _ else _
          rw [e3]
          refine ⟨_, _, _, rfl, hs, by decide, ?_⟩
          show if hfD (.tup (.str w :: x :: y :: z :: s)) "row" 3 = true then _ else _
          rw [e3]
          refine ⟨_, _, _, rfl, hs, by decide, ?_⟩
          show if hfD (.tup (.str w :: x :: y :: z :: s)) "record" 2 = true then _ else _
          rw [e2]
          refine ⟨_, _, _, rfl, hs, by decide, ?_⟩
          show if hfD (.tup (.str w :: x :: y :: z :: s)) "choice" 2 = true then _ else _
          rw [e2]
          exact q
      | _ => exact ⟨_, _, _, rfl, hs, by decide, ⟨_, _, _, rfl, hs, by decide, ⟨_, _, _, rfl, hs, by decide, ⟨_, _, _, rfl, hs, by decide, q⟩⟩⟩⟩
  | _ => exact ⟨_, _, _, rfl, hs, by decide, ⟨_, _, _, rfl, hs, by decide, ⟨_, _, _, rfl, hs, by decide, ⟨_, _, _, rfl, hs, by decide, q⟩⟩⟩⟩
theorem okx_ik (F : Fun K "is_kind" "is_kind" s_is_kind f fd) (CKW : Cal P w K mg base j "is_kind_within" ["thing", "depth"] (spX (gKW 5))) (c_DEEPEST : ∃ t, mg "DEEPEST" = some (.int 5 t)) : FnOk P w K mg base CX0 (j + 1) f fd ["thing"] (spX gIK) := by
  refine fn_x F sc_is_kind (fun ds Q h => by obtain ⟨_, rfl, _⟩ := h; rfl) (by decide) fun cdv A outer s H E hr => ?_
  refine ⟨_, (xss_one (xs_ret (xe_call CKW (hr.mono (by omega)) (xa_cons (xe_var (pv 0)) (xa_cons (xe_glob (by rfl) c_DEEPEST) xa_nil))))), fun ds Q h => ?_⟩
  obtain ⟨d, rfl, hs, q⟩ := h
  exact ⟨d, rfl, hs, q⟩
end

theorem Nm.sz {x : Str} (h : Nm x) : x.length ≤ 1000 := by rw [codes_len]; exact Nat.le_trans h.2.1 (by decide)
theorem fitFx : ∀ {fs : List (Str × Kd)} {f : Str × Kd}, fitF fs → f ∈ fs → f.2.Fit ∧ f.2.deep ≤ deepF fs
  | g :: r, f, h, hm => by
    rcases List.mem_cons.mp hm with rfl | hm
    · exact ⟨h.1.2, Nat.le_max_left _ _⟩
    · exact ⟨(fitFx h.2 hm).1, Nat.le_trans (fitFx h.2 hm).2 (Nat.le_max_right _ _)⟩
theorem fitKx : ∀ {ks : List Kd} {k : Kd}, fitK ks → k ∈ ks → k.Fit ∧ k.deep ≤ deepK ks
  | g :: r, f, h, hm => by
    rcases List.mem_cons.mp hm with rfl | hm
    · exact ⟨h.1, Nat.le_max_left _ _⟩
    · exact ⟨(fitKx h.2 hm).1, Nat.le_trans (fitKx h.2 hm).2 (Nat.le_max_right _ _)⟩
mutual
theorem Kd.xz : ∀ (k : Kd), k.Fit → k.x.Sz
  | .num w m, h => by simp only [Kd.x, Dx.Sz, szX, List.length_cons, List.length_nil]; exact ⟨by decide, by decide +kernel, trivial, trivial, trivial⟩
  | .row k n, h => by simp only [Kd.x, Dx.Sz, szX, List.length_cons, List.length_nil]; exact ⟨by decide, by decide +kernel, Kd.xz k h.1, trivial, trivial⟩
  | .rcd fs, h => by
    have := h.2.2.1
    simp only [Kd.x, Dx.Sz, szX, List.length_cons, List.length_nil]
    exact ⟨by decide, by decide +kernel, ⟨by rw [xF_map, List.length_map]; omega, xFz fs h.1⟩, trivial⟩
  | .cho ks, h => by
    have := h.2.2
    simp only [Kd.x, Dx.Sz, szX, List.length_cons, List.length_nil]
    exact ⟨by decide, by decide +kernel, ⟨by rw [xK_map, List.length_map]; omega, xKz ks h.1⟩, trivial⟩
theorem xFz : ∀ (fs : List (Str × Kd)), fitF fs → szX (xF fs)
  | [], _ => by simp only [xF, szX]
  | f :: r, h => by
    simp only [xF, szX, Dx.Sz, List.length_cons, List.length_nil]
    exact ⟨⟨by decide, Nat.le_trans h.1.1.sz (by decide), Kd.xz f.2 h.1.2, trivial⟩, xFz r h.2⟩
theorem xKz : ∀ (ks : List Kd), fitK ks → szX (xK ks)
  | [], _ => by simp only [xK, szX]
  | k :: r, h => by simp only [xK, szX]; exact ⟨Kd.xz k h.1, xKz r h.2⟩
end
theorem nmB_of {x : Str} (h : Nm x) : nmB x = true := by
  obtain ⟨h1, h2, h3⟩ := h
  unfold nmB
  rw [codes_len, decide_eq_true (by omega), decide_eq_true (by omega), Bool.true_and, Bool.true_and, List.all_eq_true]
  intro c hc
  obtain ⟨a, b⟩ := h3 c hc
  rw [decide_eq_true a, decide_eq_true b]
  rfl
theorem fld_xF : ∀ (fs : List (Str × Kd)) (seen : List Str), fitF fs → (fs.map (·.1)).Nodup → (∀ f ∈ fs, f.1 ∉ seen) → fldN seen (xF fs) = true
  | [], _, _, _, _ => by simp only [xF, fldN]
  | f :: r, seen, h, hn, hs => by
    rw [List.map_cons, List.nodup_cons] at hn
    simp only [xF, fldN]
    rw [nmB_of h.1.1, decide_eq_false (hs f List.mem_cons_self), Bool.not_false, Bool.true_and, Bool.true_and]
    refine fld_xF r _ h.2 hn.2 fun g hg => ?_
    intro z
    rcases List.mem_append.mp z with z | z
    · exact hs g (List.mem_cons_of_mem _ hg) z
    · rw [List.mem_singleton] at z
      exact hn.1 (z ▸ List.mem_map_of_mem (f := fun x : Str × Kd => x.1) hg)
theorem deepF_all (n : Nat) : ∀ fs : List (Str × Kd), (fs.all fun f => decide (f.2.deep ≤ n)) = decide (deepF fs ≤ n)
  | [] => by rw [List.all_nil]; exact (decide_eq_true (Nat.zero_le _)).symm
  | f :: r => by
    rw [List.all_cons, deepF_all n r, show deepF (f :: r) = max f.2.deep (deepF r) from rfl, ← Bool.decide_and]
    exact decide_eq_decide.mpr Nat.max_le.symm
theorem deepK_all (n : Nat) : ∀ ks : List Kd, (ks.all fun k => decide (k.deep ≤ n)) = decide (deepK ks ≤ n)
  | [] => by rw [List.all_nil]; exact (decide_eq_true (Nat.zero_le _)).symm
  | f :: r => by
    rw [List.all_cons, deepK_all n r, show deepK (f :: r) = max f.deep (deepK r) from rfl, ← Bool.decide_and]
    exact decide_eq_decide.mpr Nat.max_le.symm
theorem ik_x : ∀ (n : Nat) (kd : Kd), kd.Fit → ikN n kd.x = decide (kd.deep ≤ n)
  | 0, kd, hF => by
    have : ikN 0 kd.x = false := by cases kd <;> rfl
    rw [this, decide_eq_false (by have := Kd.deep_pos kd; omega)]
  | n + 1, .num w m, hF => by
    obtain ⟨a, b, c⟩ := hF
    rw [decide_eq_true (show (Kd.num w m).deep ≤ n + 1 by show 1 ≤ n + 1; omega)]
    simp only [Kd.x, ikN, if_true, wuD, whD, inM]
    rw [decide_eq_true a, decide_eq_true b]
    rcases c with rfl | rfl | rfl | rfl <;> rfl
  | n + 1, .row k m, hF => by
    obtain ⟨a, b, c⟩ := hF
    simp only [Kd.x, ikN, wuD]
    rw [if_neg (by decide), if_pos trivial, decide_eq_true b, decide_eq_true c, Bool.true_and, Bool.true_and, ik_x n k a]
    exact decide_eq_decide.mpr ⟨fun h => Nat.succ_le_succ h, fun h => Nat.le_of_succ_le_succ h⟩
  | n + 1, .rcd fs, hF => by
    obtain ⟨f1, f2, f3, f4⟩ := hF
    have hl : (xF fs).length = fs.length := by rw [xF_map, List.length_map]
    simp only [Kd.x, ikN, luD]
    rw [if_pos trivial, hl, decide_eq_true (by omega), decide_eq_true (by omega), Bool.true_and, Bool.true_and, fld_xF fs [] f1 f4 (fun f _ => List.not_mem_nil), Bool.true_and, xF_map, List.all_map]
    have : fs.all ((fun t => ikN n (sndD t)) ∘ fun f => Dx.tup [.str f.1, f.2.x]) = fs.all fun f => decide (f.2.deep ≤ n) := by
      rw [Bool.eq_iff_iff, List.all_eq_true, List.all_eq_true]
      constructor
      · intro h f hf
        rw [← ik_x n f.2 (fitFx f1 hf).1]
        exact h f hf
      · intro h f hf
        show ikN n f.2.x = true
        rw [ik_x n f.2 (fitFx f1 hf).1]
        exact h f hf
    rw [this, deepF_all]
    exact decide_eq_decide.mpr ⟨fun h => Nat.succ_le_succ h, fun h => Nat.le_of_succ_le_succ h⟩
  | n + 1, .cho ks, hF => by
    obtain ⟨f1, f2, f3⟩ := hF
    have hl : (xK ks).length = ks.length := by rw [xK_map, List.length_map]
    simp only [Kd.x, ikN, luD]
    rw [if_neg (by decide), if_pos trivial, hl, decide_eq_true (by omega), decide_eq_true (by omega), Bool.true_and, Bool.true_and, xK_map, List.all_map]
    have : ks.all ((ikN n) ∘ Kd.x) = ks.all fun k => decide (k.deep ≤ n) := by
      rw [Bool.eq_iff_iff, List.all_eq_true, List.all_eq_true]
      constructor
      · intro h f hf
        rw [← ik_x n f (fitKx f1 hf).1]
        exact h f hf
      · intro h f hf
        show ikN n f.x = true
        rw [ik_x n f (fitKx f1 hf).1]
        exact h f hf
    rw [this, deepK_all]
    exact decide_eq_decide.mpr ⟨fun h => Nat.succ_le_succ h, fun h => Nat.le_of_succ_le_succ h⟩

def gRK : GC := fun ds Q => ∃ k : Kd, ds = [.str k.ws] ∧ k.Fit ∧ k.deep ≤ 5 ∧ ∀ o : Ow, o.Own → o.d = k.x → Q (.ow o)
section
variable {P : Program} {w : World} {K : PySem.W.Frag} {mg : Str → Option Value} {base : Heap} {f : Addr} {fd : FuncData} {C_Reader : Addr} {n j : Nat}
set_option maxHeartbeats 16000000 in
theorem okx_rk (F : Fun K "read_kind" "read_kind" s_read_kind f fd) (CK_Reader : CalK P w K mg base 1 C_Reader ["self", "text"] (spO (gIN C_Reader))) (M_Reader : mg "Reader" = some (.ref C_Reader)) (CTD : Cal P w K mg base (j + 3) "taken_kind" ["reader", "depth"] (spO (gTD C_Reader 5))) (CM_take_end : CalM P w K mg base 1 C_Reader "take_end" ["self"] (spO (gTE C_Reader))) (CIK : Cal P w K mg base (j + 3) "is_kind" ["thing"] (spX gIK)) (c_DEEPEST : ∃ t, mg "DEEPEST" = some (.int 5 t)) : FnOk P w K mg base CX0 (j + 4) f fd ["text"] (spX gRK) := by
  refine fn_x F sc_read_kind (fun ds Q h => by obtain ⟨_, rfl, _⟩ := h; rfl) (by decide) fun cdv A outer s H E hr => ?_
  have hu1 := hu_of hr
  have hu0 := Nat.lt_of_succ_lt hu1
  refine ⟨_, (xss_cons (xs_setP fun F => ps_set (i := 1) sc_read_kind.nd rfl (Or.inl rfl) (XE.at (Ex := noEx) F (xe_makeO CK_Reader (hr.mono (by omega)) M_Reader (xa_cons (xe_var (pv 0)) xa_nil))))
    (xss_cons (xs_setP fun F => ps_set (i := 2) sc_read_kind.nd rfl (Or.inl rfl) (XE.at (Ex := noEx) F (xe_callO (i := 1) CTD (hr.mono (by omega)) (pv 1) (xa_cons (xe_glob (by rfl) c_DEEPEST) xa_nil))))
    (xss_cons (xs_expr (xe_methO0 (C := C_Reader) (i := 1) CM_take_end (hr.mono (by omega)) (pv 1)))
    (xss_cons (xs_if (xt_not (xt_val (xe_callPk (i := 2) CIK (hr.mono (by omega)) (pv 2) xa_nil))) (xss_one xs_no) xss_nil)
    (xss_one (xs_ret (xe_move (pv 2)))))))), fun ds Q h => ?_⟩
  obtain ⟨k, rfl, hF, hd, q⟩ := h
  have hl := w_100 hF hd
  have hwl := ws_len k
  intro a dx
  refine ⟨rfl, rfl, k.ws, rfl, rfl, ?_⟩
  refine ⟨rfl, rfl, k.ws, 0, 5, k, [], rfl, rfl, by omega, hF, hd, by omega, by rw [List.drop_zero, ws_codes, List.append_nil], (fun c l e => by cases e), Nat.zero_le _, fun o ho hod => ?_⟩
  have e0 : 0 + k.w.length = k.ws.length := by omega
  rw [e0]
  refine ⟨⟨rfl, rfl⟩, rfl, k.ws, rfl, rfl, by omega, ?_⟩
  have hik : ikN 5 o.d = true := by rw [hod, ik_x 5 k hF]; exact decide_eq_true hd
  refine ⟨⟨_, rfl⟩, o.d, rfl, by rw [hod]; exact Kd.xz k hF, ikN 5 o.d, rfl, ?_⟩
  refine (if_neg (show ¬ ((!(ikN 5 o.d)) = true) by rw [hik]; decide)).mpr ?_
  exact q o ho hod
end

structure Fx (K : PySem.W.Frag) (mg : Str → Option Value) (nm : Str) (st : Stmt) (ps : List Str) (f : Addr) (fd : FuncData) : Prop where
  F : Fun K nm nm st f fd
  b : Binds K fd ps []
  k : PySem.W.keepIn K (.ref f) = true
  m : mg nm = some (.ref f)
theorem Fx.cal {P : Program} {w : World} {K : PySem.W.Frag} {mg : Str → Option Value} {base : Heap} {nm : Str} {st : Stmt} {ps : List Str} {f : Addr} {fd : FuncData} {j : Nat} {sp : Sp} (x : Fx K mg nm st ps f fd) (h : FnOk P w K mg base CX0 j f fd ps sp) : Cal P w K mg base j nm ps sp := ⟨f, fd, h, x.b, x.k, x.m⟩
theorem fn_noB {P : Program} {w : World} {K : PySem.W.Frag} {mg : Str → Option Value} {base : Heap} {j : Nat} {f : Addr} {fd : FuncData} {ps : List Str} {g : GB} (no : ∀ l ds Q, ¬ g l ds Q) : FnOk P w K mg base CX0 j f fd ps (spB g) :=
  ⟨fun vs H Q E h => by obtain ⟨_, _, _, _, _, _, _, _, _, _, _, _, _, h3, _⟩ := h; exact (no _ _ _ h3).elim, fun A outer s H args us vs Q E hr he hb hv h => by obtain ⟨_, _, _, _, _, _, _, _, _, _, _, _, _, h3, _⟩ := h; exact (no _ _ _ h3).elim⟩
theorem fn_no {P : Program} {w : World} {K : PySem.W.Frag} {mg : Str → Option Value} {base : Heap} {j : Nat} {f : Addr} {fd : FuncData} {ps : List Str} {g : GC} (no : ∀ ds Q, ¬ g ds Q) : FnOk P w K mg base CX0 j f fd ps (spX g) :=
  ⟨fun vs H Q E h => by obtain ⟨_, ds, Qx, _, _, h, _⟩ := h; exact absurd h (no _ _), fun A outer s H args us vs Q E _ _ _ _ h => by obtain ⟨_, ds, Qx, _, _, h, _⟩ := h; exact absurd h (no _ _)⟩
structure Mx (K : PySem.W.Frag) (C : Addr) (m qual : Str) (st : Stmt) (ps : List Str) (f : Addr) (fd : FuncData) : Prop where
  F : Fun K m qual st f fd
  b : Binds K fd ps []
  h : Meth K C m f
  c : Cls K C
theorem Mx.cal {P : Program} {w : World} {K : PySem.W.Frag} {mg : Str → Option Value} {base : Heap} {C : Addr} {m qual : Str} {st : Stmt} {ps : List Str} {f : Addr} {fd : FuncData} {j : Nat} {sp : Sp} (M : Mx K C m qual st ps f fd) (h : FnOk P w K mg base CX0 j f fd ps sp) : CalM P w K mg base j C m ps sp := ⟨M.c, f, fd, M.h, h, M.b⟩
theorem fn_noO {P : Program} {w : World} {K : PySem.W.Frag} {mg : Str → Option Value} {base : Heap} {j : Nat} {f : Addr} {fd : FuncData} {ps : List Str} {g : GO} (no : ∀ C l ds Q, ¬ g C l ds Q) : FnOk P w K mg base CX0 j f fd ps (spO g) :=
  ⟨fun vs H Q E h => by obtain ⟨_, C, _, _, l, _, ds, Qx, _, _, _, _, _, h, _⟩ := h; exact absurd h (no _ _ _ _), fun A outer s H args us vs Q E _ _ _ _ h => by obtain ⟨_, C, _, _, l, _, ds, Qx, _, _, _, _, _, h, _⟩ := h; exact absurd h (no _ _ _ _)⟩
section
variable {P : Program} {w : World} {K : PySem.W.Frag} {mg : Str → Option Value} {base : Heap} {C_Reader : Addr}
theorem tdx_all {fTD fTI fTF fTG fTS : Addr} {dTD dTI dTF dTG dTS : FuncData} (TD : Fx K mg "taken_kind" s_taken_kind ["reader", "depth"] fTD dTD) (TI : Fx K mg "taken_inner_kind" s_taken_inner_kind ["reader", "depth"] fTI dTI) (TF : Fx K mg "taken_fields" s_taken_fields ["reader", "depth"] fTF dTF) (TG : Fx K mg "taken_field" s_taken_field ["reader", "depth"] fTG dTG) (TS : Fx K mg "taken_kinds" s_taken_kinds ["reader", "depth"] fTS dTS)
    (CM_passes : CalM P w K mg base 1 C_Reader "passes" ["self", "signs"] (spO (gPA C_Reader))) (CM_take : CalM P w K mg base 2 C_Reader "take" ["self", "signs"] (spO (gTA C_Reader))) (CM_take_run : CalM P w K mg base 1 C_Reader "take_run" ["self", "signs"] (spO (gTR C_Reader))) (CM_take_number : CalM P w K mg base 2 C_Reader "take_number" ["self", "most_figures"] (spO (gTN C_Reader)))
    (c_SMALL_LETTERS : ∃ t, mg "SMALL_LETTERS" = some (.str lets t)) (c_COMMA : ∃ t, mg "COMMA" = some (.str comS t)) (c_FIGURES_OF_A_KIND : ∃ t, mg "FIGURES_OF_A_KIND" = some (.int 2 t)) : ∀ n, FnOk P w K mg base CX0 (4 * n + 3) fTD dTD ["reader", "depth"] (spO (gTD C_Reader n))
  | 0 => okx_td (j := 0) TD.F (TI.cal (fn_noO fun C l ds Q h => by
      obtain ⟨_, _, _, _, k, _, _, _, _, _, _, h, _⟩ := h
      have := deep_one k
      omega)) CM_passes CM_take_number c_FIGURES_OF_A_KIND
  | n + 1 => by
    have ih := TD.cal (P := P) (w := w) (base := base) (tdx_all TD TI TF TG TS CM_passes CM_take CM_take_run CM_take_number c_SMALL_LETTERS c_COMMA c_FIGURES_OF_A_KIND n)
    have hg := TG.cal (okx_tg (j := 4 * n + 1) TG.F ih CM_take CM_take_run c_SMALL_LETTERS)
    have hf := TF.cal (okx_tf (j := 4 * n + 1) TF.F hg CM_take CM_passes c_COMMA)
    have hs := TS.cal ((okx_ts (j := 4 * n) TS.F ih CM_take CM_passes c_COMMA).mono (show 4 * n + 4 ≤ 4 * n + 1 + 4 by omega))
    have hi := TI.cal (okx_ti (j := 4 * n + 1) TI.F hf hs CM_take CM_passes CM_take_number c_FIGURES_OF_A_KIND)
    exact okx_td (j := 4 * n + 4) TD.F hi CM_passes CM_take_number c_FIGURES_OF_A_KIND
theorem knx_all {fKN fNM fTK : Addr} {dKN dNM dTK : FuncData} (KN : Fx K mg "_law_kind" s_law_kind ["deck", "depth"] fKN dKN) (NM : Fx K mg "_law_name" s_law_name ["deck", "k", "alike"] fNM dNM) (TK : Fx K mg "_law_take" s_law_take ["deck", "many"] fTK dTK) (m_range : mg "range" = none) (m_int : mg "int" = none) : ∀ n, FnOk P w K mg base CX0 (n + 2) fKN dKN ["deck", "depth"] (spB (gKN n))
  | 0 => fn_noB fun l ds Q h => by
      obtain ⟨d, _, _, h1, h2, _⟩ := h
      omega
  | n + 1 => okx_kn (j := n) KN.F (TK.cal (okx_tk TK.F)) (NM.cal (okx_nm4 NM.F (TK.cal (okx_tk TK.F)) m_range)) (KN.cal (knx_all KN NM TK m_range m_int n)) m_range m_int
theorem rmx_all {fRM fUP : Addr} {dRM dUP : FuncData} (RM : Fx K mg "_law_room" s_law_room ["kind"] fRM dRM) (UP : Fx K mg "_law_up" s_law_up ["number", "m"] fUP dUP) (m_max : mg "max" = none) : ∀ n, FnOk P w K mg base CX0 (n + 1) fRM dRM ["kind"] (spX (gRM n))
  | 0 => fn_no fun ds Q h => by
      obtain ⟨k, _, _, h1, _⟩ := h
      have := deep_one k
      omega
  | n + 1 => okx_rm (j := n) RM.F (RM.cal (rmx_all RM UP m_max n)) (UP.cal (okx_up UP.F)) m_max
theorem swx_all {fSW : Addr} {dSW : FuncData} (SW : Fx K mg "show_kind" s_show_kind ["kind"] fSW dSW) (m_str : mg "str" = none) (c_COMMA : ∃ t, mg "COMMA" = some (.str comS t)) : ∀ n, FnOk P w K mg base CX0 (n + 1) fSW dSW ["kind"] (spX (gSW n))
  | 0 => fn_no fun ds Q h => by
      obtain ⟨k, _, _, h1, _⟩ := h
      have := deep_one k
      omega
  | n + 1 => okx_sw (j := n + 1) SW.F (SW.cal (swx_all SW m_str c_COMMA n)) m_str c_COMMA
theorem wrx_all {fWR : Addr} {dWR : FuncData} (WR : Fx K mg "_law_kind_written" s_law_kind_written ["kind"] fWR dWR) (m_str : mg "str" = none) : ∀ n, FnOk P w K mg base CX0 (n + 1) fWR dWR ["kind"] (spX (gSW n))
  | 0 => fn_no fun ds Q h => by
      obtain ⟨k, _, _, h1, _⟩ := h
      have := deep_one k
      omega
  | n + 1 => okx_wr (j := n + 1) WR.F (WR.cal (wrx_all WR m_str n)) m_str
theorem dx_pos (d : Dx) : 1 ≤ d.deep := by cases d <;> simp only [Dx.deep] <;> omega
theorem cpx_all {fCP : Addr} {dCP : FuncData} (CP : Fx K mg "_law_copy" s_law_copy ["thing"] fCP dCP) (m_isinstance : mg "isinstance" = none) (m_list : mg "list" = none) (m_tuple : mg "tuple" = none) (m_dict : mg "dict" = none) : ∀ n, FnOk P w K mg base CX0 (n + 1) fCP dCP ["thing"] (spX (gCP n))
  | 0 => fn_no fun ds Q h => by
      obtain ⟨d, _, _, h1, _⟩ := h
      have := dx_pos d
      omega
  | n + 1 => ok_cp (j := n + 1) CP.F (CP.cal (cpx_all CP m_isinstance m_list m_tuple m_dict n)) m_isinstance m_list m_tuple m_dict
theorem akx_all {fAK : Addr} {dAK : FuncData} (AK : Fx K mg "_law_alike" s_law_alike ["found", "due"] fAK dAK) (m_isinstance : mg "isinstance" = none) (m_dict : mg "dict" = none) (m_tuple : mg "tuple" = none) (m_list : mg "list" = none) (m_len : mg "len" = none) (m_range : mg "range" = none) (m_str : mg "str" = none) (m_int : mg "int" = none) (m_bool : mg "bool" = none) : ∀ n, FnOk P w K mg base CX0 (n + 1) fAK dAK ["found", "due"] (spX (gAK4 n))
  | 0 => fn_no fun ds Q h => by
      obtain ⟨d, _, _, h1, _⟩ := h
      have := dx_pos d
      omega
  | n + 1 => okx_ak4 (j := n + 1) AK.F (AK.cal (akx_all AK m_isinstance m_dict m_tuple m_list m_len m_range m_str m_int m_bool n)) m_isinstance m_dict m_tuple m_list m_len m_range m_str m_int m_bool
end

mutual
theorem Kd.pl : ∀ k : Kd, k.Fit → k.x.Pl ∧ k.x.deep ≤ 3 * k.deep
  | .num w m, h => by
    simp only [Kd.x, Dx.Pl, plX, Dx.deep, deepX, Kd.deep, List.length_cons, List.length_nil]
    exact ⟨⟨by decide, trivial, trivial, trivial, trivial⟩, by decide⟩
  | .row k n, h => by
    simp only [Kd.Fit] at h
    obtain ⟨a, b⟩ := Kd.pl k h.1
    simp only [Kd.x, Dx.Pl, plX, Dx.deep, deepX, Kd.deep, List.length_cons, List.length_nil]
    refine ⟨⟨by decide, trivial, a, trivial, trivial⟩, ?_⟩
    omega
  | .rcd fs, h => by
    simp only [Kd.Fit] at h
    obtain ⟨a, b⟩ := plF fs h.1
    have hl : (xF fs).length ≤ 100000 := by rw [xF_len]; omega
    simp only [Kd.x, Dx.Pl, plX, Dx.deep, deepX, Kd.deep, List.length_cons, List.length_nil]
    refine ⟨⟨by decide, trivial, ⟨hl, a⟩, trivial⟩, ?_⟩
    omega
  | .cho ks, h => by
    simp only [Kd.Fit] at h
    obtain ⟨a, b⟩ := plK ks h.1
    have hl : (xK ks).length ≤ 100000 := by rw [xK_len]; omega
    simp only [Kd.x, Dx.Pl, plX, Dx.deep, deepX, Kd.deep, List.length_cons, List.length_nil]
    refine ⟨⟨by decide, trivial, ⟨hl, a⟩, trivial⟩, ?_⟩
    omega
theorem plF : ∀ fs : List (Str × Kd), fitF fs → plX (xF fs) ∧ deepX (xF fs) ≤ 3 * deepF fs + 1
  | [], h => ⟨by simp only [xF, plX], by simp only [xF, deepX]; omega⟩
  | f :: r, h => by
    simp only [fitF] at h
    obtain ⟨a, b⟩ := Kd.pl f.2 h.1.2
    obtain ⟨c, d⟩ := plF r h.2
    have e := deep_one f.2
    simp only [xF, plX, Dx.Pl, deepX, Dx.deep, deepF, List.length_cons, List.length_nil]
    refine ⟨⟨⟨by decide, trivial, a, trivial⟩, c⟩, ?_⟩
    omega
theorem plK : ∀ ks : List Kd, fitK ks → plX (xK ks) ∧ deepX (xK ks) ≤ 3 * deepK ks + 1
  | [], h => ⟨by simp only [xK, plX], by simp only [xK, deepX]; omega⟩
  | k :: r, h => by
    simp only [fitK] at h
    obtain ⟨a, b⟩ := Kd.pl k h.1
    obtain ⟨c, d⟩ := plK r h.2
    simp only [xK, plX, deepX, deepK]
    refine ⟨⟨a, c⟩, ?_⟩
    omega
end

section
variable {P : Program} {w : World} {K : PySem.W.Frag} {mg : Str → Option Value} {base : Heap}
structure Consts (K : PySem.W.Frag) (mg : Str → Option Value) : Prop where
  letters : ∃ t, mg "SMALL_LETTERS" = some (.str lets t)
  name : ∃ t, mg "LONGEST_NAME" = some (.int 8 t)
  wide : ∃ t, mg "WIDEST_NUMBER" = some (.int 8 t)
  mul : ∃ a, mg "MULTIPLES" = some (.ref a) ∧ ∀ H, SqT K H a [.int 1, .int 2, .int 4, .int 8]
  row : ∃ t, mg "LONGEST_ROW" = some (.int 20 t)
  fields : ∃ t, mg "MOST_FIELDS" = some (.int 8 t)
  choices : ∃ t, mg "MOST_CHOICES" = some (.int 6 t)
  deep : ∃ t, mg "DEEPEST" = some (.int 5 t)
theorem kwx_all {fKW fAF fAK : Addr} {dKW dAF dAK : FuncData} (KW : Fx K mg "is_kind_within" s_is_kind_within ["thing", "depth"] fKW dKW) (AF : Fx K mg "are_fields" s_are_fields ["things", "depth"] fAF dAF) (AK : Fx K mg "are_kinds" s_are_kinds ["things", "depth"] fAK dAK) (CHF : Cal P w K mg base 1 "has_form" ["thing", "word", "length"] (spX gHF)) (CWU : Cal P w K mg base 2 "is_whole_up_to" ["thing", "greatest"] (spX gWU)) (CLU : Cal P w K mg base 1 "is_list_up_to" ["thing", "longest"] (spX gLU)) (CIW : Cal P w K mg base 1 "is_whole" ["thing"] (spX gWB)) (CNM : Cal P w K mg base 1 "is_name" ["thing"] (spX gNM)) (C : Consts K mg) (m_isinstance : mg "isinstance" = none) (m_tuple : mg "tuple" = none) (m_len : mg "len" = none) (m_all : mg "all" = none) : ∀ n, FnOk P w K mg base CX0 (3 + 3 * n) fKW dKW ["thing", "depth"] (spX (gKW n))
  | 0 => (kwx_zero (j := 2) KW.F CHF CWU CLU CIW (KW.cal (fn_no fun ds Q h => h)) (AF.cal (fn_no fun ds Q h => h)) (AK.cal (fn_no fun ds Q h => h)) C.wide C.row C.fields C.choices C.mul (by decide))
  | n + 1 => by
    have ih := KW.cal (kwx_all KW AF AK CHF CWU CLU CIW CNM C m_isinstance m_tuple m_len m_all n)
    have GAK := AK.cal (okx_ak AK.F ih m_all)
    have GAF := AF.cal (okx_af AF.F CNM GAK m_isinstance m_tuple m_len (by omega))
    exact (okx_kw (j := 3 + 3 * n + 2) KW.F CHF CWU CLU CIW (ih.mono (by omega)) GAF (GAK.mono (by omega)) C.wide C.row C.fields C.choices C.mul (by omega)).mono (by omega)
end

theorem oks_get {G H : Hp} : ∀ {os : List Ow} {vs : List V}, OwOks G H os vs ↔ vs.length = os.length ∧ ∀ (j : Nat) o x, os[j]? = some o → vs[j]? = some x → OwOk G H o x
  | [], vs => by
    simp only [OwOks, List.length_nil, List.length_eq_zero_iff]
    exact ⟨fun h => ⟨h, fun j o x h1 _ => by simp at h1⟩, fun h => h.1⟩
  | o :: os, vs => by
    simp only [OwOks]
    constructor
    · rintro ⟨v, vr, rfl, h1, h2⟩
      obtain ⟨hl, h3⟩ := oks_get.mp h2
      refine ⟨by rw [List.length_cons, List.length_cons, hl], fun j o' x e1 e2 => ?_⟩
      cases j with
      | zero => cases e1; cases e2; exact h1
      | succ j => exact h3 j o' x (by simpa using e1) (by simpa using e2)
    · rintro ⟨hl, h⟩
      cases vs with
      | nil => simp at hl
      | cons v vr => exact ⟨v, vr, rfl, h 0 o v rfl rfl, oks_get.mpr ⟨by simpa using hl, fun j o' x e1 e2 => h (j + 1) o' x (by simpa using e1) (by simpa using e2)⟩⟩
theorem owDs_map : ∀ {os : List Ow}, owDs os = os.map Ow.d
  | [] => by simp only [owDs, List.map_nil]
  | o :: r => by simp only [owDs, List.map_cons, owDs_map]
theorem owFs_flat : ∀ {os : List Ow}, owFs os = os.flatMap Ow.fp
  | [] => by simp only [owFs, List.flatMap_nil]
  | o :: r => by simp only [owFs, List.flatMap_cons, owFs_flat]
theorem ownL_mem : ∀ {os : List Ow}, ownL os → ∀ o ∈ os, o.Own
  | [], _, o, h => by simp at h
  | p :: r, h, o, ho => by
    simp only [ownL] at h
    rcases List.mem_cons.mp ho with rfl | ho
    · exact h.1
    · exact ownL_mem h.2 o ho
theorem deep_in {ds : List Dx} {d : Dx} (h : d ∈ ds) : d.deep ≤ deepX ds := by
  induction ds with
  | nil => simp at h
  | cons e r ih =>
    simp only [deepX]
    rcases List.mem_cons.mp h with rfl | h
    · exact Nat.le_max_left _ _
    · exact Nat.le_trans (ih h) (Nat.le_max_right _ _)
theorem dp1 (d : Dx) : 1 ≤ d.deep := by cases d <;> simp only [Dx.deep] <;> omega
theorem fs_take_le {os : List Ow} {i : Nat} : (owFs (os.take i)).length ≤ (owFs os).length := by
  have e : owFs os = owFs (os.take i) ++ owFs (os.drop i) := by
    rw [owFs_flat, owFs_flat, owFs_flat, ← List.flatMap_append, List.take_append_drop]
  rw [e, List.length_append]
  omega
def spH (n : Nat) : Sp := fun vs H Q _ => ∃ (v : V) (o : Ow) (G : Hp), vs = [v] ∧ Same G H ∧ OwOk G H o v ∧ o.Own ∧ o.d.deep ≤ n ∧ o.fp.length ≤ 100000 ∧
  ∀ H' l, H l = none → Same H H' → H' l = some (.lst (o.fp.map V.ref)) → Q (.ref l) H'
theorem spH_zero {vs : List V} {H : Hp} {Q : VK} {E : XK} (h : spH 0 vs H Q E) : False := by
  obtain ⟨v, o, G, _, _, _, _, hd, _⟩ := h
  have := dp1 o.d
  omega
theorem same_upd {H : Hp} {a : Addr} {u : HO} (h : H a = none) : Same H (upd H a u) := fun b x hb => by
  rw [upd_ne fun z => by rw [z, h] at hb; cases hb]
  exact hb
section
variable {P : Program} {w : World} {K : PySem.W.Frag} {mg : Str → Option Value} {base : Heap} {f : Addr} {fd : FuncData} {n j : Nat}
set_option maxHeartbeats 16000000 in
theorem ok_ho (F : Fun K "_law_holders" "_law_holders" s_law_holders f fd) (CHO : Cal P w K mg base j "_law_holders" ["thing"] (spH n)) (m_isinstance : mg "isinstance" = none) (m_list : mg "list" = none) (m_tuple : mg "tuple" = none) (m_dict : mg "dict" = none) (m_sorted : mg "sorted" = none) : FnOk P w K mg base CX0 (j + 1) f fd ["thing"] (spH (n + 1)) := by
  refine F.ok sc_law_holders (fun vs H Q E h => ?_) (fun cdv A outer s H vs Q E hr h => ?_)
  · obtain ⟨_, _, _, rfl, _⟩ := h
    rfl
  have hu1 := hu_of hr
  have hu0 := Nat.lt_of_succ_lt hu1
  refine ⟨_, (pss_cons (ps_set (i := 1) sc_law_holders.nd rfl (Or.inl rfl) (pe_lst pa_nil))
    (pss_cons (ps_set (i := 2) sc_law_holders.nd rfl (Or.inl rfl) (pe_lst pa_nil))
    (pss_cons (ps_if (pt_val (pe_callB (call_isinstK (h := rfl)) rfl m_isinstance bt_isinstance (pa_cons (pv 0) (pa_cons (pe_bltn (v := .ty "dict") rfl m_dict bt_dict rfl) pa_nil)))) (pss_cons (ps_set (i := 2) sc_law_holders.nd rfl (Or.inl rfl) (pe_lst (pa_cons (pv 0) pa_nil)))
    (pss_one (ps_setC (i := 1) sc_law_holders.nd rfl rfl (dsc := defScope s_law_holders) (N := ["thing", "parts", "found", "part"]) (tgs := ["name"]) (outs := [0]) (N' := ["name", "thing"]) ⟨rfl, by decide +kernel, by decide +kernel, by decide +kernel, rfl, by decide +kernel, by decide +kernel, by decide +kernel⟩ (pi_list (pe_callB (call_sortedD rfl) rfl m_sorted bt_sorted (pa_cons (pv 0) pa_nil))) (fun _ _ _ _ _ => (pg_name (i := 0) (show (["name", "thing"] : List Str).Nodup by decide +kernel) rfl (Or.inl rfl) (.inr rfl))) (tgt_name (by decide)) (fun _ _ _ _ _ => pcs_nil) (fun _ _ _ _ _ => (pe_dget hu1 (pv 1) (pv 0) (fun _ _ => rfl)))))) pss_nil)
    (pss_cons (ps_if (PW.pt (pw_or (pt_val (pe_callB (call_isinstK (h := rfl)) rfl m_isinstance bt_isinstance (pa_cons (pv 0) (pa_cons (pe_bltn (v := .ty "list") rfl m_list bt_list rfl) pa_nil)))) (pw_or1 (pt_val (pe_callB (call_isinstK (h := rfl)) rfl m_isinstance bt_isinstance (pa_cons (pv 0) (pa_cons (pe_bltn (v := .ty "tuple") rfl m_tuple bt_tuple rfl) pa_nil))))))) (pss_one (ps_set (i := 1) sc_law_holders.nd rfl (Or.inl rfl) (pe_callTy call_list_of rfl m_list bt_list (pa_cons (pv 0) pa_nil)))) pss_nil)
    (pss_cons (ps_if (pt_val (pe_callB (call_isinstK (h := rfl)) rfl m_isinstance bt_isinstance (pa_cons (pv 0) (pa_cons (pe_bltn (v := .ty "list") rfl m_list bt_list rfl) pa_nil)))) (pss_one (ps_set (i := 2) sc_law_holders.nd rfl (Or.inl rfl) (pe_lst (pa_cons (pv 0) pa_nil)))) pss_nil)
    (pss_cons (ps_for PassesOwn.never rfl (pi_list (pv 1)) (pg_name (i := 3) sc_law_holders.nd rfl (Or.inl rfl)) (pss_one (ps_set (i := 2) sc_law_holders.nd rfl (Or.inl rfl) (pe_op op_cat (pv 2) (pe_cal CHO hr (pa_cons (pv 3) pa_nil))))))
    (pss_one (ps_ret (pv 2))))))))), ?_⟩
  obtain ⟨v, o, G, rfl, hG, ho, hown, hd, hl, q⟩ := h
  have loop : ∀ (H1 : Hp) (p0 f0 : Addr) (vs : List V) (os : List Ow) (pre : List Addr) (y3 : Option V), Same H H1 → H1 p0 = some (.lst vs) → H1 f0 = some (.lst (pre.map V.ref)) → H f0 = none → OwOks G H os vs → ownL os → deepX (owDs os) ≤ n → pre ++ owFs os = o.fp → tSeq (tFor (iList K (tVar 1)) (gName 3) (tAsg (tOp rCat (tVar 2) (tCall (spH n) [] E0 (tCons (tVar 3) tNil))) (gName 2))) (tRet (tVar 2)) { nx := fun _ H' => Q .non H', rt := Q } [some v, some (.ref p0), some (.ref f0), y3] H1 := fun H1 p0 f0 vs os pre y3 hS hp hf hfn hok hown hdp hfp => by
    obtain ⟨hvl, hoks⟩ := oks_get.mp hok
    refine ⟨.ref p0, rfl, p0, rfl, ⟨vs, SqL.of hp⟩, ?_⟩
    refine for_list (xs := vs) (fun i σ' H' => ∃ f1 y3, σ' = [some v, some (.ref p0), some (.ref f1), y3] ∧ Same H1 H' ∧ H' f1 = some (.lst ((pre ++ owFs (os.take i)).map V.ref)) ∧ H f1 = none) ⟨f0, y3, rfl, fun _ _ z => z, by rw [List.take_zero]; simp only [owFs, List.append_nil]; exact hf, hfn⟩ (fun i σ' H' hi ⟨f1, y3, e, k1, k2, k3⟩ => SqL.of (k1 _ _ hp)) (fun i x σ' H' hx ⟨f1, y3, e, k1, k2, k3⟩ => ?_) (fun σ' H' ⟨f1, y3, e, k1, k2, k3⟩ => ?_)
    · subst e
      have hil := (List.getElem?_eq_some_iff.mp hx).1
      obtain ⟨oi, hoi⟩ : ∃ oi, os[i]? = some oi := ⟨_, List.getElem?_eq_getElem (by omega)⟩
      have hm := List.mem_of_getElem? hoi
      have hokI := hoks i oi x hoi hx
      have hfl : (pre ++ owFs os).length ≤ 100000 := by rw [hfp]; exact hl
      have htk : owFs (os.take (i + 1)) = owFs (os.take i) ++ oi.fp := by
        rw [List.take_succ, hoi, owFs_flat, owFs_flat, List.flatMap_append]
        simp only [Option.toList, List.flatMap_cons, List.flatMap_nil, List.append_nil]
      have hle : (owFs (os.take (i + 1))).length ≤ (owFs os).length := fs_take_le
      have hsub : oi.fp.length ≤ (owFs os).length := by rw [htk, List.length_append] at hle; omega
      rw [List.length_append] at hfl
      refine ⟨.ref f1, rfl, x, rfl, x, oi, G, rfl, fun b u hb => k1 b u (hS b u (hG b u hb)), OwOk.mono (.of fun _ _ z => z) oi x (fun b hb => ?_) hokI, ownL_mem hown oi hm, Nat.le_trans (deep_in (by rw [owDs_map]; exact List.mem_map_of_mem hm)) hdp, by omega, fun H2 l hln hS2 hl2 => ?_⟩
      · obtain ⟨u, hu, _⟩ := OwOk.there oi x hokI b hb
        rw [hu]
        exact k1 b u (hS b u hu)
      · refine ⟨f1, l, _, _, rfl, rfl, hS2 _ _ k2, hl2, ?_, fun p hpn => ?_⟩
        · rw [List.length_map, List.length_map, List.length_append, sizeLine_eq]
          rw [htk, List.length_append] at hle
          omega
        · refine ⟨p, _, rfl, fun b u hb => (same_upd hpn) b u (hS2 b u (k1 b u hb)), by rw [upd_same, htk, ← List.append_assoc]; simp only [List.map_append], ?_⟩
          cases hz : H p with
          | none => rfl
          | some u => rw [hS2 p u (k1 p u (hS p u hz))] at hpn; cases hpn
    · subst e
      refine ⟨.ref f1, rfl, ?_⟩
      rw [hvl, List.take_length, hfp] at k2
      exact q H' f1 k3 (fun b u hb => k1 b u (hS b u hb)) k2
  refine ⟨by show 0 ≤ sizeLine; decide, fun p0 hp0 => ⟨by show 0 ≤ sizeLine; decide, fun f0 hf0 => ?_⟩⟩
  have hpf : p0 ≠ f0 := fun z => by rw [← z, upd_same] at hf0; cases hf0
  have hf0' : H f0 = none := by rw [upd_ne fun z => hpf z.symm] at hf0; exact hf0
  have hS : Same H (upd (upd H p0 (.lst [])) f0 (.lst [])) := fun b u hb => same_upd hf0 b u (same_upd hp0 b u hb)
  generalize hH1 : upd (upd H p0 (.lst [])) f0 (.lst []) = H1 at hS
  have h1p : H1 p0 = some (.lst []) := by rw [← hH1, upd_ne hpf, upd_same]
  have h1f : H1 f0 = some (.lst []) := by rw [← hH1, upd_same]
  cases o with
  | tr d =>
    simp only [Ow.Own] at hown
    rcases hown with ⟨i, rfl⟩ | ⟨x, rfl⟩
    · simp only [OwOk, IsX] at ho
      subst ho
      refine ⟨_, rfl, _, _, _, _, rfl, .int _, kit_int_dict, _, rfl, iteF ?_⟩
      refine ⟨_, rfl, _, _, _, _, rfl, .int _, kit_int_list, _, rfl, iteF ?_⟩
      refine ⟨_, rfl, _, _, _, _, rfl, .int _, kit_int_tuple, _, rfl, iteF ?_⟩
      refine ⟨_, rfl, _, _, _, _, rfl, .int _, kit_int_list, _, rfl, iteF ?_⟩
      exact loop H1 p0 f0 [] [] [] _ hS h1p h1f hf0' (by simp only [OwOks]) (by simp only [ownL]) (by simp only [owDs, deepX]; omega) (by simp only [owFs, Ow.fp, List.append_nil])
    · simp only [OwOk, IsX] at ho
      subst ho
      refine ⟨_, rfl, _, _, _, _, rfl, .str _, kit_str_dict, _, rfl, iteF ?_⟩
      refine ⟨_, rfl, _, _, _, _, rfl, .str _, kit_str_list, _, rfl, iteF ?_⟩
      refine ⟨_, rfl, _, _, _, _, rfl, .str _, kit_str_tuple, _, rfl, iteF ?_⟩
      refine ⟨_, rfl, _, _, _, _, rfl, .str _, kit_str_list, _, rfl, iteF ?_⟩
      exact loop H1 p0 f0 [] [] [] _ hS h1p h1f hf0' (by simp only [OwOks]) (by simp only [ownL]) (by simp only [owDs, deepX]; omega) (by simp only [owFs, Ow.fp, List.append_nil])
  | oi C a dx l => simp only [Ow.Own] at hown
  | od a l => simp only [Ow.Own] at hown
  | ol a os =>
    simp only [Ow.Own] at hown
    simp only [OwOk] at ho
    obtain ⟨rfl, vs, ha, hoks⟩ := ho
    simp only [Ow.d, Dx.deep] at hd
    have ha1 := hS _ _ ha
    refine ⟨_, rfl, _, _, _, _, rfl, .lst ha1, kit_list_dict, _, rfl, iteF ?_⟩
    refine ⟨_, rfl, _, _, _, _, rfl, .lst ha1, kit_self _, _, rfl, iteT ?_⟩
    refine iteT ?_
    refine ⟨_, rfl, a, vs, rfl, .inl (SqL.of ha1), fun l hl => ?_⟩
    have ha2 : upd H1 l (.lst vs) a = some (.lst vs) := same_upd hl _ _ ha1
    refine ⟨_, rfl, _, _, _, _, rfl, .lst ha2, kit_self _, _, rfl, iteT ?_⟩
    refine ⟨_, rfl, by show 1 ≤ sizeLine; decide, fun f1 hf1 => ?_⟩
    have hS2 : Same H (upd (upd H1 l (.lst vs)) f1 (.lst [.ref a])) := fun b u hb => same_upd hf1 b u (same_upd hl b u (hS b u hb))
    have hlf : l ≠ f1 := fun z => by rw [← z, upd_same] at hf1; cases hf1
    refine loop _ l f1 vs os [a] _ hS2 (by rw [upd_ne hlf, upd_same]) (by rw [upd_same]; rfl) ?_ hoks hown (by omega) (by simp only [Ow.fp]; rfl)
    cases hz : H f1 with
    | none => rfl
    | some u => rw [same_upd hl f1 u (hS f1 u hz)] at hf1; cases hf1
  | ot os =>
    simp only [Ow.Own] at hown
    simp only [OwOk] at ho
    obtain ⟨a, vs, rfl, ha, hoks⟩ := ho
    simp only [Ow.d, Dx.deep] at hd
    have ha1 := hS _ _ (hG _ _ ha)
    refine ⟨_, rfl, _, _, _, _, rfl, .tup ha1, kit_tuple_dict, _, rfl, iteF ?_⟩
    refine ⟨_, rfl, _, _, _, _, rfl, .tup ha1, kit_tuple_list, _, rfl, iteF ?_⟩
    refine ⟨_, rfl, _, _, _, _, rfl, .tup ha1, kit_self _, _, rfl, iteT ?_⟩
    refine ⟨_, rfl, a, vs, rfl, .inr (SqT.of ha1), fun l hl => ?_⟩
    have ha2 : upd H1 l (.lst vs) a = some (.tup vs) := same_upd hl _ _ ha1
    refine ⟨_, rfl, _, _, _, _, rfl, .tup ha2, kit_tuple_list, _, rfl, iteF ?_⟩
    have hS2 : Same H (upd H1 l (.lst vs)) := fun b u hb => same_upd hl b u (hS b u hb)
    exact loop _ l f0 vs os [] _ hS2 upd_same (same_upd hl _ _ h1f) hf0' hoks hown (by omega) (by simp only [Ow.fp, List.nil_append])
end

mutual
theorem own_there {G H : Hp} : ∀ (o : Ow) (v : V), o.Own → o.d.Pl → OwOk G H o v → ∀ b ∈ o.fp, ∃ xs, H b = some (.lst xs) ∧ xs.length ≤ 100000
  | .tr d, v, _, _, _, b, hb => by simp only [Ow.fp, List.not_mem_nil] at hb
  | .od a l, v, h, _, _, b, hb => by simp only [Ow.Own] at h
  | .oi C a dx l, v, h, _, _, b, hb => by simp only [Ow.Own] at h
  | .ol a l, v, h, hp, ho, b, hb => by
    simp only [Ow.Own] at h
    simp only [Ow.d, Dx.Pl] at hp
    simp only [OwOk] at ho
    obtain ⟨_, vs, ha, hos⟩ := ho
    simp only [Ow.fp] at hb
    rcases List.mem_cons.mp hb with rfl | hb
    · refine ⟨vs, ha, ?_⟩
      rw [(oks_get.mp hos).1]
      have := hp.1
      rw [owDs_map, List.length_map] at this
      exact this
    · exact owns_there l vs h hp.2 hos b hb
  | .ot l, v, h, hp, ho, b, hb => by
    simp only [Ow.Own] at h
    simp only [Ow.d, Dx.Pl] at hp
    simp only [OwOk] at ho
    obtain ⟨a, vs, _, _, hos⟩ := ho
    simp only [Ow.fp] at hb
    exact owns_there l vs h hp.2 hos b hb
theorem owns_there {G H : Hp} : ∀ (l : List Ow) (vs : List V), ownL l → plX (owDs l) → OwOks G H l vs → ∀ b ∈ owFs l, ∃ xs, H b = some (.lst xs) ∧ xs.length ≤ 100000
  | [], vs, _, _, _, b, hb => by simp only [owFs, List.not_mem_nil] at hb
  | o :: r, vs, h, hp, ho, b, hb => by
    simp only [ownL] at h
    simp only [owDs, plX] at hp
    simp only [OwOks] at ho
    obtain ⟨v, vr, _, h1, h2⟩ := ho
    simp only [owFs] at hb
    rcases List.mem_append.mp hb with hb | hb
    · exact own_there o v h.1 hp.1 h1 b hb
    · exact owns_there r vr h.2 hp.2 h2 b hb
end
def spA (n : Nat) : Sp := fun vs H Q _ => ∃ (v : V) (o : Ow) (G : Hp), vs = [v] ∧ Same G H ∧ OwOk G H o v ∧ o.Own ∧ o.d.Pl ∧ o.fp.Nodup ∧ o.d.deep ≤ n ∧ o.fp.length ≤ 100000 ∧
  ∀ H', (∀ b u, b ∉ o.fp → H b = some u → H' b = some u) → (∀ b ∈ o.fp, ∃ u, H' b = some u) → Q (.bl true) H'
section
variable {P : Program} {w : World} {K : PySem.W.Frag} {mg : Str → Option Value} {base : Heap} {f : Addr} {fd : FuncData} {n j : Nat}
set_option maxHeartbeats 16000000 in
theorem ok_ap (F : Fun K "_law_apart" "_law_apart" s_law_apart f fd) (CHO : Cal P w K mg base j "_law_holders" ["thing"] (spH n)) (m_isinstance : mg "isinstance" = none) (m_list : mg "list" = none) (m_len : mg "len" = none) (m_range : mg "range" = none) (m_str : mg "str" = none) : FnOk P w K mg base CX0 (j + 1) f fd ["told"] (spA n) := by
  refine F.ok sc_law_apart (fun vs H Q E h => ?_) (fun cdv A outer s H vs Q E hr h => ?_)
  · obtain ⟨_, _, _, rfl, _⟩ := h
    rfl
  have hu1 := hu_of hr
  have hu0 := Nat.lt_of_succ_lt hu1
  refine ⟨_, (pss_cons (ps_set (i := 1) sc_law_apart.nd rfl (Or.inr rfl) (pe_cal CHO hr (pa_cons (pv 0) pa_nil)))
    (pss_cons (ps_set (i := 2) sc_law_apart.nd rfl (Or.inr rfl) (pe_comp (dsc := defScope s_law_apart) (N := ["told", "holders", "sizes", "k"]) (tgs := ["one"]) (outs := []) (N' := ["one"]) ⟨rfl, by decide +kernel, by decide +kernel, by decide +kernel, rfl, by decide +kernel, by decide +kernel, by decide +kernel⟩ (pi_list (pv 1)) (fun _ _ _ _ _ => (pg_name (i := 0) (show (["one"] : List Str).Nodup by decide +kernel) rfl (Or.inl rfl) (.inr rfl))) (tgt_name (by decide)) (fun _ _ _ _ _ => pcs_nil) (fun _ _ _ _ _ => (pe_callB (call_lenK K) rfl m_len PySem.boot_len (pa_cons (pv 0) pa_nil)))))
    (pss_cons (ps_for PassesOwn.never rfl (pi_range1 rfl m_range (pa_cons (pe_callB call_len_seq rfl m_len PySem.boot_len (pa_cons (pv 1) pa_nil)) pa_nil)) (pg_name (i := 3) sc_law_apart.nd rfl (Or.inl rfl)) (pss_one (ps_if (pt_val (pe_callB (call_isinstK (h := rfl)) rfl m_isinstance bt_isinstance (pa_cons (pe_ix ix_list (pv 1) (pv 3) (fun _ _ => rfl)) (pa_cons (pe_bltn (v := .ty "list") rfl m_list bt_list rfl) pa_nil)))) (pss_one (ps_expr (pe_bm PySem.F.plainAttrs_list PySem.F.slot_list_append PySem.F.type_list_append mt_append (pe_ix ix_list (pv 1) (pv 3) (fun _ _ => rfl)) (pa_cons (pv 3) pa_nil)))) (pss_one (ps_dput hu1 (pe_ix ix_list (pv 1) (pv 3) (fun _ _ => rfl)) (pe_callTy call_strI rfl m_str bt_str (pa_cons (pv 3) pa_nil)) (pv 3) rfl)))))
    (pss_one (ps_ret (pe_cmpR (op_eqNil hu0) (pe_comp (dsc := defScope s_law_apart) (N := ["told", "holders", "sizes", "k"]) (tgs := ["k"]) (outs := [1, 2]) (N' := ["k", "holders", "sizes"]) ⟨rfl, by decide +kernel, by decide +kernel, by decide +kernel, rfl, by decide +kernel, by decide +kernel, by decide +kernel⟩ (pi_range1 rfl m_range (pa_cons (pe_callB call_len_seq rfl m_len PySem.boot_len (pa_cons (pv 1) pa_nil)) pa_nil)) (fun _ _ _ _ _ => (pg_name (i := 0) (show (["k", "holders", "sizes"] : List Str).Nodup by decide +kernel) rfl (Or.inl rfl) (.inr rfl))) (tgt_name (by decide)) (fun _ _ _ _ _ => (pcs_one (pt_cmpR op_ne (pe_callB (call_lenK K) rfl m_len PySem.boot_len (pa_cons (pe_ix (ix_listK K) (pv 1) (pv 0) (fun _ _ => rfl)) pa_nil)) (pe_op op_add (pe_ix (ix_listK K) (pv 2) (pv 0) (fun _ _ => rfl)) pe_int) (nomark _)))) (fun _ _ _ _ _ => (pv 0))) (pe_lst pa_nil) (nomark _))))))), ?_⟩
  obtain ⟨v, o, G, rfl, hG, ho, hown, hpl, hnd, hd, hl, q⟩ := h
  refine ⟨v, rfl, v, o, G, rfl, hG, ho, hown, hd, hl, fun H1 l hln hS hl1 => ?_⟩
  obtain ⟨fp, hfp⟩ : ∃ fp, fp = o.fp := ⟨_, rfl⟩
  obtain ⟨xsOf, hxs⟩ : ∃ xsOf : Addr → List V, ∀ b ∈ fp, H b = some (.lst (xsOf b)) ∧ (xsOf b).length ≤ 100000 := by
    have h0 := own_there o v hown hpl ho
    refine ⟨fun b => match H b with | some (.lst xs) => xs | _ => [], fun b hb => ?_⟩
    obtain ⟨xs, e, hle⟩ := h0 b (hfp ▸ hb)
    dsimp only
    rw [e]
    exact ⟨rfl, hle⟩
  rw [← hfp] at hnd hl q hl1
  clear hd ho hown hpl hfp
  have hlf : l ∉ fp := fun z => by rw [(hxs l z).1] at hln; cases hln
  have hvl : (fp.map V.ref).length = fp.length := List.length_map _
  refine ⟨.ref l, rfl, l, rfl, ⟨_, SqL.of hl1⟩, ?_⟩
  refine comp_list (xs := fp.map V.ref) (fun i acc H' => H' = H1 ∧ acc = (fp.take i).map fun b => V.int ((xsOf b).length : Nat)) (by omega) ⟨rfl, rfl⟩ (fun i acc H' hi ⟨e1, e2⟩ => ⟨by rw [e1]; exact SqL.of hl1, by rw [e2, List.length_map, List.length_take]; omega⟩) (fun i x acc H' hx ⟨e1, e2⟩ => ?_) (fun acc H' ⟨e1, e2⟩ => ?_)
  · subst e1
    rw [List.getElem?_map] at hx
    obtain ⟨b, hb, rfl⟩ := Option.map_eq_some_iff.mp hx
    unfold gName
    refine yesT ?_
    refine ⟨.ref b, rfl, b, xsOf b, rfl, .inl (SqL.of (hS _ _ (hxs b (List.mem_of_getElem? hb)).1)), rfl, ?_⟩
    rw [e2, List.take_succ, hb, List.map_append]
    rfl
  rw [hvl, List.take_length] at e2
  subst e1 e2
  intro s hs
  have hS1 := same_upd (u := .lst (fp.map fun b => V.int ((xsOf b).length : Nat))) hs
  have h2s : upd H' s (.lst (fp.map fun b => V.int ((xsOf b).length : Nat))) s = _ := upd_same
  generalize hH2 : upd H' s (.lst (fp.map fun b => V.int ((xsOf b).length : Nat))) = H2 at hS1 h2s
  have hsf : s ∉ fp := fun z => by rw [hS _ _ (hxs s z).1] at hs; cases hs
  have h2l : H2 l = some (.lst (fp.map V.ref)) := hS1 _ _ hl1
  have at0 : ∀ {α : Type} {xs : List α} {i : Nat} {x : α}, xs[i]? = some x → atI xs ((0 : Int) + (i : Nat)) = some x := fun h => by rw [Int.zero_add]; exact atI_nat h
  refine ⟨.ref l, rfl, l, fp.map V.ref, rfl, .inl (SqL.of h2l), _, rfl, by omega, by omega, ?_⟩
  have eN : ((fp.map V.ref).length : Int).toNat = fp.length := by rw [hvl]; exact Int.toNat_natCast _
  show _
  rw [eN]
  refine for_range (n := fp.length) (fun i σ' Hc => (∃ y, σ' = [some v, some (.ref l), some (.ref s), y]) ∧ (∀ b u, b ∉ fp → H2 b = some u → Hc b = some u) ∧ ∀ (t : Nat) b, fp[t]? = some b → Hc b = some (.lst (if t < i then xsOf b ++ [.int t] else xsOf b))) ⟨⟨_, rfl⟩, fun _ _ _ z => z, fun t b hb => by rw [if_neg (Nat.not_lt_zero _)]; exact hS1 _ _ (hS _ _ (hxs b (List.mem_of_getElem? hb)).1)⟩ (fun i σ' Hc hi ⟨⟨y, e⟩, k1, k2⟩ => ?_) (fun σ' Hc ⟨⟨y, e⟩, k1, k2⟩ => ?_)
  · subst e
    obtain ⟨b, hb⟩ : ∃ b, fp[i]? = some b := ⟨_, List.getElem?_eq_getElem hi⟩
    have hbm := List.mem_of_getElem? hb
    have hat : atI (fp.map V.ref) ((0 : Int) + (i : Nat)) = some (.ref b) := at0 (by rw [List.getElem?_map, hb]; rfl)
    have hcl := k1 _ _ hlf h2l
    have hcb := k2 i b hb
    rw [if_neg (Nat.lt_irrefl _)] at hcb
    refine ⟨.ref l, rfl, .int (0 + (i : Nat)), rfl, l, _, _, .ref b, rfl, rfl, SqL.of hcl, hat, _, _, _, _, rfl, .lst hcb, kit_self _, _, rfl, iteT ?_⟩
    refine ⟨.ref l, rfl, .int (0 + (i : Nat)), rfl, l, _, _, .ref b, rfl, rfl, SqL.of hcl, hat, ?_⟩
    refine ⟨.inl ⟨rfl, _, SqL.of hcb⟩, .int (0 + (i : Nat)), rfl, b, xsOf b, .int (0 + (i : Nat)), rfl, rfl, hcb, by rw [sizeLine_eq]; have := (hxs b hbm).2; omega, ?_⟩
    refine ⟨⟨_, rfl⟩, fun c u hc hu => by rw [upd_ne (show c ≠ b from fun z => hc (z ▸ hbm))]; exact k1 c u hc hu, fun t c hc => ?_⟩
    by_cases z : c = b
    · subst z
      have e := (List.getElem?_inj hi hnd).mp (hb.trans hc.symm)
      subst e
      rw [upd_same, if_pos (Nat.lt_succ_self _), Int.zero_add]
    · rw [upd_ne z, k2 t c hc]
      have hti : t ≠ i := fun e => z (by subst e; rw [hc] at hb; exact Option.some.inj hb)
      by_cases hlt : t < i
      · rw [if_pos hlt, if_pos (by omega)]
      · rw [if_neg hlt, if_neg (by omega)]
  · subst e
    have hcl := k1 _ _ hlf h2l
    have hcs := k1 _ _ hsf h2s
    refine ⟨.ref l, rfl, l, fp.map V.ref, rfl, .inl (SqL.of hcl), _, rfl, by omega, by omega, ?_⟩
    show _
    rw [eN]
    refine comp_range (n := fp.length) (fun i acc H' => H' = Hc ∧ acc = []) (by omega) ⟨rfl, rfl⟩ (fun i acc H' hi ⟨e1, e2⟩ => by rw [e2]; exact Nat.zero_le _) (fun i acc H' hi ⟨e1, e2⟩ => ?_) (fun acc H' ⟨e1, e2⟩ => ?_)
    · subst e1 e2
      obtain ⟨b, hb⟩ : ∃ b, fp[i]? = some b := ⟨_, List.getElem?_eq_getElem hi⟩
      have hat : atI (fp.map V.ref) ((0 : Int) + (i : Nat)) = some (.ref b) := at0 (by rw [List.getElem?_map, hb]; rfl)
      have hat2 : atI (fp.map fun b => V.int ((xsOf b).length : Nat)) ((0 : Int) + (i : Nat)) = some (.int ((xsOf b).length : Nat)) := at0 (by rw [List.getElem?_map, hb]; rfl)
      have hcb := k2 i b hb
      rw [if_pos hi] at hcb
      refine ⟨.ref l, rfl, .int (0 + (i : Nat)), rfl, l, _, _, .ref b, rfl, rfl, SqL.of hcl, hat, b, _, rfl, .inl (SqL.of hcb), ?_⟩
      refine ⟨.ref s, rfl, .int (0 + (i : Nat)), rfl, s, _, _, _, rfl, rfl, SqL.of hcs, hat2, _, _, rfl, rfl, rfl, _, rfl, ?_⟩
      rw [List.length_append, show ([V.int (i : Nat)].length) = 1 from rfl, decide_eq_true (show V.int (((xsOf b).length + 1 : Nat) : Int) = V.int (((xsOf b).length : Int) + 1) from by rw [Int.natCast_add]; rfl)]
      exact iteF ⟨rfl, rfl⟩
    · subst e1 e2
      intro r hr
      refine ⟨by show 0 ≤ sizeLine; decide, fun p hp => ?_⟩
      have hrp : r ≠ p := fun z => by rw [← z, upd_same] at hp; cases hp
      refine ⟨r, p, [], rfl, rfl, SqL.of (by rw [upd_ne hrp, upd_same]), SqL.of upd_same, ?_⟩
      refine q _ (fun b u hb hu => same_upd hp _ _ (same_upd hr _ _ (k1 b u hb (hS1 _ _ (hS _ _ hu))))) fun b hb => ?_
      obtain ⟨t, ht⟩ := List.getElem?_of_mem hb
      exact ⟨_, same_upd hp _ _ (same_upd hr _ _ (k2 t b ht))⟩
end

mutual
def Dx.tt : Dx → Dt
  | .int i => .int i
  | .str x => .str x
  | .tup l => .tup (ttX l)
  | .lst l => .lst (ttX l)
  | _ => .int 0
def ttX : List Dx → List Dt
  | [] => []
  | d :: r => d.tt :: ttX r
end
mutual
theorem isd_tt {G H : Hp} (e : Same G H) : ∀ (d : Dx) (x : V), d.Pl → IsX G d x → IsD H d.tt x
  | .int i, x, _, h => by simp only [IsX] at h; simp only [Dx.tt, IsD]; exact h
  | .str i, x, _, h => by simp only [IsX] at h; simp only [Dx.tt, IsD]; exact h
  | .tup l, x, hp, h => by
    simp only [Dx.Pl] at hp
    obtain ⟨p, vs, rfl, h1, h2⟩ := h.tup_eq
    simp only [Dx.tt, IsD]
    exact ⟨p, vs, rfl, e _ _ h1, isds_tt e l vs hp.2 h2⟩
  | .lst l, x, hp, h => by
    simp only [Dx.Pl] at hp
    obtain ⟨p, vs, rfl, h1, h2⟩ := h.lst_eq
    simp only [Dx.tt, IsD]
    exact ⟨p, vs, rfl, e _ _ h1, isds_tt e l vs hp.2 h2⟩
  | .bl _, _, hp, _ => by simp only [Dx.Pl] at hp
  | .non, _, hp, _ => by simp only [Dx.Pl] at hp
  | .dic _, _, hp, _ => by simp only [Dx.Pl] at hp
  | .scr _ _, _, hp, _ => by simp only [Dx.Pl] at hp
  | .ins _ _, _, hp, _ => by simp only [Dx.Pl] at hp
  | .exc _, _, hp, _ => by simp only [Dx.Pl] at hp
theorem isds_tt {G H : Hp} (e : Same G H) : ∀ (l : List Dx) (vs : List V), plX l → All2 (IsX G) l vs → IsDs H (ttX l) vs
  | [], vs, _, h => by simp only [ttX, IsDs]; exact h
  | d :: r, vs, hp, h => by
    simp only [plX] at hp
    obtain ⟨v, vr, rfl, h1, h2⟩ := h
    simp only [ttX, IsDs]
    exact ⟨v, vr, rfl, isd_tt e d v hp.1 h1, isds_tt e r vr hp.2 h2⟩
end
mutual
theorem tt_deep : ∀ d : Dx, d.Pl → d.tt.deep ≤ d.deep
  | .int i, _ => by simp only [Dx.tt, Dt.deep, Dx.deep]; omega
  | .str i, _ => by simp only [Dx.tt, Dt.deep, Dx.deep]; omega
  | .tup l, hp => by simp only [Dx.Pl] at hp; have := ttX_deep l hp.2; simp only [Dx.tt, Dt.deep, Dx.deep]; omega
  | .lst l, hp => by simp only [Dx.Pl] at hp; have := ttX_deep l hp.2; simp only [Dx.tt, Dt.deep, Dx.deep]; omega
  | .bl _, hp => by simp only [Dx.Pl] at hp
  | .non, hp => by simp only [Dx.Pl] at hp
  | .dic _, hp => by simp only [Dx.Pl] at hp
  | .scr _ _, hp => by simp only [Dx.Pl] at hp
  | .ins _ _, hp => by simp only [Dx.Pl] at hp
  | .exc _, hp => by simp only [Dx.Pl] at hp
theorem ttX_deep : ∀ l : List Dx, plX l → deepD (ttX l) ≤ deepX l
  | [], _ => by simp only [ttX, deepD, deepX]; omega
  | d :: r, hp => by simp only [plX] at hp; have h1 := tt_deep d hp.1; have h2 := ttX_deep r hp.2; simp only [ttX, deepD, deepX]; omega
end
def neT : G2 := fun a b Q => a = b ∧ a.Pl ∧ a.deep ≤ 60 ∧ (∃ l, a = .tup l) ∧ Q (.tr (.bl false))
theorem ox_neT : OpX (rSame false) neT := by
  intro F P H a b x y Q Qx R ha hb g k
  obtain ⟨rfl, hp, hd, ⟨l, rfl⟩, g⟩ := g
  refine ⟨(Dx.tup l).tt, Nat.le_trans (tt_deep _ hp) hd, .inr ⟨ttX l, by simp only [Dx.tt]⟩, isd_tt R.hv _ _ hp ha, isd_tt R.hv _ _ hp hb, k _ _ H (R.add (IsX.of_bl _)) g⟩
mutual
def Dx.nl : Dx → Nat
  | .tup l => nlX l
  | .lst l => 1 + nlX l
  | _ => 0
def nlX : List Dx → Nat
  | [] => 0
  | d :: r => d.nl + nlX r
end
mutual
theorem own_nl : ∀ o : Ow, o.Own → o.fp.length = o.d.nl
  | .tr d, h => by
    simp only [Ow.Own] at h
    rcases h with ⟨i, rfl⟩ | ⟨x, rfl⟩ <;> simp only [Ow.fp, Ow.d, Dx.nl, List.length_nil]
  | .ol a l, h => by simp only [Ow.Own] at h; simp only [Ow.fp, Ow.d, Dx.nl, List.length_cons, ownL_nl l h]; omega
  | .ot l, h => by simp only [Ow.Own] at h; simp only [Ow.fp, Ow.d, Dx.nl, ownL_nl l h]
  | .od _ _, h => by simp only [Ow.Own] at h
  | .oi _ _ _ _, h => by simp only [Ow.Own] at h
theorem ownL_nl : ∀ l : List Ow, ownL l → (owFs l).length = nlX (owDs l)
  | [], _ => by simp only [owFs, owDs, nlX, List.length_nil]
  | o :: r, h => by simp only [ownL] at h; simp only [owFs, owDs, nlX, List.length_append, own_nl o h.1, ownL_nl r h.2]
end
def xApart (n i : Nat) : XT := fun ρ Q => ∃ o, ρ[i]? = some (.v (.ow o)) ∧ o.Own ∧ o.d.Pl ∧ o.d.deep ≤ n ∧ o.d.nl ≤ 100000 ∧ Q (.tr (.bl true)) (ρ.set i .un)
theorem xe_apart {X : Cx} {Ex : ExT} {n i j : Nat} {x : Str} {p p1 pos : Pos} (C : Cal X.prog X.w X.K X.mg X.base j "_law_apart" ["told"] (spA n)) (hr : Room j X.A) (hv : PE X (.Name x p1) (tVar i)) (hg : Gl X "_law_apart" := by rfl) (hdb : (("_law_apart" : Str) == ("__debug__" : Str)) = false := by decide)
    (he : starEach [.Name x p1] X.env = (false, eval (.Name x p1) X.env) :: starEach [] X.env := by rfl) (hpl : (backTo pos (starEach [] X.env)).any (·.1) = false := by rfl) :
    XE X Ex (.Call (.Name "_law_apart" p) [.Name x p1] [] pos) (xApart n i) := fun F => (pe_cal C hr (pa_cons hv pa_nil he) hg hdb he hpl).weak fun σ H Q => by
  rintro ⟨ρ, fr, Qx, E, ⟨o, hsl, hown, hp, hd, hn, q⟩, k⟩
  obtain ⟨v, hv, hi, R⟩ := eok_slot E hsl
  obtain ⟨v, rfl, hx⟩ := R.head
  obtain ⟨y, ey, hok⟩ := R.ok _ List.mem_cons_self
  cases ey
  have eA : owns [((.v (.ow o), some v) : Rw)] = o.fp := by simp only [owns, List.flatMap_cons, List.flatMap_nil, ownA, List.append_nil]
  have R' : Rep F ([((.v (.ow o), some v) : Rw)] ++ ((ρ.zip σ).eraseIdx i ++ fr)) H := R
  have hnd := R'.nd
  rw [owns_app, eA] at hnd
  refine ⟨v, hv, v, o, _, rfl, R.hv, hok, hown, hp, (List.nodup_append.mp hnd).1, hd, by rw [own_nl o hown]; exact hn, fun H' k1 k2 => ?_⟩
  have R2 : Rep F (([] : List Rw) ++ ((ρ.zip σ).eraseIdx i ++ fr)) H' := R'.alter List.nodup_nil (fun a ha => by simp [owns] at ha) (fun r hr => by rw [List.mem_singleton.mp hr]; exact ⟨_, rfl⟩) (fun r hr => by simp at hr) (fun b u hb hu => k1 b u (by rw [eA] at hb; exact hb) hu) (fun b hb => k2 b (by rw [eA] at hb; exact hb)) (fun r hr => by simp at hr)
  refine k _ _ H' (ρ.set i .un) (EOk.back (by rw [List.length_set]; exact E.len) (Rep.add ?_ (IsX.of_bl _))) q
  exact ((show Rep F ((ρ.zip σ).eraseIdx i ++ fr) H' from R2).addU (x := some v)).perm (((zip_put' E.len hi hv).append_right fr).symm)

theorem nine_pos (n : Nat) : 1 ≤ 9 ^ n := Nat.pow_pos (by decide)
mutual
theorem Kd.nlb : ∀ k : Kd, k.Fit → k.x.nl + 1 ≤ 9 ^ k.deep
  | .num w m, h => by simp only [Kd.x, Dx.nl, nlX, Kd.deep]; decide
  | .row k n, h => by
    simp only [Kd.Fit] at h
    have a := Kd.nlb k h.1
    have b := nine_pos k.deep
    simp only [Kd.x, Dx.nl, nlX, Kd.deep, Nat.pow_succ]
    omega
  | .rcd fs, h => by
    simp only [Kd.Fit] at h
    have a := nlbF fs h.1
    have b := nine_pos (deepF fs)
    have c : fs.length * 9 ^ deepF fs ≤ 8 * 9 ^ deepF fs := Nat.mul_le_mul_right _ h.2.2.1
    simp only [Kd.x, Dx.nl, nlX, Kd.deep, Nat.pow_succ]
    omega
  | .cho ks, h => by
    simp only [Kd.Fit] at h
    have a := nlbK ks h.1
    have b := nine_pos (deepK ks)
    have c : ks.length * 9 ^ deepK ks ≤ 8 * 9 ^ deepK ks := Nat.mul_le_mul_right _ (by omega)
    simp only [Kd.x, Dx.nl, nlX, Kd.deep, Nat.pow_succ]
    omega
theorem nlbF : ∀ fs : List (Str × Kd), fitF fs → nlX (xF fs) + fs.length ≤ fs.length * 9 ^ deepF fs
  | [], h => by simp only [xF, nlX, List.length_nil]; omega
  | f :: r, h => by
    simp only [fitF] at h
    have a := Kd.nlb f.2 h.1.2
    have b := nlbF r h.2
    have c : 9 ^ f.2.deep ≤ 9 ^ deepF (f :: r) := Nat.pow_le_pow_right (by decide) (by simp only [deepF]; omega)
    have d : r.length * 9 ^ deepF r ≤ r.length * 9 ^ deepF (f :: r) := Nat.mul_le_mul_left _ (Nat.pow_le_pow_right (by decide) (by simp only [deepF]; omega))
    simp only [xF, nlX, Dx.nl, List.length_cons, Nat.add_mul, Nat.one_mul]
    omega
theorem nlbK : ∀ ks : List Kd, fitK ks → nlX (xK ks) + ks.length ≤ ks.length * 9 ^ deepK ks
  | [], h => by simp only [xK, nlX, List.length_nil]; omega
  | k :: r, h => by
    simp only [fitK] at h
    have a := Kd.nlb k h.1
    have b := nlbK r h.2
    have c : 9 ^ k.deep ≤ 9 ^ deepK (k :: r) := Nat.pow_le_pow_right (by decide) (by simp only [deepK]; omega)
    have d : r.length * 9 ^ deepK r ≤ r.length * 9 ^ deepK (k :: r) := Nat.mul_le_mul_left _ (Nat.pow_le_pow_right (by decide) (by simp only [deepK]; omega))
    simp only [xK, nlX, List.length_cons, Nat.add_mul, Nat.one_mul]
    omega
end

def rd_law (K : PySem.W.Frag) : XS := (xSeq (xFor (xiR1 (xCons (xCall max2X (xCons (xC (.int 1)) (xCons (xCall min2X (xCons (xCall (lenZ K) (xCons (xVar 0) xNil)) (xCons (xC (.int 8)) xNil))) xNil))) xNil)) (gxN 1) (xSeq (xSet 2 (xCall gNU (xCons (xCall (gCA K) (xCons (xVar 0) (xCons (xVar 1) xNil))) (xCons (xC (.int 160)) xNil))))
    (xSeq (xSet 3 (xCallB gKW4 2 (xCons (xOp addX (xC (.int 1)) (xCallB gTK 2 (xCons (xC (.int 5)) xNil))) (xCons (xC (.int 2000)) xNil))))
    (xSeq (xSet 4 (xCall (gSW 5) (xCons (xVar 3) xNil)))
    (xSeq (xSet 5 (xCall (gCP 20) (xCons (xVar 3) xNil)))
    (xSeq (xSet 6 (xCall (gSW 5) (xCons (xVar 5) xNil)))
    (xSeq (xIf (xOr (xNot (xB (xIs .str (xVar 6)))) (xOr (xB (xOp neX (xVar 6) (xVar 4))) (xB (xOp neT (xVar 5) (xVar 3))))) (xRet (xC (.bl false))) xNext)
    (xSeq (xSet 7 (xCall gRK (xCons (xVar 4) xNil)))
    (xSeq (xIf (xOr (xNot (xB (xCallPk (gAK4 20) 7 (xCons (xVar 3) xNil)))) (xNot (xB (xApart 20 7)))) (xRet (xC (.bl false))) xNext)
    (xIf (xOr (xNot (xB (xCall (gAK4 20) (xCons (xCall gRK (xCons (xVar 4) xNil)) (xCons (xVar 3) xNil))))) (xB (xOp neX (xCall (gSW 5) (xCons (xVar 5) xNil)) (xVar 4)))) (xRet (xC (.bl false))) xNext))))))))))
    (xRet (xC (.bl true))))
section
variable {P : Program} {w : World} {K : PySem.W.Frag} {mg : Str → Option Value} {base : Heap} {f : Addr} {fd : FuncData} {L : Nat}
set_option maxHeartbeats 16000000 in
theorem der_law (CCA : Cal P w K mg base 1 "_law_cell_at" ["script", "k"] (spX (gCA K))) (CDK : Cal P w K mg base 2 "_law_deck" ["cell", "many"] (spX gNU)) (CTK : Cal P w K mg base 1 "_law_take" ["deck", "many"] (spB gTK)) (CKW : Cal P w K mg base L "_law_kind_within" ["deck", "depth", "most"] (spB gKW4)) (CWR : Cal P w K mg base L "_law_kind_written" ["kind"] (spX (gSW 5))) (CSW : Cal P w K mg base L "show_kind" ["kind"] (spX (gSW 5))) (CCP : Cal P w K mg base L "_law_copy" ["thing"] (spX (gCP 20))) (CAL : Cal P w K mg base L "_law_alike" ["found", "due"] (spX (gAK4 20))) (CRK : Cal P w K mg base L "read_kind" ["text"] (spX gRK)) (CAP : Cal P w K mg base L "_law_apart" ["told"] (spA 20))
    (m_max : mg "max" = none) (m_min : mg "min" = none) (m_range : mg "range" = none) (m_len : mg "len" = none) (m_isinstance : mg "isinstance" = none) (m_str : mg "str" = none) (hL : 2 ≤ L)
    {cdv : Value} {A : Around} {outer : List Env} {s : Shared} {H : Hp} {E : XK} (hr : Room L (A.deeper (PyProof.Rows.envOfC "law" (defScope s_law) s.heap.objs.size f cdv))) :
    XSs (cxOf CX0 P w K mg base (["script", "k", "deck", "kind", "due", "handed", "found", "told"] : List Str) "law" (defScope s_law) f cdv A outer s H E).nox noEx (defBody s_law) (rd_law K) := by
  have hu1 := hu_of hr
  have hu0 := Nat.lt_of_succ_lt hu1
  exact (xss_cons (xs_for PassesOwn.never rfl (xi_range1 m_range (xa_cons (xe_callB (call_max2 (by rfl)) cx_max2 (by rfl) m_max bt_max (xa_cons xe_int (xa_cons (xe_callB (call_min2 (by rfl)) cx_min2 (by rfl) m_min bt_min (xa_cons (xe_callB (call_lenA K) cx_lenZ (by rfl) m_len PySem.boot_len (xa_cons (xe_var (pv 0)) xa_nil)) (xa_cons xe_int xa_nil))) xa_nil))) xa_nil)) (pg_name (i := 1) sc_law.nd rfl (Or.inl rfl)) (gx_name (n := 99) (i := 1) (by decide)) (xss_cons (xs_setP fun F => ps_set (i := 2) sc_law.nd rfl (Or.inl rfl) (XE.at (Ex := noEx) F (xe_call CDK (hr.mono (by omega)) (xa_cons (xe_call CCA (hr.mono (by omega)) (xa_cons (xe_var (pv 0)) (xa_cons (xe_var (pv 1)) xa_nil))) (xa_cons xe_int xa_nil)))))
    (xss_cons (xs_setP fun F => ps_set (i := 3) sc_law.nd rfl (Or.inl rfl) (XE.at (Ex := noEx) F (xe_callP (i := 2) CKW (hr.mono (by omega)) (pv 2) (xa_cons (xe_add xe_int (xe_callP (i := 2) CTK (hr.mono (by omega)) (pv 2) (xa_cons xe_int xa_nil))) (xa_cons xe_int xa_nil)))))
    (xss_cons (xs_setP fun F => ps_set (i := 4) sc_law.nd rfl (Or.inl rfl) (XE.at (Ex := noEx) F (xe_call CWR (hr.mono (by omega)) (xa_cons (xe_var (pv 3)) xa_nil))))
    (xss_cons (xs_setP fun F => ps_set (i := 5) sc_law.nd rfl (Or.inl rfl) (XE.at (Ex := noEx) F (xe_call CCP (hr.mono (by omega)) (xa_cons (xe_var (pv 3)) xa_nil))))
    (xss_cons (xs_setP fun F => ps_set (i := 6) sc_law.nd rfl (Or.inl rfl) (XE.at (Ex := noEx) F (xe_call CSW (hr.mono (by omega)) (xa_cons (xe_var (pv 5)) xa_nil))))
    (xss_cons (xs_if (XW.pt (xw_or (xt_not (xt_val (xe_isinst .str m_isinstance (xe_var (pv 6)) (pe_bltn (v := .ty "str") rfl m_str bt_str rfl)))) (xw_or (xt_cmp (op_neA K hu0) ox_ne (xe_var (pv 6)) (xe_var (pv 4)) (nomark _)) (xw_or1 (xt_cmp (op_neSame hr.units) ox_neT (xe_var (pv 5)) (xe_var (pv 3)) (nomark _)))))) (xss_one (xs_ret xe_bl)) xss_nil)
    (xss_cons (xs_setP fun F => ps_set (i := 7) sc_law.nd rfl (Or.inl rfl) (XE.at (Ex := noEx) F (xe_call CRK (hr.mono (by omega)) (xa_cons (xe_var (pv 4)) xa_nil))))
    (xss_cons (xs_if (XW.pt (xw_or (xt_not (xt_val (xe_callPk (i := 7) CAL (hr.mono (by omega)) (pv 7) (xa_cons (xe_var (pv 3)) xa_nil)))) (xw_or1 (xt_not (xt_val (xe_apart (n := 20) (i := 7) CAP (hr.mono (by omega)) (pv 7))))))) (xss_one (xs_ret xe_bl)) xss_nil)
    (xss_one (xs_if (XW.pt (xw_or (xt_not (xt_val (xe_call CAL (hr.mono (by omega)) (xa_cons (xe_call CRK (hr.mono (by omega)) (xa_cons (xe_var (pv 4)) xa_nil)) (xa_cons (xe_var (pv 3)) xa_nil))))) (xw_or1 (xt_cmp (op_neA K hu0) ox_ne (xe_call CSW (hr.mono (by omega)) (xa_cons (xe_var (pv 5)) xa_nil)) (xe_var (pv 4)) (nomark _))))) (xss_one (xs_ret xe_bl)) xss_nil)))))))))))
    (xss_one (xs_ret xe_bl)))
end

theorem xown (k : Kd) : k.x.own = .tr k.x := by cases k <;> simp only [Kd.x, Dx.own]
theorem xtup (k : Kd) : ∃ l, k.x = .tup l := by cases k <;> simp only [Kd.x] <;> exact ⟨_, rfl⟩
section
variable {P : Program} {w : World} {K : PySem.W.Frag} {mg : Str → Option Value} {base : Heap} {f : Addr} {fd : FuncData} {L : Nat}
set_option maxHeartbeats 16000000 in
theorem okx_law (F : Fun K "law" "law" s_law f fd) (CCA : Cal P w K mg base 1 "_law_cell_at" ["script", "k"] (spX (gCA K))) (CDK : Cal P w K mg base 2 "_law_deck" ["cell", "many"] (spX gNU)) (CTK : Cal P w K mg base 1 "_law_take" ["deck", "many"] (spB gTK)) (CKW : Cal P w K mg base L "_law_kind_within" ["deck", "depth", "most"] (spB gKW4)) (CWR : Cal P w K mg base L "_law_kind_written" ["kind"] (spX (gSW 5))) (CSW : Cal P w K mg base L "show_kind" ["kind"] (spX (gSW 5))) (CCP : Cal P w K mg base L "_law_copy" ["thing"] (spX (gCP 20))) (CAL : Cal P w K mg base L "_law_alike" ["found", "due"] (spX (gAK4 20))) (CRK : Cal P w K mg base L "read_kind" ["text"] (spX gRK)) (CAP : Cal P w K mg base L "_law_apart" ["told"] (spA 20))
    (m_max : mg "max" = none) (m_min : mg "min" = none) (m_range : mg "range" = none) (m_len : mg "len" = none) (m_isinstance : mg "isinstance" = none) (m_str : mg "str" = none) (hL : 2 ≤ L) :
    FnOk P w K mg base CX0 (L + 1) f fd ["script"] (spX (gLaw K)) := by
  refine fn_x F sc_law (fun ds Q h => by obtain ⟨ns, rfl, _⟩ := h; rfl) (by decide) fun cdv A outer s H E hr => ?_
  refine ⟨_, der_law CCA CDK CTK CKW CWR CSW CCP CAL CRK CAP m_max m_min m_range m_len m_isinstance m_str hL hr, fun ds Q h => ?_⟩
  clear hr
  obtain ⟨ns, rfl, h63, q⟩ := h
  unfold rd_law
  refine xSeq_nx (fun ρ => True) (fun ρ _ => q) (fun nx hnx => ?_)
  refine ⟨rfl, ?_⟩
  refine ⟨⟨by split <;> (try split) <;> omega, by split <;> (try split) <;> omega⟩, ?_⟩
  refine forX_map (fun k : Nat => Dx.int (0 + (k : Int))) (fun rest ρ => ∃ y1 y2 y3 y4 y5 y6 y7, ρ = [.v (.tr (.scr K ns)), y1, y2, y3, y4, y5, y6, y7]) (fun ρ h => hnx ρ trivial) (fun k rest ρ Kn h hk => ?_) ⟨.un, .un, .un, .un, .un, .un, .un, rfl⟩
  obtain ⟨y1, y2, y3, y4, y5, y6, y7, rfl⟩ := h
  -- deck
  refine ⟨ns, 0 + (k : Int), rfl, by omega, fun c => ?_⟩
  refine ⟨c, 160, rfl, by decide, by decide, fun xs hl hx => ?_⟩
  have hN : NumsX (xs.map Dx.int) := ⟨xs, rfl, fun x hm => (hx x hm).1⟩
  dsimp only
  change xSeq _ _ [.v (.tr (.scr K ns)), .v (.tr (.int (0 + (k : Int)))), .v (.ol (xs.map Dx.int)), y3, y4, y5, y6, y7] _
  generalize xs.map Dx.int = W at hN
  -- kind
  refine ⟨rfl, rfl, 5, rfl, hN, by decide, fun r l1 r0 r1 hN1 => ?_⟩
  refine ⟨1 + r, 2000, rfl, hN1, by omega, by omega, fun kd l2 hF hd hN2 => ?_⟩
  obtain ⟨hP, hdp⟩ := kd.pl hF
  have hz := kd.xz hF
  have hnl := kd.nlb hF
  have hn5 : 9 ^ kd.deep ≤ 9 ^ 5 := Nat.pow_le_pow_right (by decide) hd
  have hn6 : (9 : Nat) ^ 5 = 59049 := by decide
  dsimp only
  change xSeq _ _ [.v (.tr (.scr K ns)), .v (.tr (.int (0 + (k : Int)))), .v (.ol l2), .v (.tr kd.x), y4, y5, y6, y7] _
  -- due, handed, found
  refine ⟨kd, rfl, hF, hd, by decide, ?_⟩
  dsimp only
  refine ⟨kd.x, rfl, hz, by omega, ?_⟩
  rw [xown kd]
  dsimp only
  change xSeq _ _ [.v (.tr (.scr K ns)), .v (.tr (.int (0 + (k : Int)))), .v (.ol l2), .v (.tr kd.x), .v (.tr (.str kd.ws)), .v (.tr kd.x), y6, y7] _
  refine ⟨kd, rfl, hF, hd, by decide, ?_⟩
  dsimp only
  change xSeq _ _ [.v (.tr (.scr K ns)), .v (.tr (.int (0 + (k : Int)))), .v (.ol l2), .v (.tr kd.x), .v (.tr (.str kd.ws)), .v (.tr kd.x), .v (.tr (.str kd.ws)), y7] _
  refine go_skip (ρ' := [.v (.tr (.scr K ns)), .v (.tr (.int (0 + (k : Int)))), .v (.ol l2), .v (.tr kd.x), .v (.tr (.str kd.ws)), .v (.tr kd.x), .v (.tr (.str kd.ws)), y7]) (fun Q q => ?_) ?_
  · refine ite2 (fun h => ?_) (fun _ => ?_)
    · have h' : (!decide (kd.ws = kd.ws)) = true := h
      rw [decide_eq_true rfl] at h'
      cases h'
    exact ⟨rfl, hP, (by omega : kd.x.deep ≤ 60), xtup kd, q⟩
  refine ⟨kd, rfl, hF, hd, fun o ho hod => ?_⟩
  dsimp only
  change xSeq _ _ [.v (.tr (.scr K ns)), .v (.tr (.int (0 + (k : Int)))), .v (.ol l2), .v (.tr kd.x), .v (.tr (.str kd.ws)), .v (.tr kd.x), .v (.tr (.str kd.ws)), .v (.ow o)] _
  refine go_skip (ρ' := [.v (.tr (.scr K ns)), .v (.tr (.int (0 + (k : Int)))), .v (.ol l2), .v (.tr kd.x), .v (.tr (.str kd.ws)), .v (.tr kd.x), .v (.tr (.str kd.ws)), .un]) (fun Q q => ?_) ?_
  · refine ⟨⟨_, rfl⟩, kd.x, by show [o.d, kd.x] = _; rw [hod], hP, by omega, true, rfl, ?_⟩
    exact ⟨o, rfl, ho, by rw [hod]; exact hP, by rw [hod]; omega, by rw [hod]; omega, q⟩
  refine go_last (ρ' := [.v (.tr (.scr K ns)), .v (.tr (.int (0 + (k : Int)))), .v (.ol l2), .v (.tr kd.x), .v (.tr (.str kd.ws)), .v (.tr kd.x), .v (.tr (.str kd.ws)), .un]) (fun Q q => ?_) (hk _ ⟨_, _, _, _, _, _, _, rfl⟩)
  refine ⟨kd, rfl, hF, hd, fun o2 ho2 hod2 => ?_⟩
  refine ⟨kd.x, by show [o2.d, kd.x] = _; rw [hod2], hP, by omega, ?_⟩
  refine ⟨kd, rfl, hF, hd, by decide, ?_⟩
  show Q (!decide (kd.ws = kd.ws)) _
  rw [decide_eq_true rfl]
  exact q
end

section
variable {P : Program} {w : World} {K : PySem.W.Frag} {mg : Str → Option Value} {base : Heap}
theorem hox_all {fHO : Addr} {dHO : FuncData} (HO : Fx K mg "_law_holders" s_law_holders ["thing"] fHO dHO) (m_isinstance : mg "isinstance" = none) (m_list : mg "list" = none) (m_tuple : mg "tuple" = none) (m_dict : mg "dict" = none) (m_sorted : mg "sorted" = none) : ∀ n, FnOk P w K mg base CX0 n fHO dHO ["thing"] (spH n)
  | 0 => ⟨fun vs H Q E h => (spH_zero h).elim, fun A outer s H args us vs Q E _ _ _ _ h => (spH_zero h).elim⟩
  | n + 1 => ok_ho HO.F (HO.cal (hox_all HO m_isinstance m_list m_tuple m_dict m_sorted n)) m_isinstance m_list m_tuple m_dict m_sorted
end

theorem mkTw : Nat.ble 1 PySem.Challenge.pw_laidfields_k44_kinds_written_and_read.main.body.length = true := by k_qdec
def asgV (s : Stmt) : Option V := match s with
  | .Assign _ (.Constant (.int i) _ _) _ => some (.int i)
  | .Assign _ (.Constant (.str x) _ _) _ => some (.str x)
  | _ => none
def litV (e : Expr) : Option V := match e with
  | .Constant (.int i) _ _ => some (.int i)
  | _ => none
def asgT (s : Stmt) : Option (List (Option V)) := match s with
  | .Assign _ (.Tuple es _ _) _ => some (es.map litV)
  | _ => none
def seenF (p : Program) (K : PySem.W.Frag) : List FO × List Bool × List (Option V) × List (Option (List (Option V))) × List OCl := ([12, 13, 14, 15, 16, 17, 18, 19, 20, 25, 26, 27, 29, 30, 31, 32, 33, 35, 36, 37, 38, 39, 40, 41, 42, 43, 44, 45, 46, 47, 48, 49].map fun i => obsDef K (defName (topOf p i)), bltNs.map (obsNo K), [4, 5, 6, 8, 9, 10, 11, 23, 22, 24].map fun i => obsVal K (defName (topOf p i)), [7].map fun i => obsTup K (defName (topOf p i)), [obsCl K "Reader" [("__init__", "Reader.__init__"), ("passes", "Reader.passes"), ("take", "Reader.take"), ("take_end", "Reader.take_end"), ("take_run", "Reader.take_run"), ("take_number", "Reader.take_number")] ["place", "text"]])
def seenV (p : Program) : List FO × List Bool × List (Option V) × List (Option (List (Option V))) × List OCl := ([12, 13, 14, 15, 16, 17, 18, 19, 20, 25, 26, 27, 29, 30, 31, 32, 33, 35, 36, 37, 38, 39, 40, 41, 42, 43, 44, 45, 46, 47, 48, 49].map fun i => expDef (topOf p i), List.replicate 17 true, [4, 5, 6, 8, 9, 10, 11, 23, 22, 24].map fun i => asgV (topOf p i), [7].map fun i => asgT (topOf p i), [expCl [expMeth "__init__" "Reader.__init__" (inClass (topOf p 28) 0), expMeth "passes" "Reader.passes" (inClass (topOf p 28) 1), expMeth "take" "Reader.take" (inClass (topOf p 28) 2), expMeth "take_end" "Reader.take_end" (inClass (topOf p 28) 3), expMeth "take_run" "Reader.take_run" (inClass (topOf p 28) 4), expMeth "take_number" "Reader.take_number" (inClass (topOf p 28) 5)] [("__init__", "Reader.__init__"), ("passes", "Reader.passes"), ("take", "Reader.take"), ("take_end", "Reader.take_end"), ("take_run", "Reader.take_run"), ("take_number", "Reader.take_number")] ["place", "text"]])
theorem once_top : ∀ w : World, onceSeen PySem.W.topRun treeTable importedModules (fun m s => PySem.W.openSeen (PySem.W.view PySem.Challenge.pw_laidfields_k44_kinds_written_and_read [1, 2, 4, 5, 6, 7, 8, 9, 10, 11, 12, 13, 14, 15, 16, 17, 18, 19, 20, 22, 23, 24, 25, 26, 27, 28, 29, 30, 31, 32, 33, 35, 36, 37, 38, 39, 40, 41, 42, 43, 44, 45, 46, 47, 48, 49]) [] m (fun s => PySem.W.xlAt (PySem.W.view PySem.Challenge.pw_laidfields_k44_kinds_written_and_read [1, 2, 4, 5, 6, 7, 8, 9, 10, 11, 12, 13, 14, 15, 16, 17, 18, 19, 20, 22, 23, 24, 25, 26, 27, 28, 29, 30, 31, 32, 33, 35, 36, 37, 38, 39, 40, 41, 42, 43, 44, 45, 46, 47, 48, 49]) [] s && PySem.W.recOk [] s) true s) PySem.Challenge.pw_laidfields_k44_kinds_written_and_read 3848 (seenF PySem.Challenge.pw_laidfields_k44_kinds_written_and_read) w = fun _ => some (true, PySem.W.openGood (PySem.W.view PySem.Challenge.pw_laidfields_k44_kinds_written_and_read [1, 2, 4, 5, 6, 7, 8, 9, 10, 11, 12, 13, 14, 15, 16, 17, 18, 19, 20, 22, 23, 24, 25, 26, 27, 28, 29, 30, 31, 32, 33, 35, 36, 37, 38, 39, 40, 41, 42, 43, 44, 45, 46, 47, 48, 49]) [], seenV PySem.Challenge.pw_laidfields_k44_kinds_written_and_read) := by
  have _ := mkTw
  rw [PySem.W.Fast.te8311230129137049606, PySem.W.Fast.te14082659384304107361, PySem.W.Fast.te14364793385576792824, PySem.W.Fast.te5923862056798008813, PySem.W.Fast.te4187177175401517315]
  exact fun w => by kernel_rfl
theorem left_top : PySem.W.LeftO PySem.Challenge.pw_laidfields_k44_kinds_written_and_read (PySem.W.view PySem.Challenge.pw_laidfields_k44_kinds_written_and_read [1, 2, 4, 5, 6, 7, 8, 9, 10, 11, 12, 13, 14, 15, 16, 17, 18, 19, 20, 22, 23, 24, 25, 26, 27, 28, 29, 30, 31, 32, 33, 35, 36, 37, 38, 39, 40, 41, 42, 43, 44, 45, 46, 47, 48, 49]) [] (fun s => PySem.W.xlAt (PySem.W.view PySem.Challenge.pw_laidfields_k44_kinds_written_and_read [1, 2, 4, 5, 6, 7, 8, 9, 10, 11, 12, 13, 14, 15, 16, 17, 18, 19, 20, 22, 23, 24, 25, 26, 27, 28, 29, 30, 31, 32, 33, 35, 36, 37, 38, 39, 40, 41, 42, 43, 44, 45, 46, 47, 48, 49]) [] s && PySem.W.recOk [] s) (exHook (seenF PySem.Challenge.pw_laidfields_k44_kinds_written_and_read) (seenV PySem.Challenge.pw_laidfields_k44_kinds_written_and_read)).obs (exHook (seenF PySem.Challenge.pw_laidfields_k44_kinds_written_and_read) (seenV PySem.Challenge.pw_laidfields_k44_kinds_written_and_read)).val 3848 true := left_once (by decide) (by kernel_rfl) (fun s => by kernel_rfl) once_top
theorem mem_map_eq {α : Type} {f g : Nat → α} : ∀ {l : List Nat}, l.map f = l.map g → ∀ i, i ∈ l → f i = g i := fun h i hi => List.map_inj_left.mp h i hi
theorem binds_law {K : PySem.W.Frag} {f : Addr} {fd : FuncData} (F : Fun K "law" "law" s_law f fd) (s : Shared) (v : Value) : BindsTo s fd ⟨[v], []⟩ [("script", v)] := by
  obtain ⟨oc, od, kV, doc, pm, an, cdv, ct, osl, rfl, _⟩ := F.ex
  exact .of_eq rfl
theorem all_mk {l : PySem.W.OpenLaw} {w : World} {K : PySem.W.Frag} {mg : Str → Option Value} {fa : Addr} {h : Heap} (hK : seenF PySem.Challenge.pw_laidfields_k44_kinds_written_and_read K = seenV PySem.Challenge.pw_laidfields_k44_kinds_written_and_read) (X : K.In h) (G : h.Ns mainGlobals mg) (hfa : mg "law" = some (.ref fa)) :
    ∃ fd : FuncData, (∀ (s : Shared) (v : Value), BindsTo s fd ⟨[v], []⟩ [("script", v)]) ∧ ∀ base : Heap, K.In base → base.Ns mainGlobals mg → FnOk l.prog w K mg base CX0 30 fa fd ["script"] (spLaw K) := by
  have hd := mem_map_eq (f := fun i => obsDef K (defName (topOf PySem.Challenge.pw_laidfields_k44_kinds_written_and_read i))) (g := fun i => expDef (topOf PySem.Challenge.pw_laidfields_k44_kinds_written_and_read i)) (l := [12, 13, 14, 15, 16, 17, 18, 19, 20, 25, 26, 27, 29, 30, 31, 32, 33, 35, 36, 37, 38, 39, 40, 41, 42, 43, 44, 45, 46, 47, 48, 49]) (congrArg (fun x => x.1) hK)
  have hn : bltNs.map (obsNo K) = List.replicate 17 true := congrArg (fun x => x.2.1) hK
  have hc := mem_map_eq (f := fun i => obsVal K (defName (topOf PySem.Challenge.pw_laidfields_k44_kinds_written_and_read i))) (g := fun i => asgV (topOf PySem.Challenge.pw_laidfields_k44_kinds_written_and_read i)) (l := [4, 5, 6, 8, 9, 10, 11, 23, 22, 24]) (congrArg (fun x => x.2.2.1) hK)
  have ht := mem_map_eq (f := fun i => obsTup K (defName (topOf PySem.Challenge.pw_laidfields_k44_kinds_written_and_read i))) (g := fun i => asgT (topOf PySem.Challenge.pw_laidfields_k44_kinds_written_and_read i)) (l := [7]) (congrArg (fun x => x.2.2.2.1) hK)
  obtain ⟨f12, d12, a12, F12⟩ := obsDef_ex (hd 12 (by decide))
  have x_is_whole : Fx K mg "is_whole" s_is_whole ["thing"] f12 d12 := ⟨F12, binds1 F12 (fun _ _ _ _ _ _ _ => rfl), F12.kp, PySem.W.mg_of X G a12⟩
  obtain ⟨f13, d13, a13, F13⟩ := obsDef_ex (hd 13 (by decide))
  have x_is_whole_up_to : Fx K mg "is_whole_up_to" s_is_whole_up_to ["thing", "greatest"] f13 d13 := ⟨F13, binds2 F13 (fun _ _ _ _ _ _ _ _ => rfl), F13.kp, PySem.W.mg_of X G a13⟩
  obtain ⟨f14, d14, a14, F14⟩ := obsDef_ex (hd 14 (by decide))
  have x_is_list_up_to : Fx K mg "is_list_up_to" s_is_list_up_to ["thing", "longest"] f14 d14 := ⟨F14, binds2 F14 (fun _ _ _ _ _ _ _ _ => rfl), F14.kp, PySem.W.mg_of X G a14⟩
  obtain ⟨f15, d15, a15, F15⟩ := obsDef_ex (hd 15 (by decide))
  have x_is_name : Fx K mg "is_name" s_is_name ["thing"] f15 d15 := ⟨F15, binds1 F15 (fun _ _ _ _ _ _ _ => rfl), F15.kp, PySem.W.mg_of X G a15⟩
  obtain ⟨f16, d16, a16, F16⟩ := obsDef_ex (hd 16 (by decide))
  have x_has_form : Fx K mg "has_form" s_has_form ["thing", "word", "length"] f16 d16 := ⟨F16, binds3 F16 (fun _ _ _ _ _ _ _ _ _ => rfl), F16.kp, PySem.W.mg_of X G a16⟩
  obtain ⟨f17, d17, a17, F17⟩ := obsDef_ex (hd 17 (by decide))
  have x_is_kind : Fx K mg "is_kind" s_is_kind ["thing"] f17 d17 := ⟨F17, binds1 F17 (fun _ _ _ _ _ _ _ => rfl), F17.kp, PySem.W.mg_of X G a17⟩
  obtain ⟨f18, d18, a18, F18⟩ := obsDef_ex (hd 18 (by decide))
  have x_is_kind_within : Fx K mg "is_kind_within" s_is_kind_within ["thing", "depth"] f18 d18 := ⟨F18, binds2 F18 (fun _ _ _ _ _ _ _ _ => rfl), F18.kp, PySem.W.mg_of X G a18⟩
  obtain ⟨f19, d19, a19, F19⟩ := obsDef_ex (hd 19 (by decide))
  have x_are_kinds : Fx K mg "are_kinds" s_are_kinds ["things", "depth"] f19 d19 := ⟨F19, binds2 F19 (fun _ _ _ _ _ _ _ _ => rfl), F19.kp, PySem.W.mg_of X G a19⟩
  obtain ⟨f20, d20, a20, F20⟩ := obsDef_ex (hd 20 (by decide))
  have x_are_fields : Fx K mg "are_fields" s_are_fields ["things", "depth"] f20 d20 := ⟨F20, binds2 F20 (fun _ _ _ _ _ _ _ _ => rfl), F20.kp, PySem.W.mg_of X G a20⟩
  obtain ⟨f25, d25, a25, F25⟩ := obsDef_ex (hd 25 (by decide))
  have x_show_kind : Fx K mg "show_kind" s_show_kind ["kind"] f25 d25 := ⟨F25, binds1 F25 (fun _ _ _ _ _ _ _ => rfl), F25.kp, PySem.W.mg_of X G a25⟩
  obtain ⟨f26, d26, a26, F26⟩ := obsDef_ex (hd 26 (by decide))
  have x_read_kind : Fx K mg "read_kind" s_read_kind ["text"] f26 d26 := ⟨F26, binds1 F26 (fun _ _ _ _ _ _ _ => rfl), F26.kp, PySem.W.mg_of X G a26⟩
  obtain ⟨f27, d27, a27, F27⟩ := obsDef_ex (hd 27 (by decide))
  have x_are_figures : Fx K mg "are_figures" s_are_figures ["text"] f27 d27 := ⟨F27, binds1 F27 (fun _ _ _ _ _ _ _ => rfl), F27.kp, PySem.W.mg_of X G a27⟩
  obtain ⟨f29, d29, a29, F29⟩ := obsDef_ex (hd 29 (by decide))
  have x_taken_kind : Fx K mg "taken_kind" s_taken_kind ["reader", "depth"] f29 d29 := ⟨F29, binds2 F29 (fun _ _ _ _ _ _ _ _ => rfl), F29.kp, PySem.W.mg_of X G a29⟩
  obtain ⟨f30, d30, a30, F30⟩ := obsDef_ex (hd 30 (by decide))
  have x_taken_inner_kind : Fx K mg "taken_inner_kind" s_taken_inner_kind ["reader", "depth"] f30 d30 := ⟨F30, binds2 F30 (fun _ _ _ _ _ _ _ _ => rfl), F30.kp, PySem.W.mg_of X G a30⟩
  obtain ⟨f31, d31, a31, F31⟩ := obsDef_ex (hd 31 (by decide))
  have x_taken_fields : Fx K mg "taken_fields" s_taken_fields ["reader", "depth"] f31 d31 := ⟨F31, binds2 F31 (fun _ _ _ _ _ _ _ _ => rfl), F31.kp, PySem.W.mg_of X G a31⟩
  obtain ⟨f32, d32, a32, F32⟩ := obsDef_ex (hd 32 (by decide))
  have x_taken_field : Fx K mg "taken_field" s_taken_field ["reader", "depth"] f32 d32 := ⟨F32, binds2 F32 (fun _ _ _ _ _ _ _ _ => rfl), F32.kp, PySem.W.mg_of X G a32⟩
  obtain ⟨f33, d33, a33, F33⟩ := obsDef_ex (hd 33 (by decide))
  have x_taken_kinds : Fx K mg "taken_kinds" s_taken_kinds ["reader", "depth"] f33 d33 := ⟨F33, binds2 F33 (fun _ _ _ _ _ _ _ _ => rfl), F33.kp, PySem.W.mg_of X G a33⟩
  obtain ⟨f35, d35, a35, F35⟩ := obsDef_ex (hd 35 (by decide))
  have x__law_cell_at : Fx K mg "_law_cell_at" s_law_cell_at ["script", "k"] f35 d35 := ⟨F35, binds2 F35 (fun _ _ _ _ _ _ _ _ => rfl), F35.kp, PySem.W.mg_of X G a35⟩
  obtain ⟨f36, d36, a36, F36⟩ := obsDef_ex (hd 36 (by decide))
  have x__law_numbers : Fx K mg "_law_numbers" s_law_numbers ["cell", "many"] f36 d36 := ⟨F36, binds2 F36 (fun _ _ _ _ _ _ _ _ => rfl), F36.kp, PySem.W.mg_of X G a36⟩
  obtain ⟨f37, d37, a37, F37⟩ := obsDef_ex (hd 37 (by decide))
  have x__law_deck : Fx K mg "_law_deck" s_law_deck ["cell", "many"] f37 d37 := ⟨F37, binds2 F37 (fun _ _ _ _ _ _ _ _ => rfl), F37.kp, PySem.W.mg_of X G a37⟩
  obtain ⟨f38, d38, a38, F38⟩ := obsDef_ex (hd 38 (by decide))
  have x__law_take : Fx K mg "_law_take" s_law_take ["deck", "many"] f38 d38 := ⟨F38, binds2 F38 (fun _ _ _ _ _ _ _ _ => rfl), F38.kp, PySem.W.mg_of X G a38⟩
  obtain ⟨f39, d39, a39, F39⟩ := obsDef_ex (hd 39 (by decide))
  have x__law_kind : Fx K mg "_law_kind" s_law_kind ["deck", "depth"] f39 d39 := ⟨F39, binds2 F39 (fun _ _ _ _ _ _ _ _ => rfl), F39.kp, PySem.W.mg_of X G a39⟩
  obtain ⟨f40, d40, a40, F40⟩ := obsDef_ex (hd 40 (by decide))
  have x__law_name : Fx K mg "_law_name" s_law_name ["deck", "k", "alike"] f40 d40 := ⟨F40, binds3 F40 (fun _ _ _ _ _ _ _ _ _ => rfl), F40.kp, PySem.W.mg_of X G a40⟩
  obtain ⟨f41, d41, a41, F41⟩ := obsDef_ex (hd 41 (by decide))
  have x__law_up : Fx K mg "_law_up" s_law_up ["number", "m"] f41 d41 := ⟨F41, binds2 F41 (fun _ _ _ _ _ _ _ _ => rfl), F41.kp, PySem.W.mg_of X G a41⟩
  obtain ⟨f42, d42, a42, F42⟩ := obsDef_ex (hd 42 (by decide))
  have x__law_room : Fx K mg "_law_room" s_law_room ["kind"] f42 d42 := ⟨F42, binds1 F42 (fun _ _ _ _ _ _ _ => rfl), F42.kp, PySem.W.mg_of X G a42⟩
  obtain ⟨f43, d43, a43, F43⟩ := obsDef_ex (hd 43 (by decide))
  have x__law_kind_within : Fx K mg "_law_kind_within" s_law_kind_within ["deck", "depth", "most"] f43 d43 := ⟨F43, binds3 F43 (fun _ _ _ _ _ _ _ _ _ => rfl), F43.kp, PySem.W.mg_of X G a43⟩
  obtain ⟨f44, d44, a44, F44⟩ := obsDef_ex (hd 44 (by decide))
  have x__law_kind_written : Fx K mg "_law_kind_written" s_law_kind_written ["kind"] f44 d44 := ⟨F44, binds1 F44 (fun _ _ _ _ _ _ _ => rfl), F44.kp, PySem.W.mg_of X G a44⟩
  obtain ⟨f45, d45, a45, F45⟩ := obsDef_ex (hd 45 (by decide))
  have x__law_alike : Fx K mg "_law_alike" s_law_alike ["found", "due"] f45 d45 := ⟨F45, binds2 F45 (fun _ _ _ _ _ _ _ _ => rfl), F45.kp, PySem.W.mg_of X G a45⟩
  obtain ⟨f46, d46, a46, F46⟩ := obsDef_ex (hd 46 (by decide))
  have x__law_holders : Fx K mg "_law_holders" s_law_holders ["thing"] f46 d46 := ⟨F46, binds1 F46 (fun _ _ _ _ _ _ _ => rfl), F46.kp, PySem.W.mg_of X G a46⟩
  obtain ⟨f47, d47, a47, F47⟩ := obsDef_ex (hd 47 (by decide))
  have x__law_apart : Fx K mg "_law_apart" s_law_apart ["told"] f47 d47 := ⟨F47, binds1 F47 (fun _ _ _ _ _ _ _ => rfl), F47.kp, PySem.W.mg_of X G a47⟩
  obtain ⟨f48, d48, a48, F48⟩ := obsDef_ex (hd 48 (by decide))
  have x__law_copy : Fx K mg "_law_copy" s_law_copy ["thing"] f48 d48 := ⟨F48, binds1 F48 (fun _ _ _ _ _ _ _ => rfl), F48.kp, PySem.W.mg_of X G a48⟩
  obtain ⟨f49, d49, a49, F49⟩ := obsDef_ex (hd 49 (by decide))
  have x_law : Fx K mg "law" s_law ["script"] f49 d49 := ⟨F49, binds1 F49 (fun _ _ _ _ _ _ _ => rfl), F49.kp, PySem.W.mg_of X G a49⟩
  have m_isinstance : mg "isinstance" = none := PySem.W.mg_none_of X G (no_of hn 0 (by decide) (by rfl))
  have m_int : mg "int" = none := PySem.W.mg_none_of X G (no_of hn 1 (by decide) (by rfl))
  have m_bool : mg "bool" = none := PySem.W.mg_none_of X G (no_of hn 2 (by decide) (by rfl))
  have m_list : mg "list" = none := PySem.W.mg_none_of X G (no_of hn 3 (by decide) (by rfl))
  have m_len : mg "len" = none := PySem.W.mg_none_of X G (no_of hn 4 (by decide) (by rfl))
  have m_str : mg "str" = none := PySem.W.mg_none_of X G (no_of hn 5 (by decide) (by rfl))
  have m_tuple : mg "tuple" = none := PySem.W.mg_none_of X G (no_of hn 6 (by decide) (by rfl))
  have m_all : mg "all" = none := PySem.W.mg_none_of X G (no_of hn 7 (by decide) (by rfl))
  have m_dict : mg "dict" = none := PySem.W.mg_none_of X G (no_of hn 8 (by decide) (by rfl))
  have m_max : mg "max" = none := PySem.W.mg_none_of X G (no_of hn 9 (by decide) (by rfl))
  have m_min : mg "min" = none := PySem.W.mg_none_of X G (no_of hn 10 (by decide) (by rfl))
  have m_range : mg "range" = none := PySem.W.mg_none_of X G (no_of hn 11 (by decide) (by rfl))
  have m_sorted : mg "sorted" = none := PySem.W.mg_none_of X G (no_of hn 14 (by decide) (by rfl))
  obtain ⟨_, c_SMALL_LETTERS, r_SMALL_LETTERS⟩ := obsVal_ex (x := .str lets) (hc 4 (by decide))
  obtain ⟨_, rfl⟩ := r_SMALL_LETTERS
  obtain ⟨_, c_LONGEST_NAME, r_LONGEST_NAME⟩ := obsVal_ex (x := .int 8) (hc 5 (by decide))
  obtain ⟨_, rfl⟩ := r_LONGEST_NAME
  obtain ⟨_, c_WIDEST_NUMBER, r_WIDEST_NUMBER⟩ := obsVal_ex (x := .int 8) (hc 6 (by decide))
  obtain ⟨_, rfl⟩ := r_WIDEST_NUMBER
  obtain ⟨_, c_LONGEST_ROW, r_LONGEST_ROW⟩ := obsVal_ex (x := .int 20) (hc 8 (by decide))
  obtain ⟨_, rfl⟩ := r_LONGEST_ROW
  obtain ⟨_, c_MOST_FIELDS, r_MOST_FIELDS⟩ := obsVal_ex (x := .int 8) (hc 9 (by decide))
  obtain ⟨_, rfl⟩ := r_MOST_FIELDS
  obtain ⟨_, c_MOST_CHOICES, r_MOST_CHOICES⟩ := obsVal_ex (x := .int 6) (hc 10 (by decide))
  obtain ⟨_, rfl⟩ := r_MOST_CHOICES
  obtain ⟨_, c_DEEPEST, r_DEEPEST⟩ := obsVal_ex (x := .int 5) (hc 11 (by decide))
  obtain ⟨_, rfl⟩ := r_DEEPEST
  obtain ⟨_, c_COMMA, r_COMMA⟩ := obsVal_ex (x := .str comS) (hc 23 (by decide))
  obtain ⟨_, rfl⟩ := r_COMMA
  obtain ⟨_, c_FIGURES, r_FIGURES⟩ := obsVal_ex (x := .str figS) (hc 22 (by decide))
  obtain ⟨_, rfl⟩ := r_FIGURES
  obtain ⟨_, c_FIGURES_OF_A_KIND, r_FIGURES_OF_A_KIND⟩ := obsVal_ex (x := .int 2) (hc 24 (by decide))
  obtain ⟨_, rfl⟩ := r_FIGURES_OF_A_KIND
  obtain ⟨_, _, _, _, _, c_M, c_T, r_M⟩ := obsTup_ex (vs := [.int 1, .int 2, .int 4, .int 8]) (ht 7 (by decide))
  have x_consts : Consts K mg := ⟨⟨_, PySem.W.mg_of X G c_SMALL_LETTERS⟩, ⟨_, PySem.W.mg_of X G c_LONGEST_NAME⟩, ⟨_, PySem.W.mg_of X G c_WIDEST_NUMBER⟩, ⟨_, PySem.W.mg_of X G c_M, fun H => .inr ⟨_, _, _, c_T, rfl, rfl, (by have := r_M.length; simp only [List.length_cons, List.length_nil, Array.length_toList] at this; rw [← this]; decide), r_M⟩⟩, ⟨_, PySem.W.mg_of X G c_LONGEST_ROW⟩, ⟨_, PySem.W.mg_of X G c_MOST_FIELDS⟩, ⟨_, PySem.W.mg_of X G c_MOST_CHOICES⟩, ⟨_, PySem.W.mg_of X G c_DEEPEST⟩⟩
  have k_COMMA : ∃ t, mg "COMMA" = some (.str comS t) := ⟨_, PySem.W.mg_of X G c_COMMA⟩
  have k_FIGURES : ∃ t, mg "FIGURES" = some (.str figS t) := ⟨_, PySem.W.mg_of X G c_FIGURES⟩
  have k_FIGURES_OF_A_KIND : ∃ t, mg "FIGURES_OF_A_KIND" = some (.int 2 t) := ⟨_, PySem.W.mg_of X G c_FIGURES_OF_A_KIND⟩
  have hO : [obsCl K "Reader" [("__init__", "Reader.__init__"), ("passes", "Reader.passes"), ("take", "Reader.take"), ("take_end", "Reader.take_end"), ("take_run", "Reader.take_run"), ("take_number", "Reader.take_number")] ["place", "text"]] = [expCl [expMeth "__init__" "Reader.__init__" (inClass (topOf PySem.Challenge.pw_laidfields_k44_kinds_written_and_read 28) 0), expMeth "passes" "Reader.passes" (inClass (topOf PySem.Challenge.pw_laidfields_k44_kinds_written_and_read 28) 1), expMeth "take" "Reader.take" (inClass (topOf PySem.Challenge.pw_laidfields_k44_kinds_written_and_read 28) 2), expMeth "take_end" "Reader.take_end" (inClass (topOf PySem.Challenge.pw_laidfields_k44_kinds_written_and_read 28) 3), expMeth "take_run" "Reader.take_run" (inClass (topOf PySem.Challenge.pw_laidfields_k44_kinds_written_and_read 28) 4), expMeth "take_number" "Reader.take_number" (inClass (topOf PySem.Challenge.pw_laidfields_k44_kinds_written_and_read 28) 5)] [("__init__", "Reader.__init__"), ("passes", "Reader.passes"), ("take", "Reader.take"), ("take_end", "Reader.take_end"), ("take_run", "Reader.take_run"), ("take_number", "Reader.take_number")] ["place", "text"]] := congrArg (fun x => x.2.2.2.2) hK
  simp only [List.cons.injEq, and_true] at hO
  have hO_Reader := hO
  obtain ⟨C_Reader, at_Reader, cls_Reader, mk_Reader, kp_Reader, ms_Reader, mf_Reader, na_Reader⟩ := obsCl_ex hO_Reader
  have M_Reader : mg "Reader" = some (.ref C_Reader) := PySem.W.mg_of X G at_Reader
  have na_Reader_place : NoAttr K C_Reader "place" := na_Reader "place" (by simp only [List.mem_cons, true_or, or_true])
  have na_Reader_text : NoAttr K C_Reader "text" := na_Reader "text" (by simp only [List.mem_cons, true_or, or_true])
  simp only [List.map_cons, List.map_nil, List.cons.injEq, and_true] at ms_Reader
  obtain ⟨ms_Reader___init__, ms_Reader_passes, ms_Reader_take, ms_Reader_take_end, ms_Reader_take_run, ms_Reader_take_number⟩ := ms_Reader
  obtain ⟨f_Reader___init__, d_Reader___init__, fa_Reader___init__, fn_Reader___init__, F_Reader___init__⟩ := obsMeth_ex ms_Reader___init__ (mf_Reader ("__init__", "Reader.__init__") (by simp only [List.mem_cons, true_or, or_true]))
  have b_Reader___init__ : Binds K d_Reader___init__ ["self", "text"] [] := binds2 (st := s_init) F_Reader___init__ (fun _ _ _ _ _ _ _ _ => rfl)
  have mk_Reader_i : Mk K C_Reader f_Reader___init__ := ⟨mk_Reader, fa_Reader___init__, fn_Reader___init__, kp_Reader⟩
  obtain ⟨f_Reader_passes, d_Reader_passes, fa_Reader_passes, fn_Reader_passes, F_Reader_passes⟩ := obsMeth_ex ms_Reader_passes (mf_Reader ("passes", "Reader.passes") (by simp only [List.mem_cons, true_or, or_true]))
  have b_Reader_passes : Binds K d_Reader_passes ["self", "signs"] [] := binds2 (st := s_passes) F_Reader_passes (fun _ _ _ _ _ _ _ _ => rfl)
  have x_Reader_passes : Mx K C_Reader "passes" "Reader.passes" s_passes ["self", "signs"] f_Reader_passes d_Reader_passes := ⟨F_Reader_passes, b_Reader_passes, ⟨fa_Reader_passes, fn_Reader_passes, F_Reader_passes.kp⟩, cls_Reader⟩
  obtain ⟨f_Reader_take, d_Reader_take, fa_Reader_take, fn_Reader_take, F_Reader_take⟩ := obsMeth_ex ms_Reader_take (mf_Reader ("take", "Reader.take") (by simp only [List.mem_cons, true_or, or_true]))
  have b_Reader_take : Binds K d_Reader_take ["self", "signs"] [] := binds2 (st := s_take) F_Reader_take (fun _ _ _ _ _ _ _ _ => rfl)
  have x_Reader_take : Mx K C_Reader "take" "Reader.take" s_take ["self", "signs"] f_Reader_take d_Reader_take := ⟨F_Reader_take, b_Reader_take, ⟨fa_Reader_take, fn_Reader_take, F_Reader_take.kp⟩, cls_Reader⟩
  obtain ⟨f_Reader_take_end, d_Reader_take_end, fa_Reader_take_end, fn_Reader_take_end, F_Reader_take_end⟩ := obsMeth_ex ms_Reader_take_end (mf_Reader ("take_end", "Reader.take_end") (by simp only [List.mem_cons, true_or, or_true]))
  have b_Reader_take_end : Binds K d_Reader_take_end ["self"] [] := binds1 (st := s_take_end) F_Reader_take_end (fun _ _ _ _ _ _ _ => rfl)
  have x_Reader_take_end : Mx K C_Reader "take_end" "Reader.take_end" s_take_end ["self"] f_Reader_take_end d_Reader_take_end := ⟨F_Reader_take_end, b_Reader_take_end, ⟨fa_Reader_take_end, fn_Reader_take_end, F_Reader_take_end.kp⟩, cls_Reader⟩
  obtain ⟨f_Reader_take_run, d_Reader_take_run, fa_Reader_take_run, fn_Reader_take_run, F_Reader_take_run⟩ := obsMeth_ex ms_Reader_take_run (mf_Reader ("take_run", "Reader.take_run") (by simp only [List.mem_cons, true_or, or_true]))
  have b_Reader_take_run : Binds K d_Reader_take_run ["self", "signs"] [] := binds2 (st := s_take_run) F_Reader_take_run (fun _ _ _ _ _ _ _ _ => rfl)
  have x_Reader_take_run : Mx K C_Reader "take_run" "Reader.take_run" s_take_run ["self", "signs"] f_Reader_take_run d_Reader_take_run := ⟨F_Reader_take_run, b_Reader_take_run, ⟨fa_Reader_take_run, fn_Reader_take_run, F_Reader_take_run.kp⟩, cls_Reader⟩
  obtain ⟨f_Reader_take_number, d_Reader_take_number, fa_Reader_take_number, fn_Reader_take_number, F_Reader_take_number⟩ := obsMeth_ex ms_Reader_take_number (mf_Reader ("take_number", "Reader.take_number") (by simp only [List.mem_cons, true_or, or_true]))
  have b_Reader_take_number : Binds K d_Reader_take_number ["self", "most_figures"] [] := binds2 (st := s_take_number) F_Reader_take_number (fun _ _ _ _ _ _ _ _ => rfl)
  have x_Reader_take_number : Mx K C_Reader "take_number" "Reader.take_number" s_take_number ["self", "most_figures"] f_Reader_take_number d_Reader_take_number := ⟨F_Reader_take_number, b_Reader_take_number, ⟨fa_Reader_take_number, fn_Reader_take_number, F_Reader_take_number.kp⟩, cls_Reader⟩
  have e := hfa.symm.trans x_law.m
  cases e
  refine ⟨d49, fun s v => binds_law x_law.F s v, fun base hbK _ => ?_⟩
  exact have GPA := x_Reader_passes.cal (P := l.prog) (w := w) (mg := mg) (base := base) (okx_passes (C_Reader := C_Reader) x_Reader_passes.F cls_Reader na_Reader_text na_Reader_place m_len)
    have GTA := x_Reader_take.cal (okx_take x_Reader_take.F GPA)
    have GTE := x_Reader_take_end.cal (P := l.prog) (w := w) (mg := mg) (base := base) (okx_take_end (C_Reader := C_Reader) x_Reader_take_end.F cls_Reader na_Reader_text na_Reader_place m_len)
    have GTR := x_Reader_take_run.cal (P := l.prog) (w := w) (mg := mg) (base := base) (okx_take_run (C_Reader := C_Reader) x_Reader_take_run.F cls_Reader na_Reader_text na_Reader_place m_len)
    have GAF := x_are_figures.cal (P := l.prog) (w := w) (base := base) (okx_af4 x_are_figures.F m_len m_all k_FIGURES)
    have GTN := x_Reader_take_number.cal (okx_take_number x_Reader_take_number.F GTR GAF m_len m_int k_FIGURES)
    have CK : CalK l.prog w K mg base 1 C_Reader ["self", "text"] (spO (gIN C_Reader)) := ⟨_, _, mk_Reader_i, okx_init F_Reader___init__ cls_Reader na_Reader_text na_Reader_place m_isinstance m_str, b_Reader___init__⟩
    have GTD := x_taken_kind.cal (tdx_all x_taken_kind x_taken_inner_kind x_taken_fields x_taken_field x_taken_kinds GPA GTA GTR GTN x_consts.letters k_COMMA k_FIGURES_OF_A_KIND 5)
    have GIW := x_is_whole.cal (P := l.prog) (w := w) (base := base) (okx_wb x_is_whole.F m_isinstance m_int m_bool)
    have GWU := x_is_whole_up_to.cal (okx_wu x_is_whole_up_to.F GIW)
    have GLU := x_is_list_up_to.cal (P := l.prog) (w := w) (base := base) (okx_lu x_is_list_up_to.F m_isinstance m_list m_len)
    have GNM := x_is_name.cal (P := l.prog) (w := w) (base := base) (okx_nm x_is_name.F m_isinstance m_str m_len m_all x_consts.name x_consts.letters)
    have GHF := x_has_form.cal (P := l.prog) (w := w) (base := base) (okx_hf x_has_form.F m_isinstance m_tuple m_str m_len)
    have GIK := x_is_kind.cal (okx_ik x_is_kind.F (x_is_kind_within.cal (kwx_all x_is_kind_within x_are_fields x_are_kinds GHF GWU GLU GIW GNM x_consts m_isinstance m_tuple m_len m_all 5)) x_consts.deep)
    have GRK := x_read_kind.cal (okx_rk (j := 20) x_read_kind.F CK M_Reader GTD GTE (GIK.mono (by decide)) x_consts.deep)
    have GTK := x__law_take.cal (P := l.prog) (w := w) (base := base) (okx_tk x__law_take.F)
    have GKW := x__law_kind_within.cal (okx_kw4 (j := 6) x__law_kind_within.F GTK (x__law_kind.cal (knx_all x__law_kind x__law_name x__law_take m_range m_int 5)) ((x__law_room.cal (rmx_all x__law_room x__law_up m_max 5)).mono (by decide)))
    have GAP := x__law_apart.cal (ok_ap x__law_apart.F (x__law_holders.cal (P := l.prog) (w := w) (base := base) (hox_all x__law_holders m_isinstance m_list m_tuple m_dict m_sorted 20)) m_isinstance m_list m_len m_range m_str)
    (law_tree (okx_law (L := 24) x_law.F (x__law_cell_at.cal (okx_ca x__law_cell_at.F m_len)) (x__law_deck.cal (okx_dk x__law_deck.F (x__law_numbers.cal (okx_nu x__law_numbers.F m_range)))) GTK (GKW.mono (by decide)) ((x__law_kind_written.cal (wrx_all x__law_kind_written m_str 5)).mono (by decide)) ((x_show_kind.cal (swx_all x_show_kind m_str k_COMMA 5)).mono (by decide)) ((x__law_copy.cal (cpx_all x__law_copy m_isinstance m_list m_tuple m_dict 20)).mono (by decide)) ((x__law_alike.cal (akx_all x__law_alike m_isinstance m_dict m_tuple m_list m_len m_range m_str m_int m_bool 20)).mono (by decide)) GRK (GAP.mono (by decide)) m_max m_min m_range m_len m_isinstance m_str (by decide))).mono (by decide)
def lawRec : DefRec := match s_law with
  | .FunctionDef n a b _ _ _ sc _ _ pos => ⟨n, a, b, sc, pos⟩
  | _ => ⟨⟨#[]⟩, ⟨[], [], none, [], [], none, []⟩, [], defScope s_law, ⟨0, 0, 0, 0⟩⟩
end Lf
open PySem PySem.W PyProof.Rows
set_option maxRecDepth 100000 in
set_option maxHeartbeats 0 in
theorem PySem.Challenge.cw_laidfields_k44_kinds_written_and_read_holds : PySem.Challenge.rw_laidfields_k44_kinds_written_and_read.Holds := by
  w_on; o_law
  refine holds_open (d := Lf.lawRec) (kwd := []) (XP := XL (PySem.W.view PySem.Challenge.pw_laidfields_k44_kinds_written_and_read [1, 2, 4, 5, 6, 7, 8, 9, 10, 11, 12, 13, 14, 15, 16, 17, 18, 19, 20, 22, 23, 24, 25, 26, 27, 28, 29, 30, 31, 32, 33, 35, 36, 37, 38, 39, 40, 41, 42, 43, 44, 45, 46, 47, 48, 49]) []) Lf.left_top (Hook.of (L2.exHook (Lf.seenF PySem.Challenge.pw_laidfields_k44_kinds_written_and_read) (Lf.seenV PySem.Challenge.pw_laidfields_k44_kinds_written_and_read))) (Hook.keeps (L2.exHook (Lf.seenF PySem.Challenge.pw_laidfields_k44_kinds_written_and_read) (Lf.seenV PySem.Challenge.pw_laidfields_k44_kinds_written_and_read))) (fun s e => xl_of s (Bool.and_eq_true_iff.mp e).1) XL.keeps (by kernel_rfl) (by kernel_rfl) (by kernel_rfl) (fun s e => recFacts_of (Bool.and_eq_true_iff.mp e).2) (by rfl) (by assumption) (by decide +kernel) ⟨rfl, rfl, rfl, rfl, rfl, by decide +kernel⟩ ?hw ?hc
  case hw => w_witness2
  case hc => exact L2.walk_ex (l := PySem.Challenge.rw_laidfields_k44_kinds_written_and_read) (n := 63) (k := 30) (x := "script") (CX := L2.CX0) (sp := Lf.spLaw) rfl (by decide) (by rfl) ⟨rfl, by decide, by decide⟩ (fun w K mg fa h hK X G hfa => Lf.all_mk hK X G hfa) (fun K H a ns hl _ hS => ⟨a, ns, rfl, hS, hl, fun _ => rfl⟩) (fun _ _ _ _ z => z)
#print axioms PySem.Challenge.cw_laidfields_k44_kinds_written_and_read_holds
