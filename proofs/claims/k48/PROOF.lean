import PyProof.Rows.All
import Wide.All
import OpenK.AllK
import Wide.FinOn
import PyProof.EqAt
import PyProof.EqKinds
import PyProof.NeKinds
import PyProof.TupleCall
import PyProof.StrWalks
import PyProof.ConsumeWalk
import PyProof.EnumMake
import PyProof.EnumFor
import PyProof.ListNew
import PyProof.ListRange
import PyProof.Rows.SortWalk
import PyProof.Rows.Range3
import PyProof.Rows.ChunkEnd
import PyProof.Rows.ChunkLeaf
import PyProof.Rows.StrInSeq
import Wide.Txt
import PyProof.DictIter
import PyProof.DictWalks
import PyProof.AttrMissHeap
import KE.KDictOf
import KE.KSortTup
import KE.KDictList
import KE.KRevIter
import PyProof.Rows.Own
import PyProof.ExcBaseAll.ValueError
import PyProof.RulesAs
import PyProof.NsDelKeeps
import PyProof.ExcClass3
import PyProof.ExcArgsOwn
import KE.KIsAll
import KE.IntBitsLaws
import PyProof.Rows.StrRev
import PyProof.PureStr
import PyProof.ToksMono
import PyProof.MeetsStr3
import PyProof.StrCalls6
import Lean
import PySem.Challenge.RW_laidfields_k48_bytes_written_and_read
set_option Elab.async false
set_option linter.all false
set_option maxRecDepth 100000
namespace L2
open PySem PySem.Spec PyProof.Rows

abbrev Key := Sum Int Str
def keyIs : Key → Value → Bool
  | .inl k, v => Value.isInt k v
  | .inr x, v => Value.isStrOf x v
def keyH (w : World) : Key → Int
  | .inl k => hashInt k
  | .inr x => hashStr w x
theorem keyIs_shape : ∀ {k : Key} {v : Value}, keyIs k v = true → (∃ i t, k = Sum.inl i ∧ v = Value.int i t) ∨ (∃ x t, k = Sum.inr x ∧ v = Value.str x t)
  | .inl i, v, h => by
    obtain ⟨t, e⟩ := Value.isInt_shape (k := i) (v := v) h
    exact .inl ⟨i, t, rfl, e⟩
  | .inr x, v, h => by
    obtain ⟨t, e⟩ := Value.isStrOf_shape (x := x) (v := v) h
    exact .inr ⟨x, t, rfl, e⟩
theorem key_ll (a b : Int) : decide ((Sum.inl a : Key) = Sum.inl b) = (a == b) := by
  by_cases e : a = b
  · subst e; simp
  · have h : ¬ (Sum.inl a : Key) = Sum.inl b := fun q => e (Sum.inl.inj q)
    rw [decide_eq_false h]
    exact (beq_eq_false_iff_ne.mpr e).symm
theorem key_rr (a b : Str) : decide ((Sum.inr a : Key) = Sum.inr b) = decide (a = b) := by
  by_cases e : a = b
  · subst e; simp
  · have h : ¬ (Sum.inr a : Key) = Sum.inr b := fun q => e (Sum.inr.inj q)
    rw [decide_eq_false h, decide_eq_false e]
theorem key_lr (a : Int) (b : Str) : decide ((Sum.inl a : Key) = Sum.inr b) = false := decide_eq_false (fun q => nomatch q)
theorem key_rl (a : Str) (b : Int) : decide ((Sum.inr a : Key) = Sum.inl b) = false := decide_eq_false (fun q => nomatch q)

def mixKind (prog : Program) (w : World) : PySem.KeyKind prog w Key where
  is := keyIs
  hash := keyH w
  inj := fun v a b ha hb => by
    rcases keyIs_shape ha with ⟨i, t, rfl, rfl⟩ | ⟨x, t, rfl, rfl⟩
    · rcases keyIs_shape hb with ⟨j, u, rfl, e⟩ | ⟨y, u, rfl, e⟩
      · injection e with e1 _; rw [e1]
      · exact nomatch e
    · rcases keyIs_shape hb with ⟨j, u, rfl, e⟩ | ⟨y, u, rfl, e⟩
      · exact nomatch e
      · injection e with e1 _; rw [e1]
  byValue := fun k v h => by
    rcases keyIs_shape h with ⟨i, t, rfl, rfl⟩ | ⟨x, t, rfl, rfl⟩ <;> rfl
  pyHash := fun hv h => by
    rcases keyIs_shape hv with ⟨i, t, rfl, rfl⟩ | ⟨x, t, rfl, rfl⟩
    · exact wpAny_pyHash_int h
    · exact wpAny_pyHash_str h
  eqBool := fun hu hv h => by
    rcases keyIs_shape hu with ⟨i, t, rfl, rfl⟩ | ⟨x, t, rfl, rfl⟩
    · rcases keyIs_shape hv with ⟨j, u, rfl, rfl⟩ | ⟨y, u, rfl, rfl⟩
      · rw [key_ll] at h; exact wpAny_eqBool_int h
      · rw [key_lr] at h; exact SeqAt.EqAt.int_str i t y u _ _ _ _ h
    · rcases keyIs_shape hv with ⟨j, u, rfl, rfl⟩ | ⟨y, u, rfl, rfl⟩
      · rw [key_rl] at h; exact SeqAt.EqAt.str_int x t j u _ _ _ _ h
      · rw [key_rr] at h; exact wpAny_eqBool_str h
  «strs» := fun k x t v h => by
    rcases keyIs_shape h with ⟨i, u, rfl, e⟩ | ⟨y, u, rfl, e⟩
    · exact nomatch e
    · injection e with e1 _
      subst e1
      cases v <;> rfl

end L2

namespace L2
open PySem PySem.Spec PyProof.Rows

inductive V where
  | non | bl (b : Bool) | int (i : Int) | str (x : Str) | byt (b : Array UInt8) | flt (b : UInt64) | ref (a : Addr) | ty (n : String)
  deriving DecidableEq

def RelV : V → Value → Prop
  | .non, u => u = Value.none
  | .bl b, u => u = Value.bool b
  | .int i, u => ∃ t, u = Value.int i t
  | .str x, u => ∃ t, u = Value.str x t
  | .byt b, u => ∃ t, u = Value.bytes b t
  | .flt b, u => ∃ t, u = Value.float b t
  | .ref a, u => u = Value.ref a
  | .ty n, u => u = Value.type n

abbrev Vals : List V → List Value → Prop := Paired RelV
theorem Vals.length {xs : List V} {us : List Value} (r : Vals xs us) : xs.length = us.length := Paired.length r
theorem Vals.get : ∀ {xs : List V} {us : List Value} {i : Nat} {x : V}, Vals xs us → xs[i]? = some x → ∃ u, us[i]? = some u ∧ RelV x u
  | _, _, _, _, .nil, e => by simp at e
  | _, _, 0, _, .cons r _, e => by simp at e; subst e; exact ⟨_, rfl, r⟩
  | _, _, i + 1, x, .cons _ t, e => by
    obtain ⟨u, h1, h2⟩ := Vals.get (i := i) (x := x) t (by simpa using e)
    exact ⟨u, by simpa using h1, h2⟩
theorem Vals.append : ∀ {xs ys : List V} {us ws : List Value}, Vals xs us → Vals ys ws → Vals (xs ++ ys) (us ++ ws)
  | _, _, _, _, .nil, s => s
  | _, _, _, _, .cons r t, s => .cons r (Vals.append t s)
theorem Vals.take : ∀ {xs : List V} {us : List Value} (n : Nat), Vals xs us → Vals (xs.take n) (us.take n)
  | _, _, 0, _ => .nil
  | _, _, _ + 1, .nil => .nil
  | _, _, n + 1, .cons r t => .cons r (Vals.take n t)
theorem Vals.drop : ∀ {xs : List V} {us : List Value} (n : Nat), Vals xs us → Vals (xs.drop n) (us.drop n)
  | _, _, 0, r => r
  | _, _, _ + 1, .nil => .nil
  | _, _, n + 1, .cons _ t => Vals.drop n t
def RelO : Option V → Option Value → Prop
  | some v, some u => RelV v u
  | none, none => True
  | _, _ => False
def KV {κ : Type} : List (κ × V) → List (κ × Value) → Prop := Paired fun (p : κ × V) (q : κ × Value) => p.1 = q.1 ∧ RelV p.2 q.2

def kV : Key → V
  | .inl i => .int i
  | .inr x => .str x

inductive HO where
  /-- a list -/
  | lst (xs : List V)
  /-- a tuple (never changes) -/
  | tup (xs : List V)
  /-- a dict whose keys are ints and texts; one whose keys are tuples of ints and texts (the empty one is both) -/
  | dK (kvs : List (Key × V)) | dT (kvs : List (List Key × V))
  /-- a set of ints: its members, its size -/
  | set (S : Int → Bool) (n : Nat)
  /-- an instance of the class at C, its dict at dx, its attributes -/
  | ins (C dx : Addr) (fs : List (Str × V))
  /-- the dict of the instance at x -/
  | own (x : Addr)
  /-- the dict of an exception -/
  | xd (fs : List (Str × V))
  /-- a bound method, f of x -/
  | met (f x : Addr)
  /-- a range object lo, lo + 1, .. below hi -/
  | rng (lo hi : Int)
  /-- a thing that is known to the object (the script; a dict while a loop walks it): read, never written while it is so -/
  | frz (o : Obj) (u : HO)
  /-- a code object's table -/
  | tbl (ps : Array Value)
  /-- any other thing, by what is true of its one object (a def of one's own: SetO a S n := HO.ext fun h => ..) -/
  | ext (φ : Heap → Prop)

abbrev Hp := Addr → Option HO
def upd (H : Hp) (a : Addr) (o : HO) : Hp := fun b => if b = a then some o else H b
theorem upd_same {H : Hp} {a : Addr} {o : HO} : upd H a o a = some o := by unfold upd; rw [if_pos rfl]
theorem upd_ne {H : Hp} {a b : Addr} {o : HO} (h : b ≠ a) : upd H a o b = H b := by unfold upd; rw [if_neg h]
theorem ne_of_none {H : Hp} {a b : Addr} {o : HO} (h : H a = some o) (h' : H b = none) : a ≠ b := by
  intro e; subst e; rw [h] at h'; cases h'

section
variable (P : Program) (w : World)
def ObjOk (H : Hp) (h : Heap) (a : Addr) : HO → Prop
  | .lst xs => xs.length ≤ sizeLine ∧ ∃ (its : List Value) (n : Nat), Vals xs its ∧ h.get? a = some { cls := .type "list", data := .seq its.toArray n }
  | .tup xs => xs.length ≤ sizeLine ∧ ∃ its : List Value, Vals xs its ∧ IsTup h a its.toArray
  | .dK kvs => kvs.length ≤ sizeLine ∧ (a == sysModules) = false ∧ ∃ vs, KV kvs vs ∧ h.DictOf (mixKind P w) a vs
  | .dT kvs => kvs.length ≤ sizeLine ∧ (a == sysModules) = false ∧ ∃ xs : List (List Key × Addr × Value),
      Paired (fun (p : List Key × V) (q : List Key × Addr × Value) => p.1 = q.1 ∧ H q.2.1 = some (.tup (p.1.map kV)) ∧ RelV p.2 q.2.2) kvs xs ∧
      ∃ o es ep, h.get? a = some o ∧ o.ExactDict ∧ o.data = .dict es ep ∧ es.toList = xs.map (entryOfKey (tupleKind (mixKind P w))) ∧ (xs.map (·.1)).Nodup
  | .set S n => h.SetOf (intKind P w) a S n
  | .ins C dx fs => H dx = some (.own a) ∧ fs.length ≤ 1000 ∧ dx ≠ a ∧ h.get? a = some (PySem.W.instObj C dx) ∧
      ∃ mA, h.Ns1 dx mA ∧ (∀ f, RelO (fs.lookup f) (mA f)) ∧ PySem.Within mA (fs.map (·.1))
  | .own _ => ∃ o, h.get? a = some o
  | .xd fs => ∃ mA, h.Ns1 a mA ∧ ∀ f, RelO (fs.lookup f) (mA f)
  | .rng lo hi => ∃ t u v, h.get? a = some { cls := .type "range", data := .fields #[.int lo t, .int hi u, .int 1 v] }
  | .frz o u => h.get? a = some o ∧ ObjOk H h a u
  | .tbl ps => h.get? a = some { cls := .none, data := .fields ps }
  | .met f x => h.get? a = some (PySem.W.methodObj (.ref f) (.ref x))
  | .ext φ => φ h ∧ (∃ o, h.get? a = some o) ∧ ∀ h1 h2 : Heap, φ h1 → (∀ o, h1.get? a = some o → h2.get? a = some o) → φ h2
def HOk (H : Hp) (h : Heap) : Prop := ∀ a o, H a = some o → ObjOk P w H h a o
end

section
variable {P : Program} {w : World} {H H' : Hp} {h h' : Heap} {a : Addr} {o : HO}
theorem ObjOk.lt (x : ObjOk P w H h a o) : a < h.objs.size := by
  cases o with
  | lst xs => obtain ⟨_, _, _, _, e⟩ := x; exact Heap.lt_size e
  | tup xs => obtain ⟨_, _, _, p⟩ := x; exact p.lt
  | dK kvs => obtain ⟨_, _, _, _, o, _, _, e, _⟩ := x; exact Heap.lt_size e
  | dT kvs => obtain ⟨_, _, _, _, o, _, _, e, _⟩ := x; exact Heap.lt_size e
  | set S n => obtain ⟨o, _, _, _, e, _⟩ := x; exact Heap.lt_size e
  | ins C dx fs => obtain ⟨_, _, _, e, _⟩ := x; exact Heap.lt_size e
  | own y => obtain ⟨_, e⟩ := x; exact Heap.lt_size e
  | xd fs => obtain ⟨_, ⟨_, _, _, e, _⟩, _⟩ := x; exact Heap.lt_size e
  | rng lo hi => obtain ⟨_, _, _, e⟩ := x; exact Heap.lt_size e
  | frz ob u => obtain ⟨e, _⟩ := x; exact Heap.lt_size e
  | tbl ps => exact Heap.lt_size (show h.get? a = some _ from x)
  | met f y => exact Heap.lt_size (show h.get? a = some _ from x)
  | ext φ => obtain ⟨_, ⟨_, e⟩, _⟩ := x; exact Heap.lt_size e
theorem Paired.mapP {α β : Type} {F G : α → β → Prop} : ∀ {l₁ : List α} {l₂ : List β}, Paired F l₁ l₂ → (∀ a b, F a b → G a b) → Paired G l₁ l₂
  | _, _, .nil, _ => .nil
  | _, _, .cons r t, f => .cons (f _ _ r) (Paired.mapP t f)
theorem ObjOk.stay (x : ObjOk P w H h a o) (k : ∀ b u, (b = a ∨ H b = some (.own a)) → h.get? b = some u → h'.get? b = some u)
    (ho : ∀ b, H b = some (.own a) → H' b = some (.own a)) (ht : ∀ b xs, H b = some (.tup xs) → H' b = some (.tup xs)) : ObjOk P w H' h' a o := by
  induction o with
  | lst xs => obtain ⟨z, its, n, r, e⟩ := x; exact ⟨z, its, n, r, k _ _ (.inl rfl) e⟩
  | tup xs => obtain ⟨z, its, r, ob, e, c⟩ := x; exact ⟨z, its, r, ob, k _ _ (.inl rfl) e, c⟩
  | dK kvs => obtain ⟨z, y, vs, r, ob, es, ep, e, c⟩ := x; exact ⟨z, y, vs, r, ob, es, ep, k _ _ (.inl rfl) e, c⟩
  | dT kvs =>
    obtain ⟨z, y, xs, r, ob, es, ep, e, c⟩ := x
    exact ⟨z, y, xs, Paired.mapP r fun p q z => ⟨z.1, ht _ _ z.2.1, z.2.2⟩, ob, es, ep, k _ _ (.inl rfl) e, c⟩
  | set S n => obtain ⟨ob, es, ep, t, e, c⟩ := x; exact ⟨ob, es, ep, t, k _ _ (.inl rfl) e, c⟩
  | ins C dx fs =>
    obtain ⟨d, z, ne, e, mA, ⟨od, es, ep, e2, c⟩, r⟩ := x
    exact ⟨ho _ d, z, ne, k _ _ (.inl rfl) e, mA, ⟨od, es, ep, k _ _ (.inr d) e2, c⟩, r⟩
  | own y => obtain ⟨ob, e⟩ := x; exact ⟨ob, k _ _ (.inl rfl) e⟩
  | xd fs => obtain ⟨mA, ⟨od, es, ep, e, c⟩, r⟩ := x; exact ⟨mA, ⟨od, es, ep, k _ _ (.inl rfl) e, c⟩, r⟩
  | rng lo hi => obtain ⟨t, u, v, e⟩ := x; exact ⟨t, u, v, k _ _ (.inl rfl) e⟩
  | frz ob u ih => obtain ⟨e, q⟩ := x; exact ⟨k _ _ (.inl rfl) e, ih q⟩
  | tbl ps =>
    have e : h.get? a = some { cls := .none, data := .fields ps } := x
    show h'.get? a = some { cls := .none, data := .fields ps }
    exact k a _ (.inl rfl) e
  | met f y =>
    have e : h.get? a = some (PySem.W.methodObj (.ref f) (.ref y)) := x
    show h'.get? a = some (PySem.W.methodObj (.ref f) (.ref y))
    exact k a _ (.inl rfl) e
  | ext φ => obtain ⟨p, ⟨o, e⟩, st⟩ := x; exact ⟨st _ _ p fun o q => k _ _ (.inl rfl) q, ⟨o, k _ _ (.inl rfl) e⟩, st⟩
theorem HOk.lt (x : HOk P w H h) (e : H a = some o) : a < h.objs.size := (x a o e).lt
theorem HOk.fresh (x : HOk P w H h) (e : h.objs.size ≤ a) : H a = none := by
  cases q : H a with
  | none => rfl
  | some u => exact absurd (Nat.lt_of_lt_of_le (x.lt q) e) (Nat.lt_irrefl _)
theorem HOk.kept (x : HOk P w H h) (k : ∀ b u, h.get? b = some u → h'.get? b = some u) : HOk P w H h' := fun a o e =>
  (x a o e).stay (fun b u _ q => k b u q) (fun _ q => q) fun _ _ q => q
theorem HOk.laid (x : HOk P w H h) (k : ∀ b u, h.get? b = some u → h'.get? b = some u) (hp : h.objs.size ≤ a) (new : ObjOk P w (upd H a o) h' a o) : HOk P w (upd H a o) h' := fun b u e => by
  have hn := x.fresh hp
  by_cases hb : b = a
  · subst hb; rw [upd_same] at e; cases e; exact new
  · rw [upd_ne hb] at e
    exact (x b u e).stay (fun c v _ q => k c v q) (fun c q => by rw [upd_ne (ne_of_none q hn)]; exact q) fun c xs q => by rw [upd_ne (ne_of_none q hn)]; exact q
end

def Rd (H : Hp) (a : Addr) (u : HO) : Prop := H a = some u ∨ ∃ o, H a = some (.frz o u)
theorem Rd.ok {P : Program} {w : World} {H : Hp} {h : Heap} {a : Addr} {u : HO} (r : Rd H a u) (x : HOk P w H h) : ObjOk P w H h a u := by
  rcases r with r | ⟨o, r⟩
  · exact x a u r
  · obtain ⟨_, q⟩ := x a _ r
    exact q
def Mut : Option HO → Prop
  | some (.lst _) => True
  | some (.dK _) => True
  | some (.dT _) => True
  | some (.set _ _) => True
  | some (.ins _ _ _) => True
  | some (.ext _) => True
  | _ => False
section
variable {P : Program} {w : World} {H : Hp} {h h' : Heap} {x e : Addr} {o' : HO}
theorem HOk.write (ok : HOk P w H h) (mu : Mut (H x)) (he : e = x ∨ H e = some (.own x)) (k : ∀ b u, b ≠ e → h.get? b = some u → h'.get? b = some u) (heo : ∃ u, h'.get? e = some u)
    (new : ObjOk P w (upd H x o') h' x o') : HOk P w (upd H x o') h' := fun b u q => by
  have nown : ∀ c y, H c = some (.own y) → c ≠ x := fun c y r z => by subst z; rw [r] at mu; exact mu
  have ntup : ∀ c xs, H c = some (.tup xs) → c ≠ x := fun c xs r z => by subst z; rw [r] at mu; exact mu
  by_cases hb : b = x
  · subst hb; rw [upd_same] at q; cases q; exact new
  · rw [upd_ne hb] at q
    by_cases hbe : b = e
    · have q' : H b = some (.own x) := by
        rcases he with z | z
        · exact absurd (hbe.trans z) hb
        · rw [hbe]; exact z
      rw [q] at q'; cases q'
      obtain ⟨v, hv⟩ := heo
      exact ⟨v, by rw [hbe]; exact hv⟩
    · refine (ok b u q).stay (fun c v hc r => k c v ?_ r) (fun c r => by rw [upd_ne (nown c b r)]; exact r) fun c xs r => by rw [upd_ne (ntup c xs r)]; exact r
      rcases hc with rfl | hc
      · exact hbe
      · rintro rfl
        rcases he with z | z
        · exact nown c b hc z
        · rw [hc] at z; cases z; exact hb rfl
end

structure Un (fs ex : List Addr) (H H' : Hp) (h h' : Heap) : Prop where
  keep : ∀ b o, h.get? b = some o → H b = none → b ∉ fs → b ∉ ex → h'.get? b = some o
  slot : ∀ b o, h.get? b = some o → H b = none → b ∈ fs → b ∉ ex → ∃ sl, h'.get? b = some { o with slots := sl }
  free : ∀ b o, h.get? b = some o → H b = none → b ∉ ex → H' b = none
  there : ∀ b o, h.get? b = some o → b ∉ ex → ∃ o', h'.get? b = some o'
  tups : ∀ b xs, H b = some (.tup xs) → H' b = some (.tup xs)
  frzs : ∀ b o u, H b = some (.frz o u) → H' b = some (.frz o u)
  tbls : ∀ b ps, H b = some (.tbl ps) → ∃ more, H' b = some (.tbl (ps ++ more))
section
variable {fs fs' ex ex' : List Addr} {H H1 H2 : Hp} {h h1 h2 h' : Heap} {a x e : Addr} {o : HO}
theorem Un.any (u : Un fs ex H H1 h h1) {b : Addr} {ob : Obj} (q : h.get? b = some ob) (n : H b = none) (hx : b ∉ ex) : ∃ sl, h1.get? b = some { ob with slots := sl } := by
  by_cases hb : b ∈ fs
  · exact u.slot b ob q n hb hx
  · exact ⟨ob.slots, u.keep b ob q n hb hx⟩
theorem Un.kept (k : ∀ b u, h.get? b = some u → h'.get? b = some u) : Un fs ex H H h h' :=
  ⟨fun b ob q _ _ _ => k b ob q, fun b ob q _ _ _ => ⟨ob.slots, k b ob q⟩, fun _ _ _ n _ => n, fun b ob q _ => ⟨ob, k b ob q⟩, fun _ _ q => q, fun _ _ _ q => q, fun _ ps q => ⟨#[], by rw [q]; simp⟩⟩
theorem Un.refl : Un fs ex H H h h := Un.kept fun _ _ q => q
theorem Un.laid (k : ∀ b u, h.get? b = some u → h'.get? b = some u) (hp : h.objs.size ≤ a) (hn : H a = none) : Un fs ex H (upd H a o) h h' where
  keep := fun b u q _ _ _ => k b u q
  slot := fun b u q _ _ _ => ⟨u.slots, k b u q⟩
  free := fun b u q n _ => by rw [upd_ne (Nat.ne_of_lt (Nat.lt_of_lt_of_le (Heap.lt_size q) hp))]; exact n
  there := fun b u q _ => ⟨u, k b u q⟩
  tups := fun b xs q => by rw [upd_ne (ne_of_none q hn)]; exact q
  frzs := fun b u xs q => by rw [upd_ne (ne_of_none q hn)]; exact q
  tbls := fun b ps q => ⟨#[], by rw [upd_ne (ne_of_none q hn), q]; simp⟩
theorem Un.write (mu : Mut (H x)) (he : e = x ∨ H e = some (.own x)) (k : ∀ b u, b ≠ e → h.get? b = some u → h'.get? b = some u) (heo : ∃ u, h'.get? e = some u) : Un fs ex H (upd H x o) h h' := by
  have hx : ∀ b, H b = none → b ≠ x := fun b n z => by subst z; rw [n] at mu; exact mu
  have hb : ∀ b, H b = none → b ≠ e := fun b n z => by
    subst z
    rcases he with r | r
    · exact hx b n r
    · rw [n] at r; cases r
  have hm : ∀ b u, H b = some u → ¬ Mut (some u) → b ≠ x := fun b u q nm z => by subst z; rw [q] at mu; exact nm mu
  refine ⟨fun b u q n _ _ => k b u (hb b n) q, fun b u q n _ _ => ⟨u.slots, k b u (hb b n) q⟩, fun b u q n _ => by rw [upd_ne (hx b n)]; exact n, fun b u q _ => ?_,
    fun b xs q => by rw [upd_ne (hm b _ q fun z => z)]; exact q, fun b u xs q => by rw [upd_ne (hm b _ q fun z => z)]; exact q, fun b ps q => ⟨#[], by rw [upd_ne (hm b _ q fun z => z), q]; simp⟩⟩
  by_cases hbe : b = e
  · subst hbe; exact heo
  · exact ⟨u, k b u hbe q⟩
end

def trk (h : Heap) (H : Hp) : List Addr := (List.range h.objs.size).filter fun a => (H a).isSome
def hidT (h : Heap) (H : Hp) : Heap := PySem.W.hideAll h (trk h H)
theorem hidT_size (h : Heap) (H : Hp) : (hidT h H).objs.size = h.objs.size := PySem.W.hideAll_size _ _
theorem hidT_get {h : Heap} {H : Hp} {b : Addr} {o : Obj} (e : h.get? b = some o) (n : H b = none) : (hidT h H).get? b = some o :=
  PySem.W.hideAll_get _ e fun hm => by
    have q : (H b).isSome = true := (List.mem_filter.mp hm).2
    rw [n] at q; simp at q
theorem of_hidT {h : Heap} {H : Hp} {b : Addr} {o : Obj} (e : (hidT h H).get? b = some o) : h.get? b = some o ∧ H b = none := by
  have e' : h.get? b = some o := PySem.W.of_hideAll (trk h H) e
  refine ⟨e', ?_⟩
  cases q : H b with
  | none => rfl
  | some x =>
    have hm : b ∈ trk h H := List.mem_filter.mpr ⟨List.mem_range.mpr (Heap.lt_size e'), by simp [q]⟩
    have z : (hidT h H).get? b = none := PySem.W.hideAll_none (trk h H) hm
    rw [z] at e; cases e

def allNews (g h : Heap) (L : Addr) : List (Addr × Obj) := (List.range h.objs.size).filterMap fun a => if a = L ∨ (g.get? a).isSome = true then none else (h.get? a).map fun o => (a, o)
def rest (g h : Heap) (L d : Addr) : List (Addr × Obj) := (allNews g h L).filter fun p => decide (p.1 ≠ d)
end L2

namespace L2
open PySem PySem.Spec PyProof.Rows

structure Mod (K : PySem.W.Frag) (mg : Str → Option Value) (base : Heap) : Prop where
  kin : K.In base
  glob : base.Ns mainGlobals mg
  blt : ∃ mb, base.Ns builtinsNs mb ∧ ∀ x : Str, x ≠ "__name__" → mb x = bootBuiltins x
  nolimit : base.NoLimit

structure Cx where
  prog : Program
  w : World
  K : PySem.W.Frag
  mg : Str → Option Value
  base : Heap
  A : Around
  N : List Str
  s₀ : Shared
  H₀ : Hp
  env : Env
  outer : List Env
  stack : List Env
  ex : List Addr
  fn : Str → Bool
  calm : Bool
  pn : List (Addr × Obj)
  xe : Value → Shared → Prop
def frs (l : List Env) : List Addr := l.filterMap (·.frame)
abbrev Cx.fs (X : Cx) : List Addr := frs X.outer

def Vis (sc : Scope) (x : Str) : Prop := sc.names.lookup x = some .local ∨ sc.names.lookup x = some .cell ∨ sc.names.lookup x = some .free
def Loc (sc : Scope) (x : Str) : Prop := sc.names.lookup x = some .local ∨ sc.names.lookup x = some .cell
def Look (env : Env) (h : Heap) (m : Str → Option Value) (x : Str) (u : Value) : Prop :=
  (env.kindOf x = some .local ∧ m x = some u) ∨ ((env.kindOf x = some .cell ∨ env.kindOf x = some .free) ∧ ∃ c, env.cells.lookup x = some c ∧ h.IsCell c (some u))

structure Cx.Ok (X : Cx) : Prop where
  mod : Mod X.K X.mg X.base
  kind : X.env.scope.kind = .function
  glob : X.env.globals = mainGlobals
  blt : X.env.builtins = builtinsNs
  above : X.s₀.heap.objs.size ≤ X.env.locals
  inj : ∀ x y c, X.env.cells.lookup x = some c → X.env.cells.lookup y = some c → x = y
  has : ∀ x, (X.env.kindOf x = some .cell ∨ X.env.kindOf x = some .free) → ∃ c, X.env.cells.lookup x = some c
  cab : ∀ x c, X.fn x = true → X.env.cells.lookup x = some c → X.s₀.heap.objs.size ≤ c
  hd : X.calm = true → X.A.handled = none
  frames : X.A.frames = some X.stack
  stk : X.stack = X.outer ∨ (X.stack = X.env :: X.outer ∧ X.env.frame = some X.env.locals)
  exf : ∀ b ∈ X.ex, b ≠ X.env.locals ∧ ∀ x c, X.env.cells.lookup x = some c → c ≠ b
  bs : ∀ b o, X.base.get? b = some o → X.s₀.heap.get? b = some o ∧ X.H₀ b = none
  bsz : X.base.objs.size ≤ X.s₀.heap.objs.size
  noex : ∀ b o, X.base.get? b = some o → b ∉ X.ex
  exfs : ∀ b ∈ X.ex, b ∉ X.fs
  funs : X.s₀.heap.FunFrames X.base X.outer
  frf : ∀ b ∈ X.fs, X.H₀ b = none

structure Inv (X : Cx) (pins : List (Addr × Obj)) (σ : List (Option V)) (H : Hp) (s : Shared) : Prop where
  ok : X.Ok
  os : s.os = X.s₀.os
  bare : AllBare s.gens
  base : Un X.fs X.ex X.H₀ H X.s₀.heap s.heap
  loc : ∃ m, s.heap.Ns X.env.locals m ∧ ∀ (i : Nat) (x : Str) (v : V), X.N[i]? = some x → σ[i]? = some (some v) → Vis X.env.scope x → ∃ u, RelV v u ∧ Look X.env s.heap m x u
  cell : ∀ x c, X.env.cells.lookup x = some c → ∃ v, s.heap.IsCell c v
  free : H X.env.locals = none
  freeC : ∀ x c, X.env.cells.lookup x = some c → H c = none
  pin : ∀ p ∈ X.pn ++ pins, s.heap.get? p.1 = some p.2 ∧ H p.1 = none ∧ p.1 ≠ X.env.locals ∧ p.1 ∉ X.fs ∧ ∀ v, p.2.data ≠ .cell v
  hok : HOk X.prog X.w H s.heap
  len : σ.length = X.N.length

section
variable {X : Cx} {pins : List (Addr × Obj)} {σ : List (Option V)} {H H' : Hp} {s : Shared} {h' : Heap}

theorem Cx.Ok.nofr (ok : X.Ok) {b : Addr} {o : Obj} (e : X.base.get? b = some o) : b ∉ X.fs := fun hb => by
  have := (ok.funs.mem hb).1
  rw [e] at this; cases this
theorem Inv.bs (I : Inv X pins σ H s) : ∀ b o, X.base.get? b = some o → s.heap.get? b = some o ∧ H b = none := fun b o e =>
  ⟨I.base.keep b o (I.ok.bs b o e).1 (I.ok.bs b o e).2 (I.ok.nofr e) (I.ok.noex b o e), I.base.free b o (I.ok.bs b o e).1 (I.ok.bs b o e).2 (I.ok.noex b o e)⟩
theorem Inv.bk (I : Inv X pins σ H s) : ∀ b o, X.base.get? b = some o → s.heap.get? b = some o := fun b o e => (I.bs b o e).1
theorem Inv.mod (I : Inv X pins σ H s) : Mod X.K X.mg X.base := I.ok.mod
theorem Inv.kIn (I : Inv X pins σ H s) : X.K.In s.heap := I.ok.mod.kin.keeps I.bk
theorem Inv.fr (I : Inv X pins σ H s) : ∃ m, Fr X.base X.env.locals s.heap m :=
  let ⟨m, hn, _⟩ := I.loc
  ⟨m, hn, I.bk, Nat.le_trans I.ok.bsz I.ok.above⟩
theorem Inv.lt (I : Inv X pins σ H s) : X.env.locals < s.heap.objs.size := let ⟨_, hn, _⟩ := I.loc; hn.lt
theorem Inv.sz (I : Inv X pins σ H s) : X.s₀.heap.objs.size ≤ s.heap.objs.size := Nat.le_trans I.ok.above (Nat.le_of_lt I.lt)
theorem Inv.nofs (I : Inv X pins σ H s) {a : Addr} (h : s.heap.objs.size ≤ a) : a ∉ X.fs := fun hb => by
  obtain ⟨_, o, ho, _⟩ := I.ok.funs.mem hb
  exact absurd (Nat.lt_of_lt_of_le (Heap.lt_size ho) (Nat.le_trans I.sz h)) (Nat.lt_irrefl _)
theorem Inv.cne (I : Inv X pins σ H s) : ∀ x c, X.env.cells.lookup x = some c → c ≠ X.env.locals := fun x c e z => by
  obtain ⟨v, o, ho, hd⟩ := I.cell x c e
  obtain ⟨m, ⟨o', es, ep, ho', hd', _⟩, _⟩ := I.loc
  rw [z, ho'] at ho; cases ho; rw [hd'] at hd; cases hd
theorem Inv.funs (I : Inv X pins σ H s) : s.heap.FunFrames X.base X.outer := by
  have all : ∀ (l : List Env), (∀ b ∈ frs l, b ∈ X.fs) → X.s₀.heap.FunFrames X.base l → s.heap.FunFrames X.base l := by
    intro l
    induction l with
    | nil => intro _ _; trivial
    | cons env r ih =>
      intro hs hl
      obtain ⟨hk, ⟨L, o, hf, hn, ho, hd⟩, hr⟩ := hl
      have hL : L ∈ X.fs := hs L (by unfold frs; rw [List.filterMap_cons, hf]; exact List.mem_cons_self)
      obtain ⟨sl, e⟩ := I.base.slot L o ho (I.ok.frf L hL) hL fun z => I.ok.exfs L z hL
      exact ⟨hk, ⟨L, _, hf, hn, e, hd⟩, ih (fun b hb => hs b (by unfold frs; rw [List.filterMap_cons, hf]; exact List.mem_cons_of_mem _ hb)) hr⟩
  exact all X.outer (fun _ hb => hb) I.ok.funs

theorem Inv.stack (I : Inv X pins σ H s) : s.heap.FunFrames X.base X.stack := by
  rcases I.ok.stk with e | ⟨e, hf⟩
  · rw [e]; exact I.funs
  · rw [e]
    obtain ⟨m, hn, _⟩ := I.loc
    refine .cons (by rw [I.ok.kind]; decide) hf hn ?_ I.funs
    exact Heap.get?_none_of_le (Nat.le_trans I.ok.bsz I.ok.above)
theorem Inv.stkSub (I : Inv X pins σ H s) : ∀ b ∈ frs X.stack, b ∈ X.env.locals :: X.fs := fun b hb => by
  rcases I.ok.stk with e | ⟨e, hf⟩
  · rw [e] at hb; exact List.mem_cons_of_mem _ hb
  · rw [e] at hb
    unfold frs at hb
    rw [List.filterMap_cons, hf] at hb
    exact hb
theorem Inv.stkFree (I : Inv X pins σ H s) : ∀ b ∈ frs X.stack, H b = none := fun b hb => by
  rcases List.mem_cons.mp (I.stkSub b hb) with e | hb
  · rw [e]; exact I.free
  · obtain ⟨_, o, ho, _⟩ := I.ok.funs.mem hb
    exact I.base.free b o ho (I.ok.frf b hb) fun z => I.ok.exfs b z hb

theorem Inv.step {g' : Array GenState} {t' : Nat} {d' : Drawn} {ch : List Addr} (I : Inv X pins σ H s)
    (hch : ∀ b ∈ ch, (b ∈ X.ex ∨ X.s₀.heap.objs.size ≤ b) ∧ b ≠ X.env.locals ∧ (∀ x c, X.env.cells.lookup x = some c → c ≠ b) ∧ ∀ p ∈ X.pn ++ pins, p.1 ≠ b)
    (keep : ∀ b o, b ≠ X.env.locals → b ∉ X.fs → b ∉ ch → s.heap.get? b = some o → H b = none → h'.get? b = some o)
    (slot : ∀ b o, b ≠ X.env.locals → b ∈ X.fs → b ∉ ch → s.heap.get? b = some o → H b = none → ∃ sl, h'.get? b = some { o with slots := sl }) (free : ∀ b o, b ∉ ch → s.heap.get? b = some o → H b = none → H' b = none)
    (there : ∀ b o, b ∉ ch → s.heap.get? b = some o → ∃ o', h'.get? b = some o')
    (tups : ∀ b xs, H b = some (.tup xs) → H' b = some (.tup xs)) (frzs : ∀ b o u, H b = some (.frz o u) → H' b = some (.frz o u)) (tbls : ∀ b ps, H b = some (.tbl ps) → ∃ more, H' b = some (.tbl (ps ++ more)))
    (ns : ∀ m, s.heap.Ns X.env.locals m → h'.Ns X.env.locals m) (hok : HOk X.prog X.w H' h') (hg : AllBare g') :
    Inv X pins σ H' { s with heap := h', gens := g', drawn := d', toks := t' } := by
  have neL : ∀ b o, X.s₀.heap.get? b = some o → b ≠ X.env.locals := fun b o e => Nat.ne_of_lt (Nat.lt_of_lt_of_le (Heap.lt_size e) I.ok.above)
  have neC : ∀ b o, X.s₀.heap.get? b = some o → b ∉ X.ex → b ∉ ch := fun b o e hx hb => by
    rcases (hch b hb).1 with z | z
    · exact hx z
    · exact absurd (Nat.lt_of_lt_of_le (Heap.lt_size e) z) (Nat.lt_irrefl _)
  have cellK : ∀ x c, X.env.cells.lookup x = some c → ∀ v, s.heap.IsCell c v → h'.IsCell c v := fun x c e v ⟨o, ho, hd⟩ => by
    have nch : c ∉ ch := fun z => (hch c z).2.2.1 x c e rfl
    by_cases hc : c ∈ X.fs
    · obtain ⟨sl, q⟩ := slot c o (I.cne x c e) hc nch ho (I.freeC x c e)
      exact ⟨_, q, hd⟩
    · exact ⟨o, keep c o (I.cne x c e) hc nch ho (I.freeC x c e), hd⟩
  refine ⟨I.ok, I.os, hg, ⟨fun b o e n hb hx => ?_, fun b o e n hb hx => ?_, fun b o e n hx => ?_, fun b o e hx => ?_, fun b xs e => tups b xs (I.base.tups b xs e), fun b o xs e => frzs b o xs (I.base.frzs b o xs e), fun b ps e => ?_⟩, ?_, fun x c e => ?_, ?_, fun x c e => ?_, fun p hp => ?_, hok, I.len⟩
  · exact keep b o (neL b o e) hb (neC b o e hx) (I.base.keep b o e n hb hx) (I.base.free b o e n hx)
  · obtain ⟨sl, e1⟩ := I.base.slot b o e n hb hx
    obtain ⟨sl', e2⟩ := slot b _ (neL b o e) hb (neC b o e hx) e1 (I.base.free b o e n hx)
    exact ⟨sl', e2⟩
  · obtain ⟨o', e1⟩ := I.base.there b o e hx
    exact free b o' (neC b o e hx) e1 (I.base.free b o e n hx)
  · obtain ⟨o', e1⟩ := I.base.there b o e hx
    exact there b o' (neC b o e hx) e1
  · obtain ⟨m1, e1⟩ := I.base.tbls b ps e
    obtain ⟨m2, e2⟩ := tbls b _ e1
    exact ⟨m1 ++ m2, by rw [e2, Array.append_assoc]⟩
  · obtain ⟨m, hn, hl⟩ := I.loc
    refine ⟨m, ns m hn, fun i x v e1 e2 e3 => ?_⟩
    obtain ⟨u, r, l⟩ := hl i x v e1 e2 e3
    refine ⟨u, r, ?_⟩
    rcases l with l | ⟨k, c, e, z⟩
    · exact .inl l
    · exact .inr ⟨k, c, e, cellK x c e _ z⟩
  · obtain ⟨v, z⟩ := I.cell x c e
    exact ⟨v, cellK x c e v z⟩
  · obtain ⟨m, ⟨o, _, _, ho, _⟩, _⟩ := I.loc
    exact free _ o (fun z => (hch _ z).2.1 rfl) ho I.free
  · obtain ⟨v, o, ho, hd⟩ := I.cell x c e
    exact free c o (fun z => (hch c z).2.2.1 x c e rfl) ho (I.freeC x c e)
  · obtain ⟨e, n, ne, nf, d⟩ := I.pin p hp
    have nch : p.1 ∉ ch := fun z => (hch p.1 z).2.2.2 p hp rfl
    exact ⟨keep p.1 p.2 ne nf nch e n, free p.1 p.2 nch e n, ne, nf, d⟩
theorem Inv.un {t' : Nat} (I : Inv X pins σ H s) (u : Un X.fs [] H H' s.heap h') (hok : HOk X.prog X.w H' h') : Inv X pins σ H' { s with heap := h', toks := t' } := by
  obtain ⟨m, ⟨o, es, ep, ho, r⟩, _⟩ := id I.loc
  obtain ⟨sl, hL⟩ := u.any ho I.free (by simp)
  exact I.step (g' := s.gens) (d' := s.drawn) (ch := []) (fun _ z => nomatch z) (fun b o _ hb _ e n => u.keep b o e n hb (by simp)) (fun b o _ hb _ e n => u.slot b o e n hb (by simp)) (fun b o _ e n => u.free b o e n (by simp)) (fun b o _ e => u.there b o e (by simp)) u.tups u.frzs u.tbls (fun m' hm => by
    obtain ⟨o', es', ep', ho', r'⟩ := hm
    rw [ho] at ho'; cases ho'
    exact ⟨_, es', ep', hL, r'⟩) hok I.bare
theorem Inv.call {g' : Array GenState} {t' : Nat} {d' : Drawn} {ch : List Addr} (I : Inv X pins σ H s) (u : Un (frs X.stack) ch H H' s.heap h') (hok : HOk X.prog X.w H' h') (hg : AllBare g')
    (hch : ∀ b ∈ ch, (b ∈ X.ex ∨ X.s₀.heap.objs.size ≤ b) ∧ b ≠ X.env.locals ∧ (∀ x c, X.env.cells.lookup x = some c → c ≠ b) ∧ ∀ p ∈ X.pn ++ pins, p.1 ≠ b) :
    Inv X pins σ H' { s with heap := h', gens := g', drawn := d', toks := t' } := by
  obtain ⟨m, ⟨o, es, ep, ho, r⟩, _⟩ := id I.loc
  obtain ⟨sl, hL⟩ := u.any ho I.free fun z => (hch _ z).2.1 rfl
  exact I.step (ch := ch) hch (fun b o hL hb hc e n => u.keep b o e n (fun z => (List.mem_cons.mp (I.stkSub b z)).elim hL hb) hc) (fun b o _ _ hc e n => u.any e n hc) (fun b o hc e n => u.free b o e n hc) (fun b o hc e => u.there b o e hc) u.tups u.frzs u.tbls (fun m' hm => by
    obtain ⟨o', es', ep', ho', r'⟩ := hm
    rw [ho] at ho'; cases ho'
    exact ⟨_, es', ep', hL, r'⟩) hok hg
theorem Inv.turned {t' : Nat} {it : Addr} (I : Inv X pins σ H s) (k : ∀ b o, b ≠ it → s.heap.get? b = some o → h'.get? b = some o) (hn : H it = none) (hL : it ≠ X.env.locals)
    (h1 : it ∈ X.ex ∨ X.s₀.heap.objs.size ≤ it) (h2 : ∀ x c, X.env.cells.lookup x = some c → c ≠ it) (h3 : ∀ p ∈ X.pn ++ pins, p.1 ≠ it) : Inv X pins σ H { s with heap := h', toks := t' } := by
  have nit : ∀ b u, H b = some u → b ≠ it := fun b u e z => by rw [z, hn] at e; cases e
  refine I.step (g' := s.gens) (d' := s.drawn) (ch := [it]) (fun b hb => ?_) (fun b o _ _ hc e _ => k b o (fun z => hc (by simp [z])) e) (fun b o _ _ hc e _ => ⟨o.slots, k b o (fun z => hc (by simp [z])) e⟩) (fun _ _ _ _ n => n)
    (fun b o hc e => ⟨o, k b o (fun z => hc (by simp [z])) e⟩) (fun _ _ e => e) (fun _ _ _ e => e) (fun b ps e => ⟨#[], by rw [e]; simp⟩) (fun m hm => ?_) (fun b u e => ?_) I.bare
  · have e : b = it := by simpa using hb
    subst e
    exact ⟨h1, hL, h2, h3⟩
  · obtain ⟨o, es, ep, ho, r⟩ := hm
    exact ⟨o, es, ep, k _ o (Ne.symm hL) ho, r⟩
  · refine (I.hok b u e).stay (fun c v hc q => k c v ?_ q) (fun _ q => q) fun _ _ q => q
    rcases hc with z | z
    · rw [z]; exact nit b u e
    · exact nit c _ z
theorem Inv.tok (I : Inv X pins σ H s) (t : Nat) : Inv X pins σ H { s with toks := t } := I.un (h' := s.heap) (t' := t) Un.refl I.hok
theorem Inv.kept {t' : Nat} (I : Inv X pins σ H s) (k : ∀ b u, s.heap.get? b = some u → h'.get? b = some u) : Inv X pins σ H { s with heap := h', toks := t' } := I.un (Un.kept k) (I.hok.kept k)
theorem Inv.laid {a : Addr} {o : HO} {t' : Nat} (I : Inv X pins σ H s) (k : ∀ b u, s.heap.get? b = some u → h'.get? b = some u) (hp : s.heap.objs.size ≤ a) (new : ObjOk X.prog X.w (upd H a o) h' a o) :
    Inv X pins σ (upd H a o) { s with heap := h', toks := t' } := I.un (Un.laid k hp (I.hok.fresh hp)) (I.hok.laid k hp new)
theorem Inv.write {x e : Addr} {o : HO} {t' : Nat} (I : Inv X pins σ H s) (mu : Mut (H x)) (he : e = x ∨ H e = some (.own x)) (k : ∀ b u, b ≠ e → s.heap.get? b = some u → h'.get? b = some u) (heo : ∃ u, h'.get? e = some u)
    (new : ObjOk X.prog X.w (upd H x o) h' x o) : Inv X pins σ (upd H x o) { s with heap := h', toks := t' } := I.un (Un.write mu he k heo) (I.hok.write mu he k heo new)
theorem Inv.weak {σ' : List (Option V)} (I : Inv X pins σ H s) (hl : σ'.length = σ.length) (w : ∀ (i : Nat) v, σ'[i]? = some (some v) → σ[i]? = some (some v)) : Inv X pins σ' H s :=
  ⟨I.ok, I.os, I.bare, I.base, let ⟨m, hn, hl'⟩ := I.loc; ⟨m, hn, fun i x v e1 e2 e3 => hl' i x v e1 (w i v e2) e3⟩, I.cell, I.free, I.freeC, I.pin, I.hok, hl.trans I.len⟩
theorem Inv.pins_of {pins' : List (Addr × Obj)} (I : Inv X pins σ H s) (h : ∀ p ∈ pins', s.heap.get? p.1 = some p.2 ∧ H p.1 = none ∧ p.1 ≠ X.env.locals ∧ p.1 ∉ X.fs ∧ ∀ v, p.2.data ≠ .cell v) : Inv X pins' σ H s :=
  ⟨I.ok, I.os, I.bare, I.base, I.loc, I.cell, I.free, I.freeC, fun p hp => (List.mem_append.mp hp).elim (fun z => I.pin p (List.mem_append_left _ z)) (h p), I.hok, I.len⟩

theorem nodup_ix {N : List Str} (hN : N.Nodup) {i j : Nat} {x : Str} (a : N[i]? = some x) (b : N[j]? = some x) : i = j := by
  obtain ⟨h1, e1⟩ := List.getElem?_eq_some_iff.mp a
  obtain ⟨h2, e2⟩ := List.getElem?_eq_some_iff.mp b
  exact (List.getElem_inj hN).mp (e1.trans e2.symm)

theorem store_ok2 {M : Model} {A : Around} {E : Value → Shared → Prop} {i : Nat} {x : Str} {v : V} {u : Value} {Q : Unit → Shared → Prop} (I : Inv X pins σ H s) (hN : X.N.Nodup) (hi : X.N[i]? = some x) (hx : Loc X.env.scope x) (r : RelV v u)
    (h : ∀ s', Inv X pins (σ.set i (some v)) H s' → (∃ a, Heap.SameBut a s.heap s'.heap ∧ (a = X.env.locals ∨ X.env.cells.lookup x = some a)) → Q () s') (hf : X.fn x = true ∨ X.env.scope.names.lookup x = some .local := by first | exact .inl rfl | exact .inr rfl | assumption) : wpAny M A (storeName X.env x u) Q E s := by
  obtain ⟨m, hn, hl⟩ := id I.loc
  have hcls : (X.env.scope.kind == .class || (X.env.scope.kind == .module && X.env.locals != X.env.globals)) = false := by rw [I.ok.kind]; rfl
  have hiσ : i < σ.length := by rw [I.len]; exact (List.getElem?_eq_some_iff.mp hi).1
  have cne := I.cne
  have tracked : ∀ {a : Addr} {h' : Heap}, (∃ o, s.heap.get? a = some o ∧ H a = none) → Heap.SameBut a s.heap h' → HOk X.prog X.w H h' := fun {a h'} ha hs b ob e => by
    obtain ⟨_, _, hfree⟩ := ha
    refine (I.hok b ob e).stay (fun c w' hc q => (hs.2 c ?_).trans q) (fun _ q => q) fun _ _ q => q
    rintro rfl
    rcases hc with rfl | hc
    · rw [hfree] at e; cases e
    · rw [hfree] at hc; cases hc
  rcases hx with hk | hk
  · refine wpAny_storeName_local hk hn (fun h' hn' hs => ?_) hcls
    obtain ⟨oL, _, _, hoL, _⟩ := id hn
    refine h _ ⟨I.ok, I.os, I.bare, ⟨fun b o e n hb hx => ?_, fun b o e n hb hx => ?_, I.base.free, fun b o e hx => ?_, I.base.tups, I.base.frzs, I.base.tbls⟩, ⟨_, hn', fun j y v' e1 e2 e3 => ?_⟩, fun y c e => ?_, I.free, I.freeC, fun p hp => ?_, tracked ⟨oL, hoL, I.free⟩ hs, by simpa using I.len⟩ ⟨_, hs, .inl rfl⟩
    · exact (hs.2 b (Nat.ne_of_lt (Nat.lt_of_lt_of_le (Heap.lt_size e) I.ok.above))).trans (I.base.keep b o e n hb hx)
    · obtain ⟨sl, e1⟩ := I.base.slot b o e n hb hx
      exact ⟨sl, (hs.2 b (Nat.ne_of_lt (Nat.lt_of_lt_of_le (Heap.lt_size e) I.ok.above))).trans e1⟩
    · obtain ⟨o', e1⟩ := I.base.there b o e hx
      exact ⟨o', (hs.2 b (Nat.ne_of_lt (Nat.lt_of_lt_of_le (Heap.lt_size e) I.ok.above))).trans e1⟩
    · by_cases hj : j = i
      · subst hj
        rw [hi] at e1; cases e1
        rw [List.getElem?_set_self hiσ] at e2
        cases e2
        exact ⟨u, r, .inl ⟨hk, by simp⟩⟩
      · rw [List.getElem?_set_ne (Ne.symm hj)] at e2
        obtain ⟨u', r', q⟩ := hl j y v' e1 e2 e3
        refine ⟨u', r', ?_⟩
        rcases q with ⟨k, e⟩ | ⟨k, c, e, z⟩
        · refine .inl ⟨k, ?_⟩
          have : y ≠ x := fun e => hj (nodup_ix hN e1 (e ▸ hi))
          simp [this, e]
        · exact .inr ⟨k, c, e, z.sameBut hs (cne y c e)⟩
    · obtain ⟨w', z⟩ := I.cell y c e
      exact ⟨w', z.sameBut hs (cne y c e)⟩
    · obtain ⟨e, n, ne, nf, d⟩ := I.pin p hp
      exact ⟨(hs.2 p.1 ne).trans e, n, ne, nf, d⟩
  · have hfn : X.fn x = true := by
      rcases hf with z | z
      · exact z
      · rw [z] at hk; cases hk
    obtain ⟨c, hc⟩ := I.ok.has x (.inl hk)
    obtain ⟨w', z⟩ := I.cell x c hc
    refine wpAny_storeName_cell I.ok.kind hk hc z (fun h' hc' hs => ?_)
    obtain ⟨oc, hoc, hocd⟩ := id z
    refine h { s with heap := h' } ⟨I.ok, I.os, I.bare, ⟨fun b o e n hb hx => ?_, fun b o e n hb hx => ?_, I.base.free, fun b o e hx => ?_, I.base.tups, I.base.frzs, I.base.tbls⟩, ⟨m, hn.sameBut hs (Ne.symm (cne x c hc)), fun j y v' e1 e2 e3 => ?_⟩, fun y c' e => ?_, I.free, I.freeC, fun p hp => ?_, tracked ⟨oc, hoc, I.freeC x c hc⟩ hs, by simpa using I.len⟩ ⟨c, hs, .inr hc⟩
    · exact (hs.2 b (Nat.ne_of_lt (Nat.lt_of_lt_of_le (Heap.lt_size e) (I.ok.cab x c hfn hc)))).trans (I.base.keep b o e n hb hx)
    · obtain ⟨sl, e1⟩ := I.base.slot b o e n hb hx
      exact ⟨sl, (hs.2 b (Nat.ne_of_lt (Nat.lt_of_lt_of_le (Heap.lt_size e) (I.ok.cab x c hfn hc)))).trans e1⟩
    · obtain ⟨o', e1⟩ := I.base.there b o e hx
      exact ⟨o', (hs.2 b (Nat.ne_of_lt (Nat.lt_of_lt_of_le (Heap.lt_size e) (I.ok.cab x c hfn hc)))).trans e1⟩
    · by_cases hj : j = i
      · subst hj
        rw [hi] at e1; cases e1
        rw [List.getElem?_set_self hiσ] at e2
        cases e2
        exact ⟨u, r, .inr ⟨.inl hk, c, hc, hc'⟩⟩
      · rw [List.getElem?_set_ne (Ne.symm hj)] at e2
        obtain ⟨u', r', q⟩ := hl j y v' e1 e2 e3
        refine ⟨u', r', ?_⟩
        rcases q with q | ⟨k, c', e, z'⟩
        · exact .inl q
        · refine .inr ⟨k, c', e, z'.sameBut hs ?_⟩
          rintro rfl
          exact hj (nodup_ix hN e1 (I.ok.inj _ _ _ e hc ▸ hi))
    · by_cases hcc : c' = c
      · subst hcc; exact ⟨_, hc'⟩
      · obtain ⟨w2, z2⟩ := I.cell y c' e
        exact ⟨w2, z2.sameBut hs hcc⟩
    · obtain ⟨e, n, ne, nf, d⟩ := I.pin p hp
      refine ⟨(hs.2 p.1 ?_).trans e, n, ne, nf, d⟩
      intro q
      rw [q, hoc] at e
      have q' : oc = p.2 := Option.some.inj e
      exact d w' (by rw [← q']; exact hocd)
theorem store_ok {M : Model} {A : Around} {E : Value → Shared → Prop} {i : Nat} {x : Str} {v : V} {u : Value} {Q : Unit → Shared → Prop} (I : Inv X pins σ H s) (hN : X.N.Nodup) (hi : X.N[i]? = some x) (hx : Loc X.env.scope x) (r : RelV v u)
    (h : ∀ s', Inv X pins (σ.set i (some v)) H s' → Q () s') (hf : X.fn x = true ∨ X.env.scope.names.lookup x = some .local := by first | exact .inl rfl | exact .inr rfl | assumption) : wpAny M A (storeName X.env x u) Q E s :=
  store_ok2 I hN hi hx r (fun s' I' _ => h s' I') hf
theorem Inv.call' {s' : Shared} {ch : List Addr} (I : Inv X pins σ H s) (ho : s'.os = s.os) (u : Un (frs X.stack) ch H H' s.heap s'.heap) (hok : HOk X.prog X.w H' s'.heap) (hg : AllBare s'.gens)
    (hch : ∀ b ∈ ch, (b ∈ X.ex ∨ X.s₀.heap.objs.size ≤ b) ∧ b ≠ X.env.locals ∧ (∀ x c, X.env.cells.lookup x = some c → c ≠ b) ∧ ∀ p ∈ X.pn ++ pins, p.1 ≠ b) : Inv X pins σ H' s' := by
  obtain ⟨h', g', d', t', o'⟩ := s'
  have e : o' = s.os := ho
  subst e
  exact I.call (g' := g') (t' := t') (d' := d') u hok hg hch
end

abbrev XK := Value → Option Addr → Hp → Prop
abbrev St := List (Option V)
abbrev VK := V → Hp → Prop
abbrev TE := St → Hp → VK → Prop
abbrev TT := St → Hp → (Bool → Hp → Prop) → Prop
abbrev TA := St → Hp → (List V → Hp → Prop) → Prop
structure Ends where
  nx : St → Hp → Prop
  rt : VK
  bk : St → Hp → Prop := fun _ _ => False
  ct : St → Hp → Prop := fun _ _ => False
abbrev TS := Ends → St → Hp → Prop

def EP (X : Cx) (pins : List (Addr × Obj)) (σ : St) (Q : VK) (u : Value) (s' : Shared) : Prop := ∃ v H', Inv X pins σ H' s' ∧ RelV v u ∧ Q v H'
def TP (X : Cx) (pins : List (Addr × Obj)) (σ : St) (Q : Bool → Hp → Prop) (b : Bool) (s' : Shared) : Prop := ∃ H', Inv X pins σ H' s' ∧ Q b H'
def AP (X : Cx) (pins : List (Addr × Obj)) (σ : St) (Q : List V → Hp → Prop) (us : List Value) (s' : Shared) : Prop := ∃ vs H', Inv X pins σ H' s' ∧ Vals vs us ∧ Q vs H'
def SP (X : Cx) (pins : List (Addr × Obj)) (D : Ends) (f : Flow) (s' : Shared) : Prop :=
  match f with
  | .next => ∃ σ' H', Inv X pins σ' H' s' ∧ D.nx σ' H'
  | .brk => ∃ σ' H', Inv X pins σ' H' s' ∧ D.bk σ' H'
  | .cont => ∃ σ' H', Inv X pins σ' H' s' ∧ D.ct σ' H'
  | .ret u => ∃ v σ' H', Inv X pins σ' H' s' ∧ RelV v u ∧ D.rt v H'

def PE (X : Cx) (e : Expr) (t : TE) : Prop :=
  ∀ (pins : List (Addr × Obj)) (s : Shared) (σ : St) (H : Hp) (Q : VK), Inv X pins σ H s → t σ H Q → wpAny (model X.prog X.w) X.A (eval e X.env) (EP X pins σ Q) X.xe s
def PT (X : Cx) (e : Expr) (t : TT) : Prop :=
  ∀ (pins : List (Addr × Obj)) (s : Shared) (σ : St) (H : Hp) (Q : Bool → Hp → Prop), Inv X pins σ H s → t σ H Q → wpAny (model X.prog X.w) X.A (isTrue e X.env (eval e X.env)) (TP X pins σ Q) X.xe s
def PW (X : Cx) (e : Expr) (t : TT) : Prop :=
  ∀ (whole : Sem Value) (pins : List (Addr × Obj)) (s : Shared) (σ : St) (H : Hp) (Q : Bool → Hp → Prop), Inv X pins σ H s → t σ H Q → wpAny (model X.prog X.w) X.A (isTrue e X.env whole) (TP X pins σ Q) X.xe s
theorem PW.pt {X : Cx} {e : Expr} {t : TT} (h : PW X e t) : PT X e t := h _
def PA (X : Cx) (es : List Expr) (t : TA) : Prop :=
  ∀ (pos : Pos) (pins : List (Addr × Obj)) (s : Shared) (σ : St) (H : Hp) (Q : List V → Hp → Prop), Inv X pins σ H s → t σ H Q → wpAny (model X.prog X.w) X.A (spliced (backTo pos (starEach es X.env))) (AP X pins σ Q) X.xe s
def PS (X : Cx) (st : Stmt) (t : TS) : Prop :=
  ∀ (pins : List (Addr × Obj)) (s : Shared) (σ : St) (H : Hp) (D : Ends), Inv X pins σ H s → t D σ H → wpAny (model X.prog X.w) X.A (exec st X.env) (SP X pins D) X.xe s
def PSs (X : Cx) (st : List Stmt) (t : TS) : Prop :=
  ∀ (pins : List (Addr × Obj)) (s : Shared) (σ : St) (H : Hp) (D : Ends), Inv X pins σ H s → t D σ H → wpAny (model X.prog X.w) X.A (execs st X.env) (SP X pins D) X.xe s
theorem thn {α : Type} {t : Sem α} {Q Q' : α → Shared → Prop} {M : Model} {A : Around} {E : Value → Shared → Prop} {s : Shared} (h : wpAny M A t Q E s) (hQ : ∀ a s, Q a s → Q' a s) : wpAny M A t Q' E s := wpAny_mono h hQ fun _ _ x => x
end L2

namespace L2
open PySem PySem.Spec PyProof.Rows
section
variable {X : Cx}

theorem bin {a b : Expr} {ta tb : TE} (ha : PE X a ta) (hb : PE X b tb) {pins : List (Addr × Obj)} {s : Shared} {σ : St} {H : Hp} {R : V → V → Hp → Prop} (I : Inv X pins σ H s) (h : ta σ H fun x H1 => tb σ H1 fun y H2 => R x y H2)
    {α : Type} {Q : α → Shared → Prop} {f : Value → Value → Sem α}
    (hf : ∀ v u s2 x y H2, Inv X pins σ H2 s2 → RelV x v → RelV y u → R x y H2 → wpAny (model X.prog X.w) X.A (f v u) Q X.xe s2) :
    wpAny (model X.prog X.w) X.A (eval a X.env) (fun v s₁ => wpAny (model X.prog X.w) X.A (eval b X.env) (fun u s₂ => wpAny (model X.prog X.w) X.A (f v u) Q X.xe s₂) X.xe s₁) X.xe s := by
  refine thn (ha pins s σ H _ I h) fun v s1 ⟨x, H1, I1, r1, q1⟩ => ?_
  refine thn (hb pins s1 σ H1 _ I1 q1) fun u s2 ⟨y, H2, I2, r2, q2⟩ => ?_
  exact hf v u s2 x y H2 I2 r1 r2 q2

def tVar (i : Nat) : TE := fun σ H Q => ∃ v, σ[i]? = some (some v) ∧ Q v H
def tC (v : V) : TE := fun _ H Q => Q v H
theorem pe_var {i : Nat} {x : Str} {pos : Pos} (hN : X.N[i]? = some x) (hv : Vis X.env.scope x) (hd : (x == ("__debug__" : Str)) = false := by decide) (hcd : (x == ("__classdict__" : Str)) = false := by decide) : PE X (.Name x pos) (tVar i) := by
  intro pins s σ H Q I h
  obtain ⟨v, e, h⟩ := h
  obtain ⟨m, hn, hl⟩ := I.loc
  obtain ⟨u, r, l⟩ := hl i x v hN e hv
  have fin : EP X pins σ Q u s := ⟨v, H, I, r, h⟩
  rcases l with ⟨hk, hm⟩ | ⟨hk, c, hc, hcell⟩
  · exact wpAny_Name (wpAny_loadName_local I.ok.kind hk hn hm fin) hd
  · rcases hk with hk | hk
    · exact wpAny_Name (wpAny_loadName_cell I.ok.kind hk hc hcell fin) hd
    · exact wpAny_Name (wpAny_loadName_free I.ok.kind hk hc hcell fin hcd) hd
theorem pe_int {i j pos} : PE X (.Constant (.int i) j pos) (tC (.int i)) := fun _ _ _ H _ I h => wpAny_Constant_int ⟨.int i, H, I.tok _, ⟨_, rfl⟩, h⟩
theorem pe_bl {b j pos} : PE X (.Constant (.bool b) j pos) (tC (.bl b)) := fun _ _ _ H _ I h => Constant_bool ⟨.bl b, H, I, rfl, h⟩
theorem pe_non {j pos} : PE X (.Constant .none j pos) (tC .non) := fun _ _ _ H _ I h => Constant_none ⟨.non, H, I, rfl, h⟩
theorem pe_str {x j pos} : PE X (.Constant (.str x) j pos) (tC (.str x)) := fun _ _ _ H _ I h => Calls.Constant_str ⟨.str x, H, I.tok _, ⟨_, rfl⟩, h⟩

def Gl (X : Cx) (x : Str) : Prop := X.env.kindOf x = some .globalImplicit
theorem ld_glob {E : Value → Shared → Prop} {pins : List (Addr × Obj)} {s : Shared} {σ : St} {H : Hp} {x : Str} {u : Value} {pos : Pos} {Q : Value → Shared → Prop} (I : Inv X pins σ H s) (hg : Gl X x) (hm : X.mg x = some u) (h : Q u s)
    (hd : (x == ("__debug__" : Str)) = false := by decide) : wpAny (model X.prog X.w) X.A (eval (.Name x pos) X.env) Q E s :=
  Calls.Name_function_global I.ok.kind hg (Calls.loadGlobal_global (by rw [I.ok.glob]; exact I.mod.glob.keeps I.bk) hm h) hd
theorem ld_blt {E : Value → Shared → Prop} {pins : List (Addr × Obj)} {s : Shared} {σ : St} {H : Hp} {x : Str} {u : Value} {pos : Pos} {Q : Value → Shared → Prop} (I : Inv X pins σ H s) (hg : Gl X x) (hm : X.mg x = none) (hv : bootBuiltins x = some u) (h : Q u s)
    (hn : x ≠ "__name__" := by decide) (hd : (x == ("__debug__" : Str)) = false := by decide) : wpAny (model X.prog X.w) X.A (eval (.Name x pos) X.env) Q E s := by
  obtain ⟨mb, h1, h2⟩ := I.mod.blt
  exact Calls.Name_function_global I.ok.kind hg (Calls.loadGlobal_builtin (by rw [I.ok.glob]; exact I.mod.glob.keeps I.bk) hm (by rw [I.ok.blt]; exact h1.keeps I.bk) ((h2 x hn).trans hv) h) hd
theorem pe_glob {x : Str} {v : V} {u : Value} {pos : Pos} (hg : Gl X x) (hm : X.mg x = some u) (r : RelV v u) (hd : (x == ("__debug__" : Str)) = false := by decide) : PE X (.Name x pos) (tC v) :=
  fun _ _ _ H _ I h => ld_glob I hg hm ⟨v, H, I, r, h⟩ hd
theorem pe_bltn {x : Str} {v : V} {u : Value} {pos : Pos} (hg : Gl X x) (hm : X.mg x = none) (hv : bootBuiltins x = some u) (r : RelV v u) (hn : x ≠ "__name__" := by decide) (hd : (x == ("__debug__" : Str)) = false := by decide) : PE X (.Name x pos) (tC v) :=
  fun _ _ _ H _ I h => ld_blt I hg hm hv ⟨v, H, I, r, h⟩ hn hd

variable {a b : Expr} {ta tb : TE} {pos : Pos}
def PC (X : Cx) (op : CmpOp) (a b : Expr) (t : TE) : Prop :=
  ∀ (pins : List (Addr × Obj)) (s : Shared) (σ : St) (H : Hp) (Q : VK), Inv X pins σ H s → t σ H Q →
    wpAny (model X.prog X.w) X.A (eval a X.env) (fun v s₁ => wpAny (model X.prog X.w) X.A (eval b X.env) (fun u s₂ => wpAny (model X.prog X.w) X.A (compareOp op v u) (EP X pins σ Q) X.xe s₂) X.xe s₁) X.xe s
theorem nobehind (b : Expr) {op : CmpOp} (h : op ≠ .In) (h2 : op ≠ .NotIn) : behindInMarks op b = false := by
  have e1 : (op == CmpOp.In) = false := by cases op <;> first | rfl | exact absurd rfl h
  have e2 : (op == CmpOp.NotIn) = false := by cases op <;> first | rfl | exact absurd rfl h2
  cases b <;> simp [behindInMarks, e1, e2]
def tB (t : TE) : TT := fun σ H Q => t σ H fun x H1 => ∃ c, x = .bl c ∧ Q c H1
theorem pt_cmp {op : CmpOp} {t : TE} (h : PC X op a b t) (h1 : behindInMarks op b = false := by first | exact nobehind _ (by decide) (by decide) | rfl) : PT X (.Compare a [op] [b] pos) (tB t) := by
  intro pins s σ H Q I hw
  refine wpAny_isTrue_Compare1 (thn (h pins s σ H _ I hw) fun v s1 h1 => thn h1 fun u s2 h2 => thn h2 fun c s3 ⟨x, H1, I1, r1, q1⟩ => ?_) h1
  obtain ⟨d, rfl, q⟩ := q1
  cases r1
  exact wpAny_truthy_bool ⟨H1, I1, q⟩
theorem pt_val {e : Expr} {t : TE} (h : PE X e t) (he : ∀ whole, isTrue e X.env whole = (do let v ← whole; standAt e.pos; holding [v] (truthy v)) := by intro _; rfl) : PT X e (tB t) := by
  intro pins s σ H Q I hw
  refine isTrue_plain (thn (h pins s σ H _ I hw) fun v s1 ⟨x, H1, I1, r1, q1⟩ => ?_) (he _)
  obtain ⟨d, rfl, q⟩ := q1
  cases r1
  exact wpAny_truthy_bool ⟨H1, I1, q⟩

variable {tA tB' : TT} {rest : List Expr}
def tAnd (t u : TT) : TT := fun σ H Q => t σ H fun c H1 => if c = true then u σ H1 Q else Q false H1
def tOr (t u : TT) : TT := fun σ H Q => t σ H fun c H1 => if c = true then Q true H1 else u σ H1 Q
def tNot (t : TT) : TT := fun σ H Q => t σ H fun c H1 => Q (!c) H1
theorem pw_and1 (ha : PT X a tA) : PW X (.BoolOp .And [a] pos) tA := by
  intro wh pins s σ H Q I h
  refine isTrue_and (thn (ha pins s σ H Q I h) fun c s1 e => ?_)
  cases c with
  | true => exact isTrue_and_nil e
  | false => exact e
theorem pw_or1 (ha : PT X a tA) : PW X (.BoolOp .Or [a] pos) tA := by
  intro wh pins s σ H Q I h
  refine isTrue_or (thn (ha pins s σ H Q I h) fun c s1 e => ?_)
  cases c with
  | false => exact isTrue_or_nil e
  | true => exact e
theorem pw_and (ha : PT X a tA) (hb : PW X (.BoolOp .And (b :: rest) pos) tB') : PW X (.BoolOp .And (a :: b :: rest) pos) (tAnd tA tB') := by
  intro wh pins s σ H Q I h
  refine isTrue_and (thn (ha pins s σ H _ I h) fun c s1 ⟨H1, I1, q1⟩ => ?_)
  cases c with
  | true => exact hb wh pins s1 σ H1 Q I1 q1
  | false => exact ⟨H1, I1, q1⟩
theorem pw_or (ha : PT X a tA) (hb : PW X (.BoolOp .Or (b :: rest) pos) tB') : PW X (.BoolOp .Or (a :: b :: rest) pos) (tOr tA tB') := by
  intro wh pins s σ H Q I h
  refine isTrue_or (thn (ha pins s σ H _ I h) fun c s1 ⟨H1, I1, q1⟩ => ?_)
  cases c with
  | true => exact ⟨H1, I1, q1⟩
  | false => exact hb wh pins s1 σ H1 Q I1 q1
theorem pt_not (ha : PT X a tA) : PT X (.UnaryOp .Not a pos) (tNot tA) := by
  intro pins s σ H Q I h
  exact isTrue_not (ha pins s σ H (fun c H1 => Q (!c) H1) I h)
def tAndV (ta tb : TE) : TE := fun σ H Q => ta σ H fun x H1 => ∃ c, x = .bl c ∧ if c = true then tb σ H1 Q else Q (.bl false) H1
def tNotV (ta : TE) : TE := fun σ H Q => ta σ H fun x H1 => ∃ c, x = .bl c ∧ Q (.bl (!c)) H1
theorem pe_one {op} {t : TE} (h : PE X a t) : PE X (.BoolOp op [a] pos) t := fun pins s σ H Q I hw => BoolOp_one (h pins s σ H Q I hw)
theorem pe_and (ha : PE X a ta) (hb : PE X (.BoolOp .And (b :: rest) pos) tb) : PE X (.BoolOp .And (a :: b :: rest) pos) (tAndV ta tb) := by
  intro pins s σ H Q I h
  refine BoolOp_and (thn (ha pins s σ H _ I h) fun v s1 ⟨x, H1, I1, r1, q1⟩ => ?_)
  obtain ⟨c, rfl, q1⟩ := q1
  cases r1
  refine wpAny_truthy_bool ?_
  cases c with
  | true => exact hb pins s1 σ H1 Q I1 q1
  | false => exact ⟨.bl false, H1, I1, rfl, q1⟩
theorem pe_not (ha : PE X a ta) : PE X (.UnaryOp .Not a pos) (tNotV ta) := by
  intro pins s σ H Q I h
  refine UnaryOp_ (thn (ha pins s σ H _ I h) fun v s1 ⟨x, H1, I1, r1, q1⟩ => ?_)
  obtain ⟨c, rfl, q1⟩ := q1
  cases r1
  exact not_of (wpAny_truthy_bool ⟨.bl (!c), H1, I1, rfl, q1⟩)
end
end L2

namespace L2
open PySem PySem.Spec PyProof.Rows

def SqL (K : PySem.W.Frag) (H : Hp) (a : Addr) (xs : List V) : Prop :=
  Rd H a (.lst xs) ∨
    ∃ (o : Obj) (its : Array Value) (n : Nat), K.lookup a = some o ∧ o.cls = .type "list" ∧ o.dict = none ∧ o.data = .seq its n ∧ its.size ≤ sizeLine ∧ Vals xs its.toList
def SqT (K : PySem.W.Frag) (H : Hp) (a : Addr) (xs : List V) : Prop :=
  Rd H a (.tup xs) ∨
    ∃ (o : Obj) (its : Array Value) (n : Nat), K.lookup a = some o ∧ o.cls = .type "tuple" ∧ o.data = .seq its n ∧ its.size ≤ sizeLine ∧ Vals xs its.toList
def absV : Value → Option V
  | .none => some .non
  | .bool b => some (.bl b)
  | .int i _ => some (.int i)
  | .str x _ => some (.str x)
  | .bytes b _ => some (.byt b)
  | .float b _ => some (.flt b)
  | .ref a => some (.ref a)
  | .type n => some (.ty n)
  | _ => none
theorem RelV.abs {x : V} {u : Value} (r : RelV x u) : absV u = some x := by
  cases x with
  | non => cases r; rfl
  | bl _ => cases r; rfl
  | int _ => obtain ⟨t, rfl⟩ := r; rfl
  | str _ => obtain ⟨t, rfl⟩ := r; rfl
  | byt _ => obtain ⟨t, rfl⟩ := r; rfl
  | flt _ => obtain ⟨t, rfl⟩ := r; rfl
  | ref _ => cases r; rfl
  | ty _ => cases r; rfl
theorem RelV.inj {x y : V} {u : Value} (r : RelV x u) (q : RelV y u) : x = y := Option.some.inj (r.abs.symm.trans q.abs)
theorem Vals.inj : ∀ {xs ys : List V} {us : List Value}, Vals xs us → Vals ys us → xs = ys
  | _, _, _, .nil, .nil => rfl
  | _, _, _, .cons r t, .cons r' t' => by rw [r.inj r', Vals.inj t t']
section
variable {X : Cx} {pins : List (Addr × Obj)} {σ : St} {H : Hp} {s : Shared} {a : Addr} {xs ys : List V}
theorem SqL.of {K : PySem.W.Frag} (h : H a = some (.lst xs)) : SqL K H a xs := .inl (.inl h)
theorem SqT.of {K : PySem.W.Frag} (h : H a = some (.tup xs)) : SqT K H a xs := .inl (.inl h)
theorem Inv.list (I : Inv X pins σ H s) (h : SqL X.K H a xs) : ∃ its : List Value, Vals xs its ∧ PlainL s.heap a its.toArray ∧ xs.length ≤ sizeLine := by
  rcases h with h | ⟨o, its, n, hk, hc, hd, hs, hz, r⟩
  · obtain ⟨z, its, n, r, e⟩ := h.ok I.hok
    exact ⟨its, r, ⟨_, n, e, rfl, rfl, rfl⟩, z⟩
  · refine ⟨its.toList, r, ⟨o, n, I.kIn a o hk, hc, hd, by simpa using hs⟩, ?_⟩
    have e := r.length
    simp only [Array.length_toList] at e
    omega
theorem Inv.tuple (I : Inv X pins σ H s) (h : SqT X.K H a xs) : ∃ its : List Value, Vals xs its ∧ IsTup s.heap a its.toArray ∧ xs.length ≤ sizeLine := by
  rcases h with h | ⟨o, its, n, hk, hc, hs, hz, r⟩
  · obtain ⟨z, its, r, p⟩ := h.ok I.hok
    exact ⟨its, r, p, z⟩
  · refine ⟨its.toList, r, ⟨o, I.kIn a o hk, hc, n, by simpa using hs⟩, ?_⟩
    have e := r.length
    simp only [Array.length_toList] at e
    omega
theorem Inv.list_inj (I : Inv X pins σ H s) (h : SqL X.K H a xs) (h' : SqL X.K H a ys) : xs = ys := by
  obtain ⟨its, r, ⟨o, n, e, _, _, d⟩, _⟩ := I.list h
  obtain ⟨its', r', ⟨o', n', e', _, _, d'⟩, _⟩ := I.list h'
  rw [e] at e'; cases e'
  rw [d] at d'
  injection d' with d1 _
  have : its = its' := by simpa using congrArg Array.toList d1
  subst this
  exact r.inj r'
end

abbrev Cx.wish (X : Cx) (E : Value → Shared → Prop) : Cx := { X with xe := E }
abbrev Cx.nox (X : Cx) : Cx := X.wish fun _ _ => False
theorem Cx.Ok.wish {X : Cx} (ok : X.Ok) (E : Value → Shared → Prop) : (X.wish E).Ok :=
  ⟨ok.mod, ok.kind, ok.glob, ok.blt, ok.above, ok.inj, ok.has, ok.cab, ok.hd, ok.frames, ok.stk, ok.exf, ok.bs, ok.bsz, ok.noex, ok.exfs, ok.funs, ok.frf⟩
theorem Cx.Ok.unwish {X : Cx} {E : Value → Shared → Prop} (ok : (X.wish E).Ok) : X.Ok :=
  ⟨ok.mod, ok.kind, ok.glob, ok.blt, ok.above, ok.inj, ok.has, ok.cab, ok.hd, ok.frames, ok.stk, ok.exf, ok.bs, ok.bsz, ok.noex, ok.exfs, ok.funs, ok.frf⟩
section
variable {X : Cx} {pins : List (Addr × Obj)} {σ : St} {H : Hp} {s : Shared} {E : Value → Shared → Prop}
theorem Inv.wish (I : Inv X pins σ H s) (E : Value → Shared → Prop) : Inv (X.wish E) pins σ H s := ⟨I.ok.wish E, I.os, I.bare, I.base, I.loc, I.cell, I.free, I.freeC, I.pin, I.hok, I.len⟩
theorem Inv.unwish (I : Inv (X.wish E) pins σ H s) : Inv X pins σ H s := ⟨I.ok.unwish, I.os, I.bare, I.base, I.loc, I.cell, I.free, I.freeC, I.pin, I.hok, I.len⟩
theorem SP.unwish {D : Ends} {f : Flow} {s' : Shared} (h : SP (X.wish E) pins D f s') : SP X pins D f s' := by
  cases f with
  | next => obtain ⟨σ', H', I, q⟩ := h; exact ⟨σ', H', I.unwish, q⟩
  | brk => obtain ⟨σ', H', I, q⟩ := h; exact ⟨σ', H', I.unwish, q⟩
  | cont => obtain ⟨σ', H', I, q⟩ := h; exact ⟨σ', H', I.unwish, q⟩
  | ret u => obtain ⟨v, σ', H', I, r, q⟩ := h; exact ⟨v, σ', H', I.unwish, r, q⟩
theorem PSs.nox {st : List Stmt} {t : TS} (h : PSs X.nox st t) : PSs X st t := fun pins s σ H D I hw =>
  wpAny_mono (h pins s σ H D (I.wish _) hw) (fun _ _ q => q.unwish) fun _ _ z => False.elim z
end

section
variable {X : Cx} {st : Stmt} {rest : List Stmt} {t u : TS} {e : Expr} {te : TE} {pos : Pos}
def tNext : TS := fun D σ H => D.nx σ H
def tSeq (t u : TS) : TS := fun D σ H => t { D with nx := u D } σ H
theorem pss_nil : PSs X [] tNext := fun _ _ σ H _ I h => wpAny_execs_nil ⟨σ, H, I, h⟩
theorem pss_cons (h1 : PS X st t) (h2 : PSs X rest u) : PSs X (st :: rest) (tSeq t u) := by
  intro pins s σ H D I h
  refine wpAny_execs_cons (thn (h1 pins s σ H { D with nx := u D } I h) fun f s1 q => ?_)
  cases f with
  | next =>
    obtain ⟨σ', H', I', q⟩ := q
    exact h2 pins s1 σ' H' D I' q
  | ret v => exact q
  | brk => exact q
  | cont => exact q
theorem pss_one (h1 : PS X st t) : PSs X [st] t := by
  intro pins s σ H D I h
  refine wpAny_execs_cons (thn (h1 pins s σ H D I h) fun f s1 q => ?_)
  cases f with
  | next => exact wpAny_execs_nil q
  | ret v => exact q
  | brk => exact q
  | cont => exact q
theorem Inv.quiet {pins : List (Addr × Obj)} {σ : St} {H : Hp} {s : Shared} (I : Inv X pins σ H s) : interactive X.env = false := by simp [interactive, I.ok.kind]
def tDrop (te : TE) : TS := fun D σ H => te σ H fun _ H1 => D.nx σ H1
theorem ps_expr (he : PE X e te) (hs : swapsWith e none pos.line X.env = pure false := by rfl) : PS X (.Expr e pos) (tDrop te) := by
  intro pins s σ H D I h
  exact wpAny_Expr_any (thn (he pins s σ H _ I h) fun v s1 ⟨x, H1, I1, r1, q1⟩ => ⟨σ, H1, I1, q1⟩) I.quiet hs
def tRet (te : TE) : TS := fun D σ H => te σ H D.rt
theorem ps_ret (he : PE X e te) : PS X (.Return (some e) pos) (tRet te) := by
  intro pins s σ H D I h
  exact wpAny_Return_some (thn (he pins s σ H _ I h) fun v s1 ⟨x, H1, I1, r1, q1⟩ => ⟨x, σ, H1, I1, r1, q1⟩)
def tIfS (c : TT) (t u : TS) : TS := fun D σ H => c σ H fun b H1 => if b = true then t D σ H1 else u D σ H1
theorem ps_if {c : Expr} {a b : List Stmt} {tc : TT} (hc : PT X c tc) (ha : PSs X a t) (hb : PSs X b u) : PS X (.If c a b pos) (tIfS tc t u) := by
  intro pins s σ H D I h
  refine wpAny_If (thn (hc pins s σ H _ I h) fun d s1 ⟨H1, I1, q1⟩ => ?_)
  cases d with
  | true => exact ha pins s1 σ H1 D I1 q1
  | false => exact hb pins s1 σ H1 D I1 q1
def tNever : TS := fun _ _ _ => False
theorem ps_never : PS X st tNever := fun _ _ _ _ _ _ h => h.elim
theorem pss_never {sts : List Stmt} : PSs X sts tNever := fun _ _ _ _ _ _ h => h.elim
end

abbrev TG := V → St → Hp → (St → Hp → Prop) → Prop
abbrev TGs := List V → St → Hp → (St → Hp → Prop) → Prop
def PG (X : Cx) (target : Expr) (t : TG) : Prop :=
  ∀ (pins : List (Addr × Obj)) (s : Shared) (σ : St) (H : Hp) (v : V) (u : Value) (Q : St → Hp → Prop), Inv X pins σ H s → RelV v u → t v σ H Q →
    wpAny (model X.prog X.w) X.A (assign target X.env u) (fun _ s' => ∃ σ' H', Inv X pins σ' H' s' ∧ Q σ' H') X.xe s
def PGs (X : Cx) (ts : List Expr) (t : TGs) : Prop :=
  ∀ (pins : List (Addr × Obj)) (s : Shared) (σ : St) (H : Hp) (vs : List V) (us : List Value) (Q : St → Hp → Prop), Inv X pins σ H s → Vals vs us → t vs σ H Q →
    wpAny (model X.prog X.w) X.A (assignInOrder ((assignEach ts X.env).map (·.2)) us) (fun _ s' => ∃ σ' H', Inv X pins σ' H' s' ∧ Q σ' H') X.xe s
section
variable {X : Cx} {pos : Pos}
def gName (i : Nat) : TG := fun v σ H Q => Q (σ.set i (some v)) H
theorem pg_name {i : Nat} {x : Str} (hN : X.N.Nodup) (hi : X.N[i]? = some x) (hx : Loc X.env.scope x) (hf : X.fn x = true ∨ X.env.scope.names.lookup x = some .local := by first | exact .inl rfl | exact .inr rfl | assumption) : PG X (.Name x pos) (gName i) := by
  intro pins s σ H v u Q I r h
  exact wpAny_assign_Name (store_ok I hN hi hx r (fun s' I' => ⟨_, H, I', h⟩) hf)
def gNil : TGs := fun vs σ H Q => vs = [] ∧ Q σ H
def gCons (t : TG) (u : TGs) : TGs := fun vs σ H Q => ∃ v r, vs = v :: r ∧ t v σ H fun σ' H' => u r σ' H' Q
theorem pgs_nil : PGs X [] gNil := by
  intro pins s σ H vs us Q I r h
  obtain ⟨e, h⟩ := h
  subst e
  cases r
  exact assignInOrder_nil ⟨σ, H, I, h⟩
theorem pgs_cons {e : Expr} {es : List Expr} {t : TG} {u : TGs} (h1 : PG X e t) (h2 : PGs X es u)
    (hs : (assignEach (e :: es) X.env).map (·.2) = assign e X.env :: (assignEach es X.env).map (·.2) := by rfl) : PGs X (e :: es) (gCons t u) := by
  intro pins s σ H vs us Q I r h
  obtain ⟨v, vr, e1, h⟩ := h
  subst e1
  cases r with
  | cons r rr =>
    rw [hs]
    refine assignInOrder_cons (thn (h1 pins s σ H _ _ _ I r h) fun _ s1 ⟨σ1, H1, I1, q1⟩ => ?_)
    exact h2 pins s1 σ1 H1 _ _ Q I1 rr q1
def gTup (K : PySem.W.Frag) (n : Nat) (t : TGs) : TG := fun v σ H Q => ∃ a xs, v = .ref a ∧ SqT K H a xs ∧ xs.length = n ∧ t xs σ H Q
theorem pg_tup {es : List Expr} {k : Nat} {t : TGs} {n : Nat} (hc : X.calm = true) (h : PGs X es t)
    (hn : (assignEach es X.env).length = n := by rfl) (hst : (assignEach es X.env).findIdx? (·.1) = none := by rfl) : PG X (.Tuple es k pos) (gTup X.K n t) := by
  intro pins s σ H v u Q I r hw
  obtain ⟨a, xs, e1, hq, hl, hw⟩ := hw
  subst e1
  cases r
  obtain ⟨its, rv, ht, hz⟩ := I.tuple hq
  refine assign_Tuple_tuple (I.ok.hd hc) ht (by simp [hn, ← hl, rv.length]) hst fun h' hx => ?_
  have I1 : Inv X pins σ H { s with heap := h' } := I.kept (t' := s.toks) fun b o e => hx b o (Nat.ne_of_lt (Heap.lt_size e)) e
  exact h pins _ σ H xs _ Q I1 (by simpa using rv) hw
def tAsg (te : TE) (g : TG) : TS := fun D σ H => te σ H fun x H1 => g x σ H1 D.nx
theorem ps_asg {tg e : Expr} {te : TE} {g : TG} (he : PE X e te) (hg : PG X tg g) (hs : swapsWithSole [tg] e pos.line X.env = pure false := by rfl) (hw : swappedStores [tg] e X.env = pure none := by rfl)
    (h1 : (assignEach [tg] X.env).map (·.2) = [assign tg X.env] := by rfl) : PS X (.Assign [tg] e pos) (tAsg te g) := by
  intro pins s σ H D I h
  refine wpAny_Assign_stores (thn (he pins s σ H _ I h) fun v s1 ⟨x, H1, I1, r1, q1⟩ => ?_) hs hw
  rw [h1]
  exact thn (hg pins s1 σ H1 x v _ I1 r1 q1) fun _ s2 q => q
theorem ps_set {i : Nat} {x : Str} {e : Expr} {te : TE} {pos' : Pos} (hN : X.N.Nodup) (hi : X.N[i]? = some x) (hx : Loc X.env.scope x) (he : PE X e te) (hs : swapsWith e (some (.Name x pos')) pos.line X.env = pure false := by rfl) (hf : X.fn x = true ∨ X.env.scope.names.lookup x = some .local := by first | exact .inl rfl | exact .inr rfl | assumption) :
    PS X (.Assign [.Name x pos'] e pos) (tAsg te (gName i)) := by
  intro pins s σ H D I h
  refine wpAny_Assign_Name (thn (he pins s σ H _ I h) fun v s1 ⟨y, H1, I1, r1, q1⟩ => ?_) hs
  exact store_ok I1 hN hi hx r1 (fun s2 I2 => ⟨_, H1, I2, q1⟩) hf
end

structure It where
  go : Nat → Hp → Prop
  yld : Nat → Hp → V → Hp → Prop
  stop : Nat → Hp → Prop
def FpOk (X : Cx) (pins : List (Addr × Obj)) (H : Hp) (b : Addr) : Prop :=
  H b = none ∧ b ≠ X.env.locals ∧ b ∉ X.fs ∧ (b ∈ X.ex ∨ X.s₀.heap.objs.size ≤ b) ∧ (∀ x c, X.env.cells.lookup x = some c → c ≠ b) ∧ ∀ p ∈ X.pn ++ pins, p.1 ≠ b
theorem Inv.fpOk {X : Cx} {pins : List (Addr × Obj)} {σ : St} {H H' : Hp} {s : Shared} {b : Addr} (I : Inv X pins σ H s) (hb : s.heap.objs.size ≤ b) (hn : H' b = none) : FpOk X pins H' b := by
  refine ⟨hn, Nat.ne_of_gt (Nat.lt_of_lt_of_le I.lt hb), I.nofs hb, .inr (Nat.le_trans I.sz hb), fun x c e z => ?_, fun p hp z => ?_⟩
  · obtain ⟨v, q⟩ := I.cell x c e
    exact absurd (Nat.lt_of_lt_of_le q.lt (by rw [z]; exact hb)) (Nat.lt_irrefl _)
  · exact absurd (Nat.lt_of_lt_of_le (Heap.lt_size (I.pin p hp).1) (by rw [z]; exact hb)) (Nat.lt_irrefl _)
structure Turn (P : Program) (w : World) (K : PySem.W.Frag) (tg : Expr) (J : It) (fp : List Addr) (it : Addr) (tn : Nat → Heap → Prop) : Prop where
  mem : it ∈ fp
  obj : ∀ i h, tn i h → ∀ b ∈ fp, ∃ o, h.get? b = some o ∧ ∀ v, o.data ≠ .cell v
  keep : ∀ i h h', tn i h → (∀ b ∈ fp, ∀ o, h.get? b = some o → h'.get? b = some o) → tn i h'
  item : ∀ (X : Cx), X.prog = P → X.w = w → X.K = K → X.calm = true → ∀ (i : Nat) (pins : List (Addr × Obj)) (s : Shared) (σ : St) (H : Hp) (E : Value → Shared → Prop), Inv X pins σ H s → (∀ b ∈ fp, FpOk X pins H b) → tn i s.heap → J.go i H →
    wpAny (model P w) X.A (pyNext (.ref it)) (fun r s1 => ∃ u, r = some u ∧
      wpAny (model P w) X.A (letOwnedTupleGo tg (.ref it) u) (fun _ s2 => ∃ x H', Inv X pins σ H' s2 ∧ RelV x u ∧ J.yld i H x H' ∧ tn (i + 1) s2.heap ∧ ∀ b ∈ fp, H' b = none) E s1) E s
  done : ∀ (X : Cx), X.prog = P → X.w = w → X.K = K → X.calm = true → ∀ (i : Nat) (pins : List (Addr × Obj)) (s : Shared) (σ : St) (H : Hp) (E : Value → Shared → Prop), Inv X pins σ H s → (∀ b ∈ fp, FpOk X pins H b) → tn i s.heap → J.stop i H →
    wpAny (model P w) X.A (pyNext (.ref it)) (fun r s1 => r = none ∧ Inv X pins σ H s1) E s
  self : ∀ (A : Around) (i : Nat) (s : Shared) (Q : Value → Shared → Prop) (E : Value → Shared → Prop), tn i s.heap → Q (.ref it) s → wpAny (model P w) A (pyIter (.ref it)) Q E s
abbrev TI := St → Hp → (It → Hp → Prop) → Prop
def PIE (X : Cx) (pins : List (Addr × Obj)) (σ : St) (tg : Expr) (R : It → Hp → Prop) (itv : Value) (s2 : Shared) : Prop :=
  ∃ (it : Addr) (fp : List Addr) (tn : Nat → Heap → Prop) (J : It) (H' : Hp), itv = .ref it ∧ Inv X pins σ H' s2 ∧ Turn X.prog X.w X.K tg J fp it tn ∧ tn 0 s2.heap ∧ (∀ b ∈ fp, FpOk X pins H' b) ∧ R J H'
def PI (X : Cx) (tg iter : Expr) (wi : TI) : Prop :=
  ∀ (pins : List (Addr × Obj)) (s : Shared) (σ : St) (H : Hp) (R : It → Hp → Prop), Inv X pins σ H s → wi σ H R →
    wpAny (model X.prog X.w) X.A (eval iter X.env) (fun v s1 => wpAny (model X.prog X.w) X.A (pyIter v) (PIE X pins σ tg R) X.xe s1) X.xe s

theorem go_of {M : Model} {A : Around} {E : Value → Shared → Prop} {s : Shared} {tg : Expr} {it : Addr} {u : Value} {o : Obj} {n : String} {vs : Array Value} {Q : Unit → Shared → Prop} (ho : s.heap.get? it = some o) (hc : o.cls = .type n) (hd : o.data = .fields vs)
    (hn : ["enumerate", "zip", "dict_itemiterator", "dict_reverseitemiterator", "odict_iterator", "itertools.zip_longest", "itertools.pairwise"].contains n = false) (hQ : Q () s) : wpAny M A (letOwnedTupleGo tg (.ref it) u) Q E s := by
  unfold letOwnedTupleGo
  cases tg <;> first
    | exact wpAny_pure hQ
    | (cases u <;> first
        | exact wpAny_pure hQ
        | (refine wpAny_bind (wpAny_load ho ?_)
           rw [hc, hd]
           show wpAny M A (if (["enumerate", "zip", "dict_itemiterator", "dict_reverseitemiterator", "odict_iterator", "itertools.zip_longest", "itertools.pairwise"].contains n && vs[0]? == some (rawInt _)) = true then _ else _) Q E s
           rw [if_neg (by intro h; rw [hn, Bool.false_and] at h; cases h)]
           exact wpAny_pure hQ))

def Itl (K : PySem.W.Frag) (a : Addr) : It :=
  ⟨fun i H => ∃ xs x, SqL K H a xs ∧ xs[i]? = some x, fun i H x H' => H' = H ∧ ∀ xs, SqL K H a xs → xs[i]? = some x, fun i H => ∃ xs, SqL K H a xs ∧ xs.length ≤ i⟩
def Itr (lo : Int) (n : Nat) : It := ⟨fun i _ => i < n, fun i H x H' => H' = H ∧ x = .int (lo + i), fun i _ => n ≤ i⟩
theorem turn_list {P : Program} {w : World} {K : PySem.W.Frag} {tg : Expr} (a it : Addr) : Turn P w K tg (Itl K a) [it] it (fun i h => h.IsListIter it a i) where
  mem := by simp
  obj := fun i h st b hb => by
    have e : b = it := by simpa using hb
    subst e
    obtain ⟨o, e, c, d⟩ := st
    exact ⟨o, e, fun v z => by rw [d] at z; cases z⟩
  keep := fun i h h' st k => st.at fun o e => k it (by simp) o e
  item := by
    intro X hP hw hK hc i pins s σ H E I hf st hg
    subst hP hw hK
    obtain ⟨xs, x, hq, hx⟩ := hg
    obtain ⟨its, rv, p, hz⟩ := I.list hq
    obtain ⟨u, hu, ru⟩ := rv.get hx
    obtain ⟨f0, f1, f2, f3, f4, f5⟩ := hf it (by simp)
    refine wpAny_pyNext_list_item st p.isList (x := u) (by simpa using hu) fun h' st' sb => ?_
    have I1 : Inv X pins σ H { s with heap := h' } := I.turned (t' := s.toks) (fun b o hb e => (sb.2 b hb).trans e) f0 f1 f3 f4 f5
    obtain ⟨o, e, c, d⟩ := id st'
    exact ⟨u, rfl, go_of (s := { s with heap := h' }) e c d (by decide) ⟨x, H, I1, ru, ⟨rfl, fun ys hy => by rw [I.list_inj hy hq]; exact hx⟩, st', fun b hb => (hf b hb).1⟩⟩
  done := by
    intro X hP hw hK hc i pins s σ H E I hf st hg
    subst hP hw hK
    obtain ⟨xs, hq, hx⟩ := hg
    obtain ⟨its, rv, p, hz⟩ := I.list hq
    obtain ⟨f0, f1, f2, f3, f4, f5⟩ := hf it (by simp)
    have hl := rv.length
    exact wpAny_pyNext_list_end (I.ok.hd hc) st p.isList (by simp; omega) fun h' eb => ⟨rfl, I.turned (t' := s.toks) (fun b o hb e => eb b o hb e) f0 f1 f3 f4 f5⟩
  self := fun _ _ _ _ _ st h => wpAny_pyIter_listiter st h
theorem turn_range {P : Program} {w : World} {K : PySem.W.Frag} {tg : Expr} (it : Addr) (lo : Int) (n : Nat) : Turn P w K tg (Itr lo n) [it] it (fun i h => IsRangeIter h it (lo + (i : Nat) * 1) ((n : Int) - (i : Nat)) 1) where
  mem := by simp
  obj := fun i h st b hb => by
    have e : b = it := by simpa using hb
    subst e
    exact ⟨_, st, fun v z => by
      have z' : Data.fields _ = Data.cell v := z
      cases z'⟩
  keep := fun i h h' st k => k it (by simp) _ st
  item := by
    intro X hP hw hK hc i pins s σ H E I hf st hg
    subst hP hw hK
    obtain ⟨f0, f1, f2, f3, f4, f5⟩ := hf it (by simp)
    have W := Walks.range (prog := X.prog) (w := X.w) (I.ok.hd hc) it lo 1 n
    refine W.item i s _ _ hg st fun v h' tk hv st' kk => ?_
    obtain ⟨t, rfl⟩ := hv
    have I1 : Inv X pins σ H { s with heap := h', toks := tk } := I.turned (fun b o hb e => kk b o (by simpa using hb) e) f0 f1 f3 f4 f5
    refine ⟨_, rfl, go_of (s := { s with heap := h', toks := tk }) (n := "range_iterator") st' rfl rfl (by decide) ⟨.int (lo + i), H, I1, ⟨t, ?_⟩, ⟨rfl, rfl⟩, st', fun b hb => (hf b hb).1⟩⟩
    rw [Int.mul_one]
  done := by
    intro X hP hw hK hc i pins s σ H E I hf st hg
    subst hP hw hK
    obtain ⟨f0, f1, f2, f3, f4, f5⟩ := hf it (by simp)
    exact wpAny_pyNext_range_end (I.ok.hd hc) st (by have : n ≤ i := hg; omega) fun h' eb => ⟨rfl, I.turned (t' := s.toks) (fun b o hb e => eb b o hb e) f0 f1 f3 f4 f5⟩
  self := fun _ _ _ _ _ st h => wpAny_pyIter_rangeiter st h
end L2

namespace L2
open PySem PySem.Spec PyProof.Rows
section
variable {X : Cx} {tg : Expr}
def iList (K : PySem.W.Frag) (tl : TE) : TI := fun σ H R => tl σ H fun x H1 => ∃ a, x = .ref a ∧ (∃ xs, SqL K H1 a xs) ∧ R (Itl K a) H1
theorem pi_list {l : Expr} {tl : TE} (hl : PE X l tl) : PI X tg l (iList X.K tl) := by
  intro pins s σ H R I h
  refine thn (hl pins s σ H _ I h) fun v s1 ⟨x, H1, I1, r1, q1⟩ => ?_
  obtain ⟨a, e, ⟨xs, hq⟩, q⟩ := q1
  subst e
  cases r1
  obtain ⟨its, rv, p, hz⟩ := I1.list hq
  refine wpAny_pyIter_list p.isList ?_
  refine ⟨s1.heap.objs.size, [s1.heap.objs.size], _, _, H1, rfl, I1.kept (t' := s1.toks) fun b o e => Heap.get?_push_of_some _ e, turn_list a _, ⟨_, Heap.get?_push_size _ rfl, rfl, rfl⟩, fun b hb => ?_, q⟩
  have e : b = s1.heap.objs.size := by simpa using hb
  subst e
  exact I1.fpOk (Nat.le_refl _) (I1.hok.fresh (Nat.le_refl _))
theorem range_it {pins : List (Addr × Obj)} {σ : St} {H : Hp} {s : Shared} {R : It → Hp → Prop} {E : Value → Shared → Prop} {lo hi : Int} {t u v : Tok} {tk : Nat} (I : Inv X pins σ H s) (h1 : -(2 ^ 62) ≤ lo) (h2 : lo < 2 ^ 62) (h3 : -(2 ^ 62) ≤ hi) (h4 : hi < 2 ^ 62)
    (q : R (Itr lo (hi - lo).toNat) H) : wpAny (model X.prog X.w) X.A (pyIter (.ref s.heap.objs.size)) (PIE X pins σ tg R) E { s with heap := s.heap.push { cls := .type "range", data := .fields #[.int lo t, .int hi u, .int 1 v] }, toks := tk } := by
  refine wpAny_pyIter_range (IsRange.new ..) (small_one h1 h2 h3 h4) ?_
  have I1 : Inv X pins σ H { s with heap := s.heap.push { cls := .type "range", data := .fields #[.int lo t, .int hi u, .int 1 v] }, toks := tk } := I.kept fun b o e => Heap.get?_push_of_some _ e
  refine ⟨(s.heap.push { cls := .type "range", data := .fields #[.int lo t, .int hi u, .int 1 v] }).objs.size, [(s.heap.push { cls := .type "range", data := .fields #[.int lo t, .int hi u, .int 1 v] }).objs.size], _, _, H, rfl,
    I1.kept (t' := tk) fun b o e => Heap.get?_push_of_some _ e, turn_range _ lo (hi - lo).toNat, ?_, fun b hb => ?_, q⟩
  · have e1 : lo + ((0 : Nat) : Int) * 1 = lo := by simp
    have e2 : (((hi - lo).toNat : Nat) : Int) - ((0 : Nat) : Int) = Builtin.Range.rangeSize lo hi 1 := by rw [rangeSize_one]; split <;> omega
    show IsRangeIter _ _ (lo + ((0 : Nat) : Int) * 1) ((((hi - lo).toNat : Nat) : Int) - ((0 : Nat) : Int)) 1
    rw [e1, e2]
    exact Heap.get?_push_size _ rfl
  · have e : b = (s.heap.push { cls := .type "range", data := .fields #[.int lo t, .int hi u, .int 1 v] }).objs.size := by simpa using hb
    subst e
    exact I1.fpOk (Nat.le_refl _) (I1.hok.fresh (Nat.le_refl _))
def iRng1 (ta : TA) : TI := fun σ H R => ta σ H fun vs H1 => ∃ j : Int, vs = [.int j] ∧ -(2 ^ 62) ≤ j ∧ j < 2 ^ 62 ∧ R (Itr 0 j.toNat) H1
theorem pi_range1 {a : Expr} {ta : TA} {p pos : Pos} (hg : Gl X "range") (hm : X.mg "range" = none) (ha : PA X [a] ta) (hs : starEach [a] X.env = [(false, eval a X.env)] := by rfl) : PI X tg (.Call (.Name "range" p) [a] [] pos) (iRng1 ta) := by
  intro pins s σ H R I h
  refine Call_ (ld_blt I hg hm boot_range (PyProof.Rows.callWith_type1 (thn (ha pos pins s σ H _ I h) fun us s1 ⟨vs, H1, I1, r1, q1⟩ => ?_) hs rfl))
  obtain ⟨j, e, q1, q2, q⟩ := q1
  subst e
  cases r1 with
  | cons r rr =>
    cases rr
    obtain ⟨t, rfl⟩ := r
    exact call_range_1 (range_it I1 (by omega) (by omega) q1 q2 (by simpa using q))
def tFor (wi : TI) (g : TG) (tb : TS) : TS := fun D σ H => wi σ H fun J H1 => ∃ W : Nat → Nat → St → Hp → Prop, (∃ m, W 0 m σ H1) ∧ ∀ i m σ H, W i m σ H →
  (J.stop i H ∧ D.nx σ H) ∨ (J.go i H ∧ ∃ N : St → Hp → Prop, (∀ σ' H', N σ' H' → ∃ m', m' < m ∧ W (i + 1) m' σ' H') ∧ ∀ x H', J.yld i H x H' → g x σ H' fun σ2 H2 => tb { D with nx := N, ct := N, bk := D.nx } σ2 H2)
def pinsAt (fp : List Addr) (h : Heap) : List (Addr × Obj) := fp.filterMap fun b => (h.get? b).map fun o => (b, o)
theorem mem_pinsAt {fp : List Addr} {h : Heap} {b : Addr} {o : Obj} (hb : b ∈ fp) (e : h.get? b = some o) : (b, o) ∈ pinsAt fp h := List.mem_filterMap.mpr ⟨b, hb, by rw [e]; rfl⟩
theorem of_pinsAt {fp : List Addr} {h : Heap} {p : Addr × Obj} (hp : p ∈ pinsAt fp h) : p.1 ∈ fp ∧ h.get? p.1 = some p.2 := by
  obtain ⟨b, hb, e⟩ := List.mem_filterMap.mp hp
  cases q : h.get? b with
  | none => rw [q] at e; cases e
  | some o =>
    rw [q] at e
    have e' : (b, o) = p := Option.some.inj e
    subst e'
    exact ⟨hb, q⟩
theorem Inv.pinned {pins : List (Addr × Obj)} {σ : St} {H : Hp} {s : Shared} {fp : List Addr} (I : Inv X pins σ H s) (hf : ∀ b ∈ fp, FpOk X pins H b) (ho : ∀ b ∈ fp, ∃ o, s.heap.get? b = some o ∧ ∀ v, o.data ≠ .cell v) : Inv X (pins ++ pinsAt fp s.heap) σ H s :=
  I.pins_of fun p hp => (List.mem_append.mp hp).elim (fun z => I.pin p (List.mem_append_right _ z)) fun z => by
    obtain ⟨hb, e⟩ := of_pinsAt z
    obtain ⟨f0, f1, f2, _⟩ := hf p.1 hb
    obtain ⟨o, e', d⟩ := ho p.1 hb
    rw [e] at e'; cases e'
    exact ⟨e, f0, f1, f2, d⟩
theorem Inv.unpinned {pins pl : List (Addr × Obj)} {σ : St} {H : Hp} {s : Shared} (I : Inv X (pins ++ pl) σ H s) : Inv X pins σ H s := I.pins_of fun p hp => I.pin p (List.mem_append_right _ (List.mem_append_left _ hp))
theorem ps_for {iter : Expr} {body : List Stmt} {wi : TI} {g : TG} {tb : TS} {pos : Pos} (hp : PassesOwn (model X.prog X.w) X.A X.env X.xe) (hc : X.calm = true) (hi : PI X tg iter wi) (hg : PG X tg g) (hb : PSs X body tb)
    (hs : ∀ x, foldedSetIterable iter X.env x = pure x := by intro _; rfl) : PS X (.For tg iter body [] pos) (tFor wi g tb) := by
  intro pins s σ H D I h
  refine wpAny_For (thn (hi pins s σ H _ I h) fun v s1 h1 => thn h1 fun itv s2 h2 => ?_) hs
  obtain ⟨it, fp, tn, J, H2, e, I2, T, st2, f2, W, ⟨m0, w0⟩, turn⟩ := h2
  subst e
  -- what stays true of the iterator's objects through the loop
  have stat : ∀ {H' : Hp}, (∀ b ∈ fp, H' b = none) → ∀ b ∈ fp, FpOk X pins H' b := fun hn b hb => ⟨hn b hb, (f2 b hb).2⟩
  refine codeAny_forLoop_any (fun n s' => ∃ i σ' H', Inv X pins σ' H' s' ∧ tn i s'.heap ∧ (∀ b ∈ fp, H' b = none) ∧ W i n σ' H') ?_ m0 ⟨0, σ, H2, I2, st2, fun b hb => (f2 b hb).1, w0⟩
  rintro n s3 ⟨i, σ3, H3, I3, st3, fr3, w3⟩
  rcases turn i n σ3 H3 w3 with ⟨stop, qn⟩ | ⟨go, N, hN, step⟩
  · refine wpAny_passesOwn hp (thn (T.done X rfl rfl rfl hc i pins s3 σ3 H3 X.xe I3 (stat fr3) st3 stop) fun r s4 ⟨hr, I4⟩ => ?_)
    subst hr
    exact wpAny_execs_nil ⟨σ3, H3, I4, qn⟩
  · refine wpAny_passesOwn hp (thn (T.item X rfl rfl rfl hc i pins s3 σ3 H3 X.xe I3 (stat fr3) st3 go) fun r s4 ⟨u, hr, h4⟩ => ?_)
    subst hr
    refine wpAny_passesOwn hp (thn h4 fun _ s5 ⟨x, H5, I5, r5, y5, st5, fr5⟩ => ?_)
    have I5' := I5.pinned (stat fr5) (T.obj _ _ st5)
    refine wpAny_passesOwn hp (thn (hg _ s5 σ3 H5 x u _ I5' r5 (step x H5 y5)) fun _ s6 ⟨σ6, H6, I6, q6⟩ => ?_)
    refine wpAny_passesOwn hp (thn (hb _ s6 σ6 H6 _ I6 q6) fun f s7 q7 => ?_)
    have again : ∀ {σ7 : St} {H7 : Hp}, Inv X (pins ++ pinsAt fp s5.heap) σ7 H7 s7 → N σ7 H7 → ∃ m, m < n ∧ ∃ i σ' H', Inv X pins σ' H' s7 ∧ tn i s7.heap ∧ (∀ b ∈ fp, H' b = none) ∧ W i m σ' H' := fun {σ7 H7} I7 n7 => by
      obtain ⟨m', hm, w7⟩ := hN σ7 H7 n7
      refine ⟨m', hm, i + 1, σ7, H7, I7.unpinned, T.keep _ _ _ st5 fun b hb o e => (I7.pin (b, o) (List.mem_append_right _ (List.mem_append_right _ (mem_pinsAt hb e)))).1, fun b hb => ?_, w7⟩
      obtain ⟨o, e, d⟩ := T.obj _ _ st5 b hb
      exact (I7.pin (b, o) (List.mem_append_right _ (List.mem_append_right _ (mem_pinsAt hb e)))).2.1
    cases f with
    | next => obtain ⟨σ7, H7, I7, n7⟩ := q7; exact again I7 n7
    | cont => obtain ⟨σ7, H7, I7, n7⟩ := q7; exact again I7 n7
    | brk => obtain ⟨σ7, H7, I7, q7⟩ := q7; exact ⟨σ7, H7, I7.unpinned, q7⟩
    | ret v => obtain ⟨x7, σ7, H7, I7, r7, q7⟩ := q7; exact ⟨x7, σ7, H7, I7.unpinned, r7, q7⟩
end

end L2

namespace L2
open PySem PySem.Spec PyProof.Rows

abbrev R2 := V → V → Hp → VK → Prop
def OpR (X : Cx) (f : Value → Value → Sem Value) (r : R2) : Prop :=
  ∀ (pins : List (Addr × Obj)) (s : Shared) (σ : St) (H : Hp) (x y : V) (v u : Value) (Q : VK), Inv X pins σ H s → RelV x v → RelV y u → r x y H Q →
    wpAny (model X.prog X.w) X.A (f v u) (EP X pins σ Q) X.xe s
def UnR (X : Cx) (f : Value → Sem Value) (r : V → Hp → VK → Prop) : Prop :=
  ∀ (pins : List (Addr × Obj)) (s : Shared) (σ : St) (H : Hp) (x : V) (v : Value) (Q : VK), Inv X pins σ H s → RelV x v → r x H Q →
    wpAny (model X.prog X.w) X.A (f v) (EP X pins σ Q) X.xe s
def CallR (X : Cx) (f : Value) (r : List V → Hp → VK → Prop) : Prop :=
  ∀ (pins : List (Addr × Obj)) (s : Shared) (σ : St) (H : Hp) (xs : List V) (us : List Value) (Q : VK), Inv X pins σ H s → Vals xs us → r xs H Q →
    wpAny (model X.prog X.w) X.A (call f us) (EP X pins σ Q) X.xe s
def tOp (r : R2) (ta tb : TE) : TE := fun σ H Q => ta σ H fun x H1 => tb σ H1 fun y H2 => r x y H2 Q
def tUn (r : V → Hp → VK → Prop) (ta : TE) : TE := fun σ H Q => ta σ H fun x H1 => r x H1 Q
def rI (C : Int → Int → Prop) (g : Int → Int → V) : R2 := fun x y H Q => ∃ i j, x = .int i ∧ y = .int j ∧ C i j ∧ Q (g i j) H
def rI0 (g : Int → Int → V) : R2 := fun x y H Q => ∃ i j, x = .int i ∧ y = .int j ∧ Q (g i j) H
def rU (g : Int → V) : V → Hp → VK → Prop := fun x H Q => ∃ i, x = .int i ∧ Q (g i) H

section
variable {X : Cx} {a b c : Expr} {ta tb tc : TE} {pos : Pos}

theorem binT (ha : PE X a ta) (hb : PE X b tb) {pins : List (Addr × Obj)} {s : Shared} {σ : St} {H : Hp} {R : V → V → Hp → Prop} (I : Inv X pins σ H s)
    (h : ta σ H fun x H1 => tb σ H1 fun y H2 => R x y H2) {Q : Value → Shared → Prop} {f : Value → Value → Sem Value}
    (hf : ∀ v u s2 x y H2, Inv X pins σ H2 s2 → RelV x v → RelV y u → R x y H2 → wpAny (model X.prog X.w) X.A (f v u) Q X.xe s2) :
    wpAny (model X.prog X.w) X.A (eval a X.env) (fun v s₁ => wpAny (model X.prog X.w) X.A (eval b X.env) (fun u s₂ => wpAny (model X.prog X.w) X.A (f v u) Q X.xe s₂) X.xe s₁) X.xe s := by
  refine thn (ha pins s σ H _ I h) fun v s1 ⟨x, H1, I1, r1, q1⟩ => ?_
  refine thn (hb pins s1 σ H1 _ I1 q1) fun u s2 ⟨y, H2, I2, r2, q2⟩ => ?_
  exact hf v u s2 x y H2 I2 r1 r2 q2

theorem pe_op {op : Operator} {r : R2} (ho : OpR X (binaryOp op) r) (ha : PE X a ta) (hb : PE X b tb) : PE X (.BinOp a op b pos) (tOp r ta tb) := by
  intro pins s σ H Q I h
  exact wpAny_BinOp (binT ha hb I h fun v u s2 x y H2 I2 rx ry q => ho pins s2 σ H2 x y v u Q I2 rx ry q)
theorem pe_un {op : UnaryOp} {r : V → Hp → VK → Prop} (ho : UnR X (unaryOp op) r) (ha : PE X a ta) : PE X (.UnaryOp op a pos) (tUn r ta) := by
  intro pins s σ H Q I h
  exact UnaryOp_ (thn (ha pins s σ H _ I h) fun v s1 ⟨x, H1, I1, r1, q1⟩ => ho pins s1 σ H1 x v Q I1 r1 q1)
theorem opI {f : Value → Value → Sem Value} {C : Int → Int → Prop} {g : Int → Int → Int}
    (rule : ∀ (i j : Int) (t u : Tok) (s : Shared) (Q : Value → Shared → Prop) (E : Value → Shared → Prop), C i j → Q (.int (g i j) s.toks) { s with toks := s.toks + 1 } → wpAny (model X.prog X.w) X.A (f (.int i t) (.int j u)) Q E s) :
    OpR X f (rI C fun i j => .int (g i j)) := by
  intro pins s σ H x y v u Q I rx ry h
  obtain ⟨i, j, rfl, rfl, hc, q⟩ := h
  obtain ⟨t, rfl⟩ := rx
  obtain ⟨t', rfl⟩ := ry
  exact rule i j t t' s _ _ hc ⟨.int (g i j), H, I.tok _, ⟨_, rfl⟩, q⟩
theorem opI0 {f : Value → Value → Sem Value} {g : Int → Int → Int}
    (rule : ∀ (i j : Int) (t u : Tok) (s : Shared) (Q : Value → Shared → Prop) (E : Value → Shared → Prop), Q (.int (g i j) s.toks) { s with toks := s.toks + 1 } → wpAny (model X.prog X.w) X.A (f (.int i t) (.int j u)) Q E s) :
    OpR X f (rI0 fun i j => .int (g i j)) := by
  intro pins s σ H x y v u Q I rx ry h
  obtain ⟨i, j, rfl, rfl, q⟩ := h
  obtain ⟨t, rfl⟩ := rx
  obtain ⟨t', rfl⟩ := ry
  exact rule i j t t' s _ _ ⟨.int (g i j), H, I.tok _, ⟨_, rfl⟩, q⟩
theorem opB0 {f : Value → Value → Sem Value} {g : Int → Int → Bool}
    (rule : ∀ (i j : Int) (t u : Tok) (s : Shared) (Q : Value → Shared → Prop) (E : Value → Shared → Prop), Q (.bool (g i j)) s → wpAny (model X.prog X.w) X.A (f (.int i t) (.int j u)) Q E s) :
    OpR X f (rI0 fun i j => .bl (g i j)) := by
  intro pins s σ H x y v u Q I rx ry h
  obtain ⟨i, j, rfl, rfl, q⟩ := h
  obtain ⟨t, rfl⟩ := rx
  obtain ⟨t', rfl⟩ := ry
  exact rule i j t t' s _ _ ⟨.bl (g i j), H, I, rfl, q⟩

def CPow (i j : Int) : Prop := 0 ≤ j ∧ j ≤ 1000000 ∧ i.natAbs < 2 ^ 64
theorem op_add : OpR X (binaryOp .Add) (rI0 fun i j => .int (i + j)) := opI0 fun _ _ _ _ _ _ _ q => add_int q
theorem op_sub : OpR X (binaryOp .Sub) (rI0 fun i j => .int (i - j)) := opI0 fun _ _ _ _ _ _ _ q => sub_int q
theorem op_mod : OpR X (binaryOp .Mod) (rI (fun _ j => 0 < j) fun i j => .int (i % j)) := opI fun i j _ _ _ _ _ hc q => by
  have h1 : (0 : Int) < j := hc
  exact mod_int' (by omega) (by rw [Int.fmod_eq_emod_of_nonneg i (by omega)]; exact q)
theorem op_pow : OpR X (binaryOp .Pow) (rI CPow fun i j => .int (i ^ j.toNat)) := opI fun _ _ _ _ _ _ _ hc q => pow_int_small hc.1 hc.2.1 hc.2.2 q
theorem unI {f : Value → Sem Value} {g : Int → Int}
    (rule : ∀ (i : Int) (t : Tok) (s : Shared) (Q : Value → Shared → Prop) (E : Value → Shared → Prop), Q (.int (g i) s.toks) { s with toks := s.toks + 1 } → wpAny (model X.prog X.w) X.A (f (.int i t)) Q E s) :
    UnR X f (rU fun i => .int (g i)) := by
  intro pins s σ H x v Q I rx h
  obtain ⟨i, rfl, q⟩ := h
  obtain ⟨t, rfl⟩ := rx
  exact rule i t s _ _ ⟨.int (g i), H, I.tok _, ⟨_, rfl⟩, q⟩
theorem un_neg : UnR X (unaryOp .USub) (rU fun i => .int (-i)) := unI fun _ _ _ _ _ q => neg_int q
end

def scal : V → V → Bool
  | .non, .non => true | .non, .int _ => true | .int _, .non => true | .non, .bl _ => true | .bl _, .non => true | .non, .str _ => true | .str _, .non => true
  | .int _, .int _ => true | .bl _, .bl _ => true | .str _, .str _ => true | .byt _, .byt _ => true
  | .int _, .str _ => true | .str _, .int _ => true | .bl _, .str _ => true | .str _, .bl _ => true
  | _, _ => false
def rEq : R2 := fun x y H Q => scal x y = true ∧ Q (.bl (decide (x = y))) H
def rNe : R2 := fun x y H Q => scal x y = true ∧ Q (.bl (!decide (x = y))) H

theorem dec_int {i j : Int} : decide (V.int i = V.int j) = (i == j) := by
  rw [Bool.eq_iff_iff]
  simp
theorem dec_bl {i j : Bool} : decide (V.bl i = V.bl j) = (i == j) := by
  rw [Bool.eq_iff_iff]
  simp
theorem dec_str {i j : Str} : decide (V.str i = V.str j) = (i == j) := by
  rw [Bool.eq_iff_iff]
  simp
theorem dec_byt {i j : Array UInt8} : decide (V.byt i = V.byt j) = (i.toList == j.toList) := by
  rw [Bool.eq_iff_iff]
  cases i
  cases j
  simp

section
variable {X : Cx} {a b c : Expr} {ta tb tc : TE} {pos : Pos}
theorem fin_bl {pins : List (Addr × Obj)} {σ : St} {H : Hp} {s : Shared} {Q : VK} {k k' : Bool} (I : Inv X pins σ H s) (q : Q (.bl k) H) (e : k = k') : EP X pins σ Q (.bool k') s := by
  subst e
  exact ⟨.bl k, H, I, rfl, q⟩
theorem op_eq : OpR X (compareOp .Eq) rEq := by
  intro pins s σ H x y v u Q I rx ry h
  obtain ⟨hs, q⟩ := h
  cases x with
  | non =>
    cases rx
    cases y with
    | non => cases ry; exact PySem.EqNone.eq_none_none (fin_bl I q (by simp))
    | bl j => cases ry; exact PySem.EqNone.eq_none_bool (fin_bl I q (by simp))
    | int j => obtain ⟨t', rfl⟩ := ry; exact PySem.EqNone.eq_none_int (fin_bl I q (by simp))
    | str j => obtain ⟨t', rfl⟩ := ry; exact PySem.EqNone.eq_none_str (fin_bl I q (by simp))
    | _ => exact absurd (show false = true from hs) Bool.false_ne_true
  | bl i =>
    cases rx
    cases y with
    | non => cases ry; exact PySem.EqNone.eq_bool_none (fin_bl I q (by simp))
    | bl j => cases ry; exact eq_bool (fin_bl I q dec_bl)
    | str j => obtain ⟨t', rfl⟩ := ry; exact PySem.EqMixed.eq_bool_str (fin_bl I q (by simp))
    | _ => exact absurd (show false = true from hs) Bool.false_ne_true
  | int i =>
    obtain ⟨t, rfl⟩ := rx
    cases y with
    | non => cases ry; exact PySem.EqNone.eq_int_none (fin_bl I q (by simp))
    | int j => obtain ⟨t', rfl⟩ := ry; exact eq_int (fin_bl I q dec_int)
    | str j => obtain ⟨t', rfl⟩ := ry; exact PySem.EqMixed.eq_int_str (fin_bl I q (by simp))
    | _ => exact absurd (show false = true from hs) Bool.false_ne_true
  | str i =>
    obtain ⟨t, rfl⟩ := rx
    cases y with
    | non => cases ry; exact PySem.EqNone.eq_str_none (fin_bl I q (by simp))
    | bl j => cases ry; exact PySem.EqMixed.eq_str_bool (fin_bl I q (by simp))
    | int j => obtain ⟨t', rfl⟩ := ry; exact PySem.EqMixed.eq_str_int (fin_bl I q (by simp))
    | str j => obtain ⟨t', rfl⟩ := ry; exact eq_str (fin_bl I q dec_str)
    | _ => exact absurd (show false = true from hs) Bool.false_ne_true
  | byt i =>
    obtain ⟨t, rfl⟩ := rx
    cases y with
    | byt j => obtain ⟨t', rfl⟩ := ry; exact PySem.W.eq_bytes (fin_bl I q dec_byt)
    | _ => exact absurd (show false = true from hs) Bool.false_ne_true
  | _ => cases y <;> exact absurd (show false = true from hs) Bool.false_ne_true
theorem op_ne : OpR X (compareOp .NotEq) rNe := by
  intro pins s σ H x y v u Q I rx ry h
  obtain ⟨hs, q⟩ := h
  cases x with
  | non =>
    cases rx
    cases y with
    | non => cases ry; exact PySem.EqNone.ne_none_none (fin_bl I q (by simp))
    | bl j => cases ry; exact PySem.EqNone.ne_none_bool (fin_bl I q (by simp))
    | int j => obtain ⟨t', rfl⟩ := ry; exact PySem.EqNone.ne_none_int (fin_bl I q (by simp))
    | str j => obtain ⟨t', rfl⟩ := ry; exact PySem.EqNone.ne_none_str (fin_bl I q (by simp))
    | _ => exact absurd (show false = true from hs) Bool.false_ne_true
  | bl i =>
    cases rx
    cases y with
    | non => cases ry; exact PySem.EqNone.ne_bool_none (fin_bl I q (by simp))
    | bl j => cases ry; exact ne_bool (fin_bl I q (congrArg not dec_bl))
    | str j => obtain ⟨t', rfl⟩ := ry; exact PySem.EqMixed.ne_bool_str (fin_bl I q (by simp))
    | _ => exact absurd (show false = true from hs) Bool.false_ne_true
  | int i =>
    obtain ⟨t, rfl⟩ := rx
    cases y with
    | non => cases ry; exact PySem.EqNone.ne_int_none (fin_bl I q (by simp))
    | int j => obtain ⟨t', rfl⟩ := ry; exact ne_int (fin_bl I q (congrArg not dec_int))
    | str j => obtain ⟨t', rfl⟩ := ry; exact PySem.EqMixed.ne_int_str (fin_bl I q (by simp))
    | _ => exact absurd (show false = true from hs) Bool.false_ne_true
  | str i =>
    obtain ⟨t, rfl⟩ := rx
    cases y with
    | non => cases ry; exact PySem.EqNone.ne_str_none (fin_bl I q (by simp))
    | bl j => cases ry; exact PySem.EqMixed.ne_str_bool (fin_bl I q (by simp))
    | int j => obtain ⟨t', rfl⟩ := ry; exact PySem.EqMixed.ne_str_int (fin_bl I q (by simp))
    | str j => obtain ⟨t', rfl⟩ := ry; exact ne_str (fin_bl I q (congrArg not dec_str))
    | _ => exact absurd (show false = true from hs) Bool.false_ne_true
  | byt i =>
    obtain ⟨t, rfl⟩ := rx
    cases y with
    | byt j => obtain ⟨t', rfl⟩ := ry; exact PySem.W.ne_bytes (fin_bl I q (congrArg not dec_byt))
    | _ => exact absurd (show false = true from hs) Bool.false_ne_true
  | _ => cases y <;> exact absurd (show false = true from hs) Bool.false_ne_true

theorem op_lt : OpR X (compareOp .Lt) (rI0 fun i j => .bl (decide (i < j))) := opB0 fun _ _ _ _ _ _ _ q => lt_int q
theorem op_le : OpR X (compareOp .LtE) (rI0 fun i j => .bl (decide (i ≤ j))) := opB0 fun _ _ _ _ _ _ _ q => le_int q
theorem op_gt : OpR X (compareOp .Gt) (rI0 fun i j => .bl (decide (j < i))) := opB0 fun _ _ _ _ _ _ _ q => gt_int q
theorem op_ge : OpR X (compareOp .GtE) (rI0 fun i j => .bl (decide (j ≤ i))) := opB0 fun _ _ _ _ _ _ _ q => ge_int q
theorem op_in_str : OpR X (compareOp .In) (fun x y H Q => ∃ i j, x = .str i ∧ y = .str j ∧ Q (.bl (!(Builtin.Str.occurrences j i 0 j.length 1).isEmpty)) H) := by
  intro pins s σ H x y v u Q I rx ry h
  obtain ⟨i, j, rfl, rfl, q⟩ := h
  obtain ⟨t, rfl⟩ := rx
  obtain ⟨t', rfl⟩ := ry
  exact in_str (fin_bl I q rfl)

theorem op_isN : OpR X (compareOp .Is) (fun x y H Q => y = .non ∧ Q (.bl (decide (x = .non))) H) := by
  intro pins s σ H x y v u Q I rx ry h
  obtain ⟨rfl, q⟩ := h
  cases ry
  refine is_none_gen (fin_bl I q ?_)
  cases x <;> first
    | (cases rx; rfl)
    | (obtain ⟨t, rfl⟩ := rx; rfl)
theorem op_notN : OpR X (compareOp .IsNot) (fun x y H Q => y = .non ∧ Q (.bl (!decide (x = .non))) H) := by
  intro pins s σ H x y v u Q I rx ry h
  obtain ⟨rfl, q⟩ := h
  cases ry
  refine isnot_none_gen (fin_bl I q ?_)
  cases x <;> first
    | (cases rx; rfl)
    | (obtain ⟨t, rfl⟩ := rx; rfl)

theorem op_notin_str : OpR X (compareOp .NotIn) (fun x y H Q => ∃ i j, x = .str i ∧ y = .str j ∧ Q (.bl (!(!(Builtin.Str.occurrences j i 0 j.length 1).isEmpty))) H) := by
  intro pins s σ H x y v u Q I rx ry h
  obtain ⟨i, j, rfl, rfl, q⟩ := h
  obtain ⟨t, rfl⟩ := rx
  obtain ⟨t', rfl⟩ := ry
  exact notIn_str (fin_bl I q rfl)
theorem OpR.or {f : Value → Value → Sem Value} {r r' : R2} (h : OpR X f r) (h' : OpR X f r') : OpR X f (fun x y H Q => r x y H Q ∨ r' x y H Q) := by
  intro pins s σ H x y v u Q I rx ry q
  rcases q with q | q
  · exact h pins s σ H x y v u Q I rx ry q
  · exact h' pins s σ H x y v u Q I rx ry q

theorem nomark (b : Expr) {op : CmpOp} (h : op ≠ .In := by decide) (h2 : op ≠ .NotIn := by decide) : behindInMarks op b = false := by
  have e1 : (op == CmpOp.In) = false := by cases op <;> first | rfl | exact absurd rfl h
  have e2 : (op == CmpOp.NotIn) = false := by cases op <;> first | rfl | exact absurd rfl h2
  cases b <;> simp [behindInMarks, e1, e2]
theorem pe_cmpR {op : CmpOp} {r : R2} (ho : OpR X (compareOp op) r) (ha : PE X a ta) (hb : PE X b tb) (hm : behindInMarks op b = false) : PE X (.Compare a [op] [b] pos) (tOp r ta tb) := by
  intro pins s σ H Q I h
  exact wpAny_Compare1 (binT ha hb I h fun v u s2 x y H2 I2 rx ry q => ho pins s2 σ H2 x y v u Q I2 rx ry q) hm
def tTest (t : TE) : TT := fun σ H Q => t σ H fun x H' => ∃ k, x = .bl k ∧ Q k H'
theorem pt_cmpR {op : CmpOp} {r : R2} (ho : OpR X (compareOp op) r) (ha : PE X a ta) (hb : PE X b tb) (hm : behindInMarks op b = false) : PT X (.Compare a [op] [b] pos) (tTest (tOp r ta tb)) := by
  intro pins s σ H Q I h
  refine wpAny_isTrue_Compare1 (thn (ha pins s σ H _ I h) fun v s1 ⟨x, H1, I1, r1, q1⟩ => thn (hb pins s1 σ H1 _ I1 q1) fun u s2 ⟨y, H2, I2, r2, q2⟩ =>
    thn (ho pins s2 σ H2 x y v u _ I2 r1 r2 q2) fun c s3 ⟨z, H3, I3, r3, k, e, q3⟩ => ?_) hm
  subst e
  cases r3
  exact wpAny_truthy_bool ⟨H3, I3, q3⟩
def tChain (r r' : R2) (ta tb tc : TE) : TE := fun σ H Q => ta σ H fun x H1 => tb σ H1 fun y H2 => r x y H2 fun z H3 => ∃ k, z = .bl k ∧
  (if k = true then tc σ H3 fun w' H4 => r' y w' H4 Q else Q (.bl false) H3)
theorem pe_chain {op op' : CmpOp} {r r' : R2} (ho : OpR X (compareOp op) r) (ho' : OpR X (compareOp op') r') (ha : PE X a ta) (hb : PE X b tb) (hc : PE X c tc)
    (hm : lastMarks [op, op'] [b, c] = false := by with_unfolding_all rfl) : PE X (.Compare a [op, op'] [b, c] pos) (tChain r r' ta tb tc) := by
  intro pins s σ H Q I h
  refine Compare_chain (thn (ha pins s σ H _ I h) fun v s1 ⟨x, H1, I1, r1, q1⟩ => chain_link (thn (hb pins s1 σ H1 _ I1 q1) fun u s2 ⟨y, H2, I2, r2, q2⟩ =>
    thn (ho pins s2 σ H2 x y v u _ I2 r1 r2 q2) fun d s3 ⟨z, H3, I3, r3, k, e, q3⟩ => ?_)) hm
  subst e
  cases r3
  refine wpAny_truthy_bool ?_
  cases k with
  | false => exact ite_ff ⟨.bl false, H3, I3, rfl, q3⟩
  | true => exact ite_tt (chain_last (thn (hc pins s3 σ H3 _ I3 q3) fun w' s4 ⟨z', H4, I4, r4, q4⟩ => ho' pins s4 σ H4 y z' u w' Q I4 r2 r4 q4))
theorem line63 : (sizeLine : Nat) < 2 ^ 63 := by rw [sizeLine_eq]; decide
theorem op_add_str : OpR X (binaryOp .Add) (fun x y H Q => ∃ i j, x = .str i ∧ y = .str j ∧ i.length + j.length ≤ sizeLine ∧ Q (.str (i ++ j)) H) := by
  intro pins s σ H x y v u Q I rx ry h
  obtain ⟨i, j, rfl, rfl, hz, q⟩ := h
  obtain ⟨t, rfl⟩ := rx
  obtain ⟨t', rfl⟩ := ry
  exact add_str (fun t' tk => ⟨.str (i ++ j), H, I.tok _, ⟨_, rfl⟩, q⟩) hz
theorem vals1 {x : V} {us : List Value} (r : Vals [x] us) : ∃ u, us = [u] ∧ RelV x u := by
  cases r with
  | cons r1 r2 => cases r2; exact ⟨_, rfl, r1⟩
theorem vals2 {x y : V} {us : List Value} (r : Vals [x, y] us) : ∃ u w', us = [u, w'] ∧ RelV x u ∧ RelV y w' := by
  cases r with
  | cons r1 r2 =>
    cases r2 with
    | cons r3 r4 => cases r4; exact ⟨_, _, rfl, r1, r3⟩
theorem call_max2 (hc : X.calm = true) : CallR X (.builtin "max") (fun xs H Q => ∃ i j, xs = [.int i, .int j] ∧ Q (.int (if j > i then j else i)) H) := by
  intro pins s σ H xs us Q I r h
  obtain ⟨i, j, rfl, q⟩ := h
  obtain ⟨u, w', rfl, ⟨t, rfl⟩, ⟨t', rfl⟩⟩ := vals2 r
  refine max_two_ints (I.ok.hd hc) fun h' tk k => ⟨_, H, I.kept k, ?_, q⟩
  by_cases hj : j > i
  · rw [if_pos hj, if_pos hj]; exact ⟨_, rfl⟩
  · rw [if_neg hj, if_neg hj]; exact ⟨_, rfl⟩
theorem call_min2 (hc : X.calm = true) : CallR X (.builtin "min") (fun xs H Q => ∃ i j, xs = [.int i, .int j] ∧ Q (.int (if j < i then j else i)) H) := by
  intro pins s σ H xs us Q I r h
  obtain ⟨i, j, rfl, q⟩ := h
  obtain ⟨u, w', rfl, ⟨t, rfl⟩, ⟨t', rfl⟩⟩ := vals2 r
  refine min_two_ints (I.ok.hd hc) fun h' tk k => ⟨_, H, I.kept k, ?_, q⟩
  by_cases hj : j < i
  · rw [if_pos hj, if_pos hj]; exact ⟨_, rfl⟩
  · rw [if_neg hj, if_neg hj]; exact ⟨_, rfl⟩
theorem call_int1 : CallR X (.type "int") (fun xs H Q => (∃ i, xs = [.int i] ∧ Q (.int i) H) ∨ ∃ k, xs = [.bl k] ∧ Q (.int (if k then 1 else 0)) H) := by
  intro pins s σ H xs us Q I r h
  rcases h with ⟨i, rfl, q⟩ | ⟨k, rfl, q⟩
  · obtain ⟨u, rfl, t, rfl⟩ := vals1 r
    exact call_int_int ⟨.int i, H, I, ⟨_, rfl⟩, q⟩
  · obtain ⟨u, rfl, r1⟩ := vals1 r
    cases r1
    exact call_int_bool ⟨.int (if k then 1 else 0), H, I.tok _, ⟨_, rfl⟩, q⟩
end
end L2

namespace L2
open PySem PySem.Spec PyProof.Rows

structure ObjM (h : Heap) (x dx C : Addr) (mA : Str → Option Value) : Prop where
  obj : h.get? x = some (PySem.W.instObj C dx)
  ns : h.Ns1 dx mA
  ne : dx ≠ x

theorem lookIn_ns {h : Heap} {dx : Addr} {mA : Str → Option Value} (n : h.Ns1 dx mA) : ∃ od, h.get? dx = some od ∧ ∀ name, PySem.W.lookIn name od = some (mA name) := by
  obtain ⟨o, es, ep, ho, hd, hk, _, hm⟩ := n
  refine ⟨o, ho, fun name => ?_⟩
  have e := hm name
  unfold nsFind findBy at e
  rw [← Array.find?_toList] at e
  unfold PySem.W.lookIn
  rw [hd]
  dsimp only
  split
  · rename_i y q
    rw [q] at e
    exact congrArg some e
  · rename_i q
    rw [q] at e
    have a : es.toList.any (·.refKey) = false := by
      rw [List.any_eq_false]
      intro y hy
      obtain ⟨z, t, hkey⟩ := hk y (Array.mem_toList_iff.mp hy)
      simp [DictEntry.refKey, hkey]
    have a' : ¬ es.toList.any (·.refKey) = true := by rw [a]; exact Bool.false_ne_true
    rw [if_neg a']
    exact congrArg some e

theorem ObjM.look {h : Heap} {x dx C : Addr} {mA : Str → Option Value} (I : ObjM h x dx C mA) : ∃ od, PySem.W.InstAt h x (PySem.W.instObj C dx) C (some od) ∧ ∀ name, PySem.W.lookIn name od = some (mA name) :=
  let ⟨od, ho, hl⟩ := lookIn_ns I.ns
  ⟨od, ⟨I.obj, rfl, rfl, ho⟩, hl⟩

section
variable {P : Program} {w : World} {H H' : Hp} {h h' : Heap} {a C dx : Addr} {fs fs' : List (Str × V)}
theorem ins_get (hok : HOk P w H h) (e : H a = some (.ins C dx fs)) : ∃ mA, ObjM h a dx C mA ∧ (∀ f, RelO (fs.lookup f) (mA f)) ∧ PySem.Within mA (fs.map (·.1)) ∧ fs.length ≤ 1000 ∧ H dx = some (.own a) := by
  obtain ⟨d, z, ne, ob, mA, n, r, q⟩ := (show ObjOk P w H h a (.ins C dx fs) from hok a _ e)
  exact ⟨mA, ⟨ob, n, ne⟩, r, q, z, d⟩
end

structure Cls (K : PySem.W.Frag) (C : Addr) : Prop where
  pg : PySem.W.plainGet K C Str.empty = true
  hd : PySem.W.hasDictIn K C = true
  po : PySem.W.plainOver K C = true
  sa : PySem.W.findIn K (.ref C) "__setattr__" = some (some (.builtin "object.__setattr__"))
theorem Cls.get {K : PySem.W.Frag} {C : Addr} (c : Cls K C) (f : Str) : PySem.W.plainGet K C f = true := c.pg
section
variable {X : Cx} {pins : List (Addr × Obj)} {σ : St} {H : Hp} {s : Shared} {A : Around} {E : Value → Shared → Prop} {Q : Value → Shared → Prop} {c : Value} {b : Bool}
inductive TyOf (K : PySem.W.Frag) (H : Hp) : V → Value → Prop where
  | non : TyOf K H .non (.type "NoneType")
  | bl (x : Bool) : TyOf K H (.bl x) (.type "bool")
  | int (i : Int) : TyOf K H (.int i) (.type "int")
  | str (x : Str) : TyOf K H (.str x) (.type "str")
  | flt (x : UInt64) : TyOf K H (.flt x) (.type "float")
  | lst {a : Addr} {xs : List V} (e : H a = some (.lst xs)) : TyOf K H (.ref a) (.type "list")
  | frz {a : Addr} {o : Obj} {xs : List V} (e : H a = some (.frz o (.lst xs))) : TyOf K H (.ref a) (.type "list")
  | tup {a : Addr} {xs : List V} (e : H a = some (.tup xs)) : TyOf K H (.ref a) (.type "tuple")
  | dK {a : Addr} {kvs : List (Key × V)} (e : H a = some (.dK kvs)) : TyOf K H (.ref a) (.type "dict")
  | dT {a : Addr} {kvs : List (List Key × V)} (e : H a = some (.dT kvs)) : TyOf K H (.ref a) (.type "dict")
  | ins {a C dx : Addr} {fs : List (Str × V)} (e : H a = some (.ins C dx fs)) (cl : Cls K C) (ha : PySem.W.findIn K (.ref C) "__class__" = some (some (.builtin "object.__class__")))
      (hn : PySem.W.specialIn K (.builtin "object.__class__") "__get__" = some (some (.builtin "getset_descriptor.__get__"))) (htk : PySem.W.takesIn K (.builtin "object.__class__") = some true)
      (hm : PySem.W.mroIn K C (.type "object") = some true) : TyOf K H (.ref a) (.ref C)
theorem isinst_ok {x : V} {u t : Value} (I : Inv X pins σ H s) (rx : RelV x u) (ty : TyOf X.K H x t) (e : PySem.W.kitOne X.K t c = some b) (h : ∀ tk, Q (.bool b) { s with toks := tk }) :
    wpAny (model X.prog X.w) A (call (.builtin "isinstance") [u, c]) Q E s := by
  cases ty with
  | non => cases (show u = Value.none from rx); exact PySem.W.kia_one PySem.W.kitx_none I.kIn True.intro e (fun z => nomatch z) h
  | bl y => cases (show u = Value.bool y from rx); exact PySem.W.kia_one PySem.W.kitx_bool I.kIn True.intro e (fun z => nomatch z) h
  | int i => obtain ⟨t, q⟩ := (show ∃ t, u = Value.int i t from rx); cases q; exact PySem.W.kia_one PySem.W.kitx_int I.kIn True.intro e (fun z => nomatch z) h
  | str y => obtain ⟨t, q⟩ := (show ∃ t, u = Value.str y t from rx); cases q; exact PySem.W.kia_one PySem.W.kitx_str I.kIn True.intro e (fun z => nomatch z) h
  | flt y => obtain ⟨t, q⟩ := (show ∃ t, u = Value.float y t from rx); cases q; exact PySem.W.kia_one PySem.W.kitx_float I.kIn True.intro e (fun z => nomatch z) h
  | @lst a xs ea =>
    cases (show u = Value.ref a from rx)
    obtain ⟨_, _, n, _, h1⟩ := (show ObjOk X.prog X.w H s.heap a (.lst xs) from I.hok a _ ea)
    exact PySem.W.kia_one PySem.W.kitx_list I.kIn ⟨_, h1, rfl⟩ e (fun z => nomatch z) h
  | @frz a ob xs ea =>
    cases (show u = Value.ref a from rx)
    obtain ⟨_, _, _, n, _, h1⟩ := (show ObjOk X.prog X.w H s.heap a (.frz ob (.lst xs)) from I.hok a _ ea)
    exact PySem.W.kia_one PySem.W.kitx_list I.kIn ⟨_, h1, rfl⟩ e (fun z => nomatch z) h
  | @tup a xs ea =>
    cases (show u = Value.ref a from rx)
    obtain ⟨_, _, _, p⟩ := (show ObjOk X.prog X.w H s.heap a (.tup xs) from I.hok a _ ea)
    obtain ⟨o, h1, h2, _⟩ := p
    exact PySem.W.kia_one PySem.W.kitx_tuple I.kIn ⟨o, h1, h2⟩ e (fun z => nomatch z) h
  | @dK a kvs ea =>
    cases (show u = Value.ref a from rx)
    obtain ⟨_, _, vs, _, p⟩ := (show ObjOk X.prog X.w H s.heap a (.dK kvs) from I.hok a _ ea)
    obtain ⟨o, es, ep, h1, h2, _⟩ := p
    exact PySem.W.kia_one PySem.W.kitx_dict I.kIn ⟨o, h1, h2.1⟩ e (fun z => nomatch z) h
  | @dT a kvs ea =>
    cases (show u = Value.ref a from rx)
    obtain ⟨_, _, xs, _, o, es, ep, h1, h2, _⟩ := (show ObjOk X.prog X.w H s.heap a (.dT kvs) from I.hok a _ ea)
    exact PySem.W.kia_one PySem.W.kitx_dict I.kIn ⟨o, h1, h2.1⟩ e (fun z => nomatch z) h
  | @ins a C dx fs ea cl ha hn htk hm =>
    cases (show u = Value.ref a from rx)
    obtain ⟨mA, O, _⟩ := ins_get I.hok ea
    obtain ⟨od, J, _⟩ := O.look
    exact PySem.W.kia_one (PySem.W.kitx_own (cl.get _) cl.hd ha hn htk hm) I.kIn J e (fun z => nomatch z) h
end
end L2

namespace L2
open PySem PySem.Spec PyProof.Rows

structure Room (k : Nat) (A : Around) : Prop where
  hd : A.handled = none
  dp : A.depth + 3 * k + 5 < recursionLimit
  un : A.units + 16 * k + 200 < cLine
theorem Room.mono {j k : Nat} {A : Around} (r : Room k A) (h : j ≤ k) : Room j A := ⟨r.hd, by have := r.dp; omega, by have := r.un; omega⟩
theorem Room.deeper {k : Nat} {A : Around} (r : Room (k + 1) A) (env : Env) : Room k (A.deeper env) :=
  ⟨r.hd, by have := r.dp; show A.depth + 1 + 3 * k + 5 < _; omega, by have := r.un; show A.units + 3 + 16 * k + 200 < _; omega⟩
theorem Room.depth {k : Nat} {A : Around} (r : Room k A) : A.depth < recursionLimit := by have := r.dp; omega
theorem Room.units {k : Nat} {A : Around} (r : Room k A) : A.units + 64 < cLine := by have := r.un; omega
def tNil : TA := fun _ H Q => Q [] H
def tCons (ta : TE) (tr : TA) : TA := fun σ H Q => ta σ H fun x H1 => tr σ H1 fun xs H2 => Q (x :: xs) H2
section
variable {X : Cx} {e : Expr} {es : List Expr} {te : TE} {t : TA} {pos : Pos}
theorem pa_nil : PA X [] tNil := fun _ _ _ _ H Q I h => Calls.spliced_nil ⟨[], H, I, .nil, h⟩
theorem pa_cons (ha : PE X e te) (hr : PA X es t) (hs : starEach (e :: es) X.env = (false, eval e X.env) :: starEach es X.env := by rfl) : PA X (e :: es) (tCons te t) := by
  intro pos pins s σ H Q I h
  rw [hs]
  show wpAny _ _ (spliced ((false, eval e X.env) :: backTo pos (starEach es X.env))) _ _ s
  refine Calls.spliced_cons (thn (ha pins s σ H _ I h) fun u s1 ⟨x, H1, I1, r1, q1⟩ => ?_)
  exact thn (hr pos pins s1 σ H1 _ I1 q1) fun us s2 ⟨xs, H2, I2, r2, q2⟩ => ⟨x :: xs, H2, I2, .cons r1 r2, q2⟩

def tTup (t : TA) : TE := fun σ H Q => t σ H fun xs H1 => xs.length ≤ sizeLine ∧ ∀ p, H1 p = none → Q (.ref p) (upd H1 p (.tup xs))
def tLst (t : TA) : TE := fun σ H Q => t σ H fun xs H1 => xs.length ≤ sizeLine ∧ ∀ p, H1 p = none → Q (.ref p) (upd H1 p (.lst xs))
theorem pe_tup {x1} (h : PA X es t) : PE X (.Tuple es x1 pos) (tTup t) := by
  intro pins s σ H Q I hq
  refine wpAny_Tuple_spliced (thn (h pos pins s σ H _ I hq) fun us s1 ⟨xs, H1, I1, r, z, q⟩ => ⟨by rw [← r.length]; exact z, ?_⟩)
  have hf : H1 s1.heap.objs.size = none := I1.hok.fresh (Nat.le_refl _)
  refine ⟨.ref s1.heap.objs.size, upd H1 s1.heap.objs.size (.tup xs), I1.laid (t' := s1.toks) (fun b u e => Heap.get?_push_of_some _ e) (Nat.le_refl _) ?_, rfl, q _ hf⟩
  exact ⟨z, us, r, ⟨_, Heap.get?_push_size _ rfl, rfl, _, rfl⟩⟩
theorem pe_lst (h : PA X es t) : PE X (.List es pos) (tLst t) := by
  intro pins s σ H Q I hq
  refine wpAny_List_spliced (thn (h pos pins s σ H _ I hq) fun us s1 ⟨xs, H1, I1, r, z, q⟩ => ⟨by rw [← r.length]; exact z, ?_⟩)
  have hf : H1 s1.heap.objs.size = none := I1.hok.fresh (Nat.le_refl _)
  refine ⟨.ref s1.heap.objs.size, upd H1 s1.heap.objs.size (.lst xs), I1.laid (t' := s1.toks) (fun b u e => Heap.get?_push_of_some _ e) (Nat.le_refl _) ?_, rfl, q _ hf⟩
  exact ⟨z, us, 0, r, Heap.get?_push_size _ rfl⟩
end

abbrev Sp := List V → Hp → VK → XK → Prop
abbrev CXT := List Env → Hp → Shared → XK → Value → Shared → Prop

structure Env0 (P : Program) (w : World) (K : PySem.W.Frag) (mg : Str → Option Value) (base : Heap) (A : Around) (outer : List Env) (s : Shared) (H : Hp) : Prop where
  frames : A.frames = some outer
  mod : Mod K mg base
  bs : ∀ b o, base.get? b = some o → s.heap.get? b = some o ∧ H b = none
  bsz : base.objs.size ≤ s.heap.objs.size
  funs : s.heap.FunFrames base outer
  frf : ∀ b ∈ frs outer, H b = none
  hok : HOk P w H s.heap
  bare : AllBare s.gens
def CE (outer : List Env) (P : Program) (w : World) (H : Hp) (s : Shared) (Q : VK) (u : Value) (s' : Shared) : Prop :=
  ∃ v H', s'.os = s.os ∧ AllBare s'.gens ∧ Un (frs outer) [] H H' s.heap s'.heap ∧ HOk P w H' s'.heap ∧ RelV v u ∧ Q v H'
def CR (CX : CXT) (outer : List Env) (P : Program) (w : World) (H : Hp) (s : Shared) (Q : VK) (E : XK) (r : Result) (s' : Shared) : Prop :=
  match r with
  | .ok (.ret u) => CE outer P w H s Q u s'
  | .ok _ => False
  | .error e => CX outer H s E e s'
structure FnOk (P : Program) (w : World) (K : PySem.W.Frag) (mg : Str → Option Value) (base : Heap) (CX : CXT) (k : Nat) (f : Addr) (fd : FuncData) (ps : List Str) (sp : Sp) : Prop where
  len : ∀ vs H Q E, sp vs H Q E → vs.length = ps.length
  run : ∀ (A : Around) (outer : List Env) (s : Shared) (H : Hp) (args : Args) (us : List Value) (vs : List V) (Q : VK) (E : XK), Room k A → Env0 P w K mg base A outer s H → BindsTo s fd args (ps.zip us) → Vals vs us → sp vs H Q E →
    codeAny (model P w) A (.call (.ref f) args) (CR CX outer P w H s Q E) s
theorem FnOk.mono {P : Program} {w : World} {K : PySem.W.Frag} {mg : Str → Option Value} {base : Heap} {CX : CXT} {j k : Nat} {f : Addr} {fd : FuncData} {ps : List Str} {sp : Sp} (F : FnOk P w K mg base CX j f fd ps sp) (h : j ≤ k) :
    FnOk P w K mg base CX k f fd ps sp := ⟨F.len, fun A outer s H args us vs Q E hr => F.run A outer s H args us vs Q E (hr.mono h)⟩
theorem FnOk.imp {P : Program} {w : World} {K : PySem.W.Frag} {mg : Str → Option Value} {base : Heap} {CX : CXT} {k : Nat} {f : Addr} {fd : FuncData} {ps : List Str} {sp sp' : Sp} (F : FnOk P w K mg base CX k f fd ps sp)
    (h : ∀ vs H Q E, sp' vs H Q E → sp vs H Q E) : FnOk P w K mg base CX k f fd ps sp' :=
  ⟨fun vs H Q E q => F.len vs H Q E (h _ _ _ _ q), fun A outer s H args us vs Q E hr he hb hv hs => F.run A outer s H args us vs Q E hr he hb hv (h _ _ _ _ hs)⟩

section
variable {X : Cx} {pins : List (Addr × Obj)} {σ : St} {H : Hp} {s s' : Shared}
theorem Inv.env0 (I : Inv X pins σ H s) : Env0 X.prog X.w X.K X.mg X.base X.A X.stack s H :=
  ⟨I.ok.frames, I.ok.mod, I.bs, Nat.le_trans I.ok.bsz I.sz, I.stack, I.stkFree, I.hok, I.bare⟩
theorem Inv.after {Q : VK} {u : Value} (I : Inv X pins σ H s) (h : CE X.stack X.prog X.w H s Q u s') : EP X pins σ Q u s' := by
  obtain ⟨v, H', os, bare, un, hok, r, q⟩ := h
  obtain ⟨hh, g, d, t, os'⟩ := s'
  obtain rfl : os' = s.os := os
  exact ⟨v, H', I.call (h' := hh) (g' := g) (d' := d) (t' := t) (ch := []) un hok bare (fun b z => absurd z (by simp)), r, q⟩
end

def tCall (sp : Sp) (dvs : List V) (E : XK) (t : TA) : TE := fun σ H Q => t σ H fun vs H1 => sp (vs ++ dvs) H1 Q E
def Binds (K : PySem.W.Frag) (fd : FuncData) (ps : List Str) (ds : List Value) : Prop :=
  ∀ (s : Shared) (us : List Value), K.In s.heap → (us ++ ds).length = ps.length → BindsTo s fd ⟨us, []⟩ (ps.zip (us ++ ds))
theorem Binds.all {K : PySem.W.Frag} {fd : FuncData} {ps : List Str} (h : ∀ us : List Value, us.length = ps.length → bindArgs fd ⟨us, []⟩ = pure (ps.zip us)) : Binds K fd ps [] := fun s us _ hl => by
  rw [List.append_nil] at hl ⊢
  exact .of_eq (h us hl)

def Passes (CX : CXT) (X : Cx) (E : XK) : Prop := ∀ (pins : List (Addr × Obj)) (σ : St) (H : Hp) (s : Shared) (e : Value) (s' : Shared), Inv X pins σ H s → CX X.stack H s E e s' → X.xe e s'

section
variable {X : Cx} {CX : CXT} {k : Nat} {f C : Addr} {fd : FuncData} {ps : List Str} {sp : Sp} {dvs : List V} {ds : List Value} {E : XK} {x m : Str} {p pos apos : Pos} {e o : Expr} {es : List Expr} {ta : TE} {t : TA}

theorem run_fn {pins : List (Addr × Obj)} {σ : St} {H : Hp} {s : Shared} {Q : VK} {us : List Value} {vs : List V} (F : FnOk X.prog X.w X.K X.mg X.base CX k f fd ps sp) (hr : Room k X.A) (hb : Binds X.K fd ps ds) (hd : Vals dvs ds) (hx : Passes CX X E)
    (I : Inv X pins σ H s) (r : Vals vs us) (h : sp (vs ++ dvs) H Q E) : wpAny (model X.prog X.w) X.A (call (.ref f) us) (EP X pins σ Q) X.xe s := by
  have r2 : Vals (vs ++ dvs) (us ++ ds) := r.append hd
  have hl : (us ++ ds).length = ps.length := by rw [← r2.length]; exact F.len _ _ _ _ h
  refine wpAny_call (codeAny_mono (F.run X.A X.stack s H ⟨us, []⟩ (us ++ ds) (vs ++ dvs) Q E hr I.env0 (hb s us I.kIn hl) r2 h) fun r s' hq => ?_)
  cases r with
  | error e => exact hx pins σ H s e s' I hq
  | ok fl =>
    cases fl with
    | ret u => exact I.after hq
    | next => exact False.elim hq
    | brk => exact False.elim hq
    | cont => exact False.elim hq

theorem pe_call (F : FnOk X.prog X.w X.K X.mg X.base CX k f fd ps sp) (hr : Room k X.A) (hg : Gl X x) (hm : X.mg x = some (.ref f)) (hk : PySem.W.keepIn X.K (.ref f) = true) (hb : Binds X.K fd ps ds) (hd : Vals dvs ds) (hx : Passes CX X E)
    (ha : PA X (e :: es) t) (hdb : (x == ("__debug__" : Str)) = false := by decide) (he : starEach (e :: es) X.env = (false, eval e X.env) :: starEach es X.env := by rfl) (hpl : (backTo pos (starEach es X.env)).any (·.1) = false := by rfl) :
    PE X (.Call (.Name x p) (e :: es) [] pos) (tCall sp dvs E t) := by
  intro pins s σ H Q I h
  refine wpAny_Call_Name_kw (ld_glob I hg hm ?_ hdb)
  refine PySem.W.callWith_K (h₀ := X.base) I.ok.mod.kin hk (thn (ha pos pins s σ H _ I h) fun us s1 ⟨vs, H1, I1, r, q⟩ => ⟨I1.kIn, ?_⟩) he hpl
  exact run_fn F hr hb hd hx I1 r q
end

structure FnScope (N P : List Str) (sc : Scope) : Prop where
  kind : sc.kind = .function
  co : sc.isCoroutine = false
  gen : sc.isGenerator = false
  nd : N.Nodup
  pre : N.take P.length = P
  par : ∀ x ∈ P, sc.names.lookup x = some .local ∨ sc.names.lookup x = some .cell
  nofree : ∀ y ∈ sc.names, y.2 ≠ .free

theorem bindL_out {kindOf : Str → Option NameKind} {x : Str} : ∀ {binds : List (Str × Value)} {m : Str → Option Value}, (∀ v, (x, v) ∉ binds) → bindL kindOf binds m x = m x
  | [], _, _ => rfl
  | (n, v) :: r, m, h => by
    unfold bindL
    rw [bindL_out fun w hw => h w (List.mem_cons_of_mem _ hw)]
    split
    · have : x ≠ n := by rintro rfl; exact h v List.mem_cons_self
      simp [this]
    · rfl
theorem bindC_out {kindOf : Str → Option NameKind} {x : Str} : ∀ {binds : List (Str × Value)} {m : Str → Option Value}, (∀ v, (x, v) ∉ binds) → bindC kindOf binds m x = m x
  | [], _, _ => rfl
  | (n, v) :: r, m, h => by
    unfold bindC
    rw [bindC_out fun w hw => h w (List.mem_cons_of_mem _ hw)]
    split
    · rfl
    · have : x ≠ n := by rintro rfl; exact h v List.mem_cons_self
      simp [this]
theorem bindL_get {kindOf : Str → Option NameKind} {x : Str} {v : Value} : ∀ {P : List Str} {vs : List Value} {i : Nat} {m : Str → Option Value}, P.Nodup → P[i]? = some x → vs[i]? = some v → kindOf x = some .local →
    bindL kindOf (P.zip vs) m x = some v
  | [], _, _, _, _, h, _, _ => by simp at h
  | _ :: _, [], _, _, _, _, h, _ => by simp at h
  | p :: P, w :: vs, 0, m, nd, h1, h2, hk => by
    simp at h1 h2; subst h1; subst h2
    show bindL kindOf ((p, w) :: P.zip vs) m p = _
    unfold bindL
    rw [bindL_out fun v hv => (List.nodup_cons.mp nd).1 (List.of_mem_zip hv).1, if_pos hk]
    simp
  | p :: P, w :: vs, i + 1, m, nd, h1, h2, hk => by
    show bindL kindOf ((p, w) :: P.zip vs) m x = _
    unfold bindL
    exact bindL_get (i := i) (List.nodup_cons.mp nd).2 (by simpa using h1) (by simpa using h2) hk
theorem bindC_get {kindOf : Str → Option NameKind} {x : Str} {v : Value} : ∀ {P : List Str} {vs : List Value} {i : Nat} {m : Str → Option Value}, P.Nodup → P[i]? = some x → vs[i]? = some v → kindOf x ≠ some .local →
    bindC kindOf (P.zip vs) m x = some v
  | [], _, _, _, _, h, _, _ => by simp at h
  | _ :: _, [], _, _, _, _, h, _ => by simp at h
  | p :: P, w :: vs, 0, m, nd, h1, h2, hk => by
    simp at h1 h2; subst h1; subst h2
    show bindC kindOf ((p, w) :: P.zip vs) m p = _
    unfold bindC
    rw [bindC_out fun v hv => (List.nodup_cons.mp nd).1 (List.of_mem_zip hv).1, if_neg hk]
    simp
  | p :: P, w :: vs, i + 1, m, nd, h1, h2, hk => by
    show bindC kindOf ((p, w) :: P.zip vs) m x = _
    unfold bindC
    exact bindC_get (i := i) (List.nodup_cons.mp nd).2 (by simpa using h1) (by simpa using h2) hk

def start (N : List Str) (vs : List V) : St := vs.map some ++ List.replicate (N.length - vs.length) none

def cxOf (CX : CXT) (P : Program) (w : World) (K : PySem.W.Frag) (mg : Str → Option Value) (base : Heap) (N : List Str) (qual : Str) (scope : Scope) (f : Addr) (cd : Value) (A : Around) (outer : List Env) (s : Shared) (H : Hp) (E : XK) : Cx where
  prog := P
  w := w
  K := K
  mg := mg
  base := base
  A := A.deeper (envOfC qual scope s.heap.objs.size f cd)
  N := N
  s₀ := s
  H₀ := H
  env := envOfC qual scope s.heap.objs.size f cd
  outer := outer
  stack := envOfC qual scope s.heap.objs.size f cd :: outer
  ex := []
  calm := true
  fn := fun _ => true
  pn := []
  xe := fun e s' => wpAny (model P w) (A.deeper (envOfC qual scope s.heap.objs.size f cd)) (leaving (envOfC qual scope s.heap.objs.size f cd) e) (fun _ s'' => CX outer H s E e s'') (fun e' s'' => CX outer H s E e' s'') s'

theorem cell_has {sc : Scope} {n : Nat} {x : Str} (h : sc.names.lookup x = some .cell) : ∃ c, (cellsFrom n sc.names []).lookup x = some c := by
  have q := PySem.W.cellsFrom_some sc.names n [] (.inl h)
  exact Option.isSome_iff_exists.mp q

theorem inv_start {CX : CXT} {P : Program} {w : World} {K : PySem.W.Frag} {mg : Str → Option Value} {base : Heap} {N ps : List Str} {qual : Str} {scope : Scope} {f : Addr} {cd : Value} {A : Around} {outer : List Env} {s s1 : Shared} {H : Hp} {E : XK} {us : List Value} {vs : List V}
    (S : FnScope N ps scope) (hd : A.handled = none) (e0 : Env0 P w K mg base A outer s H) (hl : vs.length = ps.length) (r : Vals vs us)
    (x : InCallC s s.heap.objs.size (bindL (envOfC qual scope s.heap.objs.size f cd).kindOf (ps.zip us) fun _ => none) (cellsFrom (s.heap.objs.size + 1) scope.names []) (bindC (envOfC qual scope s.heap.objs.size f cd).kindOf (ps.zip us) fun _ => none) s1) :
    Inv (cxOf CX P w K mg base N qual scope f cd A outer s H E) [] (start N vs) H s1 := by
  have hpl : ps.length ≤ N.length := by have := congrArg List.length S.pre; rw [List.length_take] at this; omega
  obtain ⟨h1, tk, rfl, hk⟩ := x.done
  have noA : ∀ b : Addr, b ∉ (cxOf CX P w K mg base N qual scope f cd A outer s H E).ex := fun b z => absurd (show b ∈ ([] : List Addr) from z) (by simp)
  refine ⟨⟨e0.mod, S.kind, rfl, rfl, Nat.le_refl _, fun y z c h1 h2 => ?_, fun y hy => ?_, fun y c _ h => ?_, fun _ => hd, Around.frames_deeper e0.frames, .inr ⟨rfl, rfl⟩, fun b z => absurd z (noA b), e0.bs, e0.bsz, fun b _ _ => noA b, fun b z => absurd z (noA b), e0.funs, e0.frf⟩,
    rfl, e0.bare, Un.kept hk, ⟨_, x.toInCall.ns, fun i y v h1 h2 h3 => ?_⟩, fun y c h => ⟨_, x.cell y c h⟩, e0.hok.fresh (Nat.le_refl _), fun y c h => ?_, fun p hp => absurd (show p ∈ ([] : List (Addr × Obj)) from hp) (by simp), e0.hok.kept hk, ?_⟩
  · exact name_of_addr x.apart (PySem.mem_of_lookup h1) (PySem.mem_of_lookup h2)
  · have hy : scope.names.lookup y = some .cell ∨ scope.names.lookup y = some .free := hy
    rcases hy with hy | hy
    · exact cell_has hy
    · exact absurd rfl (S.nofree _ (PySem.mem_of_lookup hy))
  · exact Nat.le_of_lt (x.above y c (PySem.mem_of_lookup h))
  · have hi : i < vs.length := by
      unfold start at h2
      by_cases hi : i < vs.length
      · exact hi
      · rw [List.getElem?_append_right (by simpa using hi)] at h2
        rw [List.getElem?_replicate] at h2
        split at h2 <;> cases h2
    have ha : vs[i]? = some v := by
      unfold start at h2
      rw [List.getElem?_append_left (by simpa using hi), List.getElem?_map] at h2
      cases e : vs[i]? with
      | none => rw [e] at h2; cases h2
      | some a => rw [e] at h2; cases h2; rfl
    obtain ⟨u, hu, rv⟩ := r.get ha
    have hp : ps[i]? = some y := by
      rw [← S.pre, List.getElem?_take_of_lt (by omega)]; exact h1
    have ndP : ps.Nodup := by rw [← S.pre]; exact S.nd.sublist (List.take_sublist _ _)
    refine ⟨u, rv, ?_⟩
    rcases S.par y (List.mem_of_getElem? hp) with k | k
    · exact .inl ⟨k, bindL_get ndP hp hu k⟩
    · obtain ⟨c, e⟩ := cell_has (n := s.heap.objs.size + 1) k
      refine .inr ⟨.inl k, c, e, ?_⟩
      have q := x.cell y c e
      rw [bindC_get ndP hp hu (by show scope.names.lookup y ≠ _; rw [k]; decide)] at q
      exact q
  · exact e0.hok.fresh (Nat.le_of_lt (x.above y c (PySem.mem_of_lookup h)))
  · unfold start
    show _ = N.length
    rw [List.length_append, List.length_map, List.length_replicate]
    omega

theorem fn_of {CX : CXT} {P : Program} {w : World} {K : PySem.W.Frag} {mg : Str → Option Value} {base : Heap} {k : Nat} {f : Addr} {name qual : Str} {params : Arguments} {body : List Stmt} {scope : Scope} {dV kV doc pm cdv ct oc : Value} {an od : Option Addr}
    {osl : Array (Option Value)} {N ps : List Str} {sp : Sp} (lk : K.lookup f = some ⟨oc, od, .func (PySem.W.fnOf name qual params body scope dV kV doc pm an cdv ct), osl⟩) (hcd : PySem.W.codeIn K cdv qual = true) (S : FnScope N ps scope)
    (len : ∀ vs H Q E, sp vs H Q E → vs.length = ps.length)
    (hbody : ∀ (A : Around) (outer : List Env) (s : Shared) (H : Hp) (vs : List V) (Q : VK) (E : XK), Room k (A.deeper (envOfC qual scope s.heap.objs.size f cdv)) → sp vs H Q E →
      ∃ t, PSs (cxOf CX P w K mg base N qual scope f cdv A outer s H E) body t ∧ t { nx := fun _ H' => Q .non H', rt := Q } (start N vs) H) :
    FnOk P w K mg base CX (k + 1) f (PySem.W.fnOf name qual params body scope dV kV doc pm an cdv ct) ps sp := by
  refine ⟨len, fun A outer s H args us vs Q E hr e0 hb r hsp => ?_⟩
  have hl := len _ _ _ _ hsp
  have KX : K.In s.heap := e0.mod.kin.keeps fun b o e => (e0.bs b o e).1
  have lim : s.heap.NoLimit := e0.mod.nolimit.keeps fun b o e => (e0.bs b o e).1
  have hkind : ∀ y ∈ ps.zip us, scope.names.lookup y.1 = some .local ∨ (scope.names.lookup y.1 = some .cell ∧ ((cellsFrom (s.heap.objs.size + 1) scope.names []).lookup y.1).isSome = true) := fun ⟨n, v⟩ hy => by
    rcases S.par n (List.of_mem_zip hy).1 with q | q
    · exact .inl q
    · exact .inr ⟨q, PySem.W.cellsFrom_some _ _ _ (.inl q)⟩
  refine codeAny_call_function hr.depth (KX _ _ lk) rfl S.co S.gen rfl (PySem.W.codeRec_of KX hcd) (hb _ _ _ _ ?_)
  refine wpAny_newFunctionEnv_cells S.kind hkind fun env he s1 x => ?_
  subst he
  refine ⟨lim.keeps x.toInCall.keep, codeAny_func ?_⟩
  obtain ⟨t, ht, hq⟩ := hbody A outer s H vs Q E (hr.deeper _) hsp
  have I : Inv (cxOf CX P w K mg base N qual scope f cdv A outer s H E) [] (start N vs) H s1 := inv_start S hr.hd e0 hl r x
  refine wpAny_mono (ht [] s1 (start N vs) H _ I hq) (fun fl s' hs => ?_) fun e s' hs => hs
  have fin : ∀ {σ' : St} {H' : Hp} {v : V} {u : Value}, Inv (cxOf CX P w K mg base N qual scope f cdv A outer s H E) [] σ' H' s' → RelV v u → Q v H' → CE outer P w H s Q u s' :=
    fun {σ' H' v u} J rv q => ⟨v, H', J.os, J.bare, J.base, J.hok, rv, q⟩
  cases fl with
  | ret u =>
    obtain ⟨v, σ', H', J, rv, q⟩ := hs
    exact fin J rv q
  | next =>
    obtain ⟨σ', H', J, q⟩ := hs
    exact fin (v := V.non) (u := Value.none) J rfl q
  | brk =>
    obtain ⟨_, _, _, q⟩ := hs
    exact False.elim q
  | cont =>
    obtain ⟨_, _, _, q⟩ := hs
    exact False.elim q
end L2

namespace L2
open PySem PySem.Spec PyProof.Rows
section
variable {X : Cx} {x : Str} {p pos : Pos} {e : Expr} {es : List Expr} {t : TA} {id T : String} {r : List V → Hp → VK → Prop}

def tCB (r : List V → Hp → VK → Prop) (t : TA) : TE := fun σ H Q => t σ H fun vs H1 => r vs H1 Q
theorem pe_callB (hc : CallR X (.builtin id) r) (hg : Gl X x) (hm : X.mg x = none) (hv : bootBuiltins x = some (.builtin id)) (ha : PA X (e :: es) t) (hn : x ≠ "__name__" := by decide) (hdb : (x == ("__debug__" : Str)) = false := by decide)
    (he : starEach (e :: es) X.env = (false, eval e X.env) :: starEach es X.env := by rfl) (hpl : (backTo pos (starEach es X.env)).any (·.1) = false := by rfl) : PE X (.Call (.Name x p) (e :: es) [] pos) (tCB r t) := by
  intro pins s σ H Q I h
  refine wpAny_Call_Name_kw (ld_blt I hg hm hv ?_ hn hdb)
  exact PyProof.Rows.callWith_builtin1 (thn (ha pos pins s σ H _ I h) fun us s1 ⟨vs, H1, I1, r1, q1⟩ => hc pins s1 σ H1 vs us Q I1 r1 q1) he hpl
theorem pe_callTy (hc : CallR X (.type T) r) (hg : Gl X x) (hm : X.mg x = none) (hv : bootBuiltins x = some (.type T)) (ha : PA X (e :: es) t) (hn : x ≠ "__name__" := by decide) (hdb : (x == ("__debug__" : Str)) = false := by decide)
    (he : starEach (e :: es) X.env = (false, eval e X.env) :: starEach es X.env := by rfl) (hpl : (backTo pos (starEach es X.env)).any (·.1) = false := by rfl) : PE X (.Call (.Name x p) (e :: es) [] pos) (tCB r t) := by
  intro pins s σ H Q I h
  refine wpAny_Call_Name_kw (ld_blt I hg hm hv ?_ hn hdb)
  exact PyProof.Rows.callWith_type1 (thn (ha pos pins s σ H _ I h) fun us s1 ⟨vs, H1, I1, r1, q1⟩ => hc pins s1 σ H1 vs us Q I1 r1 q1) he hpl
end
end L2

namespace HT
open PySem PyProof.Rows

section
open PySem.SeqAt
open PySem.AutoSeq1 (wpAny_loadPart')
open PySem.MeetsSeq PySem.MeetsSeq2 PySem.MeetsSeq3

end

section
variable {prog : Program} {w : World} {A : Around} {E : Value → Shared → Prop} {s : Shared}

def sIx (n d : Nat) : Option Int → Nat
  | none => d
  | some v => if v < 0 then (v + (n : Int)).toNat else min v.toNat n
end
end HT

namespace L2
open PySem PySem.Spec PyProof.Rows

abbrev TO := St → Hp → (Option Int → Hp → Prop) → Prop
def PO (X : Cx) (e : Option Expr) (t : TO) : Prop :=
  ∀ (pins : List (Addr × Obj)) (s : Shared) (σ : St) (H : Hp) (Q : Option Int → Hp → Prop), Inv X pins σ H s → t σ H Q →
    wpAny (model X.prog X.w) X.A (evalPart e X.env) (fun u s' => ∃ o H', Inv X pins σ H' s' ∧ IsPart u o ∧ Q o H') X.xe s
def tNoPart : TO := fun _ H Q => Q none H
def tPart (t : TE) : TO := fun σ H Q => t σ H fun x H1 => ∃ i, x = .int i ∧ Q (some i) H1

section
variable {X : Cx} {e : Expr} {te : TE} {lo hi : Option Expr} {tl th : TO} {pos p2 : Pos}

theorem po_none : PO X none tNoPart := by
  intro pins s σ H Q I h
  rw [evalPart_none]
  exact wpAny_pure ⟨none, H, I, .none, h⟩
theorem po_some (h : PE X e te) : PO X (some e) (tPart te) := by
  intro pins s σ H Q I hw
  rw [evalPart_some]
  refine thn (h pins s σ H _ I hw) fun u s1 ⟨x, H1, I1, r1, q1⟩ => ?_
  obtain ⟨i, rfl, q⟩ := q1
  obtain ⟨t, rfl⟩ := r1
  exact ⟨some i, H1, I1, .int i t, q⟩

def SlR (X : Cx) (r : V → Option Int → Option Int → Hp → VK → Prop) : Prop :=
  ∀ (pins : List (Addr × Obj)) (s : Shared) (σ : St) (H : Hp) (x : V) (v vl vu : Value) (lo hi : Option Int) (sl : Addr) (Q : VK), Inv X pins σ H s → RelV x v → s.heap.IsSliceOf sl vl vu .none → IsPart vl lo → IsPart vu hi → r x lo hi H Q →
    ∃ T id, typeLookup (.type T) "__getitem__" = pure (some (.builtin id)) ∧ s.TypeIs v T ∧ wpAny (model X.prog X.w) X.A (getItem v (.ref sl)) (EP X pins σ Q) X.xe s
theorem SlR.or {r r' : V → Option Int → Option Int → Hp → VK → Prop} (h : SlR X r) (h' : SlR X r') : SlR X (fun x lo hi H Q => r x lo hi H Q ∨ r' x lo hi H Q) := by
  intro pins s σ H x v vl vu lo hi sl Q I rx hs pl pu q
  rcases q with q | q
  · exact h pins s σ H x v vl vu lo hi sl Q I rx hs pl pu q
  · exact h' pins s σ H x v vl vu lo hi sl Q I rx hs pl pu q
def tSl (r : V → Option Int → Option Int → Hp → VK → Prop) (te : TE) (tl th : TO) : TE := fun σ H Q => te σ H fun x H1 => tl σ H1 fun l H2 => th σ H2 fun u H3 => r x l u H3 Q
theorem pe_slice {r : V → Option Int → Option Int → Hp → VK → Prop} (hr : SlR X r) (he : PE X e te) (hl : PO X lo tl) (hu : PO X hi th) : PE X (.Subscript e (.Slice lo hi none p2) pos) (tSl r te tl th) := by
  intro pins s σ H Q I h
  refine Subscript_ (thn (he pins s σ H _ I h) fun v s1 ⟨x, H1, I1, r1, q1⟩ => ?_)
  refine wpAny_Slice (thn (hl pins s1 σ H1 _ I1 q1) fun vl s2 ⟨l, H2, I2, pl, q2⟩ => thn (hu pins s2 σ H2 _ I2 q2) fun vu s3 ⟨u, H3, I3, pu, q3⟩ => ?_)
  rw [evalPart_none]
  refine wpAny_pure ?_
  have I4 : Inv X pins σ H3 { s3 with heap := s3.heap.push { cls := .type "slice", data := .fields #[vl, vu, .none] } } := I3.kept (t' := s3.toks) fun b ob q => Heap.get?_push_of_some _ q
  obtain ⟨T, id, hT, ht, hg⟩ := hr pins { s3 with heap := s3.heap.push { cls := .type "slice", data := .fields #[vl, vu, .none] } } σ H3 x v vl vu l u s3.heap.objs.size Q I4 r1 (Heap.IsSliceOf.new ..) pl pu q3
  show wpAny (model X.prog X.w) X.A (subscriptTail e (.Slice lo hi none p2) v (.ref s3.heap.objs.size)) (EP X pins σ Q) X.xe { s3 with heap := s3.heap.push { cls := .type "slice", data := .fields #[vl, vu, .none] } }
  exact tail_any (ops := [.ref s3.heap.objs.size, v]) ht hT hg (by with_unfolding_all rfl)

def cutV (xs : List V) (lo hi : Option Int) : List V := (xs.drop (HT.sIx xs.length 0 lo)).take (HT.sIx xs.length xs.length hi - HT.sIx xs.length 0 lo)
theorem cutV_length (xs : List V) (lo hi : Option Int) : (cutV xs lo hi).length ≤ xs.length := by
  unfold cutV
  rw [List.length_take, List.length_drop]
  omega
end
end L2

namespace L2
open PySem PySem.Spec PyProof.Rows

def ixN (n : Nat) (i : Int) : Option Nat := if 0 ≤ i then (if i < n then some i.toNat else none) else if -(n : Int) ≤ i then some (i + n).toNat else none
def atI {α : Type} (xs : List α) (i : Int) : Option α := (ixN xs.length i).bind fun j => xs[j]?
theorem ixN_seq {n : Nat} {i : Int} {j : Nat} (h : ixN n i = some j) : seqIndex? i n = some j ∧ j < n ∧ -(n : Int) ≤ i ∧ i < n := by
  unfold ixN at h
  by_cases h0 : 0 ≤ i
  · rw [if_pos h0] at h
    by_cases h1 : i < n
    · rw [if_pos h1] at h
      have e : i.toNat = j := Option.some.inj h
      exact ⟨by rw [seqIndex_of h0 h1, e], by omega, by omega, h1⟩
    · rw [if_neg h1] at h; cases h
  · rw [if_neg h0] at h
    by_cases h1 : -(n : Int) ≤ i
    · rw [if_pos h1] at h
      have e : (i + n).toNat = j := Option.some.inj h
      exact ⟨by rw [seqIndex_neg (by omega) h1, e], by omega, h1, by omega⟩
    · rw [if_neg h1] at h; cases h
theorem atI_get {α : Type} {xs : List α} {i : Int} {v : α} (h : atI xs i = some v) : ∃ j, seqIndex? i xs.length = some j ∧ xs[j]? = some v ∧ j < xs.length ∧ -(xs.length : Int) ≤ i ∧ i < xs.length := by
  unfold atI at h
  cases e : ixN xs.length i with
  | none => rw [e] at h; cases h
  | some j =>
    rw [e] at h
    obtain ⟨h1, h2, h3, h4⟩ := ixN_seq e
    exact ⟨j, h1, h, h2, h3, h4⟩
theorem atI_nat {α : Type} {xs : List α} {j : Nat} {v : α} (h : xs[j]? = some v) : atI xs (j : Int) = some v := by
  have hj : j < xs.length := (List.getElem?_eq_some_iff.mp h).1
  have e : ixN xs.length (j : Int) = some j := by
    unfold ixN
    rw [if_pos (by omega), if_pos (by omega)]; simp
  unfold atI; rw [e]; exact h
def PlainIx (b : Expr) : Prop := ∀ o i, subscripted b false o i = operate [o, i] (getItem o i)
def IxR (X : Cx) (r : R2) : Prop :=
  ∀ (value slice : Expr) (pins : List (Addr × Obj)) (s : Shared) (σ : St) (H : Hp) (x y : V) (v u : Value) (Q : VK), Inv X pins σ H s → RelV x v → RelV y u → r x y H Q →
    subscripted slice false v u = operate [v, u] (getItem v u) → wpAny (model X.prog X.w) X.A (subscriptTail value slice v u) (EP X pins σ Q) X.xe s
def MtR (X : Cx) (id : String) (r : V → List V → Hp → VK → Prop) : Prop :=
  ∀ (pins : List (Addr × Obj)) (s : Shared) (σ : St) (H : Hp) (x : V) (xs : List V) (v : Value) (us : List Value) (Q : VK), Inv X pins σ H s → RelV x v → Vals xs us → r x xs H Q →
    wpAny (model X.prog X.w) X.A (call (.builtin id) (v :: us)) (EP X pins σ Q) X.xe s
section
variable {X : Cx} {a b : Expr} {ta tb : TE} {pos : Pos}
theorem IxR.or {r r' : R2} (h : IxR X r) (h' : IxR X r') : IxR X (fun x y H Q => r x y H Q ∨ r' x y H Q) := by
  intro value slice pins s σ H x y v u Q I rx ry q hs
  rcases q with q | q
  · exact h value slice pins s σ H x y v u Q I rx ry q hs
  · exact h' value slice pins s σ H x y v u Q I rx ry q hs
theorem pe_ix {r : R2} (hr : IxR X r) (ha : PE X a ta) (hb : PE X b tb) (hs : PlainIx b) : PE X (.Subscript a b pos) (tOp r ta tb) := by
  intro pins s σ H Q I h
  exact Subscript_ (binT ha hb I h fun v u s2 x y H2 I2 rx ry q => hr a b pins s2 σ H2 x y v u Q I2 rx ry q (hs _ _))

def rIxL (K : PySem.W.Frag) : R2 := fun x y H Q => ∃ p xs i v, x = .ref p ∧ y = .int i ∧ SqL K H p xs ∧ atI xs i = some v ∧ Q v H
def rIxT (K : PySem.W.Frag) : R2 := fun x y H Q => ∃ p xs i v, x = .ref p ∧ y = .int i ∧ SqT K H p xs ∧ atI xs i = some v ∧ Q v H
def rIxS : R2 := fun x y H Q => ∃ z i c, x = .str z ∧ y = .int i ∧ z.length ≤ sizeLine ∧ atI z.cps.toList i = some c ∧ Q (.str ⟨#[c]⟩) H
theorem ix_list : IxR X (rIxL X.K) := by
  intro value slice pins s σ H x y v u Q I rx ry h hs
  obtain ⟨p, xs, i, z, rfl, rfl, hq, he, q⟩ := h
  cases rx
  obtain ⟨t, rfl⟩ := ry
  obtain ⟨its, r, pl, hz⟩ := I.list hq
  obtain ⟨j, h1, h2, h3, h4, h5⟩ := atI_get he
  obtain ⟨w, ew, rw'⟩ := r.get h2
  have hl := r.length
  have hn := line63
  have fin : EP X pins σ Q w s := ⟨z, H, I, rw', q⟩
  by_cases h0 : 0 ≤ i
  · have hj : i.toNat = j := by
      rw [seqIndex_of h0 h5] at h1
      exact Option.some.inj h1
    exact item_listR pl.isList h0 (by omega) (by rw [hj]; simpa using ew) fin hs
  · have hj : (i + (its.toArray.size : Int)).toNat = j := by
      rw [seqIndex_neg (by omega) h4] at h1
      rw [List.size_toArray, ← hl]
      exact Option.some.inj h1
    exact subscriptTail_builtinR (x := w) pl.isList.typeIs slot_list_getitem.lookup
      (wpAny_getItem_list_neg (Q := fun r s' => r = w ∧ EP X pins σ Q r s') pl.isList (by omega) (by rw [List.size_toArray] <;> omega) (by omega) (by rw [hj]; simpa using ew) ⟨rfl, fin⟩) hs
theorem ix_tup : IxR X (rIxT X.K) := by
  intro value slice pins s σ H x y v u Q I rx ry h hs
  obtain ⟨p, xs, i, z, rfl, rfl, hq, he, q⟩ := h
  cases rx
  obtain ⟨t, rfl⟩ := ry
  obtain ⟨its, r, pl, hz⟩ := I.tuple hq
  obtain ⟨j, h1, h2, h3, h4, h5⟩ := atI_get he
  obtain ⟨w, ew, rw'⟩ := r.get h2
  have hl := r.length
  have hn := line63
  have fin : EP X pins σ Q w s := ⟨z, H, I, rw', q⟩
  exact subscriptTail_builtinR (x := w) pl.typeIs slot_tuple_getitem.lookup
    (getItem_tuple (j := j) (Q := fun r s' => r = w ∧ EP X pins σ Q r s') pl (by omega) (by omega) (by rw [List.size_toArray, ← hl]; exact h1) (by simpa using ew) ⟨rfl, fin⟩) hs
theorem ix_str : IxR X rIxS := by
  intro value slice pins s σ H x y v u Q I rx ry h hs
  obtain ⟨z, i, c, rfl, rfl, hz, he, q⟩ := h
  obtain ⟨t, rfl⟩ := rx
  obtain ⟨t', rfl⟩ := ry
  obtain ⟨j, h1, h2, h3, h4, h5⟩ := atI_get he
  have hl : z.cps.toList.length = z.length := by simp [Str.length]
  rw [hl] at h1 h4 h5
  have hn := line63
  exact tail_any (typeIs_str s z t) slot_str_getitem.lookup (getItem_str (c := c) (by
    have e1 : decide (i < -(2 ^ 63 : Int)) = false := decide_eq_false (by omega)
    have e2 : decide (i ≥ 2 ^ 63) = false := decide_eq_false (by omega)
    rw [e1, e2, Bool.or_false]) (by rw [h1]; simpa using h2) ⟨.str ⟨#[c]⟩, H, I.tok _, ⟨_, rfl⟩, q⟩) hs
theorem Inv.lst {pins : List (Addr × Obj)} {σ : St} {H : Hp} {s : Shared} {p : Addr} {xs : List V} (I : Inv X pins σ H s) (h : H p = some (.lst xs)) :
    ∃ (its : List Value) (n : Nat), Vals xs its ∧ s.heap.get? p = some { cls := .type "list", data := .seq its.toArray n } ∧ xs.length ≤ sizeLine := by
  obtain ⟨z, its, n, r, e⟩ := I.hok p _ h
  exact ⟨its, n, r, e, z⟩
theorem slice_bounds (lo hi : Option Int) (n : Nat) : (sliceBounds lo hi none n).1 = ((HT.sIx n 0 lo : Nat) : Int) ∧ (sliceBounds lo hi none n).2.1 = ((HT.sIx n n hi : Nat) : Int) ∧ (sliceBounds lo hi none n).2.2 = 1 := by
  refine ⟨?_, ?_, rfl⟩
  · cases lo with
    | none => simp [sliceBounds, HT.sIx]
    | some i =>
      simp only [sliceBounds, HT.sIx, Option.getD_none, show (1 : Int) > 0 by decide, if_true]
      by_cases h : i < 0
      · simp only [h, if_true] <;> omega
      · simp only [h, if_false] <;> omega
  · cases hi with
    | none => simp [sliceBounds, HT.sIx]
    | some i =>
      simp only [sliceBounds, HT.sIx, Option.getD_none, show (1 : Int) > 0 by decide, if_true]
      by_cases h : i < 0
      · simp only [h, if_true] <;> omega
      · simp only [h, if_false] <;> omega
theorem slicePick_cut (its : List Value) (lo hi : Option Int) : slicePick its.toArray lo hi none = ((its.drop (HT.sIx its.length 0 lo)).take (HT.sIx its.length its.length hi - HT.sIx its.length 0 lo)).toArray := by
  obtain ⟨h1, h2, h3⟩ := slice_bounds lo hi its.toArray.size
  unfold slicePick
  rw [h1, h2, h3]
  simp only [sliceRange_one, pick_run, List.size_toArray] <;> rfl
def rSlL (K : PySem.W.Frag) : V → Option Int → Option Int → Hp → VK → Prop := fun x lo hi H Q => ∃ a xs, x = .ref a ∧ SqL K H a xs ∧ ∀ p, H p = none → Q (.ref p) (upd H p (.lst (cutV xs lo hi)))
theorem sl_list : SlR X (rSlL X.K) := by
  intro pins s σ H x v vl vu lo hi sl Q I rx hs pl pu h
  obtain ⟨a, xs, rfl, hx, q⟩ := h
  cases rx
  obtain ⟨its, r, ht, hz⟩ := I.list hx
  have hlen := r.length
  refine ⟨"list", _, slot_list_getitem.lookup, ht.isList.typeIs, ?_⟩
  refine wpAny_getItem_list_slice ht.isList hs pl pu .none (by simp) ?_ (by rw [List.size_toArray] <;> omega)
  rw [slicePick_cut, ← hlen]
  refine ⟨.ref s.heap.objs.size, _, I.laid (t' := s.toks) (o := .lst (cutV xs lo hi)) (fun b ob q => Heap.get?_push_of_some _ q) (Nat.le_refl _) ?_, rfl, q _ (I.hok.fresh (Nat.le_refl _))⟩
  exact ⟨Nat.le_trans (cutV_length xs lo hi) hz, _, 0, (r.drop (HT.sIx xs.length 0 lo)).take (HT.sIx xs.length xs.length hi - HT.sIx xs.length 0 lo), Heap.get?_push_size _ rfl⟩

theorem call_len_seq : CallR X (.builtin "len") (fun xs H Q => ∃ p ys, xs = [.ref p] ∧ (SqL X.K H p ys ∨ SqT X.K H p ys) ∧ Q (.int ys.length) H) := by
  intro pins s σ H xs us Q I r h
  obtain ⟨p, ys, rfl, hq, q⟩ := h
  obtain ⟨u, rfl, rx⟩ := vals1 r
  cases rx
  have hn := line63
  rcases hq with hq | hq
  · obtain ⟨its, r', pl, hz⟩ := I.list hq
    have hlen := r'.length
    exact Calls.call_len_list pl.isList (by simp only [List.size_toArray] <;> omega) ⟨.int ys.length, H, I.tok _, ⟨s.toks + 1, by rw [List.size_toArray, hlen]⟩, q⟩
  · obtain ⟨its, r', pl, hz⟩ := I.tuple hq
    have hlen := r'.length
    exact len_tuple pl (by simp only [List.size_toArray] <;> omega) ⟨.int ys.length, H, I.tok _, ⟨s.toks + 1, by rw [List.size_toArray, hlen]⟩, q⟩
theorem call_len_str : CallR X (.builtin "len") (fun xs H Q => ∃ z, xs = [.str z] ∧ z.length ≤ sizeLine ∧ Q (.int z.length) H) := by
  intro pins s σ H xs us Q I r h
  obtain ⟨z, rfl, hz, q⟩ := h
  obtain ⟨u, rfl, t, rfl⟩ := vals1 r
  have hn := line63
  exact len_str (by omega) ⟨.int z.length, H, I.tok _, ⟨_, rfl⟩, q⟩
theorem CallR.or {f : Value} {r r' : List V → Hp → VK → Prop} (h : CallR X f r) (h' : CallR X f r') : CallR X f (fun xs H Q => r xs H Q ∨ r' xs H Q) := by
  intro pins s σ H xs us Q I rs q
  rcases q with q | q
  · exact h pins s σ H xs us Q I rs q
  · exact h' pins s σ H xs us Q I rs q
theorem call_list_of : CallR X (.type "list") (fun xs H Q => ∃ p ys, xs = [.ref p] ∧ (SqL X.K H p ys ∨ SqT X.K H p ys) ∧ ∀ l, H l = none → Q (.ref l) (upd H l (.lst ys))) := by
  intro pins s σ H xs us Q I r h
  obtain ⟨p, ys, rfl, hq, q⟩ := h
  obtain ⟨u, rfl, rx⟩ := vals1 r
  cases rx
  have fin : ∀ (its : List Value), Vals ys its → ys.length ≤ sizeLine → ∀ (h' : Heap) (c' : Nat), (∀ b o', s.heap.get? b = some o' → h'.get? b = some o') →
      h'.get? s.heap.objs.size = some { cls := .type "list", dict := none, data := .seq its.toArray c', slots := #[] } → EP X pins σ Q (.ref s.heap.objs.size) { s with heap := h' } := fun its r' hz h' c' kp e =>
    ⟨.ref s.heap.objs.size, _, I.laid (t' := s.toks) kp (Nat.le_refl _) (show ObjOk X.prog X.w _ h' _ (.lst ys) from ⟨hz, its, c', r', e⟩), rfl, q _ (I.hok.fresh (Nat.le_refl _))⟩
  rcases hq with hq | hq
  · obtain ⟨its, r', pl, hz⟩ := I.list hq
    have hlen := r'.length
    obtain ⟨o, ho, hc, n, hd⟩ := pl.isList
    exact call_list_seq p (.inl rfl) ho hc hd (fun h' c' kp e => fin its r' hz h' c' kp e) (by simp only [List.size_toArray] <;> omega)
  · obtain ⟨its, r', pl, hz⟩ := I.tuple hq
    have hlen := r'.length
    obtain ⟨o, ho, hc, n, hd⟩ := pl
    exact call_list_seq p (.inr rfl) ho hc hd (fun h' c' kp e => fin its r' hz h' c' kp e) (by simp only [List.size_toArray] <;> omega)
def tyV (K : PySem.W.Frag) (T : String) (x : V) (H : Hp) : Prop := match x with
  | .str _ => T = "str"
  | .int _ => T = "int"
  | .ref p => (T = "list" ∧ ∃ xs, SqL K H p xs) ∨ (T = "tuple" ∧ ∃ o, K.lookup p = some o ∧ o.cls = .type "tuple" ∧ o.dict = none) ∨
      (T = "dict" ∧ ((∃ kvs, H p = some (.dK kvs)) ∨ ∃ kvs, H p = some (.dT kvs))) ∨ (T = "set" ∧ ∃ S n, H p = some (.set S n))
  | _ => False
theorem tyV_is {pins : List (Addr × Obj)} {σ : St} {H : Hp} {s : Shared} {T : String} {x : V} {v : Value} (I : Inv X pins σ H s) (r : RelV x v) (ty : tyV X.K T x H) :
    s.TypeIs v T ∧ ∀ a, v = .ref a → ∃ ob, s.heap.get? a = some ob ∧ ob.dict = none := by
  cases x with
  | str z =>
    obtain ⟨t, rfl⟩ := r
    cases (show T = "str" from ty)
    exact ⟨typeIs_str s z t, fun _ e => nomatch e⟩
  | int i =>
    obtain ⟨t, rfl⟩ := r
    cases (show T = "int" from ty)
    exact ⟨typeIs_int s i t, fun _ e => nomatch e⟩
  | ref p =>
    cases r
    rcases ty with ⟨rfl, xs, hq⟩ | ⟨rfl, o, hk, hc, hd⟩ | ⟨rfl, hk⟩ | ⟨rfl, S, n, hk⟩
    · obtain ⟨its, _, pl, _⟩ := I.list hq
      refine ⟨pl.isList.typeIs, fun a e => ?_⟩
      cases e
      obtain ⟨o, n, e, c, hd, _⟩ := pl
      exact ⟨o, e, hd⟩
    · refine ⟨⟨o, I.kIn p o hk, hc⟩, fun a e => ?_⟩
      cases e
      exact ⟨o, I.kIn _ o hk, hd⟩
    · have z : ∃ o, s.heap.get? p = some o ∧ o.ExactDict := by
        rcases hk with ⟨kvs, hk⟩ | ⟨kvs, hk⟩
        · obtain ⟨_, _, _, _, o, _, _, e, ex, _⟩ := I.hok p _ hk
          exact ⟨o, e, ex⟩
        · obtain ⟨_, _, _, _, o, _, _, e, ex, _⟩ := I.hok p _ hk
          exact ⟨o, e, ex⟩
      obtain ⟨o, e, ex⟩ := z
      refine ⟨⟨o, e, ex.1⟩, fun a e2 => ?_⟩
      cases e2
      exact ⟨o, e, ex.2.1⟩
    · obtain ⟨o, _, _, _, e, ex, _⟩ := I.hok p _ hk
      refine ⟨⟨o, e, ex.1⟩, fun a e2 => ?_⟩
      cases e2
      exact ⟨o, e, ex.2.1⟩
  | _ => exact False.elim ty
def tBM0 (K : PySem.W.Frag) (T : String) (r : V → List V → Hp → VK → Prop) (to : TE) : TE := fun σ H Q => to σ H fun x H1 => tyV K T x H1 ∧ r x [] H1 Q
def tBM (K : PySem.W.Frag) (T : String) (r : V → List V → Hp → VK → Prop) (to : TE) (t : TA) : TE := fun σ H Q => to σ H fun x H1 => tyV K T x H1 ∧ t σ H1 fun xs H2 => r x xs H2 Q
variable {o e : Expr} {es : List Expr} {to : TE} {t : TA} {name : Str} {apos cpos : Pos} {T id : String} {r : V → List V → Hp → VK → Prop}
theorem pe_bm0 (pa : PlainAttrs T) (slot : Slot T name id) (hty : typeOf (.builtin id) = pure (.type "method_descriptor")) (hm : MtR X id r) (ho : PE X o to)
    (hbase : attributeBase o name X.env (eval o X.env) = eval o X.env := by rfl) (hline : (apos.endLine == cpos.line) = true := by rfl) : PE X (.Call (.Attribute o name apos) [] [] cpos) (tBM0 X.K T r to) := by
  intro pins s σ H Q I h
  refine wpAny_Call_method0_late hbase hline (thn (ho pins s σ H _ I h) fun v s1 ⟨x, H1, I1, r1, ty, q1⟩ => ?_)
  obtain ⟨h1, h2⟩ := tyV_is I1 r1 ty
  exact ⟨T, id, pa, slot, hty, h1, h2, Calls.callWith_builtin rfl (PySem.evalArgs_none (hm pins s1 σ H1 x [] v [] Q I1 r1 .nil q1))⟩
theorem pe_bm (pa : PlainAttrs T) (slot : Slot T name id) (hty : typeOf (.builtin id) = pure (.type "method_descriptor")) (hm : MtR X id r) (ho : PE X o to) (ha : PA X (e :: es) t)
    (hbase : attributeBase o name X.env (eval o X.env) = eval o X.env := by rfl)
    (hfew : ((backTo cpos (starEach (e :: es) X.env)).all (fun x => !x.1) && (backToKw cpos (keywordEach [] X.env)).all (fun x => x.1.isSome)
      && decide ((e :: es).length + ([] : List Keyword).length + (if ([] : List Keyword).isEmpty then 0 else 1) < 30)) = true := by rfl)
    (hline : (apos.endLine == cpos.line) = true := by rfl) (hs : starEach (e :: es) X.env = (false, eval e X.env) :: starEach es X.env := by rfl) (hplain : (backTo cpos (starEach es X.env)).any (·.1) = false := by rfl) :
    PE X (.Call (.Attribute o name apos) (e :: es) [] cpos) (tBM X.K T r to t) := by
  intro pins s σ H Q I h
  refine wpAny_Call_method_late hbase hfew hline rfl (thn (ho pins s σ H _ I h) fun v s1 ⟨x, H1, I1, r1, ty, q1⟩ => ?_)
  obtain ⟨h1, h2⟩ := tyV_is I1 r1 ty
  refine ⟨T, id, pa, slot, hty, h1, h2, ?_⟩
  have hA := ha cpos pins s1 σ H1 _ I1 q1
  rw [hs] at hA ⊢
  refine Calls.callWith_builtin (by show (false || (backTo cpos (starEach es X.env)).any (·.1)) = false; rw [hplain] <;> rfl) (Calls.evalArgs_plain ?_)
  exact thn hA fun us s2 ⟨vs, H2, I2, r2, q2⟩ => hm pins s2 σ H2 x vs v us Q I2 r1 r2 q2
end
end L2

namespace L2
open PySem PySem.Spec PyProof.Rows

def MtM (X : Cx) (id : String) (r : V → List V → Hp → VK → Prop) : Prop :=
  ∀ (pins : List (Addr × Obj)) (s : Shared) (σ : St) (H : Hp) (x : V) (xs : List V) (v : Value) (us : List Value) (Q : VK), Inv X pins σ H s → RelV x v → Vals xs us → r x xs H Q →
    wpAny (model X.prog X.w) X.A (call (.builtin id) (v :: us)) (EP X pins σ Q) X.xe s

theorem Vals.one : ∀ {x : V} {us : List Value}, Vals [x] us → ∃ u, us = [u] ∧ RelV x u
  | _, _, .cons r .nil => ⟨_, rfl, r⟩
theorem Vals.zero : ∀ {us : List Value}, Vals [] us → us = []
  | _, .nil => rfl
theorem Vals.dropLast {xs : List V} {us : List Value} (h : Vals xs us) : Vals xs.dropLast us.dropLast := by
  induction h with
  | nil => exact .nil
  | cons r t ih =>
    cases t with
    | nil => exact .nil
    | cons q t' => exact .cons r ih
theorem Vals.rep {xs : List V} {us : List Value} (h : Vals xs us) : ∀ k : Nat, Vals (List.replicate k xs).flatten (List.replicate k us).flatten
  | 0 => .nil
  | k + 1 => by
    rw [List.replicate_succ, List.replicate_succ, List.flatten_cons, List.flatten_cons]
    exact Vals.append h (Vals.rep h k)
theorem erase_last {α : Type} (l : List α) : l.eraseIdx (l.length - 1) = l.dropLast := by
  induction l with
  | nil => rfl
  | cons a r ih =>
    cases r with
    | nil => rfl
    | cons b r =>
      have e : (a :: b :: r).length - 1 = ((b :: r).length - 1) + 1 := by
        have h1 : (a :: b :: r).length = r.length + 2 := rfl
        have h2 : (b :: r).length = r.length + 1 := rfl
        omega
      rw [e, List.eraseIdx_cons_succ, ih]
      all_goals rfl
theorem foldl_rep (its : List Value) : ∀ (k : Nat) (acc : List Value),
    List.foldl (fun x1 x2 => x1 ++ x2) acc.toArray (List.replicate k its.toArray) = (acc ++ (List.replicate k its).flatten).toArray
  | 0, acc => by simp
  | k + 1, acc => by
    have e : acc.toArray ++ its.toArray = (acc ++ its).toArray := by simp
    have e2 : (acc ++ its) ++ (List.replicate k its).flatten = acc ++ (List.replicate (k + 1) its).flatten := by
      rw [List.replicate_succ, List.flatten_cons, List.append_assoc]
    rw [← e2, ← foldl_rep its k (acc ++ its), ← e, List.replicate_succ, List.foldl_cons]

section
variable {X : Cx} {pins : List (Addr × Obj)} {σ : St} {H : Hp} {s : Shared} {l b : Addr} {xs ys zs : List V}

theorem Inv.lset {its its' : List Value} {n : Nat} {f : Array Value → Array Value} {t' : Nat} (I : Inv X pins σ H s) (hH : H l = some (.lst xs))
    (e : s.heap.get? l = some { cls := .type "list", data := .seq its.toArray n }) (hf : f its.toArray = its'.toArray) (hv : Vals ys its') (hz : ys.length ≤ sizeLine) :
    Inv X pins σ (upd H l (.lst ys)) { s with heap := s.heap.update l (Obj.mapSeq f), toks := t' } := by
  have q := PySem.IsL.update e f
  rw [hf] at q
  refine I.write (x := l) (e := l) (by rw [hH]; exact trivial) (.inl rfl) (fun b' u hb hu => (Heap.get?_update_other s.heap (Obj.mapSeq f) (Ne.symm hb)).trans hu) ⟨_, q⟩ ?_
  exact ⟨hz, its', _, hv, q⟩
theorem Inv.lnew {its : List Value} {t' : Nat} (I : Inv X pins σ H s) (hv : Vals ys its) (hz : ys.length ≤ sizeLine) :
    Inv X pins σ (upd H s.heap.objs.size (.lst ys)) { s with heap := s.heap.push { cls := .type "list", data := .seq its.toArray }, toks := t' } :=
  I.laid (fun _ _ q => Heap.get?_push_of_some _ q) (Nat.le_refl _) ⟨hz, its, 0, hv, Heap.get?_push_size _ rfl⟩
theorem Inv.fresh (I : Inv X pins σ H s) : H s.heap.objs.size = none := I.hok.fresh (Nat.le_refl _)
theorem Inv.lstM (I : Inv X pins σ H s) (hH : H l = some (.lst xs)) : xs.length ≤ sizeLine ∧ ∃ (its : List Value) (n : Nat), Vals xs its ∧ xs.length = its.length ∧ s.heap.get? l = some { cls := .type "list", data := .seq its.toArray n } := by
  obtain ⟨z, its, n, r, e⟩ := I.hok l _ hH
  exact ⟨z, its, n, r, r.length, e⟩

theorem notLongL {n : Nat} (h : n ≤ sizeLine) : Builtin.List.listTooLong n = false := by
  unfold Builtin.List.listTooLong
  exact decide_eq_false (by omega)
end

section
variable {X : Cx}

def rAppend : V → List V → Hp → VK → Prop := fun x vs H Q => ∃ l xs y, x = .ref l ∧ vs = [y] ∧ H l = some (.lst xs) ∧ xs.length < sizeLine ∧ Q .non (upd H l (.lst (xs ++ [y])))
theorem mt_append : MtM X "list.append" rAppend := by
  intro pins s σ H x vs v us Q I rx rv h
  obtain ⟨l, xs, y, rfl, rfl, hH, hz, q⟩ := h
  cases rx
  obtain ⟨u, rfl, ru⟩ := rv.one
  obtain ⟨z, its, n, r, hl, e⟩ := I.lstM hH
  refine call_meets F.slot_list_append ⟨_, e, rfl⟩ F.entry_list_append (F.args_list_append_2 _ _) (PySem.list_append l its.toArray n u (by rw [List.size_toArray]; omega)) ⟨e, ?_⟩
  refine ⟨.non, _, I.lset (its' := its ++ [u]) hH e (by simp) (r.append (.cons ru .nil)) ?_, rfl, q⟩
  rw [List.length_append, List.length_singleton]
  omega

def rPop : V → List V → Hp → VK → Prop := fun x vs H Q => ∃ l xs y, x = .ref l ∧ vs = [] ∧ H l = some (.lst xs) ∧ xs[xs.length - 1]? = some y ∧ Q y (upd H l (.lst xs.dropLast))
theorem mt_pop : MtM X "list.pop" rPop := by
  intro pins s σ H x vs v us Q I rx rv h
  obtain ⟨l, xs, y, rfl, rfl, hH, hy, q⟩ := h
  cases rx
  have hus := rv.zero
  subst hus
  obtain ⟨z, its, n, r, hl, e⟩ := I.lstM hH
  obtain ⟨u, hu, ru⟩ := r.get hy
  have hy' : its.toArray[its.toArray.size - 1]? = some u := by
    show its.toArray[its.length - 1]? = some u
    rw [← Array.getElem?_toList, ← hl]
    exact hu
  refine call_meets F.slot_list_pop ⟨_, e, rfl⟩ F.entry_list_pop (F.args_list_pop_1 _) (MeetsSeq.list_pop_last l its.toArray n u hy' (by rw [List.size_toArray]; omega)) ⟨e, ?_⟩
  refine ⟨y, _, I.lset (its' := its.dropLast) hH e ?_ r.dropLast ?_, ru, q⟩
  · show its.toArray.eraseIdxIfInBounds (its.toArray.size - 1) = its.dropLast.toArray
    rw [List.size_toArray, List.eraseIdxIfInBounds_toArray, erase_last]
  · rw [List.length_dropLast]
    omega

def rCat : R2 := fun x y H Q => ∃ l b xs zs, x = .ref l ∧ y = .ref b ∧ H l = some (.lst xs) ∧ H b = some (.lst zs) ∧ xs.length + zs.length ≤ sizeLine ∧ ∀ p, H p = none → Q (.ref p) (upd H p (.lst (xs ++ zs)))
theorem op_cat : OpR X (binaryOp .Add) rCat := by
  intro pins s σ H x y v u Q I rx ry h
  obtain ⟨l, b, xs, zs, rfl, rfl, hH, hB, hz, q⟩ := h
  cases rx
  cases ry
  obtain ⟨z, its, n, r, hl, e⟩ := I.lstM hH
  obtain ⟨z2, its2, n2, r2, hl2, e2⟩ := I.lstM hB
  refine PySem.P.add_list e e2 ?_ (by rw [List.size_toArray, List.size_toArray]; omega)
  have ea : its.toArray ++ its2.toArray = (its ++ its2).toArray := by simp
  rw [ea]
  exact ⟨.ref _, _, I.lnew (t' := s.toks) (r.append r2) (by rw [List.length_append]; omega), rfl, q _ I.fresh⟩
def rRep : R2 := fun x y H Q => ∃ l k xs, x = .ref l ∧ y = .int k ∧ H l = some (.lst xs) ∧ -(2 ^ 63) ≤ k ∧ k < 2 ^ 63 ∧ xs.length * k.toNat ≤ sizeLine ∧
  ∀ p, H p = none → Q (.ref p) (upd H p (.lst (List.replicate k.toNat xs).flatten))
theorem len_rep {α : Type} (xs : List α) (k : Nat) : (List.replicate k xs).flatten.length = k * xs.length := by
  induction k with
  | zero => simp
  | succ k ih => rw [List.replicate_succ, List.flatten_cons, List.length_append, ih, Nat.succ_mul, Nat.add_comm]
theorem op_rep : OpR X (binaryOp .Mult) rRep := by
  intro pins s σ H x y v u Q I rx ry h
  obtain ⟨l, k, xs, rfl, rfl, hH, h1, h2, hz, q⟩ := h
  cases rx
  obtain ⟨t, rfl⟩ := ry
  obtain ⟨z, its, n, r, hl, e⟩ := I.lstM hH
  have hlen : its.toArray.size * k.toNat ≤ sizeLine := by rw [List.size_toArray, ← hl]; exact hz
  have hcap : ¬ its.toArray.size * k.toNat > (2 ^ 63 - 1) / 8 := by
    have : (sizeLine : Nat) ≤ (2 ^ 63 - 1) / 8 := by decide
    omega
  have hfit : ¬ (!Builtin.List.listFitsIndex k) = true := by
    rw [fitsIndex_both h1 h2]
    exact Bool.false_ne_true
  have hlong : ¬ Builtin.List.listTooLong (its.toArray.size * k.toNat) = true := by
    rw [notLongL hlen]
    exact Bool.false_ne_true
  have hnew : List.foldl (fun x1 x2 => x1 ++ x2) #[] (List.replicate (if its.toArray.isEmpty = true then 0 else k.toNat) its.toArray) = (List.replicate k.toNat its).flatten.toArray := by
    have f0 : ∀ m : Nat, List.foldl (fun x1 x2 => x1 ++ x2) #[] (List.replicate m its.toArray) = (List.replicate m its).flatten.toArray := fun m => by
      have := foldl_rep its m []
      rw [List.nil_append] at this
      exact this
    rw [f0]
    cases its with
    | nil => simp
    | cons a r' => rw [if_neg (by simp)]
  refine wpAny_binaryOp_repeat_ref (T := "list") (U := "int") (by decide) ⟨_, e, rfl⟩ (fun s' => typeIs_int s' k t) noFill_list_mul F.fills_int_mul F.slot_int_rmul repeat_list F.slot_int_index.lookup
    (call_meets F.slot_int_rmul (typeIs_int s k t) F.entry_int_rmul (F.args_int_rmul_2 _ _) (int___rmul___int_list k t l its.toArray n)
      ⟨e, rfl, ⟨_, e, rfl⟩, call_meets F.slot_list_mul ⟨_, e, rfl⟩ F.entry_list_mul (F.args_list_mul_2 _ _) (AutoListH.list___mul___list_int_3 l its.toArray n k t hfit hcap hlong) ⟨e, ?_⟩⟩)
  rw [hnew]
  exact ⟨.ref _, _, I.lnew (t' := s.toks) (r.rep k.toNat) (by rw [len_rep, Nat.mul_comm]; exact hz), rfl, q _ I.fresh⟩

end

end L2

namespace Att
open PySem PySem.W PySem.Calls PyProof.Rows

theorem ints_of_wellAll {P : Params} {h : Heap} : ∀ (ns : List Int) (vs : List Value), WellAll P h vs (ns.map WData.int) → IntsAre vs ns := by
  intro ns
  induction ns with
  | nil =>
    intro vs w
    rw [List.map_nil] at w
    cases w
    exact .nil
  | cons n ns ih =>
    intro vs w
    rw [List.map_cons] at w
    cases w with
    | cons a b =>
      cases a
      exact .cons _ _ (ih _ b)

theorem script_of {l : OpenLaw} {n : Nat} (hn : l.most = some n) {P : Params} {h : Heap} {args : List WData} {vals : List Value}
    (hpre : l.row.toRowW.claim.pre args = true) (hwl : WellAll P h vals args) :
    ∃ a vs ns, vals = [Value.ref a] ∧ args = [WData.list (ns.map WData.int)] ∧ h.get? a = some { cls := .type "list", data := .seq vs.toArray } ∧ IntsAre vs ns ∧ ns.length ≤ n := by
  have hsh : WShape.hasAll [] args [.list .int] = true := (pre_splitW hpre).1
  have hc : l.pre.holds [] { args := args } = true := (pre_splitW hpre).2
  obtain ⟨d, r, rfl, h1, h2⟩ := hasAllW_cons hsh
  obtain rfl := hasAllW_nil h2
  obtain ⟨xs, rfl, h3⟩ := hasW_list h1
  obtain ⟨ns, rfl⟩ := items_int h3
  have hlen : ns.length ≤ n := by
    unfold OpenLaw.pre at hc
    have h4 : (WTm.not (.lt (.lit (.int (n : Int))) (.len (.arg 0)))).holds [] { args := [.list (ns.map .int)] } = true := by
      have h4 := (holds_andW hc).1
      rw [hn] at h4
      exact h4
    have h5 := condW_of h4 (w_not (w_lt w_lit (w_len_list (w_arg rfl))))
    rw [List.length_map] at h5
    refine Nat.le_of_not_lt fun q => ?_
    have q' : (n : Int) < ((ns.length : Nat) : Int) := by omega
    first
      | (rw [decide_eq_true q'] at h5; exact absurd h5 (by decide))
      | (simp at h5; omega)
  cases hwl with
  | cons w1 w2 =>
    cases w2
    cases w1 with
    | list ho hall => exact ⟨_, _, ns, rfl, rfl, ho, ints_of_wellAll ns _ hall, hlen⟩

theorem post_true (l : OpenLaw) (args : List WData) : l.row.toRowW.claim.post args (.bool true) args = true :=
  postW_of (r := l.row.toRowW) (X := (true == true))
    (show WShape.has [] (.bool true) .bool = true by first | rfl | decide | simp [WShape.has, WShape.arms, WShape.armsAll])
    (show (WTm.eq .res (.lit (.bool true))).value [] { args := args, res := some (.bool true), after := args } = some (.bool (true == true)) from w_eq_bool (w_res rfl) w_lit) rfl

theorem attach_call {l : OpenLaw} {n : Nat} {q : Program} {loose : List Str} {XP : (Str → Option Value) → Heap → Prop} {YP : World → Heap → Prop} {d : DefRec}
    (hn : l.most = some n) (hdf : d.params.defaults = [])
    (call : ∀ (w : World) (s₀ s₁ : Shared) (mg mb : Str → Option Value) (fa : Addr) (o : Obj) (pm cd doc : Value) (a : Addr) (vs : List Value) (ns : List Int),
      Ground q loose [] XP w s₀ mg mb s₁.heap → YP w s₁.heap →
      s₁.heap.get? fa = some o → o.data = .func (docDef d.name d.params d.body d.scope pm cd doc) → s₁.heap.CodeRec cd d.name → mg d.name = some (.ref fa) →
      s₁.heap.get? a = some { cls := .type "list", data := .seq vs.toArray } → IntsAre vs ns → ns.length ≤ n → s₁.gens = #[] →
      codeAny (model l.prog w) callerA (.call (.ref fa) ⟨[.ref a], []⟩) (fun r s' => r = .ok (.ret (.bool true)) ∧ OldK s₁.heap s'.heap ∧ s'.os = s₁.os ∧ AllBare s'.gens) s₁) :
    WalkO q loose XP YP l.row.toRowW d [] (fun f vs => PySem.call f vs) := by
  intro w s₀ s₁ mg mb G Y fa o pm cd doc dV kV ho hd hcd hD hmg hg args vals as hpre hlay hrd hwl hlo
  obtain rfl : dV = .none := Dflts.none hD hdf
  obtain rfl : kV = .none := Dflts.noKw hD
  obtain ⟨a, vs, ns, rfl, rfl, hobj, hints, hlen⟩ := script_of hn hpre hwl
  refine enter_call (codeAny_mono (call w s₀ s₁ mg mb fa o pm cd doc a vs ns G Y ho (fd_plain hd) hcd hmg hobj hints hlen hg) fun r s' hq => ?_)
  obtain ⟨rfl, h2, h3, h4⟩ := hq
  exact ⟨.inl ⟨.bool true, .bool true, [], rfl, fun _ => rfl, .bool true, post_true l _, fun _ => ⟨List.Pairwise.nil, fun _ hm => (nomatch hm)⟩⟩, h2, h3, h4⟩

end Att

namespace L2
open PySem PySem.Spec PyProof.Rows

theorem vals_ints : ∀ {vs : List Value} {ns : List Int}, IntsAre vs ns → Vals (ns.map V.int) vs
  | _, _, .nil => .nil
  | _, _, .cons n t h => .cons ⟨t, rfl⟩ (vals_ints h)

def Only (H : Hp) : Prop := ∀ b, H b = none ∨ ∃ o xs, H b = some (.frz o (.lst xs))

theorem law_call {P : Program} {w : World} {K : PySem.W.Frag} {mg mb : Str → Option Value} {CX : CXT} {k : Nat} {fa a : Addr} {fd : FuncData} {x : Str} {sp : Sp} {s₁ : Shared} {vs : List Value} {ns : List Int}
    (KX : K.In s₁.heap) (hns : s₁.heap.Ns mainGlobals mg) (hb : s₁.heap.Ns builtinsNs mb) (hbb : ∀ x : Str, x ≠ "__name__" → mb x = bootBuiltins x) (hlim : s₁.heap.NoLimit) (hg : s₁.gens = #[])
    (ha : s₁.heap.get? a = some { cls := .type "list", data := .seq vs.toArray }) (hi : IntsAre vs ns) (hl : ns.length ≤ sizeLine) (hr : Room k callerA)
    (F : ∀ base : Heap, K.In base → base.Ns mainGlobals mg → FnOk P w K mg base CX k fa fd [x] sp) (hbind : ∀ (s : Shared) (u : Value), BindsTo s fd ⟨[u], []⟩ [(x, u)])
    (hsp : ∀ H : Hp, Only H → SqL K H a (ns.map V.int) → sp [.ref a] H (fun v _ => v = .bl true) fun _ _ _ => False)
    (hCX : ∀ H e s', CX [] H s₁ (fun _ _ _ => False) e s' → False) :
    codeAny (model P w) callerA (.call (.ref fa) ⟨[.ref a], []⟩) (fun r s' => r = .ok (.ret (.bool true)) ∧ OldK s₁.heap s'.heap ∧ s'.os = s₁.os ∧ AllBare s'.gens) s₁ := by
  have rv := vals_ints hi
  have lenV := hi.length
  -- from an abstract heap in which nothing but the script may be tracked
  have core : ∀ H : Hp, Only H → SqL K H a (ns.map V.int) → HOk P w H s₁.heap → (∀ b, H b ≠ none → b = a) → (H a ≠ none → K.lookup a = none) →
      codeAny (model P w) callerA (.call (.ref fa) ⟨[.ref a], []⟩) (fun r s' => r = .ok (.ret (.bool true)) ∧ OldK s₁.heap s'.heap ∧ s'.os = s₁.os ∧ AllBare s'.gens) s₁ := by
    intro H hO hS hok hA hK
    have base_of : ∀ {b : Addr} {o : Obj}, s₁.heap.get? b = some o → H b = none → (hidT s₁.heap H).get? b = some o := fun e n => hidT_get e n
    have noA : ∀ {b : Addr} {o : Obj} {es : Array DictEntry} {ep : Nat}, s₁.heap.get? b = some o → o.data = .dict es ep → H b = none := fun {b o es ep} e d => by
      cases q : H b with
      | none => rfl
      | some u =>
        have e' : b = a := hA b (by rw [q]; simp)
        subst e'
        rw [ha] at e; cases e
        have d' : Data.seq vs.toArray _ = Data.dict es ep := d
        cases d'
    have nsK : ∀ {b : Addr} {m : Str → Option Value}, s₁.heap.Ns b m → (hidT s₁.heap H).Ns b m := fun {b m} ⟨o, es, ep, e, d, r⟩ => ⟨o, es, ep, base_of e (noA e d), d, r⟩
    have hKb : K.In (hidT s₁.heap H) := fun b o e => base_of (KX b o e) (by
      cases q : H b with
      | none => rfl
      | some u =>
        have e' : b = a := hA b (by rw [q]; simp)
        subst e'
        rw [hK (by rw [q]; simp)] at e; cases e)
    have hM : Mod K mg (hidT s₁.heap H) := ⟨hKb, nsK hns, ⟨mb, nsK hb, hbb⟩, let ⟨mc, h1, h2⟩ := hlim; ⟨mc, nsK h1, h2⟩⟩
    have e0 : Env0 P w K mg (hidT s₁.heap H) callerA [] s₁ H := ⟨rfl, hM, fun b o e => of_hidT e, Nat.le_of_eq (hidT_size _ _), trivial, fun b hb => absurd (show b ∈ ([] : List Addr) from hb) (by simp), hok, .of_eq hg⟩
    refine codeAny_mono ((F _ hKb (nsK hns)).run callerA [] s₁ H ⟨[.ref a], []⟩ [.ref a] [.ref a] _ _ hr e0 (hbind s₁ (.ref a)) (.cons rfl .nil) (hsp H hO hS)) fun r s' h => ?_
    cases r with
    | error e => exact (hCX H e s' h).elim
    | ok fl =>
      cases fl with
      | next => exact False.elim h
      | brk => exact False.elim h
      | cont => exact False.elim h
      | ret u =>
        obtain ⟨v, H', os, bare, un, hok', r', q⟩ := h
        have q' : v = .bl true := q
        subst q'
        obtain rfl : u = Value.bool true := r'
        refine ⟨rfl, OldK.of_keep fun b o e => ?_, os, bare⟩
        cases q : H b with
        | none => exact un.keep b o e q (by intro z; exact absurd (show b ∈ ([] : List Addr) from z) (by simp)) (by simp)
        | some u =>
          rcases hO b with z | ⟨ob, xs, z⟩
          · rw [q] at z; cases z
          · have z2 := un.frzs b ob _ z
            obtain ⟨e1, _⟩ := hok b _ z
            obtain ⟨e2, _⟩ := hok' b _ z2
            rw [e] at e1; cases e1
            exact e2
  cases hk : K.lookup a with
  | some o =>
    -- the script is one of the module's own objects
    have e := KX a o hk
    rw [ha] at e
    cases e
    refine core (fun _ => none) (fun _ => .inl rfl) (.inr ⟨_, vs.toArray, _, hk, rfl, rfl, rfl, by rw [List.size_toArray, lenV]; exact hl, by simpa using rv⟩) (fun b u z => by have z' : (none : Option HO) = some u := z; cases z') (fun b z => absurd rfl z) fun z => absurd rfl z
  | none =>
    refine core (fun b => if b = a then some (.frz { cls := .type "list", data := .seq vs.toArray } (.lst (ns.map V.int))) else none) (fun b => ?_) (.inl (.inr ⟨{ cls := .type "list", data := .seq vs.toArray }, if_pos rfl⟩)) (fun b u z => ?_) (fun b z => ?_) fun _ => hk
    · by_cases hb : b = a
      · exact .inr ⟨_, _, if_pos hb⟩
      · exact .inl (if_neg hb)
    · by_cases hb : b = a
      · have z' := (if_pos hb).symm.trans z
        cases z'
        subst hb
        exact ⟨ha, by rw [List.length_map]; exact hl, vs, _, rv, ha⟩
      · have z' := (if_neg hb).symm.trans z
        cases z'
    · by_cases hb : b = a
      · exact hb
      · exact absurd (if_neg hb) z
end L2

namespace L2
open PySem PySem.Spec PyProof.Rows

end L2


namespace L2
open PySem PySem.Spec PyProof.Rows

def defArgs (s : Stmt) : Arguments := match s with
  | .FunctionDef _ a _ _ _ _ _ _ _ _ => a
  | _ => { posonlyargs := [], args := [], vararg := none, kwonlyargs := [], kw_defaults := [], kwarg := none, defaults := [] }
def defBody (s : Stmt) : List Stmt := match s with
  | .FunctionDef _ _ b _ _ _ _ _ _ _ => b
  | _ => []
def defScope (s : Stmt) : Scope := match s with
  | .FunctionDef _ _ _ _ _ _ sc _ _ _ => sc
  | _ => { kind := .function, names := [], isGenerator := false, isCoroutine := false }

abbrev CX0 : CXT := fun _ _ _ _ _ _ => False
abbrev E0 : XK := fun _ _ _ => False
theorem pass0 {X : Cx} : Passes CX0 X E0 := fun _ _ _ _ _ _ _ h => h.elim

structure Fun (K : PySem.W.Frag) (x qual : Str) (st : Stmt) (f : Addr) (fd : FuncData) : Prop where
  ex : ∃ (oc : Value) (od : Option Addr) (kV doc pm : Value) (an : Option Addr) (cdv ct : Value) (osl : Array (Option Value)),
    fd = PySem.W.fnOf x qual (defArgs st) (defBody st) (defScope st) .none kV doc pm an cdv ct ∧ K.lookup f = some ⟨oc, od, .func fd, osl⟩ ∧ PySem.W.codeIn K cdv qual = true
  kp : PySem.W.keepIn K (.ref f) = true
section
variable {P : Program} {w : World} {K : PySem.W.Frag} {mg : Str → Option Value} {base : Heap}
theorem Fun.ok {x qual : Str} {st : Stmt} {f : Addr} {fd : FuncData} {N ps : List Str} {k : Nat} {sp : Sp} (F : Fun K x qual st f fd) (S : FnScope N ps (defScope st)) (len : ∀ vs H Q E, sp vs H Q E → vs.length = ps.length)
    (hbody : ∀ (cdv : Value) (A : Around) (outer : List Env) (s : Shared) (H : Hp) (vs : List V) (Q : VK) (E : XK), Room k (A.deeper (envOfC qual (defScope st) s.heap.objs.size f cdv)) → sp vs H Q E →
      ∃ t, PSs (cxOf CX0 P w K mg base N qual (defScope st) f cdv A outer s H E).nox (defBody st) t ∧ t { nx := fun _ H' => Q .non H', rt := Q } (start N vs) H) : FnOk P w K mg base CX0 (k + 1) f fd ps sp := by
  obtain ⟨oc, od, kV, doc, pm, an, cdv, ct, osl, rfl, lk, hcd⟩ := F.ex
  refine fn_of lk hcd S len fun A outer s H vs Q E hr hsp => ?_
  obtain ⟨t, h, q⟩ := hbody cdv A outer s H vs Q E hr hsp
  exact ⟨t, h.nox, q⟩
theorem Fun.binds {x qual : Str} {st : Stmt} {f : Addr} {fd : FuncData} {ps : List Str} (F : Fun K x qual st f fd)
    (h : ∀ (kV doc pm : Value) (an : Option Addr) (cdv ct : Value) (us : List Value), us.length = ps.length → bindArgs (PySem.W.fnOf x qual (defArgs st) (defBody st) (defScope st) .none kV doc pm an cdv ct) ⟨us, []⟩ = pure (ps.zip us)) : Binds K fd ps [] := by
  obtain ⟨oc, od, kV, doc, pm, an, cdv, ct, osl, rfl, lk, hcd⟩ := F.ex
  exact .all (h kV doc pm an cdv ct)
end
theorem hu_of {A : Around} {k : Nat} (hr : Room k A) : A.units + 1 < cLine := Nat.lt_of_le_of_lt (Nat.add_le_add_left (by decide : 1 ≤ 64) _) hr.units
section
variable {X : Cx}
theorem pv (i : Nat) {x : Str} {pos : Pos} (hN : X.N[i]? = some x := by rfl) (hv : Vis X.env.scope x := by first | exact Or.inl rfl | exact Or.inr (Or.inl rfl) | exact Or.inr (Or.inr rfl)) (hd : (x == ("__debug__" : Str)) = false := by decide)
    (hcd : (x == ("__classdict__" : Str)) = false := by decide) : PE X (.Name x pos) (tVar i) := pe_var hN hv hd hcd
end

theorem ite2 {c A B : Prop} [Decidable c] (h1 : c → A) (h2 : ¬ c → B) : if c then A else B := by
  by_cases h : c
  · rw [if_pos h]
    exact h1 h
  · rw [if_neg h]
    exact h2 h
def Same (H H' : Hp) : Prop := ∀ b o, H b = some o → H' b = some o
theorem Same.refl (H : Hp) : Same H H := fun _ _ h => h
theorem Same.seq {K : PySem.W.Frag} {H H' : Hp} {a : Addr} {xs : List V} (e : Same H H') (h : SqL K H a xs) : SqL K H' a xs := by
  rcases h with (h | ⟨o, h⟩) | h
  · exact .inl (.inl (e _ _ h))
  · exact .inl (.inr ⟨o, e _ _ h⟩)
  · exact .inr h

end L2

set_option Elab.async false
set_option linter.all false
set_option maxRecDepth 100000
set_option maxHeartbeats 4000000
namespace L2
open PySem PySem.Spec PyProof.Rows
section
variable {X : Cx}
def CDivB (_ j : Int) : Prop := 0 < j ∧ j < 2 ^ 250
theorem log2_big {j : Int} (h1 : 0 < j) (h2 : j < 2 ^ 250) : j.natAbs.log2 < 9000 := by
  have h0 : j.natAbs ≠ 0 := by omega
  have h3 : j.natAbs < 2 ^ 250 := by omega
  exact Nat.lt_trans ((Nat.log2_lt h0).mpr h3) (by decide)
theorem op_fdivB : OpR X (binaryOp .FloorDiv) (rI CDivB fun i j => .int (i / j)) := opI fun i j _ _ _ _ _ hc q => by
  have h1 : (0 : Int) < j := hc.1
  exact floordiv_int (by omega) (by rw [Int.fdiv_eq_ediv_of_nonneg i (by omega)]; exact q) (.inl (PyProof.noPylong_of_log2 (log2_big hc.1 hc.2)))
def CMulB (i j : Int) : Prop := i.natAbs < 2 ^ 250 ∧ j.natAbs < 2 ^ 250
theorem CMulB.ok {i j : Int} (h : CMulB i j) : IntMulOk i j := by
  have a : Builtin.Int.intBits i ≤ 250 := intBits_le h.1
  have b : Builtin.Int.intBits j ≤ 250 := intBits_le h.2
  unfold IntMulOk Builtin.Int.intTooBig
  intro z
  rw [Bool.and_eq_true] at z
  have c := of_decide_eq_true z.2
  rw [bitsLine_eq] at c
  omega
theorem op_mulB : OpR X (binaryOp .Mult) (rI CMulB fun i j => .int (i * j)) := opI fun _ _ _ _ _ _ _ hc q => mul_int q hc.ok
end
section
variable {K : PySem.W.Frag}
theorem kit_self (T : String) : PySem.W.kitOne K (.type T) (.type T) = some true := by
  unfold PySem.W.kitOne
  rw [if_pos (beq_self_eq_true _)]
theorem kit_of {T S : String} {b : Bool} (h1 : (Value.type T == Value.type S) = false) (h2 : PySem.W.kitMeta S = true) (h3 : (fastBuiltinMro T).map (·.contains (Value.type S)) = some b) : PySem.W.kitOne K (.type T) (.type S) = some b := by
  unfold PySem.W.kitOne
  rw [if_neg (by rw [h1]; exact Bool.false_ne_true)]
  show (if PySem.W.kitMeta S = true then PySem.W.subIn K (.type T) (.type S) else none) = some b
  rw [if_pos h2]
  exact h3
theorem bt_isinstance : bootBuiltins "isinstance" = some (.builtin "isinstance") := by decide +kernel
theorem bt_max : bootBuiltins "max" = some (.builtin "max") := by decide +kernel
theorem bt_min : bootBuiltins "min" = some (.builtin "min") := by decide +kernel
theorem bt_int : bootBuiltins "int" = some (.type "int") := by decide +kernel
theorem bt_bool : bootBuiltins "bool" = some (.type "bool") := by decide +kernel
theorem bt_str : bootBuiltins "str" = some (.type "str") := by decide +kernel
theorem bt_list : bootBuiltins "list" = some (.type "list") := by decide +kernel
theorem bt_tuple : bootBuiltins "tuple" = some (.type "tuple") := by decide +kernel
theorem bt_dict : bootBuiltins "dict" = some (.type "dict") := by decide +kernel
end
end L2

set_option Elab.async false
set_option linter.all false
set_option maxRecDepth 100000
set_option maxHeartbeats 4000000
namespace L2
open PySem PySem.Spec PyProof.Rows
theorem closure_of {scope : Scope} {env : Env} (h : ∀ y ∈ scope.names, y.2 = .free → ∃ c, env.cells.lookup y.1 = some c) :
    ∃ cl, closureFor scope env = pure cl ∧ (∀ x c, cl.lookup x = some c → env.cells.lookup x = some c) ∧ (∀ y ∈ scope.names, y.2 = .free → ∃ c, cl.lookup y.1 = some c) := by
  have key : ∀ (ns : List (Str × NameKind)) (cs : List (Str × Addr)), (∀ y ∈ ns, y.2 = .free → ∃ c, env.cells.lookup y.1 = some c) → (∀ x c, cs.lookup x = some c → env.cells.lookup x = some c) →
      ∃ cl, (forIn ns cs fun (x : Str × NameKind) (cs : List (Str × Addr)) => (if x.2 == .free then do let c ← cellOf env x.1; pure (ForInStep.yield ((x.1, c) :: cs)) else pure (ForInStep.yield cs) : Sem _)) = pure cl ∧
        (∀ x c, cl.lookup x = some c → env.cells.lookup x = some c) ∧ (∀ x c, cs.lookup x = some c → ∃ c, cl.lookup x = some c) ∧ (∀ y ∈ ns, y.2 = .free → ∃ c, cl.lookup y.1 = some c) := by
    intro ns
    induction ns with
    | nil => intro cs _ hc; exact ⟨cs, rfl, hc, fun x c e => ⟨c, e⟩, fun y hy => nomatch hy⟩
    | cons y r ih =>
      intro cs hn hc
      obtain ⟨n, k⟩ := y
      by_cases hk : k = .free
      · subst hk
        obtain ⟨c, e⟩ := hn (n, .free) List.mem_cons_self rfl
        obtain ⟨cl, e1, e2, e3, e4⟩ := ih ((n, c) :: cs) (fun y hy => hn y (List.mem_cons_of_mem _ hy)) (fun x c' q => by
          rw [List.lookup_cons] at q
          cases hx : x == n with
          | true =>
            rw [hx] at q
            cases q
            have : x = n := by simpa using hx
            rw [this]
            exact e
          | false =>
            rw [hx] at q
            exact hc x c' q)
        refine ⟨cl, ?_, e2, fun x c' q => ?_, fun y hy hyk => ?_⟩
        · rw [List.forIn_cons]
          have e' : env.cells.lookup n = some c := e
          simp only [beq_self_eq_true, if_true, cellOf, e']
          exact e1
        · cases hx : x == n with
          | true => exact e3 x c (by rw [List.lookup_cons, hx])
          | false => exact e3 x c' (by rw [List.lookup_cons, hx]; exact q)
        · rcases List.mem_cons.mp hy with rfl | hy
          · exact e3 n c (by rw [List.lookup_cons]; simp)
          · exact e4 y hy hyk
      · obtain ⟨cl, e1, e2, e3, e4⟩ := ih cs (fun y hy => hn y (List.mem_cons_of_mem _ hy)) hc
        refine ⟨cl, ?_, e2, e3, fun y hy hyk => ?_⟩
        · rw [List.forIn_cons]
          have hb : (k == NameKind.free) = false := by simpa using hk
          simp only [hb, Bool.false_eq_true, if_false]
          exact e1
        · rcases List.mem_cons.mp hy with rfl | hy
          · exact absurd hyk hk
          · exact e4 y hy hyk
  obtain ⟨cl, e1, e2, _, e4⟩ := key scope.names [] h (fun x c e => by simp at e)
  refine ⟨cl, ?_, e2, e4⟩
  simp only [closureFor]
  rw [show (forIn scope.names ([] : List (Str × Addr)) fun (x : Str × NameKind) (cs : List (Str × Addr)) => (if x.2 == .free then do let c ← cellOf env x.1; pure (ForInStep.yield ((x.1, c) :: cs)) else pure (ForInStep.yield cs) : Sem _)) = pure cl from e1]
  rfl
theorem relabel_inv {scope : Scope} {env : Env} {x : Str} {k : NameKind} (h : (relabel scope env).names.lookup x = some k) : ∃ k0, scope.names.lookup x = some k0 ∧ (k0 = k ∨ (k0 = .free ∧ k = .cell)) := by
  unfold relabel at h
  dsimp only at h
  revert h
  generalize scope.names = ns
  induction ns with
  | nil => intro h; simp at h
  | cons y r ih =>
    obtain ⟨n, k'⟩ := y
    intro h
    rw [List.map_cons] at h
    cases hx : x == n with
    | true =>
      rw [List.lookup_cons, hx]
      refine ⟨k', rfl, ?_⟩
      dsimp only at h
      split at h
      · rename_i hc
        rw [List.lookup_cons, hx] at h
        cases h
        rw [Bool.and_eq_true, Bool.and_eq_true] at hc
        exact .inr ⟨by simpa using hc.1.1, rfl⟩
      · rw [List.lookup_cons, hx] at h
        cases h
        exact .inl rfl
    | false =>
      rw [List.lookup_cons, hx]
      dsimp only at h
      apply ih
      split at h
      · rw [List.lookup_cons, hx] at h; exact h
      · rw [List.lookup_cons, hx] at h; exact h
theorem relabel_free {scope : Scope} {env : Env} {x : Str} (h : scope.names.lookup x = some .free) (hk : env.scope.kind = .function) (hc : env.kindOf x = some .cell) : (relabel scope env).names.lookup x = some .cell := by
  unfold relabel
  dsimp only
  revert h
  generalize scope.names = ns
  induction ns with
  | nil => intro h; simp at h
  | cons y r ih =>
    obtain ⟨n, k'⟩ := y
    intro h
    rw [List.map_cons]
    cases hx : x == n with
    | true =>
      rw [List.lookup_cons, hx] at h
      cases h
      have : x = n := by simpa using hx
      subst this
      dsimp only
      rw [if_pos (by rw [hk, hc]; rfl), List.lookup_cons, hx]
    | false =>
      rw [List.lookup_cons, hx] at h
      dsimp only
      split
      · rw [List.lookup_cons, hx]; exact ih h
      · rw [List.lookup_cons, hx]; exact ih h
section
variable {prog : Program} {w : World} {A : Around} {R : Result → Shared → Prop} {s : Shared}
theorem compLoop_any {elt target iter : Expr} {ifs : List Expr} {scope : Scope} {pos : Pos} {it acc : Value} {env : Env} (I : Nat → Shared → Prop)
    (turn : ∀ n s, I n s → wpAny (model prog w) A (pyNext it) (fun r s₁ => match r with
      | none => R (.ok .next) s₁
      | some v => wpAny (model prog w) A (letOwnedTupleGo target it v) (fun _ s₀ => wpAny (model prog w) A (assign target env v) (fun _ s₂ =>
          wpAny (model prog w) A (forIn ifs true fun c r => if r = true then do let ok ← isTrue c env (eval c env); pure (ForInStep.yield ok) else pure (ForInStep.yield r)) (fun ok s₃ =>
            if ok = true then wpAny (model prog w) A (eval elt env) (fun x s₄ =>
              wpAny (model prog w) A (call (.builtin "list.append") [acc, x]) (fun _ s₅ => ∃ m, m < n ∧ I m s₅) (fun _ _ => False) s₄) (fun _ _ => False) s₃
            else ∃ m, m < n ∧ I m s₃) (fun _ _ => False) s₂) (fun _ _ => False) s₀) (fun _ _ => False) s₁) (fun _ _ => False) s)
    (n : Nat) (h : I n s) :
    codeAny (model prog w) A (.compLoop (.ListComp elt [⟨target, iter, ifs, 0⟩] scope pos) 0 it acc env) R s := by
  refine codeAny_loop rfl I (fun n s hI => ?_) n h
  show wpAny _ A ((compTurn (.ListComp elt [⟨target, iter, ifs, 0⟩] scope pos) 0 it acc env).onRaise (fun x => do noteFrame x env; theTreesLotGoes x)) _ _ s
  refine wpAny_noted ?_
  rw [compTurn_list]
  refine wpAny_bind (wpAny_standAt (wpAny_bind (wpAny_mono (turn n s hI) (fun r s₁ h₁ => ?_) fun _ _ h' => h'.elim)))
  cases r with
  | none => exact wpAny_pure h₁
  | some v =>
    refine wpAny_bind (wpAny_mono h₁ (fun _ s₀ h₀ => ?_) fun _ _ h' => h'.elim)
    refine wpAny_bind (wpAny_mono h₀ (fun _ s₂ h₂ => wpAny_bind (wpAny_mono h₂ (fun ok s₃ h₃ => ?_) fun _ _ h' => h'.elim)) fun _ _ h' => h'.elim)
    cases ok with
    | false => exact wpAny_pure ⟨rfl, h₃⟩
    | true =>
      exact wpAny_bind (wpAny_bind (wpAny_mono h₃ (fun x s₄ h₄ => wpAny_bind (wpAny_mono h₄ (fun _ s₅ h₅ => wpAny_pure (wpAny_pure ⟨rfl, h₅⟩)) fun _ _ h' => h'.elim)) fun _ _ h' => h'.elim))
end

section
variable {X : Cx} {pins : List (Addr × Obj)} {σ : St} {H : Hp} {s : Shared}
def PCs (X : Cx) (ifs : List Expr) (t : TT) : Prop :=
  ∀ (pins : List (Addr × Obj)) (s : Shared) (σ : St) (H : Hp) (Q : Bool → Hp → Prop), Inv X pins σ H s → t σ H Q →
    wpAny (model X.prog X.w) X.A (forIn ifs true fun c r => if r = true then do let ok ← isTrue c X.env (eval c X.env); pure (ForInStep.yield ok) else pure (ForInStep.yield r)) (TP X pins σ Q) X.xe s
def tYes : TT := fun _ H Q => Q true H
theorem pcs_nil : PCs X [] tYes := fun pins s σ H Q I h => wpAny_tests_nil ⟨H, I, h⟩
theorem pcs_one {c : Expr} {t : TT} (h : PT X c t) : PCs X [c] t := fun pins s σ H Q I q => wpAny_tests_one (h pins s σ H Q I q)
end
def pick (n : Nat) (outs : List Nat) (σ : St) : St := List.replicate n none ++ outs.map fun j => (σ[j]?).join
theorem pick_len (n : Nat) (outs : List Nat) (σ : St) : (pick n outs σ).length = n + outs.length := by
  unfold pick
  rw [List.length_append, List.length_replicate, List.length_map]
def cxComp (X : Cx) (N' : List Str) (scope : Scope) (cl : List (Str × Addr)) (C : Addr) (s : Shared) (H : Hp) (ex : List Addr) : Cx where
  prog := X.prog
  w := X.w
  K := X.K
  mg := X.mg
  base := X.base
  A := X.A
  N := N'
  s₀ := s
  H₀ := H
  env := compEnvC scope cl C X.env
  outer := X.stack
  stack := X.stack
  ex := ex
  fn := fun _ => false
  calm := X.calm
  pn := []
  xe := fun _ _ => False
structure CompScope (dsc scope : Scope) (N tgs : List Str) (outs : List Nat) (N' : List Str) : Prop where
  kind : scope.kind = .function
  names : ∀ x ∈ scope.names, x.2 = .local → scope.names.lookup x.1 = some .local
  nocell : ∀ y ∈ scope.names, y.2 ≠ .cell
  free : ∀ y ∈ scope.names, y.2 = .free → dsc.names.lookup y.1 = some .cell
  isN : N' = tgs ++ outs.map (fun j => N.getD j "")
  lts : ∀ j ∈ outs, j < N.length
  outF : ∀ j ∈ outs, scope.names.lookup (N.getD j "") = some .free
  nd : N'.Nodup
def Tgt (n : Nat) (g : TG) : Prop := ∀ x σ H Q, g x σ H Q → g x σ H (fun σ2 H2 => Q σ2 H2 ∧ σ2.length = σ.length ∧ ∀ i, n ≤ i → σ2[i]? = σ[i]?)
theorem tgt_name {n i : Nat} (h : i < n) : Tgt n (gName i) := fun x σ H Q q => ⟨q, by rw [List.length_set], fun j hj => List.getElem?_set_ne (by omega)⟩
def tComp (n : Nat) (outs : List Nat) (wi : TI) (g : TG) (tc : TT) (te : TE) : TE := fun σ H Q => wi σ H fun J H1 =>
  ∃ W : Nat → Nat → List V → Hp → Prop, (∃ m, W 0 m [] H1) ∧ ∀ i m acc H, W i m acc H →
    (J.stop i H ∧ acc.length ≤ sizeLine ∧ ∀ l, H l = none → Q (.ref l) (upd H l (.lst acc))) ∨
    (J.go i H ∧ acc.length < sizeLine ∧ ∃ N : List V → Hp → Prop, (∀ acc' H', N acc' H' → ∃ m', m' < m ∧ W (i + 1) m' acc' H') ∧ ∀ x H', J.yld i H x H' → g x (pick n outs σ) H' fun σ2 H2 => tc σ2 H2 fun b H3 =>
      if b = true then te σ2 H3 fun y H4 => N (acc ++ [y]) H4 else N acc H3)
section
variable {X : Cx} {pins : List (Addr × Obj)} {σ : St} {H2 : Hp} {s2 : Shared} {dsc scope : Scope} {tgs N' : List Str} {outs : List Nat} {cl : List (Str × Addr)} {fp : List Addr} {C D : Addr} {h1 : Heap} {tk : Nat} {mC : Str → Option Value}
theorem comp_start (S : CompScope dsc scope X.N tgs outs N') (hsc : X.env.scope = dsc) (I2 : Inv X pins σ H2 s2) (f2 : ∀ b ∈ fp, FpOk X pins H2 b) (hfp : ∀ b ∈ fp, b < s2.heap.objs.size)
    (hcl1 : ∀ x c, cl.lookup x = some c → X.env.cells.lookup x = some c) (hcl2 : ∀ y ∈ scope.names, y.2 = .free → ∃ c, cl.lookup y.1 = some c)
    (hC : s2.heap.objs.size ≤ C) (kp : ∀ b o, s2.heap.get? b = some o → h1.get? b = some o) (nC : h1.Ns C mC) :
    Inv (cxComp X N' scope cl C s2 H2 fp) [] (pick tgs.length outs σ) H2 { s2 with heap := h1, toks := tk } := by
  have freeAt : ∀ x, scope.names.lookup x = some .free → (relabel scope X.env).names.lookup x = some .cell := fun x e =>
    relabel_free e I2.ok.kind (by show X.env.scope.names.lookup x = some .cell; rw [hsc]; exact S.free (x, .free) (PySem.mem_of_lookup e) rfl)
  refine ⟨⟨I2.ok.mod, ?_, I2.ok.glob, I2.ok.blt, hC, fun x y c e1 e2 => I2.ok.inj x y c (hcl1 x c e1) (hcl1 y c e2), fun x hx => ?_, (fun x c h => nomatch h), I2.ok.hd, I2.ok.frames, .inl rfl, fun b hb => ?_, I2.bs, Nat.le_trans I2.ok.bsz I2.sz, fun b o e hb => ?_, fun b hb => ?_, I2.stack, I2.stkFree⟩,
    rfl, I2.bare, Un.kept kp, ⟨mC, nC, fun i x v e1 e2 e3 => ?_⟩, fun x c e => ?_, I2.hok.fresh hC, fun x c e => I2.freeC x c (hcl1 x c e), fun p hp => absurd (show p ∈ ([] : List (Addr × Obj)) from hp) (by simp), I2.hok.kept kp, ?_⟩
  · exact S.kind
  · have hx' : (relabel scope X.env).names.lookup x = some .cell ∨ (relabel scope X.env).names.lookup x = some .free := hx
    have z : scope.names.lookup x = some .free := by
      rcases hx' with hx' | hx'
      · obtain ⟨k0, e, h | ⟨h, _⟩⟩ := relabel_inv hx'
        · rw [h] at e
          exact absurd rfl (S.nocell _ (PySem.mem_of_lookup e))
        · rw [h] at e; exact e
      · obtain ⟨k0, e, h | ⟨h, _⟩⟩ := relabel_inv hx'
        · rw [h] at e; exact e
        · rw [h] at e; exact e
    exact hcl2 (x, .free) (PySem.mem_of_lookup z) rfl
  · refine ⟨fun z => ?_, fun x c e => (f2 b hb).2.2.2.2.1 x c (hcl1 x c e)⟩
    have z' : b = C := z
    exact absurd (Nat.lt_of_lt_of_le (hfp b hb) hC) (by rw [z']; exact Nat.lt_irrefl _)
  · rcases (f2 b hb).2.2.2.1 with z | z
    · exact I2.ok.noex b o e z
    · exact absurd (Nat.lt_of_lt_of_le (Heap.lt_size e) (Nat.le_trans I2.ok.bsz z)) (Nat.lt_irrefl _)
  · intro z
    rcases List.mem_cons.mp (I2.stkSub b z) with z | z
    · exact (f2 b hb).2.1 z
    · exact (f2 b hb).2.2.1 z
  · have e2' : (List.replicate tgs.length (none : Option V) ++ outs.map fun j => (σ[j]?).join)[i]? = some (some v) := e2
    have e1' : N'[i]? = some x := e1
    by_cases hi : i < tgs.length
    · rw [List.getElem?_append_left (by rw [List.length_replicate]; exact hi), List.getElem?_replicate, if_pos hi] at e2'
      cases e2'
    · rw [List.getElem?_append_right (by rw [List.length_replicate]; omega), List.length_replicate, List.getElem?_map] at e2'
      rw [S.isN, List.getElem?_append_right (by omega), List.getElem?_map] at e1'
      cases ej : outs[i - tgs.length]? with
      | none => rw [ej] at e2'; cases e2'
      | some j =>
        rw [ej] at e1' e2'
        have hj : j ∈ outs := List.mem_of_getElem? ej
        have ex : X.N.getD j "" = x := Option.some.inj e1'
        have ev : (σ[j]?).join = some v := Option.some.inj e2'
        have ev' : σ[j]? = some (some v) := by
          cases q : σ[j]? with
          | none => rw [q] at ev; cases ev
          | some o => rw [q] at ev; exact congrArg some ev
        have eN : X.N[j]? = some x := by
          have hl := S.lts j hj
          rw [← ex, List.getD_eq_getElem?_getD, List.getElem?_eq_getElem hl]
          rfl
        have fx : scope.names.lookup x = some .free := by rw [← ex]; exact S.outF j hj
        have cx : X.env.scope.names.lookup x = some .cell := by rw [hsc]; exact S.free (x, .free) (PySem.mem_of_lookup fx) rfl
        obtain ⟨m, hn, hl⟩ := I2.loc
        obtain ⟨u, ru, lk⟩ := hl j x v eN ev' (.inr (.inl cx))
        refine ⟨u, ru, ?_⟩
        rcases lk with ⟨k, _⟩ | ⟨k, c, ec, ⟨oc, hoc, hdc⟩⟩
        · have k' : X.env.scope.names.lookup x = some .local := k
          rw [cx] at k'; cases k'
        · obtain ⟨c', ec'⟩ := hcl2 (x, .free) (PySem.mem_of_lookup fx) rfl
          have ecc := hcl1 x c' ec'
          rw [ec] at ecc
          cases ecc
          exact .inr ⟨.inl (freeAt x fx), c, ec', oc, kp _ _ hoc, hdc⟩
  · obtain ⟨v, oc, hoc, hdc⟩ := I2.cell x c (hcl1 x c e)
    exact ⟨v, oc, kp _ _ hoc, hdc⟩
  · show (pick tgs.length outs σ).length = N'.length
    rw [pick_len, S.isN, List.length_append, List.length_map]
theorem comp_end {σ5 : St} {H5 : Hp} {s5 : Shared} {acc : List V} {its : List Value} {n : Nat} (I2 : Inv X pins σ H2 s2) (I5 : Inv (cxComp X N' scope cl C s2 H2 fp) [] σ5 H5 s5) (f2 : ∀ b ∈ fp, FpOk X pins H2 b)
    (hD : s2.heap.objs.size ≤ D) (eD : s5.heap.get? D = some { cls := .type "list", data := .seq its.toArray n }) (r : Vals acc its) (hz : acc.length ≤ sizeLine) (hn : H5 D = none) : Inv X pins σ (upd H5 D (.lst acc)) s5 := by
  have ne : ∀ b o, s2.heap.get? b = some o → b ≠ D := fun b o e z => absurd (Nat.lt_of_lt_of_le (Heap.lt_size e) (by rw [z]; exact hD)) (Nat.lt_irrefl _)
  refine I2.call' (ch := fp) I5.os ⟨fun b o e nn hb hx => ?_, fun b o e nn hb hx => ?_, fun b o e nn hx => ?_, fun b o e hx => ?_, fun b xs e => ?_, fun b o u e => ?_, fun b ps e => ?_⟩ (fun b u e => ?_) I5.bare fun b hb => ⟨(f2 b hb).2.2.2.1, (f2 b hb).2.1, (f2 b hb).2.2.2.2.1, (f2 b hb).2.2.2.2.2⟩
  · exact I5.base.keep b o e nn hb hx
  · exact I5.base.slot b o e nn hb hx
  · rw [upd_ne (ne b o e)]
    exact I5.base.free b o e nn hx
  · exact I5.base.there b o e hx
  · have q := I5.base.tups b xs e
    rw [upd_ne (ne_of_none q hn)]
    exact q
  · have q := I5.base.frzs b o u e
    rw [upd_ne (ne_of_none q hn)]
    exact q
  · obtain ⟨more, q⟩ := I5.base.tbls b ps e
    refine ⟨more, ?_⟩
    rw [upd_ne (ne_of_none q hn)]
    exact q
  · by_cases hb : b = D
    · subst hb
      rw [upd_same] at e
      cases e
      exact ⟨hz, its, n, r, eD⟩
    · rw [upd_ne hb] at e
      exact (I5.hok b u e).stay (fun c v _ q => q) (fun c q => by rw [upd_ne (ne_of_none q hn)]; exact q) fun c xs q => by rw [upd_ne (ne_of_none q hn)]; exact q
end

theorem pick_weak {n : Nat} {outs : List Nat} {σ σ6 : St} (k6 : ∀ i, n ≤ i → σ6[i]? = (pick n outs σ)[i]?) : ∀ (i : Nat) v, (pick n outs σ)[i]? = some (some v) → σ6[i]? = some (some v) := fun i v e => by
  by_cases hi : n ≤ i
  · rw [k6 i hi]; exact e
  · unfold pick at e
    rw [List.getElem?_append_left (by rw [List.length_replicate]; omega), List.getElem?_replicate, if_pos (by omega)] at e
    cases e
section
variable {X : Cx} {tg elt iter : Expr} {ifs : List Expr} {dsc scope : Scope} {tgs N' : List Str} {outs : List Nat} {wi : TI} {g : TG} {tc : TT} {te : TE} {pos : Pos}
theorem comp_block {pins : List (Addr × Obj)} {σ : St} {H2 : Hp} {s2 : Shared} {cl : List (Str × Addr)} {it : Addr} {fp : List Addr} {tn : Nat → Heap → Prop} {J : It} (S : CompScope dsc scope X.N tgs outs N') (hsc : X.env.scope = dsc) (hc : X.calm = true)
    (hg : ∀ cl C s H ex, PG (cxComp X N' scope cl C s H ex) tg g) (hgt : Tgt tgs.length g) (hcs : ∀ cl C s H ex, PCs (cxComp X N' scope cl C s H ex) ifs tc) (he : ∀ cl C s H ex, PE (cxComp X N' scope cl C s H ex) elt te)
    (hcl1 : ∀ x c, cl.lookup x = some c → X.env.cells.lookup x = some c) (hcl2 : ∀ y ∈ scope.names, y.2 = .free → ∃ c, cl.lookup y.1 = some c)
    (I2 : Inv X pins σ H2 s2) (T : Turn X.prog X.w X.K tg J fp it tn) (st2 : tn 0 s2.heap) (f2 : ∀ b ∈ fp, FpOk X pins H2 b)
    {W : Nat → Nat → List V → Hp → Prop} {m0 : Nat} (w0 : W 0 m0 [] H2) {Qf : List V → Hp → Prop}
    (turn : ∀ i m acc H, W i m acc H → (J.stop i H ∧ acc.length ≤ sizeLine ∧ Qf acc H) ∨ (J.go i H ∧ acc.length < sizeLine ∧ ∃ N : List V → Hp → Prop, (∀ acc' H', N acc' H' → ∃ m', m' < m ∧ W (i + 1) m' acc' H') ∧ ∀ x H', J.yld i H x H' → g x (pick tgs.length outs σ) H' fun σ2 H2 => tc σ2 H2 fun b H3 =>
      if b = true then te σ2 H3 fun y H4 => N (acc ++ [y]) H4 else N acc H3))
    {E : Value → Shared → Prop} {RR : Value → Addr → Result → Shared → Prop}
    (fin : ∀ D C s5 mC acc H5, Inv X pins σ (upd H5 D (.lst acc)) s5 → H5 D = none → Qf acc H5 → s5.heap.Ns C mC → FpOk X pins (upd H5 D (.lst acc)) C → RR (.ref D) C (.ok .next) s5) :
    wpAny (model X.prog X.w) X.A (newList []) (fun acc s₃ => wpAny (model X.prog X.w) X.A (newFunctionEnv scope X.env.globals cl [] X.env.qual none .none (some X.env)) (fun cenv s₄ =>
      codeAny (model X.prog X.w) X.A (.compStart (.ListComp elt [⟨tg, iter, ifs, 0⟩] scope pos) 0 (.ref it) acc { cenv with scope := relabel scope X.env }) (RR acc cenv.locals) s₄) E s₃) E s2 := by
  have hfp : ∀ b ∈ fp, b < s2.heap.objs.size := fun b hb => let ⟨o, e, _⟩ := T.obj 0 _ st2 b hb; Heap.lt_size e
  refine wpAny_newObj_type (wpAny_newFunctionEnv S.nocell (by intro y hy; simp at hy) (fun h₁ hns₁ hsb₁ => ?_) S.kind)
  dsimp only at hns₁ hsb₁ ⊢
  generalize hHH : s2.heap.push { cls := .type "list", dict := none, data := .seq ([] : List Value).toArray } = HH at hns₁ hsb₁ ⊢
  have hC : HH.objs.size = s2.heap.objs.size + 1 := by rw [← hHH, Heap.size_push]
  have hDC : s2.heap.objs.size ≠ HH.objs.size := by rw [hC]; exact Nat.ne_of_lt (Nat.lt_succ_self _)
  have hCle : s2.heap.objs.size ≤ HH.objs.size := by rw [hC]; exact Nat.le_succ _
  have old : ∀ b o, s2.heap.get? b = some o → h₁.get? b = some o := fun b o e => hsb₁.extBut b o (by rw [hC]; exact Nat.ne_of_lt (Nat.lt_succ_of_lt (Heap.lt_size e))) (Heap.get?_push_of_some _ (hHH ▸ Heap.get?_push_of_some _ e))
  have hacc : h₁.get? s2.heap.objs.size = some { cls := .type "list", data := .seq ([] : List Value).toArray 0 } := hsb₁.extBut _ _ hDC (Heap.get?_push_of_some _ (hHH ▸ Heap.get?_push_size _ rfl))
  have hDfp : ∀ b ∈ fp, s2.heap.objs.size ≠ b := fun b hb => Nat.ne_of_gt (hfp b hb)
  have fresh2 : H2 s2.heap.objs.size = none := I2.hok.fresh (Nat.le_refl _)
  have I4 := comp_start (tk := s2.toks + ([] : List (Str × Value)).length) S hsc I2 f2 hfp hcl1 hcl2 hCle old hns₁
  have st1 : tn 0 h₁ := T.keep 0 _ _ st2 fun b hb o e => old b o e
  generalize hCC : HH.objs.size = C at *
  generalize hDD : s2.heap.objs.size = D at *
  have nofs : D ∉ (cxComp X N' scope cl C s2 H2 fp).fs := fun z => by
    obtain ⟨_, o, ho, _⟩ := I2.stack.mem (show D ∈ frs X.stack from z)
    have := Heap.lt_size ho
    rw [hDD] at this
    exact Nat.lt_irrefl _ this
  have pinD : ∀ {σ' : St} {H' : Hp} {s' : Shared} {its : List Value} {n : Nat}, Inv (cxComp X N' scope cl C s2 H2 fp) [] σ' H' s' → s'.heap.get? D = some { cls := .type "list", data := .seq its.toArray n } → H' D = none →
      Inv (cxComp X N' scope cl C s2 H2 fp) [(D, { cls := .type "list", data := .seq its.toArray n })] σ' H' s' := fun {σ' H' s' its n} J e hn => J.pins_of fun p hp => by
    have ep : p = (D, { cls := .type "list", data := .seq its.toArray n }) := by simpa using hp
    subst ep
    exact ⟨e, hn, hDC, nofs, fun v z => by cases z⟩
  have stat : ∀ {H' : Hp} {o : Obj}, (∀ b ∈ fp, H' b = none) → ∀ b ∈ fp, FpOk (cxComp X N' scope cl C s2 H2 fp) [(D, o)] H' b := fun {H' o} hn b hb => by
    refine ⟨hn b hb, (I4.ok.exf b hb).1, I4.ok.exfs b hb, .inl hb, (I4.ok.exf b hb).2, fun p hp => ?_⟩
    have hp' : p ∈ ([] : List (Addr × Obj)) ++ [(D, o)] := hp
    have ep : p = (D, o) := by simpa using hp'
    subst ep
    exact hDfp b hb
  have loop : ∀ s₃ : Shared, s₃ = { s2 with heap := h₁, toks := s2.toks + ([] : List (Str × Value)).length } →
      codeAny (model X.prog X.w) X.A (.compLoop (.ListComp elt [⟨tg, iter, ifs, 0⟩] scope pos) 0 (.ref it) (.ref D) (compEnvC scope cl C X.env)) (RR (.ref D) C) s₃ := by
    rintro s₃ rfl
    refine compLoop_any (fun m s' => ∃ i acc H its n, Inv (cxComp X N' scope cl C s2 H2 fp) [(D, { cls := .type "list", data := .seq its.toArray n })] (pick tgs.length outs σ) H s' ∧ tn i s'.heap ∧ (∀ b ∈ fp, H b = none) ∧ Vals acc its ∧ W i m acc H) ?_ m0
      ⟨0, [], H2, [], 0, pinD I4 hacc fresh2, st1, fun b hb => (f2 b hb).1, .nil, w0⟩
    rintro m s' ⟨i, acc, H, its, n, I', st', fr', rD, w'⟩
    rcases turn i m acc H w' with ⟨stop, hz, q⟩ | ⟨go, hz, N, hN, step⟩
    · refine thn (T.done (cxComp X N' scope cl C s2 H2 fp) rfl rfl rfl hc i _ s' _ H _ I' (stat fr') st' stop) fun r s4 ⟨hr, J4⟩ => ?_
      subst hr
      obtain ⟨eD, nD, _⟩ := J4.pin (D, { cls := .type "list", data := .seq its.toArray n }) (List.mem_append_right _ List.mem_cons_self)
      obtain ⟨mC, nsC, _⟩ := J4.loc
      have I5 : Inv X pins σ (upd H D (.lst acc)) s4 := comp_end (D := D) I2 (J4.pins_of (pins' := []) (fun p hp => nomatch hp)) f2 (by rw [hDD]; exact Nat.le_refl _) eD rD hz nD
      refine fin D C s4 mC acc H I5 nD q nsC (I2.fpOk (by rw [hDD]; exact hCle) ?_)
      rw [upd_ne (Ne.symm hDC)]
      exact J4.free
    · refine thn (T.item (cxComp X N' scope cl C s2 H2 fp) rfl rfl rfl hc i _ s' _ H _ I' (stat fr') st' go) fun r s4 ⟨u, hr, h4⟩ => ?_
      subst hr
      dsimp only
      refine thn h4 fun _ s5 ⟨x, H5, I5, r5, y5, st5, fr5⟩ => ?_
      have I5' := I5.pinned (stat fr5) (T.obj _ _ st5)
      refine thn (hg cl C s2 H2 fp _ s5 _ H5 x u _ I5' r5 (hgt x _ H5 _ (step x H5 y5))) fun _ s6 ⟨σ6, H6, I6, q6, l6, k6⟩ => ?_
      refine thn (hcs cl C s2 H2 fp _ s6 σ6 H6 _ I6 q6) fun b s7 ⟨H7, I7, q7⟩ => ?_
      have tail : ∀ {H' : Hp} {s' : Shared}, Inv (cxComp X N' scope cl C s2 H2 fp) ([(D, { cls := .type "list", data := .seq its.toArray n })] ++ pinsAt fp s5.heap) σ6 H' s' → (∀ b ∈ fp, ∀ o, s5.heap.get? b = some o → s'.heap.get? b = some o) ∧ ∀ b ∈ fp, H' b = none := fun {H' s'} J =>
        ⟨fun b hb o e => (J.pin (b, o) (List.mem_append_right _ (List.mem_append_right _ (mem_pinsAt hb e)))).1, fun b hb => by
          obtain ⟨o, e, d⟩ := T.obj _ _ st5 b hb
          exact (J.pin (b, o) (List.mem_append_right _ (List.mem_append_right _ (mem_pinsAt hb e)))).2.1⟩
      cases b with
      | false =>
        rw [if_neg Bool.false_ne_true] at q7 ⊢
        obtain ⟨m', hm, w7⟩ := hN _ _ q7
        obtain ⟨t1, t2⟩ := tail I7
        exact ⟨m', hm, i + 1, acc, H7, its, n, I7.unpinned.weak l6.symm (pick_weak k6), T.keep _ _ _ st5 t1, t2, rD, w7⟩
      | true =>
        rw [if_pos rfl] at q7 ⊢
        refine thn (he cl C s2 H2 fp _ s7 σ6 H7 _ I7 q7) fun v s8 ⟨y, H8, I8, r8, q8⟩ => ?_
        obtain ⟨m', hm, w8⟩ := hN _ _ q8
        obtain ⟨t1, t2⟩ := tail I8
        obtain ⟨eD, nD, _⟩ := I8.pin (D, { cls := .type "list", data := .seq its.toArray n }) (List.mem_append_right _ (List.mem_append_left _ List.mem_cons_self))
        have hl := rD.length
        refine call_meets F.slot_list_append ⟨_, eD, rfl⟩ F.entry_list_append (F.args_list_append_2 _ _) (PySem.list_append D its.toArray n v (by rw [List.size_toArray]; omega)) ⟨eD, ?_⟩
        have q := PySem.IsL.update eD (·.push v)
        have eA : its.toArray.push v = (its ++ [v]).toArray := by simp
        rw [eA] at q
        refine ⟨m', hm, i + 1, acc ++ [y], H8, its ++ [v], _, pinD (Inv.weak (Inv.turned (it := D) (I8.pins_of (pins' := []) (fun p hp => nomatch hp)) (fun b o hb e => (Heap.get?_update_other _ _ (Ne.symm hb)).trans e) nD hDC (.inr (by show s2.heap.objs.size ≤ D; rw [hDD]; exact Nat.le_refl _)) (fun x c e z => ?_) (fun p hp => nomatch hp)) l6.symm (pick_weak k6)) q nD,
          T.keep _ _ _ st5 (fun b hb o e => (Heap.get?_update_other _ _ (hDfp b hb)).trans (t1 b hb o e)), t2, rD.append (.cons r8 .nil), w8⟩
        obtain ⟨v', oc, hoc, hdc⟩ := I8.cell x c e
        rw [z, eD] at hoc
        cases hoc
        cases hdc
  exact codeAny_compStart_list (loop _ rfl) (T.self X.A 0 _ _ _ st1 (loop _ rfl))
theorem pe_comp {N : List Str} (S : CompScope dsc scope N tgs outs N') (hi : PI X tg iter wi) (hg : ∀ cl C s H ex, PG (cxComp X N' scope cl C s H ex) tg g) (hgt : Tgt tgs.length g) (hcs : ∀ cl C s H ex, PCs (cxComp X N' scope cl C s H ex) ifs tc)
    (he : ∀ cl C s H ex, PE (cxComp X N' scope cl C s H ex) elt te) (hN0 : X.N = N := by rfl) (hsc : X.env.scope = dsc := by rfl) (hc : X.calm = true := by rfl) (hs : ∀ x, foldedSetIterable iter X.env x = pure x := by intro _; rfl) :
    PE X (.ListComp elt [⟨tg, iter, ifs, 0⟩] scope pos) (tComp tgs.length outs wi g tc te) := by
  subst hN0
  intro pins s σ H Q I h
  obtain ⟨cl, e1, e2, e3⟩ := closure_of (scope := scope) (env := X.env) (fun y hy hk => I.ok.has y.1 (.inl (by show X.env.scope.names.lookup y.1 = _; rw [hsc]; exact S.free y hy hk)))
  rw [eval_ListComp]
  refine wpAny_comprehension_free (use := none) rfl hs e1 S.kind S.names (wpAny_mono (hi pins s σ H _ I h) (fun xv s1 h1 => wpAny_mono h1 (fun itv s2 h2 => ?_) fun _ _ e => e) fun _ _ e => e)
  obtain ⟨it, fp, tn, J, H2, rfl, I2, T, st2, f2, W, ⟨m0, w0⟩, turn⟩ := h2
  refine comp_block (RR := fun acc C => compPost (model X.prog X.w) X.A X.xe none (EP X pins σ Q) acc C) S hsc hc hg hgt hcs he e2 e3 I2 T st2 f2 w0 (Qf := fun acc H => ∀ l, H l = none → Q (.ref l) (upd H l (.lst acc))) turn ?_
  intro D C s5 mC acc H5 I5 nD q nsC hf
  refine ⟨mC, nsC, fun h' hs' => ⟨.ref D, _, ?_, rfl, q D nD⟩⟩
  exact I5.turned (it := C) (t' := s5.toks) (fun b o hb e => (hs'.2 b hb).trans e) hf.1 hf.2.1 hf.2.2.2.1 hf.2.2.2.2.1 hf.2.2.2.2.2
theorem ps_setC {N : List Str} {i : Nat} {x : Str} {px spos : Pos} (hN : X.N.Nodup) (hx : X.N[i]? = some x) (hl : X.env.scope.names.lookup x = some .local) (S : CompScope dsc scope N tgs outs N') (hi : PI X tg iter wi) (hg : ∀ cl C s H ex, PG (cxComp X N' scope cl C s H ex) tg g) (hgt : Tgt tgs.length g)
    (hcs : ∀ cl C s H ex, PCs (cxComp X N' scope cl C s H ex) ifs tc) (he : ∀ cl C s H ex, PE (cxComp X N' scope cl C s H ex) elt te)
    (hsw : swapsWith (.ListComp elt [⟨tg, iter, ifs, 0⟩] scope pos) (some (.Name x px)) spos.line X.env = pure true := by rfl)
    (hN0 : X.N = N := by rfl) (hsc : X.env.scope = dsc := by rfl) (hc : X.calm = true := by rfl) (hs : ∀ x, foldedSetIterable iter X.env x = pure x := by intro _; rfl) :
    PS X (.Assign [.Name x px] (.ListComp elt [⟨tg, iter, ifs, 0⟩] scope pos) spos) (tAsg (tComp tgs.length outs wi g tc te) (gName i)) := by
  subst hN0
  intro pins s σ H Dn I h
  obtain ⟨cl, e1, e2, e3⟩ := closure_of (scope := scope) (env := X.env) (fun y hy hk => I.ok.has y.1 (.inl (by show X.env.scope.names.lookup y.1 = _; rw [hsc]; exact S.free y hy hk)))
  rw [exec_Assign_Name_used _ _ _ _ hsw]
  refine wpAny_bind (wpAny_standAt (wpAny_bind ?_))
  show wpAny _ X.A (do let _ ← comprehension (.ListComp elt [⟨tg, iter, ifs, 0⟩] scope pos) scope X.env _ (newList []) false (eval iter X.env) (some (assign (.Name x px) X.env))) _ _ s
  refine wpAny_bind (wpAny_mono (wpAny_comprehension_free (use := some (assign (.Name x px) X.env)) (Q := fun _ s' => SP X pins Dn .next s') rfl hs e1 S.kind S.names
    (wpAny_mono (hi pins s σ H _ I h) (fun xv s1 h1 => wpAny_mono h1 (fun itv s2 h2 => ?_) fun _ _ e => e) fun _ _ e => e)) (fun _ s' hq => wpAny_pure (wpAny_pure hq)) fun _ _ e => e)
  obtain ⟨it, fp, tn, J, H2, rfl, I2, T, st2, f2, W, ⟨m0, w0⟩, turn⟩ := h2
  refine comp_block (RR := fun acc C => compPost (model X.prog X.w) X.A X.xe (some (assign (.Name x px) X.env)) (fun _ s' => SP X pins Dn .next s') acc C) S hsc hc hg hgt hcs he e2 e3 I2 T st2 f2 w0
    (Qf := fun acc H => ∀ l, H l = none → Dn.nx (σ.set i (some (.ref l))) (upd H l (.lst acc))) turn ?_
  intro D C s5 mC acc H5 I5 nD q nsC hf
  show wpAny _ X.A (assign (.Name x px) X.env (.ref D)) _ _ _
  refine wpAny_assign_Name (store_ok2 I5 hN hx (.inl hl) (show RelV (.ref D) (.ref D) from rfl) (fun s' I' ⟨a, sb, ha⟩ => ?_) (.inr hl))
  have hCa : C ≠ a := by
    rcases ha with ha | ha
    · rw [ha]; exact hf.2.1
    · exact Ne.symm (hf.2.2.2.2.1 x a ha)
  refine ⟨mC, nsC.sameBut sb hCa, fun h' hs' => ⟨_, _, I'.turned (it := C) (t' := s'.toks) (fun b o hb e => (hs'.2 b hb).trans e) hf.1 hf.2.1 hf.2.2.2.1 hf.2.2.2.2.1 hf.2.2.2.2.2, q D nD⟩⟩
end

end L2

set_option Elab.async false
set_option linter.all false
set_option maxRecDepth 100000
set_option maxHeartbeats 4000000
namespace L2
open PySem PySem.Spec PyProof.Rows
section
variable {X : Cx}
theorem op_eqNil (hu : X.A.units < cLine) : OpR X (compareOp .Eq) (fun x y H Q => ∃ p b xs, x = .ref p ∧ y = .ref b ∧ SqL X.K H p xs ∧ SqL X.K H b [] ∧ Q (.bl xs.isEmpty) H) := by
  intro pins s σ H x y v u Q I rx ry h
  obtain ⟨p, b, xs, rfl, rfl, h1, h2, q⟩ := h
  cases rx
  cases ry
  obtain ⟨its, r1, p1, _⟩ := I.list h1
  obtain ⟨its2, r2, p2, _⟩ := I.list h2
  cases r2
  cases r1 with
  | nil => exact PySem.SeqAt.eq_listAt (e := fun _ => true) p1.isList p2.isList rfl hu (fun j a1 => absurd a1 (by simp)) ⟨.bl true, H, I, rfl, q⟩
  | cons ra rb => exact PySem.SeqAt.eq_list_lengthsAt p1.isList p2.isList (by simp) hu ⟨.bl false, H, I, rfl, q⟩
theorem op_neNil (hu : X.A.units < cLine) : OpR X (compareOp .NotEq) (fun x y H Q => ∃ p b xs, x = .ref p ∧ y = .ref b ∧ SqL X.K H p xs ∧ SqL X.K H b [] ∧ Q (.bl (!xs.isEmpty)) H) := by
  intro pins s σ H x y v u Q I rx ry h
  obtain ⟨p, b, xs, rfl, rfl, h1, h2, q⟩ := h
  cases rx
  cases ry
  obtain ⟨its, r1, p1, _⟩ := I.list h1
  obtain ⟨its2, r2, p2, _⟩ := I.list h2
  cases r2
  cases r1 with
  | nil => exact PySem.SeqAt.RcNeAt.lists (e := fun _ => true) p1.isList p2.isList rfl hu (fun j a1 => absurd a1 (by simp)) _ _ _ _ ⟨.bl false, H, I, rfl, q⟩
  | cons ra rb => exact PySem.SeqAt.RcNeAt.lists_lengths p1.isList p2.isList (by simp) hu _ _ _ _ ⟨.bl true, H, I, rfl, q⟩
theorem sl_str : SlR X (fun x lo hi H Q => ∃ z, x = .str z ∧ z.length ≤ sizeLine ∧ Q (.str (Txt.slice z lo hi)) H) := by
  intro pins s σ H x v vl vu lo hi sl Q I rx hs pl pu h
  obtain ⟨z, rfl, hz, q⟩ := h
  obtain ⟨t, rfl⟩ := rx
  refine ⟨"str", _, PySem.F.slot_str_getitem.lookup, typeIs_str _ _ _, ?_⟩
  obtain ⟨o, h1, h2, h3⟩ := hs
  cases pl with
  | none =>
    cases pu with
    | none => exact wpAny_getItem_str_slice (l := none) (u := none) (st := none) ⟨o, h1, h2, h3⟩ rfl (post_val_or_str ⟨Nat.le_trans (Txt.slice_le z _ _) hz, fun t' k => ⟨.str _, H, I.tok _, ⟨_, rfl⟩, q⟩⟩)
    | int j uj => exact wpAny_getItem_str_slice (l := none) (u := some (j, uj)) (st := none) ⟨o, h1, h2, h3⟩ rfl (post_val_or_str ⟨Nat.le_trans (Txt.slice_le z _ _) hz, fun t' k => ⟨.str _, H, I.tok _, ⟨_, rfl⟩, q⟩⟩)
  | int i ui =>
    cases pu with
    | none => exact wpAny_getItem_str_slice (l := some (i, ui)) (u := none) (st := none) ⟨o, h1, h2, h3⟩ rfl (post_val_or_str ⟨Nat.le_trans (Txt.slice_le z _ _) hz, fun t' k => ⟨.str _, H, I.tok _, ⟨_, rfl⟩, q⟩⟩)
    | int j uj => exact wpAny_getItem_str_slice (l := some (i, ui)) (u := some (j, uj)) (st := none) ⟨o, h1, h2, h3⟩ rfl (post_val_or_str ⟨Nat.le_trans (Txt.slice_le z _ _) hz, fun t' k => ⟨.str _, H, I.tok _, ⟨_, rfl⟩, q⟩⟩)
theorem op_mul_str : OpR X (binaryOp .Mult) (fun x y H Q => ∃ z n, x = .str z ∧ y = .int n ∧ z.length ≤ 1000 ∧ 0 ≤ n ∧ n ≤ 1000 ∧ Q (.str (Txt.mul z n)) H) := by
  intro pins s σ H x y v u Q I rx ry h
  obtain ⟨z, n, rfl, rfl, hz, h0, h1, q⟩ := h
  obtain ⟨t, rfl⟩ := rx
  obtain ⟨t', rfl⟩ := ry
  exact SB.mul (mulOk_of 1000 1000 hz (by omega) (by omega) (by decide) (by decide)) fun t' k => ⟨.str _, H, I.tok _, ⟨_, rfl⟩, q⟩
theorem strsAre_of {ys : List Str} : ∀ {us : List Value}, Vals (ys.map V.str) us → StrsAre us ys := by
  induction ys with
  | nil => intro us r; rw [List.map_nil] at r; cases r; exact .nil
  | cons n ns ih =>
    intro us r
    rw [List.map_cons] at r
    cases r with
    | cons r1 r2 =>
      obtain ⟨t, e⟩ := r1
      subst e
      exact .cons n t (ih r2)
theorem mt_join : MtR X "str.join" (fun x vs H Q => ∃ z p ys, x = .str z ∧ vs = [.ref p] ∧ SqL X.K H p (ys.map V.str) ∧ (ys.map (·.length)).sum + ys.length * z.length ≤ 16777216 ∧ Q (.str (Txt.join z ys)) H) := by
  intro pins s σ H x vs v us Q I rx rv h
  obtain ⟨z, p, ys, rfl, rfl, hq, hok, q⟩ := h
  obtain ⟨t, rfl⟩ := rx
  obtain ⟨u, rfl, ru⟩ := rv.one
  cases ru
  obtain ⟨its, r', pl, hz⟩ := I.list hq
  exact join_list pl.isList (by rw [List.toList_toArray]; exact strsAre_of r') hok fun t' k => ⟨.str _, H, I.tok _, ⟨_, rfl⟩, q⟩
end

section
variable {X : Cx} (K : PySem.W.Frag) (h : X.K = K := by rfl)
include h
theorem ix_tupK : IxR X (rIxT K) := h ▸ ix_tup
theorem ix_listK : IxR X (rIxL K) := h ▸ ix_list
theorem sl_listK : SlR X (rSlL K) := h ▸ sl_list
end

end L2

set_option linter.all false
namespace Lf
open PySem
def up (n m : Int) : Int := (n + m - 1) / m * m
def ends (e : Int) : List (Int × Int) → List Int
  | [] => []
  | r :: rs => (up e r.2 + r.1) :: ends (up e r.2 + r.1) rs
end Lf

set_option Elab.async false
set_option linter.all false
set_option maxRecDepth 100000
namespace Lf
open PySem L2
theorem same_new {H : Hp} {p : Addr} (h : H p = none) (o : HO) : Same H (upd H p o) := fun b u q => by rw [upd_ne (ne_of_none q h)]; exact q
def hide (p : Addr) (H : Hp) : Hp := fun b => if b = p then none else H b
theorem hide_ne {p b : Addr} {H : Hp} (h : b ≠ p) : hide p H b = H b := if_neg h
theorem hide_some {p b : Addr} {H : Hp} {o : HO} (h : hide p H b = some o) : b ≠ p ∧ H b = some o := by
  by_cases e : b = p
  · subst e; rw [show hide b H b = none from if_pos rfl] at h; cases h
  · rw [hide_ne e] at h; exact ⟨e, h⟩
abbrev SameX (p : Addr) (H H' : Hp) : Prop := Same (hide p H) (hide p H')
theorem SameX.upd (p : Addr) (H : Hp) (o : HO) : SameX p H (L2.upd H p o) := fun b u h => by
  obtain ⟨n, q⟩ := hide_some h
  rw [hide_ne n, upd_ne n]
  exact q
theorem SameX.get {p b : Addr} {H H' : Hp} {o : HO} (e : SameX p H H') (n : b ≠ p) (h : H b = some o) : H' b = some o := by
  have := e b o (by rw [hide_ne n]; exact h)
  rw [hide_ne n] at this
  exact this
end Lf

set_option Elab.async false
set_option linter.all false
set_option maxRecDepth 100000

namespace L2
open PySem PySem.Spec PyProof.Rows

section
variable {κ : Type} [DecidableEq κ]
def valV (kvs : List (κ × V)) (k : κ) : Option V := (kvs.find? fun kv => decide (kv.1 = k)).map (·.2)
def putK (kvs : List (κ × V)) (k : κ) (v : V) : List (κ × V) :=
  if (kvs.any fun kv => decide (kv.1 = k)) = true then kvs.map (fun kv => if kv.1 = k then (kv.1, v) else kv) else kvs ++ [(k, v)]
theorem RelO.getD {o : Option V} {u : Option Value} {d : V} {d' : Value} (r : RelO o u) (rd : RelV d d') : RelV (o.getD d) (u.getD d') := by
  cases o with
  | none => cases u with
    | none => exact rd
    | some _ => exact (show False from r).elim
  | some _ => cases u with
    | none => exact (show False from r).elim
    | some _ => exact r

theorem KV.any {kvs : List (κ × V)} {vs : List (κ × Value)} (r : KV kvs vs) (k : κ) : (kvs.any fun kv => decide (kv.1 = k)) = vs.any fun kv => decide (kv.1 = k) := by
  unfold KV at r
  induction r with
  | nil => rfl
  | cons h t ih => rw [List.any_cons, List.any_cons, ih, h.1]
theorem KV.length {kvs : List (κ × V)} {vs : List (κ × Value)} (r : KV kvs vs) : kvs.length = vs.length := Paired.length r
end


abbrev KT (H : Hp) : List (List Key × V) → List (List Key × Addr × Value) → Prop := Paired fun p q => p.1 = q.1 ∧ H q.2.1 = some (.tup (p.1.map kV)) ∧ RelV p.2 q.2.2
section
variable {P : Program} {w : World} {H : Hp} {h : Heap} {a : Addr}
theorem rd_of {u : HO} (ok : HOk P w H h) (e : Rd H a u) : ObjOk P w H h a u := e.ok ok
theorem dk_rd {kvs : List (Key × V)} (ok : HOk P w H h) (e : Rd H a (.dK kvs)) : kvs.length ≤ sizeLine ∧ (a == sysModules) = false ∧ ∃ vs, KV kvs vs ∧ h.DictOf (mixKind P w) a vs :=
  show ObjOk P w H h a (.dK kvs) from rd_of ok e
end

def DGet (H : Hp) (a : Addr) (y : V) (r : Option V) : Prop :=
  (∃ kvs k, Rd H a (.dK kvs) ∧ y = kV k ∧ r = valV kvs k) ∨ ∃ kvs k b, Rd H a (.dT kvs) ∧ y = .ref b ∧ H b = some (.tup (k.map kV)) ∧ r = valV kvs k
def DPut (H : Hp) (a : Addr) (y v : V) (H' : Hp) : Prop :=
  (∃ kvs k, H a = some (.dK kvs) ∧ y = kV k ∧ kvs.length < sizeLine ∧ H' = upd H a (.dK (putK kvs k v))) ∨
  ∃ kvs k b, H a = some (.dT kvs) ∧ y = .ref b ∧ H b = some (.tup (k.map kV)) ∧ kvs.length < sizeLine ∧ H' = upd H a (.dT (putK kvs k v))
theorem DGet.k {H : Hp} {a : Addr} {kvs : List (Key × V)} {k : Key} (e : H a = some (.dK kvs)) : DGet H a (kV k) (valV kvs k) := .inl ⟨kvs, k, .inl e, rfl, rfl⟩
theorem DGet.t {H : Hp} {a b : Addr} {kvs : List (List Key × V)} {k : List Key} (e : H a = some (.dT kvs)) (eb : H b = some (.tup (k.map kV))) : DGet H a (.ref b) (valV kvs k) := .inr ⟨kvs, k, b, .inl e, rfl, eb, rfl⟩
theorem DPut.k {H : Hp} {a : Addr} {kvs : List (Key × V)} {k : Key} {v : V} (e : H a = some (.dK kvs)) (hl : kvs.length < sizeLine) : DPut H a (kV k) v (upd H a (.dK (putK kvs k v))) := .inl ⟨kvs, k, e, rfl, hl, rfl⟩
theorem DPut.t {H : Hp} {a b : Addr} {kvs : List (List Key × V)} {k : List Key} {v : V} (e : H a = some (.dT kvs)) (eb : H b = some (.tup (k.map kV))) (hl : kvs.length < sizeLine) :
    DPut H a (.ref b) v (upd H a (.dT (putK kvs k v))) := .inr ⟨kvs, k, b, e, rfl, eb, hl, rfl⟩


section
variable {X : Cx} {pins : List (Addr × Obj)} {σ : St} {H : Hp} {s : Shared} {a : Addr} {y v : V} {u r : Value} {o : Option V} {A : Around} {E : Value → Shared → Prop}

theorem Inv.big (I : Inv X pins σ H s) : sysModules < s.heap.objs.size := by
  have h : mainGlobals < s.heap.objs.size := (I.mod.glob.keeps I.bk).lt
  exact Nat.lt_trans (by decide) h

end

section
variable {X : Cx} {pins : List (Addr × Obj)} {σ : St} {H : Hp} {s : Shared} {a : Addr} {kvs : List (Key × V)} {k : Key} {u : Value} {A : Around} {E : Value → Shared → Prop}
theorem d_len {Q : Value → Shared → Prop} (I : Inv X pins σ H s) (e : Rd H a (.dK kvs)) (h : ∀ t s', Inv X pins σ H s' → Q (.int kvs.length t) s') : wpAny (model X.prog X.w) A (call (.builtin "len") [.ref a]) Q E s := by
  obtain ⟨z, hd, vs, rel, dd⟩ := dk_rd I.hok e
  refine call_len_dict hd dd (by rw [← rel.length]; rw [sizeLine_eq] at z; omega) ?_
  rw [← rel.length]
  exact h _ _ (I.tok _)
end


theorem dk_empty {P : Program} {w : World} {H : Hp} (h : Heap) (hb : sysModules < h.objs.size) : ObjOk P w H (h.push { cls := .type "dict", data := .dict #[] }) h.objs.size (.dK []) :=
  ⟨Nat.zero_le _, beq_eq_false_iff_ne.mpr (Ne.symm (Nat.ne_of_lt hb)), [], .nil, Heap.DictOf.new h⟩
def tDNewK : TE := fun _ H Q => ∀ p, H p = none → Q (.ref p) (upd H p (.dK []))
section
variable {X : Cx} {pos : Pos}
theorem pe_dnewK : PE X (.Dict [] [] pos) tDNewK := fun pins s σ H Q I h =>
  wpAny_Dict_empty ⟨.ref s.heap.objs.size, _, I.laid (a := s.heap.objs.size) (o := .dK []) (t' := s.toks) (fun _ _ q => Heap.get?_push_of_some _ q) (Nat.le_refl _) (dk_empty s.heap I.big), rfl, h _ (I.hok.fresh (Nat.le_refl _))⟩
end

end L2

set_option Elab.async false
set_option linter.all false
set_option maxRecDepth 100000
set_option maxHeartbeats 4000000
namespace L2
open PySem PySem.Spec PyProof.Rows
theorem bt_all : bootBuiltins "all" = some (.builtin "all") := by decide +kernel
theorem vals_bl : ∀ {bs : List Bool} {us : List Value}, Vals (bs.map V.bl) us → us = bs.map Value.bool
  | [], _, h => by cases h; rfl
  | b :: bs, _, h => by
    cases h with
    | cons ra rb =>
      cases ra
      rw [vals_bl rb]
      rfl
theorem range_all : ∀ (bs : List Bool), (List.range bs.length).all (fun i => bs[i]?.getD false) = bs.all id := by
  intro bs
  rw [Bool.eq_iff_iff, List.all_eq_true, List.all_eq_true]
  constructor
  · intro h b hb
    obtain ⟨i, hi, rfl⟩ := List.getElem_of_mem hb
    have := h i (List.mem_range.mpr hi)
    rw [List.getElem?_eq_getElem hi] at this
    exact this
  · intro h i hi
    have hi' := List.mem_range.mp hi
    rw [List.getElem?_eq_getElem hi']
    exact h _ (List.getElem_mem hi')
section
variable {X : Cx}
def rAllL (K : PySem.W.Frag) : List V → Hp → VK → Prop := fun xs H Q => ∃ (p : Addr) (bs : List Bool), xs = [.ref p] ∧ SqL K H p (bs.map V.bl) ∧ Q (.bl (bs.all id)) H
theorem call_allL (hc : X.calm = true) : CallR X (.builtin "all") (rAllL X.K) := by
  intro pins s σ H xs us Q I r h
  obtain ⟨p, bs, rfl, hq, q⟩ := h
  obtain ⟨u, rfl, rx⟩ := vals1 r
  cases rx
  obtain ⟨its, r', pl, hz⟩ := I.list hq
  have hi := vals_bl r'
  subst hi
  have hh : X.A.in1.handled = none := I.ok.hd hc
  have lt : p < s.heap.objs.size := by obtain ⟨_, e, _⟩ := pl.isList; exact Heap.lt_size e
  refine call_all_walk (wpAny_pyIter_list pl.isList ⟨_, _, _, _, _, _, fun i => bs[i]?.getD false, rfl, Walks.list hh s.heap.objs.size p (Nat.ne_of_lt lt) (bs.map Value.bool).toArray, ⟨⟨_, Heap.get?_push_size _ rfl, rfl, rfl⟩, ?_⟩, ?_, fun h' tk hk => ?_⟩)
  · obtain ⟨o, e, r⟩ := pl.isList
    exact ⟨o, Heap.get?_push_of_some _ e, r⟩
  · intro i v s' Q' E' hv hQ
    have hv' : (bs.map Value.bool)[i]? = some v := by simpa using hv
    rw [List.getElem?_map] at hv'
    cases hb : bs[i]? with
    | none => rw [hb] at hv'; cases hv'
    | some b =>
      rw [hb] at hv'
      cases hv'
      have hQ' : Q' (bs[i]?.getD false) s' := hQ
      rw [hb] at hQ'
      exact wpAny_truthy_bool hQ'
  · have hk' : ∀ b o, s.heap.get? b = some o → h'.get? b = some o := fun b o e => hk b o (by simp; exact Nat.ne_of_lt (Heap.lt_size e)) (Heap.get?_push_of_some _ e)
    refine ⟨.bl _, H, I.kept hk', ?_, q⟩
    show Value.bool _ = Value.bool _
    rw [List.size_toArray, List.length_map, range_all]
end
def Its (x : Str) : It := ⟨fun i H => i < x.cps.size, fun i H v H' => H' = H ∧ ∃ c, x.cps[i]? = some c ∧ v = .str ⟨#[c]⟩, fun i H => x.cps.size ≤ i⟩
theorem turn_strA {P : Program} {w : World} {K : PySem.W.Frag} {tg : Expr} (x : Str) (t : Tok) (it : Addr) : Turn P w K tg (Its x) [it] it (fun i h => h.IsStrIter it "str_ascii_iterator" x t i) where
  mem := by simp
  obj := fun i h st b hb => by
    have e : b = it := by simpa using hb
    subst e
    obtain ⟨o, e, c, d⟩ := st
    exact ⟨o, e, fun v z => by rw [d] at z; cases z⟩
  keep := fun i h h' st k => let ⟨o, ho, r⟩ := st; ⟨o, k it (by simp) o ho, r⟩
  item := by
    intro X hP hw hK hc i pins s σ H E I hf st hg
    subst hP hw hK
    obtain ⟨f0, f1, f2, f3, f4, f5⟩ := hf it (by simp)
    have hg' : i < x.cps.size := hg
    refine wpAny_pyNext_ascii_item st (c := x.cps[i]) (by simp [hg']) fun h' st' sb => ?_
    have I1 : Inv X pins σ H { s with heap := h', toks := s.toks + 1 } := I.turned (t' := s.toks + 1) (fun b o hb e => (sb.2 b hb).trans e) f0 f1 f3 f4 f5
    obtain ⟨o, e, c, d⟩ := id st'
    exact ⟨_, rfl, go_of (s := { s with heap := h', toks := s.toks + 1 }) e c d (by decide) ⟨.str ⟨#[x.cps[i]]⟩, H, I1, ⟨_, rfl⟩, ⟨rfl, _, by simp [hg'], rfl⟩, st', fun b hb => (hf b hb).1⟩⟩
  done := by
    intro X hP hw hK hc i pins s σ H E I hf st hg
    subst hP hw hK
    obtain ⟨f0, f1, f2, f3, f4, f5⟩ := hf it (by simp)
    have hg' : x.cps.size ≤ i := hg
    exact wpAny_pyNext_ascii_end (I.ok.hd hc) st (by simp [hg']) fun h' eb => ⟨rfl, I.turned (t' := s.toks) (fun b o hb e => eb b o hb e) f0 f1 f3 f4 f5⟩
  self := fun _ _ _ _ _ st h => wpAny_pyIter_striter_ascii st h
theorem turn_strW {P : Program} {w : World} {K : PySem.W.Frag} {tg : Expr} (x : Str) (t : Tok) (it : Addr) : Turn P w K tg (Its x) [it] it (fun i h => h.IsStrIter it "str_iterator" x t i) where
  mem := by simp
  obj := fun i h st b hb => by
    have e : b = it := by simpa using hb
    subst e
    obtain ⟨o, e, c, d⟩ := st
    exact ⟨o, e, fun v z => by rw [d] at z; cases z⟩
  keep := fun i h h' st k => let ⟨o, ho, r⟩ := st; ⟨o, k it (by simp) o ho, r⟩
  item := by
    intro X hP hw hK hc i pins s σ H E I hf st hg
    subst hP hw hK
    obtain ⟨f0, f1, f2, f3, f4, f5⟩ := hf it (by simp)
    have hg' : i < x.cps.size := hg
    refine wpAny_pyNext_wide_item st (c := x.cps[i]) (by simp [hg']) fun h' st' sb => ?_
    have I1 : Inv X pins σ H { s with heap := h', toks := s.toks + 1 } := I.turned (t' := s.toks + 1) (fun b o hb e => (sb.2 b hb).trans e) f0 f1 f3 f4 f5
    obtain ⟨o, e, c, d⟩ := id st'
    exact ⟨_, rfl, go_of (s := { s with heap := h', toks := s.toks + 1 }) e c d (by decide) ⟨.str ⟨#[x.cps[i]]⟩, H, I1, ⟨_, rfl⟩, ⟨rfl, _, by simp [hg'], rfl⟩, st', fun b hb => (hf b hb).1⟩⟩
  done := by
    intro X hP hw hK hc i pins s σ H E I hf st hg
    subst hP hw hK
    obtain ⟨f0, f1, f2, f3, f4, f5⟩ := hf it (by simp)
    have hg' : x.cps.size ≤ i := hg
    exact wpAny_pyNext_wide_end (I.ok.hd hc) st (by simp [hg']) fun h' eb => ⟨rfl, I.turned (t' := s.toks) (fun b o hb e => eb b o hb e) f0 f1 f3 f4 f5⟩
  self := fun _ _ _ _ _ st h => wpAny_pyIter_striter_wide st h
def iStr (tl : TE) : TI := fun σ H R => tl σ H fun v H1 => ∃ x, v = .str x ∧ R (Its x) H1
theorem pi_str {X : Cx} {tg l : Expr} {tl : TE} (hl : PE X l tl) : PI X tg l (iStr tl) := by
  intro pins s σ H R I h
  refine thn (hl pins s σ H _ I h) fun v s1 ⟨y, H1, I1, r1, q1⟩ => ?_
  obtain ⟨x, e, q⟩ := q1
  subst e
  obtain ⟨t, rfl⟩ := r1
  have fin : ∀ (o : Obj) (tn : Nat → Heap → Prop), Turn X.prog X.w X.K tg (Its x) [s1.heap.objs.size] s1.heap.objs.size tn → tn 0 (s1.heap.push o) → PIE X pins σ tg R (.ref s1.heap.objs.size) { s1 with heap := s1.heap.push o } := fun o tn T st => by
    refine ⟨s1.heap.objs.size, [s1.heap.objs.size], tn, _, H1, rfl, I1.kept (t' := s1.toks) fun b o e => Heap.get?_push_of_some _ e, T, st, fun b hb => ?_, q⟩
    have e : b = s1.heap.objs.size := by simpa using hb
    subst e
    exact I1.fpOk (Nat.le_refl _) (I1.hok.fresh (Nat.le_refl _))
  cases ha : x.cps.all (· < 128)
  · exact wpAny_pyIter_wide ha (fin _ _ (turn_strW x t _) ⟨_, Heap.get?_push_size _ rfl, rfl, rfl⟩)
  · exact wpAny_pyIter_ascii ha (fin _ _ (turn_strA x t _) ⟨_, Heap.get?_push_size _ rfl, rfl, rfl⟩)
end L2

set_option Elab.async false
set_option linter.all false
set_option maxRecDepth 100000
set_option maxHeartbeats 4000000
namespace L2
open PySem PySem.Spec PyProof.Rows
end L2

set_option Elab.async false
set_option linter.all false
set_option maxRecDepth 100000
set_option maxHeartbeats 4000000
namespace L2
open PySem PySem.Spec PyProof.Rows
end L2

set_option Elab.async false
set_option linter.all false
set_option maxRecDepth 100000
set_option maxHeartbeats 4000000
namespace L2
open PySem PySem.Spec PyProof.Rows
end L2
namespace Lf
open PySem L2
end Lf

set_option Elab.async false
set_option linter.all false
set_option maxRecDepth 100000
set_option maxHeartbeats 4000000
namespace L2
open PySem PySem.Spec PyProof.Rows
end L2

set_option Elab.async false
set_option linter.all false
set_option maxRecDepth 100000
set_option maxHeartbeats 4000000
namespace L2
open PySem PySem.Spec PyProof.Rows
end L2

set_option Elab.async false
set_option linter.all false
set_option maxRecDepth 100000
set_option maxHeartbeats 4000000
namespace L2
open PySem PySem.Spec PyProof.Rows
end L2

set_option Elab.async false
set_option linter.all false
set_option maxRecDepth 100000
set_option maxHeartbeats 4000000
namespace L2
open PySem PySem.Spec PyProof.Rows
end L2

set_option linter.all false
set_option maxRecDepth 100000
namespace Lf
open PySem PySem.W PyProof.Rows
section
variable {lt : Nat → Nat → Bool}
def Blw (n : Nat) (p : Array Nat) : Prop := 0 < n ∧ ∀ x ∈ p.toList, x < n
theorem Blw.at {n : Nat} {p : Array Nat} (h : Blw n p) (k : Nat) : p.getD k 0 < n := by
  rw [Array.getD_eq_getD_getElem?]
  cases e : p[k]? with
  | none => exact h.1
  | some x =>
    refine h.2 x ?_
    rw [← Array.getElem?_toList] at e
    exact List.mem_of_getElem? e
end
end Lf

set_option Elab.async false
set_option linter.all false
set_option maxRecDepth 100000
set_option maxHeartbeats 4000000
namespace L2
open PySem PySem.Spec PyProof.Rows PySem.W
section
variable {prog : Program} {w : World} {A : Around} {E : Value → Shared → Prop} {s : Shared}
abbrev TI2 := Addr × List Int
def t0 : TI2 := (0, [])
end
end L2

set_option Elab.async false
set_option linter.all false
set_option maxRecDepth 100000
set_option maxHeartbeats 4000000
namespace L2
open PySem PySem.Spec PyProof.Rows PySem.W
end L2

set_option linter.all false
namespace Lf
open PySem
end Lf

set_option linter.all false
namespace Lf
end Lf

set_option linter.all false
namespace Lf
open PySem
end Lf

set_option linter.all false
namespace Lf
open PySem
end Lf

set_option linter.all false
namespace Lf
end Lf

set_option linter.all false
namespace Lf
end Lf

set_option linter.all false
namespace Lf
end Lf

set_option linter.all false
namespace Lf
end Lf

set_option Elab.async false
set_option linter.all false
set_option maxRecDepth 100000
set_option maxHeartbeats 4000000
namespace L2
open PySem PySem.Spec PyProof.Rows
end L2

set_option Elab.async false
set_option linter.all false
set_option maxRecDepth 100000
set_option maxHeartbeats 4000000
namespace L2
open PySem PySem.Spec PyProof.Rows
end L2

set_option Elab.async false
set_option linter.all false
set_option maxRecDepth 100000
set_option maxHeartbeats 4000000
namespace L2
open PySem PySem.W PySem.Spec PyProof.Rows PySem.Calls
def allF (h : Heap) : Frag := (List.range h.objs.size).filterMap fun a => (h.get? a).map fun o => (a, o)
theorem lookup_mem {α β : Type} [BEq α] [LawfulBEq α] {a : α} {b : β} : ∀ {l : List (α × β)}, l.lookup a = some b → (a, b) ∈ l
  | [], h => by simp at h
  | (c, d) :: r, h => by
    by_cases e : a = c
    · subst e; simp at h; subst h; exact List.mem_cons_self
    · rw [List.lookup_cons, beq_eq_false_iff_ne.mpr e] at h
      exact List.mem_cons_of_mem _ (lookup_mem h)
theorem allF_in (h : Heap) : (allF h).In h := fun a o e => by
  obtain ⟨b, _, hb⟩ := List.mem_filterMap.mp (lookup_mem e)
  obtain ⟨o', h1, h2⟩ := Option.map_eq_some_iff.mp hb
  cases h2
  exact h1
def exHook {α : Type} (f : Frag → α) (v : α) : Hook where
  α := α
  obs := fun s => f (allF s.heap)
  val := fun _ => v
  says := fun _ h => ∃ K : Frag, K.In h ∧ f K = v
  of := fun _ s e => ⟨allF s.heap, allF_in _, e⟩
  keeps := fun _ _ _ e g => by
    obtain ⟨K, k, e⟩ := e
    exact ⟨K, fun a o q => g _ _ (k a o q), e⟩
theorem boot_size : ∀ w : World, ((boot_heap w.params).isNs mainGlobals && (Array.mk [] : Array GenState).size == 0, (boot_heap w.params).objs.size, (boot_heap w.params).nsMap mainGlobals "__annotations__") = (true, 11, some (.ref 6)) := fun w => by kernel_rfl
noncomputable def onceSeen (tr : (String → Option Builtin) → Program → World → Nat → Option Value → Nat → Shared → Thread → Option Shared) (tb : String → Option Builtin) (im : List Stmt → List Str) {β : Type} (os : List Str → Shared → β) (p : Program) (N : Nat) {α : Type} (Yf : Frag → α) (w : World) (o : OsState) : Option (Bool × β × α) :=
  (tr tb p w 11 (some (.ref 6)) N ⟨boot_heap w.params, Array.mk [], boot_drawn, boot_toks, o⟩ (topStub p)).map fun s₁ =>
    (staticsOk (im p.main.body) (boot_heap w.params) s₁.heap && namesBound p s₁.heap && gensDone s₁ && laidKept (boot_heap w.params) s₁.heap, os (im p.main.body) s₁, Yf (allF s₁.heap))
theorem left_once {p q : Program} {loose : List Str} {Xt : Shared → Bool} {α : Type} {Yf : Frag → α} {v : α} {N : Nat} {g0 : Bool} (hN : Nat.ble 600 N = true) (e : opening p = plainProg p.main.scope.names) (f : ∀ s, fenceModules? p s = some s)
    (all : ∀ w : World, onceSeen topRun treeTable importedModules (fun m s => openSeen q loose m Xt g0 s) p N Yf w = fun _ => some (true, openGood q loose, v)) :
    LeftO p q loose Xt (exHook Yf v).obs (exHook Yf v).val N g0 := fun w => by
  obtain ⟨⟨h, gs, d, k, os⟩, e1, e'⟩ := Option.map_eq_some_iff.mp (boot_open e hN f w)
  obtain ⟨rfl, rfl, rfl, rfl⟩ : h = boot_heap w.params ∧ gs = Array.mk [] ∧ d = boot_drawn ∧ k = boot_toks := by simpa using e'
  obtain ⟨z1, z2, z3⟩ : _ ∧ _ ∧ _ := by simpa only [Prod.mk.injEq] using boot_size w
  obtain ⟨s₁, r, r2⟩ := Option.map_eq_some_iff.mp (congrFun (all w) os)
  obtain ⟨l1, l2, l3⟩ : _ ∧ _ ∧ _ := by simpa only [Prod.mk.injEq] using r2
  have t : topFrom treeTable p w N ⟨boot_heap w.params, Array.mk [], boot_drawn, boot_toks, os⟩ = some s₁ := by
    unfold topFrom
    dsimp only
    rw [z1, z2, z3]
    show (topRun treeTable p w 11 (some (.ref 6)) N _ (topStub p)).bind _ = _
    rw [r]
    show (match staticsOk (importedModules p.main.body) (boot_heap w.params) s₁.heap && namesBound p s₁.heap && gensDone s₁ && laidKept (boot_heap w.params) s₁.heap with | true => _ | false => _) = _
    rw [l1]
  unfold openEnds
  rw [e1]
  show (topFrom treeTable p w N _).map _ = _
  rw [t]
  exact congrArg some (Prod.ext l2 l3)
theorem walk_ex {l : PySem.W.OpenLaw} {n k : Nat} {q : Program} {loose : List Str} {XP : (Str → Option Value) → Heap → Prop} {α : Type} {f : Frag → α} {v : α} {d : DefRec} {CX : CXT} {sp : PySem.W.Frag → Sp} {x : Str}
    (hn : l.most = some n) (hn2 : n ≤ sizeLine) (hdf : d.params.defaults = []) (hr : Room k callerA)
    (F : ∀ (w : World) (K : Frag) (mg : Str → Option Value) (fa : Addr) (h : Heap), f K = v → K.In h → h.Ns mainGlobals mg → mg d.name = some (.ref fa) →
      ∃ fd : FuncData, (∀ (s : Shared) (u : Value), BindsTo s fd ⟨[u], []⟩ [(x, u)]) ∧
        ∀ base : Heap, K.In base → base.Ns mainGlobals mg → FnOk l.prog w K mg base CX k fa fd [x] (sp K))
    (hsp : ∀ (K : PySem.W.Frag) (H : Hp) (a : Addr) (ns : List Int), ns.length ≤ n → Only H → SqL K H a (ns.map V.int) → sp K [.ref a] H (fun v _ => v = .bl true) fun _ _ _ => False)
    (hCX : ∀ (H : Hp) (s : Shared) (e : Value) (s' : Shared), CX [] H s (fun _ _ _ => False) e s' → False) :
    PySem.W.WalkO q loose XP (exHook f v).says l.row.toRowW d [] (fun f vs => PySem.call f vs) := by
  refine Att.attach_call hn hdf fun w s₀ s₁ mg mb fa o pm cd doc a vs ns G Y ho hd hcd hmg hobj hints hlen hg => ?_
  obtain ⟨K, KX, hK⟩ := Y
  obtain ⟨fd, hb, hF⟩ := F w K mg fa _ hK KX G.T.g hmg
  exact law_call KX G.T.g G.T.b G.T.builtins G.T.nolimit hg hobj hints (Nat.le_trans hlen hn2) hr hF hb (fun H hO hS => hsp K H a ns hlen hO hS) fun H e s' => hCX H s₁ e s'
def topOf (p : Program) (i : Nat) : Stmt := p.main.body.getD i (.Pass ⟨0, 0, 0, 0⟩)
def defName (s : Stmt) : Str := match s with
  | .FunctionDef n .. => n
  | .Assign [.Name n _] _ _ => n
  | _ => ⟨#[]⟩
abbrev FO := Option ((Str × Str × Arguments × FuncBody × Scope) × (Addr × List (Str × Addr) × Value × Addr) × Bool)
def obsDef (K : Frag) (n : Str) : FO := match nsIn K mainGlobals n with
  | some (some (.ref f)) => (match K.lookup f with
    | some ⟨_, _, .func fd, _⟩ => some ((fd.name, fd.qualname, fd.params, fd.body, fd.scope), (fd.globals, fd.closure, fd.defaults, fd.builtins), codeIn K fd.code n)
    | _ => none)
  | _ => none
def expDef (s : Stmt) : FO := some ((defName s, defName s, defArgs s, .stmts (defBody s), defScope s), (mainGlobals, [], .none, builtinsNs), true)
def obsNo (K : Frag) (n : Str) : Bool := match nsIn K mainGlobals n with
  | some none => true
  | _ => false
def obsVal (K : Frag) (n : Str) : Option V := match nsIn K mainGlobals n with
  | some (some v) => absV v
  | _ => none
def obsTup (K : Frag) (n : Str) : Option (List (Option V)) := match nsIn K mainGlobals n with
  | some (some (.ref a)) => (match K.lookup a with
    | some ⟨.type "tuple", _, .seq xs _, _⟩ => some (xs.toList.map absV)
    | _ => none)
  | _ => none
theorem obsDef_ex {K : Frag} {s : Stmt} (h : obsDef K (defName s) = expDef s) : ∃ f fd, nsIn K mainGlobals (defName s) = some (some (.ref f)) ∧ Fun K (defName s) (defName s) s f fd := by
  unfold obsDef at h
  cases e : nsIn K mainGlobals (defName s) with
  | none => rw [e] at h; cases h
  | some o =>
    cases o with
    | none => rw [e] at h; cases h
    | some v =>
      cases v with
      | ref f =>
        rw [e] at h
        dsimp only at h
        cases e2 : K.lookup f with
        | none => rw [e2] at h; cases h
        | some ob =>
          obtain ⟨oc, od, da, sl⟩ := ob
          rw [e2] at h
          cases da with
          | func fd =>
            obtain ⟨nm, qn, pa, bo, sc, gl, cl, df, kw, dc, pm, an, cd, ct, bl⟩ := fd
            simp only [expDef, Option.some.injEq, Prod.mk.injEq] at h
            obtain ⟨⟨rfl, rfl, rfl, rfl, rfl⟩, ⟨rfl, rfl, rfl, rfl⟩, h3⟩ := h
            refine ⟨f, _, rfl, ⟨oc, od, kw, dc, pm, an, cd, ct, sl, rfl, e2, h3⟩, ?_⟩
            unfold keepIn
            dsimp only
            rw [e2]
          | _ => cases h
      | _ => rw [e] at h; cases h
theorem obsNo_ex {K : Frag} {n : Str} (h : obsNo K n = true) : nsIn K mainGlobals n = some none := by
  unfold obsNo at h
  split at h
  · assumption
  · cases h
theorem absV_rel : ∀ {v : Value} {x : V}, absV v = some x → RelV x v
  | .none, x, h => by cases h; rfl
  | .bool b, x, h => by cases h; rfl
  | .int i t, x, h => by cases h; exact ⟨t, rfl⟩
  | .str i t, x, h => by cases h; exact ⟨t, rfl⟩
  | .bytes i t, x, h => by cases h; exact ⟨t, rfl⟩
  | .float i t, x, h => by cases h; exact ⟨t, rfl⟩
  | .ref a, x, h => by cases h; rfl
  | .type n, x, h => by cases h; rfl
  | .builtin _, x, h => by cases h
theorem obsVal_ex {K : Frag} {n : Str} {x : V} (h : obsVal K n = some x) : ∃ v, nsIn K mainGlobals n = some (some v) ∧ RelV x v := by
  unfold obsVal at h
  split at h
  · exact ⟨_, by assumption, absV_rel h⟩
  · cases h
section
variable {K : Frag} {x qual : Str} {st : Stmt} {f : Addr} {fd : FuncData} {p1 p2 p3 p4 p5 p6 : Str}
abbrev BA (x qual : Str) (st : Stmt) (us : List Value) (r : List (Str × Value)) : Prop := ∀ (kV doc pm : Value) (an : Option Addr) (cdv ct : Value), bindArgs (PySem.W.fnOf x qual (defArgs st) (defBody st) (defScope st) .none kV doc pm an cdv ct) ⟨us, []⟩ = pure r
theorem binds1 (F : Fun K x qual st f fd) (h : ∀ a, BA x qual st [a] [(p1, a)]) : Binds K fd [p1] [] := F.binds fun _ _ _ _ _ _ us hl => by
  match us, hl with
  | [a], _ => exact h a _ _ _ _ _ _
theorem binds2 (F : Fun K x qual st f fd) (h : ∀ a b, BA x qual st [a, b] [(p1, a), (p2, b)]) : Binds K fd [p1, p2] [] := F.binds fun _ _ _ _ _ _ us hl => by
  match us, hl with
  | [a, b], _ => exact h a b _ _ _ _ _ _
end
def bltNs : List Str := [⟨#[105, 115, 105, 110, 115, 116, 97, 110, 99, 101]⟩, ⟨#[105, 110, 116]⟩, ⟨#[98, 111, 111, 108]⟩, ⟨#[108, 105, 115, 116]⟩, ⟨#[108, 101, 110]⟩, ⟨#[115, 116, 114]⟩, ⟨#[116, 117, 112, 108, 101]⟩, ⟨#[97, 108, 108]⟩, ⟨#[100, 105, 99, 116]⟩, ⟨#[109, 97, 120]⟩, ⟨#[109, 105, 110]⟩, ⟨#[114, 97, 110, 103, 101]⟩, ⟨#[122, 105, 112]⟩, ⟨#[101, 110, 117, 109, 101, 114, 97, 116, 101]⟩, ⟨#[115, 111, 114, 116, 101, 100]⟩, ⟨#[115, 117, 109]⟩, ⟨#[114, 101, 118, 101, 114, 115, 101, 100]⟩]
theorem no_of {K : Frag} (h : bltNs.map (obsNo K) = List.replicate 17 true) {n : Str} (i : Nat) (hi : i < 17) (e : bltNs[i]? = some n) : nsIn K mainGlobals n = some none := by
  refine obsNo_ex ?_
  have := congrArg (fun l => l[i]?) h
  simp only [List.getElem?_map, e, Option.map_some, List.getElem?_replicate, hi, if_true, Option.some.injEq] at this
  exact this
end L2

set_option Elab.async false
set_option linter.all false
set_option maxRecDepth 100000
namespace Lf
open PySem L2
def All2 {α β : Type} (g : α → β → Prop) : List α → List β → Prop
  | [], ys => ys = []
  | x :: xs, ys => ∃ y yr, ys = y :: yr ∧ g x y ∧ All2 g xs yr
section
variable {α β : Type} {g h : α → β → Prop}
theorem All2.nil : All2 g [] [] := rfl
theorem All2.imp (i : ∀ v x, g v x → h v x) : ∀ {vs : List α} {xs : List β}, All2 g vs xs → All2 h vs xs
  | [], _, e => e
  | _ :: _, _, ⟨x, xr, e, a, b⟩ => ⟨x, xr, e, i _ _ a, All2.imp i b⟩
theorem All2.len : ∀ {vs : List α} {xs : List β}, All2 g vs xs → xs.length = vs.length
  | [], _, e => by rw [show _ = [] from e]; rfl
  | _ :: _, _, ⟨x, xr, e, a, b⟩ => by rw [e, List.length_cons, List.length_cons, All2.len b]
theorem All2.at : ∀ {vs : List α} {xs : List β} {i : Nat} {v : α}, All2 g vs xs → vs[i]? = some v → ∃ x, xs[i]? = some x ∧ g v x
  | [], _, _, _, e, h => by simp at h
  | v :: vs, _, 0, w, ⟨y, yr, e, a, b⟩, h => by rw [e]; cases (Option.some.inj h); exact ⟨y, rfl, a⟩
  | v :: vs, _, i + 1, w, ⟨y, yr, e, a, b⟩, h => by
    rw [e]
    obtain ⟨u, hu, hg⟩ := All2.at (i := i) b (by simpa using h)
    exact ⟨u, by simpa using hu, hg⟩
theorem All2.app {us : List α} {ys : List β} (hu : All2 g us ys) : ∀ {vs : List α} {xs : List β}, All2 g vs xs → All2 g (vs ++ us) (xs ++ ys)
  | [], _, e => by rw [show _ = [] from e]; exact hu
  | _ :: _, _, ⟨y, yr, e, a, b⟩ => by rw [e]; exact ⟨y, yr ++ ys, rfl, a, All2.app hu b⟩
theorem All2.one {v : α} {x : β} (hg : g v x) : All2 g [v] [x] := ⟨x, [], rfl, hg, rfl⟩
theorem All2.snoc {v : α} {x : β} (hg : g v x) {vs : List α} {xs : List β} (h : All2 g vs xs) : All2 g (vs ++ [v]) (xs ++ [x]) := All2.app (All2.one hg) h
theorem All2.take : ∀ (n : Nat) {vs : List α} {xs : List β}, All2 g vs xs → All2 g (vs.take n) (xs.take n)
  | 0, _, _, _ => by simp only [List.take_zero]; rfl
  | n + 1, [], _, e => by rw [show _ = [] from e]; rfl
  | n + 1, _ :: _, _, ⟨y, yr, e, a, b⟩ => by rw [e]; exact ⟨y, yr.take n, rfl, a, All2.take n b⟩
theorem All2.drop : ∀ (n : Nat) {vs : List α} {xs : List β}, All2 g vs xs → All2 g (vs.drop n) (xs.drop n)
  | 0, _, _, h => h
  | n + 1, [], _, e => by rw [show _ = [] from e]; rfl
  | n + 1, _ :: _, _, ⟨y, yr, e, a, b⟩ => by rw [e]; exact All2.drop n b
end
inductive Dx where
  | non | bl (b : Bool) | int (i : Int) | str (x : Str) | tup (l : List Dx) | lst (l : List Dx) | dic (l : List (Key × Dx)) | scr (K : PySem.W.Frag) (ns : List Int)
  | ins (C : Addr) (fs : List (Str × Dx)) | exc (c : Value)
def excP (a : Addr) (c : Value) : Heap → Prop := fun h => ∃ o vs, h.get? a = some o ∧ o.cls = c ∧ o.data = .fields vs ∧ o.dict = none
mutual
def IsX (H : Hp) : Dx → V → Prop
  | .non, v => v = .non
  | .bl b, v => v = .bl b
  | .int i, v => v = .int i
  | .str x, v => v = .str x
  | .tup ds, v => ∃ a vs, v = .ref a ∧ H a = some (.tup vs) ∧ IsXs H ds vs
  | .lst ds, v => ∃ a vs, v = .ref a ∧ H a = some (.lst vs) ∧ IsXs H ds vs
  | .dic ks, v => ∃ a ws, v = .ref a ∧ Rd H a (.dK ws) ∧ IsXk H ks ws
  | .scr K ns, v => ∃ a, v = .ref a ∧ SqL K H a (ns.map V.int)
  | .ins C fs, v => ∃ a dx ws, v = .ref a ∧ H a = some (.ins C dx ws) ∧ IsXf H fs ws
  | .exc c, v => ∃ a, v = .ref a ∧ H a = some (.ext (excP a c))
def IsXs (H : Hp) : List Dx → List V → Prop
  | [], vs => vs = []
  | d :: r, vs => ∃ v vr, vs = v :: vr ∧ IsX H d v ∧ IsXs H r vr
def IsXk (H : Hp) : List (Key × Dx) → List (Key × V) → Prop
  | [], ws => ws = []
  | k :: r, ws => ∃ w wr, ws = w :: wr ∧ (k.1 = w.1 ∧ IsX H k.2 w.2) ∧ IsXk H r wr
def IsXf (H : Hp) : List (Str × Dx) → List (Str × V) → Prop
  | [], ws => ws = []
  | k :: r, ws => ∃ w wr, ws = w :: wr ∧ (k.1 = w.1 ∧ IsX H k.2 w.2) ∧ IsXf H r wr
end
theorem IsXs.all {H : Hp} : ∀ {ds : List Dx} {vs : List V}, IsXs H ds vs ↔ All2 (IsX H) ds vs
  | [], vs => by simp only [IsXs, All2]
  | d :: r, vs => by
    simp only [IsXs, All2]
    constructor
    · rintro ⟨v, vr, e, a, b⟩; exact ⟨v, vr, e, a, IsXs.all.mp b⟩
    · rintro ⟨v, vr, e, a, b⟩; exact ⟨v, vr, e, a, IsXs.all.mpr b⟩
abbrev KvX (H : Hp) (k : Key × Dx) (w : Key × V) : Prop := k.1 = w.1 ∧ IsX H k.2 w.2
theorem IsXk.all {H : Hp} : ∀ {ds : List (Key × Dx)} {vs : List (Key × V)}, IsXk H ds vs ↔ All2 (KvX H) ds vs
  | [], vs => by simp only [IsXk, All2]
  | d :: r, vs => by
    simp only [IsXk, All2]
    constructor
    · rintro ⟨v, vr, e, a, b⟩; exact ⟨v, vr, e, a, IsXk.all.mp b⟩
    · rintro ⟨v, vr, e, a, b⟩; exact ⟨v, vr, e, a, IsXk.all.mpr b⟩
abbrev FvX (H : Hp) (k : Str × Dx) (w : Str × V) : Prop := k.1 = w.1 ∧ IsX H k.2 w.2
theorem IsXf.all {H : Hp} : ∀ {ds : List (Str × Dx)} {vs : List (Str × V)}, IsXf H ds vs ↔ All2 (FvX H) ds vs
  | [], vs => by simp only [IsXf, All2]
  | d :: r, vs => by
    simp only [IsXf, All2]
    constructor
    · rintro ⟨v, vr, e, a, b⟩; exact ⟨v, vr, e, a, IsXf.all.mp b⟩
    · rintro ⟨v, vr, e, a, b⟩; exact ⟨v, vr, e, a, IsXf.all.mpr b⟩
def SameF (H H' : Hp) : Prop := ∀ b o, H b = some o → H' b = some o ∨ ∃ ob ws, (o = .dK ws ∧ H' b = some (.frz ob (.dK ws))) ∨ (o = .frz ob (.dK ws) ∧ H' b = some (.dK ws))
theorem SameF.of {H H' : Hp} (e : Same H H') : SameF H H' := fun b o h => .inl (e _ _ h)
theorem SameF.tup {H H' : Hp} (e : SameF H H') {a : Addr} {vs : List V} (h : H a = some (.tup vs)) : H' a = some (.tup vs) := by
  rcases e _ _ h with q | ⟨ob, ws, q | q⟩
  · exact q
  · cases q.1
  · cases q.1
theorem SameF.lst {H H' : Hp} (e : SameF H H') {a : Addr} {vs : List V} (h : H a = some (.lst vs)) : H' a = some (.lst vs) := by
  rcases e _ _ h with q | ⟨ob, ws, q | q⟩
  · exact q
  · cases q.1
  · cases q.1
theorem SameF.dic {H H' : Hp} (e : SameF H H') {a : Addr} {ws : List (Key × V)} (h : Rd H a (.dK ws)) : Rd H' a (.dK ws) := by
  rcases h with h | ⟨o, h⟩
  · rcases e _ _ h with q | ⟨ob, ws, q | q⟩
    · exact .inl q
    · obtain ⟨q1, q2⟩ := q; cases q1; exact .inr ⟨_, q2⟩
    · cases q.1
  · rcases e _ _ h with q | ⟨ob, ws, q | q⟩
    · exact .inr ⟨_, q⟩
    · cases q.1
    · obtain ⟨q1, q2⟩ := q; cases q1; exact .inl q2
theorem SameF.ins {H H' : Hp} (e : SameF H H') {a C dx : Addr} {ws : List (Str × V)} (h : H a = some (.ins C dx ws)) : H' a = some (.ins C dx ws) := by
  rcases e _ _ h with q | ⟨ob, ws, q | q⟩
  · exact q
  · cases q.1
  · cases q.1
theorem SameF.ext {H H' : Hp} (e : SameF H H') {a : Addr} {φ : Heap → Prop} (h : H a = some (.ext φ)) : H' a = some (.ext φ) := by
  rcases e _ _ h with q | ⟨ob, ws, q | q⟩
  · exact q
  · cases q.1
  · cases q.1
theorem SameF.sq {H H' : Hp} (e : SameF H H') {K : PySem.W.Frag} {a : Addr} {xs : List V} (h : SqL K H a xs) : SqL K H' a xs := by
  rcases h with (h | ⟨o, h⟩) | h
  · exact .inl (.inl (e.lst h))
  · rcases e _ _ h with q | ⟨ob, ws, q | q⟩
    · exact .inl (.inr ⟨o, q⟩)
    · cases q.1
    · cases q.1
  · exact .inr h
mutual
theorem IsX.sameF {H H' : Hp} (e : SameF H H') : ∀ (d : Dx) (v : V), IsX H d v → IsX H' d v
  | .non, v, h => by simpa only [IsX] using h
  | .bl _, v, h => by simpa only [IsX] using h
  | .int _, v, h => by simpa only [IsX] using h
  | .str _, v, h => by simpa only [IsX] using h
  | .tup ds, v, h => by
    simp only [IsX] at h ⊢
    obtain ⟨a, vs, h1, h2, h3⟩ := h
    exact ⟨a, vs, h1, e.tup h2, IsXs.sameF e ds vs h3⟩
  | .lst ds, v, h => by
    simp only [IsX] at h ⊢
    obtain ⟨a, vs, h1, h2, h3⟩ := h
    exact ⟨a, vs, h1, e.lst h2, IsXs.sameF e ds vs h3⟩
  | .dic ks, v, h => by
    simp only [IsX] at h ⊢
    obtain ⟨a, ws, h1, h2, h3⟩ := h
    exact ⟨a, ws, h1, e.dic h2, IsXk.sameF e ks ws h3⟩
  | .scr K ns, v, h => by
    simp only [IsX] at h ⊢
    obtain ⟨a, h1, h2⟩ := h
    exact ⟨a, h1, e.sq h2⟩
  | .ins C fs, v, h => by
    simp only [IsX] at h ⊢
    obtain ⟨a, dx, ws, h1, h2, h3⟩ := h
    exact ⟨a, dx, ws, h1, e.ins h2, IsXf.sameF e fs ws h3⟩
  | .exc c, v, h => by
    simp only [IsX] at h ⊢
    obtain ⟨a, h1, h2⟩ := h
    exact ⟨a, h1, e.ext h2⟩
theorem IsXs.sameF {H H' : Hp} (e : SameF H H') : ∀ (ds : List Dx) (vs : List V), IsXs H ds vs → IsXs H' ds vs
  | [], vs, h => by simpa only [IsXs] using h
  | d :: r, vs, h => by
    simp only [IsXs] at h ⊢
    obtain ⟨v, vr, h1, h2, h3⟩ := h
    exact ⟨v, vr, h1, IsX.sameF e d v h2, IsXs.sameF e r vr h3⟩
theorem IsXk.sameF {H H' : Hp} (e : SameF H H') : ∀ (ds : List (Key × Dx)) (ws : List (Key × V)), IsXk H ds ws → IsXk H' ds ws
  | [], vs, h => by simpa only [IsXk] using h
  | d :: r, vs, h => by
    simp only [IsXk] at h ⊢
    obtain ⟨v, vr, h1, h2, h3⟩ := h
    exact ⟨v, vr, h1, ⟨h2.1, IsX.sameF e d.2 v.2 h2.2⟩, IsXk.sameF e r vr h3⟩
theorem IsXf.sameF {H H' : Hp} (e : SameF H H') : ∀ (ds : List (Str × Dx)) (ws : List (Str × V)), IsXf H ds ws → IsXf H' ds ws
  | [], vs, h => by simpa only [IsXf] using h
  | d :: r, vs, h => by
    simp only [IsXf] at h ⊢
    obtain ⟨v, vr, h1, h2, h3⟩ := h
    exact ⟨v, vr, h1, ⟨h2.1, IsX.sameF e d.2 v.2 h2.2⟩, IsXf.sameF e r vr h3⟩
end
theorem IsX.toF {H H' : Hp} {d : Dx} {v : V} (h : IsX H d v) (e : SameF H H') : IsX H' d v := IsX.sameF e d v h
theorem IsX.to {H H' : Hp} {d : Dx} {v : V} (h : IsX H d v) (e : Same H H') : IsX H' d v := IsX.sameF (.of e) d v h
theorem IsX.int_eq {H : Hp} {i : Int} {v : V} (h : IsX H (.int i) v) : v = .int i := by simpa only [IsX] using h
theorem IsX.bl_eq {H : Hp} {i : Bool} {v : V} (h : IsX H (.bl i) v) : v = .bl i := by simpa only [IsX] using h
theorem IsX.str_eq {H : Hp} {i : Str} {v : V} (h : IsX H (.str i) v) : v = .str i := by simpa only [IsX] using h
theorem IsX.non_eq {H : Hp} {v : V} (h : IsX H .non v) : v = .non := by simpa only [IsX] using h
theorem IsX.tup_eq {H : Hp} {l : List Dx} {v : V} (h : IsX H (.tup l) v) : ∃ a vs, v = .ref a ∧ H a = some (.tup vs) ∧ All2 (IsX H) l vs := by
  simp only [IsX] at h
  obtain ⟨a, vs, h1, h2, h3⟩ := h
  exact ⟨a, vs, h1, h2, IsXs.all.mp h3⟩
theorem IsX.lst_eq {H : Hp} {l : List Dx} {v : V} (h : IsX H (.lst l) v) : ∃ a vs, v = .ref a ∧ H a = some (.lst vs) ∧ All2 (IsX H) l vs := by
  simp only [IsX] at h
  obtain ⟨a, vs, h1, h2, h3⟩ := h
  exact ⟨a, vs, h1, h2, IsXs.all.mp h3⟩
theorem IsX.dic_eq {H : Hp} {l : List (Key × Dx)} {v : V} (h : IsX H (.dic l) v) : ∃ a ws, v = .ref a ∧ Rd H a (.dK ws) ∧ All2 (KvX H) l ws := by
  simp only [IsX] at h
  obtain ⟨a, vs, h1, h2, h3⟩ := h
  exact ⟨a, vs, h1, h2, IsXk.all.mp h3⟩
theorem IsX.scr_eq {H : Hp} {K : PySem.W.Frag} {ns : List Int} {v : V} (h : IsX H (.scr K ns) v) : ∃ a, v = .ref a ∧ SqL K H a (ns.map V.int) := by simpa only [IsX] using h
theorem IsX.of_scr {H : Hp} {K : PySem.W.Frag} {ns : List Int} {a : Addr} (h : SqL K H a (ns.map V.int)) : IsX H (.scr K ns) (.ref a) := by simp only [IsX]; exact ⟨a, rfl, h⟩
theorem IsX.ins_eq {H : Hp} {C : Addr} {fs : List (Str × Dx)} {v : V} (h : IsX H (.ins C fs) v) : ∃ a dx ws, v = .ref a ∧ H a = some (.ins C dx ws) ∧ All2 (FvX H) fs ws := by
  simp only [IsX] at h
  obtain ⟨a, dx, ws, h1, h2, h3⟩ := h
  exact ⟨a, dx, ws, h1, h2, IsXf.all.mp h3⟩
theorem IsX.exc_eq {H : Hp} {c : Value} {v : V} (h : IsX H (.exc c) v) : ∃ a, v = .ref a ∧ H a = some (.ext (excP a c)) := by simpa only [IsX] using h
theorem IsX.of_ins {H : Hp} {C a dx : Addr} {fs : List (Str × Dx)} {ws : List (Str × V)} (h : H a = some (.ins C dx ws)) (h' : All2 (FvX H) fs ws) : IsX H (.ins C fs) (.ref a) := by simp only [IsX]; exact ⟨a, dx, ws, rfl, h, IsXf.all.mpr h'⟩
theorem IsX.of_exc {H : Hp} {c : Value} {a : Addr} (h : H a = some (.ext (excP a c))) : IsX H (.exc c) (.ref a) := by simp only [IsX]; exact ⟨a, rfl, h⟩
theorem IsX.of_int {H : Hp} (i : Int) : IsX H (.int i) (.int i) := by simp only [IsX]
theorem IsX.of_bl {H : Hp} (i : Bool) : IsX H (.bl i) (.bl i) := by simp only [IsX]
theorem IsX.of_str {H : Hp} (i : Str) : IsX H (.str i) (.str i) := by simp only [IsX]
theorem IsX.of_non {H : Hp} : IsX H .non .non := by simp only [IsX]
theorem IsX.of_tup {H : Hp} {l : List Dx} {a : Addr} {vs : List V} (h : H a = some (.tup vs)) (h' : All2 (IsX H) l vs) : IsX H (.tup l) (.ref a) := by simp only [IsX]; exact ⟨a, vs, rfl, h, IsXs.all.mpr h'⟩
theorem IsX.of_lst {H : Hp} {l : List Dx} {a : Addr} {vs : List V} (h : H a = some (.lst vs)) (h' : All2 (IsX H) l vs) : IsX H (.lst l) (.ref a) := by simp only [IsX]; exact ⟨a, vs, rfl, h, IsXs.all.mpr h'⟩
theorem IsX.of_dic {H : Hp} {l : List (Key × Dx)} {a : Addr} {vs : List (Key × V)} (h : Rd H a (.dK vs)) (h' : All2 (KvX H) l vs) : IsX H (.dic l) (.ref a) := by simp only [IsX]; exact ⟨a, vs, rfl, h, IsXk.all.mpr h'⟩
inductive Ow where
  | tr (d : Dx) | ol (a : Addr) (l : List Ow) | od (a : Addr) (l : List (Key × Ow)) | oi (C a dx : Addr) (l : List (Str × Ow)) | ot (l : List Ow)
mutual
def Ow.d : Ow → Dx
  | .tr d => d
  | .ol _ l => .lst (owDs l)
  | .od _ l => .dic (owDk l)
  | .oi C _ _ l => .ins C (owDf l)
  | .ot l => .tup (owDs l)
def owDs : List Ow → List Dx
  | [] => []
  | o :: r => o.d :: owDs r
def owDk : List (Key × Ow) → List (Key × Dx)
  | [] => []
  | o :: r => (o.1, o.2.d) :: owDk r
def owDf : List (Str × Ow) → List (Str × Dx)
  | [] => []
  | o :: r => (o.1, o.2.d) :: owDf r
end
mutual
def Ow.fp : Ow → List Addr
  | .tr _ => []
  | .ol a l => a :: owFs l
  | .od a l => a :: owFk l
  | .oi _ a dx l => a :: dx :: owFf l
  | .ot l => owFs l
def owFs : List Ow → List Addr
  | [] => []
  | o :: r => o.fp ++ owFs r
def owFk : List (Key × Ow) → List Addr
  | [] => []
  | o :: r => o.2.fp ++ owFk r
def owFf : List (Str × Ow) → List Addr
  | [] => []
  | o :: r => o.2.fp ++ owFf r
end
mutual
def OwOk (G H : Hp) : Ow → V → Prop
  | .tr d, v => IsX G d v
  | .ol a l, v => v = .ref a ∧ ∃ vs, H a = some (.lst vs) ∧ OwOks G H l vs
  | .od a l, v => v = .ref a ∧ ∃ ws, H a = some (.dK ws) ∧ OwOkk G H l ws
  | .oi C a dx l, v => v = .ref a ∧ ∃ ws, H a = some (.ins C dx ws) ∧ H dx = some (.own a) ∧ OwOkf G H l ws
  | .ot l, v => ∃ a vs, v = .ref a ∧ G a = some (.tup vs) ∧ OwOks G H l vs
def OwOks (G H : Hp) : List Ow → List V → Prop
  | [], vs => vs = []
  | o :: r, vs => ∃ v vr, vs = v :: vr ∧ OwOk G H o v ∧ OwOks G H r vr
def OwOkk (G H : Hp) : List (Key × Ow) → List (Key × V) → Prop
  | [], vs => vs = []
  | o :: r, vs => ∃ v vr, vs = v :: vr ∧ (o.1 = v.1 ∧ OwOk G H o.2 v.2) ∧ OwOkk G H r vr
def OwOkf (G H : Hp) : List (Str × Ow) → List (Str × V) → Prop
  | [], vs => vs = []
  | o :: r, vs => ∃ v vr, vs = v :: vr ∧ (o.1 = v.1 ∧ OwOk G H o.2 v.2) ∧ OwOkf G H r vr
end
section
variable {G G' H H' : Hp}
mutual
theorem OwOk.mono (e : SameF G G') : ∀ (o : Ow) (v : V), (∀ b ∈ o.fp, H' b = H b) → OwOk G H o v → OwOk G' H' o v
  | .tr d, v, _, h => by simp only [OwOk] at h ⊢; exact h.toF e
  | .ol a l, v, k, h => by
    simp only [OwOk, Ow.fp] at h k ⊢
    obtain ⟨h1, vs, h2, h3⟩ := h
    exact ⟨h1, vs, by rw [k a List.mem_cons_self]; exact h2, OwOks.mono e l vs (fun b hb => k b (List.mem_cons_of_mem _ hb)) h3⟩
  | .od a l, v, k, h => by
    simp only [OwOk, Ow.fp] at h k ⊢
    obtain ⟨h1, vs, h2, h3⟩ := h
    exact ⟨h1, vs, by rw [k a List.mem_cons_self]; exact h2, OwOkk.mono e l vs (fun b hb => k b (List.mem_cons_of_mem _ hb)) h3⟩
  | .oi C a dx l, v, k, h => by
    simp only [OwOk, Ow.fp] at h k ⊢
    obtain ⟨h1, vs, h2, h4, h3⟩ := h
    exact ⟨h1, vs, by rw [k a List.mem_cons_self]; exact h2, by rw [k dx (List.mem_cons_of_mem _ List.mem_cons_self)]; exact h4, OwOkf.mono e l vs (fun b hb => k b (List.mem_cons_of_mem _ (List.mem_cons_of_mem _ hb))) h3⟩
  | .ot l, v, k, h => by
    simp only [OwOk, Ow.fp] at h k ⊢
    obtain ⟨a, vs, h1, h2, h3⟩ := h
    exact ⟨a, vs, h1, e.tup h2, OwOks.mono e l vs k h3⟩
theorem OwOks.mono (e : SameF G G') : ∀ (l : List Ow) (vs : List V), (∀ b ∈ owFs l, H' b = H b) → OwOks G H l vs → OwOks G' H' l vs
  | [], vs, _, h => by simpa only [OwOks] using h
  | o :: r, vs, k, h => by
    simp only [OwOks, owFs] at h k ⊢
    obtain ⟨v, vr, h1, h2, h3⟩ := h
    exact ⟨v, vr, h1, OwOk.mono e o v (fun b hb => k b (List.mem_append_left _ hb)) h2, OwOks.mono e r vr (fun b hb => k b (List.mem_append_right _ hb)) h3⟩
theorem OwOkk.mono (e : SameF G G') : ∀ (l : List (Key × Ow)) (vs : List (Key × V)), (∀ b ∈ owFk l, H' b = H b) → OwOkk G H l vs → OwOkk G' H' l vs
  | [], vs, _, h => by simpa only [OwOkk] using h
  | o :: r, vs, k, h => by
    simp only [OwOkk, owFk] at h k ⊢
    obtain ⟨v, vr, h1, h2, h3⟩ := h
    exact ⟨v, vr, h1, ⟨h2.1, OwOk.mono e o.2 v.2 (fun b hb => k b (List.mem_append_left _ hb)) h2.2⟩, OwOkk.mono e r vr (fun b hb => k b (List.mem_append_right _ hb)) h3⟩
theorem OwOkf.mono (e : SameF G G') : ∀ (l : List (Str × Ow)) (vs : List (Str × V)), (∀ b ∈ owFf l, H' b = H b) → OwOkf G H l vs → OwOkf G' H' l vs
  | [], vs, _, h => by simpa only [OwOkf] using h
  | o :: r, vs, k, h => by
    simp only [OwOkf, owFf] at h k ⊢
    obtain ⟨v, vr, h1, h2, h3⟩ := h
    exact ⟨v, vr, h1, ⟨h2.1, OwOk.mono e o.2 v.2 (fun b hb => k b (List.mem_append_left _ hb)) h2.2⟩, OwOkf.mono e r vr (fun b hb => k b (List.mem_append_right _ hb)) h3⟩
end
def Fine (H : Hp) (b : Addr) : Prop := ∃ o, H b = some o ∧ ∀ ob u, o ≠ .frz ob u
mutual
theorem OwOk.there : ∀ (o : Ow) (v : V), OwOk G H o v → ∀ b ∈ o.fp, Fine H b
  | .tr d, v, _, b, hb => by simp only [Ow.fp] at hb; cases hb
  | .ol a l, v, h, b, hb => by
    simp only [OwOk, Ow.fp] at h hb
    obtain ⟨h1, vs, h2, h3⟩ := h
    rcases List.mem_cons.mp hb with rfl | hb
    · exact ⟨_, h2, fun _ _ z => nomatch z⟩
    · exact OwOks.there l vs h3 b hb
  | .od a l, v, h, b, hb => by
    simp only [OwOk, Ow.fp] at h hb
    obtain ⟨h1, vs, h2, h3⟩ := h
    rcases List.mem_cons.mp hb with rfl | hb
    · exact ⟨_, h2, fun _ _ z => nomatch z⟩
    · exact OwOkk.there l vs h3 b hb
  | .oi C a dx l, v, h, b, hb => by
    simp only [OwOk, Ow.fp] at h hb
    obtain ⟨h1, vs, h2, h4, h3⟩ := h
    rcases List.mem_cons.mp hb with rfl | hb
    · exact ⟨_, h2, fun _ _ z => nomatch z⟩
    · rcases List.mem_cons.mp hb with rfl | hb
      · exact ⟨_, h4, fun _ _ z => nomatch z⟩
      · exact OwOkf.there l vs h3 b hb
  | .ot l, v, h, b, hb => by
    simp only [OwOk, Ow.fp] at h hb
    obtain ⟨a, vs, h1, h2, h3⟩ := h
    exact OwOks.there l vs h3 b hb
theorem OwOks.there : ∀ (l : List Ow) (vs : List V), OwOks G H l vs → ∀ b ∈ owFs l, Fine H b
  | [], vs, _, b, hb => by simp only [owFs] at hb; cases hb
  | o :: r, vs, h, b, hb => by
    simp only [OwOks, owFs] at h hb
    obtain ⟨v, vr, h1, h2, h3⟩ := h
    rcases List.mem_append.mp hb with hb | hb
    · exact OwOk.there o v h2 b hb
    · exact OwOks.there r vr h3 b hb
theorem OwOkk.there : ∀ (l : List (Key × Ow)) (vs : List (Key × V)), OwOkk G H l vs → ∀ b ∈ owFk l, Fine H b
  | [], vs, _, b, hb => by simp only [owFk] at hb; cases hb
  | o :: r, vs, h, b, hb => by
    simp only [OwOkk, owFk] at h hb
    obtain ⟨v, vr, h1, h2, h3⟩ := h
    rcases List.mem_append.mp hb with hb | hb
    · exact OwOk.there o.2 v.2 h2.2 b hb
    · exact OwOkk.there r vr h3 b hb
theorem OwOkf.there : ∀ (l : List (Str × Ow)) (vs : List (Str × V)), OwOkf G H l vs → ∀ b ∈ owFf l, Fine H b
  | [], vs, _, b, hb => by simp only [owFf] at hb; cases hb
  | o :: r, vs, h, b, hb => by
    simp only [OwOkf, owFf] at h hb
    obtain ⟨v, vr, h1, h2, h3⟩ := h
    rcases List.mem_append.mp hb with hb | hb
    · exact OwOk.there o.2 v.2 h2.2 b hb
    · exact OwOkf.there r vr h3 b hb
end
mutual
theorem OwOk.tree (e : SameF G G') : ∀ (o : Ow) (v : V), (∀ b ∈ o.fp, G' b = H b) → OwOk G H o v → IsX G' o.d v
  | .tr d, v, _, h => by simp only [OwOk, Ow.d] at h ⊢; exact h.toF e
  | .ol a l, v, k, h => by
    simp only [OwOk, Ow.fp, Ow.d] at h k ⊢
    obtain ⟨h1, vs, h2, h3⟩ := h
    subst h1
    exact IsX.of_lst (by rw [k a List.mem_cons_self]; exact h2) (OwOks.tree e l vs (fun b hb => k b (List.mem_cons_of_mem _ hb)) h3)
  | .od a l, v, k, h => by
    simp only [OwOk, Ow.fp, Ow.d] at h k ⊢
    obtain ⟨h1, vs, h2, h3⟩ := h
    subst h1
    exact IsX.of_dic (.inl (by rw [k a List.mem_cons_self]; exact h2)) (OwOkk.tree e l vs (fun b hb => k b (List.mem_cons_of_mem _ hb)) h3)
  | .oi C a dx l, v, k, h => by
    simp only [OwOk, Ow.fp, Ow.d] at h k ⊢
    obtain ⟨h1, vs, h2, h4, h3⟩ := h
    subst h1
    exact IsX.of_ins (by rw [k a List.mem_cons_self]; exact h2) (OwOkf.tree e l vs (fun b hb => k b (List.mem_cons_of_mem _ (List.mem_cons_of_mem _ hb))) h3)
  | .ot l, v, k, h => by
    simp only [OwOk, Ow.fp, Ow.d] at h k ⊢
    obtain ⟨a, vs, h1, h2, h3⟩ := h
    subst h1
    exact IsX.of_tup (e.tup h2) (OwOks.tree e l vs k h3)
theorem OwOks.tree (e : SameF G G') : ∀ (l : List Ow) (vs : List V), (∀ b ∈ owFs l, G' b = H b) → OwOks G H l vs → All2 (IsX G') (owDs l) vs
  | [], vs, _, h => by simpa only [OwOks, owDs, All2] using h
  | o :: r, vs, k, h => by
    simp only [OwOks, owFs, owDs] at h k ⊢
    obtain ⟨v, vr, h1, h2, h3⟩ := h
    exact ⟨v, vr, h1, OwOk.tree e o v (fun b hb => k b (List.mem_append_left _ hb)) h2, OwOks.tree e r vr (fun b hb => k b (List.mem_append_right _ hb)) h3⟩
theorem OwOkk.tree (e : SameF G G') : ∀ (l : List (Key × Ow)) (vs : List (Key × V)), (∀ b ∈ owFk l, G' b = H b) → OwOkk G H l vs → All2 (KvX G') (owDk l) vs
  | [], vs, _, h => by simpa only [OwOkk, owDk, All2] using h
  | o :: r, vs, k, h => by
    simp only [OwOkk, owFk, owDk] at h k ⊢
    obtain ⟨v, vr, h1, h2, h3⟩ := h
    exact ⟨v, vr, h1, ⟨h2.1, OwOk.tree e o.2 v.2 (fun b hb => k b (List.mem_append_left _ hb)) h2.2⟩, OwOkk.tree e r vr (fun b hb => k b (List.mem_append_right _ hb)) h3⟩
theorem OwOkf.tree (e : SameF G G') : ∀ (l : List (Str × Ow)) (vs : List (Str × V)), (∀ b ∈ owFf l, G' b = H b) → OwOkf G H l vs → All2 (FvX G') (owDf l) vs
  | [], vs, _, h => by simpa only [OwOkf, owDf, All2] using h
  | o :: r, vs, k, h => by
    simp only [OwOkf, owFf, owDf] at h k ⊢
    obtain ⟨v, vr, h1, h2, h3⟩ := h
    exact ⟨v, vr, h1, ⟨h2.1, OwOk.tree e o.2 v.2 (fun b hb => k b (List.mem_append_left _ hb)) h2.2⟩, OwOkf.tree e r vr (fun b hb => k b (List.mem_append_right _ hb)) h3⟩
end
end
inductive Sv where
  | tr (d : Dx) | ol (l : List Dx) | od (l : List (Key × Dx)) | ow (o : Ow)
def Sv.d : Sv → Dx
  | .tr d => d
  | .ol l => .lst l
  | .od l => .dic l
  | .ow o => o.d
inductive Sl where
  | un | v (s : Sv) | bw (l : List Dx) | bo (o : Ow) | pn (v : V)
abbrev Rw := Sl × Option V
def ownA : Rw → List Addr
  | (.v (.ol _), some (.ref a)) => [a]
  | (.v (.od _), some (.ref a)) => [a]
  | (.bw _, some (.ref a)) => [a]
  | (.v (.ow o), _) => o.fp
  | (.bo o, _) => o.fp
  | _ => []
def owns (P : List Rw) : List Addr := P.flatMap ownA
def hid (O : List Addr) (H : Hp) : Hp := fun b => if b ∈ O then none else H b
theorem hid_some {O : List Addr} {H : Hp} {b : Addr} {o : HO} : hid O H b = some o ↔ b ∉ O ∧ H b = some o := by
  unfold hid
  by_cases h : b ∈ O
  · rw [if_pos h]; simp [h]
  · rw [if_neg h]; simp [h]
theorem hid_same {O : List Addr} {H H' : Hp} (e : Same H H') : Same (hid O H) (hid O H') := fun b o h => hid_some.mpr ⟨(hid_some.mp h).1, e _ _ (hid_some.mp h).2⟩
theorem hid_less {O O' : List Addr} {H : Hp} (e : ∀ a ∈ O', a ∈ O) : Same (hid O H) (hid O' H) := fun b o h => hid_some.mpr ⟨fun z => (hid_some.mp h).1 (e _ z), (hid_some.mp h).2⟩
theorem hid_sub {O : List Addr} {H : Hp} : Same (hid O H) H := fun b o h => (hid_some.mp h).2
def nf : Option HO → Option HO
  | some (.frz _ _) => none
  | o => o
theorem nf_some {x : Option HO} {o : HO} (h : nf x = some o) : x = some o := by
  unfold nf at h
  split at h
  · cases h
  · exact h
theorem nf_mono {x y : Option HO} {o : HO} (h : nf x = some o) (e : ∀ o, x = some o → y = some o) : nf y = some o := by
  have hx := nf_some h
  rw [hx] at h
  rw [e o hx]
  exact h
def ext (Hs H0 H : Hp) : Hp := fun b => match H0 b with | none => nf (H b) | some _ => Hs b
theorem ext_new {Hs H0 H : Hp} {b : Addr} (h : H0 b = none) : ext Hs H0 H b = nf (H b) := by unfold ext; rw [h]
theorem ext_old {Hs H0 H : Hp} {b : Addr} {o : HO} (h : H0 b = some o) : ext Hs H0 H b = Hs b := by unfold ext; rw [h]
theorem ext_same {Hs H0 H H' : Hp} (e : Same H H') : Same (ext Hs H0 H) (ext Hs H0 H') := fun b o h => by
  cases q : H0 b with
  | none => rw [ext_new q] at h ⊢; exact nf_mono h (e b)
  | some u => rw [ext_old q] at h ⊢; exact h
def RowOk (O : List Addr) (G H : Hp) : Rw → Prop
  | (.un, _) => True
  | (.pn w, v) => v = some w
  | (.v (.tr d), v) => ∃ x, v = some x ∧ IsX (hid O G) d x
  | (.v (.ol l), v) => ∃ a vs, v = some (.ref a) ∧ H a = some (.lst vs) ∧ All2 (IsX (hid O G)) l vs
  | (.v (.od l), v) => ∃ a ws, v = some (.ref a) ∧ H a = some (.dK ws) ∧ All2 (KvX (hid O G)) l ws
  | (.bw l, v) => ∃ a vs, v = some (.ref a) ∧ H a = some (.lst vs) ∧ All2 (IsX (hid O G)) l vs
  | (.v (.ow o), v) => ∃ x, v = some x ∧ OwOk (hid O G) H o x
  | (.bo o, v) => ∃ x, v = some x ∧ OwOk (hid O G) H o x
theorem KvX.toF {H H' : Hp} {k : Key × Dx} {w : Key × V} (h : KvX H k w) (e : SameF H H') : KvX H' k w := ⟨h.1, h.2.toF e⟩
theorem KvX.to {H H' : Hp} {k : Key × Dx} {w : Key × V} (h : KvX H k w) (e : Same H H') : KvX H' k w := ⟨h.1, h.2.to e⟩
theorem RowOk.mono {O O' : List Addr} {G G' H H' : Hp} {r : Rw} (h : RowOk O G H r) (e : SameF (hid O G) (hid O' G')) (ho : ∀ a ∈ ownA r, H' a = H a) : RowOk O' G' H' r := by
  match r, h, ho with
  | (.un, _), _, _ => trivial
  | (.pn w, v), h, _ => exact h
  | (.v (.tr d), v), ⟨x, h1, h2⟩, _ => exact ⟨x, h1, h2.toF e⟩
  | (.v (.ol l), v), ⟨a, vs, h1, h2, h3⟩, ho =>
    subst h1
    exact ⟨a, vs, rfl, by rw [ho a (List.mem_singleton.mpr rfl)]; exact h2, h3.imp fun _ _ z => z.toF e⟩
  | (.v (.od l), v), ⟨a, vs, h1, h2, h3⟩, ho =>
    subst h1
    exact ⟨a, vs, rfl, by rw [ho a (List.mem_singleton.mpr rfl)]; exact h2, h3.imp fun _ _ z => z.toF e⟩
  | (.bw l, v), ⟨a, vs, h1, h2, h3⟩, ho =>
    subst h1
    exact ⟨a, vs, rfl, by rw [ho a (List.mem_singleton.mpr rfl)]; exact h2, h3.imp fun _ _ z => z.toF e⟩
  | (.v (.ow o), v), ⟨x, h1, h2⟩, ho => exact ⟨x, h1, OwOk.mono e o x ho h2⟩
  | (.bo o, v), ⟨x, h1, h2⟩, ho => exact ⟨x, h1, OwOk.mono e o x ho h2⟩
structure Fm where
  H0 : Hp
  Hs : Hp
  B : List Addr
  sub : Same Hs H0
  nb : ∀ b ∈ B, Hs b = none
  ib : ∀ b ∈ B, ∃ o, H0 b = some o
abbrev Fm.vis (F : Fm) (H : Hp) : Hp := ext F.Hs F.H0 H
def FrOk (F : Fm) (r : Rw) (a : Addr) : Prop := match r.1 with
  | .bw _ => a ∈ F.B
  | .bo _ => a ∈ F.B ∨ F.H0 a = none
  | _ => F.H0 a = none
theorem FrOk.or {F : Fm} {r : Rw} {a : Addr} (h : FrOk F r a) : a ∈ F.B ∨ F.H0 a = none := by
  unfold FrOk at h
  split at h
  · exact .inl h
  · exact h
  · exact .inr h
structure Rep (F : Fm) (P : List Rw) (H : Hp) : Prop where
  nd : (owns P).Nodup
  ok : ∀ r ∈ P, RowOk (owns P) (F.vis H) H r
  fr : ∀ r ∈ P, ∀ a ∈ ownA r, FrOk F r a
  kp : ∀ b o, F.H0 b = some o → b ∉ F.B → H b = some o
  lv : ∀ b ∈ F.B, ∃ o, H b = some o
section
variable {F : Fm} {P P' : List Rw} {H H' : Hp} {r r' : Rw} {d : Dx} {v : V} {a p : Addr} {l l' : List Dx} {vs vs' : List V} {k k' : List (Key × Dx)} {ws ws' : List (Key × V)} {s : Sv} {x : Option V}
theorem owns_cons : owns (r :: P) = ownA r ++ owns P := by
  unfold owns
  rw [List.flatMap_cons]
theorem owns_some (h : ownA r = [a]) : owns (r :: P) = a :: owns P := by rw [owns_cons, h]; rfl
theorem owns_none (h : ownA r = []) : owns (r :: P) = owns P := by rw [owns_cons, h]; rfl
theorem owns_perm (h : P.Perm P') : (owns P).Perm (owns P') := h.flatMap_right _
theorem Rep.vis (R : Rep F P H) : Same (F.vis H) H := fun b o h => by
  cases q : F.H0 b with
  | none => exact nf_some ((ext_new q).symm.trans h)
  | some u =>
    have h := (ext_old q).symm.trans h
    have := F.sub _ _ h
    exact R.kp b o this fun z => by rw [F.nb b z] at h; cases h
theorem Rep.hv (R : Rep F P H) {O : List Addr} : Same (hid O (F.vis H)) H := fun b o h => R.vis b o (hid_some.mp h).2
theorem Rep.fresh (R : Rep F P H) (hp : H p = none) : F.H0 p = none := by
  cases q : F.H0 p with
  | none => rfl
  | some o =>
    by_cases hB : p ∈ F.B
    · obtain ⟨u, hu⟩ := R.lv p hB; rw [hp] at hu; cases hu
    · rw [R.kp p o q hB] at hp; cases hp
theorem Rep.perm (R : Rep F P H) (h : P.Perm P') : Rep F P' H := by
  have hp : (owns P).Perm (owns P') := owns_perm h
  exact ⟨hp.nodup_iff.mp R.nd, fun r hr => (R.ok r (h.mem_iff.mpr hr)).mono (.of (hid_less fun a ha => hp.mem_iff.mpr ha)) fun _ _ => rfl, fun r hr => R.fr r (h.mem_iff.mpr hr), R.kp, R.lv⟩
theorem Rep.tail (R : Rep F (r :: P) H) : Rep F P H := by
  have hs : ∀ a ∈ owns P, a ∈ owns (r :: P) := fun a ha => by rw [owns_cons]; exact List.mem_append_right _ ha
  refine ⟨?_, fun x hx => (R.ok x (List.mem_cons_of_mem _ hx)).mono (.of (hid_less hs)) fun _ _ => rfl, fun x hx => R.fr x (List.mem_cons_of_mem _ hx), R.kp, R.lv⟩
  have := R.nd
  rw [owns_cons] at this
  exact (List.nodup_append.mp this).2.1
theorem own_mem (h : r ∈ P) (e : a ∈ ownA r) : a ∈ owns P := List.mem_flatMap.mpr ⟨r, h, e⟩
theorem mem1 {α : Type} {x : α} {l : List α} (h : l = [x]) : x ∈ l := by rw [h]; exact List.mem_singleton.mpr rfl
theorem eq1 {α : Type} {x y : α} {l : List α} (h : l = [x]) (hy : y ∈ l) : y = x := by rw [h] at hy; exact List.mem_singleton.mp hy
theorem Rep.own_in (R : Rep F P H) (h : a ∈ owns P) : ∃ o, H a = some o := by
  obtain ⟨⟨sl, v⟩, hr, e⟩ := List.mem_flatMap.mp h
  have t := R.ok (sl, v) hr
  cases sl with
  | v s =>
    cases s with
    | tr d => exact absurd (show a ∈ ([] : List Addr) from e) List.not_mem_nil
    | ol l =>
      obtain ⟨c, vs, h1, h2, _⟩ := t
      cases h1
      rw [List.mem_singleton.mp (show a ∈ [c] from e)]
      exact ⟨_, h2⟩
    | od l =>
      obtain ⟨c, vs, h1, h2, _⟩ := t
      cases h1
      rw [List.mem_singleton.mp (show a ∈ [c] from e)]
      exact ⟨_, h2⟩
    | ow o =>
      obtain ⟨x, h1, h2⟩ := t
      obtain ⟨u, hu, _⟩ := OwOk.there o x h2 a e
      exact ⟨u, hu⟩
  | bw l =>
    obtain ⟨c, vs, h1, h2, _⟩ := t
    cases h1
    rw [List.mem_singleton.mp (show a ∈ [c] from e)]
    exact ⟨_, h2⟩
  | bo o =>
    obtain ⟨x, h1, h2⟩ := t
    obtain ⟨u, hu, _⟩ := OwOk.there o x h2 a e
    exact ⟨u, hu⟩
  | un => exact absurd (show a ∈ ([] : List Addr) from e) List.not_mem_nil
  | pn _ => exact absurd (show a ∈ ([] : List Addr) from e) List.not_mem_nil
theorem Rep.not_own (R : Rep F P H) (hp : H p = none) : p ∉ owns P := fun z => by
  obtain ⟨o, ho⟩ := R.own_in z
  rw [hp] at ho
  cases ho
theorem Rep.grow (R : Rep F P H) (e : Same H H') : Rep F P H' := by
  refine ⟨R.nd, fun r hr => (R.ok r hr).mono (.of (hid_same (ext_same e))) fun a ha => ?_, R.fr, fun b o h1 h2 => e _ _ (R.kp b o h1 h2), fun b hb => ?_⟩
  · obtain ⟨o, ho⟩ := R.own_in (own_mem hr ha)
    rw [ho, e _ _ ho]
  · obtain ⟨o, ho⟩ := R.lv b hb
    exact ⟨o, e _ _ ho⟩
theorem Rep.cons0 (R : Rep F P H) (ho : ownA r = []) (h : RowOk (owns P) (F.vis H) H r) : Rep F (r :: P) H := by
  refine ⟨by rw [owns_none ho]; exact R.nd, fun x hx => ?_, fun x hx a ha => ?_, R.kp, R.lv⟩
  · rw [owns_none ho]
    rcases List.mem_cons.mp hx with rfl | hx
    · exact h
    · exact R.ok x hx
  · rcases List.mem_cons.mp hx with rfl | hx
    · rw [ho] at ha; cases ha
    · exact R.fr x hx a ha
theorem Rep.add (R : Rep F P H) (h : IsX (hid (owns P) (F.vis H)) d v) : Rep F ((.v (.tr d), some v) :: P) H := R.cons0 rfl ⟨v, rfl, h⟩
theorem Rep.addU (R : Rep F P H) : Rep F ((.un, x) :: P) H := R.cons0 rfl trivial
theorem Rep.head (R : Rep F ((.v s, x) :: P) H) : ∃ v, x = some v ∧ IsX (hid (owns P) (F.vis H)) s.d v := by
  have h := R.ok _ List.mem_cons_self
  have hs : ∀ a ∈ owns P, a ∈ owns ((.v s, x) :: P) := fun a ha => by rw [owns_cons]; exact List.mem_append_right _ ha
  have hn := R.nd
  have hf := R.fr _ List.mem_cons_self
  match s, h with
  | .tr d, ⟨v, h1, h2⟩ => exact ⟨v, h1, h2.to (hid_less hs)⟩
  | .ol l, ⟨a, vs, h1, h2, h3⟩ =>
    subst h1
    have q : F.H0 a = none := hf a (List.mem_singleton.mpr rfl)
    rw [owns_some (a := a) rfl] at hn
    exact ⟨.ref a, rfl, IsX.of_lst (vs := vs) (hid_some.mpr ⟨(List.nodup_cons.mp hn).1, (ext_new q).trans (by rw [h2]; rfl)⟩) (h3.imp fun _ _ z => z.to (hid_less hs))⟩
  | .od l, ⟨a, vs, h1, h2, h3⟩ =>
    subst h1
    have q : F.H0 a = none := hf a (List.mem_singleton.mpr rfl)
    rw [owns_some (a := a) rfl] at hn
    exact ⟨.ref a, rfl, IsX.of_dic (vs := vs) (.inl (hid_some.mpr ⟨(List.nodup_cons.mp hn).1, (ext_new q).trans (by rw [h2]; rfl)⟩)) (h3.imp fun _ _ z => z.to (hid_less hs))⟩
  | .ow o, ⟨v, h1, h2⟩ =>
    refine ⟨v, h1, OwOk.tree (.of (hid_less hs)) o v (fun b hb => ?_) h2⟩
    have q : F.H0 b = none := hf b hb
    obtain ⟨u, hu, hn'⟩ := OwOk.there o v h2 b hb
    rw [owns_cons] at hn
    have hb2 : b ∉ owns P := fun z => (List.nodup_append.mp hn).2.2 b hb b z rfl
    rw [hu]
    refine hid_some.mpr ⟨hb2, (ext_new q).trans ?_⟩
    rw [hu]
    unfold nf
    split
    · rename_i e; cases e; exact absurd rfl (hn' _ _)
    · rfl
theorem Rep.frz (R : Rep F ((.v s, x) :: P) H) : Rep F ((.v (.tr s.d), x) :: P) H := by
  obtain ⟨v, rfl, h⟩ := R.head
  exact R.tail.add h
theorem hid_new {O : List Addr} {Hs H0 : Hp} (hp : H p = none) {o : HO} (hq : H0 p = none) : Same (hid O (ext Hs H0 H)) (hid (p :: O) (ext Hs H0 (upd H p o))) := fun b u hb => by
  have hb' := hid_some.mp hb
  have hbp : b ≠ p := fun z => by have := nf_some ((ext_new hq).symm.trans (z ▸ hb'.2)); rw [hp] at this; cases this
  refine hid_some.mpr ⟨fun z => (List.mem_cons.mp z).elim hbp hb'.1, ?_⟩
  cases q : H0 b with
  | none => exact (ext_new q).trans ((congrArg nf (upd_ne hbp)).trans ((ext_new q).symm.trans hb'.2))
  | some w => exact (ext_old q).trans ((ext_old q).symm.trans hb'.2)
theorem Rep.new_own (R : Rep F P H) (hp : H p = none) {o : HO} (hA : ownA (.v s, some (.ref p)) = [p]) (h : RowOk (p :: owns P) (F.vis (upd H p o)) (upd H p o) (.v s, some (.ref p))) : Rep F ((.v s, some (.ref p)) :: P) (upd H p o) := by
  have hno := R.not_own hp
  have hq := R.fresh hp
  refine ⟨by rw [owns_some hA]; exact List.nodup_cons.mpr ⟨hno, R.nd⟩, fun r hr => ?_, fun r hr a ha => ?_, fun b o h1 h2 => ?_, fun b hb => ?_⟩
  · rw [owns_some hA]
    rcases List.mem_cons.mp hr with rfl | hr
    · exact h
    · exact (R.ok r hr).mono (.of (hid_new hp hq)) fun a ha => upd_ne fun z => hno (z ▸ own_mem hr ha)
  · rcases List.mem_cons.mp hr with rfl | hr
    · cases eq1 hA ha; exact hq
    · exact R.fr r hr a ha
  · have := R.kp b o h1 h2
    rw [upd_ne fun z => by rw [z, hp] at this; cases this]
    exact this
  · obtain ⟨u, hu⟩ := R.lv b hb
    exact ⟨u, by rw [upd_ne fun z => by rw [z, hp] at hu; cases hu]; exact hu⟩
theorem Rep.newL (R : Rep F P H) (hp : H p = none) (h : All2 (IsX (hid (owns P) (F.vis H))) l vs) : Rep F ((.v (.ol l), some (.ref p)) :: P) (upd H p (.lst vs)) :=
  R.new_own hp rfl ⟨p, vs, rfl, upd_same, h.imp fun _ _ z => z.to (hid_new hp (R.fresh hp))⟩
theorem Rep.newD (R : Rep F P H) (hp : H p = none) (h : All2 (KvX (hid (owns P) (F.vis H))) k ws) : Rep F ((.v (.od k), some (.ref p)) :: P) (upd H p (.dK ws)) :=
  R.new_own hp rfl ⟨p, ws, rfl, upd_same, h.imp fun _ _ z => z.to (hid_new hp (R.fresh hp))⟩
theorem Rep.newT (R : Rep F P H) (hp : H p = none) (h : All2 (IsX (hid (owns P) (F.vis H))) l vs) : Rep F ((.v (.tr (.tup l)), some (.ref p)) :: P) (upd H p (.tup vs)) := by
  have e : Same H (upd H p (.tup vs)) := same_new hp _
  exact (R.grow e).add (IsX.of_tup (vs := vs) (hid_some.mpr ⟨R.not_own hp, (ext_new (R.fresh hp)).trans (by rw [upd_same]; rfl)⟩) (h.imp fun _ _ z => z.to (hid_same (ext_same e))))
theorem hid_put {O : List Addr} {o : HO} {Hs H0 : Hp} : Same (hid (a :: O) (ext Hs H0 H)) (hid (a :: O) (ext Hs H0 (upd H a o))) := fun b u hb => by
  have hb' := hid_some.mp hb
  have hba : b ≠ a := fun z => hb'.1 (by rw [z]; exact List.mem_cons_self)
  refine hid_some.mpr ⟨hb'.1, ?_⟩
  cases q : H0 b with
  | none => exact (ext_new q).trans ((congrArg nf (upd_ne hba)).trans ((ext_new q).symm.trans hb'.2))
  | some w => exact (ext_old q).trans ((ext_old q).symm.trans hb'.2)
theorem Rep.put {o : HO} (R : Rep F (r :: P) H) (hA : ownA r = [a]) (hA' : ownA r' = [a]) (hF : FrOk F r a → FrOk F r' a) (h : RowOk (a :: owns P) (F.vis (upd H a o)) (upd H a o) r') : Rep F (r' :: P) (upd H a o) := by
  have hn := R.nd
  rw [owns_some hA] at hn
  have hna := (List.nodup_cons.mp hn).1
  have R1 := R.ok
  rw [owns_some hA] at R1
  have hfr := R.fr r List.mem_cons_self a (mem1 hA)
  refine ⟨by rw [owns_some hA']; exact hn, fun x hx => ?_, fun x hx b hb => ?_, fun b u h1 h2 => ?_, fun b hb => ?_⟩
  · rw [owns_some hA']
    rcases List.mem_cons.mp hx with rfl | hx
    · exact h
    · exact (R1 x (List.mem_cons_of_mem _ hx)).mono (.of hid_put) fun b hb => upd_ne fun z => hna (z ▸ own_mem hx hb)
  · rcases List.mem_cons.mp hx with rfl | hx
    · cases eq1 hA' hb; exact hF hfr
    · exact R.fr x (List.mem_cons_of_mem _ hx) b hb
  · have hb := R.kp b u h1 h2
    by_cases z : b = a
    · subst z
      rcases hfr.or with hfr | hfr
      · exact absurd hfr h2
      · rw [hfr] at h1; cases h1
    · rw [upd_ne z]; exact hb
  · by_cases z : b = a
    · subst z; exact ⟨o, upd_same⟩
    · rw [upd_ne z]; exact R.lv b hb
theorem Rep.atL (R : Rep F ((.v (.ol l), x) :: P) H) : ∃ a vs, x = some (.ref a) ∧ H a = some (.lst vs) ∧ All2 (IsX (hid (a :: owns P) (F.vis H))) l vs := by
  obtain ⟨a, vs, h1, h2, h3⟩ := R.ok _ List.mem_cons_self
  subst h1
  exact ⟨a, vs, rfl, h2, by rw [← owns_some (a := a) (r := (.v (.ol l), some (.ref a))) rfl]; exact h3⟩
theorem Rep.atB (R : Rep F ((.bw l, x) :: P) H) : ∃ a vs, x = some (.ref a) ∧ H a = some (.lst vs) ∧ All2 (IsX (hid (a :: owns P) (F.vis H))) l vs := by
  obtain ⟨a, vs, h1, h2, h3⟩ := R.ok _ List.mem_cons_self
  subst h1
  exact ⟨a, vs, rfl, h2, by rw [← owns_some (a := a) (r := (.bw l, some (.ref a))) rfl]; exact h3⟩
theorem Rep.atD (R : Rep F ((.v (.od k), x) :: P) H) : ∃ a ws, x = some (.ref a) ∧ H a = some (.dK ws) ∧ All2 (KvX (hid (a :: owns P) (F.vis H))) k ws := by
  obtain ⟨a, vs, h1, h2, h3⟩ := R.ok _ List.mem_cons_self
  subst h1
  exact ⟨a, vs, rfl, h2, by rw [← owns_some (a := a) (r := (.v (.od k), some (.ref a))) rfl]; exact h3⟩
theorem Rep.atT (R : Rep F ((.v (.tr d), x) :: P) H) : ∃ v, x = some v ∧ IsX (hid (owns P) (F.vis H)) d v := R.head
end
section
variable {ρ : List Sl} {σ : St} {i : Nat} {s s' : Sl} {v v' : Option V}
theorem zip_at (h1 : ρ[i]? = some s) (h2 : σ[i]? = some v) : (ρ.zip σ)[i]? = some (s, v) := (List.getElem?_zip_eq_some (z := (s, v))).mpr ⟨h1, h2⟩
theorem pullN {α : Type} : ∀ (l : List α) (i : Nat) (h : i < l.length), l.Perm (l[i] :: l.eraseIdx i)
  | x :: l, 0, _ => .refl _
  | x :: l, i + 1, h => ((pullN l i (by simpa using h)).cons x).trans (.swap _ _ _)
theorem pull {α : Type} {l : List α} {x : α} {i : Nat} (h : l[i]? = some x) : l.Perm (x :: l.eraseIdx i) := by
  obtain ⟨hi, e⟩ := List.getElem?_eq_some_iff.mp h
  subst e
  exact pullN l i hi
theorem zip_pull (h1 : ρ[i]? = some s) (h2 : σ[i]? = some v) : (ρ.zip σ).Perm ((s, v) :: (ρ.zip σ).eraseIdx i) := pull (zip_at h1 h2)
theorem zip_set : ∀ {ρ : List Sl} {σ : St} (i : Nat), (ρ.set i s).zip (σ.set i v) = (ρ.zip σ).set i (s, v)
  | [], _, _ => by simp
  | _ :: _, [], _ => by simp
  | a :: ρ, b :: σ, 0 => rfl
  | a :: ρ, b :: σ, i + 1 => by simp only [List.set_cons_succ, List.zip_cons_cons]; rw [zip_set i]
theorem zip_put (hl : ρ.length = σ.length) (h : i < ρ.length) : ((ρ.set i s).zip (σ.set i v)).Perm ((s, v) :: (ρ.zip σ).eraseIdx i) := by
  rw [zip_set]
  have hi : i < (ρ.zip σ).length := by rw [List.length_zip]; omega
  have := pull (l := (ρ.zip σ).set i (s, v)) (x := (s, v)) (i := i) (by rw [List.getElem?_set_self hi])
  rwa [List.eraseIdx_set_eq] at this
theorem set_same (h : σ[i]? = some v) : σ.set i v = σ := by
  obtain ⟨hi, e⟩ := List.getElem?_eq_some_iff.mp h
  subst e
  exact List.set_getElem_self hi
theorem zip_put' (hl : ρ.length = σ.length) (h : i < ρ.length) (h2 : σ[i]? = some v) : ((ρ.set i s).zip σ).Perm ((s, v) :: (ρ.zip σ).eraseIdx i) := by
  have := zip_put (s := s) (v := v) hl h
  rwa [set_same h2] at this
end
end Lf

set_option Elab.async false
set_option linter.all false
set_option maxRecDepth 100000
namespace L2
open PySem
theorem PE.weak {X : Cx} {e : Expr} {t u : TE} (h : PE X e t) (w : ∀ σ H Q, u σ H Q → t σ H Q) : PE X e u := fun pins s σ H Q I q => h pins s σ H Q I (w σ H Q q)
theorem PT.weak {X : Cx} {e : Expr} {t u : TT} (h : PT X e t) (w : ∀ σ H Q, u σ H Q → t σ H Q) : PT X e u := fun pins s σ H Q I q => h pins s σ H Q I (w σ H Q q)
theorem PW.weak {X : Cx} {e : Expr} {t u : TT} (h : PW X e t) (w : ∀ σ H Q, u σ H Q → t σ H Q) : PW X e u := fun wh pins s σ H Q I q => h wh pins s σ H Q I (w σ H Q q)
theorem PA.weak {X : Cx} {e : List Expr} {t u : TA} (h : PA X e t) (w : ∀ σ H Q, u σ H Q → t σ H Q) : PA X e u := fun pos pins s σ H Q I q => h pos pins s σ H Q I (w σ H Q q)
end L2
namespace Lf
open PySem L2
abbrev En := List Sl
abbrev XT := En → (Sv → En → Prop) → Prop
abbrev XC := En → (Bool → En → Prop) → Prop
abbrev XA := En → (List Sv → En → Prop) → Prop
structure EOk (F : Fm) (ρ : En) (σ : St) (fr : List Rw) (H : Hp) : Prop where
  len : ρ.length = σ.length
  rep : Rep F (ρ.zip σ ++ fr) H
def tX (F : Fm) (t : XT) : TE := fun σ H Q => ∃ ρ fr Qx, EOk F ρ σ fr H ∧ t ρ Qx ∧ ∀ v s H' ρ', EOk F ρ' σ ((.v s, some v) :: fr) H' → Qx s ρ' → Q v H'
def tXc (F : Fm) (t : XC) : TT := fun σ H Q => ∃ ρ fr Qx, EOk F ρ σ fr H ∧ t ρ Qx ∧ ∀ b H' ρ', EOk F ρ' σ fr H' → Qx b ρ' → Q b H'
def tmps (ss : List Sv) (vs : List V) : List Rw := (ss.zip vs).map fun p => (.v p.1, some p.2)
def tXa (F : Fm) (t : XA) : TA := fun σ H Q => ∃ ρ fr Qx, EOk F ρ σ fr H ∧ t ρ Qx ∧ ∀ vs ss H' ρ', ss.length = vs.length → EOk F ρ' σ (tmps ss vs ++ fr) H' → Qx ss ρ' → Q vs H'
abbrev ExT := Value → Prop
abbrev noEx : ExT := fun _ => False
def Kept (F : Fm) (H : Hp) : Prop := ∀ b o, F.H0 b = some o → b ∉ F.B → H b = some o
def Air (nw : Addr → Prop) (h' : Heap) (H : Hp) (ea : Addr) (cls : Value) : Prop := nw ea ∧ H ea = none ∧ ∃ oe vs, h'.get? ea = some oe ∧ oe.cls = cls ∧ oe.data = .fields vs ∧ oe.dict = none ∧ 1 < vs.size ∧
  (vs[1]? = some .none ∨ ∃ T oT ts, vs[1]? = some (.ref T) ∧ T ≠ ea ∧ nw T ∧ H T = none ∧ h'.get? T = some oT ∧ oT.data = .fields ts ∧ 3 < ts.size)
def CXe (P : Program) (w : World) : CXT := fun outer H s E e s' => ∃ (ea : Addr) (cls : Value) (H' : Hp), e = .ref ea ∧ s'.os = s.os ∧ PyProof.Rows.AllBare s'.gens ∧ Un (frs outer) [] H H' s.heap s'.heap ∧ HOk P w H' s'.heap ∧ Air (fun b => s.heap.get? b = none) s'.heap H' ea cls ∧ E cls none H'
abbrev NwX (X : Cx) (pins : List (Addr × Obj)) : Addr → Prop := fun b => (X.s₀.heap.get? b = none ∨ b ∈ X.ex) ∧ ∀ p ∈ X.pn ++ pins, p.1 ≠ b
class OkF (X : Cx) (Ex : ExT) (F : Fm) : Prop where
  pass1 : ∀ (pins : List (Addr × Obj)) (σ : St) (H : Hp) (s' : Shared) (ea : Addr) (cls : Value), Inv X pins σ H s' → Air (NwX X pins) s'.heap H ea cls → Ex cls → Kept F H → X.xe (.ref ea) s'
instance {X : Cx} {F : Fm} : OkF X noEx F := ⟨fun _ _ _ _ _ _ _ _ h _ => h.elim⟩
def XE (X : Cx) (Ex : ExT) (e : Expr) (t : XT) : Prop := ∀ F, [OkF X Ex F] → PE X e (tX F t)
def XTe (X : Cx) (Ex : ExT) (e : Expr) (t : XC) : Prop := ∀ F, [OkF X Ex F] → PT X e (tXc F t)
def XW (X : Cx) (Ex : ExT) (e : Expr) (t : XC) : Prop := ∀ F, [OkF X Ex F] → PW X e (tXc F t)
def XAs (X : Cx) (Ex : ExT) (es : List Expr) (t : XA) : Prop := ∀ F, [OkF X Ex F] → PA X es (tXa F t)
section
variable {F : Fm} {ρ ρ' : En} {σ : St} {fr P : List Rw} {H H' : Hp} {s : Sv} {v x y : V} {a b : Dx}
theorem EOk.grow (E : EOk F ρ σ fr H) (e : Same H H') : EOk F ρ σ fr H' := ⟨E.len, E.rep.grow e⟩
theorem mid {α : Type} {x : α} {A B : List α} : (A ++ x :: B).Perm (x :: (A ++ B)) := List.perm_middle
theorem EOk.front {r : Rw} (E : EOk F ρ σ (r :: fr) H) : Rep F (r :: (ρ.zip σ ++ fr)) H := E.rep.perm mid
theorem EOk.back {r : Rw} (hl : ρ.length = σ.length) (R : Rep F (r :: (ρ.zip σ ++ fr)) H) : EOk F ρ σ (r :: fr) H := ⟨hl, R.perm mid.symm⟩
theorem EOk.drop {r : Rw} (E : EOk F ρ σ (r :: fr) H) : EOk F ρ σ fr H := ⟨E.len, E.front.tail⟩
theorem EOk.one (E : EOk F ρ σ ((.v s, some v) :: fr) H) : Rep F (ρ.zip σ ++ fr) H ∧ IsX (hid (owns (ρ.zip σ ++ fr)) (F.vis H)) s.d v := by
  obtain ⟨v', e, h⟩ := E.front.head
  cases e
  exact ⟨E.front.tail, h⟩
theorem EOk.two {s1 s2 : Sv} {v1 v2 : V} (E : EOk F ρ σ ((.v s2, some v2) :: (.v s1, some v1) :: fr) H) :
    Rep F (ρ.zip σ ++ fr) H ∧ IsX (hid (owns (ρ.zip σ ++ fr)) (F.vis H)) s1.d v1 ∧ IsX (hid (owns (ρ.zip σ ++ fr)) (F.vis H)) s2.d v2 := by
  obtain ⟨R1, h1⟩ := E.drop.one
  obtain ⟨R2, h2⟩ := E.one
  refine ⟨R1, h1, h2.to (hid_less fun c hc => ?_)⟩
  have : (owns ((.v s1, some v1) :: (ρ.zip σ ++ fr))).Perm (owns (ρ.zip σ ++ (.v s1, some v1) :: fr)) := mid.symm.flatMap_right _
  refine this.mem_iff.mp ?_
  rw [owns_cons]
  exact List.mem_append_right _ hc
end
def xVar (i : Nat) : XT := fun ρ Q => match ρ[i]? with
  | some (.v s) => Q (.tr s.d) (ρ.set i (.v (.tr s.d)))
  | _ => False
def xMove (i : Nat) : XT := fun ρ Q => match ρ[i]? with
  | some (.v s) => Q s (ρ.set i .un)
  | _ => False
theorem get_zip {ρ : En} {σ : St} {i : Nat} {s : Sl} (hl : ρ.length = σ.length) (h : ρ[i]? = some s) : ∃ v, σ[i]? = some v := by
  have := (List.getElem?_eq_some_iff.mp h).1
  exact ⟨_, List.getElem?_eq_getElem (by omega)⟩
section
variable {X : Cx} {Ex : ExT} {i : Nat} {x : Str} {pos : Pos}
theorem eok_slot {F : Fm} {ρ : En} {σ : St} {fr : List Rw} {H : Hp} {s : Sl} (E : EOk F ρ σ fr H) (h : ρ[i]? = some s) : ∃ v, σ[i]? = some v ∧ i < ρ.length ∧ Rep F ((s, v) :: ((ρ.zip σ).eraseIdx i ++ fr)) H := by
  obtain ⟨v, hv⟩ := get_zip E.len h
  exact ⟨v, hv, (List.getElem?_eq_some_iff.mp h).1, E.rep.perm ((zip_pull h hv).append_right fr)⟩
theorem eok_put {F : Fm} {ρ : En} {σ : St} {fr : List Rw} {H : Hp} {s : Sl} {v : Option V} (hl : ρ.length = σ.length) (hi : i < ρ.length) (hv : σ[i]? = some v) (R : Rep F ((s, v) :: ((ρ.zip σ).eraseIdx i ++ fr)) H) : EOk F (ρ.set i s) σ fr H :=
  ⟨by rw [List.length_set]; exact hl, R.perm ((zip_put' hl hi hv).append_right fr).symm⟩
theorem xe_var (h : PE X (.Name x pos) (tVar i)) : XE X Ex (.Name x pos) (xVar i) := fun F => h.weak fun σ H Q => by
  rintro ⟨ρ, fr, Qx, E, t, k⟩
  unfold xVar at t
  split at t
  · rename_i s hs
    obtain ⟨v, hv, hi, R⟩ := eok_slot E hs
    obtain ⟨w, rfl, hx⟩ := R.head
    refine ⟨w, hv, k w _ H _ ?_ t⟩
    have R2 := R.frz
    have R3 : Rep F ((.v (.tr s.d), some w) :: (.v (.tr s.d), some w) :: ((ρ.zip σ).eraseIdx i ++ fr)) H := R2.add hx
    exact EOk.back (by rw [List.length_set]; exact E.len) (R3.perm (((zip_put' E.len hi hv).append_right fr).symm.cons _))
  · exact t.elim
theorem xe_move (h : PE X (.Name x pos) (tVar i)) : XE X Ex (.Name x pos) (xMove i) := fun F => h.weak fun σ H Q => by
  rintro ⟨ρ, fr, Qx, E, t, k⟩
  unfold xMove at t
  split at t
  · rename_i s hs
    obtain ⟨v, hv, hi, R⟩ := eok_slot E hs
    obtain ⟨w, rfl, hx⟩ := R.head
    refine ⟨w, hv, k w _ H _ ?_ t⟩
    have R3 : Rep F ((.v s, some w) :: (.un, some w) :: ((ρ.zip σ).eraseIdx i ++ fr)) H := (R.addU (x := some w)).perm (.swap _ _ _)
    exact EOk.back (by rw [List.length_set]; exact E.len) (R3.perm (((zip_put' E.len hi hv).append_right fr).symm.cons _))
  · exact t.elim
end

def xC (d : Dx) : XT := fun ρ Q => Q (.tr d) ρ
theorem xe_c {X : Cx} {Ex : ExT} {e : Expr} {v : V} (h : PE X e (tC v)) (d : Dx) (hd : ∀ H, IsX H d v) : XE X Ex e (xC d) := fun F => h.weak fun σ H Q => by
  rintro ⟨ρ, fr, Qx, E, t, k⟩
  exact k v _ H ρ (EOk.back E.len (E.rep.add (hd _))) t
section
variable {X : Cx} {Ex : ExT}
theorem xe_int {i j pos} : XE X Ex (.Constant (.int i) j pos) (xC (.int i)) := xe_c pe_int _ fun _ => IsX.of_int _
theorem xe_bl {b j pos} : XE X Ex (.Constant (.bool b) j pos) (xC (.bl b)) := xe_c pe_bl _ fun _ => IsX.of_bl _
theorem xe_non {j pos} : XE X Ex (.Constant .none j pos) (xC .non) := xe_c pe_non _ fun _ => IsX.of_non
theorem xe_str {x j pos} : XE X Ex (.Constant (.str x) j pos) (xC (.str x)) := xe_c pe_str _ fun _ => IsX.of_str _
end
abbrev G2 := Dx → Dx → (Sv → Prop) → Prop
def OpX (r : R2) (g : G2) : Prop := ∀ (F : Fm) (P : List Rw) (H : Hp) (a b : Dx) (x y : V) (Q : VK) (Qx : Sv → Prop), Rep F P H → IsX (hid (owns P) (F.vis H)) a x → IsX (hid (owns P) (F.vis H)) b y → g a b Qx →
  (∀ v s H', Rep F ((.v s, some v) :: P) H' → Qx s → Q v H') → r x y H Q
def xOp (g : G2) (ta tb : XT) : XT := fun ρ Q => ta ρ fun a ρ1 => tb ρ1 fun b ρ2 => g a.d b.d fun s => Q s ρ2
theorem tOp_x {F : Fm} {r : R2} {g : G2} {ta tb : XT} (hx : OpX r g) : ∀ σ H Q, tX F (xOp g ta tb) σ H Q → tOp r (tX F ta) (tX F tb) σ H Q := by
  rintro σ H Q ⟨ρ, fr, Qx, E, t, k⟩
  refine ⟨ρ, fr, _, E, t, fun v s H' ρ' E' t' => ?_⟩
  refine ⟨ρ', _, _, E', t', fun w s2 H2 ρ2 E2 t2 => ?_⟩
  obtain ⟨R, h1, h2⟩ := E2.two
  exact hx F _ H2 s.d s2.d v w Q (fun z => Qx z ρ2) R h1 h2 t2 fun v' s' H' R' q => k v' s' H' ρ2 (EOk.back E2.len R') q
def xB (t : XT) : XC := fun ρ Q => t ρ fun s ρ' => match s with
  | .tr (.bl b) => Q b ρ'
  | _ => False
theorem tTest_x {F : Fm} {t : TE} {u : XT} (h : ∀ σ H Q, tX F u σ H Q → t σ H Q) : ∀ σ H Q, tXc F (xB u) σ H Q → tTest t σ H Q := by
  rintro σ H Q ⟨ρ, fr, Qx, E, t, k⟩
  refine h _ _ _ ⟨ρ, fr, _, E, t, fun v s H' ρ' E' q => ?_⟩
  split at q
  · rename_i b
    obtain ⟨_, hx⟩ := E'.one
    cases hx.bl_eq
    exact ⟨b, rfl, k b H' ρ' E'.drop q⟩
  · exact q.elim
section
variable {X : Cx} {Ex : ExT} {a b c e : Expr} {pos : Pos} {r r' : R2} {g g' : G2} {ta tb tc : XT}
theorem xe_op {op : Operator} (ho : OpR X (binaryOp op) r) (hx : OpX r g) (ha : XE X Ex a ta) (hb : XE X Ex b tb) : XE X Ex (.BinOp a op b pos) (xOp g ta tb) := fun F => (pe_op ho (ha F) (hb F)).weak (tOp_x hx)
theorem xe_cmp {op : CmpOp} (ho : OpR X (compareOp op) r) (hx : OpX r g) (ha : XE X Ex a ta) (hb : XE X Ex b tb) (hm : behindInMarks op b = false) : XE X Ex (.Compare a [op] [b] pos) (xOp g ta tb) := fun F => (pe_cmpR ho (ha F) (hb F) hm).weak (tOp_x hx)
theorem xt_cmp {op : CmpOp} (ho : OpR X (compareOp op) r) (hx : OpX r g) (ha : XE X Ex a ta) (hb : XE X Ex b tb) (hm : behindInMarks op b = false) : XTe X Ex (.Compare a [op] [b] pos) (xB (xOp g ta tb)) := fun F => (pt_cmpR ho (ha F) (hb F) hm).weak (tTest_x (tOp_x hx))
theorem xt_val {t : XT} (h : XE X Ex e t) (he : ∀ whole, isTrue e X.env whole = (do let v ← whole; standAt e.pos; holding [v] (truthy v)) := by intro _; rfl) : XTe X Ex e (xB t) := fun F => (pt_val (h F) he).weak (tTest_x fun _ _ _ z => z)
def xAnd (t u : XC) : XC := fun ρ Q => t ρ fun c ρ1 => if c = true then u ρ1 Q else Q false ρ1
def xOr (t u : XC) : XC := fun ρ Q => t ρ fun c ρ1 => if c = true then Q true ρ1 else u ρ1 Q
def xNot (t : XC) : XC := fun ρ Q => t ρ fun c ρ1 => Q (!c) ρ1
theorem xw_and1 {t : XC} (h : XTe X Ex a t) : XW X Ex (.BoolOp .And [a] pos) t := fun F => pw_and1 (h F)
theorem xw_or1 {t : XC} (h : XTe X Ex a t) : XW X Ex (.BoolOp .Or [a] pos) t := fun F => pw_or1 (h F)
theorem xw_and {t u : XC} {rest : List Expr} (h : XTe X Ex a t) (h' : XW X Ex (.BoolOp .And (b :: rest) pos) u) : XW X Ex (.BoolOp .And (a :: b :: rest) pos) (xAnd t u) := fun F => (pw_and (h F) (h' F)).weak fun σ H Q => by
  rintro ⟨ρ, fr, Qx, E, t, k⟩
  refine ⟨ρ, fr, _, E, t, fun c H' ρ' E' q => ?_⟩
  cases c with
  | true => exact ⟨ρ', fr, Qx, E', q, k⟩
  | false => exact k false H' ρ' E' q
theorem xw_or {t u : XC} {rest : List Expr} (h : XTe X Ex a t) (h' : XW X Ex (.BoolOp .Or (b :: rest) pos) u) : XW X Ex (.BoolOp .Or (a :: b :: rest) pos) (xOr t u) := fun F => (pw_or (h F) (h' F)).weak fun σ H Q => by
  rintro ⟨ρ, fr, Qx, E, t, k⟩
  refine ⟨ρ, fr, _, E, t, fun c H' ρ' E' q => ?_⟩
  cases c with
  | true => exact k true H' ρ' E' q
  | false => exact ⟨ρ', fr, Qx, E', q, k⟩
theorem xt_not {t : XC} (h : XTe X Ex a t) : XTe X Ex (.UnaryOp .Not a pos) (xNot t) := fun F => (pt_not (h F)).weak fun σ H Q => by
  rintro ⟨ρ, fr, Qx, E, t, k⟩
  exact ⟨ρ, fr, _, E, t, fun c H' ρ' E' q => k (!c) H' ρ' E' q⟩
theorem XW.pt {t : XC} (h : XW X Ex e t) : XTe X Ex e t := fun F => (h F).pt
def xAndV (t u : XT) : XT := fun ρ Q => xB t ρ fun c ρ1 => if c = true then u ρ1 Q else Q (.tr (.bl false)) ρ1
def xNotV (t : XT) : XT := fun ρ Q => xB t ρ fun c ρ1 => Q (.tr (.bl (!c))) ρ1
theorem xe_one {op} {t : XT} (h : XE X Ex a t) : XE X Ex (.BoolOp op [a] pos) t := fun F => pe_one (h F)
theorem xe_and {t u : XT} {rest : List Expr} (h : XE X Ex a t) (h' : XE X Ex (.BoolOp .And (b :: rest) pos) u) : XE X Ex (.BoolOp .And (a :: b :: rest) pos) (xAndV t u) := fun F => (pe_and (h F) (h' F)).weak fun σ H Q => by
  rintro ⟨ρ, fr, Qx, E, t, k⟩
  refine ⟨ρ, fr, _, E, t, fun v s H' ρ' E' q => ?_⟩
  split at q
  · rename_i c
    obtain ⟨_, hx⟩ := E'.one
    cases hx.bl_eq
    refine ⟨c, rfl, ?_⟩
    cases c with
    | true => exact ⟨ρ', fr, Qx, E'.drop, q, k⟩
    | false => exact k _ _ H' ρ' (EOk.back E'.len (E'.drop.rep.add (IsX.of_bl _))) q
  · exact q.elim
theorem xe_not {t : XT} (h : XE X Ex a t) : XE X Ex (.UnaryOp .Not a pos) (xNotV t) := fun F => (pe_not (h F)).weak fun σ H Q => by
  rintro ⟨ρ, fr, Qx, E, t, k⟩
  refine ⟨ρ, fr, _, E, t, fun v s H' ρ' E' q => ?_⟩
  split at q
  · rename_i c
    obtain ⟨_, hx⟩ := E'.one
    cases hx.bl_eq
    exact ⟨c, rfl, k _ _ H' ρ' (EOk.back E'.len (E'.drop.rep.add (IsX.of_bl _))) q⟩
  · exact q.elim
end
def xNil : XA := fun ρ Q => Q [] ρ
def xCons (t : XT) (u : XA) : XA := fun ρ Q => t ρ fun s ρ1 => u ρ1 fun ss ρ2 => Q (s :: ss) ρ2
section
variable {X : Cx} {Ex : ExT} {e : Expr} {es : List Expr} {t : XT} {u : XA} {pos : Pos}
theorem xa_nil : XAs X Ex [] xNil := fun F => (pa_nil (X := X)).weak fun σ H Q => by
  rintro ⟨ρ, fr, Qx, E, t, k⟩
  exact k [] [] H ρ rfl E t
theorem xa_cons (h : XE X Ex e t) (h' : XAs X Ex es u) (he : starEach (e :: es) X.env = (false, eval e X.env) :: starEach es X.env := by rfl) : XAs X Ex (e :: es) (xCons t u) := fun F => (pa_cons (h F) (h' F) he).weak fun σ H Q => by
  rintro ⟨ρ, fr, Qx, E, t, k⟩
  refine ⟨ρ, fr, _, E, t, fun v s H' ρ' E' q => ⟨ρ', _, _, E', q, fun vs ss H2 ρ2 hl E2 q2 => ?_⟩⟩
  refine k (v :: vs) (s :: ss) H2 ρ2 (by rw [List.length_cons, List.length_cons, hl]) ⟨E2.len, E2.rep.perm ?_⟩ q2
  exact List.Perm.append_left _ List.perm_middle
theorem EOk.many {F : Fm} {ρ : En} {σ : St} {fr : List Rw} {H : Hp} : ∀ {ss : List Sv} {vs : List V}, ss.length = vs.length → EOk F ρ σ (tmps ss vs ++ fr) H → Rep F (ρ.zip σ ++ fr) H ∧ All2 (IsX (hid (owns (ρ.zip σ ++ fr)) (F.vis H))) (ss.map Sv.d) vs
  | [], [], _, E => ⟨E.rep, rfl⟩
  | [], _ :: _, h, _ => by simp at h
  | _ :: _, [], h, _ => by simp at h
  | s :: ss, v :: vs, h, E => by
    have E' : EOk F ρ σ ((.v s, some v) :: (tmps ss vs ++ fr)) H := E
    obtain ⟨R, hs⟩ := EOk.many (ss := ss) (vs := vs) (by simpa using h) E'.drop
    obtain ⟨_, hx⟩ := E'.one
    refine ⟨R, v, vs, rfl, hx.to (hid_less fun c hc => ?_), hs⟩
    have : owns (ρ.zip σ ++ (tmps ss vs ++ fr)) = owns (ρ.zip σ) ++ (owns (tmps ss vs) ++ owns fr) := by unfold owns; rw [List.flatMap_append, List.flatMap_append]
    rw [this]
    have h2 : owns (ρ.zip σ ++ fr) = owns (ρ.zip σ) ++ owns fr := by unfold owns; rw [List.flatMap_append]
    rw [h2] at hc
    rcases List.mem_append.mp hc with hc | hc
    · exact List.mem_append_left _ hc
    · exact List.mem_append_right _ (List.mem_append_right _ hc)
def xTup (u : XA) : XT := fun ρ Q => u ρ fun ss ρ' => ss.length ≤ 1000000 ∧ Q (.tr (.tup (ss.map Sv.d))) ρ'
def xLst (u : XA) : XT := fun ρ Q => u ρ fun ss ρ' => ss.length ≤ 1000000 ∧ Q (.ol (ss.map Sv.d)) ρ'
theorem line1 : (1000000 : Nat) < sizeLine := by rw [sizeLine_eq]; decide
theorem xe_tup {j : Nat} (h : XAs X Ex es u) : XE X Ex (.Tuple es j pos) (xTup u) := fun F => (pe_tup (h F)).weak fun σ H Q => by
  rintro ⟨ρ, fr, Qx, E, t, k⟩
  refine ⟨ρ, fr, _, E, t, fun vs ss H2 ρ2 hl E2 q2 => ⟨by have := line1; omega, fun p hp => ?_⟩⟩
  obtain ⟨R, hs⟩ := E2.many hl
  exact k _ _ _ ρ2 (EOk.back E2.len (R.newT hp hs)) q2.2
theorem xe_lst (h : XAs X Ex es u) : XE X Ex (.List es pos) (xLst u) := fun F => (pe_lst (h F)).weak fun σ H Q => by
  rintro ⟨ρ, fr, Qx, E, t, k⟩
  refine ⟨ρ, fr, _, E, t, fun vs ss H2 ρ2 hl E2 q2 => ⟨by have := line1; omega, fun p hp => ?_⟩⟩
  obtain ⟨R, hs⟩ := E2.many hl
  exact k _ _ _ ρ2 (EOk.back E2.len (R.newL hp hs)) q2.2
end
end Lf

set_option Elab.async false
set_option linter.all false
set_option maxRecDepth 100000
set_option maxHeartbeats 4000000
namespace Lf
open PySem L2
def gI (f : Int → Int → Dx) : G2
  | .int i, .int j, Q => Q (.tr (f i j))
  | _, _, _ => False
def gIC (C : Int → Int → Prop) (f : Int → Int → Dx) : G2
  | .int i, .int j, Q => C i j ∧ Q (.tr (f i j))
  | _, _, _ => False
theorem opx_i {f : Int → Int → V} {fd : Int → Int → Dx} (h : ∀ H i j, IsX H (fd i j) (f i j)) : OpX (rI0 f) (gI fd) := by
  intro F P H a b x y Q Qx R ha hb g k
  unfold gI at g
  split at g
  · cases ha.int_eq; cases hb.int_eq
    exact ⟨_, _, rfl, rfl, k _ _ H (R.add (h _ _ _)) g⟩
  · exact g.elim
theorem opx_ic {C : Int → Int → Prop} {f : Int → Int → V} {fd : Int → Int → Dx} (h : ∀ H i j, IsX H (fd i j) (f i j)) : OpX (rI C f) (gIC C fd) := by
  intro F P H a b x y Q Qx R ha hb g k
  unfold gIC at g
  split at g
  · cases ha.int_eq; cases hb.int_eq
    exact ⟨_, _, rfl, rfl, g.1, k _ _ H (R.add (h _ _ _)) g.2⟩
  · exact g.elim
abbrev subX : G2 := gI fun i j => .int (i - j)
abbrev fdivX : G2 := gIC CDivB fun i j => .int (i / j)
abbrev modX : G2 := gIC (fun _ j => 0 < j) fun i j => .int (i % j)
abbrev powX : G2 := gIC CPow fun i j => .int (i ^ j.toNat)
abbrev ltX : G2 := gI fun i j => .bl (decide (i < j))
abbrev leX : G2 := gI fun i j => .bl (decide (i ≤ j))
abbrev gtX : G2 := gI fun i j => .bl (decide (j < i))
abbrev geX : G2 := gI fun i j => .bl (decide (j ≤ i))
theorem oi {f : Int → Int → Int} : ∀ H i j, IsX H (.int (f i j)) (.int (f i j)) := fun _ _ _ => IsX.of_int _
theorem ob {f : Int → Int → Bool} : ∀ H i j, IsX H (.bl (f i j)) (.bl (f i j)) := fun _ _ _ => IsX.of_bl _
def addX : G2
  | .int i, .int j, Q => Q (.tr (.int (i + j)))
  | .str i, .str j, Q => i.length + j.length ≤ 1000000 ∧ Q (.tr (.str (i ++ j)))
  | .lst l, .lst m, Q => l.length + m.length ≤ 1000000 ∧ Q (.ol (l ++ m))
  | _, _, _ => False
def mulX : G2
  | .int i, .int j, Q => CMulB i j ∧ Q (.tr (.int (i * j)))
  | .lst l, .int j, Q => (j ≤ 1000000 ∧ -1000000 ≤ j ∧ l.length * j.toNat ≤ 1000000) ∧ Q (.ol (List.replicate j.toNat l).flatten)
  | .str z, .int j, Q => (z.length ≤ 1000 ∧ 0 ≤ j ∧ j ≤ 1000) ∧ Q (.tr (.str (Txt.mul z j)))
  | _, _, _ => False
section
variable {X : Cx} {Ex : ExT} {a b e : Expr} {pos : Pos} {ta tb : XT}
theorem xe_add (ha : XE X Ex a ta) (hb : XE X Ex b tb) : XE X Ex (.BinOp a .Add b pos) (xOp addX ta tb) := xe_op (op_add.or (op_add_str.or op_cat)) (by
  intro F P H a b x y Q Qx R ha hb g k
  unfold addX at g
  split at g
  · cases ha.int_eq; cases hb.int_eq
    exact .inl ⟨_, _, rfl, rfl, k _ _ H (R.add (IsX.of_int _)) g⟩
  · cases ha.str_eq; cases hb.str_eq
    exact .inr (.inl ⟨_, _, rfl, rfl, by have := line1; omega, k _ _ H (R.add (IsX.of_str _)) g.2⟩)
  · obtain ⟨p, vs, rfl, h1, h2⟩ := ha.lst_eq
    obtain ⟨q, ws, rfl, h3, h4⟩ := hb.lst_eq
    refine .inr (.inr ⟨p, q, vs, ws, rfl, rfl, R.hv _ _ h1, R.hv _ _ h3, by rw [h2.len, h4.len]; have := line1; omega, fun l hl => k _ _ _ (R.newL hl (All2.app h4 h2)) g.2⟩)
  · exact g.elim) ha hb
theorem all2_flat {α β : Type} {g : α → β → Prop} {l : List α} {m : List β} (h : All2 g l m) : ∀ n, All2 g (List.replicate n l).flatten (List.replicate n m).flatten
  | 0 => rfl
  | n + 1 => by rw [List.replicate_succ, List.replicate_succ, List.flatten_cons, List.flatten_cons]; exact All2.app (all2_flat h n) h
theorem xe_mul (ha : XE X Ex a ta) (hb : XE X Ex b tb) : XE X Ex (.BinOp a .Mult b pos) (xOp mulX ta tb) := xe_op (op_mulB.or (op_rep.or op_mul_str)) (by
  intro F P H a b x y Q Qx R ha hb g k
  unfold mulX at g
  split at g
  · cases ha.int_eq; cases hb.int_eq
    exact .inl ⟨_, _, rfl, rfl, g.1, k _ _ H (R.add (IsX.of_int _)) g.2⟩
  · obtain ⟨p, vs, rfl, h1, h2⟩ := ha.lst_eq
    cases hb.int_eq
    obtain ⟨⟨g1, g2, g3⟩, g4⟩ := g
    refine .inr (.inl ⟨p, _, vs, rfl, rfl, R.hv _ _ h1, by omega, by omega, by rw [h2.len]; have := line1; omega, fun l hl => k _ _ _ (R.newL hl (all2_flat h2 _)) g4⟩)
  · cases ha.str_eq; cases hb.int_eq
    exact .inr (.inr ⟨_, _, rfl, rfl, g.1.1, g.1.2.1, g.1.2.2, k _ _ H (R.add (IsX.of_str _)) g.2⟩)
  · exact g.elim) ha hb
theorem xe_sub (ha : XE X Ex a ta) (hb : XE X Ex b tb) : XE X Ex (.BinOp a .Sub b pos) (xOp subX ta tb) := xe_op op_sub (opx_i oi) ha hb
theorem xe_fdiv (ha : XE X Ex a ta) (hb : XE X Ex b tb) : XE X Ex (.BinOp a .FloorDiv b pos) (xOp fdivX ta tb) := xe_op op_fdivB (opx_ic oi) ha hb
theorem xe_mod (ha : XE X Ex a ta) (hb : XE X Ex b tb) : XE X Ex (.BinOp a .Mod b pos) (xOp modX ta tb) := xe_op op_mod (opx_ic oi) ha hb
theorem xe_pow (ha : XE X Ex a ta) (hb : XE X Ex b tb) : XE X Ex (.BinOp a .Pow b pos) (xOp powX ta tb) := xe_op op_pow (opx_ic oi) ha hb
end
theorem ox_lt : OpX (rI0 fun i j => .bl (decide (i < j))) ltX := opx_i ob
theorem ox_le : OpX (rI0 fun i j => .bl (decide (i ≤ j))) leX := opx_i ob
theorem ox_gt : OpX (rI0 fun i j => .bl (decide (j < i))) gtX := opx_i ob
theorem ox_ge : OpX (rI0 fun i j => .bl (decide (j ≤ i))) geX := opx_i ob
def eqS : Dx → Dx → Option Bool
  | .int i, .int j => some (decide (i = j))
  | .str i, .str j => some (decide (i = j))
  | .bl i, .bl j => some (decide (i = j))
  | .non, .non => some true
  | .non, .int _ => some false | .int _, .non => some false | .non, .bl _ => some false | .bl _, .non => some false | .non, .str _ => some false | .str _, .non => some false
  | .int _, .str _ => some false | .str _, .int _ => some false | .bl _, .str _ => some false | .str _, .bl _ => some false
  | .lst l, .lst [] => some l.isEmpty
  | _, _ => none
def eqX : G2 := fun a b Q => match eqS a b with
  | some c => Q (.tr (.bl c))
  | none => False
def neX : G2 := fun a b Q => match eqS a b with
  | some c => Q (.tr (.bl (!c)))
  | none => False
def scV : Dx → Option V
  | .int i => some (.int i)
  | .str i => some (.str i)
  | .bl i => some (.bl i)
  | .non => some .non
  | _ => none
theorem scV_is {H : Hp} {d : Dx} {x v : V} (h : IsX H d x) (e : scV d = some v) : x = v := by
  cases d <;> simp only [scV, Option.some.injEq] at e <;> first | (subst e; first | exact h.int_eq | exact h.str_eq | exact h.bl_eq | exact h.non_eq) | cases e
theorem eqS_scal {a b : Dx} {c : Bool} (h : eqS a b = some c) : (∃ l, a = .lst l ∧ b = .lst [] ∧ c = l.isEmpty) ∨ ∃ x y, scV a = some x ∧ scV b = some y ∧ scal x y = true ∧ decide (x = y) = c := by
  unfold eqS at h
  split at h <;> (try simp only [Option.some.injEq] at h) <;> first
    | (subst h; exact .inr ⟨_, _, rfl, rfl, rfl, by simp⟩)
    | (subst h; exact .inl ⟨_, rfl, rfl, rfl⟩)
    | cases h
section
variable {K : PySem.W.Frag}
def rEqN (K : PySem.W.Frag) (n : Bool) : R2 := fun x y H Q => ∃ p b xs, x = .ref p ∧ y = .ref b ∧ SqL K H p xs ∧ SqL K H b [] ∧ Q (.bl (if n then !xs.isEmpty else xs.isEmpty)) H
theorem ox_eq : OpX (fun x y H Q => rEq x y H Q ∨ rEqN K false x y H Q) eqX := by
  intro F P H a b x y Q Qx R ha hb g k
  unfold eqX at g
  split at g
  · rename_i c hc
    rcases eqS_scal hc with ⟨l, rfl, rfl, rfl⟩ | ⟨u, w, h1, h2, h3, h4⟩
    · obtain ⟨p, vs, rfl, q1, q2⟩ := ha.lst_eq
      obtain ⟨p', vs', rfl, q3, q4⟩ := hb.lst_eq
      cases (show vs' = [] from q4)
      refine .inr ⟨p, p', vs, rfl, rfl, SqL.of (R.hv _ _ q1), SqL.of (R.hv _ _ q3), k _ (.tr (.bl l.isEmpty)) H (R.add ?_) g⟩
      have : vs.isEmpty = l.isEmpty := by
        have := q2.len
        cases vs <;> cases l <;> simp at this ⊢
      simp only [IsX, this]; rfl
    · cases scV_is ha h1; cases scV_is hb h2
      exact .inl ⟨h3, k _ _ H (R.add (by rw [h4]; exact IsX.of_bl _)) g⟩
  · exact g.elim
theorem ox_ne : OpX (fun x y H Q => rNe x y H Q ∨ rEqN K true x y H Q) neX := by
  intro F P H a b x y Q Qx R ha hb g k
  unfold neX at g
  split at g
  · rename_i c hc
    rcases eqS_scal hc with ⟨l, rfl, rfl, rfl⟩ | ⟨u, w, h1, h2, h3, h4⟩
    · obtain ⟨p, vs, rfl, q1, q2⟩ := ha.lst_eq
      obtain ⟨p', vs', rfl, q3, q4⟩ := hb.lst_eq
      cases (show vs' = [] from q4)
      refine .inr ⟨p, p', vs, rfl, rfl, SqL.of (R.hv _ _ q1), SqL.of (R.hv _ _ q3), k _ (.tr (.bl (!l.isEmpty))) H (R.add ?_) g⟩
      have : vs.isEmpty = l.isEmpty := by
        have := q2.len
        cases vs <;> cases l <;> simp at this ⊢
      simp only [IsX, this]; rfl
    · cases scV_is ha h1; cases scV_is hb h2
      exact .inl ⟨h3, k _ _ H (R.add (by rw [h4]; exact IsX.of_bl _)) g⟩
  · exact g.elim
end
section
variable {X : Cx} {Ex : ExT} (K : PySem.W.Frag) (h : X.K = K)
theorem op_eqA (hu : X.A.units < cLine) (h : X.K = K := by rfl) : OpR X (compareOp .Eq) (fun x y H Q => rEq x y H Q ∨ rEqN K false x y H Q) := by subst h; exact op_eq.or (op_eqNil hu)
theorem op_neA (hu : X.A.units < cLine) (h : X.K = K := by rfl) : OpR X (compareOp .NotEq) (fun x y H Q => rNe x y H Q ∨ rEqN K true x y H Q) := by subst h; exact op_ne.or (op_neNil hu)
end
def isNX (neg : Bool) : G2
  | .non, .non, Q => Q (.tr (.bl !neg))
  | _, .non, Q => Q (.tr (.bl neg))
  | _, _, _ => False
theorem isX_ne {H : Hp} {a : Dx} {x : V} (h : IsX H a x) (ha : a ≠ .non) : ¬ x = .non := by
  intro z
  subst z
  cases a with
  | non => exact ha rfl
  | bl _ => cases h.bl_eq
  | int _ => cases h.int_eq
  | str _ => cases h.str_eq
  | tup _ => obtain ⟨_, _, e, _⟩ := h.tup_eq; cases e
  | lst _ => obtain ⟨_, _, e, _⟩ := h.lst_eq; cases e
  | dic _ => obtain ⟨_, _, e, _⟩ := h.dic_eq; cases e
  | scr _ _ => obtain ⟨_, e, _⟩ := h.scr_eq; cases e
  | ins _ _ => obtain ⟨_, _, _, e, _⟩ := h.ins_eq; cases e
  | exc _ => obtain ⟨_, e, _⟩ := h.exc_eq; cases e
theorem ox_isN : OpX (fun x y H Q => y = .non ∧ Q (.bl (decide (x = .non))) H) (isNX false) := by
  intro F P H a b x y Q Qx R ha hb g k
  unfold isNX at g
  split at g
  · cases ha.non_eq; cases hb.non_eq
    exact ⟨rfl, k _ _ H (R.add (IsX.of_bl _)) g⟩
  · rename_i hna
    cases hb.non_eq
    exact ⟨rfl, k _ _ H (R.add (by rw [decide_eq_false (isX_ne ha fun z => hna z)]; exact IsX.of_bl _)) g⟩
  · exact g.elim
theorem ox_notN : OpX (fun x y H Q => y = .non ∧ Q (.bl (!decide (x = .non))) H) (isNX true) := by
  intro F P H a b x y Q Qx R ha hb g k
  unfold isNX at g
  split at g
  · cases ha.non_eq; cases hb.non_eq
    exact ⟨rfl, k _ _ H (R.add (IsX.of_bl _)) g⟩
  · rename_i hna
    cases hb.non_eq
    exact ⟨rfl, k _ _ H (R.add (by rw [decide_eq_false (isX_ne ha fun z => hna z)]; exact IsX.of_bl _)) g⟩
  · exact g.elim
def ixX : G2
  | .lst l, .int i, Q => (match atI l i with | some d => Q (.tr d) | none => False)
  | .tup l, .int i, Q => (match atI l i with | some d => Q (.tr d) | none => False)
  | .str z, .int i, Q => z.length ≤ 1000000 ∧ (match atI z.cps.toList i with | some c => Q (.tr (.str ⟨#[c]⟩)) | none => False)
  | _, _, _ => False
theorem all2_atI {α β : Type} {g : α → β → Prop} {l : List α} {m : List β} {i : Int} {d : α} (h : All2 g l m) (e : atI l i = some d) : ∃ v, atI m i = some v ∧ g d v := by
  unfold atI at e ⊢
  rw [h.len]
  obtain ⟨j, h1, h2⟩ := Option.bind_eq_some_iff.mp e
  obtain ⟨v, h3, h4⟩ := h.at h2
  exact ⟨v, Option.bind_eq_some_iff.mpr ⟨j, h1, h3⟩, h4⟩
theorem ox_ix {K : PySem.W.Frag} : OpX (fun x y H Q => rIxL K x y H Q ∨ rIxT K x y H Q ∨ rIxS x y H Q) ixX := by
  intro F P H a b x y Q Qx R ha hb g k
  unfold ixX at g
  split at g
  · obtain ⟨p, vs, rfl, h1, h2⟩ := ha.lst_eq
    cases hb.int_eq
    split at g
    · rename_i d hd
      obtain ⟨v, h3, h4⟩ := all2_atI h2 hd
      exact .inl ⟨p, vs, _, v, rfl, rfl, SqL.of (R.hv _ _ h1), h3, k _ _ H (R.add h4) g⟩
    · exact g.elim
  · obtain ⟨p, vs, rfl, h1, h2⟩ := ha.tup_eq
    cases hb.int_eq
    split at g
    · rename_i d hd
      obtain ⟨v, h3, h4⟩ := all2_atI h2 hd
      exact .inr (.inl ⟨p, vs, _, v, rfl, rfl, SqT.of (R.hv _ _ h1), h3, k _ _ H (R.add h4) g⟩)
    · exact g.elim
  · cases ha.str_eq; cases hb.int_eq
    obtain ⟨g0, g⟩ := g
    split at g
    · rename_i c hc
      exact .inr (.inr ⟨_, _, c, rfl, rfl, by have := line1; omega, hc, k _ _ H (R.add (IsX.of_str _)) g⟩)
    · exact g.elim
  · exact g.elim
theorem IxR.or {X : Cx} {r r' : R2} (h : IxR X r) (h' : IxR X r') : IxR X (fun x y H Q => r x y H Q ∨ r' x y H Q) := fun a b pins s σ H x y v u Q I rx ry q hs => q.elim (fun q => h a b pins s σ H x y v u Q I rx ry q hs) fun q => h' a b pins s σ H x y v u Q I rx ry q hs
theorem xe_ix {X : Cx} {Ex : ExT} {a b : Expr} {pos : Pos} {ta tb : XT} (K : PySem.W.Frag) (ha : XE X Ex a ta) (hb : XE X Ex b tb) (hs : PlainIx b) (h : X.K = K := by rfl) : XE X Ex (.Subscript a b pos) (xOp ixX ta tb) := fun F =>
  (pe_ix (IxR.or (ix_listK K h) (IxR.or (ix_tupK K h) ix_str)) (ha F) (hb F) hs).weak (tOp_x ox_ix)
theorem DGet.rd {H : Hp} {a : Addr} {kvs : List (Key × V)} {k : Key} (e : Rd H a (.dK kvs)) : DGet H a (kV k) (valV kvs k) := .inl ⟨kvs, k, e, rfl, rfl⟩
theorem rd_hv {F : Fm} {P : List Rw} {H : Hp} (R : Rep F P H) {O : List Addr} {a : Addr} {u : HO} (h : Rd (hid O (F.vis H)) a u) : Rd H a u := by
  rcases h with h | ⟨o, h⟩
  · exact .inl (R.hv _ _ h)
  · exact .inr ⟨o, R.hv _ _ h⟩
section
variable {X : Cx} {Ex : ExT} {a b o i : Expr} {pos : Pos} {ta tb : XT}
def xDNew : XT := fun ρ Q => Q (.od []) ρ
theorem xe_dnew : XE X Ex (.Dict [] [] pos) xDNew := fun F => (pe_dnewK (X := X)).weak fun σ H Q => by
  rintro ⟨ρ, fr, Qx, E, t, k⟩
  exact fun p hp => k _ _ _ ρ (EOk.back E.len (E.rep.newD hp All2.nil)) t
end
end Lf

set_option Elab.async false
set_option linter.all false
set_option maxRecDepth 100000
set_option maxHeartbeats 4000000
namespace Lf
open PySem L2
abbrev GC := List Dx → (Sv → Prop) → Prop
def CallX (r : List V → Hp → VK → Prop) (g : GC) : Prop := ∀ (F : Fm) (P : List Rw) (H : Hp) (ds : List Dx) (xs : List V) (Q : VK) (Qx : Sv → Prop), Rep F P H → All2 (IsX (hid (owns P) (F.vis H))) ds xs → g ds Qx →
  (∀ v s H', Rep F ((.v s, some v) :: P) H' → Qx s → Q v H') → r xs H Q
def xCall (g : GC) (u : XA) : XT := fun ρ Q => u ρ fun ss ρ' => g (ss.map Sv.d) fun s => Q s ρ'
theorem tCB_x {F : Fm} {r : List V → Hp → VK → Prop} {g : GC} {u : XA} (hx : CallX r g) : ∀ σ H Q, tX F (xCall g u) σ H Q → tCB r (tXa F u) σ H Q := by
  rintro σ H Q ⟨ρ, fr, Qx, E, t, k⟩
  refine ⟨ρ, fr, _, E, t, fun vs ss H2 ρ2 hl E2 q2 => ?_⟩
  obtain ⟨R, hs⟩ := E2.many hl
  exact hx F _ H2 _ vs Q (fun s => Qx s ρ2) R hs q2 fun v s H' R' q => k v s H' ρ2 (EOk.back E2.len R') q
section
variable {X : Cx} {Ex : ExT} {e : Expr} {es : List Expr} {x : Str} {p pos : Pos} {r : List V → Hp → VK → Prop} {g : GC} {u : XA} {id T : String}
theorem xe_callB (hc : CallR X (.builtin id) r) (hx : CallX r g) (hg : Gl X x) (hm : X.mg x = none) (hv : bootBuiltins x = some (.builtin id)) (ha : XAs X Ex (e :: es) u) (hn : x ≠ "__name__" := by decide) (hdb : (x == ("__debug__" : Str)) = false := by decide)
    (he : starEach (e :: es) X.env = (false, eval e X.env) :: starEach es X.env := by rfl) (hpl : (backTo pos (starEach es X.env)).any (·.1) = false := by rfl) : XE X Ex (.Call (.Name x p) (e :: es) [] pos) (xCall g u) := fun F => (pe_callB hc hg hm hv (ha F) hn hdb he hpl).weak (tCB_x hx)
theorem xe_callTy (hc : CallR X (.type T) r) (hx : CallX r g) (hg : Gl X x) (hm : X.mg x = none) (hv : bootBuiltins x = some (.type T)) (ha : XAs X Ex (e :: es) u) (hn : x ≠ "__name__" := by decide) (hdb : (x == ("__debug__" : Str)) = false := by decide)
    (he : starEach (e :: es) X.env = (false, eval e X.env) :: starEach es X.env := by rfl) (hpl : (backTo pos (starEach es X.env)).any (·.1) = false := by rfl) : XE X Ex (.Call (.Name x p) (e :: es) [] pos) (xCall g u) := fun F => (pe_callTy hc hg hm hv (ha F) hn hdb he hpl).weak (tCB_x hx)
end
theorem all2_1 {α β : Type} {g : α → β → Prop} {a : α} {xs : List β} (h : All2 g [a] xs) : ∃ x, xs = [x] ∧ g a x := by
  obtain ⟨x, xr, rfl, h1, h2⟩ := h
  cases (show xr = [] from h2)
  exact ⟨x, rfl, h1⟩
theorem all2_2 {α β : Type} {g : α → β → Prop} {a b : α} {xs : List β} (h : All2 g [a, b] xs) : ∃ x y, xs = [x, y] ∧ g a x ∧ g b y := by
  obtain ⟨x, xr, rfl, h1, h2⟩ := h
  obtain ⟨y, rfl, h3⟩ := all2_1 h2
  exact ⟨x, y, rfl, h1, h3⟩
def lenX : GC
  | [.lst l], Q => Q (.tr (.int l.length))
  | [.tup l], Q => Q (.tr (.int l.length))
  | [.str z], Q => z.length ≤ 1000000 ∧ Q (.tr (.int z.length))
  | [.dic l], Q => Q (.tr (.int l.length))
  | _, _ => False
abbrev rLen (K : PySem.W.Frag) : List V → Hp → VK → Prop := fun xs H Q => (∃ p ys, xs = [.ref p] ∧ (SqL K H p ys ∨ SqT K H p ys) ∧ Q (.int ys.length) H) ∨ (∃ z, xs = [.str z] ∧ z.length ≤ sizeLine ∧ Q (.int z.length) H) ∨ (∃ a kvs, xs = [V.ref a] ∧ Rd H a (.dK kvs) ∧ Q (.int kvs.length) H)
theorem call_lenA {X : Cx} (K : PySem.W.Frag) (h : X.K = K := by rfl) : CallR X (.builtin "len") (rLen K) := by
  subst h
  refine call_len_seq.or (call_len_str.or ?_)
  intro pins s σ H xs us Q I r h
  obtain ⟨a, kvs, rfl, ha, q⟩ := h
  obtain ⟨u, rfl, ru⟩ := vals1 r
  cases ru
  exact d_len I ha fun t s' I' => ⟨.int kvs.length, H, I', ⟨t, rfl⟩, q⟩
theorem cx_len {K : PySem.W.Frag} : CallX (rLen K) lenX := by
  intro F P H ds xs Q Qx R hs g k
  unfold lenX at g
  split at g
  · obtain ⟨x, rfl, hx⟩ := all2_1 hs
    obtain ⟨a, vs, rfl, h1, h2⟩ := hx.lst_eq
    exact .inl ⟨a, vs, rfl, .inl (SqL.of (R.hv _ _ h1)), k _ _ H (R.add (by rw [h2.len]; exact IsX.of_int _)) g⟩
  · obtain ⟨x, rfl, hx⟩ := all2_1 hs
    obtain ⟨a, vs, rfl, h1, h2⟩ := hx.tup_eq
    exact .inl ⟨a, vs, rfl, .inr (SqT.of (R.hv _ _ h1)), k _ _ H (R.add (by rw [h2.len]; exact IsX.of_int _)) g⟩
  · obtain ⟨x, rfl, hx⟩ := all2_1 hs
    cases hx.str_eq
    exact .inr (.inl ⟨_, rfl, by have := line1; omega, k _ _ H (R.add (IsX.of_int _)) g.2⟩)
  · obtain ⟨x, rfl, hx⟩ := all2_1 hs
    obtain ⟨a, vs, rfl, h1, h2⟩ := hx.dic_eq
    exact .inr (.inr ⟨a, vs, rfl, rd_hv R h1, k _ _ H (R.add (by rw [h2.len]; exact IsX.of_int _)) g⟩)
  · exact g.elim
def intX : GC
  | [.int i], Q => Q (.tr (.int i))
  | [.bl b], Q => Q (.tr (.int (if b then 1 else 0)))
  | _, _ => False
theorem cx_int : CallX (fun xs H Q => (∃ i, xs = [.int i] ∧ Q (.int i) H) ∨ ∃ k, xs = [.bl k] ∧ Q (.int (if k then 1 else 0)) H) intX := by
  intro F P H ds xs Q Qx R hs g k
  unfold intX at g
  split at g
  · obtain ⟨x, rfl, hx⟩ := all2_1 hs
    cases hx.int_eq
    exact .inl ⟨_, rfl, k _ _ H (R.add (IsX.of_int _)) g⟩
  · obtain ⟨x, rfl, hx⟩ := all2_1 hs
    cases hx.bl_eq
    exact .inr ⟨_, rfl, k _ _ H (R.add (IsX.of_int _)) g⟩
  · exact g.elim
def listX : GC
  | [.lst l], Q => Q (.ol l)
  | [.tup l], Q => Q (.ol l)
  | _, _ => False
theorem call_listA {X : Cx} (K : PySem.W.Frag) (h : X.K = K := by rfl) : CallR X (.type "list") (fun xs H Q => ∃ p ys, xs = [.ref p] ∧ (SqL K H p ys ∨ SqT K H p ys) ∧ ∀ l, H l = none → Q (.ref l) (upd H l (.lst ys))) := by subst h; exact call_list_of
theorem cx_list {K : PySem.W.Frag} : CallX (fun xs H Q => ∃ p ys, xs = [.ref p] ∧ (SqL K H p ys ∨ SqT K H p ys) ∧ ∀ l, H l = none → Q (.ref l) (upd H l (.lst ys))) listX := by
  intro F P H ds xs Q Qx R hs g k
  unfold listX at g
  split at g
  · obtain ⟨x, rfl, hx⟩ := all2_1 hs
    obtain ⟨a, vs, rfl, h1, h2⟩ := hx.lst_eq
    exact ⟨a, vs, rfl, .inl (SqL.of (R.hv _ _ h1)), fun l hl => k _ _ _ (R.newL hl h2) g⟩
  · obtain ⟨x, rfl, hx⟩ := all2_1 hs
    obtain ⟨a, vs, rfl, h1, h2⟩ := hx.tup_eq
    exact ⟨a, vs, rfl, .inr (SqT.of (R.hv _ _ h1)), fun l hl => k _ _ _ (R.newL hl h2) g⟩
  · exact g.elim
inductive Ty where
  | bool | int | str | tuple | list | dict
def Ty.nm : Ty → String
  | .bool => "bool" | .int => "int" | .str => "str" | .tuple => "tuple" | .list => "list" | .dict => "dict"
def tyN : Dx → String
  | .non => "NoneType" | .bl _ => "bool" | .int _ => "int" | .str _ => "str" | .tup _ => "tuple" | .lst _ => "list" | .dic _ => "dict" | .scr _ _ => "list" | .ins _ _ => "object" | .exc _ => "object"
def isT : Ty → Dx → Bool
  | .bool, .bl _ => true
  | .int, .int _ => true
  | .int, .bl _ => true
  | .str, .str _ => true
  | .tuple, .tup _ => true
  | .list, .lst _ => true
  | .dict, .dic _ => true
  | .list, .scr _ _ => true
  | _, _ => false
def noScr : Dx → Prop
  | .scr _ _ => False
  | .ins _ _ => False
  | .exc _ => False
  | _ => True
theorem kit_tab {K : PySem.W.Frag} {d : Dx} {n : Ty} (hd : noScr d) : PySem.W.kitOne K (.type (tyN d)) (.type n.nm) = some (isT n d) := by
  have h : ∀ T ∈ ["NoneType", "bool", "int", "str", "tuple", "list", "dict"], ∀ n : Ty, PySem.W.kitOne K (.type T) (.type n.nm) = some (T == n.nm || (n.nm == "int" && T == "bool")) := by
    intro T hT n
    simp only [List.mem_cons, List.not_mem_nil, or_false] at hT
    rcases hT with rfl | rfl | rfl | rfl | rfl | rfl | rfl <;> cases n <;> first
      | exact kit_self _
      | exact kit_of (by decide +kernel) (by decide +kernel) (by decide +kernel)
  rw [h _ (by cases d <;> first | exact hd.elim | simp [tyN]) n]
  cases d <;> cases n <;> first | rfl | exact hd.elim
theorem isinst_rd {X : Cx} {pins : List (Addr × Obj)} {σ : St} {H : Hp} {s : Shared} {A : Around} {E : Value → Shared → Prop} {Q : Value → Shared → Prop} {b : Bool} {c : Value} {d : Dx} {x : V} {u : Value} (I : Inv X pins σ H s) (rx : RelV x u) (hx : IsX H d x) (hd : noScr d) (e : PySem.W.kitOne X.K (.type (tyN d)) c = some b) (h : ∀ tk, Q (.bool b) { s with toks := tk }) :
    wpAny (model X.prog X.w) A (call (.builtin "isinstance") [u, c]) Q E s := by
  cases d with
  | non => cases hx.non_eq; exact isinst_ok I rx .non e h
  | bl _ => cases hx.bl_eq; exact isinst_ok I rx (.bl _) e h
  | int _ => cases hx.int_eq; exact isinst_ok I rx (.int _) e h
  | str _ => cases hx.str_eq; exact isinst_ok I rx (.str _) e h
  | tup _ => obtain ⟨a, vs, rfl, h1, _⟩ := hx.tup_eq; exact isinst_ok I rx (.tup h1) e h
  | lst _ => obtain ⟨a, vs, rfl, h1, _⟩ := hx.lst_eq; exact isinst_ok I rx (.lst h1) e h
  | dic _ =>
    obtain ⟨a, vs, rfl, h1, _⟩ := hx.dic_eq
    rcases h1 with h1 | ⟨ob, h1⟩
    · exact isinst_ok I rx (.dK h1) e h
    · cases (show u = Value.ref a from rx)
      obtain ⟨_, _, _, _, _, p⟩ := (show ObjOk X.prog X.w H s.heap a (.frz ob (.dK vs)) from I.hok a _ h1)
      obtain ⟨o, es, ep, h1, h2, _⟩ := p
      exact PySem.W.kia_one PySem.W.kitx_dict I.kIn ⟨o, h1, h2.1⟩ e (fun z => nomatch z) h
  | scr _ _ => exact hd.elim
  | ins _ _ => exact hd.elim
  | exc _ => exact hd.elim
theorem call_isX {X : Cx} (n : Ty) : CallR X (.builtin "isinstance") (fun xs H Q => ∃ x d, xs = [x, .ty n.nm] ∧ IsX H d x ∧ noScr d ∧ Q (.bl (isT n d)) H) := by
  intro pins s σ H xs us Q I r h
  obtain ⟨x, d, rfl, hx, hd, q⟩ := h
  obtain ⟨u, w', rfl, r1, r2⟩ := vals2 r
  cases (show w' = Value.type n.nm from r2)
  exact isinst_rd I r1 hx hd (kit_tab hd) (fun tk => ⟨.bl _, H, I.tok _, rfl, q⟩)
def xIs (n : Ty) (t : XT) : XT := fun ρ Q => t ρ fun s ρ' => match s.d with
  | .scr _ _ => False
  | .ins _ _ => False
  | .exc _ => False
  | d => Q (.tr (.bl (isT n d))) ρ'
theorem xe_isinst {X : Cx} {Ex : ExT} {e : Expr} {t : XT} {nm : Str} {p q pos : Pos} (n : Ty) (hm : X.mg "isinstance" = none) (h : XE X Ex e t) (hT : PE X (.Name nm q) (tC (.ty n.nm))) (hg : Gl X "isinstance" := by rfl)
    (he : starEach [e, .Name nm q] X.env = (false, eval e X.env) :: starEach [.Name nm q] X.env := by rfl) (he2 : starEach [.Name nm q] X.env = (false, eval (.Name nm q) X.env) :: starEach [] X.env := by rfl) (hpl : (backTo pos (starEach [.Name nm q] X.env)).any (·.1) = false := by rfl) : XE X Ex (.Call (.Name "isinstance" p) [e, .Name nm q] [] pos) (xIs n t) := fun F =>
  (pe_callB (call_isX n) hg hm bt_isinstance (pa_cons (h F) (pa_cons hT pa_nil he2) he) (by decide) (by decide) he hpl).weak fun σ H Q => by
    rintro ⟨ρ, fr, Qx, E, t, k⟩
    refine ⟨ρ, fr, _, E, t, fun v s H' ρ' E' q => ?_⟩
    obtain ⟨R, hx⟩ := E'.one
    generalize hd : s.d = d at q hx
    cases d with
    | scr _ _ => exact q.elim
    | ins _ _ => exact q.elim
    | exc _ => exact q.elim
    | _ => exact ⟨v, _, rfl, hx.to R.hv, trivial, k _ _ H' ρ' (EOk.back E'.len (R.add (IsX.of_bl _))) q⟩
def Cal (P : Program) (w : World) (K : PySem.W.Frag) (mg : Str → Option Value) (base : Heap) (j : Nat) (x : Str) (ps : List Str) (sp : Sp) : Prop := ∃ f fd, FnOk P w K mg base CX0 j f fd ps sp ∧ Binds K fd ps [] ∧ PySem.W.keepIn K (.ref f) = true ∧ mg x = some (.ref f)
theorem pe_cal {X : Cx} {j : Nat} {x : Str} {ps : List Str} {sp : Sp} {e : Expr} {es : List Expr} {t : TA} {p pos : Pos} (C : Cal X.prog X.w X.K X.mg X.base j x ps sp) (hr : Room j X.A) (ha : PA X (e :: es) t) (hg : Gl X x := by rfl) (hdb : (x == ("__debug__" : Str)) = false := by decide)
    (he : starEach (e :: es) X.env = (false, eval e X.env) :: starEach es X.env := by rfl) (hpl : (backTo pos (starEach es X.env)).any (·.1) = false := by rfl) : PE X (.Call (.Name x p) (e :: es) [] pos) (tCall sp [] E0 t) := by
  obtain ⟨f, fd, G, b, k, m⟩ := C
  exact pe_call G hr hg m k b .nil pass0 ha hdb he hpl
def ResOk (Hs H H' : Hp) : Sv → V → Prop
  | .tr d, v => IsX (ext Hs H H') d v
  | .ol l, v => ∃ a vs, v = .ref a ∧ H a = none ∧ H' a = some (.lst vs) ∧ All2 (IsX (hid [a] (ext Hs H H'))) l vs
  | .od l, v => ∃ a ws, v = .ref a ∧ H a = none ∧ H' a = some (.dK ws) ∧ All2 (KvX (hid [a] (ext Hs H H'))) l ws
  | .ow o, v => o.fp.Nodup ∧ (∀ a ∈ o.fp, H a = none) ∧ OwOk (hid o.fp (ext Hs H H')) H' o v
def spX (g : GC) : Sp := fun vs H Q _ => ∃ Hs ds Qx, Same Hs H ∧ All2 (IsX Hs) ds vs ∧ g ds Qx ∧ ∀ s v H', Same H H' → ResOk Hs H H' s v → Qx s → Q v H'
section
variable {F : Fm} {P : List Rw} {H H' : Hp} {a : Addr} {s : Sv} {v : V}
theorem ext_hid (R : Rep F P H) (e : Same H H') : Same (ext (hid (owns P) (F.vis H)) H H') (hid (owns P) (F.vis H')) := fun b o hb => by
  cases q : H b with
  | none =>
    rw [ext_new q] at hb
    exact hid_some.mpr ⟨R.not_own q, (ext_new (R.fresh q)).trans hb⟩
  | some u =>
    rw [ext_old q] at hb
    exact hid_same (ext_same e) _ _ hb
theorem Rep.adopt (R : Rep F P H) (e : Same H H') (ha : H a = none) (hA : ownA (.v s, some (.ref a)) = [a]) (h : RowOk (a :: owns P) (F.vis H') H' (.v s, some (.ref a))) : Rep F ((.v s, some (.ref a)) :: P) H' := by
  have hno := R.not_own ha
  have hq := R.fresh ha
  have R' := R.grow e
  refine ⟨by rw [owns_some hA]; exact List.nodup_cons.mpr ⟨hno, R.nd⟩, fun r hr => ?_, fun r hr b hb => ?_, R'.kp, R'.lv⟩
  · rw [owns_some hA]
    rcases List.mem_cons.mp hr with rfl | hr
    · exact h
    · refine (R.ok r hr).mono (.of fun b o hb => ?_) fun b hb => ?_
      · have hb' := hid_some.mp hb
        have hba : b ≠ a := fun z => by have := R.vis _ _ hb'.2; rw [z, ha] at this; cases this
        exact hid_some.mpr ⟨fun z => (List.mem_cons.mp z).elim hba hb'.1, ext_same e _ _ hb'.2⟩
      · obtain ⟨o, ho⟩ := R.own_in (own_mem hr hb)
        rw [ho, e _ _ ho]
  · rcases List.mem_cons.mp hr with rfl | hr
    · cases eq1 hA hb; exact hq
    · exact R.fr r hr b hb
theorem Rep.adoptW {o : Ow} (R : Rep F P H) (e : Same H H') (hn : o.fp.Nodup) (ha : ∀ a ∈ o.fp, H a = none) (h : OwOk (hid (o.fp ++ owns P) (F.vis H')) H' o v) : Rep F ((.v (.ow o), some v) :: P) H' := by
  have R' := R.grow e
  have hO : owns ((.v (.ow o), some v) :: P) = o.fp ++ owns P := owns_cons
  have hdis : ∀ a ∈ o.fp, a ∉ owns P := fun a h1 => R.not_own (ha a h1)
  refine ⟨?_, fun r hr => ?_, fun r hr b hb => ?_, R'.kp, R'.lv⟩
  · rw [hO]
    exact List.nodup_append.mpr ⟨hn, R.nd, fun a h1 b h2 z => hdis a h1 (z ▸ h2)⟩
  · rw [hO]
    rcases List.mem_cons.mp hr with rfl | hr
    · exact ⟨v, rfl, h⟩
    · refine (R.ok r hr).mono (.of fun b u hb => ?_) fun b hb => ?_
      · have hb' := hid_some.mp hb
        refine hid_some.mpr ⟨fun z => (List.mem_append.mp z).elim (fun z => ?_) hb'.1, ext_same e _ _ hb'.2⟩
        have := R.vis _ _ hb'.2; rw [ha b z] at this; cases this
      · obtain ⟨u, hu⟩ := R.own_in (own_mem hr hb)
        rw [hu, e _ _ hu]
  · rcases List.mem_cons.mp hr with rfl | hr
    · exact R.fresh (ha b hb)
    · exact R.fr r hr b hb
theorem ext_hid1 (R : Rep F P H) (e : Same H H') (ha : H a = none) : Same (hid [a] (ext (hid (owns P) (F.vis H)) H H')) (hid (a :: owns P) (F.vis H')) := fun b o hb => by
  have hb' := hid_some.mp hb
  have := hid_some.mp (ext_hid R e _ _ hb'.2)
  exact hid_some.mpr ⟨fun z => (List.mem_cons.mp z).elim (fun z => hb'.1 (by rw [z]; exact List.mem_cons_self)) this.1, this.2⟩
theorem Rep.res (R : Rep F P H) (e : Same H H') (h : ResOk (hid (owns P) (F.vis H)) H H' s v) : Rep F ((.v s, some v) :: P) H' := by
  match s, h with
  | .tr d, h => exact (R.grow e).add (IsX.to h (ext_hid R e))
  | .ol l, ⟨a, vs, h1, h2, h3, h4⟩ =>
    subst h1
    exact R.adopt e h2 rfl ⟨a, vs, rfl, h3, h4.imp fun _ _ z => z.to (ext_hid1 R e h2)⟩
  | .od l, ⟨a, vs, h1, h2, h3, h4⟩ =>
    subst h1
    exact R.adopt e h2 rfl ⟨a, vs, rfl, h3, h4.imp fun _ _ z => z.to (ext_hid1 R e h2)⟩
  | .ow o, ⟨h1, h2, h3⟩ =>
    refine R.adoptW e h1 h2 (OwOk.mono (.of fun b u hb => ?_) o v (fun _ _ => rfl) h3)
    have hb' := hid_some.mp hb
    have := hid_some.mp (ext_hid R e _ _ hb'.2)
    exact hid_some.mpr ⟨fun z => (List.mem_append.mp z).elim hb'.1 this.1, this.2⟩
end
theorem xe_call {X : Cx} {Ex : ExT} {j : Nat} {x : Str} {ps : List Str} {g : GC} {e : Expr} {es : List Expr} {u : XA} {p pos : Pos} (C : Cal X.prog X.w X.K X.mg X.base j x ps (spX g)) (hr : Room j X.A) (ha : XAs X Ex (e :: es) u) (hg : Gl X x := by rfl) (hdb : (x == ("__debug__" : Str)) = false := by decide)
    (he : starEach (e :: es) X.env = (false, eval e X.env) :: starEach es X.env := by rfl) (hpl : (backTo pos (starEach es X.env)).any (·.1) = false := by rfl) : XE X Ex (.Call (.Name x p) (e :: es) [] pos) (xCall g u) := fun F => (pe_cal C hr (ha F) hg hdb he hpl).weak fun σ H Q => by
  rintro ⟨ρ, fr, Qx, E, t, k⟩
  refine ⟨ρ, fr, _, E, t, fun vs ss H2 ρ2 hl E2 q2 => ?_⟩
  obtain ⟨R, hs⟩ := E2.many hl
  rw [List.append_nil]
  exact ⟨_, _, _, R.hv, hs, q2, fun s v H' e hr q => k v s H' ρ2 (EOk.back E2.len (R.res e hr)) q⟩
abbrev GB := List Dx → List Dx → (Dx → List Dx → Prop) → Prop
def spB (g : GB) : Sp := fun vs H Q _ => ∃ p ws l vr Hs ds Qx, vs = .ref p :: vr ∧ H p = some (.lst ws) ∧ Same Hs H ∧ Hs p = none ∧ All2 (IsX Hs) l ws ∧ All2 (IsX Hs) ds vr ∧ g l ds Qx ∧
  ∀ d v l' ws' H', SameX p H H' → H' p = some (.lst ws') → All2 (IsX (hid [p] (ext Hs H H'))) l' ws' → IsX (ext Hs H H') d v → Qx d l' → Q v H'
def lent : Sl → Option (List Dx × (List Dx → Sl))
  | .bw l => some (l, .bw)
  | .v (.ol l) => some (l, fun l' => .v (.ol l'))
  | _ => none
def xCallB (g : GB) (i : Nat) (u : XA) : XT := fun ρ Q => ((ρ[i]?).bind lent).isSome = true ∧ u ρ fun ss ρ' => match (ρ'[i]?).bind lent with
  | some (l, f) => g l (ss.map Sv.d) fun d l' => Q (.tr d) (ρ'.set i (f l'))
  | none => False
section
variable {F : Fm} {P : List Rw} {H H' : Hp} {a p : Addr} {s : Sv} {v : V} {r r' : Rw}
theorem Rep.called (R : Rep F (r :: P) H) (hA : ownA r = [p]) (hA' : ownA r' = [p]) (hF : FrOk F r p → FrOk F r' p) (e : SameX p H H') (hp : ∃ o, H' p = some o) (h : RowOk (p :: owns P) (F.vis H') H' r') : Rep F (r' :: P) H' := by
  have hn := R.nd
  rw [owns_some hA] at hn
  have hna := (List.nodup_cons.mp hn).1
  have R1 := R.ok
  rw [owns_some hA] at R1
  have hfr := R.fr r List.mem_cons_self p (mem1 hA)
  have ev : Same (hid (p :: owns P) (F.vis H)) (hid (p :: owns P) (F.vis H')) := fun b o hb => by
    have hb' := hid_some.mp hb
    have hbp : b ≠ p := fun z => hb'.1 (by rw [z]; exact List.mem_cons_self)
    refine hid_some.mpr ⟨hb'.1, ?_⟩
    cases q : F.H0 b with
    | none => exact (ext_new q).trans (nf_mono ((ext_new q).symm.trans hb'.2) fun o h => e.get hbp h)
    | some u => exact (ext_old q).trans ((ext_old q).symm.trans hb'.2)
  refine ⟨by rw [owns_some hA']; exact hn, fun x hx => ?_, fun x hx b hb => ?_, fun b u h1 h2 => ?_, fun b hb => ?_⟩
  · rw [owns_some hA']
    rcases List.mem_cons.mp hx with rfl | hx
    · exact h
    · refine (R1 x (List.mem_cons_of_mem _ hx)).mono (.of ev) fun b hb => ?_
      have hbp : b ≠ p := fun z => hna (z ▸ own_mem hx hb)
      obtain ⟨o, ho⟩ := R.own_in (own_mem (List.mem_cons_of_mem _ hx) hb)
      rw [ho, e.get hbp ho]
  · rcases List.mem_cons.mp hx with rfl | hx
    · cases eq1 hA' hb; exact hF hfr
    · exact R.fr x (List.mem_cons_of_mem _ hx) b hb
  · have hb := R.kp b u h1 h2
    by_cases z : b = p
    · subst z
      rcases hfr.or with hfr | hfr
      · exact absurd hfr h2
      · rw [hfr] at h1; cases h1
    · exact e.get z hb
  · by_cases z : b = p
    · subst z; exact hp
    · obtain ⟨o, ho⟩ := R.lv b hb
      exact ⟨o, e.get z ho⟩
theorem ext_called (R : Rep F (r :: P) H) (hA : ownA r = [p]) (e : SameX p H H') : Same (ext (hid (owns (r :: P)) (F.vis H)) H H') (hid (owns (r :: P)) (F.vis H')) := fun b o hb => by
  have hpo : p ∈ owns (r :: P) := by rw [owns_some hA]; exact List.mem_cons_self
  cases q : H b with
  | none =>
    rw [ext_new q] at hb
    exact hid_some.mpr ⟨R.not_own q, (ext_new (R.fresh q)).trans hb⟩
  | some u =>
    rw [ext_old q] at hb
    have hb' := hid_some.mp hb
    have hbp : b ≠ p := fun z => hb'.1 (by rw [z]; exact hpo)
    refine hid_some.mpr ⟨hb'.1, ?_⟩
    cases q : F.H0 b with
    | none => exact (ext_new q).trans (nf_mono ((ext_new q).symm.trans hb'.2) fun o h => e.get hbp h)
    | some u => exact (ext_old q).trans ((ext_old q).symm.trans hb'.2)
end
theorem lent_row {sl : Sl} {x : Option V} {l : List Dx} {f : List Dx → Sl} {F : Fm} {P : List Rw} {H : Hp} (h : lent sl = some (l, f)) (R : Rep F ((sl, x) :: P) H) : ∃ p ws, x = some (.ref p) ∧ H p = some (.lst ws) ∧ ownA (sl, some (.ref p)) = [p] ∧ All2 (IsX (hid (p :: owns P) (F.vis H))) l ws ∧
    ∀ l', ownA (f l', some (.ref p)) = [p] ∧ (FrOk F (sl, some (.ref p)) p → FrOk F (f l', some (.ref p)) p) ∧ ∀ {O : List Addr} {G H' : Hp} {ws' : List V}, H' p = some (.lst ws') → All2 (IsX (hid O G)) l' ws' → RowOk O G H' (f l', some (.ref p)) := by
  match sl, h with
  | .bw l, h =>
    cases h
    obtain ⟨p, ws, h1, h2, h3⟩ := R.atB
    exact ⟨p, ws, h1, h2, rfl, h3, fun l' => ⟨rfl, id, fun a b => ⟨p, _, rfl, a, b⟩⟩⟩
  | .v (.ol l), h =>
    cases h
    obtain ⟨p, ws, h1, h2, h3⟩ := R.atL
    exact ⟨p, ws, h1, h2, rfl, h3, fun l' => ⟨rfl, id, fun a b => ⟨p, _, rfl, a, b⟩⟩⟩
theorem xe_callP {X : Cx} {Ex : ExT} {j i : Nat} {x : Str} {ps : List Str} {g : GB} {e : Expr} {es : List Expr} {u : XA} {p pos : Pos} (C : Cal X.prog X.w X.K X.mg X.base j x ps (spB g)) (hr : Room j X.A) (hv : PE X e (tVar i)) (ha : XAs X Ex es u) (hg : Gl X x := by rfl) (hdb : (x == ("__debug__" : Str)) = false := by decide)
    (he : starEach (e :: es) X.env = (false, eval e X.env) :: starEach es X.env := by rfl) (hpl : (backTo pos (starEach es X.env)).any (·.1) = false := by rfl) : XE X Ex (.Call (.Name x p) (e :: es) [] pos) (xCallB g i u) := fun F => (pe_cal C hr (pa_cons hv (ha F) he) hg hdb he hpl).weak fun σ H Q => by
  rintro ⟨ρ, fr, Qx, E, ⟨t0, t⟩, k⟩
  obtain ⟨⟨l0, f0⟩, h0⟩ := Option.isSome_iff_exists.mp t0
  obtain ⟨sl0, h1, h2⟩ := Option.bind_eq_some_iff.mp h0
  obtain ⟨v, hv, hi, R0⟩ := eok_slot E h1
  obtain ⟨p, _, rfl, _⟩ := lent_row h2 R0
  refine ⟨.ref p, hv, ρ, fr, _, E, t, fun vs ss H2 ρ2 hl E2 q2 => ?_⟩
  obtain ⟨R, hs⟩ := E2.many hl
  split at q2
  · rename_i l f hb
    obtain ⟨sl, h3, h4⟩ := Option.bind_eq_some_iff.mp hb
    have E3 : EOk F ρ2 σ fr H2 := ⟨E2.len, R⟩
    obtain ⟨v', hv', hi', R2⟩ := eok_slot E3 h3
    rw [hv] at hv'
    cases hv'
    obtain ⟨p', ws, ep, h5, h6, h7, h8⟩ := lent_row h4 R2
    cases ep
    rw [List.append_nil]
    have hO : (owns (ρ2.zip σ ++ fr)).Perm (owns ((sl, some (V.ref p)) :: ((ρ2.zip σ).eraseIdx i ++ fr))) := ((zip_pull h3 hv).append_right fr).flatMap_right _
    have hOm : ∀ a ∈ owns ((sl, some (V.ref p)) :: ((ρ2.zip σ).eraseIdx i ++ fr)), a ∈ owns (ρ2.zip σ ++ fr) := fun a ha => hO.mem_iff.mpr ha
    refine ⟨p, ws, l, vs, hid (owns ((sl, some (V.ref p)) :: ((ρ2.zip σ).eraseIdx i ++ fr))) (F.vis H2), _, _, rfl, h5, R2.hv, ?_, ?_, hs.imp fun _ _ z => z.to (hid_less hOm), q2, fun d w l' ws' H' e hp hl' hd q => ?_⟩
    · unfold hid
      rw [if_pos (by rw [owns_some h6]; exact List.mem_cons_self)]
    · rw [owns_some h6]
      exact h7
    · obtain ⟨k1, k2, k3⟩ := h8 l'
      have ev := ext_called R2 h6 e
      have R3 := R2.called h6 k1 k2 e ⟨_, hp⟩ (k3 hp (hl'.imp fun _ _ z => z.to fun b o hb => by
        have hb' := hid_some.mp hb
        have := ev _ _ hb'.2
        rw [owns_some h6] at this
        exact this))
      refine k w (.tr d) H' _ (EOk.back (by rw [List.length_set]; exact E2.len) ?_) q
      have R4 := R3.add (d := d) (v := w) (hd.to fun b o hb => by
        have := ev _ _ hb
        rw [owns_some h6] at this
        rw [owns_some k1]
        exact this)
      exact R4.perm (((zip_put' E2.len hi' hv).append_right fr).symm.cons _)
  · exact q2.elim
end Lf

set_option Elab.async false
set_option linter.all false
set_option maxRecDepth 100000
set_option maxHeartbeats 4000000
namespace L2
open PySem
theorem PI.weak {X : Cx} {tg e : Expr} {t u : TI} (h : PI X tg e t) (w : ∀ σ H Q, u σ H Q → t σ H Q) : PI X tg e u := fun pins s σ H Q I q => h pins s σ H Q I (w σ H Q q)
theorem PCs.weak {X : Cx} {e : List Expr} {t u : TT} (h : PCs X e t) (w : ∀ σ H Q, u σ H Q → t σ H Q) : PCs X e u := fun pins s σ H Q I q => h pins s σ H Q I (w σ H Q q)
end L2
namespace Lf
open PySem L2
abbrev XI := En → (List Dx → En → Prop) → Prop
structure ItX (F : Fm) (J : It) (row : List Rw) (ds : List Dx) : Prop where
  go : ∀ P H i d, Rep F (row ++ P) H → ds[i]? = some d → J.go i H
  stop : ∀ P H i, Rep F (row ++ P) H → ds.length ≤ i → J.stop i H
  yld : ∀ P H i d x H', Rep F (row ++ P) H → ds[i]? = some d → J.yld i H x H' → Rep F ((.v (.tr d), some x) :: (row ++ P)) H'
def tXi (F : Fm) (t : XI) : TI := fun σ H R => ∃ ρ fr Qx, EOk F ρ σ fr H ∧ t ρ Qx ∧ ∀ J H' ρ' row ds, EOk F ρ' σ (row ++ fr) H' → ItX F J row ds → Qx ds ρ' → R J H'
def XIt (X : Cx) (Ex : ExT) (tg iter : Expr) (t : XI) : Prop := ∀ F, [OkF X Ex F] → PI X tg iter (tXi F t)
def xiL (t : XT) : XI := fun ρ Q => t ρ fun s ρ' => match s.d with
  | .lst l => Q l ρ'
  | _ => False
theorem itx_list {F : Fm} {K : PySem.W.Frag} {a : Addr} {l : List Dx} : ItX F (Itl K a) [(.v (.tr (.lst l)), some (.ref a))] l where
  go := fun P H i d R hd => by
    obtain ⟨v, e, h⟩ := R.atT; cases e
    obtain ⟨_, vs, e, h1, h2⟩ := h.lst_eq; cases e
    obtain ⟨x, h3, _⟩ := h2.at hd
    exact ⟨vs, x, SqL.of (R.hv _ _ h1), h3⟩
  stop := fun P H i R hi => by
    obtain ⟨v, e, h⟩ := R.atT; cases e
    obtain ⟨_, vs, e, h1, h2⟩ := h.lst_eq; cases e
    exact ⟨vs, SqL.of (R.hv _ _ h1), by rw [h2.len]; exact hi⟩
  yld := fun P H i d x H' R hd q => by
    obtain ⟨rfl, q⟩ := q
    obtain ⟨v, e, h⟩ := R.atT; cases e
    obtain ⟨_, vs, e, h1, h2⟩ := h.lst_eq; cases e
    obtain ⟨y, h3, h4⟩ := h2.at hd
    rw [q vs (SqL.of (R.hv _ _ h1))] at h3
    cases h3
    exact R.add h4
section
variable {X : Cx} {Ex : ExT} {tg l a b : Expr} {t : XT} {u : XA} {p pos : Pos}
theorem xi_list (h : XE X Ex l t) : XIt X Ex tg l (xiL t) := fun F => (pi_list (h F)).weak fun σ H R => by
  rintro ⟨ρ, fr, Qx, E, t, k⟩
  refine ⟨ρ, fr, _, E, t, fun v s H' ρ' E' q => ?_⟩
  split at q
  · rename_i m hm
    have R1 := E'.front.frz
    rw [hm] at R1
    obtain ⟨v', e, h⟩ := R1.atT; cases e
    obtain ⟨c, vs, rfl, h1, h2⟩ := h.lst_eq
    exact ⟨c, rfl, ⟨vs, SqL.of (R1.hv _ _ h1)⟩, k _ H' ρ' [(.v (.tr (.lst m)), some (.ref c))] m (EOk.back E'.len R1) itx_list q⟩
  · exact q.elim
def rngX (lo : Int) (n : Nat) : List Dx := (List.range n).map fun k : Nat => .int (lo + (k : Int))
theorem rngX_at {lo : Int} {n i : Nat} {d : Dx} (h : (rngX lo n)[i]? = some d) : i < n ∧ d = .int (lo + i) := by
  unfold rngX at h
  rw [List.getElem?_map] at h
  obtain ⟨k, h1, h2⟩ := Option.map_eq_some_iff.mp h
  obtain ⟨h3, h4⟩ := List.getElem?_eq_some_iff.mp h1
  rw [List.getElem_range] at h4
  rw [List.length_range] at h3
  subst h4
  exact ⟨h3, h2.symm⟩
theorem itx_range {F : Fm} {lo : Int} {n : Nat} : ItX F (Itr lo n) [] (rngX lo n) where
  go := fun P H i d R hd => (rngX_at hd).1
  stop := fun P H i R hi => by unfold rngX at hi; rw [List.length_map, List.length_range] at hi; exact hi
  yld := fun P H i d x H' R hd q => by
    obtain ⟨rfl, rfl⟩ := q
    rw [(rngX_at hd).2]
    exact R.add (IsX.of_int _)
def xiR1 (u : XA) : XI := fun ρ Q => u ρ fun ss ρ' => match ss.map Sv.d with
  | [.int j] => (-(2 ^ 62) ≤ j ∧ j < 2 ^ 62) ∧ Q (rngX 0 j.toNat) ρ'
  | _ => False
theorem xi_range1 (hm : X.mg "range" = none) (ha : XAs X Ex [a] u) (hg : Gl X "range" := by rfl) (hs : starEach [a] X.env = [(false, eval a X.env)] := by rfl) : XIt X Ex tg (.Call (.Name "range" p) [a] [] pos) (xiR1 u) := fun F => (pi_range1 hg hm (ha F) hs).weak fun σ H R => by
  rintro ⟨ρ, fr, Qx, E, t, k⟩
  refine ⟨ρ, fr, _, E, t, fun vs ss H2 ρ2 hl E2 q => ?_⟩
  obtain ⟨R, hs⟩ := E2.many hl
  split at q
  · rename_i j hj
    rw [hj] at hs
    obtain ⟨x, rfl, hx⟩ := all2_1 hs
    cases hx.int_eq
    exact ⟨j, rfl, q.1.1, q.1.2, k _ H2 ρ2 [] _ ⟨E2.len, R⟩ itx_range q.2⟩
  · exact q.elim
end
abbrev XG := Dx → En → (En → Prop) → Prop
def GX (n : Nat) (g : TG) (gx : XG) : Prop := ∀ (F : Fm) (ρ : En) (σ : St) (fr : List Rw) (H : Hp) (d : Dx) (x : V) (Q : St → Hp → Prop) (Qx : En → Prop), EOk F ρ σ ((.v (.tr d), some x) :: fr) H → gx d ρ Qx →
  (∀ σ' H' ρ', EOk F ρ' σ' fr H' → σ'.length = σ.length → (∀ i, n ≤ i → σ'[i]? = σ[i]?) → Qx ρ' → Q σ' H') → g x σ H Q
def gxN (i : Nat) : XG := fun d ρ Q => Q (ρ.set i (.v (.tr d)))
theorem eok_set {F : Fm} {ρ : En} {σ : St} {fr : List Rw} {H : Hp} {s : Sv} {x : V} {i : Nat} (E : EOk F ρ σ ((.v s, some x) :: fr) H) : EOk F (ρ.set i (.v s)) (σ.set i (some x)) fr H := by
  by_cases hi : i < ρ.length
  · refine ⟨by rw [List.length_set, List.length_set]; exact E.len, ?_⟩
    have hz := pull (l := ρ.zip σ) (i := i) (List.getElem?_eq_getElem (by rw [List.length_zip]; have := E.len; omega))
    have R := E.front.perm ((hz.append_right fr).cons _)
    exact (R.perm (.swap _ _ _)).tail.perm ((zip_put E.len hi).append_right fr).symm
  · rw [List.set_eq_of_length_le (by omega), List.set_eq_of_length_le (by have := E.len; omega)]
    exact E.drop
theorem gx_name {n i : Nat} (h : i < n) : GX n (gName i) (gxN i) := fun F ρ σ fr H d x Q Qx E g k => k _ H _ (eok_set E) (List.length_set) (fun j hj => List.getElem?_set_ne (by omega)) g
@[reducible] def gsOf : List Nat → TGs
  | [] => gNil
  | i :: is => gCons (gName i) (gsOf is)
end Lf

set_option Elab.async false
set_option linter.all false
set_option maxRecDepth 100000
set_option maxHeartbeats 4000000
namespace Lf
open PySem L2
def xYes : XC := fun ρ Q => Q true ρ
def XCs (X : Cx) (Ex : ExT) (ifs : List Expr) (t : XC) : Prop := ∀ F, [OkF X Ex F] → PCs X ifs (tXc F t)
theorem xcs_nil {X : Cx} {Ex : ExT} : XCs X Ex [] xYes := fun F => (pcs_nil (X := X)).weak fun σ H Q => by
  rintro ⟨ρ, fr, Qx, E, t, k⟩
  exact k true H ρ E t
theorem xcs_one {X : Cx} {Ex : ExT} {c : Expr} {t : XC} (h : XTe X Ex c t) : XCs X Ex [c] t := fun F => pcs_one (h F)
def compX (n : Nat) (gx : XG) (tc : XC) (te : XT) (Q : List Dx → List Sl → Prop) : List Dx → List Sl → List Dx → Prop
  | [], cs, acc => Q acc cs
  | d :: ds, cs, acc => gx d (List.replicate n .un ++ cs) fun ρ1 => tc ρ1 fun b ρ2 => if b = true then te ρ2 fun s ρ3 => compX n gx tc te Q ds (ρ3.drop n) (acc ++ [s.d]) else compX n gx tc te Q ds (ρ2.drop n) acc
def cut : List Nat → En → En
  | [], ρ => ρ
  | j :: js, ρ => cut js (ρ.set j .un)
def caps (outs : List Nat) (ρ : En) : List Sl := outs.map fun j => (ρ[j]?).getD .un
def back : List Nat → List Sl → En → En
  | j :: js, c :: cs, ρ => back js cs (ρ.set j c)
  | _, _, ρ => ρ
def xComp (n : Nat) (outs : List Nat) (ti : XI) (gx : XG) (tc : XC) (te : XT) : XT := fun ρ Q => ti ρ fun ds ρ1 => ds.length ≤ 1000000 ∧ compX n gx tc te (fun acc cs => Q (.ol acc) (back outs cs ρ1)) ds (caps outs ρ1) []
theorem sw {α : Type} {A B C : List α} : (A ++ (B ++ C)).Perm (B ++ (A ++ C)) := by
  rw [← List.append_assoc, ← List.append_assoc]
  exact List.perm_append_comm.append_right C
section
variable {F : Fm} {H : Hp} {σ : St}
abbrev vals (σ : St) (outs : List Nat) : St := outs.map fun j => (σ[j]?).join
theorem caps_set {js : List Nat} {j : Nat} {s : Sl} {ρ : En} (h : j ∉ js) : caps js (ρ.set j s) = caps js ρ := by
  unfold caps
  refine List.map_congr_left fun k hk => ?_
  rw [List.getElem?_set_ne (fun z => h (by rw [z]; exact hk))]
theorem cut_len : ∀ {js : List Nat} {ρ : En}, (cut js ρ).length = ρ.length
  | [], _ => rfl
  | j :: js, ρ => (cut_len (js := js)).trans List.length_set
theorem cut_set : ∀ {js : List Nat} {j : Nat} {s : Sl} {ρ : En}, j ∉ js → cut js (ρ.set j s) = (cut js ρ).set j s
  | [], _, _, _, _ => rfl
  | k :: js, j, s, ρ, h => by
    show cut js ((ρ.set j s).set k .un) = (cut js (ρ.set k .un)).set j s
    rw [List.set_comm _ _ (fun z => h (by rw [z]; exact List.mem_cons_self)), cut_set fun z => h (List.mem_cons_of_mem _ z)]
theorem pullAll : ∀ {outs : List Nat} {ρ : En} {T : List Rw}, outs.Nodup → ρ.length = σ.length → Rep F (ρ.zip σ ++ T) H → Rep F ((caps outs ρ).zip (vals σ outs) ++ ((cut outs ρ).zip σ ++ T)) H
  | [], _, _, _, _, R => R
  | j :: js, ρ, T, hn, hl, R => by
    have hn' := List.nodup_cons.mp hn
    have step : Rep F ((ρ.set j .un).zip σ ++ (((ρ[j]?).getD .un, (σ[j]?).join) :: T)) H := by
      by_cases hj : j < ρ.length
      · have h1 : ρ[j]? = some ρ[j] := List.getElem?_eq_getElem hj
        have h2 : σ[j]? = some (σ[j]'(by omega)) := List.getElem?_eq_getElem (by omega)
        have R1 := R.perm ((zip_pull h1 h2).append_right T)
        have R2 := R1.addU (x := σ[j]'(by omega))
        rw [h1, h2]
        refine R2.perm ?_
        refine (List.Perm.swap _ _ _).trans ?_
        exact (((zip_put' hl hj h2).append_right T).symm.cons _).trans mid.symm
      · rw [List.set_eq_of_length_le (by omega), List.getElem?_eq_none (by omega), List.getElem?_eq_none (by omega)]
        exact (R.addU (x := none)).perm mid.symm
    have := pullAll (outs := js) hn'.2 (by rw [List.length_set]; exact hl) step
    rw [caps_set hn'.1] at this
    show Rep F ((((ρ[j]?).getD .un, (σ[j]?).join) :: (caps js ρ).zip (vals σ js)) ++ ((cut js (ρ.set j .un)).zip σ ++ T)) H
    refine this.perm ?_
    refine List.Perm.trans ?_ (List.Perm.refl _)
    rw [← List.append_assoc]
    exact mid.trans (by rw [List.append_assoc]; exact .refl _)
theorem putAll : ∀ {outs : List Nat} {cs : List Sl} {ρ : En} {T : List Rw}, outs.Nodup → ρ.length = σ.length → cs.length = outs.length → Rep F (cs.zip (vals σ outs) ++ ((cut outs ρ).zip σ ++ T)) H → Rep F ((back outs cs ρ).zip σ ++ T) H
  | [], [], _, _, _, _, _, R => R
  | [], _ :: _, _, _, _, _, h, _ => by simp at h
  | _ :: _, [], _, _, _, _, h, _ => by simp at h
  | j :: js, c :: cs, ρ, T, hn, hl, hc, R => by
    have hn' := List.nodup_cons.mp hn
    refine putAll (outs := js) (cs := cs) (ρ := ρ.set j c) hn'.2 (by rw [List.length_set]; exact hl) (by simpa using hc) ?_
    have R1 : Rep F ((c, (σ[j]?).join) :: (cs.zip (vals σ js) ++ ((cut js (ρ.set j .un)).zip σ ++ T))) H := R
    rw [cut_set hn'.1] at R1 ⊢
    have hcl : (cut js ρ).length = σ.length := cut_len.trans hl
    by_cases hj : j < ρ.length
    · have hjc : j < (cut js ρ).length := by rw [cut_len]; exact hj
      have h2 : σ[j]? = some (σ[j]'(by omega)) := List.getElem?_eq_getElem (by omega)
      rw [h2] at R1
      have p1 := ((zip_put' (s := .un) hcl hjc h2).append_right T)
      have p2 := ((zip_put' (s := c) hcl hjc h2).append_right T)
      have R2 := R1.perm ((List.Perm.append_left _ p1).cons _)
      have R3 := R2.perm ((mid.cons _).trans (.swap _ _ _))
      exact R3.tail.perm (mid.symm.trans (List.Perm.append_left _ p2.symm))
    · have hz : (cut js ρ).length ≤ j := by rw [cut_len]; omega
      rw [List.set_eq_of_length_le hz] at R1 ⊢
      exact R1.tail
theorem Rep.drops : ∀ {A P : List Rw}, Rep F (A ++ P) H → Rep F P H
  | [], _, R => R
  | _ :: _, _, R => Rep.drops R.tail
theorem Rep.addUs {P : List Rw} (R : Rep F P H) : ∀ n, Rep F (List.replicate n (.un, none) ++ P) H
  | 0 => R
  | n + 1 => (Rep.addUs R n).addU
def accR (ds : List Dx) (xs : List V) : List Rw := (ds.zip xs).map fun p => (.v (.tr p.1), some p.2)
theorem Rep.accs : ∀ {ds : List Dx} {xs : List V} {P : List Rw}, ds.length = xs.length → Rep F (accR ds xs ++ P) H → Rep F P H ∧ All2 (IsX (hid (owns P) (F.vis H))) ds xs
  | [], [], P, _, R => ⟨R, rfl⟩
  | [], _ :: _, _, h, _ => by simp at h
  | _ :: _, [], _, h, _ => by simp at h
  | d :: ds, x :: xs, P, h, R => by
    obtain ⟨v, e, hx⟩ := Rep.atT (show Rep F ((.v (.tr d), some x) :: (accR ds xs ++ P)) H from R)
    cases e
    obtain ⟨R1, h1⟩ := Rep.accs (ds := ds) (xs := xs) (by simpa using h) (Rep.tail (show Rep F ((.v (.tr d), some x) :: (accR ds xs ++ P)) H from R))
    refine ⟨R1, x, xs, rfl, hx.to (hid_less fun c hc => ?_), h1⟩
    unfold owns
    rw [List.flatMap_append]
    exact List.mem_append_right _ hc
end
section
variable {X : Cx} {Ex : ExT} {dsc scope : Scope} {tgs N' : List Str} {outs : List Nat} {tg iter elt : Expr} {ifs : List Expr} {pos : Pos} {ti : XI} {g : TG} {gx : XG} {tc : XC} {te : XT}
theorem comp_core {F : Fm} {n : Nat} (hgx : GX n g gx) (hno : outs.Nodup) {tcT : TT} {teT : TE} (htc : ∀ σ H Q, tXc F tc σ H Q → tcT σ H Q) (hte : ∀ σ H Q, tX F te σ H Q → teT σ H Q) {σ : St} {H' : Hp} {Q : VK} {Qx : Sv → En → Prop} {ρ' : En} {fr row : List Rw} {ds : List Dx} {J : It}
    (k : ∀ v s H' ρ', EOk F ρ' σ ((.v s, some v) :: fr) H' → Qx s ρ' → Q v H') (E' : EOk F ρ' σ (row ++ fr) H') (hJ : ItX F J row ds) (q : ds.length ≤ 1000000 ∧ compX n gx tc te (fun acc cs => Qx (.ol acc) (back outs cs ρ')) ds (caps outs ρ') []) :
    ∃ W : Nat → Nat → List V → Hp → Prop, (∃ m, W 0 m [] H') ∧ ∀ i m acc H, W i m acc H →
    (J.stop i H ∧ acc.length ≤ sizeLine ∧ ∀ l, H l = none → Q (.ref l) (upd H l (.lst acc))) ∨
    (J.go i H ∧ acc.length < sizeLine ∧ ∃ N : List V → Hp → Prop, (∀ acc' H', N acc' H' → ∃ m', m' < m ∧ W (i + 1) m' acc' H') ∧ ∀ x H', J.yld i H x H' → g x (pick n outs σ) H' fun σ2 H2 => tcT σ2 H2 fun b H3 =>
      if b = true then teT σ2 H3 fun y H4 => N (acc ++ [y]) H4 else N acc H3) := by
  obtain ⟨hd, q⟩ := q
  have zl := line1
  -- the rows at each turn
  refine ⟨fun i m acc H => m = ds.length - i ∧ i ≤ ds.length ∧ ∃ cs accD, cs.length = outs.length ∧ accD.length = acc.length ∧ acc.length ≤ i ∧ Rep F (cs.zip (vals σ outs) ++ (accR accD acc ++ (row ++ ((cut outs ρ').zip σ ++ fr)))) H ∧
    compX n gx tc te (fun acc cs => Qx (.ol acc) (back outs cs ρ')) (ds.drop i) cs accD, ⟨ds.length, by simp, Nat.zero_le _, caps outs ρ', [], by simp [caps], rfl, Nat.le_refl _, ?_, by simpa using q⟩, ?_⟩
  · have R := pullAll (outs := outs) hno E'.len E'.rep
    refine R.perm (List.Perm.append_left _ ?_)
    exact sw
  rintro i m acc H3 ⟨rfl, hi, cs, accD, hcl, hal, hai, R, hq⟩
  have hrow : Rep F (row ++ (cs.zip (vals σ outs) ++ (accR accD acc ++ ((cut outs ρ').zip σ ++ fr)))) H3 := by
    exact R.perm ((List.Perm.append_left _ sw).trans sw)
  by_cases hlt : i < ds.length
  · right
    have hdi : ds[i]? = some ds[i] := List.getElem?_eq_getElem hlt
    rw [List.drop_eq_getElem_cons hlt] at hq
    refine ⟨hJ.go _ _ i _ hrow hdi, by omega, fun acc' H4 => ∃ m', m' < ds.length - i ∧ (m' = ds.length - (i + 1) ∧ i + 1 ≤ ds.length ∧ ∃ cs accD, cs.length = outs.length ∧ accD.length = acc'.length ∧ acc'.length ≤ i + 1 ∧ Rep F (cs.zip (vals σ outs) ++ (accR accD acc' ++ (row ++ ((cut outs ρ').zip σ ++ fr)))) H4 ∧
      compX n gx tc te (fun acc cs => Qx (.ol acc) (back outs cs ρ')) (ds.drop (i + 1)) cs accD), fun acc' H4 h => h, fun x H4 hy => ?_⟩
    have R4 := hJ.yld _ _ i _ x H4 hrow hdi hy
    have hzip : ∀ (cs : List Sl), cs.length = outs.length → (List.replicate n Sl.un ++ cs).zip (pick n outs σ) = List.replicate n (Sl.un, none) ++ cs.zip (vals σ outs) := fun cs hcs => by
      unfold pick
      rw [List.zip_append (by rw [List.length_replicate, List.length_replicate]), List.zip_replicate]
      simp
    have Ei : EOk F (List.replicate n .un ++ cs) (pick n outs σ) ((.v (.tr ds[i]), some x) :: (accR accD acc ++ (row ++ ((cut outs ρ').zip σ ++ fr)))) H4 := by
      refine ⟨by rw [pick_len, List.length_append, List.length_replicate, hcl], ?_⟩
      rw [hzip cs hcl, List.append_assoc]
      refine Rep.addUs (R4.perm ?_) n
      exact ((sw.trans (List.Perm.append_left _ sw)).cons _).trans mid.symm
    -- how a turn ends
    have fin : ∀ {ρ3 : En} {σ2 : St} {H5 : Hp} {accD' : List Dx} {acc' : List V}, σ2.length = (pick n outs σ).length → (∀ j, n ≤ j → σ2[j]? = (pick n outs σ)[j]?) → EOk F ρ3 σ2 (accR accD' acc' ++ (row ++ ((cut outs ρ').zip σ ++ fr))) H5 → accD'.length = acc'.length → acc'.length ≤ i + 1 →
        compX n gx tc te (fun acc cs => Qx (.ol acc) (back outs cs ρ')) (ds.drop (i + 1)) (ρ3.drop n) accD' →
        ∃ m', m' < ds.length - i ∧ (m' = ds.length - (i + 1) ∧ i + 1 ≤ ds.length ∧ ∃ cs accD, cs.length = outs.length ∧ accD.length = acc'.length ∧ acc'.length ≤ i + 1 ∧ Rep F (cs.zip (vals σ outs) ++ (accR accD acc' ++ (row ++ ((cut outs ρ').zip σ ++ fr)))) H5 ∧
          compX n gx tc te (fun acc cs => Qx (.ol acc) (back outs cs ρ')) (ds.drop (i + 1)) cs accD) := fun {ρ3 σ2 H5 accD' acc'} hl2 hs2 E3 h1 h2 h3 => by
      have hl3 : ρ3.length = n + outs.length := by rw [E3.len, hl2, pick_len]
      refine ⟨ds.length - (i + 1), by omega, rfl, hlt, ρ3.drop n, accD', by rw [List.length_drop, hl3]; omega, h1, h2, ?_, h3⟩
      have hv : σ2.drop n = vals σ outs := by
        apply List.ext_getElem?
        intro j
        rw [List.getElem?_drop, hs2 _ (Nat.le_add_right n j)]
        unfold pick
        rw [List.getElem?_append_right (by rw [List.length_replicate]; omega), List.length_replicate, Nat.add_sub_cancel_left]
      have hz : ρ3.zip σ2 = (ρ3.take n).zip (σ2.take n) ++ (ρ3.drop n).zip (σ2.drop n) := by
        rw [← List.zip_append (by rw [List.length_take, List.length_take, E3.len]), List.take_append_drop, List.take_append_drop]
      have R5 := E3.rep
      rw [hz, hv, List.append_assoc] at R5
      exact Rep.drops R5
    refine hgx F _ _ _ H4 _ x _ _ Ei hq fun σ2 H5 ρ1 E1 hl2 hs2 q1 => htc _ _ _ ⟨ρ1, _, _, E1, q1, fun b H6 ρ2 E2 q2 => ?_⟩
    cases b with
    | false => exact fin hl2 hs2 E2 hal (by omega) q2
    | true =>
      refine hte _ _ _ ⟨ρ2, _, _, E2, q2, fun y s H7 ρ3 E3 q3 => ?_⟩
      refine fin (accD' := accD ++ [s.d]) (acc' := acc ++ [y]) hl2 hs2 ⟨E3.len, ?_⟩ (by rw [List.length_append, List.length_append, hal]; rfl) (by rw [List.length_append]; show acc.length + 1 ≤ _; omega) q3
      have R7 := (EOk.front E3).frz
      have he : accR (accD ++ [s.d]) (acc ++ [y]) = accR accD acc ++ [(.v (.tr s.d), some y)] := by
        unfold accR
        rw [List.zip_append hal, List.map_append]
        rfl
      rw [he, List.append_assoc]
      exact R7.perm (mid.symm.trans (List.Perm.append_left _ mid.symm))
  · left
    have hie : i = ds.length := by omega
    subst hie
    rw [List.drop_length] at hq
    refine ⟨hJ.stop _ _ _ hrow (Nat.le_refl _), by omega, fun l hl => ?_⟩
    have R1 := R.perm (sw.trans (List.Perm.append_left _ sw))
    obtain ⟨R2, ha⟩ := R1.accs hal
    have R3 : Rep F (row ++ ((.v (.ol accD), some (.ref l)) :: (cs.zip (vals σ outs) ++ ((cut outs ρ').zip σ ++ fr)))) (upd H3 l (.lst acc)) := (R2.newL hl ha).perm mid.symm
    have R4 : Rep F (cs.zip (vals σ outs) ++ ((cut outs ρ').zip σ ++ ((.v (.ol accD), some (.ref l)) :: fr))) (upd H3 l (.lst acc)) := R3.drops.perm (mid.symm.trans (List.Perm.append_left _ mid.symm))
    have hbl : ∀ {js : List Nat} {cs : List Sl} {ρ : En}, (back js cs ρ).length = ρ.length := by
      intro js
      induction js with
      | nil => intro cs ρ; cases cs <;> rfl
      | cons j js ih => intro cs ρ; cases cs with
        | nil => rfl
        | cons c cs => exact (ih (cs := cs) (ρ := ρ.set j c)).trans List.length_set
    exact k _ (.ol accD) _ (back outs cs ρ') ⟨hbl.trans E'.len, putAll hno E'.len hcl R4⟩ hq
theorem tComp_x {F : Fm} {n : Nat} (hgx : GX n g gx) (hno : outs.Nodup) : ∀ σ H Q, tX F (xComp n outs ti gx tc te) σ H Q → tComp n outs (tXi F ti) g (tXc F tc) (tX F te) σ H Q := by
  rintro σ H Q ⟨ρ, fr, Qx, E, t, k⟩
  exact ⟨ρ, fr, _, E, t, fun J H' ρ' row ds E' hJ q => comp_core hgx hno (fun _ _ _ z => z) (fun _ _ _ z => z) k E' hJ q⟩
end
end Lf

set_option Elab.async false
set_option linter.all false
set_option maxRecDepth 100000
set_option maxHeartbeats 4000000
namespace L2
open PySem
theorem PS.weak {X : Cx} {e : Stmt} {t u : TS} (h : PS X e t) (w : ∀ D σ H, u D σ H → t D σ H) : PS X e u := fun pins s σ H D I q => h pins s σ H D I (w D σ H q)
theorem PSs.weak {X : Cx} {e : List Stmt} {t u : TS} (h : PSs X e t) (w : ∀ D σ H, u D σ H → t D σ H) : PSs X e u := fun pins s σ H D I q => h pins s σ H D I (w D σ H q)
end L2
namespace Lf
open PySem L2
theorem xe_comp {X : Cx} {Ex : ExT} {dsc scope : Scope} {tgs N' N : List Str} {outs : List Nat} {tg iter elt : Expr} {ifs : List Expr} {pos : Pos} {ti : XI} {g : TG} {gx : XG} {tc : XC} {te : XT} (S : CompScope dsc scope N tgs outs N') (hi : XIt X Ex tg iter ti) (hg : ∀ cl C s H ex, PG (cxComp X N' scope cl C s H ex) tg g) (hgx : GX tgs.length g gx) (hgt : Tgt tgs.length g)
    (hcs : ∀ cl C s H ex, XCs (cxComp X N' scope cl C s H ex) noEx ifs tc) (he : ∀ cl C s H ex, XE (cxComp X N' scope cl C s H ex) noEx elt te) (hno : outs.Nodup := by decide) (hN0 : X.N = N := by rfl) (hsc : X.env.scope = dsc := by rfl) (hc : X.calm = true := by rfl) (hs : ∀ x, foldedSetIterable iter X.env x = pure x := by intro _; rfl) :
    XE X Ex (.ListComp elt [⟨tg, iter, ifs, 0⟩] scope pos) (xComp tgs.length outs ti gx tc te) := fun F =>
  (pe_comp S (hi F) hg hgt (fun a b c d e => hcs a b c d e F) (fun a b c d e => he a b c d e F) hN0 hsc hc hs).weak (tComp_x hgx hno)
structure XD where
  nx : En → Prop
  rt : Sv → En → Prop
  bk : En → Prop
  ct : En → Prop
abbrev XS := En → XD → Prop
structure DOk (F : Fm) (n : Nat) (fr : List Rw) (D : Ends) (d : XD) : Prop where
  nx : ∀ σ' H' ρ', σ'.length = n → EOk F ρ' σ' fr H' → d.nx ρ' → D.nx σ' H'
  rt : ∀ v s σ' H' ρ', σ'.length = n → EOk F ρ' σ' ((.v s, some v) :: fr) H' → d.rt s ρ' → D.rt v H'
  bk : ∀ σ' H' ρ', σ'.length = n → EOk F ρ' σ' fr H' → d.bk ρ' → D.bk σ' H'
  ct : ∀ σ' H' ρ', σ'.length = n → EOk F ρ' σ' fr H' → d.ct ρ' → D.ct σ' H'
def tXS (F : Fm) (G : XS) : TS := fun D σ H => ∃ ρ fr d, EOk F ρ σ fr H ∧ G ρ d ∧ DOk F σ.length fr D d
def XSt (X : Cx) (Ex : ExT) (st : Stmt) (G : XS) : Prop := ∀ F, [OkF X Ex F] → PS X st (tXS F G)
def XSs (X : Cx) (Ex : ExT) (st : List Stmt) (G : XS) : Prop := ∀ F, [OkF X Ex F] → PSs X st (tXS F G)
def xNext : XS := fun ρ D => D.nx ρ
def xSeq (G K : XS) : XS := fun ρ D => G ρ { D with nx := fun ρ' => K ρ' D }
def xSet (i : Nat) (t : XT) : XS := fun ρ D => t ρ fun s ρ' => D.nx (ρ'.set i (.v s))
def xRet (t : XT) : XS := fun ρ D => t ρ fun s ρ' => D.rt s ρ'
def xIf (c : XC) (G K : XS) : XS := fun ρ D => c ρ fun b ρ' => if b = true then G ρ' D else K ρ' D
def forX (gx : XG) (G : XS) (D : XD) : List Dx → En → Prop
  | [], ρ => D.nx ρ
  | d :: ds, ρ => gx d ρ fun ρ1 => G ρ1 { D with nx := forX gx G D ds, ct := forX gx G D ds, bk := D.nx }
def xFor (ti : XI) (gx : XG) (G : XS) : XS := fun ρ D => ti ρ fun ds ρ' => forX gx G D ds ρ'
section
variable {X : Cx} {Ex : ExT} {st : Stmt} {rest : List Stmt} {G K : XS} {e c tg iter : Expr} {t : XT} {tc : XC} {pos : Pos} {i : Nat}
theorem xss_nil : XSs X Ex [] xNext := fun F => (pss_nil (X := X)).weak fun D σ H => by
  rintro ⟨ρ, fr, d, E, q, k⟩
  exact k.nx σ H ρ rfl E q
theorem xss_cons (h : XSt X Ex st G) (h' : XSs X Ex rest K) : XSs X Ex (st :: rest) (xSeq G K) := fun F => (pss_cons (h F) (h' F)).weak fun D σ H => by
  rintro ⟨ρ, fr, d, E, q, k⟩
  exact ⟨ρ, fr, _, E, q, ⟨fun σ' H' ρ' hl E' q' => ⟨ρ', fr, d, E', q', by rw [hl]; exact k⟩, k.rt, k.bk, k.ct⟩⟩
theorem xss_one (h : XSt X Ex st G) : XSs X Ex [st] G := fun F => pss_one (h F)
theorem xs_setP (h : ∀ F, [OkF X Ex F] → PS X st (tAsg (tX F t) (gName i))) : XSt X Ex st (xSet i t) := fun F => (h F).weak fun D σ H => by
  rintro ⟨ρ, fr, d, E, q, k⟩
  exact ⟨ρ, fr, _, E, q, fun v s H' ρ' E' q' => k.nx _ H' _ List.length_set (eok_set E') q'⟩
theorem xs_ret (he : XE X Ex e t) : XSt X Ex (.Return (some e) pos) (xRet t) := fun F => (ps_ret (he F)).weak fun D σ H => by
  rintro ⟨ρ, fr, d, E, q, k⟩
  exact ⟨ρ, fr, _, E, q, fun v s H' ρ' E' q' => k.rt v s σ H' ρ' rfl E' q'⟩
theorem xs_if {a b : List Stmt} (hc : XTe X Ex c tc) (ha : XSs X Ex a G) (hb : XSs X Ex b K) : XSt X Ex (.If c a b pos) (xIf tc G K) := fun F => (ps_if (hc F) (ha F) (hb F)).weak fun D σ H => by
  rintro ⟨ρ, fr, d, E, q, k⟩
  refine ⟨ρ, fr, _, E, q, fun b H' ρ' E' q' => ?_⟩
  cases b with
  | true => exact ⟨ρ', fr, d, E', q', k⟩
  | false => exact ⟨ρ', fr, d, E', q', k⟩
def xNo : XS := fun _ _ => False
theorem xs_no : XSt X Ex st xNo := fun F => (ps_never (X := X)).weak fun D σ H => by
  rintro ⟨ρ, fr, d, E, q, k⟩
  exact q
theorem for_core {F : Fm} {n : Nat} {g : TG} {gx : XG} (hgx : GX n g gx) {tb : TS} (htb : ∀ D σ H, tXS F G D σ H → tb D σ H) {D : Ends} {d : XD} {σ : St} {H' : Hp} {ρ' : En} {fr row : List Rw} {ds : List Dx} {J : It} (k : DOk F σ.length fr D d) (E' : EOk F ρ' σ (row ++ fr) H') (hJ : ItX F J row ds) (q' : forX gx G d ds ρ') :
    ∃ W : Nat → Nat → St → Hp → Prop, (∃ m, W 0 m σ H') ∧ ∀ i m σ H, W i m σ H →
    (J.stop i H ∧ D.nx σ H) ∨ (J.go i H ∧ ∃ N : St → Hp → Prop, (∀ σ' H', N σ' H' → ∃ m', m' < m ∧ W (i + 1) m' σ' H') ∧ ∀ x H', J.yld i H x H' → g x σ H' fun σ2 H2 => tb { D with nx := N, ct := N, bk := D.nx } σ2 H2) := by
  refine ⟨fun i m σ1 H1 => m = ds.length - i ∧ i ≤ ds.length ∧ σ1.length = σ.length ∧ ∃ ρ1, EOk F ρ1 σ1 (row ++ fr) H1 ∧ forX gx G d (ds.drop i) ρ1, ⟨ds.length, by simp, Nat.zero_le _, rfl, ρ', E', by simpa using q'⟩, ?_⟩
  rintro i m σ1 H1 ⟨rfl, hi, hl, ρ1, E1, q1⟩
  have hrow : Rep F (row ++ (ρ1.zip σ1 ++ fr)) H1 := E1.rep.perm sw
  by_cases hlt : i < ds.length
  · right
    have hdi : ds[i]? = some ds[i] := List.getElem?_eq_getElem hlt
    rw [List.drop_eq_getElem_cons hlt] at q1
    refine ⟨hJ.go _ _ i _ hrow hdi, fun σ2 H2 => ∃ m', m' < ds.length - i ∧ (m' = ds.length - (i + 1) ∧ i + 1 ≤ ds.length ∧ σ2.length = σ.length ∧ ∃ ρ1, EOk F ρ1 σ2 (row ++ fr) H2 ∧ forX gx G d (ds.drop (i + 1)) ρ1), fun _ _ h => h, fun x H2 hy => ?_⟩
    have R2 := hJ.yld _ _ i _ x H2 hrow hdi hy
    have E2 : EOk F ρ1 σ1 ((.v (.tr ds[i]), some x) :: (row ++ fr)) H2 := ⟨E1.len, R2.perm ((sw.cons _).trans mid.symm)⟩
    refine hgx F ρ1 σ1 _ H2 _ x _ _ E2 q1 fun σ2 H3 ρ2 E3 hl2 _ q2 => ?_
    have nxt : ∀ σ' H' ρ', σ'.length = σ2.length → EOk F ρ' σ' (row ++ fr) H' → forX gx G d (ds.drop (i + 1)) ρ' → ∃ m', m' < ds.length - i ∧ (m' = ds.length - (i + 1) ∧ i + 1 ≤ ds.length ∧ σ'.length = σ.length ∧ ∃ ρ1, EOk F ρ1 σ' (row ++ fr) H' ∧ forX gx G d (ds.drop (i + 1)) ρ1) := fun σ' H' ρ' h1 h2 h3 =>
      ⟨ds.length - (i + 1), by omega, rfl, hlt, by rw [h1, hl2, hl], ρ', h2, h3⟩
    have ends : ∀ {σ' : St} {H' : Hp} {ρ' : En} {fr2 : List Rw}, EOk F ρ' σ' (row ++ fr2) H' → EOk F ρ' σ' fr2 H' := fun h => ⟨h.len, Rep.drops (A := row) (h.rep.perm sw)⟩
    refine htb _ _ _ ⟨ρ2, row ++ fr, _, E3, q2, ⟨nxt, fun v s σ' H' ρ' h1 h2 h3 => k.rt v s σ' H' ρ' (by rw [h1, hl2, hl]) ?_ h3, fun σ' H' ρ' h1 h2 h3 => k.nx σ' H' ρ' (by rw [h1, hl2, hl]) (ends h2) h3, nxt⟩⟩
    exact ends ⟨h2.len, h2.rep.perm (List.Perm.append_left _ mid.symm)⟩
  · left
    have hie : i = ds.length := by omega
    subst hie
    rw [List.drop_length] at q1
    exact ⟨hJ.stop _ _ _ hrow (Nat.le_refl _), k.nx σ1 H1 ρ1 hl ⟨E1.len, Rep.drops (A := row) hrow⟩ q1⟩
theorem tFor_x {F : Fm} {ti : XI} {n : Nat} {g : TG} {gx : XG} (hgx : GX n g gx) : ∀ D σ H, tXS F (xFor ti gx G) D σ H → tFor (tXi F ti) g (tXS F G) D σ H := by
  rintro D σ H ⟨ρ, fr, d, E, q, k⟩
  exact ⟨ρ, fr, _, E, q, fun J H' ρ' row ds E' hJ q' => for_core hgx (fun _ _ _ z => z) k E' hJ q'⟩
theorem xs_for {body : List Stmt} {ti : XI} {n : Nat} {g : TG} {gx : XG} (hp : PassesOwn (model X.prog X.w) X.A X.env X.xe) (hc : X.calm = true) (hi : XIt X Ex tg iter ti) (hg : PG X tg g) (hgx : GX n g gx) (hb : XSs X Ex body G) (hs : ∀ x, foldedSetIterable iter X.env x = pure x := by intro _; rfl) : XSt X Ex (.For tg iter body [] pos) (xFor ti gx G) := fun F =>
  (ps_for hp hc (hi F) hg (hb F) hs).weak (tFor_x hgx)
theorem xs_of (h : ∀ F, [OkF X Ex F] → PS X st (tXS F G)) : XSt X Ex st G := h
end
end Lf

set_option Elab.async false
set_option linter.all false
set_option maxRecDepth 100000
set_option maxHeartbeats 4000000
namespace Lf
open PySem L2
section
variable {F : Fm} {ρ : En} {σ : St} {fr : List Rw} {H : Hp} {i : Nat}
theorem lent_put {l : List Dx} {f : List Dx → Sl} (E : EOk F ρ σ fr H) (h : (ρ[i]?).bind lent = some (l, f)) : ∃ p ws, σ[i]? = some (some (.ref p)) ∧ H p = some (.lst ws) ∧ All2 (IsX (hid (owns (ρ.zip σ ++ fr)) (F.vis H))) l ws ∧
    ∀ l' ws', All2 (IsX (hid (owns (ρ.zip σ ++ fr)) (F.vis H))) l' ws' → EOk F (ρ.set i (f l')) σ fr (upd H p (.lst ws')) := by
  obtain ⟨sl, h3, h4⟩ := Option.bind_eq_some_iff.mp h
  obtain ⟨v, hv, hi, R⟩ := eok_slot E h3
  obtain ⟨p, ws, rfl, h5, h6, h7, h8⟩ := lent_row h4 R
  have hO : (owns (ρ.zip σ ++ fr)).Perm (owns ((sl, some (V.ref p)) :: ((ρ.zip σ).eraseIdx i ++ fr))) := ((zip_pull h3 hv).append_right fr).flatMap_right _
  rw [owns_some h6] at hO
  refine ⟨p, ws, hv, h5, h7.imp fun _ _ z => z.to (hid_less fun a ha => hO.mem_iff.mp ha), fun l' ws' hl' => ?_⟩
  obtain ⟨k1, k2, k3⟩ := h8 l'
  exact eok_put E.len hi hv (R.put h6 k1 k2 (k3 upd_same (hl'.imp fun _ _ z => (z.to (hid_less fun a ha => hO.mem_iff.mpr ha)).to hid_put)))
theorem lent_at {l : List Dx} {f : List Dx → Sl} (E : EOk F ρ σ fr H) (h : (ρ[i]?).bind lent = some (l, f)) : ∃ p ws, σ[i]? = some (some (.ref p)) ∧ H p = some (.lst ws) := by
  obtain ⟨p, ws, h1, h2, _⟩ := lent_put E h
  exact ⟨p, ws, h1, h2⟩
end
def xApp (i : Nat) (t : XT) : XS := fun ρ D => ((ρ[i]?).bind lent).isSome = true ∧ t ρ fun s ρ' => match (ρ'[i]?).bind lent with
  | some (l, f) => l.length < 1000000 ∧ D.nx (ρ'.set i (f (l ++ [s.d])))
  | none => False
def xPop (i : Nat) : XT := fun ρ Q => match (ρ[i]?).bind lent with
  | some (l, f) => (match l.getLast? with | some d => Q (.tr d) (ρ.set i (f l.dropLast)) | none => False)
  | none => False
section
variable {X : Cx} {Ex : ExT} {st : Stmt} {i : Nat} {t ti te tk tv : XT} {F : Fm} {K : PySem.W.Frag}
theorem tApp_x : ∀ D σ H, tXS F (xApp i t) D σ H → tDrop (tBM K "list" rAppend (tVar i) (tCons (tX F t) tNil)) D σ H := by
  rintro D σ H ⟨ρ, fr, d, E, ⟨q0, q⟩, k⟩
  obtain ⟨⟨l0, f0⟩, h0⟩ := Option.isSome_iff_exists.mp q0
  obtain ⟨p, ws, hv, hp⟩ := lent_at E h0
  refine ⟨.ref p, hv, .inl ⟨rfl, ws, SqL.of hp⟩, ρ, fr, _, E, q, fun y s H' ρ' E' q' => ?_⟩
  split at q'
  · rename_i l f hb
    obtain ⟨R, hx⟩ := E'.one
    obtain ⟨p', ws', hv', hp', hl, hput⟩ := lent_put E'.drop hb
    rw [hv] at hv'
    cases hv'
    exact ⟨p, ws', y, rfl, rfl, hp', by rw [hl.len]; have := line1; omega, k.nx σ _ _ rfl (hput _ _ (hl.snoc hx)) q'.2⟩
  · exact q'.elim
theorem all2_last {α β : Type} {g : α → β → Prop} {l : List α} {m : List β} {d : α} (h : All2 g l m) (e : l.getLast? = some d) : ∃ v, m[m.length - 1]? = some v ∧ g d v := by
  rw [List.getLast?_eq_getElem?] at e
  obtain ⟨v, h1, h2⟩ := h.at e
  exact ⟨v, by rw [h.len]; exact h1, h2⟩
theorem all2_dl {α β : Type} {g : α → β → Prop} {l : List α} {m : List β} (h : All2 g l m) : All2 g l.dropLast m.dropLast := by
  rw [List.dropLast_eq_take, List.dropLast_eq_take, h.len]
  exact h.take _
theorem tPop_x : ∀ σ H Q, tX F (xPop i) σ H Q → tBM0 K "list" rPop (tVar i) σ H Q := by
  rintro σ H Q ⟨ρ, fr, Qx, E, q, k⟩
  unfold xPop at q
  split at q
  · rename_i l f hb
    obtain ⟨p, ws, hv, hp, hl, hput⟩ := lent_put E hb
    split at q
    · rename_i d hd
      obtain ⟨v, h1, h2⟩ := all2_last hl hd
      refine ⟨.ref p, hv, .inl ⟨rfl, ws, SqL.of hp⟩, p, ws, v, rfl, rfl, hp, h1, k v (.tr d) _ _ ?_ q⟩
      have E2 := hput _ _ (all2_dl hl)
      refine EOk.back E2.len (E2.rep.add (h2.to ?_))
      obtain ⟨sl, h3, h4⟩ := Option.bind_eq_some_iff.mp hb
      obtain ⟨v', hv', hi, R⟩ := eok_slot E h3
      rw [hv] at hv'; cases hv'
      obtain ⟨_, _, e', _, h6, _, h8⟩ := lent_row h4 R
      cases e'
      have hO : (owns (ρ.zip σ ++ fr)).Perm (owns ((sl, some (V.ref p)) :: ((ρ.zip σ).eraseIdx i ++ fr))) := ((zip_pull h3 hv).append_right fr).flatMap_right _
      have hO2 : (owns ((ρ.set i (f l.dropLast)).zip σ ++ fr)).Perm (owns ((f l.dropLast, some (V.ref p)) :: ((ρ.zip σ).eraseIdx i ++ fr))) := ((zip_put' E.len hi hv).append_right fr).flatMap_right _
      rw [owns_some h6] at hO
      rw [owns_some (h8 _).1] at hO2
      intro b o hb
      have h9 := hid_less (O' := p :: owns ((ρ.zip σ).eraseIdx i ++ fr)) (fun a ha => hO.mem_iff.mpr ha) _ _ hb
      exact hid_less (fun a ha => hO2.mem_iff.mp ha) _ _ (hid_put (o := .lst ws.dropLast) _ _ h9)
    · exact q.elim
  · exact q.elim
end
def startX (N : List Str) (ds : List Dx) : En := ds.map (fun d => .v (.tr d)) ++ List.replicate (N.length - ds.length) .un
abbrev retX (Q : Sv → Prop) : XD := ⟨fun _ => Q (.tr .non), fun s _ => Q s, fun _ => False, fun _ => False⟩
theorem rep_args {F : Fm} {H : Hp} (R0 : Rep F [] H) {m : Nat} : ∀ {ds : List Dx} {vs : List V}, All2 (IsX (F.vis H)) ds vs → Rep F ((ds.map (fun d => Sl.v (.tr d)) ++ List.replicate m Sl.un).zip (vs.map some ++ List.replicate m none)) H
  | [], _, h => by
    rw [show _ = [] from h]
    simp only [List.map_nil, List.nil_append]
    rw [List.zip_replicate, Nat.min_self]
    have := R0.addUs m
    simpa using this
  | d :: ds, _, ⟨v, vr, e, h1, h2⟩ => by
    subst e
    have R := rep_args (m := m) R0 h2
    simp only [List.map_cons, List.cons_append, List.zip_cons_cons]
    refine R.add (h1.to fun b o hb => hid_some.mpr ⟨fun z => ?_, hb⟩)
    obtain ⟨r, hr, hb⟩ := List.mem_flatMap.mp z
    have : ∀ {ds : List Dx} {vs : List (Option V)} {r : Rw}, r ∈ ((ds.map (fun d => Sl.v (.tr d)) ++ List.replicate m Sl.un).zip vs) → ownA r = [] := by
      intro ds vs r hr
      obtain ⟨a, b⟩ := r
      have := (List.of_mem_zip hr).1
      rcases List.mem_append.mp this with h | h
      · obtain ⟨d, _, rfl⟩ := List.mem_map.mp h; rfl
      · rw [(List.mem_replicate.mp h).2]; rfl
    rw [this hr] at hb
    cases hb
theorem res_ok {H Hs : Hp} {sub : Same Hs H} {nb : ∀ b ∈ ([] : List Addr), Hs b = none} {ib : ∀ b ∈ ([] : List Addr), ∃ o, H b = some o} {P : List Rw} {H' : Hp} {s : Sv} {v : V} (R : Rep ⟨H, Hs, [], sub, nb, ib⟩ ((.v s, some v) :: P) H') : Same H H' ∧ ResOk Hs H H' s v := by
  refine ⟨fun b o h => R.kp b o h (by simp), ?_⟩
  match s with
  | .tr d =>
    obtain ⟨v', e, h⟩ := R.atT
    cases e
    exact h.to hid_sub
  | .ol l =>
    obtain ⟨a, vs, e, h1, h2⟩ := R.atL
    cases e
    exact ⟨a, vs, rfl, R.fr _ List.mem_cons_self a (List.mem_singleton.mpr rfl), h1, h2.imp fun _ _ z => z.to (hid_less fun c hc => by rw [List.mem_singleton.mp hc]; exact List.mem_cons_self)⟩
  | .od l =>
    obtain ⟨a, vs, e, h1, h2⟩ := R.atD
    cases e
    exact ⟨a, vs, rfl, R.fr _ List.mem_cons_self a (List.mem_singleton.mpr rfl), h1, h2.imp fun _ _ z => z.to (hid_less fun c hc => by rw [List.mem_singleton.mp hc]; exact List.mem_cons_self)⟩
  | .ow o =>
    have hn := R.nd
    rw [owns_cons] at hn
    obtain ⟨x, e, h⟩ := R.ok _ List.mem_cons_self
    cases e
    refine ⟨(List.nodup_append.mp hn).1, fun a ha => R.fr _ List.mem_cons_self a ha, OwOk.mono (.of (hid_less fun c hc => ?_)) o v (fun _ _ => rfl) h⟩
    rw [owns_cons]
    exact List.mem_append_left _ hc
theorem fn_x {P : Program} {w : World} {K : PySem.W.Frag} {mg : Str → Option Value} {base : Heap} {x : Str} {st : Stmt} {f : Addr} {fd : FuncData} {N ps : List Str} {k : Nat} {g : GC} (Fn : Fun K x x st f fd) (S : FnScope N ps (defScope st)) (hlen : ∀ ds Q, g ds Q → ds.length = ps.length) (hN : ps.length ≤ N.length)
    (hbody : ∀ (cdv : Value) (A : Around) (outer : List Env) (s : Shared) (H : Hp) (E : XK), Room k (A.deeper (PyProof.Rows.envOfC x (defScope st) s.heap.objs.size f cdv)) →
      ∃ G, XSs (cxOf CX0 P w K mg base N x (defScope st) f cdv A outer s H E).nox noEx (defBody st) G ∧ ∀ ds Q, g ds Q → G (startX N ds) (retX Q)) : FnOk P w K mg base CX0 (k + 1) f fd ps (spX g) := by
  refine Fn.ok S (fun vs H Q E h => ?_) (fun cdv A outer s H vs Q E hr h => ?_)
  · obtain ⟨Hs, ds, Qx, h1, h2, h3, _⟩ := h
    rw [h2.len]
    exact hlen ds Qx h3
  obtain ⟨Hs, ds, Qx, h1, h2, h3, h4⟩ := h
  obtain ⟨G, hG, hq⟩ := hbody cdv A outer s H E hr
  have hl := hlen ds Qx h3
  refine ⟨_, hG ⟨H, Hs, [], h1, by simp, by simp⟩, startX N ds, [], retX Qx, ⟨?_, ?_⟩, hq ds Qx h3, ⟨fun σ' H' ρ' _ E' q => ?_, fun v s σ' H' ρ' _ E' q => ?_, fun _ _ _ _ _ q => q.elim, fun _ _ _ _ _ q => q.elim⟩⟩
  · unfold startX L2.start
    simp only [List.length_append, List.length_map, List.length_replicate]
    rw [h2.len]
  · rw [List.append_nil]
    have hv : (Fm.vis ⟨H, Hs, [], h1, by simp, by simp⟩ H) = ext Hs H H := rfl
    have R0 : Rep ⟨H, Hs, [], h1, by simp, by simp⟩ [] H := ⟨List.nodup_nil, fun r hr => by simp at hr, fun r hr => by simp at hr, fun b o h _ => h, fun b hb => by simp at hb⟩
    unfold startX L2.start
    rw [h2.len]
    refine rep_args R0 (h2.imp fun _ _ z => z.to fun b o hb => ?_)
    cases q : H b with
    | none => rw [h1 _ _ hb] at q; cases q
    | some u => exact (ext_old q).trans hb
  · have R := E'.rep.add (d := .non) (v := .non) IsX.of_non
    obtain ⟨e1, e2⟩ := res_ok R
    exact h4 _ _ _ e1 e2 q
  · obtain ⟨e1, e2⟩ := res_ok E'.front
    exact h4 _ _ _ e1 e2 q
end Lf

set_option Elab.async false
set_option linter.all false
set_option maxRecDepth 100000
set_option maxHeartbeats 4000000
namespace L2
open PySem
end L2
namespace Lf
open PySem L2
end Lf

set_option Elab.async false
set_option linter.all false
set_option maxRecDepth 100000
set_option maxHeartbeats 4000000
namespace Lf
open PySem L2
def xChain (g g' : G2) (ta tb tc : XT) : XT := fun ρ Q => ta ρ fun a ρ1 => tb ρ1 fun b ρ2 => g a.d b.d fun s => match s with
  | .tr (.bl k) => if k = true then tc ρ2 fun c ρ3 => g' b.d c.d fun s' => Q s' ρ3 else Q (.tr (.bl false)) ρ2
  | _ => False
theorem tChain_x {F : Fm} {r r' : R2} {g g' : G2} {ta tb tc : XT} (hx : OpX r g) (hx' : OpX r' g') : ∀ σ H Q, tX F (xChain g g' ta tb tc) σ H Q → tChain r r' (tX F ta) (tX F tb) (tX F tc) σ H Q := by
  rintro σ H Q ⟨ρ, fr, Qx, E, t, k⟩
  refine ⟨ρ, fr, _, E, t, fun v s H' ρ' E' t' => ⟨ρ', _, _, E', t', fun w s2 H2 ρ2 E2 t2 => ?_⟩⟩
  obtain ⟨R, h1, h2⟩ := E2.two
  have E2b : EOk F ρ2 σ ((.v s2, some w) :: fr) H2 := ⟨E2.len, ((E2.rep.perm (List.Perm.append_left _ (.swap _ _ _))).perm mid).tail.perm (.refl _)⟩
  have E2c : EOk F ρ2 σ ((.v (.tr s2.d), some w) :: fr) H2 := EOk.back E2.len (E2b.front.frz)
  obtain ⟨Rb, hb⟩ := E2c.one
  have h1b : IsX (hid (owns (ρ2.zip σ ++ (.v (.tr s2.d), some w) :: fr)) (F.vis H2)) s.d v := h1.to (hid_less fun c hc => by
    have : (owns ((.v (.tr s2.d), some w) :: (ρ2.zip σ ++ fr))).Perm (owns (ρ2.zip σ ++ (.v (.tr s2.d), some w) :: fr)) := mid.symm.flatMap_right _
    have := this.mem_iff.mpr hc
    rw [owns_none rfl] at this
    exact this)
  have h2b : IsX (hid (owns (ρ2.zip σ ++ (.v (.tr s2.d), some w) :: fr)) (F.vis H2)) s2.d w := hb.to (hid_less fun c hc => by
    have : (owns ((.v (.tr s2.d), some w) :: (ρ2.zip σ ++ fr))).Perm (owns (ρ2.zip σ ++ (.v (.tr s2.d), some w) :: fr)) := mid.symm.flatMap_right _
    have := this.mem_iff.mpr hc
    rw [owns_none rfl] at this
    exact this)
  refine hx F (ρ2.zip σ ++ (.v (.tr s2.d), some w) :: fr) H2 s.d s2.d v w _ _ E2c.rep h1b h2b t2 fun z s3 H3 R3 q => ?_
  split at q
  · rename_i kb
    obtain ⟨z', e, hz⟩ := R3.atT
    cases e
    cases hz.bl_eq
    refine ⟨kb, rfl, ?_⟩
    have E3 : EOk F ρ2 σ ((.v (.tr s2.d), some w) :: fr) H3 := ⟨E2.len, R3.tail⟩
    cases kb with
    | true =>
      refine ⟨ρ2, _, _, E3, q, fun u s4 H4 ρ4 E4 q4 => ?_⟩
      obtain ⟨R5, h5, h6⟩ := E4.two
      exact hx' F _ H4 s2.d s4.d w u Q (fun z => Qx z ρ4) R5 h5 h6 q4 fun v' s' H' R' q => k v' s' H' ρ4 (EOk.back E4.len R') q
    | false => exact k _ _ H3 ρ2 (EOk.back E2.len (E3.drop.rep.add (IsX.of_bl _))) q
  · exact q.elim
section
variable {X : Cx} {Ex : ExT} {a b c e : Expr} {pos : Pos} {r r' : R2} {g g' : G2} {ta tb tc te : XT} {op op' : CmpOp}
theorem xe_chain (ho : OpR X (compareOp op) r) (hx : OpX r g) (ho' : OpR X (compareOp op') r') (hx' : OpX r' g') (ha : XE X Ex a ta) (hb : XE X Ex b tb) (hc : XE X Ex c tc) (hm : lastMarks [op, op'] [b, c] = false := by with_unfolding_all rfl) : XE X Ex (.Compare a [op, op'] [b, c] pos) (xChain g g' ta tb tc) := fun F => (pe_chain ho ho' (ha F) (hb F) (hc F) hm).weak (tChain_x hx hx')
end
abbrev XO := En → (Option Int → En → Prop) → Prop
def tXo (F : Fm) (t : XO) : TO := fun σ H Q => ∃ ρ fr Qx, EOk F ρ σ fr H ∧ t ρ Qx ∧ ∀ b H' ρ', EOk F ρ' σ fr H' → Qx b ρ' → Q b H'
def XOp (X : Cx) (Ex : ExT) (e : Option Expr) (t : XO) : Prop := ∀ F, [OkF X Ex F] → PO X e (tXo F t)
def xoN : XO := fun ρ Q => Q none ρ
def xoS (t : XT) : XO := fun ρ Q => t ρ fun s ρ' => match s.d with
  | .int i => Q (some i) ρ'
  | _ => False
theorem xo_none {X : Cx} {Ex : ExT} : XOp X Ex none xoN := fun F _ pins s σ H Q I h => by
  obtain ⟨ρ, fr, Qx, E, t, k⟩ := h
  exact po_none pins s σ H Q I (k none H ρ E t)
theorem xo_some {X : Cx} {Ex : ExT} {e : Expr} {t : XT} (h : XE X Ex e t) : XOp X Ex (some e) (xoS t) := fun F _ pins s σ H Q I hq => by
  refine po_some (h F) pins s σ H Q I ?_
  obtain ⟨ρ, fr, Qx, E, t, k⟩ := hq
  refine ⟨ρ, fr, _, E, t, fun v s H' ρ' E' q => ?_⟩
  split at q
  · rename_i i hi
    obtain ⟨R, hx⟩ := E'.one
    rw [hi] at hx
    cases hx.int_eq
    exact ⟨i, rfl, k (some i) H' ρ' E'.drop q⟩
  · exact q.elim
def cutX {α : Type} (xs : List α) (lo hi : Option Int) : List α := (xs.drop (HT.sIx xs.length 0 lo)).take (HT.sIx xs.length xs.length hi - HT.sIx xs.length 0 lo)
def slX (a : Dx) (lo hi : Option Int) (Q : Sv → Prop) : Prop := match a with
  | .lst l => Q (.ol (cutX l lo hi))
  | .str z => z.length ≤ 1000000 ∧ Q (.tr (.str (Txt.slice z lo hi)))
  | _ => False
def xSl (t : XT) (lo hi : XO) : XT := fun ρ Q => t ρ fun a ρ1 => lo ρ1 fun l ρ2 => hi ρ2 fun h ρ3 => slX a.d l h fun s => Q s ρ3
theorem xe_slice {X : Cx} {Ex : ExT} {e : Expr} {lo hi : Option Expr} {p2 pos : Pos} {t : XT} {tl th : XO} (K : PySem.W.Frag) (he : XE X Ex e t) (hl : XOp X Ex lo tl) (hh : XOp X Ex hi th) (h : X.K = K := by rfl) : XE X Ex (.Subscript e (.Slice lo hi none p2) pos) (xSl t tl th) := fun F =>
  (pe_slice (SlR.or (sl_listK K h) sl_str) (he F) (hl F) (hh F)).weak fun σ H Q => by
    rintro ⟨ρ, fr, Qx, E, t, k⟩
    refine ⟨ρ, fr, _, E, t, fun v s H' ρ' E' q => ⟨ρ', _, _, E', q, fun l H2 ρ2 E2 q2 => ⟨ρ2, _, _, E2, q2, fun u H3 ρ3 E3 q3 => ?_⟩⟩⟩
    obtain ⟨R, hx⟩ := E3.one
    unfold slX at q3
    split at q3
    · rename_i m hm
      rw [hm] at hx
      obtain ⟨a, vs, rfl, h1, h2⟩ := hx.lst_eq
      refine .inl ⟨a, vs, rfl, SqL.of (R.hv _ _ h1), fun p hp => k _ _ _ ρ3 (EOk.back E3.len (R.newL hp ?_)) q3⟩
      unfold cutV cutX
      rw [h2.len]
      exact (h2.drop _).take _
    · rename_i z hz
      rw [hz] at hx
      cases hx.str_eq
      exact .inr ⟨z, rfl, by have := line1; omega, k _ _ H3 ρ3 (EOk.back E3.len (R.add (IsX.of_str _))) q3.2⟩
    · exact q3.elim
def xRevL (t : XT) : XT := fun ρ Q => t ρ fun s ρ' => match s.d with
  | .lst l => Q (.ol l.reverse) ρ'
  | _ => False
def allX : GC
  | [.lst l], Q => (∃ bs : List Bool, l = bs.map Dx.bl ∧ Q (.tr (.bl (bs.all id))))
  | _, _ => False
theorem bls_are {G : Hp} : ∀ {bs : List Bool} {vs : List V}, All2 (IsX G) (bs.map Dx.bl) vs → vs = bs.map V.bl
  | [], _, h => h
  | b :: bs, _, ⟨v, vr, e, h1, h2⟩ => by rw [e, h1.bl_eq, bls_are h2]; rfl
theorem cx_all {K : PySem.W.Frag} : CallX (rAllL K) allX := by
  intro F P H ds xs Q Qx R hs g k
  unfold allX at g
  split at g
  · obtain ⟨bs, rfl, g⟩ := g
    obtain ⟨x, rfl, hx⟩ := all2_1 hs
    obtain ⟨a, vs, rfl, h1, h2⟩ := hx.lst_eq
    have := bls_are h2
    subst this
    exact ⟨a, bs, rfl, SqL.of (R.hv _ _ h1), k _ _ H (R.add (IsX.of_bl _)) g⟩
  · exact g.elim
theorem call_allA {X : Cx} (K : PySem.W.Frag) (hc : X.calm = true) (h : X.K = K := by rfl) : CallR X (.builtin "all") (rAllL K) := by subst h; exact call_allL hc
def max2X : GC
  | [.int i, .int j], Q => Q (.tr (.int (if j > i then j else i)))
  | _, _ => False
def min2X : GC
  | [.int i, .int j], Q => Q (.tr (.int (if j < i then j else i)))
  | _, _ => False
theorem cx_max2 : CallX (fun xs H Q => ∃ i j, xs = [.int i, .int j] ∧ Q (.int (if j > i then j else i)) H) max2X := by
  intro F P H ds xs Q Qx R hs g k
  unfold max2X at g
  split at g
  · obtain ⟨x, y, rfl, hx, hy⟩ := all2_2 hs
    cases hx.int_eq; cases hy.int_eq
    exact ⟨_, _, rfl, k _ _ H (R.add (IsX.of_int _)) g⟩
  · exact g.elim
theorem cx_min2 : CallX (fun xs H Q => ∃ i j, xs = [.int i, .int j] ∧ Q (.int (if j < i then j else i)) H) min2X := by
  intro F P H ds xs Q Qx R hs g k
  unfold min2X at g
  split at g
  · obtain ⟨x, y, rfl, hx, hy⟩ := all2_2 hs
    cases hx.int_eq; cases hy.int_eq
    exact ⟨_, _, rfl, k _ _ H (R.add (IsX.of_int _)) g⟩
  · exact g.elim
theorem setC_x {F : Fm} {ti : XI} {n i : Nat} {g : TG} {gx : XG} {outs : List Nat} {tc : XC} {te : XT} (hgx : GX n g gx) (hno : outs.Nodup) : ∀ D σ H, tXS F (xSet i (xComp n outs ti gx tc te)) D σ H → tAsg (tComp n outs (tXi F ti) g (tXc F tc) (tX F te)) (gName i) D σ H := by
  rintro D σ H ⟨ρ, fr, d, E, q, k⟩
  exact tComp_x hgx hno σ H _ ⟨ρ, fr, _, E, q, fun v s H' ρ' E' q' => k.nx _ H' _ List.length_set (eok_set E') q'⟩
end Lf

set_option Elab.async false
set_option linter.all false
set_option maxRecDepth 100000
set_option maxHeartbeats 4000000
namespace Lf
open PySem L2
def startB (N : List Str) (l : List Dx) (ds : List Dx) : En := .bw l :: (ds.map (fun d => .v (.tr d)) ++ List.replicate (N.length - (ds.length + 1)) .un)
def lentEnd (Q : Dx → List Dx → Prop) (d : Dx) (ρ : En) : Prop := match (ρ[0]? : Option Sl) with
  | some (Sl.bw l) => Q d l
  | _ => False
abbrev retB (Q : Dx → List Dx → Prop) : XD := ⟨fun ρ => lentEnd Q .non ρ, fun s ρ => lentEnd Q s.d ρ, fun _ => False, fun _ => False⟩
theorem fn_b {P : Program} {w : World} {K : PySem.W.Frag} {mg : Str → Option Value} {base : Heap} {x : Str} {st : Stmt} {f : Addr} {fd : FuncData} {N ps : List Str} {k : Nat} {g : GB} (Fn : Fun K x x st f fd) (S : FnScope N ps (defScope st)) (hlen : ∀ l ds Q, g l ds Q → ds.length + 1 = ps.length) (hN : ps.length ≤ N.length)
    (hbody : ∀ (cdv : Value) (A : Around) (outer : List Env) (s : Shared) (H : Hp) (E : XK), Room k (A.deeper (PyProof.Rows.envOfC x (defScope st) s.heap.objs.size f cdv)) →
      ∃ G, XSs (cxOf CX0 P w K mg base N x (defScope st) f cdv A outer s H E).nox noEx (defBody st) G ∧ ∀ l ds Q, g l ds Q → G (startB N l ds) (retB Q)) : FnOk P w K mg base CX0 (k + 1) f fd ps (spB g) := by
  refine Fn.ok S (fun vs H Q E h => ?_) (fun cdv A outer s H vs Q E hr h => ?_)
  · obtain ⟨p, ws, l, vr, Hs, ds, Qx, rfl, _, _, _, _, h2, h3, _⟩ := h
    rw [List.length_cons, h2.len]
    exact hlen l ds Qx h3
  obtain ⟨p, ws, l, vr, Hs, ds, Qx, rfl, hp, h1, hsp, hl, h2, h3, h4⟩ := h
  obtain ⟨G, hG, hq⟩ := hbody cdv A outer s H E hr
  have hlen' := hlen l ds Qx h3
  have nb : ∀ b ∈ [p], Hs b = none := fun b hb => by rw [List.mem_singleton.mp hb]; exact hsp
  have ib : ∀ b ∈ [p], ∃ o, H b = some o := fun b hb => by rw [List.mem_singleton.mp hb]; exact ⟨_, hp⟩
  -- how it ends
  have fin : ∀ {d : Dx} {v : V} {σ' : St} {H' : Hp} {ρ' : En}, EOk ⟨H, Hs, [p], h1, nb, ib⟩ ρ' σ' ((.v (.tr d), some v) :: []) H' → lentEnd Qx d ρ' → Q v H' := fun {d v σ' H' ρ'} E' q => by
    unfold lentEnd at q
    split at q
    · rename_i l' h0
      obtain ⟨R, hx⟩ := E'.one
      obtain ⟨y, hy, hi, R2⟩ := eok_slot ⟨E'.len, R⟩ h0
      obtain ⟨a, ws', rfl, h5, h6⟩ := R2.atB
      have ha : a = p := List.mem_singleton.mp (R2.fr _ List.mem_cons_self a (List.mem_singleton.mpr rfl))
      subst ha
      refine h4 d v l' ws' H' (fun b o hb => ?_) h5 (h6.imp fun _ _ z => z.to (hid_less fun c hc => by rw [List.mem_singleton.mp hc]; exact List.mem_cons_self)) (hx.to hid_sub) q
      have hb' : b ≠ a := fun z => by rw [z] at hb; unfold hide at hb; rw [if_pos rfl] at hb; cases hb
      rw [hide_ne hb'] at hb ⊢
      exact R.kp b o hb fun z => hb' (List.mem_singleton.mp z)
    · exact q.elim
  refine ⟨_, hG ⟨H, Hs, [p], h1, nb, ib⟩, startB N l ds, [], retB Qx, ⟨?_, ?_⟩, hq l ds Qx h3, ⟨fun σ' H' ρ' _ E' q => fin (EOk.back E'.len (E'.rep.add (d := .non) (v := .non) IsX.of_non)) q, fun v s σ' H' ρ' _ E' q => fin (EOk.back E'.len E'.front.frz) q, fun _ _ _ _ _ q => q.elim, fun _ _ _ _ _ q => q.elim⟩⟩
  · unfold startB L2.start
    simp only [List.length_append, List.length_map, List.length_replicate, List.length_cons]
    rw [h2.len]
    omega
  · have R0 : Rep ⟨H, Hs, [p], h1, nb, ib⟩ [] H := ⟨List.nodup_nil, fun r hr => by simp at hr, fun r hr => by simp at hr, fun b o h _ => h, ib⟩
    have hvis : Same Hs (Fm.vis ⟨H, Hs, [p], h1, nb, ib⟩ H) := fun b o hb => (ext_old (h1 _ _ hb)).trans hb
    have R1 := rep_args (m := N.length - (ds.length + 1)) R0 (h2.imp fun _ _ z => z.to hvis)
    have hown : owns ((ds.map (fun d => Sl.v (.tr d)) ++ List.replicate (N.length - (ds.length + 1)) Sl.un).zip (vr.map some ++ List.replicate (N.length - (ds.length + 1)) none)) = [] := by
      unfold owns
      refine List.flatMap_eq_nil_iff.mpr fun r hr => ?_
      obtain ⟨a, b⟩ := r
      rcases List.mem_append.mp (List.of_mem_zip hr).1 with h | h
      · obtain ⟨d, _, rfl⟩ := List.mem_map.mp h; rfl
      · rw [(List.mem_replicate.mp h).2]; rfl
    rw [List.append_nil]
    have e : (startB N l ds).zip (L2.start N (.ref p :: vr)) = (.bw l, some (.ref p)) :: (ds.map (fun d => Sl.v (.tr d)) ++ List.replicate (N.length - (ds.length + 1)) Sl.un).zip (vr.map some ++ List.replicate (N.length - (ds.length + 1)) none) := by
      unfold startB L2.start
      rw [List.map_cons, List.cons_append, List.zip_cons_cons, List.length_cons, h2.len]
    rw [e]
    refine ⟨by rw [owns_some (a := p) rfl, hown]; simp, fun r hr => ?_, fun r hr a ha => ?_, R1.kp, R1.lv⟩
    · rw [owns_some (a := p) rfl, hown]
      rcases List.mem_cons.mp hr with rfl | hr
      · refine ⟨p, ws, rfl, hp, hl.imp fun _ _ z => z.to fun b o hb => hid_some.mpr ⟨fun z => ?_, hvis _ _ hb⟩⟩
        rw [List.mem_singleton.mp z, hsp] at hb; cases hb
      · refine (R1.ok r hr).mono (.of fun b o hb => ?_) fun _ _ => rfl
        have hb' := hid_some.mp hb
        refine hid_some.mpr ⟨fun z => ?_, hb'.2⟩
        have h9 : Hs p = some o := (ext_old hp).symm.trans (List.mem_singleton.mp z ▸ hb'.2)
        rw [hsp] at h9; cases h9
    · rcases List.mem_cons.mp hr with rfl | hr
      · exact ha
      · exact R1.fr r hr a ha
end Lf

set_option Elab.async false
set_option linter.all false
set_option maxRecDepth 100000
set_option maxHeartbeats 4000000
namespace Lf
open PySem L2
end Lf

set_option Elab.async false
set_option linter.all false
set_option maxRecDepth 100000
set_option maxHeartbeats 4000000
namespace Lf
open PySem L2
theorem atI_of {α : Type} {l : List α} {i : Int} (h0 : 0 ≤ i) (h1 : i < l.length) : ∃ x, atI l i = some x ∧ l[i.toNat]? = some x := by
  have hk : i.toNat < l.length := by omega
  refine ⟨l[i.toNat], ?_, List.getElem?_eq_getElem hk⟩
  unfold atI
  have : ixN l.length i = some i.toNat := by
    unfold ixN
    simp only [h0]
    split <;> simp_all <;> omega
  rw [this]
  exact List.getElem?_eq_getElem hk
end Lf

set_option Elab.async false
set_option linter.all false
set_option maxRecDepth 100000
set_option maxHeartbeats 4000000
namespace Lf
open PySem L2
abbrev GP := List Dx → Dx → (Dx → Prop) → Prop
def OpL (r : R2) (g : GP) : Prop := ∀ (G : Hp) (H : Hp) (p : Addr) (ws : List V) (l : List Dx) (b : Dx) (y : V) (Q : VK) (Qx : Dx → Prop), Same G H → H p = some (.lst ws) → All2 (IsX G) l ws → IsX G b y → g l b Qx → (∀ v d, IsX G d v → Qx d → Q v H) → r (.ref p) y H Q
def xPkL (g : GP) (i : Nat) (t : XT) : XT := fun ρ Q => ((ρ[i]?).bind lent).isSome = true ∧ t ρ fun k ρ' => match (ρ'[i]?).bind lent with
  | some (l, _) => g l k.d fun d => Q (.tr d) ρ'
  | none => False
section
variable {X : Cx} {Ex : ExT} {F : Fm} {i : Nat} {t : XT} {r : R2} {g : GP} {x : Str} {a b e : Expr} {p pos : Pos}
theorem pkL_x (hx : OpL r g) : ∀ σ H Q, tX F (xPkL g i t) σ H Q → tOp r (tVar i) (tX F t) σ H Q := by
  rintro σ H Q ⟨ρ, fr, Qx, E, ⟨h0, q⟩, k⟩
  obtain ⟨⟨l, f⟩, h1⟩ := Option.isSome_iff_exists.mp h0
  obtain ⟨p, ws, hv, _⟩ := lent_put E h1
  refine ⟨.ref p, hv, ρ, fr, _, E, q, fun w s H' ρ' E' q' => ?_⟩
  split at q'
  · rename_i l' f' hb
    obtain ⟨R, hs⟩ := E'.one
    obtain ⟨p', ws', hv', hp, hl, _⟩ := lent_put E'.drop hb
    rw [hv] at hv'; cases hv'
    exact hx _ H' p ws' l' s.d w Q _ R.hv hp hl hs q' fun v d hd qd => k v (.tr d) H' ρ' (EOk.back E'.len (R.add hd)) qd
  · exact q'.elim
def neP (n : Bool) : GP := fun l k Q => match k with
  | .lst [] => Q (.bl (if n then !l.isEmpty else l.isEmpty))
  | _ => False
theorem ol_ne {K : PySem.W.Frag} {r : R2} (n : Bool) : OpL (fun x y H Q => r x y H Q ∨ rEqN K n x y H Q) (neP n) := by
  intro G H p ws l b y Q Qx hs hp hl hb g k
  unfold neP at g
  split at g
  · obtain ⟨p', vs', rfl, q3, q4⟩ := hb.lst_eq
    cases (show vs' = [] from q4)
    refine .inr ⟨p, p', ws, rfl, rfl, SqL.of hp, SqL.of (hs _ _ q3), k _ _ ?_ g⟩
    have : ws.isEmpty = l.isEmpty := by
      have := hl.len
      cases ws <;> cases l <;> simp at this ⊢
    rw [this]
    exact IsX.of_bl _
  · exact g.elim
theorem xt_pkEq (K : PySem.W.Frag) (hu : X.A.units < cLine) (hv : PE X (.Name x p) (tVar i)) (hb : XE X Ex b t) (hm : behindInMarks .Eq b = false) (h : X.K = K := by rfl) : XTe X Ex (.Compare (.Name x p) [.Eq] [b] pos) (xB (xPkL (neP false) i t)) := fun F => (pt_cmpR (op_eqA K hu h) hv (hb F) hm).weak (tTest_x (pkL_x (ol_ne false)))
end
end Lf

set_option Elab.async false
set_option linter.all false
set_option maxRecDepth 100000
set_option maxHeartbeats 4000000
namespace Lf
open PySem L2
theorem XE.at {X : Cx} {Ex : ExT} {e : Expr} {t : XT} (F : Fm) [OkF X Ex F] (h : XE X Ex e t) : PE X e (tX F t) := h F
theorem XIt.at {X : Cx} {Ex : ExT} {tg e : Expr} {t : XI} (F : Fm) [OkF X Ex F] (h : XIt X Ex tg e t) : PI X tg e (tXi F t) := h F
theorem XCs.at {X : Cx} {Ex : ExT} {e : List Expr} {t : XC} (F : Fm) [OkF X Ex F] (h : XCs X Ex e t) : PCs X e (tXc F t) := h F
section
variable {α : Type} {n : Nat} {gx : XG} {tc : XC} {te : XT} {Q : List Dx → List Sl → Prop}
abbrev stepX (n : Nat) (gx : XG) (tc : XC) (te : XT) (P : List Dx → List Sl → Prop) (d : Dx) (cs : List Sl) (acc : List Dx) : Prop := gx d (List.replicate n .un ++ cs) fun ρ1 => tc ρ1 fun b ρ2 => if b = true then te ρ2 fun s ρ3 => P (acc ++ [s.d]) (ρ3.drop n) else P acc (ρ2.drop n)
theorem compX_fun {cs : List Sl} (φ ψ : α → Dx) : ∀ {as : List α} {acc : List Dx}, (∀ a ∈ as, ∀ (acc : List Dx) (P : List Dx → List Sl → Prop), P (acc ++ [ψ a]) cs → stepX n gx tc te P (φ a) cs acc) →
    Q (acc ++ as.map ψ) cs → compX n gx tc te Q (as.map φ) cs acc
  | [], acc, _, q => by simpa [compX] using q
  | a :: as, acc, h, q => by
    show gx (φ a) _ _
    exact h a List.mem_cons_self acc (fun acc cs => compX n gx tc te Q (as.map φ) cs acc) (compX_fun φ ψ (fun a' ha => h a' (List.mem_cons_of_mem _ ha)) (by simpa [List.append_assoc] using q))
theorem compX_ind (φ : α → Dx) (I : List α → List Dx → List Sl → Prop) (hd : ∀ acc cs, I [] acc cs → Q acc cs) (hs : ∀ a as acc cs (P : List Dx → List Sl → Prop), I (a :: as) acc cs → (∀ acc' cs', I as acc' cs' → P acc' cs') → stepX n gx tc te P (φ a) cs acc) :
    ∀ {as : List α} {acc : List Dx} {cs : List Sl}, I as acc cs → compX n gx tc te Q (as.map φ) cs acc
  | [], acc, cs, h => hd acc cs h
  | a :: as, acc, cs, h => by
    show gx (φ a) _ _
    exact hs a as acc cs (fun acc cs => compX n gx tc te Q (as.map φ) cs acc) h fun acc' cs' h' => compX_ind φ I hd hs h'
theorem forX_map {gx : XG} {G : XS} {D : XD} (φ : α → Dx) (Pv : List α → En → Prop) (hd : ∀ ρ, Pv [] ρ → D.nx ρ) (hs : ∀ d ds ρ (K : En → Prop), Pv (d :: ds) ρ → (∀ ρ', Pv ds ρ' → K ρ') → gx (φ d) ρ fun ρ1 => G ρ1 { D with nx := K, ct := K, bk := D.nx }) :
    ∀ {ds : List α} {ρ : En}, Pv ds ρ → forX gx G D (ds.map φ) ρ
  | [], ρ, h => hd ρ h
  | d :: ds, ρ, h => hs d ds ρ (forX gx G D (ds.map φ)) h fun ρ' h' => forX_map φ Pv hd hs h'
end
end Lf

set_option Elab.async false
set_option linter.all false
set_option maxRecDepth 100000
set_option maxHeartbeats 4000000
namespace Lf
open PySem L2
section
variable {X : Cx} {Ex : ExT} {F : Fm} {e : Expr} {kws : List Keyword} {x : Str} {p pos : Pos} {u : XA} {t : XT}
theorem xe_glob {i : Int} (hg : Gl X x) (hm : ∃ t, X.mg x = some (.int i t)) (hd : (x == ("__debug__" : Str)) = false := by decide) : XE X Ex (.Name x pos) (xC (.int i)) := by
  obtain ⟨t, hm⟩ := hm
  exact xe_c (pe_glob (v := .int i) hg hm ⟨t, rfl⟩ hd) _ fun _ => IsX.of_int _
end
end Lf

set_option Elab.async false
set_option linter.all false
set_option maxRecDepth 100000
set_option maxHeartbeats 4000000
namespace Lf
open PySem L2
end Lf

set_option Elab.async false
set_option linter.all false
set_option maxRecDepth 100000
set_option maxHeartbeats 4000000
namespace Lf
open PySem L2
def neL : G2 := fun a b Q => match a, b with
  | .lst l, .lst m => ∃ ns : List Int, l = ns.map Dx.int ∧ m = ns.map Dx.int ∧ Q (.tr (.bl false))
  | _, _ => False
end Lf

set_option Elab.async false
set_option linter.all false
set_option maxRecDepth 100000
set_option maxHeartbeats 4000000
namespace Lf
open PySem L2
theorem OkF.up {X : Cx} {Ex Ex' : ExT} {F F' : Fm} (h : OkF X Ex F) (hx : ∀ c, Ex' c → Ex c) (hk : ∀ H, Kept F' H → Kept F H) : OkF X Ex' F' :=
  ⟨fun pins σ H s' ea cls I a e k => h.pass1 pins σ H s' ea cls I a (hx _ e) (hk _ k)⟩
end Lf

set_option Elab.async false
set_option linter.all false
set_option maxRecDepth 100000
set_option maxHeartbeats 4000000
namespace Lf
open PySem L2
section
variable {X : Cx} {Ex : ExT} {F : Fm} {a b e : Expr} {x : Str} {p pos : Pos} {ta tb t : XT} {tl th : XO} {u : XA} {K : PySem.W.Frag}
theorem atI_map {α β : Type} {f : α → β} {l : List α} {i : Int} : atI (l.map f) i = (atI l i).map f := by
  unfold atI
  rw [List.length_map]
  cases ixN l.length i with
  | none => rfl
  | some n => exact List.getElem?_map
def ixZ (K : PySem.W.Frag) : G2
  | .scr K' ns, .int i, Q => K' = K ∧ (match atI ns i with | some n => Q (.tr (.int n)) | none => False)
  | _, _, _ => False
theorem ox_ixZ : OpX (rIxL K) (ixZ K) := by
  intro F P H a b x y Q Qx R ha hb g k
  unfold ixZ at g
  split at g
  · obtain ⟨rfl, g⟩ := g
    obtain ⟨p, rfl, h1⟩ := ha.scr_eq
    cases hb.int_eq
    split at g
    · rename_i n hn
      refine ⟨p, _, _, V.int n, rfl, rfl, SameF.sq (.of R.hv) h1, ?_, k _ _ H (R.add (IsX.of_int _)) g⟩
      rw [atI_map, hn]; rfl
    · exact g.elim
  · exact g.elim
theorem xe_ixZ (K : PySem.W.Frag) (ha : XE X Ex a ta) (hb : XE X Ex b tb) (hs : PlainIx b) (h : X.K = K := by rfl) : XE X Ex (.Subscript a b pos) (xOp (ixZ K) ta tb) := fun F => (pe_ix (ix_listK K h) (ha F) (hb F) hs).weak (tOp_x ox_ixZ)
def lenZ (K : PySem.W.Frag) : GC
  | [.scr K' ns], Q => K' = K ∧ Q (.tr (.int ns.length))
  | _, _ => False
theorem cx_lenZ : CallX (rLen K) (lenZ K) := by
  intro F P H ds xs Q Qx R hs g k
  unfold lenZ at g
  split at g
  · obtain ⟨rfl, g⟩ := g
    obtain ⟨x, rfl, hx⟩ := all2_1 hs
    obtain ⟨a, rfl, h1⟩ := hx.scr_eq
    exact .inl ⟨a, _, rfl, .inl (SameF.sq (.of R.hv) h1), k _ _ H (R.add (by rw [List.length_map]; exact IsX.of_int _)) g⟩
  · exact g.elim
theorem cut_map {α β : Type} {f : α → β} (l : List α) (lo hi : Option Int) : cutX (l.map f) lo hi = (cutX l lo hi).map f := by
  unfold cutX
  rw [List.length_map, List.map_take, List.map_drop]
end
def spLaw (K : PySem.W.Frag) : Sp := fun vs H Q _ => ∃ (a : Addr) (ns : List Int), vs = [.ref a] ∧ SqL K H a (ns.map V.int) ∧ ns.length ≤ 63 ∧ ∀ H', Q (.bl true) H'
def gLaw (K : PySem.W.Frag) : GC := fun ds Q => ∃ ns : List Int, ds = [.scr K ns] ∧ ns.length ≤ 63 ∧ Q (.tr (.bl true))
theorem law_tree {P : Program} {w : World} {K : PySem.W.Frag} {mg : Str → Option Value} {base : Heap} {f : Addr} {fd : FuncData} {j : Nat} (h : FnOk P w K mg base CX0 j f fd ["script"] (spX (gLaw K))) : FnOk P w K mg base CX0 j f fd ["script"] (spLaw K) := h.imp fun vs H Q E => by
  rintro ⟨a, ns, rfl, hS, hl, q⟩
  refine ⟨H, [.scr K ns], fun s => s = .tr (.bl true), Same.refl _, ⟨_, _, rfl, IsX.of_scr hS, rfl⟩, ⟨ns, rfl, hl, rfl⟩, fun s v H' _ hr e => ?_⟩
  subst e
  have hr' : IsX (ext H H H') (.bl true) v := hr
  cases hr'.bl_eq
  exact q H'
end Lf

set_option Elab.async false
set_option linter.all false
set_option maxRecDepth 100000
set_option maxHeartbeats 4000000
namespace L2
open PySem
section
variable {M : Model} {A : Around} {E : Value → Shared → Prop} {s : Shared}
def KeptX (fs S : List Addr) (h h' : Heap) : Prop := ∀ b o, h.get? b = some o → b ∉ S → (b ∉ fs → h'.get? b = some o) ∧ ∃ sl, h'.get? b = some { o with slots := sl }
end
end L2
namespace Lf
open PySem L2
section
variable {M : Model} {A : Around} {E : Value → Shared → Prop} {s : Shared}
theorem flight_air {nw : Addr → Prop} {H : Hp} {ea : Addr} {cls : Value} {fl : Option Addr} {Q : Unit → Shared → Prop} (a : Air nw s.heap H ea cls)
    (h : ∀ h' S, (∀ b ∈ S, nw b ∧ H b = none ∧ ∃ o vs, s.heap.get? b = some o ∧ o.data = .fields vs) → KeptX [] S s.heap h' → Air nw h' H ea cls → Q () { s with heap := h' }) : wpAny M A (setFlight (.ref ea) fl) Q E s := by
  obtain ⟨a1, a2, oe, vs, he, hc, hd, hdn, hsz, a3⟩ := a
  unfold setFlight
  rcases a3 with a3 | ⟨T, oT, ts, a3, aT, aN, aH, hT, hdT, h3⟩
  · refine wpAny_bind (wpAny_field he hd a3 ?_)
    rw [if_neg (by decide)]
    exact wpAny_pure (h s.heap [] (fun b hb => nomatch hb) (fun b o hb _ => ⟨fun _ => hb, o.slots, hb⟩) ⟨a1, a2, oe, vs, he, hc, hd, hdn, hsz, .inl a3⟩)
  · refine wpAny_bind (wpAny_field he hd a3 ?_)
    rw [if_pos (show (Value.ref T != Value.none) = true from by simp)]
    refine wpAny_setField hT hdT h3 (h _ [T] (fun b hb => ?_) (fun b o hb hbS => ?_) ⟨a1, a2, oe, vs, (Heap.get?_update_other _ _ aT).trans he, hc, hd, hdn, hsz, .inr ⟨T, _, _, a3, aT, aN, aH, Heap.get?_update_self _ hT (Obj.isFreed_of_fields (Obj.data_mapFields hdT _)), Obj.data_mapFields hdT _, by simpa using h3⟩⟩)
    · rw [List.mem_singleton.mp hb]; exact ⟨aN, aH, oT, ts, hT, hdT⟩
    · have n2 : b ≠ T := fun z => hbS (List.mem_singleton.mpr z)
      have e2 := (Heap.get?_update_other s.heap (Obj.mapFields (·.setIfInBounds 3 (fl.elim Value.none fun f => rawInt f))) (Ne.symm n2)).trans hb
      exact ⟨fun _ => e2, o.slots, e2⟩
def Tb (h' : Heap) (ea : Addr) : Prop := ∃ oe vs T, h'.get? ea = some oe ∧ oe.data = .fields vs ∧ vs[1]? = some (.ref T)
theorem note_air1 {base : Heap} {nw : Addr → Prop} {H : Hp} {env : Env} {outer : List Env} {L ea : Addr} {cls : Value} {Q : Unit → Shared → Prop}
    (hfr : A.frames = some (env :: outer)) (hl : s.heap.FunFrames base (env :: outer)) (hf : env.frame = some L) (hz : ∀ T, s.heap.objs.size ≤ T → nw T) (hH : ∀ a, s.heap.objs.size ≤ a → H a = none) (a : Air nw s.heap H ea cls)
    (h : ∀ h' S, (∀ b ∈ S, nw b ∧ H b = none ∧ ∃ o vs, s.heap.get? b = some o ∧ o.data = .fields vs) → KeptX (frs (env :: outer)) S s.heap h' → Air nw h' H ea cls → Tb h' ea → Q () { s with heap := h' }) : wpAny M A (noteFrame (.ref ea) env) Q E s := by
  have entry : ∀ {s : Shared} {oe : Obj} {vs : Array Value} {head : Value} {hadNext : Bool} {Q : Unit → Shared → Prop}, s.heap.FunFrames base (env :: outer) → s.heap.get? ea = some oe → oe.data = .fields vs → 1 < vs.size →
      (∀ h' T oT ts, KeptX (frs (env :: outer)) [ea] s.heap h' → s.heap.objs.size ≤ T → T ≠ ea → h'.get? ea = some (oe.mapFields (·.setIfInBounds 1 (.ref T))) → h'.get? T = some oT → oT.data = .fields ts → 3 < ts.size → Q () { s with heap := h' }) →
      wpAny M A (do let a ← frameOf env; let pl ← entryPlaceOf L hadNext; let b ← EntryCells.newEntry head a .none (rawInt L) .none pl; setField (.ref ea) 1 b) Q E s := by
    intro s oe vs head hadNext Q hl he hd hsz h
    have hene : ea ∉ (env :: outer).filterMap (·.frame) := fun hm => by
      obtain ⟨_, o, ho, hnf⟩ := hl.mem hm
      rw [he] at ho; injection ho with ho; subst ho; exact hnf vs hd
    refine wpAny_bind (wpAny_frameOf_fun hfr hl hf fun h₁ hs₁ => ?_)
    refine wpAny_bind (wpAny_entryPlaceOf fun pl hpl => ?_)
    unfold EntryCells.newEntry newFields
    refine wpAny_bind (wpAny_newObj_type ?_ (hpl.sizeOk5 _ _ _ _ _))
    have he₁ : h₁.get? ea = some oe := (hs₁.2.1 ea hene).trans he
    have he₂ := Heap.get?_push_of_some (h := h₁) { cls := .type "traceback", dict := none, data := .fields ([head, .ref L, .none, rawInt L, .none] ++ (if pl.isEmpty then List.replicate 6 Value.none else pl)).toArray } he₁
    have hTe : h₁.objs.size ≠ ea := Nat.ne_of_gt (Heap.lt_size he₁)
    have hd₃ := Obj.data_mapFields hd (·.setIfInBounds 1 (Value.ref h₁.objs.size))
    have he₃ := Heap.get?_update_self (Obj.mapFields (·.setIfInBounds 1 (Value.ref h₁.objs.size))) he₂ (Obj.isFreed_of_fields hd₃)
    have hT₃ := (Heap.get?_update_other (h₁.push { cls := .type "traceback", dict := none, data := .fields ([head, .ref L, .none, rawInt L, .none] ++ (if pl.isEmpty then List.replicate 6 Value.none else pl)).toArray })
      (Obj.mapFields (·.setIfInBounds 1 (Value.ref h₁.objs.size))) (Ne.symm hTe)).trans (Heap.get?_push_size h₁ rfl)
    refine wpAny_setField he₂ hd hsz (h _ h₁.objs.size _ _ ?_ (Nat.le_of_eq hs₁.1.symm) hTe he₃ hT₃ rfl (by simp only [List.size_toArray, List.length_append, List.length_cons, List.length_nil] <;> omega))
    intro b o hb hbe
    have hbe' : b ≠ ea := fun z => hbe (List.mem_singleton.mpr z)
    have keep : ∀ o, h₁.get? b = some o → ((h₁.push { cls := .type "traceback", dict := none, data := .fields ([head, .ref L, .none, rawInt L, .none] ++ (if pl.isEmpty then List.replicate 6 Value.none else pl)).toArray }).update ea (Obj.mapFields (·.setIfInBounds 1 (Value.ref h₁.objs.size)))).get? b = some o := fun o hb => by
      rw [Heap.get?_update_other _ _ (Ne.symm hbe')]
      exact Heap.get?_push_of_some _ hb
    refine ⟨fun hbf => keep o ((hs₁.2.1 b hbf).trans hb), ?_⟩
    obtain ⟨sl, hs⟩ := hs₁.2.2 b o hb
    exact ⟨sl, keep _ hs⟩
  obtain ⟨a1, a2, oe, vs, he, hc, hd, hdn, hsz, a3⟩ := a
  have fin : ∀ (h' : Heap) (T : Addr) (oT : Obj) (ts : Array Value), s.heap.objs.size ≤ T → T ≠ ea → h'.get? ea = some (oe.mapFields (·.setIfInBounds 1 (.ref T))) → h'.get? T = some oT → oT.data = .fields ts → 3 < ts.size → Air nw h' H ea cls ∧ Tb h' ea := fun h' T oT ts g1 g2 g3 g4 g5 g6 => by
    refine ⟨⟨a1, a2, _, _, g3, (Obj.cls_mapFields _ _).trans hc, Obj.data_mapFields hd _, by obtain ⟨c, dct, dt, sl⟩ := oe; cases dt <;> exact hdn, by simpa using hsz, .inr ⟨T, oT, ts, by simp [hsz], g2, hz T g1, hH T g1, g4, g5, g6⟩⟩, ⟨_, _, T, g3, Obj.data_mapFields hd _, by simp [hsz]⟩⟩
  unfold noteFrame
  simp only [hf]
  rcases a3 with a3 | ⟨T, oT, ts, a3, aT, aN, aH, hT, hdT, h3⟩
  · refine wpAny_bind (wpAny_field he hd a3 ?_)
    rw [if_neg (by decide)]
    exact entry hl he hd hsz fun h' T oT ts g0 g1 g2 g3 g4 g5 g6 => h h' [ea] (fun b hb => by rw [List.mem_singleton.mp hb]; exact ⟨a1, a2, _, _, he, hd⟩) g0 (fin h' T oT ts g1 g2 g3 g4 g5 g6).1 (fin h' T oT ts g1 g2 g3 g4 g5 g6).2
  · refine wpAny_bind (wpAny_field he hd a3 ?_)
    rw [if_pos (show (Value.ref T != Value.none) = true from by simp)]
    obtain ⟨x3, e3⟩ : ∃ x, ts[3]? = some x := ⟨_, Array.getElem?_eq_getElem h3⟩
    refine wpAny_bind (wpAny_field hT hdT e3 ?_)
    by_cases hx : (x3 == rawInt L) = true
    · rw [if_pos hx]
      exact wpAny_pure (h s.heap [] (fun b hb => nomatch hb) (fun b o hb _ => ⟨fun _ => hb, o.slots, hb⟩) ⟨a1, a2, oe, vs, he, hc, hd, hdn, hsz, .inr ⟨T, oT, ts, a3, aT, aN, aH, hT, hdT, h3⟩⟩ ⟨oe, vs, T, he, hd, a3⟩)
    rw [if_neg hx]
    refine wpAny_bind (wpAny_setField hT hdT h3 ?_)
    have other : ∀ b, b ≠ T → (s.heap.update T (Obj.mapFields (·.setIfInBounds 3 Value.none))).get? b = s.heap.get? b := fun b hb => Heap.get?_update_other _ _ (Ne.symm hb)
    have noRecord : ∀ b o, s.heap.get? b = some o → (∀ vs, o.data ≠ .fields vs) → b ≠ T := fun b o hb hnf q => by
      rw [q, hT] at hb; injection hb with hb; subst hb; exact hnf ts hdT
    have hsz2 : (s.heap.update T (Obj.mapFields (·.setIfInBounds 3 Value.none))).objs.size = s.heap.objs.size := Heap.size_after_update ..
    refine entry (s := { s with heap := _ }) (hl.of_keeps fun b o hb hnf => ⟨o, (other b (noRecord b o hb hnf)).trans hb, rfl⟩) ((other ea (Ne.symm aT)).trans he) hd hsz
      fun h' T' oT' ts' g0 g1 g2 g3 g4 g5 g6 => h h' [ea, T] (fun b hb => ?_) (fun b o hb hbS => ?_) (fin h' T' oT' ts' (by rw [← hsz2]; exact g1) g2 g3 g4 g5 g6).1 (fin h' T' oT' ts' (by rw [← hsz2]; exact g1) g2 g3 g4 g5 g6).2
    · rcases List.mem_cons.mp hb with rfl | hb
      · exact ⟨a1, a2, _, _, he, hd⟩
      · rw [List.mem_singleton.mp hb]; exact ⟨aN, aH, _, _, hT, hdT⟩
    · have n1 : b ≠ ea := fun z => hbS (by rw [z]; exact List.mem_cons_self)
      have n2 : b ≠ T := fun z => hbS (by rw [z]; exact List.mem_cons_of_mem _ List.mem_cons_self)
      exact g0 b o ((other b n2).trans hb) fun z => n1 (List.mem_singleton.mp z)
theorem KeptX.more {fs fs' S : List Addr} {h h1 : Heap} (a : KeptX fs S h h1) (k : ∀ b, b ∈ fs → b ∈ fs') : KeptX fs' S h h1 := fun x o e n => ⟨fun hf => (a x o e n).1 fun z => hf (k x z), (a x o e n).2⟩
theorem note_air {base : Heap} {nw : Addr → Prop} {H : Hp} {env : Env} {outer : List Env} {L ea : Addr} {cls : Value} {Q : Unit → Shared → Prop}
    (hfr : A.frames = some (env :: outer)) (hl : s.heap.FunFrames base (env :: outer)) (hf : env.frame = some L) (hz : ∀ T, s.heap.objs.size ≤ T → nw T) (hH : ∀ a, s.heap.objs.size ≤ a → H a = none) (a : Air nw s.heap H ea cls)
    (h : ∀ h' S, (∀ b ∈ S, nw b ∧ H b = none ∧ ∃ o vs, s.heap.get? b = some o ∧ o.data = .fields vs) → KeptX (frs (env :: outer)) S s.heap h' → Air nw h' H ea cls → Q () { s with heap := h' }) : wpAny M A (noteFrame (.ref ea) env) (fun _ s₂ => wpAny M A (setFlight (.ref ea) none) Q E s₂) E s :=
  note_air1 hfr hl hf hz hH a fun h' S hS kx air' _ => flight_air (s := { s with heap := h' }) air' fun h2 S2 hS2 kx2 air2 => h h2 (S ++ S2.filter fun b => (s.heap.get? b).isSome) (fun b hb => by
    rcases List.mem_append.mp hb with z | z
    · exact hS b z
    · by_cases hb' : b ∈ S
      · exact hS b hb'
      obtain ⟨z1, z2⟩ := List.mem_filter.mp z
      obtain ⟨o, e⟩ := Option.isSome_iff_exists.mp z2
      obtain ⟨g1, g2, o2, vs2, e2, d2⟩ := hS2 b z1
      obtain ⟨sl, e3⟩ := (kx b o e hb').2
      have e4 : some o2 = some { o with slots := sl } := e2.symm.trans e3
      cases e4
      exact ⟨g1, g2, o, vs2, e, d2⟩) (fun b o e n => by
    have n1 : b ∉ S := fun z => n (List.mem_append_left _ z)
    have n2 : b ∉ S2 := fun z => n (List.mem_append_right _ (List.mem_filter.mpr ⟨z, by rw [e]; rfl⟩))
    obtain ⟨p, sl, q⟩ := kx b o e n1
    refine ⟨fun hf => (kx2 b o (p hf) n2).1 (by simp), ?_⟩
    obtain ⟨sl', q'⟩ := (kx2 b _ q n2).2
    exact ⟨sl', q'⟩) air2
end
end Lf

set_option Elab.async false
set_option linter.all false
set_option maxRecDepth 100000
set_option maxHeartbeats 4000000
namespace Lf
open PySem L2
theorem hok_keptX {P : Program} {w : World} {H : Hp} {h h' : Heap} {fs S : List Addr} (x : HOk P w H h) (k : KeptX fs S h h') (hf : ∀ b ∈ fs, H b = none) (hS : ∀ b ∈ S, H b = none) : HOk P w H h' := fun a o e =>
  ObjOk.stay (x a o e) (fun b u hb hu => by
    have hb' : ∃ o, H b = some o := by
      rcases hb with rfl | hb
      · exact ⟨_, e⟩
      · exact ⟨_, hb⟩
    obtain ⟨ob, hob⟩ := hb'
    exact (k b u hu fun z => by rw [hS b z] at hob; cases hob).1 fun z => by rw [hf b z] at hob; cases hob) (fun _ z => z) (fun _ _ z => z)
section
variable {X : Cx} {pins : List (Addr × Obj)} {σ : St} {H H' : Hp} {s s' : Shared}
theorem Inv.thrown (I : Inv X pins σ H s) (os : s'.os = s.os) (bare : PyProof.Rows.AllBare s'.gens) (un : Un (frs X.stack) [] H H' s.heap s'.heap) (hok : HOk X.prog X.w H' s'.heap) : Inv X pins σ H' s' := by
  obtain ⟨hh, g, d, t, os'⟩ := s'
  obtain rfl : os' = s.os := os
  exact I.call (h' := hh) (g' := g) (d' := d) (t' := t) (ch := []) un hok bare (fun b z => absurd z (by simp))
end
theorem Air.older {n0 n : Addr → Prop} {h' : Heap} {H : Hp} {ea : Addr} {cls : Value} (a : Air n h' H ea cls) (k : ∀ b, n b → n0 b) : Air n0 h' H ea cls := by
  obtain ⟨a1, a2, oe, vs, he, hc, hd, hdn, hsz, a3⟩ := a
  refine ⟨k _ a1, a2, oe, vs, he, hc, hd, hdn, hsz, ?_⟩
  rcases a3 with a3 | ⟨T, oT, ts, a3, aT, aN, r⟩
  · exact .inl a3
  · exact .inr ⟨T, oT, ts, a3, aT, k _ aN, r⟩
theorem OkF.pass {X : Cx} {Ex : ExT} {F : Fm} [OkF X Ex F] (pins : List (Addr × Obj)) (σ : St) (H : Hp) (s : Shared) (e : Value) (s' : Shared) (I : Inv X pins σ H s) (h : CXe X.prog X.w X.stack H s (fun c _ H' => Ex c ∧ Kept F H') e s') : X.xe e s' := by
  obtain ⟨ea, cls, H', rfl, os, bare, un, hok, air, hx, hk⟩ := h
  refine OkF.pass1 (Ex := Ex) (F := F) pins σ H' s' ea cls (Inv.thrown I os bare un hok) (air.older fun b hb => ⟨?_, fun p hp z => ?_⟩) hx hk
  · by_cases hbx : b ∈ X.ex
    · exact .inr hbx
    · left
      cases q : X.s₀.heap.get? b with
      | none => rfl
      | some o =>
        obtain ⟨o', e'⟩ := I.base.there b o q hbx
        rw [hb] at e'; cases e'
  · have := (I.pin p hp).1
    rw [z, hb] at this; cases this
section
variable {P : Program} {w : World} {K : PySem.W.Frag} {mg : Str → Option Value} {base : Heap} {N : List Str} {x : Str} {scope : Scope} {f : Addr} {cdv : Value} {A : Around} {outer : List Env} {s : Shared} {H : Hp} {E : XK} {Ex : ExT} {F : Fm}
theorem okf_def (hE : ∀ c H', Ex c → Kept F H' → E c none H') : OkF (cxOf (CXe P w) P w K mg base N x scope f cdv A outer s H E) Ex F := ⟨fun pins σ H' s' ea cls I' air hx hk => by
  have older : ∀ b, NwX (cxOf (CXe P w) P w K mg base N x scope f cdv A outer s H E) pins b → s.heap.get? b = none := fun b hb => hb.1.elim (fun z => z) fun z => nomatch z
  refine wpAny_bind (note_air (base := base) (nw := fun b => s.heap.get? b = none) (H := H') (L := s.heap.objs.size) I'.ok.frames I'.stack rfl (fun T hT => Heap.get?_none_of_le (Nat.le_trans I'.sz hT)) (fun a ha => I'.hok.fresh ha) (air.older older) fun h' S hS kx air' => ?_)
  have nS : ∀ b o, s.heap.get? b = some o → b ∉ S := fun b o hb z => by rw [(hS b z).1] at hb; cases hb
  have nL : ∀ b o, s.heap.get? b = some o → b ∈ frs (PyProof.Rows.envOfC x scope s.heap.objs.size f cdv :: outer) → b ∈ frs outer := fun b o hb z => by
    rcases List.mem_cons.mp (show b ∈ s.heap.objs.size :: frs outer from z) with z | z
    · exact absurd (Heap.lt_size hb) (by rw [z]; exact Nat.lt_irrefl _)
    · exact z
  have B := I'.base
  refine ⟨ea, cls, H', rfl, I'.os, I'.bare, ⟨fun b o hb n hf he => ?_, fun b o hb n hf he => ?_, fun b o hb n he => B.free b o hb n he, fun b o hb he => ?_, B.tups, B.frzs, B.tbls⟩, hok_keptX I'.hok kx I'.stkFree (fun b hb => (hS b hb).2.1), air', hE cls H' hx hk⟩
  · exact (kx b o (B.keep b o hb n hf he) (nS b o hb)).1 fun z => hf (nL b o hb z)
  · obtain ⟨sl, e1⟩ := B.slot b o hb n hf he
    obtain ⟨sl', e2⟩ := (kx b _ e1 (nS b o hb)).2
    exact ⟨sl', e2⟩
  · obtain ⟨o', e1⟩ := B.there b o hb he
    obtain ⟨sl', e2⟩ := (kx b _ e1 (nS b o hb)).2
    exact ⟨_, e2⟩⟩
end
abbrev topF {H Hs : Hp} (h : Same Hs H) : Fm := ⟨H, Hs, [], h, fun b hb => by simp at hb, fun b hb => by simp at hb⟩
abbrev GE := List Dx → (Sv → Prop) → ExT → Prop
def spE (g : GE) : Sp := fun vs H Q E => ∃ Hs ds Qx Ex, Same Hs H ∧ All2 (IsX Hs) ds vs ∧ g ds Qx Ex ∧ (∀ s v H', Same H H' → ResOk Hs H H' s v → Qx s → Q v H') ∧ ∀ c H', Same H H' → Ex c → E c none H'
theorem fn_e {P : Program} {w : World} {K : PySem.W.Frag} {mg : Str → Option Value} {base : Heap} {x : Str} {st : Stmt} {f : Addr} {fd : FuncData} {N ps : List Str} {k : Nat} {g : GE} (Fn : Fun K x x st f fd) (S : FnScope N ps (defScope st)) (hlen : ∀ ds Q Ex, g ds Q Ex → ds.length = ps.length) (hN : ps.length ≤ N.length)
    (hbody : ∀ (cdv : Value) (A : Around) (outer : List Env) (s : Shared) (H : Hp) (E : XK) (Ex : ExT), Room k (A.deeper (PyProof.Rows.envOfC x (defScope st) s.heap.objs.size f cdv)) →
      ∃ G, XSs (cxOf (CXe P w) P w K mg base N x (defScope st) f cdv A outer s H E) Ex (defBody st) G ∧ ∀ ds Q, g ds Q Ex → G (startX N ds) (retX Q)) : FnOk P w K mg base (CXe P w) (k + 1) f fd ps (spE g) := by
  obtain ⟨oc, od, kV, doc, pm, an, cdv, ct, osl, rfl, lk, hcd⟩ := Fn.ex
  refine fn_of lk hcd S (fun vs H Q E h => ?_) fun A outer s H vs Q E hr h => ?_
  · obtain ⟨Hs, ds, Qx, Ex, h1, h2, h3, _⟩ := h
    rw [h2.len]
    exact hlen ds Qx Ex h3
  obtain ⟨Hs, ds, Qx, Ex, h1, h2, h3, h4, h5⟩ := h
  obtain ⟨G, hG, hq⟩ := hbody cdv A outer s H E Ex hr
  have hl := hlen ds Qx Ex h3
  haveI : OkF (cxOf (CXe P w) P w K mg base N x (defScope st) f cdv A outer s H E) Ex (topF h1) := okf_def fun c H' e k => h5 c H' (fun b o hb => k b o hb (by simp)) e
  refine ⟨_, hG (topF h1), startX N ds, [], retX Qx, ⟨?_, ?_⟩, hq ds Qx h3, ⟨fun σ' H' ρ' _ E' q => ?_, fun v s σ' H' ρ' _ E' q => ?_, fun _ _ _ _ _ q => q.elim, fun _ _ _ _ _ q => q.elim⟩⟩
  · unfold startX L2.start
    simp only [List.length_append, List.length_map, List.length_replicate]
    rw [h2.len]
  · rw [List.append_nil]
    have R0 : Rep (topF h1) [] H := ⟨List.nodup_nil, fun r hr => by simp at hr, fun r hr => by simp at hr, fun b o h _ => h, fun b hb => by simp at hb⟩
    unfold startX L2.start
    rw [h2.len]
    refine rep_args R0 (h2.imp fun _ _ z => z.to fun b o hb => ?_)
    cases q : H b with
    | none => rw [h1 _ _ hb] at q; cases q
    | some u => exact (ext_old q).trans hb
  · have R := E'.rep.add (d := .non) (v := .non) IsX.of_non
    obtain ⟨e1, e2⟩ := res_ok R
    exact h4 _ _ _ e1 e2 q
  · obtain ⟨e1, e2⟩ := res_ok E'.front
    exact h4 _ _ _ e1 e2 q
def CalE (P : Program) (w : World) (K : PySem.W.Frag) (mg : Str → Option Value) (base : Heap) (j : Nat) (x : Str) (ps : List Str) (sp : Sp) : Prop := ∃ f fd, FnOk P w K mg base (CXe P w) j f fd ps sp ∧ Binds K fd ps [] ∧ PySem.W.keepIn K (.ref f) = true ∧ mg x = some (.ref f)
theorem pe_calE {X : Cx} {j : Nat} {x : Str} {ps : List Str} {sp : Sp} {E : XK} {e : Expr} {es : List Expr} {t : TA} {p pos : Pos} (C : CalE X.prog X.w X.K X.mg X.base j x ps sp) (hr : Room j X.A) (hx : Passes (CXe X.prog X.w) X E) (ha : PA X (e :: es) t) (hg : Gl X x := by rfl) (hdb : (x == ("__debug__" : Str)) = false := by decide)
    (he : starEach (e :: es) X.env = (false, eval e X.env) :: starEach es X.env := by rfl) (hpl : (backTo pos (starEach es X.env)).any (·.1) = false := by rfl) : PE X (.Call (.Name x p) (e :: es) [] pos) (tCall sp [] E t) := by
  obtain ⟨f, fd, G, b, k, m⟩ := C
  exact pe_call G hr hg m k b .nil hx ha hdb he hpl
def xCallE (Ex : ExT) (g : GE) (u : XA) : XT := fun ρ Q => u ρ fun ss ρ' => g (ss.map Sv.d) (fun s => Q s ρ') Ex
theorem xe_callE {X : Cx} {Ex : ExT} {j : Nat} {x : Str} {ps : List Str} {g : GE} {e : Expr} {es : List Expr} {u : XA} {p pos : Pos} (C : CalE X.prog X.w X.K X.mg X.base j x ps (spE g)) (hr : Room j X.A) (ha : XAs X Ex (e :: es) u) (hg : Gl X x := by rfl) (hdb : (x == ("__debug__" : Str)) = false := by decide)
    (he : starEach (e :: es) X.env = (false, eval e X.env) :: starEach es X.env := by rfl) (hpl : (backTo pos (starEach es X.env)).any (·.1) = false := by rfl) : XE X Ex (.Call (.Name x p) (e :: es) [] pos) (xCallE Ex g u) := fun F => (pe_calE (E := fun c _ H' => Ex c ∧ Kept F H') C hr (fun pins σ H s e s' I h => OkF.pass pins σ H s e s' I h) (ha F) hg hdb he hpl).weak fun σ H Q => by
  rintro ⟨ρ, fr, Qx, E, t, k⟩
  refine ⟨ρ, fr, _, E, t, fun vs ss H2 ρ2 hl E2 q2 => ?_⟩
  obtain ⟨R, hs⟩ := E2.many hl
  rw [List.append_nil]
  exact ⟨_, _, _, Ex, R.hv, hs, q2, fun s v H' e hr q => k v s H' ρ2 (EOk.back E2.len (R.res e hr)) q, fun c H' e q => ⟨q, fun b o h1 h2 => e b o (R.kp b o h1 h2)⟩⟩
end Lf

set_option Elab.async false
set_option linter.all false
set_option maxRecDepth 100000
set_option maxHeartbeats 4000000
namespace Lf
open PySem L2
theorem objOk_obj {P : Program} {w : World} {H : Hp} {h : Heap} {a : Addr} {o : HO} (x : ObjOk P w H h a o) : ∃ ob, h.get? a = some ob := by
  cases o with
  | lst xs => obtain ⟨z, its, n, r, e⟩ := x; exact ⟨_, e⟩
  | tup xs => obtain ⟨z, its, r, ob, e, c⟩ := x; exact ⟨_, e⟩
  | dK kvs => obtain ⟨z, y, vs, r, ob, es, ep, e, c⟩ := x; exact ⟨_, e⟩
  | dT kvs => obtain ⟨z, y, xs, r, ob, es, ep, e, c⟩ := x; exact ⟨_, e⟩
  | set S n => obtain ⟨ob, es, ep, t, e, c⟩ := x; exact ⟨_, e⟩
  | ins C dx fs => obtain ⟨d, z, ne, e, _⟩ := x; exact ⟨_, e⟩
  | own y => exact x
  | xd fs => obtain ⟨mA, ⟨od, es, ep, e, c⟩, r⟩ := x; exact ⟨_, e⟩
  | rng lo hi => obtain ⟨t, u, v, e⟩ := x; exact ⟨_, e⟩
  | frz ob u => exact ⟨_, x.1⟩
  | tbl ps => exact ⟨_, x⟩
  | met f y => exact ⟨_, x⟩
  | ext φ => exact x.2.1
theorem HOk.none {P : Program} {w : World} {H : Hp} {h : Heap} (x : HOk P w H h) {a : Addr} (n : h.get? a = .none) : H a = .none := by
  cases q : H a with
  | none => rfl
  | some o =>
    obtain ⟨ob, e⟩ := objOk_obj (x a o q)
    rw [n] at e; cases e
abbrev veM : List Value := [.type "ValueError", .type "Exception", .type "BaseException", .type "object"]
abbrev OwnX (X : Cx) (x : Str) (C : Addr) : Prop := PyProof.Rows.OwnCls x C veM "ValueError.__new__" X.mg X.base
def xRaise (Ex : ExT) (c : Value) : XS := fun _ _ => Ex c
theorem xs_raise {X : Cx} {Ex : ExT} {x z : Str} {C : Addr} {np cpos pos p : Pos} {j : Nat} (O : OwnX X x C) (hc : X.calm = true) (hg : Gl X x) (hd : (x == ("__debug__" : Str)) = false := by decide)
    (he : starEach [.Constant (.str z) j p] X.env = [(false, eval (.Constant (.str z) j p) X.env)] := by rfl) : XSt X Ex (.Raise (some (.Call (.Name x np) [.Constant (.str z) j p] [] cpos)) none pos) (xRaise Ex (.ref C)) := fun F _ pins s σ H D I h => by
  obtain ⟨ρ, fr, d, E, q, k⟩ := h
  have pa : PA X [.Constant (.str z) j p] (tCons (tC (.str z)) tNil) := pa_cons pe_str pa_nil he
  obtain ⟨tl, N, nm, qn, bs, hdct, sn, sub, ab, col, dd, k0, k1, k2, k3, k5, mN, hC, hN, hni, T⟩ := O.obj
  refine wpAny_Raise_call_subT (C := C) (nm := nm) (q := qn) (N := N) (bs := bs) (bm := tl) (hdct := hdct) (sn := sn) (sub := sub) (ab := ab) (col := col) (dd := dd) (k0 := k0) (k1 := k1) (k2 := k2) (k3 := k3) (k5 := k5)
    PySem.F.excBase_ValueError (mN := mN) (T.hasType PySem.F.excBase_ValueError.hasBase) (I.ok.hd hc) (by rw [he]; rfl) hni (ld_glob I hg O.bound ⟨rfl, ?_⟩ hd)
  refine Calls.evalArgs_plain ?_
  refine wpAny_mono (pa cpos pins s σ H (fun vs H1 => vs = [.str z] ∧ H1 = H) I ⟨rfl, rfl⟩) (fun us s₂ h₂ => ?_) fun _ _ y => y
  obtain ⟨vs, H1, I2, rv, rfl, rfl⟩ := h₂
  refine ⟨rfl, by rw [← rv.length]; show 1 ≤ sizeLine; exact Nat.le_trans (by decide) (Nat.le_of_lt line1), I2.bk _ _ hC, hN.keeps I2.bk, T.keeps I2.bk, fun h' e hm => ?_⟩
  obtain ⟨t, ht, tn, _⟩ := hm.there
  refine OkF.pass (Ex := Ex) (F := F) pins σ H1 s₂ _ _ I2 ⟨e, .ref C, H1, rfl, rfl, I2.bare, Un.kept hm.keeps, I2.hok.kept hm.keeps, ⟨hm.new, HOk.none I2.hok hm.new, _, _, ht, rfl, rfl, rfl, by show 1 < 6; decide, .inl rfl⟩, q, fun b o h1 h2 => E.rep.kp b o h1 h2⟩
end Lf

set_option Elab.async false
set_option linter.all false
set_option maxRecDepth 100000
set_option maxHeartbeats 4000000
namespace Lf
open PySem L2
section
variable {X : Cx} {pins : List (Addr × Obj)} {σ : St} {H H' : Hp} {s s' : Shared} {h' : Heap} {S : List Addr}
theorem Inv.noLoc (I : Inv X pins σ H s) {b : Addr} {o : Obj} {vs : Array Value} (h : s.heap.get? b = some o) (hd : o.data = .fields vs) : b ≠ X.env.locals ∧ ∀ x c, X.env.cells.lookup x = some c → c ≠ b := by
  refine ⟨fun z => ?_, fun x c e z => ?_⟩
  · obtain ⟨m, ⟨oL, es, ep, hL, hLd, _⟩, _⟩ := I.loc
    rw [z, hL] at h; cases h; rw [hLd] at hd; cases hd
  · obtain ⟨v, o', ho, hv⟩ := I.cell x c e
    rw [z, h] at ho; cases ho; rw [hv] at hd; cases hd
theorem Inv.noted {t' : Nat} (I : Inv X pins σ H s) (kx : KeptX (frs X.stack) S s.heap h') (hS : ∀ b ∈ S, (X.s₀.heap.get? b = none ∧ ∀ p ∈ X.pn ++ pins, p.1 ≠ b) ∧ H b = none ∧ ∃ o vs, s.heap.get? b = some o ∧ o.data = .fields vs) : Inv X pins σ H { s with heap := h', toks := t' } := by
  have neL : ∀ b o, X.s₀.heap.get? b = some o → b ≠ X.env.locals := fun b o e => Nat.ne_of_lt (Nat.lt_of_lt_of_le (Heap.lt_size e) I.ok.above)
  have nS : ∀ b o, X.s₀.heap.get? b = some o → b ∉ S := fun b o e z => by rw [(hS b z).1.1] at e; cases e
  have nst : ∀ b, b ≠ X.env.locals → b ∉ X.fs → b ∉ frs X.stack := fun b h1 h2 z => (List.mem_cons.mp (I.stkSub b z)).elim h1 h2
  have lS : X.env.locals ∉ S := fun z => by obtain ⟨_, _, o, vs, h1, h2⟩ := hS _ z; exact (Inv.noLoc I h1 h2).1 rfl
  have cS : ∀ x c, X.env.cells.lookup x = some c → c ∉ S := fun x c e z => by obtain ⟨_, _, o, vs, h1, h2⟩ := hS _ z; exact (Inv.noLoc I h1 h2).2 x c e rfl
  have cell : ∀ x c, X.env.cells.lookup x = some c → ∀ v, s.heap.IsCell c v → h'.IsCell c v := fun x c e v ⟨o, ho, hd⟩ => by
    obtain ⟨sl, e2⟩ := (kx c o ho (cS x c e)).2
    exact ⟨_, e2, hd⟩
  have B := I.base
  refine ⟨I.ok, I.os, I.bare, ⟨fun b o e n hb hx => ?_, fun b o e n hb hx => ?_, B.free, fun b o e hx => ?_, B.tups, B.frzs, B.tbls⟩, ?_, fun x c e => ?_, I.free, I.freeC, fun p hp => ?_, hok_keptX I.hok kx I.stkFree (fun b hb => (hS b hb).2.1), I.len⟩
  · exact (kx b o (B.keep b o e n hb hx) (nS b o e)).1 (nst b (neL b o e) hb)
  · obtain ⟨sl, e1⟩ := B.slot b o e n hb hx
    obtain ⟨sl', e2⟩ := (kx b _ e1 (nS b o e)).2
    exact ⟨sl', e2⟩
  · obtain ⟨o', e1⟩ := B.there b o e hx
    obtain ⟨sl', e2⟩ := (kx b _ e1 (nS b o e)).2
    exact ⟨_, e2⟩
  · obtain ⟨m, ⟨oL, es, ep, hL, r⟩, hl⟩ := I.loc
    obtain ⟨sl, e2⟩ := (kx _ oL hL lS).2
    refine ⟨m, ⟨_, es, ep, e2, r⟩, fun i x v e1 e2 e3 => ?_⟩
    obtain ⟨u, ru, lk⟩ := hl i x v e1 e2 e3
    refine ⟨u, ru, ?_⟩
    rcases lk with lk | ⟨k, c, e, z⟩
    · exact .inl lk
    · exact .inr ⟨k, c, e, cell x c e _ z⟩
  · obtain ⟨v, z⟩ := I.cell x c e
    exact ⟨v, cell x c e v z⟩
  · obtain ⟨e, n, ne, nf, d⟩ := I.pin p hp
    exact ⟨(kx p.1 p.2 e fun z => (hS p.1 z).1.2 p hp rfl).1 (nst p.1 ne nf), n, ne, nf, d⟩
theorem Inv.caught {ea : Addr} {cls : Value} {o : Obj} {vs : Array Value} (I : Inv X pins σ H s) (nw : X.s₀.heap.get? ea = none ∧ ∀ p ∈ X.pn ++ pins, p.1 ≠ ea) (hn : H ea = none) (he : s.heap.get? ea = some o) (hc : o.cls = cls) (hd : o.data = .fields vs) (hdn : o.dict = none) :
    Inv X pins σ (upd H ea (.ext (excP ea cls))) s := by
  obtain ⟨nl, nc⟩ := Inv.noLoc I he hd
  have B := I.base
  have ne : ∀ b u, H b = some u → b ≠ ea := fun b u e z => by rw [z, hn] at e; cases e
  refine ⟨I.ok, I.os, I.bare, ⟨B.keep, B.slot, fun b o e n hx => ?_, B.there, fun b xs e => ?_, fun b o xs e => ?_, fun b ps e => ?_⟩, I.loc, I.cell, ?_, fun x c e => ?_, fun p hp => ?_, fun a u e => ?_, I.len⟩
  · rw [upd_ne fun z => by rw [z, nw.1] at e; cases e]; exact B.free b o e n hx
  · have := B.tups b xs e; rw [upd_ne (ne b _ this)]; exact this
  · have := B.frzs b o xs e; rw [upd_ne (ne b _ this)]; exact this
  · obtain ⟨more, h1⟩ := B.tbls b ps e; exact ⟨more, by rw [upd_ne (ne b _ h1)]; exact h1⟩
  · rw [upd_ne (Ne.symm nl)]; exact I.free
  · rw [upd_ne (nc x c e)]; exact I.freeC x c e
  · obtain ⟨e1, e2, e3⟩ := I.pin p hp
    exact ⟨e1, by rw [upd_ne (nw.2 p hp)]; exact e2, e3⟩
  · by_cases z : a = ea
    · subst z
      rw [upd_same] at e
      cases e
      exact ⟨⟨o, vs, he, hc, hd, hdn⟩, ⟨o, he⟩, fun h1 h2 ⟨o', vs', a1, a2⟩ k => ⟨o', vs', k o' a1, a2⟩⟩
    · rw [upd_ne z] at e
      exact ObjOk.stay (I.hok a u e) (fun b v _ hv => hv) (fun b hb => by rw [upd_ne (ne b _ hb)]; exact hb) (fun b xs hb => by rw [upd_ne (ne b _ hb)]; exact hb)
theorem name_goes {M : Model} {A : Around} {E : Value → Shared → Prop} {i : Nat} {n : Str} {pos : Pos} {Q : Unit → Shared → Prop} (I : Inv X pins σ H s) (hN : X.N.Nodup) (hi : X.N[i]? = some n) (hk : X.env.kindOf n = some .local)
    (h : ∀ s', Inv X pins (σ.set i none) H s' → Q () s') : wpAny M A (do bindName X.env n .none; unbindBehindTheSuite X.env n pos) Q E s := by
  obtain ⟨m, hn, hl⟩ := id I.loc
  obtain ⟨oL, _, _, hoL, _⟩ := id hn
  have hcls : (X.env.scope.kind == .class || (X.env.scope.kind == .module && X.env.locals != X.env.globals)) = false := by rw [I.ok.kind]; rfl
  have hiσ : i < σ.length := by rw [I.len]; exact (List.getElem?_eq_some_iff.mp hi).1
  refine wpAny_nameGoes_keeps hk hn hcls fun h' v hn' hs => h _ ?_
  have nl : ∀ b o, X.s₀.heap.get? b = some o → b ≠ X.env.locals := fun b o e => Nat.ne_of_lt (Nat.lt_of_lt_of_le (Heap.lt_size e) I.ok.above)
  refine ⟨I.ok, I.os, I.bare, ⟨fun b o e n hb hx => ?_, fun b o e n hb hx => ?_, I.base.free, fun b o e hx => ?_, I.base.tups, I.base.frzs, I.base.tbls⟩, ⟨_, hn', fun j y v' e1 e2 e3 => ?_⟩, fun y c e => ?_, I.free, I.freeC, fun p hp => ?_, fun b ob e => ?_, by simpa using I.len⟩
  · exact (hs.2 b (nl b o e)).trans (I.base.keep b o e n hb hx)
  · obtain ⟨sl, e1⟩ := I.base.slot b o e n hb hx
    exact ⟨sl, (hs.2 b (nl b o e)).trans e1⟩
  · obtain ⟨o', e1⟩ := I.base.there b o e hx
    exact ⟨o', (hs.2 b (nl b o e)).trans e1⟩
  · by_cases hj : j = i
    · subst hj
      rw [List.getElem?_set_self hiσ] at e2
      cases e2
    · rw [List.getElem?_set_ne (Ne.symm hj)] at e2
      obtain ⟨u', r', q⟩ := hl j y v' e1 e2 e3
      refine ⟨u', r', ?_⟩
      rcases q with ⟨k, e⟩ | ⟨k, c, e, z⟩
      · refine .inl ⟨k, ?_⟩
        have : y ≠ n := fun e => hj (nodup_ix hN e1 (e ▸ hi))
        simp [this, e]
      · exact .inr ⟨k, c, e, z.sameBut hs (I.cne y c e)⟩
  · obtain ⟨v', z⟩ := I.cell y c e
    exact ⟨v', z.sameBut hs (I.cne y c e)⟩
  · obtain ⟨e, n, ne, nf, d⟩ := I.pin p hp
    exact ⟨(hs.2 p.1 ne).trans e, n, ne, nf, d⟩
  · refine (I.hok b ob e).stay (fun c w' hc q => (hs.2 c ?_).trans q) (fun _ q => q) fun _ _ q => q
    rintro rfl
    rcases hc with rfl | hc
    · rw [I.free] at e; cases e
    · rw [I.free] at hc; cases hc
end
abbrev NwT (X : Cx) (pins : List (Addr × Obj)) : Addr → Prop := fun b => X.s₀.heap.get? b = none ∧ ∀ p ∈ X.pn ++ pins, p.1 ≠ b
abbrev tryX (X : Cx) (pins : List (Addr × Obj)) (σ : St) (Qe : Value → Hp → Prop) : Cx := { X with pn := X.pn ++ pins, xe := fun e s' => ∃ ea cls H', e = .ref ea ∧ Inv X pins σ H' s' ∧ Air (NwT X pins) s'.heap H' ea cls ∧ Qe cls H' }
section
variable {X : Cx} {pins : List (Addr × Obj)} {σ : St} {H : Hp} {s : Shared} {Qe : Value → Hp → Prop}
theorem Inv.inTry {σ0 : St} (I : Inv X pins σ H s) : Inv (tryX X pins σ0 Qe) [] σ H s :=
  ⟨⟨I.ok.mod, I.ok.kind, I.ok.glob, I.ok.blt, I.ok.above, I.ok.inj, I.ok.has, I.ok.cab, I.ok.hd, I.ok.frames, I.ok.stk, I.ok.exf, I.ok.bs, I.ok.bsz, I.ok.noex, I.ok.exfs, I.ok.funs, I.ok.frf⟩, I.os, I.bare, I.base, I.loc, I.cell, I.free, I.freeC, fun p hp => I.pin p (by simpa using hp), I.hok, I.len⟩
theorem Inv.outTry {σ0 : St} {pins' : List (Addr × Obj)} (I : Inv (tryX X pins σ0 Qe) pins' σ H s) : Inv X pins σ H s :=
  ⟨⟨I.ok.mod, I.ok.kind, I.ok.glob, I.ok.blt, I.ok.above, I.ok.inj, I.ok.has, I.ok.cab, I.ok.hd, I.ok.frames, I.ok.stk, I.ok.exf, I.ok.bs, I.ok.bsz, I.ok.noex, I.ok.exfs, I.ok.funs, I.ok.frf⟩, I.os, I.bare, I.base, I.loc, I.cell, I.free, I.freeC, fun p hp => I.pin p (List.mem_append_left _ hp), I.hok, I.len⟩
end
abbrev XQ := En → (En → Prop) → (Value → En → Prop) → Prop
def tXQ (F : Fm) (σ0 : St) (Qe : Value → Hp → Prop) (q : XQ) : TS := fun D σ H => σ = σ0 ∧ ∃ ρ fr Qx Qe', EOk F ρ σ fr H ∧ q ρ Qx Qe' ∧ (∀ σ' H' ρ', σ'.length = σ.length → EOk F ρ' σ' fr H' → Qx ρ' → D.nx σ' H') ∧ ∀ c H' ρ', EOk F ρ' σ fr H' → Qe' c ρ' → Qe c H'
def XQs (X : Cx) (sts : List Stmt) (q : XQ) : Prop := ∀ pins σ0 Qe F, PSs (tryX X pins σ0 Qe) sts (tXQ F σ0 Qe q)
section
variable {X : Cx} {pins : List (Addr × Obj)} {σ0 : St} {Qe : Value → Hp → Prop} {F : Fm} {g : GE} {u : XA}
def tCallT (F : Fm) (σ0 : St) (Qe : Value → Hp → Prop) (g : GE) (u : XA) : TE := fun σ H Q => σ = σ0 ∧ ∃ (ρ : En) (fr : List Rw) (Qx : Sv → En → Prop) (Qe' : Value → En → Prop), EOk F ρ σ fr H ∧ (u ρ fun ss ρ' => g (ss.map Sv.d) (fun s => Qx s ρ') (fun c => Qe' c ρ')) ∧ (∀ v s H' ρ', EOk F ρ' σ ((.v s, some v) :: fr) H' → Qx s ρ' → Q v H') ∧ ∀ c H' ρ', EOk F ρ' σ fr H' → Qe' c ρ' → Qe c H'
theorem pe_callT {j : Nat} {x : Str} {ps : List Str} {e : Expr} {es : List Expr} {p pos : Pos} (C : CalE X.prog X.w X.K X.mg X.base j x ps (spE g)) (hr : Room j X.A) (ha : XAs (tryX X pins σ0 Qe) noEx (e :: es) u) (hex : X.ex = [] := by rfl) (hg : Gl X x := by rfl) (hdb : (x == ("__debug__" : Str)) = false := by decide)
    (he : starEach (e :: es) X.env = (false, eval e X.env) :: starEach es X.env := by rfl) (hpl : (backTo pos (starEach es X.env)).any (·.1) = false := by rfl) : PE (tryX X pins σ0 Qe) (.Call (.Name x p) (e :: es) [] pos) (tCallT F σ0 Qe g u) := by
  obtain ⟨f, fd, G, hb, hk, hm⟩ := C
  intro pins' s σ H Q I h
  obtain ⟨rfl, ρ, fr, Qx, Qe', E, q, k1, k2⟩ := h
  refine wpAny_Call_Name_kw (ld_glob I hg hm ?_ hdb)
  refine PySem.W.callWith_K (h₀ := X.base) I.ok.mod.kin hk (thn (ha F pos pins' s σ H (fun vs H1 => spE g vs H1 Q (fun c _ H' => Qe c H')) I ⟨ρ, fr, _, E, q, fun vs ss H2 ρ2 hl E2 q2 => ?_⟩) fun us s1 ⟨vs, H1, I1, r, q⟩ => ⟨I1.kIn, ?_⟩) he hpl
  · obtain ⟨R, hs⟩ := E2.many hl
    exact ⟨_, _, _, fun c => Qe' c ρ2, R.hv, hs, q2, fun s v H' e hr q => k1 v s H' ρ2 (EOk.back E2.len (R.res e hr)) q, fun c H' e q => k2 c H' ρ2 ⟨E2.len, R.grow e⟩ q⟩
  · have hl := G.len _ _ _ _ q
    have hl2 : us.length = ps.length := by rw [← r.length]; exact hl
    refine wpAny_call (codeAny_mono (G.run X.A X.stack s1 H1 ⟨us, []⟩ us vs Q _ hr I1.env0 (by have := hb s1 us I1.kIn (by rw [List.append_nil]; exact hl2); rwa [List.append_nil] at this) r q) fun r s' hq => ?_)
    cases r with
    | error e =>
      obtain ⟨ea, cls, H', rfl, os, bare, un, hok, air, hx⟩ := hq
      refine ⟨ea, cls, H', rfl, Inv.outTry (Inv.thrown I1 os bare un hok), air.older fun b hb => ⟨?_, fun p hp z => ?_⟩, hx⟩
      · cases qq : X.s₀.heap.get? b with
        | none => rfl
        | some o =>
          obtain ⟨o', e'⟩ := I1.base.there b o qq (by show b ∉ X.ex; rw [hex]; simp)
          rw [hb] at e'; cases e'
      · obtain ⟨e1, _⟩ := I1.pin p (List.mem_append_left _ hp)
        rw [z, hb] at e1; cases e1
    | ok fl =>
      cases fl with
      | ret v => exact I1.after hq
      | next => exact False.elim hq
      | brk => exact False.elim hq
      | cont => exact False.elim hq
end
end Lf

set_option Elab.async false
set_option linter.all false
set_option maxRecDepth 100000
set_option maxHeartbeats 4000000
namespace Lf
open PySem L2
def xqSet (i : Nat) (g : GE) (u : XA) : XQ := fun ρ N Qe => u ρ fun ss ρ' => g (ss.map Sv.d) (fun s => N (ρ'.set i (.v s))) (fun c => Qe c ρ')
section
variable {X : Cx} {st : Stmt} {i : Nat} {g : GE} {u : XA} {q r : XQ} {e c : Expr} {tc : XC} {pos : Pos}
theorem xq_set (h : ∀ pins σ0 Qe F, PS (tryX X pins σ0 Qe) st (tAsg (tCallT F σ0 Qe g u) (gName i))) : XQs X [st] (xqSet i g u) := fun pins σ0 Qe F => (pss_one (h pins σ0 Qe F)).weak fun D σ H => by
  rintro ⟨rfl, ρ, fr, Qx, Qe', E, q, k1, k2⟩
  exact ⟨rfl, ρ, fr, fun s ρ' => Qx (ρ'.set i (.v s)), Qe', E, q, fun v s H' ρ' E' q' => k1 _ H' _ List.length_set (eok_set E') q', k2⟩
end
def Under (base : Heap) (C D : Addr) : Prop := ∃ nm q N bs bm hdct sn sub ab col dd k0 k1 k2 k3 k5 newId, base.get? C = some (excClassObj nm q C N bs bm hdct sn sub ab col dd k0 k1 k2 k3 k5 newId) ∧ (Value.ref C :: bm).contains (.ref D) = true
section
variable {M : Model} {A : Around} {E : Value → Shared → Prop} {h : Heap} {g : Array GenState} {d : Drawn} {t : Nat} {os : OsState}
theorem excMatches_own {C D e : Addr} {oe : Obj} {Q : Bool → Shared → Prop} {nm q : Str} {N : Addr} {bs bm : List Value} {hdct : Bool} {sn : List Str} {sub : List Value} {ab : Bool} {col : Option Bool} {dd : Option Addr} {k0 k1 k2 k3 k5 : Option Value} {newId : String}
    {nm' q' : Str} {N' : Addr} {bs' bm' : List Value} {hdct' : Bool} {sn' : List Str} {sub' : List Value} {ab' : Bool} {col' : Option Bool} {dd' : Option Addr} {k0' k1' k2' k3' k5' : Option Value} {newId' : String}
    (hC : h.get? C = some (excClassObj nm q C N bs bm hdct sn sub ab col dd k0 k1 k2 k3 k5 newId)) (hD : h.get? D = some (excClassObj nm' q' D N' bs' bm' hdct' sn' sub' ab' col' dd' k0' k1' k2' k3' k5' newId')) (he : h.get? e = some oe) (hcls : oe.cls = .ref C)
    (hbase : bm'.contains (.type "BaseException") = true) (hsub : (Value.ref C :: bm).contains (.ref D) = true) (hq : Q true ⟨h, g, d, t, os⟩) : wpAny M A (excMatches (.ref e) (.ref D)) Q E ⟨h, g, d, t, os⟩ := by
  have hcB : (Value.ref D :: bm').contains (.type "BaseException") = true := by rw [List.contains_cons, hbase, Bool.or_true]
  have f := tc_notTuple
  unfold excMatches
  repeat (first | (with_reducible refine wpAny_loadPart_at he ?_; rw [hcls]) | with_reducible refine wpAny_loadPart_at hD ?_ | (with_reducible refine wpAny_isSubtype_exc hD ?_; rw [hcB]) | (with_reducible refine wpAny_isSubtype_exc hC ?_; rw [hsub]) | wp_step)
  exact hq
end
abbrev excX (X : Cx) (ea : Addr) : Cx := { X with A := X.A.mark (some (.ref ea)), calm := false, xe := fun _ _ => False }
section
variable {X : Cx} {pins : List (Addr × Obj)} {σ : St} {H : Hp} {s : Shared} {ea : Addr}
theorem Inv.inExc (I : Inv X pins σ H s) : Inv (excX X ea) pins σ H s :=
  ⟨⟨I.ok.mod, I.ok.kind, I.ok.glob, I.ok.blt, I.ok.above, I.ok.inj, I.ok.has, I.ok.cab, (fun z => nomatch z), I.ok.frames, I.ok.stk, I.ok.exf, I.ok.bs, I.ok.bsz, I.ok.noex, I.ok.exfs, I.ok.funs, I.ok.frf⟩, I.os, I.bare, I.base, I.loc, I.cell, I.free, I.freeC, I.pin, I.hok, I.len⟩
theorem Inv.outExc (ok : X.Ok) (I : Inv (excX X ea) pins σ H s) : Inv X pins σ H s := ⟨ok, I.os, I.bare, I.base, I.loc, I.cell, I.free, I.freeC, I.pin, I.hok, I.len⟩
end
def xTry (M : Value → Prop) (jn : Nat) (q : XQ) (K : XS) : XS := fun ρ D => q ρ D.nx fun c ρ' => M c ∧ K (ρ'.set jn (.v (.tr (.exc c)))) ⟨fun ρ2 => D.nx (ρ2.set jn .un), fun s ρ2 => D.rt s (ρ2.set jn .un), fun ρ2 => D.bk (ρ2.set jn .un), fun ρ2 => D.ct (ρ2.set jn .un)⟩
theorem eok_gone {F : Fm} {ρ : En} {σ : St} {fr : List Rw} {H : Hp} {i : Nat} (E : EOk F ρ σ fr H) : EOk F (ρ.set i .un) (σ.set i none) fr H := by
  by_cases hi : i < ρ.length
  · refine ⟨by rw [List.length_set, List.length_set]; exact E.len, ?_⟩
    have hz := pull (l := ρ.zip σ) (i := i) (List.getElem?_eq_getElem (by rw [List.length_zip]; have := E.len; omega))
    have R := E.rep.perm (hz.append_right fr)
    exact (R.tail.addU (x := none)).perm ((zip_put E.len hi).append_right fr).symm
  · rw [List.set_eq_of_length_le (by omega), List.set_eq_of_length_le (by have := E.len; omega)]
    exact E
theorem xs_try {X : Cx} {Ex : ExT} {body suite : List Stmt} {b₀ : Stmt} {cn n : Str} {jn : Nat} {Cc : Addr} {q : XQ} {K : XS} {cp hp pos : Pos} (hq : XQs X body q) (O : OwnX X cn Cc) (hst : X.stack = X.env :: X.outer) (hfr : X.env.frame = some X.env.locals) (hgc : Gl X cn) (hN : X.N.Nodup) (hi : X.N[jn]? = some n) (hk : X.env.kindOf n = some .local)
    (hh : ∀ ea, XSs (excX X ea) noEx (b₀ :: suite) K) (hdb : (cn == ("__debug__" : Str)) = false := by decide) (hf : X.fn n = true ∨ X.env.scope.names.lookup n = some .local := by first | exact .inl rfl | exact .inr rfl) :
    XSt X Ex (.Try body [.ExceptHandler (some (.Name cn cp)) (some n) (b₀ :: suite) hp] [] [] pos) (xTry (fun c => ∃ C, c = .ref C ∧ Under X.base C Cc) jn q K) := fun F _ pins s σ H D I h => by
  obtain ⟨ρ, fr, d, E, t, k⟩ := h
  let Qe : Value → Hp → Prop := fun c H' => ∃ ρ', EOk F ρ' σ fr H' ∧ (∃ C, c = .ref C ∧ Under X.base C Cc) ∧ K (ρ'.set jn (.v (.tr (.exc c)))) ⟨fun ρ2 => d.nx (ρ2.set jn .un), fun s ρ2 => d.rt s (ρ2.set jn .un), fun ρ2 => d.bk (ρ2.set jn .un), fun ρ2 => d.ct (ρ2.set jn .un)⟩
  refine wpAny_Try_except (wpAny_mono (hq pins σ Qe F [] s σ H ⟨D.nx, fun _ _ => False, fun _ _ => False, fun _ _ => False⟩ (Inv.inTry I) ⟨rfl, ρ, fr, d.nx, _, E, t, fun σ' H' ρ' hl E' q' => k.nx σ' H' ρ' hl E' q', fun c H' ρ' E' q' => ⟨ρ', E', q'⟩⟩) (fun f s₁ h₁ => ?_) fun e s₁ h₁ => ?_)
  · cases f with
    | next =>
      obtain ⟨σ', H', I', q'⟩ := h₁
      exact wpAny_execs_nil ⟨σ', H', Inv.outTry I', q'⟩
    | brk => obtain ⟨_, _, _, q'⟩ := h₁; exact q'.elim
    | cont => obtain ⟨_, _, _, q'⟩ := h₁; exact q'.elim
    | ret u => obtain ⟨_, _, _, _, _, q'⟩ := h₁; exact q'.elim
  · obtain ⟨ea, cls, H', rfl, I1, air, ρ', E1, ⟨C, rfl, hUn⟩, hK⟩ := h₁
    have fr1 : X.A.frames = some (X.env :: X.outer) := by rw [← hst]; exact I1.ok.frames
    refine note_air (base := X.base) (nw := NwT X pins) (H := H') (L := X.env.locals) fr1 (by rw [← hst]; exact I1.stack) hfr (fun T hT => ⟨Heap.get?_none_of_le (Nat.le_trans I1.sz hT), fun p hp z => ?_⟩) (fun a ha => I1.hok.fresh ha) air fun h2 S hS kx air2 => ?_
    · obtain ⟨e1, _⟩ := I1.pin p hp
      exact absurd (Heap.lt_size e1) (by rw [z]; exact Nat.not_lt.mpr hT)
    have I2 : Inv X pins σ H' { s₁ with heap := h2 } := Inv.noted (t' := s₁.toks) I1 (by rw [hst]; exact kx) hS
    generalize hs2 : ({ s₁ with heap := h2 } : Shared) = s₂ at I2 ⊢
    have air3 : Air (NwT X pins) s₂.heap H' ea (.ref C) := by rw [← hs2]; exact air2
    clear air2 hs2 kx hS I1
    -- the clause's class
    obtain ⟨nm, qn, N, bs, bm, hdct, sn, sub, ab, col, dd, k0, k1, k2, k3, k5, newId, hC, hsub⟩ := hUn
    obtain ⟨tl, N', nm', qn', bs', hdct', sn', sub', ab', col', dd', k0', k1', k2', k3', k5', mN', hD, hN', hni', T'⟩ := O.obj
    obtain ⟨nw, hnE, oe, vs, he, hc, hd, hdn, hsz, a3⟩ := air3
    refine wpAny_handleBy_cons (codeAny_handlers_test (ld_glob (X := excX X ea) (Inv.inExc I2) hgc O.bound ?_ hdb)) (by intro z; cases z)
    obtain ⟨hp2, g2, d2, t2, os2⟩ := s₂
    refine excMatches_own (I2.bk _ _ hC) (I2.bk _ _ hD) he hc (T'.hasType PySem.F.excBase_ValueError.hasBase) hsub ?_
    rw [if_pos rfl]
    refine codeAny_handlers_suite_as ?_
    -- the flight ends
    have fl : ∀ {Q : Unit → Shared → Prop} {E' : Value → Shared → Prop}, (∀ h3, Inv X pins σ H' ⟨h3, g2, d2, t2, os2⟩ → (∃ o vs, h3.get? ea = some o ∧ o.cls = .ref C ∧ o.data = .fields vs ∧ o.dict = none) → Q () ⟨h3, g2, d2, t2, os2⟩) → wpAny (model X.prog X.w) (X.A.mark (some (.ref ea))) (setFlight (.ref ea) none) Q E' ⟨hp2, g2, d2, t2, os2⟩ := fun {Q E'} hQ => by
      rcases a3 with a3 | ⟨T, oT, ts, a3, aT, aN, aH, hT, hdT, h3⟩
      · unfold setFlight
        refine wpAny_bind (wpAny_field he hd a3 ?_)
        rw [if_neg (by decide)]
        exact wpAny_pure (hQ hp2 I2 ⟨oe, vs, he, hc, hd, hdn⟩)
      · refine wpAny_setFlight_none he hd a3 hT hdT h3 (hQ _ ?_ ⟨oe, vs, ?_, hc, hd, hdn⟩)
        · refine Inv.noted (s := ⟨hp2, g2, d2, t2, os2⟩) (S := [T]) (t' := t2) I2 (fun b o hb hbS => ?_) (fun b hb => by rw [List.mem_singleton.mp hb]; exact ⟨aN, aH, oT, ts, hT, hdT⟩)
          have n2 : b ≠ T := fun z => hbS (List.mem_singleton.mpr z)
          have e2 := (Heap.get?_update_other hp2 (Obj.mapFields (·.setIfInBounds 3 Value.none)) (Ne.symm n2)).trans hb
          exact ⟨fun _ => e2, o.slots, e2⟩
        · exact (Heap.get?_update_other _ _ aT).trans he
    refine fl fun h3 I3 ⟨o3, vs3, he3, hc3, hd3, hdn3⟩ => ?_
    have I4 := Inv.caught I3 nw hnE he3 hc3 hd3 hdn3
    refine store_ok2 (X := excX X ea) (v := .ref ea) (Inv.inExc I4) hN hi (.inl hk) rfl (fun s5 I5 _ => ?_) hf
    have e4 : Same H' (upd H' ea (.ext (excP ea (.ref C)))) := same_new hnE _
    have E4 := E1.grow e4
    have E5 : EOk F (ρ'.set jn (.v (.tr (.exc (.ref C))))) (σ.set jn (some (.ref ea))) fr (upd H' ea (.ext (excP ea (.ref C)))) := by
      refine eok_set (EOk.back E4.len (E4.rep.add (IsX.of_exc (hid_some.mpr ⟨E1.rep.not_own hnE, (ext_new (E1.rep.fresh hnE)).trans ?_⟩))))
      rw [upd_same]; rfl
    -- the suite
    have ends : DOk F (σ.set jn (some (.ref ea))).length fr ⟨fun σ' H2 => D.nx (σ'.set jn none) H2, fun v H2 => D.rt v H2, fun σ' H2 => D.bk (σ'.set jn none) H2, fun σ' H2 => D.ct (σ'.set jn none) H2⟩ ⟨fun ρ2 => d.nx (ρ2.set jn .un), fun s ρ2 => d.rt s (ρ2.set jn .un), fun ρ2 => d.bk (ρ2.set jn .un), fun ρ2 => d.ct (ρ2.set jn .un)⟩ := by
      have hl : (σ.set jn (some (.ref ea))).length = σ.length := List.length_set
      refine ⟨fun σ' H2 ρ2 h1 h2 h3 => k.nx _ H2 _ (by rw [List.length_set, h1, hl]) (eok_gone h2) h3, fun v s σ' H2 ρ2 h1 h2 h3 => k.rt v s (σ'.set jn none) H2 _ (by rw [List.length_set, h1, hl]) (eok_gone h2) h3, fun σ' H2 ρ2 h1 h2 h3 => k.bk _ H2 _ (by rw [List.length_set, h1, hl]) (eok_gone h2) h3, fun σ' H2 ρ2 h1 h2 h3 => k.ct _ H2 _ (by rw [List.length_set, h1, hl]) (eok_gone h2) h3⟩
    refine wpAny_mono (hh ea F pins s5 _ _ _ I5 ⟨_, fr, _, E5, hK, ends⟩) (fun f s6 h6 => ?_) fun _ _ z => False.elim z
    cases f with
    | next =>
      obtain ⟨σ', H2, I6, q6⟩ := h6
      exact name_goes (Inv.outExc I4.ok I6) hN hi hk fun s7 I7 => ⟨_, H2, I7, q6⟩
    | brk =>
      obtain ⟨σ', H2, I6, q6⟩ := h6
      exact name_goes (Inv.outExc I4.ok I6) hN hi hk fun s7 I7 => ⟨_, H2, I7, q6⟩
    | cont =>
      obtain ⟨σ', H2, I6, q6⟩ := h6
      exact name_goes (Inv.outExc I4.ok I6) hN hi hk fun s7 I7 => ⟨_, H2, I7, q6⟩
    | ret u =>
      obtain ⟨v, σ', H2, I6, rv, q6⟩ := h6
      exact name_goes (Inv.outExc I4.ok I6) hN hi hk fun s7 I7 => ⟨v, _, H2, I7, rv, q6⟩
end Lf

set_option Elab.async false
set_option linter.all false
set_option maxRecDepth 100000
set_option maxHeartbeats 4000000
namespace PySem.W
open PySem PySem.Spec PySem.Calls PyProof.Rows
section
variable {prog : Program} {w : World} {A : Around} {E : Value → Shared → Prop} {s : Shared} {K : Frag} {x C D : Addr} {ox : Obj} {od : Obj} {odo : Option Obj} {name : Str}
theorem kxc_check {M : Model} {nameV : Value} {Q : Unit → Shared → Prop} (X : K.In s.heap) (I : InstAt s.heap x ox D odo) (hm : mroIn K D (.type "BaseException") = some true) (hq : Q () s) : wpAny M A (checkBuiltinCall "BaseException.__getattribute__" ⟨[.ref x, nameV], []⟩) Q E s := by
  have hk : builtinKind "BaseException.__getattribute__" = some .slot := by decide +kernel
  have hsplit : splitId "BaseException.__getattribute__" = some ("BaseException", "__getattribute__") := by decide +kernel
  have ha := F.args_bexc_ga (.ref x) nameV
  have L0 := I.type (M := M)
  have L1 := looks_mroIn (M := M) X hm
  obtain ⟨hh, g, d, t, os⟩ := s
  simp only [checkBuiltinCall, hk, hsplit]
  refine wpAny_bind ?_
  unfold isInstance
  refine wpAny_bind (L0.at (L1.at ?_))
  repeat (first | assumption | wp_step)
theorem kxc_class {Q : Option Value → Shared → Prop} (X : K.In s.heap) (I : InstAt s.heap x ox D odo) (hga : findIn K (.ref D) "__getattribute__" = some (some (.builtin "BaseException.__getattribute__"))) (hk : findIn K (.ref D) "__getattr__" = some none)
    (hm : mroIn K D (.type "BaseException") = some true) (hmo : mroIn K D (.type "object") = some true) (hf : findObj K D odo "__class__" = some (.bind (.builtin "getset_descriptor.__get__") (.builtin "object.__class__")))
    (h : Q (some (.ref D)) { s with toks := s.toks + 1 }) : wpAny (model prog w) A (getAttr? (.ref x) "__class__") Q E s := by
  have GA := (F.excAttr_ValueError).ga
  obtain ⟨hh, g, d, t, os⟩ := s
  have L0 := I.type (M := model prog w)
  have L1 := looks_findIn (M := model prog w) X hga
  have L2 := looks_findIn (M := model prog w) X hk
  have L3 := looks_find (M := model prog w) X I hf
  have f3 := GA.bind (.ref x)
  unfold getAttr? getAttrBy? getAttrBy
  refine wpAny_bind (wpAny_mkText (wpAny_bind (wpAny_attempt (wpAny_holding (wpAny_bind (L0.at (wpAny_bind (L1.at ?_))))))))
  dsimp only
  rw [if_neg (show ¬ (onTheHeap (Value.ref D) && (Value.builtin "BaseException.__getattribute__" == Value.builtin "object.__getattribute__")) = true from by rw [show (Value.builtin "BaseException.__getattribute__" == Value.builtin "object.__getattribute__") = false from by decide +kernel, Bool.and_false]; exact Bool.false_ne_true)]
  unfold getAttrByItsOwn hookBefore
  rw [if_pos (show onTheHeap (Value.ref D) = true from rfl)]
  refine wpAny_bind (L2.at (wpAny_bind (wpAny_attempt (wpAny_holding ?_))))
  unfold callGetattribute
  rw [if_neg (by decide)]
  unfold boundAndCalled
  repeat (any_goals (first | assumption | wp_step))
  refine codeAny_call_builtin GA.plain F.entry_bexc_ga (kxc_check (s := ⟨hh, g, d, t + 1, os⟩) X I hm ?_)
  unfold Builtin.«object.__getattribute__»
  repeat (any_goals (first | assumption | with_reducible refine wpAny_bind (L0.at ?_) | with_reducible refine wpAny_bind (L3.at ?_) | wp_step))
  refine class_get (s := ⟨hh, g, d, t + 1, os⟩) X I hmo ?_
  repeat (any_goals (first | assumption | wp_step))
def excKit (K : Frag) (D : Addr) : Bool := (findIn K (.ref D) "__getattribute__" == some (some (.builtin "BaseException.__getattribute__"))) && (findIn K (.ref D) "__getattr__" == some none) && (mroIn K D (.type "BaseException") == some true) && (mroIn K D (.type "object") == some true) &&
  (findIn K (.ref D) "__class__" == some (some (.builtin "object.__class__"))) && (specialIn K (.builtin "object.__class__") "__get__" == some (some (.builtin "getset_descriptor.__get__"))) && (takesIn K (.builtin "object.__class__") == some true)
theorem kitx_exc {x D : Addr} (hk : excKit K D = true) : KitX K (.ref x) (.ref D) (fun h => ∃ ox, InstAt h x ox D none) := by
  simp only [excKit, Bool.and_eq_true, beq_iff_eq] at hk
  obtain ⟨⟨⟨⟨⟨⟨h1, h2⟩, h3⟩, h4⟩, h5⟩, h6⟩, h7⟩ := hk
  have hcls : ∃ cd, clsIn K D = some cd := by
    obtain ⟨cd, a, _⟩ := Option.bind_eq_some_iff.mp h3
    exact ⟨cd, a⟩
  obtain ⟨cdD, hcD⟩ := hcls
  have hf : findObj K D none "__class__" = some (.bind (.builtin "getset_descriptor.__get__") (.builtin "object.__class__")) := by
    unfold findObj
    rw [hcD, Option.bind_some, h5, Option.bind_some]
    simp [h6, h7]
  refine ⟨fun _ _ _ ⟨ox, I⟩ => I.type, fun _ _ X _ => ?_, fun h tp dd its n sl X htp => ?_, fun {_ _ _ _ _ _} X ⟨ox, I⟩ k => kxc_class X I h1 h2 h3 h4 hf k⟩
  · unfold clsIn at hcD
    split at hcD
    · rename_i c' d' cd' sl' ho
      intro A' Q' E' s' k q
      unfold isType loadHead
      exact wpAny_bind (wpAny_loadPart (k _ _ (X _ _ ho)) (wpAny_pure q))
    · cases hcD
  · refine Bool.eq_false_iff.mpr fun q => ?_
    have e : D = tp := Value.ref.inj (beq_iff_eq.mp q)
    subst e
    unfold clsIn at hcD
    split at hcD
    · rename_i c' d' cd' sl' ho
      have z := (X _ _ ho).symm.trans htp
      cases z
    · cases hcD
end
end PySem.W

set_option Elab.async false
set_option linter.all false
set_option maxRecDepth 100000
set_option maxHeartbeats 4000000
namespace Lf
open PySem L2
open PySem.W (Frag nsIn)
def noName (K : Frag) (N : Addr) (n : Str) : Bool := match K.lookup N with
  | some ⟨_, _, .dict es _, _⟩ => es.toList.all (fun e => match e.key with | .str _ _ => true | _ => false) && (es.toList.find? (·.key.isStr n)).isNone
  | _ => false
def tailOk (K : Frag) : Nat → List Value → Bool
  | n + 1, .ref A :: r => (match K.lookup A with
    | some ⟨_, _, .cls cd, _⟩ => noName K cd.ns "__init__" && tailOk K n r
    | _ => false)
  | _, l => l == veM
def clsOk (K : Frag) (C : Addr) : Bool := match K.lookup C with
  | some ⟨.type "type", _, .cls cd, sl⟩ => (match cd.mro with
    | .ref C' :: tl => C' == C && cd.hasDel == false && sl.size == 6 && sl[4]? == some (some (.builtin "ValueError.__new__")) && noName K cd.ns "__init__" && tailOk K 4 tl
    | _ => false) && PySem.W.excKit K C
  | _ => false
def clsAt (K : Frag) (n : Str) : Option Addr := match nsIn K mainGlobals n with
  | some (some (.ref C)) => some C
  | _ => none
def undr (K : Frag) (C D : Addr) : Bool := match K.lookup C with
  | some ⟨_, _, .cls cd, _⟩ => cd.mro.contains (.ref D)
  | _ => false
def obsX (K : Frag) (ns : List Str) : List (Bool × List (Option Bool × Bool) × Option Bool × Option Bool) := ns.map fun n => match clsAt K n with
  | some C => (clsOk K C, ns.map (fun m => match clsAt K m with | some D => (PySem.W.kitOne K (.ref C) (.ref D), undr K C D) | none => (none, false)), PySem.W.kitOne K (.ref C) (.type "ValueError"), PySem.W.kitOne K (.type "NoneType") (.ref C))
  | none => (false, [], none, none)
section
variable {K : Frag} {h : Heap}
theorem noName_ns {N : Addr} {n : Str} (e : noName K N n = true) (X : K.In h) : ∃ m, h.Ns N m ∧ m n = none := by
  unfold noName at e
  split at e
  · rename_i c d es ep sl q
    obtain ⟨e1, e2⟩ := Bool.and_eq_true_iff.mp e
    refine ⟨nsFind es, ⟨_, es, ep, X _ _ q, rfl, fun en hen => ?_, fun _ => rfl⟩, ?_⟩
    · have := List.all_eq_true.mp e1 en (by simpa using hen)
      split at this
      · rename_i x t hk; exact ⟨x, t, hk⟩
      · cases this
    · unfold nsFind findBy
      rw [← Array.find?_toList]
      rw [Option.isNone_iff_eq_none] at e2
      rw [e2]
      rfl
  · cases e
theorem tailOk_own : ∀ (k : Nat) (l : List Value), tailOk K k l = true → K.In h → OwnTail h veM l
  | 0, l, e, X => by
    have : l = veM := by simpa [tailOk] using e
    rw [this]; exact .base
  | k + 1, [], e, X => by
    have : ([] : List Value) = veM := by simpa [tailOk] using e
    rw [this]; exact .base
  | k + 1, v :: r, e, X => by
    cases v with
    | ref A =>
      unfold tailOk at e
      split at e
      · rename_i c d cd sl q
        obtain ⟨e1, e2⟩ := Bool.and_eq_true_iff.mp e
        obtain ⟨m, hm, hn⟩ := noName_ns e1 X
        exact .own (X _ _ q) hm hn (tailOk_own k r e2 X)
      · cases e
    | none => have : Value.none :: r = veM := by simpa [tailOk] using e
              cases this
    | bool b => have : Value.bool b :: r = veM := by simpa [tailOk] using e
                cases this
    | int i t => have : Value.int i t :: r = veM := by simpa [tailOk] using e
                 cases this
    | str x t => have : Value.str x t :: r = veM := by simpa [tailOk] using e
                 cases this
    | bytes x t => have : Value.bytes x t :: r = veM := by simpa [tailOk] using e
                   cases this
    | float x t => have : Value.float x t :: r = veM := by simpa [tailOk] using e
                   cases this
    | builtin x => have : Value.builtin x :: r = veM := by simpa [tailOk] using e
                   cases this
    | type T => have : Value.type T :: r = veM := by simpa [tailOk] using e
                rw [this]; exact .base
    | _ => first | (simp [tailOk] at e; done) | (exfalso; revert e; simp [tailOk])
theorem clsOk_own {C : Addr} {x : Str} {mg : Str → Option Value} (e : clsOk K C = true) (hm : mg x = some (.ref C)) (X : K.In h) : PyProof.Rows.OwnCls x C veM "ValueError.__new__" mg h := by
  unfold clsOk at e
  split at e
  · rename_i dd cd sl q
    obtain ⟨e1, _⟩ := Bool.and_eq_true_iff.mp e
    split at e1
    · rename_i C' tl hmro
      simp only [Bool.and_eq_true, beq_iff_eq] at e1
      obtain ⟨⟨⟨⟨⟨rfl, h2⟩, h3⟩, h4⟩, h5⟩, h6⟩ := e1
      obtain ⟨m, hns, hni⟩ := noName_ns h5 X
      have hsl : sl = #[sl.getD 0 none, sl.getD 1 none, sl.getD 2 none, sl.getD 3 none, some (.builtin "ValueError.__new__"), sl.getD 5 none] := by
        apply Array.ext_getElem?
        intro i
        match i with
        | 0 => simp [h3]
        | 1 => simp [h3]
        | 2 => simp [h3]
        | 3 => simp [h3]
        | 4 => simp [h4]
        | 5 => simp [h3]
        | i + 6 => rw [Array.getElem?_eq_none (by rw [h3]; omega), Array.getElem?_eq_none (by simp)]
      refine ⟨hm, tl, cd.ns, cd.name, cd.qualname, cd.bases, cd.hasDict, cd.slotNames, cd.subclasses, cd.abstract, cd.collection, dd, sl.getD 0 none, sl.getD 1 none, sl.getD 2 none, sl.getD 3 none, sl.getD 5 none, m, ?_, hns, hni, tailOk_own 4 tl h6 X⟩
      have := X _ _ q
      rw [this]
      obtain ⟨nm, bs, mro, ns, qn, hd, sn, sub, ab, col, hdel⟩ := cd
      dsimp only at hmro h2 ⊢
      subst hmro h2
      unfold excClassObj
      rw [← hsl]
    · cases e1
  · cases e
theorem clsOk_kit {C : Addr} (e : clsOk K C = true) : PySem.W.excKit K C = true := by
  unfold clsOk at e
  split at e
  · exact (Bool.and_eq_true_iff.mp e).2
  · cases e
theorem clsOk_under {C D : Addr} (e : clsOk K C = true) (hu : undr K C D = true) (X : K.In h) : Under h C D := by
  obtain ⟨_, tl, N, nm, q, bs, hdct, sn, sub, ab, col, dd, k0, k1, k2, k3, k5, mN, hC, _⟩ := clsOk_own (x := "x") (mg := fun _ => some (.ref C)) e rfl X
  refine ⟨nm, q, N, bs, tl, hdct, sn, sub, ab, col, dd, k0, k1, k2, k3, k5, _, hC, ?_⟩
  unfold undr at hu
  split at hu
  · rename_i c d cd sl ql
    have := X _ _ ql
    rw [hC] at this
    cases this
    exact hu
  · cases hu
end
def isC (K : Frag) (c : Value) : Dx → Option Bool
  | .non => PySem.W.kitOne K (.type "NoneType") c
  | .exc (.ref C) => if PySem.W.excKit K C = true then PySem.W.kitOne K (.ref C) c else none
  | _ => none
def isCs (K : Frag) (cs : List Value) : Dx → Option Bool
  | .non => PySem.W.kitAny K (.type "NoneType") cs
  | .exc (.ref C) => if PySem.W.excKit K C = true then PySem.W.kitAny K (.ref C) cs else none
  | _ => none
def xIsK (f : Dx → Option Bool) (t : XT) : XT := fun ρ Q => t ρ fun s ρ' => match f s.d with
  | some b => Q (.tr (.bl b)) ρ'
  | none => False
theorem exc_inst {X : Cx} {pins : List (Addr × Obj)} {σ : St} {H : Hp} {s : Shared} {a C : Addr} (I : Inv X pins σ H s) (h : H a = some (.ext (excP a (.ref C)))) : ∃ ox, PySem.W.InstAt s.heap a ox C none := by
  obtain ⟨⟨o, vs, h1, h2, h3, h4⟩, _⟩ := (show ObjOk X.prog X.w H s.heap a (.ext (excP a (.ref C))) from I.hok a _ h)
  refine ⟨o, h1, h2, ?_, ?_⟩
  · unfold PySem.W.notCls; rw [h3]
  · rw [h4]; trivial
theorem call_isC {X : Cx} {c : Value} {vc : V} (hv : ∀ u, RelV vc u → u = c) : CallR X (.builtin "isinstance") (fun xs H Q => ∃ x d b, xs = [x, vc] ∧ IsX H d x ∧ isC X.K c d = some b ∧ Q (.bl b) H) := by
  intro pins s σ H xs us Q I r h
  obtain ⟨x, d, b, rfl, hx, hb, q⟩ := h
  obtain ⟨u, w', rfl, r1, r2⟩ := vals2 r
  cases hv _ r2
  cases d with
  | non => cases hx.non_eq; cases (show u = Value.none from r1); exact PySem.W.kia_one PySem.W.kitx_none I.kIn True.intro hb (fun z => nomatch z) (fun tk => ⟨.bl _, H, I.tok _, rfl, q⟩)
  | exc e =>
    cases e with
    | ref C =>
      simp only [isC] at hb
      split at hb
      · rename_i hk
        obtain ⟨a, rfl, h1⟩ := hx.exc_eq
        cases (show u = Value.ref a from r1)
        exact PySem.W.kia_one (PySem.W.kitx_exc hk) I.kIn (exc_inst I h1) hb (fun z => nomatch z) (fun tk => ⟨.bl _, H, I.tok _, rfl, q⟩)
      · cases hb
    | _ => cases hb
  | _ => cases hb
theorem call_isCs {X : Cx} {cs : List Value} {vcs : List V} (hv : ∀ us, Vals vcs us → us = cs) : CallR X (.builtin "isinstance") (fun xs H Q => ∃ x d b p, xs = [x, .ref p] ∧ IsX H d x ∧ H p = some (.tup vcs) ∧ isCs X.K cs d = some b ∧ Q (.bl b) H) := by
  intro pins s σ H xs us Q I r h
  obtain ⟨x, d, b, p, rfl, hx, hp, hb, q⟩ := h
  obtain ⟨u, w', rfl, r1, r2⟩ := vals2 r
  cases r2
  obtain ⟨_, its, rv, o, h2, h3, n', h4⟩ := (show ObjOk X.prog X.w H s.heap p (.tup vcs) from I.hok p _ hp)
  have ei := hv its rv
  subst ei
  obtain ⟨cls, dd, data, sl⟩ := o
  dsimp only at h3 h4
  subst h3 h4
  cases d with
  | non => cases hx.non_eq; cases (show u = Value.none from r1); exact PySem.W.kia_tup PySem.W.kitx_none I.kIn True.intro h2 hb (fun z => nomatch z) (fun tk => ⟨.bl _, H, I.tok _, rfl, q⟩)
  | exc e =>
    cases e with
    | ref C =>
      simp only [isCs] at hb
      split at hb
      · rename_i hk
        obtain ⟨a, rfl, h1⟩ := hx.exc_eq
        cases (show u = Value.ref a from r1)
        exact PySem.W.kia_tup (PySem.W.kitx_exc hk) I.kIn (exc_inst I h1) h2 hb (fun z => nomatch z) (fun tk => ⟨.bl _, H, I.tok _, rfl, q⟩)
      · cases hb
    | _ => cases hb
  | _ => cases hb
theorem xe_isC {X : Cx} {Ex : ExT} {e : Expr} {t : XT} {nm : Str} {p q pos : Pos} {c : Value} {vc : V} (K : Frag) (hm : X.mg "isinstance" = none) (h : XE X Ex e t) (hT : PE X (.Name nm q) (tC vc)) (hv : ∀ u, RelV vc u → u = c) (hK : X.K = K := by rfl) (hg : Gl X "isinstance" := by rfl)
    (he : starEach [e, .Name nm q] X.env = (false, eval e X.env) :: starEach [.Name nm q] X.env := by rfl) (he2 : starEach [.Name nm q] X.env = (false, eval (.Name nm q) X.env) :: starEach [] X.env := by rfl) (hpl : (backTo pos (starEach [.Name nm q] X.env)).any (·.1) = false := by rfl) : XE X Ex (.Call (.Name "isinstance" p) [e, .Name nm q] [] pos) (xIsK (isC K c) t) := fun F => by
  subst hK
  exact (pe_callB (call_isC hv) hg hm bt_isinstance (pa_cons (h F) (pa_cons hT pa_nil he2) he) (by decide) (by decide) he hpl).weak fun σ H Q => by
    rintro ⟨ρ, fr, Qx, E, t, k⟩
    refine ⟨ρ, fr, _, E, t, fun v s H' ρ' E' q => ?_⟩
    obtain ⟨R, hx⟩ := E'.one
    split at q
    · rename_i b hb
      exact ⟨v, s.d, b, rfl, hx.to R.hv, hb, k _ _ H' ρ' (EOk.back E'.len (R.add (IsX.of_bl _))) q⟩
    · exact q.elim
theorem xe_isCs {X : Cx} {Ex : ExT} {e : Expr} {es : List Expr} {t : XT} {p q3 pos : Pos} {j : Nat} {cs : List Value} {vcs : List V} {ta : TA} (K : Frag) (hm : X.mg "isinstance" = none) (h : XE X Ex e t) (hT : PA X es ta) (ht : ∀ σ H Q, Q vcs H → ta σ H Q) (hv : ∀ us, Vals vcs us → us = cs) (hl : vcs.length ≤ 1000) (hK : X.K = K := by rfl) (hg : Gl X "isinstance" := by rfl)
    (he : starEach [e, .Tuple es j q3] X.env = (false, eval e X.env) :: starEach [.Tuple es j q3] X.env := by rfl) (he2 : starEach [.Tuple es j q3] X.env = (false, eval (.Tuple es j q3) X.env) :: starEach [] X.env := by rfl)
    (hpl : (backTo pos (starEach [.Tuple es j q3] X.env)).any (·.1) = false := by rfl) : XE X Ex (.Call (.Name "isinstance" p) [e, .Tuple es j q3] [] pos) (xIsK (isCs K cs) t) := fun F => by
  subst hK
  exact (pe_callB (call_isCs hv) hg hm bt_isinstance (pa_cons (h F) (pa_cons (pe_tup hT) pa_nil he2) he) (by decide) (by decide) he hpl).weak fun σ H Q => by
    rintro ⟨ρ, fr, Qx, E, t, k⟩
    refine ⟨ρ, fr, _, E, t, fun v s H' ρ' E' q => ht _ _ _ ⟨by have := line1; omega, fun p hp => ?_⟩⟩
    obtain ⟨R, hx⟩ := E'.one
    have e : Same H' (upd H' p (.tup vcs)) := same_new hp _
    have R2 := R.grow e
    split at q
    · rename_i b hb
      exact ⟨v, s.d, b, p, rfl, (hx.to R.hv).to e, upd_same, hb, k _ _ _ ρ' (EOk.back E'.len (R2.add (IsX.of_bl _))) q⟩
    · exact q.elim
end Lf

set_option Elab.async false
set_option linter.all false
set_option maxRecDepth 100000
set_option maxHeartbeats 4000000
namespace L2
open PySem PySem.Spec PySem.SeqAt PySem.AutoSeq1 PySem.MeetsSeq PyProof.Rows
end L2

set_option Elab.async false
set_option linter.all false
set_option maxRecDepth 100000
set_option maxHeartbeats 4000000
namespace L2
open PySem PySem.Spec PySem.SeqAt PyProof.Rows
section
variable {X : Cx}
def rEqZ (K : PySem.W.Frag) (neg : Bool) : R2 := fun x y H Q => ∃ (p b : Addr) (xs ys : List Int), x = .ref p ∧ y = .ref b ∧ SqL K H p (xs.map V.int) ∧ SqL K H b (ys.map V.int) ∧ Q (.bl (if neg then !decide (xs = ys) else decide (xs = ys))) H
theorem vals_inz : ∀ {xs : List Int} {us : List Value}, Vals (xs.map V.int) us → us.length = xs.length ∧ ∀ j (h : j < us.length), ∃ t, us[j] = Value.int (xs.getD j 0) t
  | [], _, h => by cases h; exact ⟨rfl, fun j h => absurd h (Nat.not_lt_zero _)⟩
  | x :: xs, _, h => by
    cases h with
    | cons ra rb =>
      obtain ⟨e, k⟩ := vals_inz rb
      obtain ⟨t, rfl⟩ := ra
      refine ⟨by simp [e], fun j h => ?_⟩
      cases j with
      | zero => exact ⟨t, rfl⟩
      | succ j =>
        obtain ⟨t', e'⟩ := k j (by simpa using h)
        exact ⟨t', by simpa using e'⟩
theorem all_eq_dec : ∀ {xs ys : List Int}, xs.length = ys.length → (List.range xs.length).all (fun j => xs.getD j 0 == ys.getD j 0) = decide (xs = ys) := by
  intro xs ys h
  by_cases e : xs = ys
  · subst e
    simp
  · rw [decide_eq_false e, List.all_eq_false]
    have : ∃ j, j < xs.length ∧ xs.getD j 0 ≠ ys.getD j 0 := by
      apply Classical.byContradiction
      intro hn
      apply e
      refine List.ext_getElem? fun j => ?_
      by_cases hj : j < xs.length
      · have : xs.getD j 0 = ys.getD j 0 := Classical.byContradiction fun z => hn ⟨j, hj, z⟩
        rw [List.getD_eq_getElem?_getD, List.getD_eq_getElem?_getD, List.getElem?_eq_getElem hj, List.getElem?_eq_getElem (by omega)] at this
        rw [List.getElem?_eq_getElem hj, List.getElem?_eq_getElem (by omega)]
        exact congrArg some this
      · rw [List.getElem?_eq_none (by omega), List.getElem?_eq_none (by omega)]
    obtain ⟨j, hj, hne⟩ := this
    exact ⟨j, List.mem_range.mpr hj, by simpa using hne⟩
theorem eqs_ints {A : Around} {s : Shared} {xs ys : List Int} {us ws : List Value} (r1 : Vals (xs.map V.int) us) (r2 : Vals (ys.map V.int) ws) : ∀ (j : Nat) (h1 : j < us.toArray.size) (h2 : j < ws.toArray.size), SeqAt.EqAt A s us.toArray[j] ws.toArray[j] (xs.getD j 0 == ys.getD j 0) := by
  intro j h1 h2
  obtain ⟨t, e1⟩ := (vals_inz r1).2 j (by simpa using h1)
  obtain ⟨u, e2⟩ := (vals_inz r2).2 j (by simpa using h2)
  rw [List.getElem_toArray, List.getElem_toArray, e1, e2]
  exact SeqAt.EqAt.int_int _ _ _ _
theorem op_neZ (hu : X.A.units < cLine) : OpR X (compareOp .NotEq) (rEqZ X.K true) := by
  intro pins s σ H x y v u Q I rx ry h
  obtain ⟨p, b, xs, ys, rfl, rfl, h1, h2, q⟩ := h
  cases rx
  cases ry
  obtain ⟨its, r1, p1, _⟩ := I.list h1
  obtain ⟨its2, r2, p2, _⟩ := I.list h2
  have l1 := (vals_inz r1).1
  have l2 := (vals_inz r2).1
  by_cases hl : xs.length = ys.length
  · refine PySem.SeqAt.RcNeAt.lists p1.isList p2.isList (by simp only [List.size_toArray]; omega) hu (eqs_ints r1 r2) _ _ _ _ ?_
    refine fin_bl I q ?_
    rw [List.size_toArray, l1, all_eq_dec hl]
    rfl
  · refine PySem.SeqAt.RcNeAt.lists_lengths p1.isList p2.isList (by simp only [List.size_toArray]; simp; omega) hu _ _ _ _ (fin_bl I q ?_)
    rw [decide_eq_false fun e => hl (by rw [e])]
    rfl
end
end L2
namespace Lf
open PySem L2
def eqI (neg : Bool) : G2 := fun a b Q => ∃ xs ys : List Int, a = .lst (xs.map Dx.int) ∧ b = .lst (ys.map Dx.int) ∧ Q (.tr (.bl (if neg then !decide (xs = ys) else decide (xs = ys))))
theorem ints_of {G : Hp} : ∀ {xs : List Int} {vs : List V}, All2 (IsX G) (xs.map Dx.int) vs → vs = xs.map V.int
  | [], _, h => h
  | x :: xs, _, ⟨v, vr, e, h1, h2⟩ => by rw [e, ints_of h2, h1.int_eq]; rfl
theorem ox_eqI {K : PySem.W.Frag} {neg : Bool} : OpX (rEqZ K neg) (eqI neg) := by
  intro F P H a b x y Q Qx R ha hb g k
  obtain ⟨xs, ys, rfl, rfl, g⟩ := g
  obtain ⟨p, vs, rfl, q1, q2⟩ := ha.lst_eq
  obtain ⟨p', vs', rfl, q3, q4⟩ := hb.lst_eq
  cases ints_of q2
  cases ints_of q4
  exact ⟨p, p', xs, ys, rfl, rfl, SqL.of (R.hv _ _ q1), SqL.of (R.hv _ _ q3), k _ _ H (R.add (IsX.of_bl _)) g⟩
end Lf

set_option Elab.async false
set_option linter.all false
set_option maxRecDepth 100000
set_option maxHeartbeats 4000000
namespace Lf
open PySem L2
open PySem.W (Frag nsIn)
abbrev OX := Bool × List (Option Bool × Bool) × Option Bool × Option Bool
def obX1 (K : Frag) (ns : List Str) (n : Str) : OX := match clsAt K n with
  | some C => (clsOk K C, ns.map (fun m => match clsAt K m with | some D => (PySem.W.kitOne K (.ref C) (.ref D), undr K C D) | none => (none, false)), PySem.W.kitOne K (.ref C) (.type "ValueError"), PySem.W.kitOne K (.type "NoneType") (.ref C))
  | none => (false, [], none, none)
theorem obsX_eq (K : Frag) (ns : List Str) : obsX K ns = ns.map (obX1 K ns) := rfl
structure ClsX (K : Frag) (mg : Str → Option Value) (n : Str) (C : Addr) : Prop where
  at' : clsAt K n = some C
  m : mg n = some (.ref C)
  ok : clsOk K C = true
theorem cls_ex {K : Frag} {ns : List Str} {n : Str} {l : List (Option Bool × Bool)} {a b : Option Bool} {h : Heap} {mg : Str → Option Value} (e : obX1 K ns n = (true, l, a, b)) (X : K.In h) (G : h.Ns mainGlobals mg) : ∃ C, ClsX K mg n C ∧ l = ns.map (fun m => match clsAt K m with | some D => (PySem.W.kitOne K (.ref C) (.ref D), undr K C D) | none => (none, false)) ∧ PySem.W.kitOne K (.ref C) (.type "ValueError") = a ∧ PySem.W.kitOne K (.type "NoneType") (.ref C) = b := by
  unfold obX1 at e
  cases hc : clsAt K n with
  | none => rw [hc] at e; simp at e
  | some C =>
    rw [hc] at e
    simp only [Prod.mk.injEq] at e
    obtain ⟨e1, e2, e3, e4⟩ := e
    refine ⟨C, ⟨hc, ?_, e1⟩, e2.symm, e3, e4⟩
    unfold clsAt at hc
    split at hc
    · rename_i C' hn
      cases hc
      exact PySem.W.mg_of X G hn
    · cases hc
theorem ClsX.own {K : Frag} {mg : Str → Option Value} {n : Str} {C : Addr} {base : Heap} (x : ClsX K mg n C) (X : K.In base) : PyProof.Rows.OwnCls n C veM "ValueError.__new__" mg base := clsOk_own x.ok x.m X
end Lf

set_option Elab.async false
set_option linter.all false
set_option maxRecDepth 100000
set_option maxHeartbeats 4000000
namespace Lf
open PySem L2
def rows : List Dx → List V → List Rw
  | d :: ds, v :: vs => (.v (.tr d), some v) :: rows ds vs
  | _, _ => []
end Lf

set_option Elab.async false
set_option linter.all false
set_option maxRecDepth 100000
set_option maxHeartbeats 4000000
namespace L2
open PySem PySem.Spec PyProof.Rows
end L2

set_option Elab.async false
set_option linter.all false
set_option maxRecDepth 100000
set_option maxHeartbeats 4000000
namespace L2
open PySem PySem.Spec PyProof.Rows
end L2

set_option Elab.async false
set_option linter.all false
set_option maxRecDepth 100000
set_option maxHeartbeats 4000000
namespace L2
open PySem PySem.Spec PyProof.Rows
end L2

set_option Elab.async false
set_option linter.all false
set_option maxRecDepth 100000
set_option maxHeartbeats 4000000
namespace Lf
open PySem L2
end Lf

set_option Elab.async false
set_option linter.all false
set_option maxRecDepth 100000
set_option maxHeartbeats 4000000
namespace Lf
open PySem L2
def sgX (x : Str) : List Dx := x.cps.toList.map fun c => .str ⟨#[c]⟩
theorem sgX_at {x : Str} {i : Nat} {d : Dx} (h : (sgX x)[i]? = some d) : ∃ c, x.cps[i]? = some c ∧ d = .str ⟨#[c]⟩ := by
  unfold sgX at h
  rw [List.getElem?_map] at h
  obtain ⟨c, h1, h2⟩ := Option.map_eq_some_iff.mp h
  exact ⟨c, by simpa using h1, h2.symm⟩
theorem itx_str {F : Fm} {x : Str} : ItX F (Its x) [] (sgX x) where
  go := fun P H i d R hd => by
    obtain ⟨c, h1, _⟩ := sgX_at hd
    exact (Array.getElem?_eq_some_iff.mp h1).1
  stop := fun P H i R hi => by
    unfold sgX at hi
    rw [List.length_map, Array.length_toList] at hi
    exact hi
  yld := fun P H i d y H' R hd q => by
    obtain ⟨rfl, c, h1, rfl⟩ := q
    obtain ⟨c', h2, rfl⟩ := sgX_at hd
    rw [h1] at h2
    cases h2
    exact R.add (IsX.of_str _)
def xiS (t : XT) : XI := fun ρ Q => t ρ fun s ρ' => match s.d with
  | .str z => Q (sgX z) ρ'
  | _ => False
section
variable {X : Cx} {Ex : ExT} {tg l a b : Expr} {t ta tb : XT} {x : Str} {p pos : Pos}
theorem xi_str (h : XE X Ex l t) : XIt X Ex tg l (xiS t) := fun F => (pi_str (h F)).weak fun σ H R => by
  rintro ⟨ρ, fr, Qx, E, t, k⟩
  refine ⟨ρ, fr, _, E, t, fun v s H' ρ' E' q => ?_⟩
  split at q
  · rename_i z hz
    obtain ⟨R1, hs⟩ := E'.one
    rw [hz] at hs
    cases hs.str_eq
    exact ⟨z, rfl, k _ H' ρ' [] _ ⟨E'.len, R1⟩ itx_str q⟩
  · exact q.elim
def inSX (neg : Bool) : G2
  | .str i, .str j, Q => Q (.tr (.bl (if neg then !(!(Builtin.Str.occurrences j i 0 j.length 1).isEmpty) else !(Builtin.Str.occurrences j i 0 j.length 1).isEmpty)))
  | _, _, _ => False
theorem ox_inS : OpX (fun x y H Q => ∃ i j, x = .str i ∧ y = .str j ∧ Q (.bl (!(Builtin.Str.occurrences j i 0 j.length 1).isEmpty)) H) (inSX false) := by
  intro F P H a b x y Q Qx R ha hb g k
  unfold inSX at g
  split at g
  · cases ha.str_eq
    cases hb.str_eq
    exact ⟨_, _, rfl, rfl, k _ _ H (R.add (IsX.of_bl _)) g⟩
  · exact g.elim
theorem ox_niS : OpX (fun x y H Q => ∃ i j, x = .str i ∧ y = .str j ∧ Q (.bl (!(!(Builtin.Str.occurrences j i 0 j.length 1).isEmpty))) H) (inSX true) := by
  intro F P H a b x y Q Qx R ha hb g k
  unfold inSX at g
  split at g
  · cases ha.str_eq
    cases hb.str_eq
    exact ⟨_, _, rfl, rfl, k _ _ H (R.add (IsX.of_bl _)) g⟩
  · exact g.elim
theorem xe_globS {i : Str} (hg : Gl X x) (hm : ∃ t, X.mg x = some (.str i t)) (hd : (x == ("__debug__" : Str)) = false := by decide) : XE X Ex (.Name x pos) (xC (.str i)) := by
  obtain ⟨t, hm⟩ := hm
  exact xe_c (pe_glob (v := .str i) hg hm ⟨t, rfl⟩ hd) _ fun _ => IsX.of_str _
end
end Lf

set_option Elab.async false
set_option linter.all false
set_option maxRecDepth 100000
set_option maxHeartbeats 4000000
namespace Lf
open PySem L2
theorem xSeq_nx {G K : XS} {ρ : En} {D : XD} (M : En → Prop) (h1 : ∀ ρ', M ρ' → K ρ' D) (h2 : ∀ nx : En → Prop, (∀ ρ', M ρ' → nx ρ') → G ρ { D with nx := nx }) : xSeq G K ρ D := h2 _ h1
end Lf

set_option Elab.async false
set_option linter.all false
set_option maxRecDepth 100000
set_option maxHeartbeats 4000000
namespace L2
open PySem PySem.Spec PyProof.Rows
section
variable {X : Cx}
def revS (z : Str) : Str := Txt.sliceBy z none none (-1, 0)
theorem revS_len (z : Str) : (revS z).length = z.length := PyProof.Rows.step_rev_len z 0
theorem revS_any (z : Str) (u : Tok) : Txt.sliceBy z none none (-1, u) = revS z := PyProof.Rows.str_ext_getD (by rw [revS_len, PyProof.Rows.step_rev_len]) fun i hi => by
  rw [PyProof.Rows.step_rev_len] at hi
  unfold revS
  rw [PyProof.Rows.step_rev_getD z u i hi, PyProof.Rows.step_rev_getD z 0 i hi]
def tRevS (te : TE) : TE := fun σ H Q => te σ H fun x H1 => ∃ z, x = .str z ∧ z.length ≤ sizeLine ∧ Q (.str (revS z)) H1
theorem pe_revS {e : Expr} {te : TE} {k : Nat} {p1 p2 p3 pos : Pos} (he : PE X e te) : PE X (.Subscript e (.Slice none none (some (.UnaryOp .USub (.Constant (.int 1) k p1) p2)) p3) pos) (tRevS te) := by
  intro pins s σ H Q I h
  refine Subscript_ (thn (he pins s σ H _ I h) fun v s1 ⟨x, H1, I1, r1, q1⟩ => ?_)
  obtain ⟨z, rfl, hz, q⟩ := q1
  obtain ⟨t1, rfl⟩ := r1
  refine wpAny_Slice ?_
  rw [evalPart_none]
  refine wpAny_pure (wpAny_pure ?_)
  rw [evalPart_some]
  refine thn ((pe_un un_neg pe_int : PE X (.UnaryOp .USub (.Constant (.int 1) k p1) p2) _) pins s1 σ H1 (fun x H' => x = .int (-1) ∧ H' = H1) I1 ⟨_, rfl, rfl, rfl⟩) fun vs s2 ⟨y, H2, I2, r2, e2, e3⟩ => ?_
  subst e2 e3
  obtain ⟨t, rfl⟩ := r2
  have I3 : Inv X pins σ H2 { s2 with heap := s2.heap.push { cls := .type "slice", data := .fields #[.none, .none, .int (-1) t] } } := I2.kept (t' := s2.toks) fun b ob q => Heap.get?_push_of_some _ q
  refine tail_any (ops := [.str z t1, .ref s2.heap.objs.size]) (typeIs_str _ _ _) PySem.F.slot_str_getitem.lookup ?_ (by with_unfolding_all rfl)
  refine wpAny_getItem_str_slice (l := none) (u := none) (st := some (-1, t)) ⟨_, Heap.get?_push_size _ rfl, rfl, rfl⟩ rfl ?_
  refine post_val_or_str ⟨?_, fun t' k => ⟨.str _, H2, I3.tok _, ⟨_, rfl⟩, ?_⟩⟩
  · show (Txt.sliceBy z none none (-1, t)).length ≤ _
    rw [revS_any, revS_len]
    exact hz
  · show Q (.str (Txt.sliceBy z none none (-1, t))) H2
    rw [revS_any]
    exact q
end
end L2
namespace Lf
open PySem L2
section
variable {X : Cx} {Ex : ExT} {a b e : Expr} {ta tb t : XT} {lo hi : Option Expr} {tl th : XO} {p2 pos : Pos}
def xRevS (t : XT) : XT := fun ρ Q => t ρ fun s ρ' => match s.d with
  | .str z => z.length ≤ 1000000 ∧ Q (.tr (.str (revS z))) ρ'
  | _ => False
theorem xe_revS {k : Nat} {p1 p3 : Pos} (he : XE X Ex e t) : XE X Ex (.Subscript e (.Slice none none (some (.UnaryOp .USub (.Constant (.int 1) k p1) p2)) p3) pos) (xRevS t) := fun F => (pe_revS (he F)).weak fun σ H Q => by
  rintro ⟨ρ, fr, Qx, E, t, k⟩
  refine ⟨ρ, fr, _, E, t, fun v s H' ρ' E' q => ?_⟩
  split at q
  · rename_i z hz
    obtain ⟨R, hx⟩ := E'.one
    rw [hz] at hx
    cases hx.str_eq
    exact ⟨z, rfl, by have := line1; omega, k _ _ H' ρ' (EOk.back E'.len (R.add (IsX.of_str _))) q.2⟩
  · exact q.elim
end
end Lf

set_option Elab.async false
set_option linter.all false
set_option maxRecDepth 100000
set_option maxHeartbeats 4000000
namespace Lf
open PySem L2
end Lf

set_option Elab.async false
set_option linter.all false
set_option maxRecDepth 100000
set_option maxHeartbeats 4000000
namespace Lf
open PySem L2
def nst : Expr → Bool
  | .Starred _ _ => false
  | _ => true
theorem starE {e : Expr} {es : List Expr} {env : Env} (h : nst e = true) : starEach (e :: es) env = (false, eval e env) :: starEach es env := by
  cases e <;> first | rfl | cases h
theorem xa_consN {X : Cx} {Ex : ExT} {e : Expr} {es : List Expr} {t : XT} {u : XA} (h : XE X Ex e t) (h' : XAs X Ex es u) (hn : nst e = true := by rfl) : XAs X Ex (e :: es) (xCons t u) := xa_cons h h' (starE hn)
end Lf

set_option Elab.async false
set_option linter.all false
set_option maxRecDepth 100000
set_option maxHeartbeats 4000000
namespace Lf
open PySem L2
structure Bx (p : Prop) : Prop where
  out : p
section
variable {X : Cx} {Ex : ExT} {a b c e o k v l : Expr} {es : List Expr} {t ta tb te tk tv : XT} {u : XA} {pos p p2 : Pos} {x : Str} {i j : Nat}
theorem be_int {i : Int} {j : Nat} : Bx (XE X Ex (.Constant (.int i) j pos) (xC (.int i))) := ⟨xe_int⟩
theorem be_bl {b : Bool} {j : Nat} : Bx (XE X Ex (.Constant (.bool b) j pos) (xC (.bl b))) := ⟨xe_bl⟩
theorem be_non {j : Nat} : Bx (XE X Ex (.Constant .none j pos) (xC .non)) := ⟨xe_non⟩
theorem be_str {x : Str} {j : Nat} : Bx (XE X Ex (.Constant (.str x) j pos) (xC (.str x))) := ⟨xe_str⟩
theorem be_var (h : PE X (.Name x pos) (tVar i)) : Bx (XE X Ex (.Name x pos) (xVar i)) := ⟨xe_var h⟩
theorem be_tup {j : Nat} (h : Bx (XAs X Ex es u)) : Bx (XE X Ex (.Tuple es j pos) (xTup u)) := ⟨xe_tup h.out⟩
theorem be_lst (h : Bx (XAs X Ex es u)) : Bx (XE X Ex (.List es pos) (xLst u)) := ⟨xe_lst h.out⟩
theorem be_dnew : Bx (XE X Ex (.Dict [] [] pos) xDNew) := ⟨xe_dnew⟩
theorem be_add (ha : Bx (XE X Ex a ta)) (hb : Bx (XE X Ex b tb)) : Bx (XE X Ex (.BinOp a .Add b pos) (xOp addX ta tb)) := ⟨xe_add ha.out hb.out⟩
theorem be_ix (K : PySem.W.Frag) (ha : Bx (XE X Ex a ta)) (hb : Bx (XE X Ex b tb)) (hs : PlainIx b) (h : X.K = K := by rfl) : Bx (XE X Ex (.Subscript a b pos) (xOp ixX ta tb)) := ⟨xe_ix K ha.out hb.out hs h⟩
variable {lo hi : Option Expr} {tl th : XO}
theorem ba_nil : Bx (XAs X Ex [] xNil) := ⟨xa_nil⟩
theorem ba_cons (h : Bx (XE X Ex e t)) (h' : Bx (XAs X Ex es u)) (hn : nst e = true := by rfl) : Bx (XAs X Ex (e :: es) (xCons t u)) := ⟨xa_consN h.out h'.out hn⟩
def nstA : List Expr → Bool
  | [] => true
  | e :: es => nst e && nstA es
theorem starA {env : Env} : ∀ {es : List Expr}, nstA es = true → (backTo pos (starEach es env)).any (·.1) = false
  | [], _ => rfl
  | e :: es, h => by
    simp only [nstA, Bool.and_eq_true] at h
    rw [starE h.1]
    exact starA h.2
theorem be_callP {ps : List Str} {g : GB} (C : Cal X.prog X.w X.K X.mg X.base j x ps (spB g)) (hr : Room j X.A) (hv : PE X e (tVar i)) (ha : Bx (XAs X Ex es u)) (hg : Gl X x := by rfl) (hdb : (x == ("__debug__" : Str)) = false := by decide) (he : nst e = true := by rfl) (hes : nstA es = true := by rfl) : Bx (XE X Ex (.Call (.Name x p) (e :: es) [] pos) (xCallB g i u)) := ⟨xe_callP C hr hv ha.out hg hdb (starE he) (starA hes)⟩
variable {r : R2} {g : G2} {op : CmpOp} {tc uc : XC} {rest : List Expr}
variable {st : Stmt} {sts as bs : List Stmt} {G K : XS}
theorem bs_set {pos' : Pos} (hN : X.N.Nodup) (hi : X.N[i]? = some x) (hx : Loc X.env.scope x) (he : Bx (XE X Ex e t)) (hs : swapsWith e (some (.Name x pos')) pos.line X.env = pure false := by rfl) (hf : X.fn x = true ∨ X.env.scope.names.lookup x = some .local := by first | exact .inl rfl | exact .inr rfl | assumption) : Bx (XSt X Ex (.Assign [.Name x pos'] e pos) (xSet i t)) := ⟨xs_setP fun F => ps_set hN hi hx (XE.at (Ex := Ex) F he.out) hs hf⟩
theorem bs_if (hc : Bx (XTe X Ex c tc)) (ha : Bx (XSs X Ex as G)) (hb : Bx (XSs X Ex bs K)) : Bx (XSt X Ex (.If c as bs pos) (xIf tc G K)) := ⟨xs_if hc.out ha.out hb.out⟩
theorem bss_nil : Bx (XSs X Ex [] xNext) := ⟨xss_nil⟩
theorem bss_one (h : Bx (XSt X Ex st G)) : Bx (XSs X Ex [st] G) := ⟨xss_one h.out⟩
theorem bss_cons (h : Bx (XSt X Ex st G)) (h' : Bx (XSs X Ex sts K)) : Bx (XSs X Ex (st :: sts) (xSeq G K)) := ⟨xss_cons h.out h'.out⟩
end
end Lf

set_option Elab.async false
set_option linter.all false
set_option maxRecDepth 100000
set_option maxHeartbeats 4000000
namespace Lf
open PySem L2
end Lf

set_option Elab.async false
set_option linter.all false
set_option maxRecDepth 100000
set_option maxHeartbeats 4000000
namespace Lf
open PySem L2
section
variable {prog : Program} {w : World} {A : Around} {R : Result → Shared → Prop} {s : Shared}
theorem compLoop_anyE {elt target iter : Expr} {ifs : List Expr} {scope : Scope} {pos : Pos} {it acc : Value} {env : Env} (I : Nat → Shared → Prop)
    (turn : ∀ n s, I n s → wpAny (model prog w) A (pyNext it) (fun r s₁ => match r with
      | none => R (.ok .next) s₁
      | some v => wpAny (model prog w) A (letOwnedTupleGo target it v) (fun _ s₀ => wpAny (model prog w) A (assign target env v) (fun _ s₂ =>
          wpAny (model prog w) A (forIn ifs true fun c r => if r = true then do let ok ← isTrue c env (eval c env); pure (ForInStep.yield ok) else pure (ForInStep.yield r)) (fun ok s₃ =>
            if ok = true then wpAny (model prog w) A (eval elt env) (fun x s₄ =>
              wpAny (model prog w) A (call (.builtin "list.append") [acc, x]) (fun _ s₅ => ∃ m, m < n ∧ I m s₅) (fun _ _ => False) s₄) (fun e s' => wpAny (model prog w) A (noteFrame e env) (fun _ s'' => R (.error e) s'') (fun _ _ => False) s') s₃
            else ∃ m, m < n ∧ I m s₃) (fun _ _ => False) s₂) (fun _ _ => False) s₀) (fun _ _ => False) s₁) (fun _ _ => False) s)
    (n : Nat) (h : I n s) :
    codeAny (model prog w) A (.compLoop (.ListComp elt [⟨target, iter, ifs, 0⟩] scope pos) 0 it acc env) R s := by
  refine codeAny_loop rfl I (fun n s hI => ?_) n h
  show wpAny _ A ((compTurn (.ListComp elt [⟨target, iter, ifs, 0⟩] scope pos) 0 it acc env).onRaise (fun x => do noteFrame x env; theTreesLotGoes x)) _ _ s
  refine wpAny_noted ?_
  rw [compTurn_list]
  refine wpAny_bind (wpAny_standAt (wpAny_bind (wpAny_mono (turn n s hI) (fun r s₁ h₁ => ?_) fun _ _ h' => h'.elim)))
  cases r with
  | none => exact wpAny_pure h₁
  | some v =>
    refine wpAny_bind (wpAny_mono h₁ (fun _ s₀ h₀ => ?_) fun _ _ h' => h'.elim)
    refine wpAny_bind (wpAny_mono h₀ (fun _ s₂ h₂ => wpAny_bind (wpAny_mono h₂ (fun ok s₃ h₃ => ?_) fun _ _ h' => h'.elim)) fun _ _ h' => h'.elim)
    cases ok with
    | false => exact wpAny_pure ⟨rfl, h₃⟩
    | true =>
      exact wpAny_bind (wpAny_bind (wpAny_mono h₃ (fun x s₄ h₄ => wpAny_bind (wpAny_mono h₄ (fun _ s₅ h₅ => wpAny_pure (wpAny_pure ⟨rfl, h₅⟩)) fun _ _ h' => h'.elim)) fun e s' h' => wpAny_mono h' (fun _ _ z => z) fun _ _ z => z.elim))
end
abbrev cxPn (X : Cx) (N' : List Str) (scope : Scope) (cl : List (Str × Addr)) (C : Addr) (s : Shared) (H : Hp) (ex : List Addr) (pn : List (Addr × Obj)) : Cx := { cxComp X N' scope cl C s H ex with pn := pn }
abbrev cxCE (X : Cx) (N' : List Str) (scope : Scope) (cl : List (Str × Addr)) (C : Addr) (s : Shared) (H : Hp) (ex : List Addr) (pn : List (Addr × Obj)) (EE : Value → Hp → Prop) : Cx :=
  { cxPn X N' scope cl C s H ex pn with xe := fun e s' => ∃ ea cls H' σ' pins, e = .ref ea ∧ Inv (cxPn X N' scope cl C s H ex pn) pins σ' H' s' ∧ Air (NwX (cxPn X N' scope cl C s H ex pn) pins) s'.heap H' ea cls ∧ EE cls H' }
section
variable {X : Cx} {N' : List Str} {scope : Scope} {cl : List (Str × Addr)} {C : Addr} {s0 s : Shared} {H0 H : Hp} {ex : List Addr} {pn pins : List (Addr × Obj)} {EE : Value → Hp → Prop} {σ : St}
theorem okCE (o : (cxComp X N' scope cl C s0 H0 ex).Ok) : (cxCE X N' scope cl C s0 H0 ex pn EE).Ok := ⟨o.mod, o.kind, o.glob, o.blt, o.above, o.inj, o.has, o.cab, o.hd, o.frames, o.stk, o.exf, o.bs, o.bsz, o.noex, o.exfs, o.funs, o.frf⟩
theorem okOfCE (o : (cxCE X N' scope cl C s0 H0 ex pn EE).Ok) : (cxComp X N' scope cl C s0 H0 ex).Ok := ⟨o.mod, o.kind, o.glob, o.blt, o.above, o.inj, o.has, o.cab, o.hd, o.frames, o.stk, o.exf, o.bs, o.bsz, o.noex, o.exfs, o.funs, o.frf⟩
theorem okPn (o : (cxCE X N' scope cl C s0 H0 ex pn EE).Ok) : (cxPn X N' scope cl C s0 H0 ex pn).Ok := ⟨o.mod, o.kind, o.glob, o.blt, o.above, o.inj, o.has, o.cab, o.hd, o.frames, o.stk, o.exf, o.bs, o.bsz, o.noex, o.exfs, o.funs, o.frf⟩
theorem Inv.toCE (I : Inv (cxComp X N' scope cl C s0 H0 ex) (pins ++ pn) σ H s) : Inv (cxCE X N' scope cl C s0 H0 ex pn EE) pins σ H s :=
  ⟨okCE I.ok, I.os, I.bare, I.base, I.loc, I.cell, I.free, I.freeC, fun p hp => I.pin p (List.mem_append_right _ ((List.mem_append.mp hp).elim (fun z => List.mem_append_right _ z) fun z => List.mem_append_left _ z)), I.hok, I.len⟩
theorem Inv.ofCE (I : Inv (cxCE X N' scope cl C s0 H0 ex pn EE) pins σ H s) : Inv (cxComp X N' scope cl C s0 H0 ex) (pins ++ pn) σ H s :=
  ⟨okOfCE I.ok, I.os, I.bare, I.base, I.loc, I.cell, I.free, I.freeC, fun p hp => I.pin p ((List.mem_append.mp (show p ∈ [] ++ (pins ++ pn) from hp)).elim (fun z => nomatch z) fun z => (List.mem_append.mp z).elim (fun z => List.mem_append_right _ z) fun z => List.mem_append_left _ z), I.hok, I.len⟩
theorem okf_CE {Ex : ExT} {F : Fm} : OkF (cxCE X N' scope cl C s0 H0 ex pn fun c H' => Ex c ∧ Kept F H') Ex F :=
  ⟨fun pins σ H s' ea cls I a e k => ⟨ea, cls, H, σ, pins, rfl, ⟨okPn I.ok, I.os, I.bare, I.base, I.loc, I.cell, I.free, I.freeC, I.pin, I.hok, I.len⟩, a, e, k⟩⟩
end
section
variable {X : Cx} {tg elt iter : Expr} {ifs : List Expr} {dsc scope : Scope} {tgs N' : List Str} {outs : List Nat} {wi : TI} {g : TG} {tc : TT} {te : TE} {pos : Pos}
theorem comp_blockE {EE : Value → Hp → Prop} {pins : List (Addr × Obj)} {σ : St} {H2 : Hp} {s2 : Shared} {cl : List (Str × Addr)} {it : Addr} {fp : List Addr} {tn : Nat → Heap → Prop} {J : It} (S : CompScope dsc scope X.N tgs outs N') (hsc : X.env.scope = dsc) (hc : X.calm = true)
    (hg : ∀ cl C s H ex, PG (cxComp X N' scope cl C s H ex) tg g) (hgt : Tgt tgs.length g) (hcs : ∀ cl C s H ex, PCs (cxComp X N' scope cl C s H ex) ifs tc) (he : ∀ cl C s H ex pn, PE (cxCE X N' scope cl C s H ex pn EE) elt te)
    (hcl1 : ∀ x c, cl.lookup x = some c → X.env.cells.lookup x = some c) (hcl2 : ∀ y ∈ scope.names, y.2 = .free → ∃ c, cl.lookup y.1 = some c)
    (I2 : Inv X pins σ H2 s2) (T : Turn X.prog X.w X.K tg J fp it tn) (st2 : tn 0 s2.heap) (f2 : ∀ b ∈ fp, FpOk X pins H2 b)
    {W : Nat → Nat → List V → Hp → Prop} {m0 : Nat} (w0 : W 0 m0 [] H2) {Qf : List V → Hp → Prop}
    (turn : ∀ i m acc H, W i m acc H → (J.stop i H ∧ acc.length ≤ sizeLine ∧ Qf acc H) ∨ (J.go i H ∧ acc.length < sizeLine ∧ ∃ N : List V → Hp → Prop, (∀ acc' H', N acc' H' → ∃ m', m' < m ∧ W (i + 1) m' acc' H') ∧ ∀ x H', J.yld i H x H' → g x (pick tgs.length outs σ) H' fun σ2 H2 => tc σ2 H2 fun b H3 =>
      if b = true then te σ2 H3 fun y H4 => N (acc ++ [y]) H4 else N acc H3))
    {E : Value → Shared → Prop} {RR : Value → Addr → Result → Shared → Prop}
    (rais : ∀ D C pn e s', s2.heap.objs.size ≤ C → (∀ b ∈ fp, ∃ o, (b, o) ∈ pn) → (cxCE X N' scope cl C s2 H2 fp pn EE).xe e s' → wpAny (model X.prog X.w) X.A (noteFrame e (compEnvC scope cl C X.env)) (fun _ s'' => RR (.ref D) C (.error e) s'') (fun _ _ => False) s')
    (fin : ∀ D C s5 mC acc H5, Inv X pins σ (upd H5 D (.lst acc)) s5 → H5 D = none → Qf acc H5 → s5.heap.Ns C mC → FpOk X pins (upd H5 D (.lst acc)) C → RR (.ref D) C (.ok .next) s5) :
    wpAny (model X.prog X.w) X.A (newList []) (fun acc s₃ => wpAny (model X.prog X.w) X.A (newFunctionEnv scope X.env.globals cl [] X.env.qual none .none (some X.env)) (fun cenv s₄ =>
      codeAny (model X.prog X.w) X.A (.compStart (.ListComp elt [⟨tg, iter, ifs, 0⟩] scope pos) 0 (.ref it) acc { cenv with scope := relabel scope X.env }) (RR acc cenv.locals) s₄) E s₃) E s2 := by
  have hfp : ∀ b ∈ fp, b < s2.heap.objs.size := fun b hb => let ⟨o, e, _⟩ := T.obj 0 _ st2 b hb; Heap.lt_size e
  refine wpAny_newObj_type (wpAny_newFunctionEnv S.nocell (by intro y hy; simp at hy) (fun h₁ hns₁ hsb₁ => ?_) S.kind)
  dsimp only at hns₁ hsb₁ ⊢
  generalize hHH : s2.heap.push { cls := .type "list", dict := none, data := .seq ([] : List Value).toArray } = HH at hns₁ hsb₁ ⊢
  have hC : HH.objs.size = s2.heap.objs.size + 1 := by rw [← hHH, Heap.size_push]
  have hDC : s2.heap.objs.size ≠ HH.objs.size := by rw [hC]; exact Nat.ne_of_lt (Nat.lt_succ_self _)
  have hCle : s2.heap.objs.size ≤ HH.objs.size := by rw [hC]; exact Nat.le_succ _
  have old : ∀ b o, s2.heap.get? b = some o → h₁.get? b = some o := fun b o e => hsb₁.extBut b o (by rw [hC]; exact Nat.ne_of_lt (Nat.lt_succ_of_lt (Heap.lt_size e))) (Heap.get?_push_of_some _ (hHH ▸ Heap.get?_push_of_some _ e))
  have hacc : h₁.get? s2.heap.objs.size = some { cls := .type "list", data := .seq ([] : List Value).toArray 0 } := hsb₁.extBut _ _ hDC (Heap.get?_push_of_some _ (hHH ▸ Heap.get?_push_size _ rfl))
  have hDfp : ∀ b ∈ fp, s2.heap.objs.size ≠ b := fun b hb => Nat.ne_of_gt (hfp b hb)
  have fresh2 : H2 s2.heap.objs.size = none := I2.hok.fresh (Nat.le_refl _)
  have I4 := comp_start (tk := s2.toks + ([] : List (Str × Value)).length) S hsc I2 f2 hfp hcl1 hcl2 hCle old hns₁
  have st1 : tn 0 h₁ := T.keep 0 _ _ st2 fun b hb o e => old b o e
  generalize hCC : HH.objs.size = C at *
  generalize hDD : s2.heap.objs.size = D at *
  have nofs : D ∉ (cxComp X N' scope cl C s2 H2 fp).fs := fun z => by
    obtain ⟨_, o, ho, _⟩ := I2.stack.mem (show D ∈ frs X.stack from z)
    have := Heap.lt_size ho
    rw [hDD] at this
    exact Nat.lt_irrefl _ this
  have pinD : ∀ {σ' : St} {H' : Hp} {s' : Shared} {its : List Value} {n : Nat}, Inv (cxComp X N' scope cl C s2 H2 fp) [] σ' H' s' → s'.heap.get? D = some { cls := .type "list", data := .seq its.toArray n } → H' D = none →
      Inv (cxComp X N' scope cl C s2 H2 fp) [(D, { cls := .type "list", data := .seq its.toArray n })] σ' H' s' := fun {σ' H' s' its n} J e hn => J.pins_of fun p hp => by
    have ep : p = (D, { cls := .type "list", data := .seq its.toArray n }) := by simpa using hp
    subst ep
    exact ⟨e, hn, hDC, nofs, fun v z => by cases z⟩
  have stat : ∀ {H' : Hp} {o : Obj}, (∀ b ∈ fp, H' b = none) → ∀ b ∈ fp, FpOk (cxComp X N' scope cl C s2 H2 fp) [(D, o)] H' b := fun {H' o} hn b hb => by
    refine ⟨hn b hb, (I4.ok.exf b hb).1, I4.ok.exfs b hb, .inl hb, (I4.ok.exf b hb).2, fun p hp => ?_⟩
    have hp' : p ∈ ([] : List (Addr × Obj)) ++ [(D, o)] := hp
    have ep : p = (D, o) := by simpa using hp'
    subst ep
    exact hDfp b hb
  have loop : ∀ s₃ : Shared, s₃ = { s2 with heap := h₁, toks := s2.toks + ([] : List (Str × Value)).length } →
      codeAny (model X.prog X.w) X.A (.compLoop (.ListComp elt [⟨tg, iter, ifs, 0⟩] scope pos) 0 (.ref it) (.ref D) (compEnvC scope cl C X.env)) (RR (.ref D) C) s₃ := by
    rintro s₃ rfl
    refine compLoop_anyE (fun m s' => ∃ i acc H its n, Inv (cxComp X N' scope cl C s2 H2 fp) [(D, { cls := .type "list", data := .seq its.toArray n })] (pick tgs.length outs σ) H s' ∧ tn i s'.heap ∧ (∀ b ∈ fp, H b = none) ∧ Vals acc its ∧ W i m acc H) ?_ m0
      ⟨0, [], H2, [], 0, pinD I4 hacc fresh2, st1, fun b hb => (f2 b hb).1, .nil, w0⟩
    rintro m s' ⟨i, acc, H, its, n, I', st', fr', rD, w'⟩
    rcases turn i m acc H w' with ⟨stop, hz, q⟩ | ⟨go, hz, N, hN, step⟩
    · refine thn (T.done (cxComp X N' scope cl C s2 H2 fp) rfl rfl rfl hc i _ s' _ H _ I' (stat fr') st' stop) fun r s4 ⟨hr, J4⟩ => ?_
      subst hr
      obtain ⟨eD, nD, _⟩ := J4.pin (D, { cls := .type "list", data := .seq its.toArray n }) (List.mem_append_right _ List.mem_cons_self)
      obtain ⟨mC, nsC, _⟩ := J4.loc
      have I5 : Inv X pins σ (upd H D (.lst acc)) s4 := comp_end (D := D) I2 (J4.pins_of (pins' := []) (fun p hp => nomatch hp)) f2 (by rw [hDD]; exact Nat.le_refl _) eD rD hz nD
      refine fin D C s4 mC acc H I5 nD q nsC (I2.fpOk (by rw [hDD]; exact hCle) ?_)
      rw [upd_ne (Ne.symm hDC)]
      exact J4.free
    · refine thn (T.item (cxComp X N' scope cl C s2 H2 fp) rfl rfl rfl hc i _ s' _ H _ I' (stat fr') st' go) fun r s4 ⟨u, hr, h4⟩ => ?_
      subst hr
      dsimp only
      refine thn h4 fun _ s5 ⟨x, H5, I5, r5, y5, st5, fr5⟩ => ?_
      have I5' := I5.pinned (stat fr5) (T.obj _ _ st5)
      refine thn (hg cl C s2 H2 fp _ s5 _ H5 x u _ I5' r5 (hgt x _ H5 _ (step x H5 y5))) fun _ s6 ⟨σ6, H6, I6, q6, l6, k6⟩ => ?_
      refine thn (hcs cl C s2 H2 fp _ s6 σ6 H6 _ I6 q6) fun b s7 ⟨H7, I7, q7⟩ => ?_
      have tail : ∀ {H' : Hp} {s' : Shared}, Inv (cxComp X N' scope cl C s2 H2 fp) ([(D, { cls := .type "list", data := .seq its.toArray n })] ++ pinsAt fp s5.heap) σ6 H' s' → (∀ b ∈ fp, ∀ o, s5.heap.get? b = some o → s'.heap.get? b = some o) ∧ ∀ b ∈ fp, H' b = none := fun {H' s'} J =>
        ⟨fun b hb o e => (J.pin (b, o) (List.mem_append_right _ (List.mem_append_right _ (mem_pinsAt hb e)))).1, fun b hb => by
          obtain ⟨o, e, d⟩ := T.obj _ _ st5 b hb
          exact (J.pin (b, o) (List.mem_append_right _ (List.mem_append_right _ (mem_pinsAt hb e)))).2.1⟩
      cases b with
      | false =>
        rw [if_neg Bool.false_ne_true] at q7 ⊢
        obtain ⟨m', hm, w7⟩ := hN _ _ q7
        obtain ⟨t1, t2⟩ := tail I7
        exact ⟨m', hm, i + 1, acc, H7, its, n, I7.unpinned.weak l6.symm (pick_weak k6), T.keep _ _ _ st5 t1, t2, rD, w7⟩
      | true =>
        rw [if_pos rfl] at q7 ⊢
        refine wpAny_mono (he cl C s2 H2 fp (pinsAt fp s5.heap) [(D, { cls := .type "list", data := .seq its.toArray n })] s7 σ6 H7 _ (Inv.toCE I7) q7) (fun v s8 h8 => ?_) fun e s' hxe => rais D C _ e s' hCle (fun b hb => ?_) hxe
        rotate_left 1
        · obtain ⟨o, e, d⟩ := T.obj _ _ st5 b hb
          exact ⟨o, mem_pinsAt hb e⟩
        obtain ⟨y, H8, I8', r8, q8⟩ := h8
        have I8 := Inv.ofCE I8'
        obtain ⟨m', hm, w8⟩ := hN _ _ q8
        obtain ⟨t1, t2⟩ := tail I8
        obtain ⟨eD, nD, _⟩ := I8.pin (D, { cls := .type "list", data := .seq its.toArray n }) (List.mem_append_right _ (List.mem_append_left _ List.mem_cons_self))
        have hl := rD.length
        refine call_meets F.slot_list_append ⟨_, eD, rfl⟩ F.entry_list_append (F.args_list_append_2 _ _) (PySem.list_append D its.toArray n v (by rw [List.size_toArray]; omega)) ⟨eD, ?_⟩
        have q := PySem.IsL.update eD (·.push v)
        have eA : its.toArray.push v = (its ++ [v]).toArray := by simp
        rw [eA] at q
        refine ⟨m', hm, i + 1, acc ++ [y], H8, its ++ [v], _, pinD (Inv.weak (Inv.turned (it := D) (I8.pins_of (pins' := []) (fun p hp => nomatch hp)) (fun b o hb e => (Heap.get?_update_other _ _ (Ne.symm hb)).trans e) nD hDC (.inr (by show s2.heap.objs.size ≤ D; rw [hDD]; exact Nat.le_refl _)) (fun x c e z => ?_) (fun p hp => nomatch hp)) l6.symm (pick_weak k6)) q nD,
          T.keep _ _ _ st5 (fun b hb o e => (Heap.get?_update_other _ _ (hDfp b hb)).trans (t1 b hb o e)), t2, rD.append (.cons r8 .nil), w8⟩
        obtain ⟨v', oc, hoc, hdc⟩ := I8.cell x c e
        rw [z, eD] at hoc
        cases hoc
        cases hdc
  exact codeAny_compStart_list (loop _ rfl) (T.self X.A 0 _ _ _ st1 (loop _ rfl))
end
theorem Air.kept {nw : Addr → Prop} {h h' : Heap} {H : Hp} {ea : Addr} {cls : Value} (a : Air nw h H ea cls) (k : ∀ b o vs, h.get? b = some o → o.data = .fields vs → h'.get? b = some o) : Air nw h' H ea cls := by
  obtain ⟨a1, a2, oe, vs, he, hc, hd, hdn, hsz, a3⟩ := a
  refine ⟨a1, a2, oe, vs, k _ _ _ he hd, hc, hd, hdn, hsz, ?_⟩
  rcases a3 with a3 | ⟨T, oT, ts, a3, aT, aN, aH, hT, hdT, h3⟩
  · exact .inl a3
  · exact .inr ⟨T, oT, ts, a3, aT, aN, aH, k _ _ _ hT hdT, hdT, h3⟩
theorem note_same {e : Value} {env env' : Env} (h : env'.frame = env.frame) : noteFrame e env' = noteFrame e env := by
  unfold noteFrame frameOf
  rw [h]
section
variable {X : Cx} {tg elt iter : Expr} {ifs : List Expr} {dsc scope : Scope} {tgs N' : List Str} {outs : List Nat} {wi : TI} {g : TG} {tc : TT} {te : TE} {pos : Pos} {EE : Value → Hp → Prop}
theorem pe_compE {N : List Str} (hx : ∀ pins σ H s' ea cls, Inv X pins σ H s' → Air (NwX X pins) s'.heap H ea cls → EE cls H → X.xe (.ref ea) s') (hst : X.stack = X.env :: X.outer) (hfr : X.env.frame = some X.env.locals) (hex : X.ex = [])
    (S : CompScope dsc scope N tgs outs N') (hi : PI X tg iter wi) (hg : ∀ cl C s H ex, PG (cxComp X N' scope cl C s H ex) tg g) (hgt : Tgt tgs.length g) (hcs : ∀ cl C s H ex, PCs (cxComp X N' scope cl C s H ex) ifs tc)
    (he : ∀ cl C s H ex pn, PE (cxCE X N' scope cl C s H ex pn EE) elt te) (hN0 : X.N = N := by rfl) (hsc : X.env.scope = dsc := by rfl) (hc : X.calm = true := by rfl) (hs : ∀ x, foldedSetIterable iter X.env x = pure x := by intro _; rfl) :
    PE X (.ListComp elt [⟨tg, iter, ifs, 0⟩] scope pos) (tComp tgs.length outs wi g tc te) := by
  subst hN0
  intro pins s σ H Q I h
  obtain ⟨cl, e1, e2, e3⟩ := closure_of (scope := scope) (env := X.env) (fun y hy hk => I.ok.has y.1 (.inl (by show X.env.scope.names.lookup y.1 = _; rw [hsc]; exact S.free y hy hk)))
  rw [eval_ListComp]
  refine wpAny_comprehension_free (use := none) rfl hs e1 S.kind S.names (wpAny_mono (hi pins s σ H _ I h) (fun xv s1 h1 => wpAny_mono h1 (fun itv s2 h2 => ?_) fun _ _ e => e) fun _ _ e => e)
  obtain ⟨it, fp, tn, J, H2, rfl, I2, T, st2, f2, W, ⟨m0, w0⟩, turn⟩ := h2
  refine comp_blockE (RR := fun acc C => compPost (model X.prog X.w) X.A X.xe none (EP X pins σ Q) acc C) S hsc hc hg hgt hcs he e2 e3 I2 T st2 f2 w0 (Qf := fun acc H => ∀ l, H l = none → Q (.ref l) (upd H l (.lst acc))) turn ?_ ?_
  · rintro D C pn e s' hC hpn ⟨ea, cls, H', σ', pins', rfl, IY, air, hee⟩
    have fpn : ∀ b ∈ fp, H' b = none := fun b hb => by
      obtain ⟨o, z⟩ := hpn b hb
      exact (IY.pin (b, o) (List.mem_append_left _ z)).2.1
    have I1 : Inv X pins σ H' s' := I2.call' (ch := fp) IY.os IY.base IY.hok IY.bare fun b hb => ⟨(f2 b hb).2.2.2.1, (f2 b hb).2.1, (f2 b hb).2.2.2.2.1, (f2 b hb).2.2.2.2.2⟩
    have airX : Air (NwX X pins) s'.heap H' ea cls := air.older fun b hb => by
      have nb : b ∉ fp := fun z => by
        obtain ⟨o, y⟩ := hpn b z
        exact hb.2 (b, o) (List.mem_append_left _ y) rfl
      have n2 : s2.heap.get? b = none := hb.1.elim (fun z => z) fun z => absurd z nb
      refine ⟨?_, fun p hp z => ?_⟩
      · left
        cases q : X.s₀.heap.get? b with
        | none => rfl
        | some o =>
          obtain ⟨o', e'⟩ := I2.base.there b o q (by rw [hex]; intro z; cases z)
          rw [n2] at e'; cases e'
      · have := (I2.pin p hp).1
        rw [z, n2] at this; cases this
    have cC : H' C = none := IY.free
    obtain ⟨mC, nsC, _⟩ := IY.loc
    have nsC' : s'.heap.Ns C mC := nsC
    have toT : ∀ b, NwX X pins b → X.s₀.heap.get? b = none ∧ ∀ p ∈ X.pn ++ pins, p.1 ≠ b := fun b hb => ⟨hb.1.elim (fun z => z) (fun z => by rw [hex] at z; cases z), hb.2⟩
    rw [note_same (env := X.env) (show (compEnvC scope cl C X.env).frame = X.env.frame from rfl)]
    refine note_air1 (base := X.base) (nw := NwX X pins) (H := H') (L := X.env.locals) (by rw [← hst]; exact I1.ok.frames) (by rw [← hst]; exact I1.stack) hfr (fun T hT => ⟨.inl (Heap.get?_none_of_le (Nat.le_trans I1.sz hT)), fun p hp z => ?_⟩) (fun a ha => I1.hok.fresh ha) airX fun h' S hS kx air' tb => ?_
    · obtain ⟨e1, _⟩ := I1.pin p hp
      exact absurd (Heap.lt_size e1) (by rw [z]; exact Nat.not_lt.mpr hT)
    have I3 : Inv X pins σ H' { s' with heap := h' } := Inv.noted (t' := s'.toks) I1 (by rw [hst]; exact kx) fun b hb => ⟨toT b (hS b hb).1, (hS b hb).2⟩
    obtain ⟨oC, es, ep, hoC, hdC, rC⟩ := nsC'
    have nCS : C ∉ S := fun z => by
      obtain ⟨_, _, o, vs, e, d⟩ := hS C z
      rw [hoC] at e; cases e; rw [hdC] at d; cases d
    have nCf : C ∉ frs (X.env :: X.outer) := fun z => by
      obtain ⟨_, o, ho, _⟩ := I2.stack.mem (show C ∈ frs X.stack by rw [hst]; exact z)
      exact absurd (Nat.lt_of_lt_of_le (Heap.lt_size ho) hC) (Nat.lt_irrefl _)
    have hoC' : h'.get? C = some oC := (kx C oC hoC nCS).1 nCf
    have fpC : FpOk X pins H' C := I2.fpOk hC cC
    refine ⟨mC, ⟨oC, es, ep, hoC', hdC, rC⟩, fun h2 hs2 cenv _ => ?_⟩
    have kC : ∀ b o vs, h'.get? b = some o → o.data = .fields vs → h2.get? b = some o := fun b o vs e d => by
      have nb : b ≠ C := fun z => by rw [z, hoC'] at e; cases e; rw [hdC] at d; cases d
      exact (hs2.2 b nb).trans e
    have I4 : Inv X pins σ H' { s' with heap := h2 } := Inv.turned (s := { s' with heap := h' }) (it := C) (t' := s'.toks) I3 (fun b o hb e => (hs2.2 b hb).trans e) fpC.1 fpC.2.1 fpC.2.2.2.1 fpC.2.2.2.2.1 fpC.2.2.2.2.2
    have air4 : Air (NwX X pins) h2 H' ea cls := air'.kept kC
    obtain ⟨oe, vs, T, ht1, ht2, ht3⟩ := tb
    unfold passOn
    refine wpAny_bind (wpAny_field (s := { s' with heap := h2 }) (kC _ _ _ ht1 ht2) ht2 ht3 ?_)
    rw [if_neg (show ¬ ((Value.ref T == Value.none) = true) from by simp)]
    refine wpAny_bind (flight_air (s := { s' with heap := h2 }) air4 fun h5 S5 hS5 kx5 air5 => wpAny_throw ?_)
    exact hx pins σ H' _ ea cls (Inv.noted (s := { s' with heap := h2 }) (t' := s'.toks) I4 (KeptX.more kx5 fun b z => nomatch z) fun b hb => ⟨toT b (hS5 b hb).1, (hS5 b hb).2⟩) air5 hee
  · intro D C s5 mC acc H5 I5 nD q nsC hf
    refine ⟨mC, nsC, fun h' hs' => ⟨.ref D, _, ?_, rfl, q D nD⟩⟩
    exact I5.turned (it := C) (t' := s5.toks) (fun b o hb e => (hs'.2 b hb).trans e) hf.1 hf.2.1 hf.2.2.2.1 hf.2.2.2.2.1 hf.2.2.2.2.2
end
theorem xe_compE {X : Cx} {Ex : ExT} {dsc scope : Scope} {tgs N' N : List Str} {outs : List Nat} {tg iter elt : Expr} {ifs : List Expr} {pos : Pos} {ti : XI} {g : TG} {gx : XG} {tc : XC} {te : XT} (S : CompScope dsc scope N tgs outs N') (hi : XIt X Ex tg iter ti) (hg : ∀ cl C s H ex, PG (cxComp X N' scope cl C s H ex) tg g) (hgx : GX tgs.length g gx) (hgt : Tgt tgs.length g)
    (hcs : ∀ cl C s H ex, XCs (cxComp X N' scope cl C s H ex) noEx ifs tc) (he : ∀ cl C s H ex pn EE, XE (cxCE X N' scope cl C s H ex pn EE) Ex elt te) (hst : X.stack = X.env :: X.outer := by rfl) (hfr : X.env.frame = some X.env.locals := by rfl) (hex : X.ex = [] := by rfl) (hno : outs.Nodup := by decide) (hN0 : X.N = N := by rfl) (hsc : X.env.scope = dsc := by rfl) (hc : X.calm = true := by rfl) (hs : ∀ x, foldedSetIterable iter X.env x = pure x := by intro _; rfl) :
    XE X Ex (.ListComp elt [⟨tg, iter, ifs, 0⟩] scope pos) (xComp tgs.length outs ti gx tc te) := fun F _ =>
  (pe_compE (EE := fun c H' => Ex c ∧ Kept F H') (fun pins σ H s' ea cls I a e => OkF.pass1 (Ex := Ex) (F := F) pins σ H s' ea cls I a e.1 e.2) hst hfr hex S (hi F) hg hgt (fun a b c d e => hcs a b c d e F) (fun a b c d e pn => haveI : OkF (cxCE X N' scope a b c d e pn fun c H' => Ex c ∧ Kept F H') Ex F := okf_CE; he a b c d e pn _ F) hN0 hsc hc hs).weak (tComp_x hgx hno)
end Lf

set_option Elab.async false
set_option linter.all false
set_option maxRecDepth 100000
set_option maxHeartbeats 4000000
namespace L2
open PySem PySem.Spec PySem.SeqAt PySem.AutoSeq1 PySem.MeetsSeq PyProof.Rows
end L2
namespace Lf
open PySem L2
end Lf

set_option Elab.async false
set_option linter.all false
set_option maxRecDepth 100000
set_option maxHeartbeats 4000000
namespace L2
open PySem PySem.Spec PySem.SeqAt PyProof.Rows
theorem vals_refsX : ∀ {as : List Addr} {us : List Value}, Vals (as.map V.ref) us → us = as.map Value.ref
  | [], _, h => by cases h; rfl
  | x :: xs, _, h => by
    cases h with
    | cons ra rb => rw [vals_refsX rb]; cases ra; rfl
end L2
namespace Lf
open PySem L2
end Lf

set_option Elab.async false
set_option linter.all false
set_option maxRecDepth 100000
set_option maxHeartbeats 4000000
namespace Lf
open PySem L2
def xJoin (z : Str) (t : XT) : XT := fun ρ Q => t ρ fun s ρ' => ∃ ys : List Str, s.d = .lst (ys.map Dx.str) ∧ (ys.map (·.length)).sum + ys.length * z.length ≤ 16777216 ∧ Q (.tr (.str (Txt.join z ys))) ρ'
theorem strs_of {G : Hp} : ∀ {ys : List Str} {vs : List V}, All2 (IsX G) (ys.map Dx.str) vs → vs = ys.map V.str
  | [], _, h => h
  | x :: xs, _, ⟨v, vr, e, h1, h2⟩ => by rw [e, strs_of h2, h1.str_eq]; rfl
theorem xe_join {X : Cx} {Ex : ExT} {e : Expr} {t : XT} {z : Str} {j : Nat} {sp apos cpos : Pos} (h : XE X Ex e t)
    (hbase : attributeBase (.Constant (.str z) j sp) "join" X.env (eval (.Constant (.str z) j sp) X.env) = eval (.Constant (.str z) j sp) X.env := by rfl)
    (hfew : ((backTo cpos (starEach [e] X.env)).all (fun x => !x.1) && (backToKw cpos (keywordEach [] X.env)).all (fun x => x.1.isSome)
      && decide ([e].length + ([] : List Keyword).length + (if ([] : List Keyword).isEmpty then 0 else 1) < 30)) = true := by rfl)
    (hline : (apos.endLine == cpos.line) = true := by rfl) (hs : starEach [e] X.env = (false, eval e X.env) :: starEach [] X.env := by rfl) (hplain : (backTo cpos (starEach [] X.env)).any (·.1) = false := by rfl) :
    XE X Ex (.Call (.Attribute (.Constant (.str z) j sp) "join" apos) [e] [] cpos) (xJoin z t) := fun F =>
  (pe_bm PySem.F.plainAttrs_str PySem.F.slot_str_join PySem.F.type_str_join mt_join (pe_str (x := z)) (pa_cons (h F) pa_nil hs) hbase hfew hline hs hplain).weak fun σ H Q => by
    rintro ⟨ρ, fr, Qx, E, t, k⟩
    refine ⟨rfl, ρ, fr, _, E, t, fun v s H' ρ' E' q => ?_⟩
    obtain ⟨ys, hd, hz, q⟩ := q
    obtain ⟨R, hx⟩ := E'.one
    rw [hd] at hx
    obtain ⟨p, vs, rfl, q1, q2⟩ := hx.lst_eq
    cases strs_of q2
    exact ⟨z, p, ys, rfl, rfl, SqL.of (R.hv _ _ q1), hz, k _ _ H' ρ' (EOk.back E'.len (R.add (IsX.of_str _))) q⟩
end Lf

set_option Elab.async false
set_option linter.all false
set_option maxRecDepth 100000
set_option maxHeartbeats 4000000
namespace L2
open PySem PySem.Spec PyProof.Rows
section
variable {X : Cx}
def atF (x y : Str) : Int := match Builtin.Str.occurrences x y 0 x.length 1 with | i :: _ => (i : Int) | [] => -1
theorem mt_find : MtR X "str.find" (fun x vs H Q => ∃ z y, x = .str z ∧ vs = [.str y] ∧ Q (.int (atF z y)) H) := by
  intro pins s σ H x vs v us Q I rx rv h
  obtain ⟨z, y, rfl, rfl, q⟩ := h
  obtain ⟨t, rfl⟩ := rx
  cases rv with
  | cons r1 r2 =>
    cases r2
    obtain ⟨u, rfl⟩ := r1
    exact call_gives F.slot_str_find (typeIs_str s z t) F.entry_str_find (F.args_str_find_2 _ _) (gives_str_find z y t u) ⟨.int _, H, I.tok _, ⟨_, rfl⟩, q⟩
theorem mt_index : MtR X "str.index" (fun x vs H Q => ∃ z y i r, x = .str z ∧ vs = [.str y] ∧ Builtin.Str.occurrences z y 0 z.length 1 = i :: r ∧ Q (.int (i : Int)) H) := by
  intro pins s σ H x vs v us Q I rx rv h
  obtain ⟨z, y, i, r, rfl, rfl, e, q⟩ := h
  obtain ⟨t, rfl⟩ := rx
  cases rv with
  | cons r1 r2 =>
    cases r2
    obtain ⟨u, rfl⟩ := r1
    exact call_gives F.slot_str_index (typeIs_str s z t) F.entry_str_index (F.args_str_index_2 _ _) (gives_str_index z y t u i r e) ⟨.int _, H, I.tok _, ⟨_, rfl⟩, q⟩
end
end L2

set_option Elab.async false
set_option linter.all false
set_option maxRecDepth 100000
set_option maxHeartbeats 4000000
namespace Lf
open PySem L2
def findX : G2
  | .str z, .str y, Q => Q (.tr (.int (atF z y)))
  | _, _, _ => False
def indexX : G2
  | .str z, .str y, Q => ∃ i r, Builtin.Str.occurrences z y 0 z.length 1 = i :: r ∧ Q (.tr (.int (i : Int)))
  | _, _, _ => False
def xMeth (g : G2) (to ta : XT) : XT := fun ρ Q => to ρ fun o ρ1 => (∃ z, o.d = .str z) ∧ ta ρ1 fun a ρ2 => g o.d a.d fun s => Q s ρ2
section
variable {X : Cx} {Ex : ExT} {o e : Expr} {to t : XT} {apos cpos : Pos}
theorem meth_x {F : Fm} {K : PySem.W.Frag} {g : G2} {r : V → List V → Hp → VK → Prop} (hg : ∀ {z : Str} {b : Dx} {y : V} {H : Hp} {P : List Rw} {Q : VK} {Qx : Sv → Prop}, Rep F P H → IsX (hid (owns P) (F.vis H)) b y → g (.str z) b Qx → (∀ v s H', Rep F ((.v s, some v) :: P) H' → Qx s → Q v H') → r (.str z) [y] H Q) : ∀ σ H Q, tX F (xMeth g to t) σ H Q → tBM K "str" r (tX F to) (tCons (tX F t) tNil) σ H Q := by
  rintro σ H Q ⟨ρ, fr, Qx, E, q, k⟩
  refine ⟨ρ, fr, _, E, q, fun v s H' ρ' E' q' => ?_⟩
  obtain ⟨⟨z, hz⟩, q'⟩ := q'
  obtain ⟨R, hx⟩ := E'.one
  rw [hz] at hx q'
  cases hx.str_eq
  refine ⟨rfl, ρ', _, _, E'.drop, q', fun u s2 H2 ρ2 E2 q2 => ?_⟩
  obtain ⟨R2, hx2⟩ := E2.one
  exact hg R2 hx2 q2 fun v s3 H3 R3 q3 => k v s3 H3 ρ2 (EOk.back E2.len R3) q3
theorem xe_find (ho : XE X Ex o to) (h : XE X Ex e t)
    (hbase : attributeBase o "find" X.env (eval o X.env) = eval o X.env := by rfl)
    (hfew : ((backTo cpos (starEach [e] X.env)).all (fun x => !x.1) && (backToKw cpos (keywordEach [] X.env)).all (fun x => x.1.isSome)
      && decide ([e].length + ([] : List Keyword).length + (if ([] : List Keyword).isEmpty then 0 else 1) < 30)) = true := by rfl)
    (hline : (apos.endLine == cpos.line) = true := by rfl) (hs : starEach [e] X.env = (false, eval e X.env) :: starEach [] X.env := by rfl) (hplain : (backTo cpos (starEach [] X.env)).any (·.1) = false := by rfl) :
    XE X Ex (.Call (.Attribute o "find" apos) [e] [] cpos) (xMeth findX to t) := fun F =>
  (pe_bm PySem.F.plainAttrs_str PySem.F.slot_str_find PySem.F.type_str_find mt_find (ho F) (pa_cons (h F) pa_nil hs) hbase hfew hline hs hplain).weak (meth_x fun {z b y H P Q Qx} R hb g k => by
    unfold findX at g
    split at g
    · rename_i z' y' e1
      cases e1
      cases hb.str_eq
      exact ⟨z, y', rfl, rfl, k _ _ H (R.add (IsX.of_int _)) g⟩
    · exact g.elim)
theorem xe_index (ho : XE X Ex o to) (h : XE X Ex e t)
    (hbase : attributeBase o "index" X.env (eval o X.env) = eval o X.env := by rfl)
    (hfew : ((backTo cpos (starEach [e] X.env)).all (fun x => !x.1) && (backToKw cpos (keywordEach [] X.env)).all (fun x => x.1.isSome)
      && decide ([e].length + ([] : List Keyword).length + (if ([] : List Keyword).isEmpty then 0 else 1) < 30)) = true := by rfl)
    (hline : (apos.endLine == cpos.line) = true := by rfl) (hs : starEach [e] X.env = (false, eval e X.env) :: starEach [] X.env := by rfl) (hplain : (backTo cpos (starEach [] X.env)).any (·.1) = false := by rfl) :
    XE X Ex (.Call (.Attribute o "index" apos) [e] [] cpos) (xMeth indexX to t) := fun F =>
  (pe_bm PySem.F.plainAttrs_str PySem.F.slot_str_index PySem.F.type_str_index mt_index (ho F) (pa_cons (h F) pa_nil hs) hbase hfew hline hs hplain).weak (meth_x fun {z b y H P Q Qx} R hb g k => by
    unfold indexX at g
    split at g
    · rename_i z' y' e1
      cases e1
      cases hb.str_eq
      obtain ⟨i, r, e, g⟩ := g
      exact ⟨z, y', i, r, rfl, rfl, e, k _ _ H (R.add (IsX.of_int _)) g⟩
    · exact g.elim)
end
end Lf

set_option Elab.async false
set_option linter.all false
set_option maxRecDepth 100000
set_option maxHeartbeats 4000000
namespace L2
open PySem PySem.Spec PyProof.Rows Builtin Builtin.Str
section
variable {X : Cx}
theorem strVals : ∀ (l : List (Str × Tok)), Vals ((l.map (·.1)).map V.str) (strValues l)
  | [] => .nil
  | p :: r => .cons ⟨p.2, rfl⟩ (strVals r)
theorem mt_split : MtR X "str.split" (fun x vs H Q => ∃ z y, x = .str z ∧ vs = [.str y] ∧ (y.length == 0) = false ∧ z.length + 2 ≤ sizeLine ∧ ∀ p, H p = none → Q (.ref p) (upd H p (.lst ((Txt.split z y).map V.str)))) := by
  intro pins s σ H x vs v us Q I rx rv h
  obtain ⟨z, y, rfl, rfl, hy, hsz, q⟩ := h
  obtain ⟨t, rfl⟩ := rx
  cases rv with
  | cons r1 r2 =>
    cases r2
    obtain ⟨u, rfl⟩ := r1
    have hn : (partsBetween z (occurrences z y 0 z.length (z.length + 1)) y.length).length ≤ sizeLine := by
      have e1 := StrLaws.occ_length_le z y 0 z.length (z.length + 1)
      rw [length_partsBetween]; omega
    have fin : ∀ (l : List (Str × Tok)) (k : Nat), l.map (·.1) = Txt.split z y → l.length ≤ sizeLine → EP X pins σ Q (.ref s.heap.objs.size) { s with heap := s.heap.push { cls := .type "list", data := .seq (strValues l).toArray }, toks := k } := fun l k e hl =>
      ⟨.ref s.heap.objs.size, _, I.laid (fun b o e => Heap.get?_push_of_some _ e) (Nat.le_refl _) (show ObjOk X.prog X.w _ _ _ (.lst ((Txt.split z y).map V.str)) from ⟨by rw [← e, List.length_map, List.length_map]; exact hl, strValues l, 0, by rw [← e]; exact strVals l, Heap.get?_push_size _ rfl⟩), rfl, q _ (I.hok.fresh (Nat.le_refl _))⟩
    cases h1 : (decide (z.length < y.length) || decide (strKind z < strKind y))
    · cases hf : (occurrences z y 0 z.length (z.length + 1)).isEmpty
      · refine call_meets F.slot_str_split (typeIs_str _ _ _) F.entry_str_split (F.args_str_split_2 _ _) (meets_str_split_sep z y t u h1 hy hf (by omega) hn) ?_
        show wants _ _ _ { s with toks := _, heap := s.heap.push { cls := .type "list", data := .seq (strsFrom s.toks (partsBetween z (occurrences z y 0 z.length (z.length + 1)) y.length)).toArray } }
        rw [strsFrom_eq]
        have e := ((numbered_texts s.toks (partsBetween z (occurrences z y 0 z.length (z.length + 1)) y.length)).trans ((if_neg (ne_true_of_eq_false h1)).trans (if_neg (ne_true_of_eq_false hf))).symm : _ = Txt.split z y)
        exact fin (numbered s.toks _) _ e (by have e2 := congrArg List.length (numbered_texts s.toks (partsBetween z (occurrences z y 0 z.length (z.length + 1)) y.length)); rw [List.length_map] at e2; rw [e2]; exact hn)
      · exact call_meets F.slot_str_split (typeIs_str _ _ _) F.entry_str_split (F.args_str_split_2 _ _) (meets_str_split_not_found z y t u h1 hy hf)
          (fin [(z, t)] s.toks ((if_neg (ne_true_of_eq_false h1)).trans (if_pos hf)).symm (by show 1 ≤ sizeLine; decide))
    · exact call_meets F.slot_str_split (typeIs_str _ _ _) F.entry_str_split (F.args_str_split_2 _ _) (meets_str_split_cannot_occur z y t u h1)
        (fin [(z, t)] s.toks (if_pos h1).symm (by show 1 ≤ sizeLine; decide))
end
end L2
namespace Lf
open PySem L2
theorem owFs_tr : ∀ {l : List Dx}, owFs (l.map Ow.tr) = []
  | [] => by simp only [List.map_nil, owFs]
  | d :: r => by simp only [List.map_cons, owFs, Ow.fp, owFs_tr, List.nil_append]
theorem oks_tr {G H : Hp} : ∀ {l : List Dx} {vs : List V}, All2 (IsX G) l vs → OwOks G H (l.map Ow.tr) vs
  | [], _, h => by simp only [List.map_nil, OwOks]; exact h
  | d :: r, _, ⟨v, vr, e, h1, h2⟩ => by simp only [List.map_cons, OwOks, OwOk]; exact ⟨v, vr, e, h1, oks_tr h2⟩
theorem oks_of {G H : Hp} : ∀ {l : List Dx} {vs : List V}, OwOks G H (l.map Ow.tr) vs → All2 (IsX G) l vs
  | [], _, h => by simp only [List.map_nil, OwOks] at h; exact h
  | d :: r, _, h => by simp only [List.map_cons, OwOks, OwOk] at h; obtain ⟨v, vr, e, h1, h2⟩ := h; exact ⟨v, vr, e, h1, oks_of h2⟩
def owW (d : Dx) (a : Addr) (l : List Dx) : Ow := .ot [.tr d, .ol a (l.map Ow.tr)]
theorem owW_fp {d : Dx} {a : Addr} {l : List Dx} : (owW d a l).fp = [a] := by simp only [owW, Ow.fp, owFs, owFs_tr, List.nil_append, List.append_nil]
theorem owDs_tr : ∀ {l : List Dx}, owDs (l.map Ow.tr) = l
  | [] => by simp only [List.map_nil, owDs]
  | d :: r => by simp only [List.map_cons, owDs, Ow.d, owDs_tr]
theorem owW_d {d : Dx} {a : Addr} {l : List Dx} : (owW d a l).d = .tup [d, .lst l] := by simp only [owW, Ow.d, owDs, owDs_tr]
def xTupW (u : XA) : XT := fun ρ Q => u ρ fun ss ρ' => match ss with
  | [.tr d, .ol l] => ∀ a, Q (.ow (owW d a l)) ρ'
  | _ => False
theorem xe_tupW {X : Cx} {Ex : ExT} {es : List Expr} {u : XA} {x1 : Nat} {pos : Pos} (h : XAs X Ex es u) : XE X Ex (.Tuple es x1 pos) (xTupW u) := fun F => (pe_tup (h F)).weak fun σ H Q => by
  rintro ⟨ρ, fr, Qx, E, t, k⟩
  refine ⟨ρ, fr, _, E, t, fun vs ss H2 ρ2 hl E2 q2 => ?_⟩
  split at q2
  · rename_i d l
    match vs, hl, E2 with
    | [v1, v2], _, E2 =>
      refine ⟨by show 2 ≤ sizeLine; decide, fun p hp => ?_⟩
      have R0 : Rep F ((.v (.tr d), some v1) :: (.v (.ol l), some v2) :: (ρ2.zip σ ++ fr)) H2 := E2.rep.perm (List.perm_append_comm_assoc _ [(.v (.tr d), some v1), (.v (.ol l), some v2)] fr)
      have e : Same H2 (upd H2 p (.tup [v1, v2])) := same_new hp _
      have R1 := R0.grow e
      obtain ⟨x1, e1, hx1⟩ := R1.ok _ List.mem_cons_self
      obtain ⟨a, ws, e2, h2, h3⟩ := R1.ok _ (List.mem_cons_of_mem _ List.mem_cons_self)
      cases e1
      cases e2
      have hO : owns ((.v (.ow (owW d a l)), some (V.ref p)) :: (ρ2.zip σ ++ fr)) = owns ((.v (.tr d), some v1) :: (.v (.ol l), some (.ref a)) :: (ρ2.zip σ ++ fr)) := by
        rw [owns_some (a := a) (r := (Sl.v (Sv.ow (owW d a l)), some (V.ref p))) owW_fp, owns_none rfl, owns_some (a := a) rfl]
      refine k _ _ _ ρ2 (EOk.back E2.len ⟨hO ▸ R1.nd, fun r hr => ?_, fun r hr b hb => ?_, R1.kp, R1.lv⟩) (q2 a)
      · rw [hO]
        rcases List.mem_cons.mp hr with rfl | hr
        · refine ⟨.ref p, rfl, ?_⟩
          simp only [owW, OwOk, OwOks]
          exact ⟨p, [v1, .ref a], rfl, hid_some.mpr ⟨R0.not_own hp, (ext_new (R0.fresh hp)).trans (by rw [upd_same]; rfl)⟩, v1, _, rfl, hx1, _, _, rfl, ⟨rfl, ws, h2, oks_tr h3⟩, rfl⟩
        · exact R1.ok r (List.mem_cons_of_mem _ (List.mem_cons_of_mem _ hr))
      · rcases List.mem_cons.mp hr with rfl | hr
        · have hb' : b ∈ (owW d a l).fp := hb
          rw [owW_fp] at hb'
          exact R1.fr _ (List.mem_cons_of_mem _ List.mem_cons_self) b hb'
        · exact R1.fr r (List.mem_cons_of_mem _ (List.mem_cons_of_mem _ hr)) b hb
  · exact q2.elim
def xAsgW (i j : Nat) (t : XT) : XS := fun ρ D => t ρ fun s ρ' => (∃ d1 d2, s = .tr (.tup [d1, d2]) ∧ D.nx ((ρ'.set i (.v (.tr d1))).set j (.v (.tr d2)))) ∨ ∃ d a l, s = .ow (owW d a l) ∧ D.nx ((ρ'.set i (.v (.tr d))).set j (.v (.ol l)))
theorem xs_asgW {X : Cx} {Ex : ExT} {K : PySem.W.Frag} {st : Stmt} {t : XT} {i j : Nat} (h : ∀ F, [OkF X Ex F] → PS X st (tAsg (tX F t) (gTup K 2 (gsOf [i, j])))) : XSt X Ex st (xAsgW i j t) := fun F => (h F).weak fun D σ H => by
  rintro ⟨ρ, fr, dd, E, q, k⟩
  refine ⟨ρ, fr, _, E, q, fun v s H' ρ' E' q' => ?_⟩
  rcases q' with ⟨d1, d2, rfl, q'⟩ | ⟨d, a, l, rfl, q'⟩
  · have E1 : EOk F ρ' σ ((.v (.tr (.tup [d1, d2])), some v) :: fr) H' := E'
    obtain ⟨R, hx⟩ := E1.one
    obtain ⟨p, vs, rfl, h1, h2⟩ := hx.tup_eq
    obtain ⟨v1, _, rfl, g1, v2, _, rfl, g2, rfl⟩ := h2
    have E2 : EOk F ρ' σ ((.v (.tr d1), some v1) :: (.v (.tr d2), some v2) :: fr) H' := by
      have R3 := (R.add g2).add (d := d1) (v := v1) (by rw [owns_none rfl]; exact g1)
      exact ⟨E'.len, R3.perm (List.perm_append_comm_assoc [(.v (.tr d1), some v1), (.v (.tr d2), some v2)] _ fr)⟩
    exact ⟨p, _, rfl, SqT.of (R.hv _ _ h1), rfl, v1, _, rfl, v2, _, rfl, rfl, k.nx _ H' _ (by rw [List.length_set, List.length_set]) (eok_set (eok_set E2)) q'⟩
  · have R := E'.front
    obtain ⟨x, ex, hx⟩ := R.ok _ List.mem_cons_self
    cases ex
    simp only [owW, OwOk, OwOks] at hx
    obtain ⟨p, vs, rfl, h1, v1, _, rfl, g1, v2, _, rfl, ⟨rfl, ws, g2, g3⟩, rfl⟩ := hx
    have hO : owns ((.v (.ow (owW d a l)), some (V.ref p)) :: (ρ'.zip σ ++ fr)) = owns ((.v (.tr d), some v1) :: (.v (.ol l), some (.ref a)) :: (ρ'.zip σ ++ fr)) := by
      rw [owns_some (a := a) (r := (Sl.v (Sv.ow (owW d a l)), some (V.ref p))) owW_fp, owns_none rfl, owns_some (a := a) rfl]
    have h1' := h1
    have g1' := g1
    rw [show Ow.ot [.tr d, .ol a (l.map Ow.tr)] = owW d a l from rfl, hO] at g1' g3
    have R2 : Rep F ((.v (.tr d), some v1) :: (.v (.ol l), some (.ref a)) :: (ρ'.zip σ ++ fr)) H' := by
      refine ⟨hO ▸ R.nd, fun r hr => ?_, fun r hr b hb => ?_, R.kp, R.lv⟩
      · rcases List.mem_cons.mp hr with rfl | hr
        · exact ⟨v1, rfl, g1'⟩
        · rcases List.mem_cons.mp hr with rfl | hr
          · exact ⟨a, ws, rfl, g2, oks_of g3⟩
          · rw [← hO]; exact R.ok r (List.mem_cons_of_mem _ hr)
      · rcases List.mem_cons.mp hr with rfl | hr
        · exact absurd (show b ∈ ([] : List Addr) from hb) List.not_mem_nil
        · rcases List.mem_cons.mp hr with rfl | hr
          · exact R.fr _ List.mem_cons_self b (show b ∈ (owW d a l).fp by rw [owW_fp]; exact hb)
          · exact R.fr r (List.mem_cons_of_mem _ hr) b hb
    have E2 : EOk F ρ' σ ((.v (.tr d), some v1) :: (.v (.ol l), some (.ref a)) :: fr) H' := ⟨E'.len, R2.perm (List.perm_append_comm_assoc [(.v (.tr d), some v1), (.v (.ol l), some (V.ref a))] _ fr)⟩
    exact ⟨p, _, rfl, SqT.of (R.hv _ _ h1'), rfl, v1, _, rfl, _, _, rfl, rfl, k.nx _ H' _ (by rw [List.length_set, List.length_set]) (eok_set (eok_set E2)) q'⟩
def xCallPk (g : GC) (i : Nat) (u : XA) : XT := fun ρ Q => (∃ s, ρ[i]? = some (.v s)) ∧ u ρ fun ss ρ' => match ρ'[i]? with
  | some (.v s) => g (s.d :: ss.map Sv.d) fun r => ∃ b, r = .tr (.bl b) ∧ Q (.tr (.bl b)) ρ'
  | _ => False
theorem xe_callPk {X : Cx} {Ex : ExT} {j i : Nat} {x : Str} {ps : List Str} {g : GC} {e : Expr} {es : List Expr} {u : XA} {p pos : Pos} (C : Cal X.prog X.w X.K X.mg X.base j x ps (spX g)) (hr : Room j X.A) (hv : PE X e (tVar i)) (ha : XAs X Ex es u) (hg : Gl X x := by rfl) (hdb : (x == ("__debug__" : Str)) = false := by decide)
    (he : starEach (e :: es) X.env = (false, eval e X.env) :: starEach es X.env := by rfl) (hpl : (backTo pos (starEach es X.env)).any (·.1) = false := by rfl) : XE X Ex (.Call (.Name x p) (e :: es) [] pos) (xCallPk g i u) := fun F => (pe_cal C hr (pa_cons hv (ha F) he) hg hdb he hpl).weak fun σ H Q => by
  rintro ⟨ρ, fr, Qx, E, ⟨⟨s0, h0⟩, t⟩, k⟩
  obtain ⟨v, hv', hi, R0⟩ := eok_slot E h0
  obtain ⟨w, rfl, _⟩ := R0.head
  refine ⟨w, hv', ρ, fr, _, E, t, fun vs ss H2 ρ2 hl E2 q2 => ?_⟩
  split at q2
  · rename_i s h3
    obtain ⟨R, hs⟩ := E2.many hl
    obtain ⟨v2, hv2, hi2, R2⟩ := eok_slot ⟨E2.len, R⟩ h3
    rw [hv'] at hv2
    cases hv2
    obtain ⟨w', e, hx⟩ := R2.head
    cases e
    rw [List.append_nil]
    have hO : (owns (ρ2.zip σ ++ fr)).Perm (owns ((.v s, some w) :: ((ρ2.zip σ).eraseIdx i ++ fr))) := ((zip_pull h3 hv').append_right fr).flatMap_right _
    refine ⟨_, s.d :: ss.map Sv.d, _, R2.tail.hv, ⟨w, vs, rfl, hx, hs.imp fun _ _ z => z.to (hid_less fun c hc => hO.mem_iff.mpr (by rw [owns_cons]; exact List.mem_append_right _ hc))⟩, q2, fun r v H' e hr q => ?_⟩
    · obtain ⟨b, rfl, q⟩ := q
      cases (IsX.bl_eq (H := ext (hid (owns ((ρ2.zip σ).eraseIdx i ++ fr)) (F.vis H2)) H2 H') hr)
      exact k _ _ H' ρ2 (EOk.back E2.len ((R.grow e).add (IsX.of_bl _))) q
  · exact q2.elim
def xSplit (y : Str) (to : XT) : XT := fun ρ Q => to ρ fun o ρ' => ∃ z, o.d = .str z ∧ z.length + 2 ≤ sizeLine ∧ Q (.ol ((Txt.split z y).map Dx.str)) ρ'
theorem strs_isx {G : Hp} : ∀ (ys : List Str), All2 (IsX G) (ys.map Dx.str) (ys.map V.str)
  | [] => rfl
  | x :: xs => ⟨_, _, rfl, IsX.of_str _, strs_isx xs⟩
theorem xe_split {X : Cx} {Ex : ExT} {o : Expr} {to : XT} {y : Str} {j : Nat} {sp apos cpos : Pos} (ho : XE X Ex o to) (hy : (y.length == 0) = false)
    (hbase : attributeBase o "split" X.env (eval o X.env) = eval o X.env := by rfl)
    (hfew : ((backTo cpos (starEach [.Constant (.str y) j sp] X.env)).all (fun x => !x.1) && (backToKw cpos (keywordEach [] X.env)).all (fun x => x.1.isSome)
      && decide ([Expr.Constant (.str y) j sp].length + ([] : List Keyword).length + (if ([] : List Keyword).isEmpty then 0 else 1) < 30)) = true := by rfl)
    (hline : (apos.endLine == cpos.line) = true := by rfl) (hs : starEach [.Constant (.str y) j sp] X.env = (false, eval (.Constant (.str y) j sp) X.env) :: starEach [] X.env := by rfl) (hplain : (backTo cpos (starEach [] X.env)).any (·.1) = false := by rfl) :
    XE X Ex (.Call (.Attribute o "split" apos) [.Constant (.str y) j sp] [] cpos) (xSplit y to) := fun F =>
  (pe_bm PySem.F.plainAttrs_str PySem.F.slot_str_split PySem.F.type_str_split mt_split (ho F) (pa_cons (pe_str (x := y)) pa_nil hs) hbase hfew hline hs hplain).weak fun σ H Q => by
    rintro ⟨ρ, fr, Qx, E, t, k⟩
    refine ⟨ρ, fr, _, E, t, fun v s H' ρ' E' q => ?_⟩
    obtain ⟨z, hd, hz, q⟩ := q
    obtain ⟨R, hx⟩ := E'.one
    rw [hd] at hx
    cases hx.str_eq
    exact ⟨rfl, z, y, rfl, rfl, hy, hz, fun p hp => k _ _ _ ρ' (EOk.back E'.len (R.newL hp (strs_isx _))) q⟩
def spB2 (g : GB) : Sp := fun vs H Q E => ∃ a p, vs = [a, p] ∧ spB g [p, a] H Q E
def startB2 (N : List Str) (l : List Dx) (d : Dx) : En := .v (.tr d) :: .bw l :: List.replicate (N.length - 2) .un
def lentEnd2 (Q : Dx → List Dx → Prop) (d : Dx) (ρ : En) : Prop := match (ρ[1]? : Option Sl) with
  | some (.bw l) => Q d l
  | _ => False
abbrev retB2 (Q : Dx → List Dx → Prop) : XD := ⟨fun ρ => lentEnd2 Q .non ρ, fun s ρ => lentEnd2 Q s.d ρ, fun _ => False, fun _ => False⟩
theorem fn_b2 {P : Program} {w : World} {K : PySem.W.Frag} {mg : Str → Option Value} {base : Heap} {x : Str} {st : Stmt} {f : Addr} {fd : FuncData} {N ps : List Str} {k : Nat} {g : GB} (Fn : Fun K x x st f fd) (S : FnScope N ps (defScope st)) (hlen : ∀ l ds Q, g l ds Q → ds.length = 1) (hps : ps.length = 2) (hN : 2 ≤ N.length)
    (hbody : ∀ (cdv : Value) (A : Around) (outer : List Env) (s : Shared) (H : Hp) (E : XK), Room k (A.deeper (PyProof.Rows.envOfC x (defScope st) s.heap.objs.size f cdv)) →
      ∃ G, XSs (cxOf CX0 P w K mg base N x (defScope st) f cdv A outer s H E).nox noEx (defBody st) G ∧ ∀ l d Q, g l [d] Q → G (startB2 N l d) (retB2 Q)) : FnOk P w K mg base CX0 (k + 1) f fd ps (spB2 g) := by
  refine Fn.ok S (fun vs H Q E h => ?_) (fun cdv A outer s H vs Q E hr h => ?_)
  · obtain ⟨a, p, rfl, _⟩ := h
    rw [hps]; rfl
  obtain ⟨va, vp, rfl, p, ws, l, vr, Hs, ds, Qx, e0, hp, h1, hsp, hl, h2, h3, h4⟩ := h
  cases e0
  obtain ⟨G, hG, hq⟩ := hbody cdv A outer s H E hr
  obtain ⟨d, rfl⟩ := List.length_eq_one_iff.mp (hlen l ds Qx h3)
  obtain ⟨_, _, e1, hd, _⟩ := h2
  cases e1
  have nb : ∀ b ∈ [p], Hs b = none := fun b hb => by rw [List.mem_singleton.mp hb]; exact hsp
  have ib : ∀ b ∈ [p], ∃ o, H b = some o := fun b hb => by rw [List.mem_singleton.mp hb]; exact ⟨_, hp⟩
  have fin : ∀ {d : Dx} {v : V} {σ' : St} {H' : Hp} {ρ' : En}, EOk ⟨H, Hs, [p], h1, nb, ib⟩ ρ' σ' ((.v (.tr d), some v) :: []) H' → lentEnd2 Qx d ρ' → Q v H' := fun {d v σ' H' ρ'} E' q => by
    unfold lentEnd2 at q
    split at q
    · rename_i l' h0
      obtain ⟨R, hx⟩ := E'.one
      obtain ⟨y, hy, hi, R2⟩ := eok_slot ⟨E'.len, R⟩ h0
      obtain ⟨a, ws', rfl, h5, h6⟩ := R2.atB
      have ha : a = p := List.mem_singleton.mp (R2.fr _ List.mem_cons_self a (List.mem_singleton.mpr rfl))
      subst ha
      refine h4 d v l' ws' H' (fun b o hb => ?_) h5 (h6.imp fun _ _ z => z.to (hid_less fun c hc => by rw [List.mem_singleton.mp hc]; exact List.mem_cons_self)) (hx.to hid_sub) q
      have hb' : b ≠ a := fun z => by rw [z] at hb; unfold hide at hb; rw [if_pos rfl] at hb; cases hb
      rw [hide_ne hb'] at hb ⊢
      exact R.kp b o hb fun z => hb' (List.mem_singleton.mp z)
    · exact q.elim
  refine ⟨_, hG ⟨H, Hs, [p], h1, nb, ib⟩, startB2 N l d, [], retB2 Qx, ⟨?_, ?_⟩, hq l d Qx h3, ⟨fun σ' H' ρ' _ E' q => fin (EOk.back E'.len (E'.rep.add (d := .non) (v := .non) IsX.of_non)) q, fun v s σ' H' ρ' _ E' q => fin (EOk.back E'.len E'.front.frz) q, fun _ _ _ _ _ q => q.elim, fun _ _ _ _ _ q => q.elim⟩⟩
  · unfold startB2 L2.start
    simp only [List.length_append, List.length_map, List.length_replicate, List.length_cons, List.length_nil]
    omega
  · have R0 : Rep ⟨H, Hs, [p], h1, nb, ib⟩ [] H := ⟨List.nodup_nil, fun r hr => by simp at hr, fun r hr => by simp at hr, fun b o h _ => h, ib⟩
    have hvis : Same Hs (Fm.vis ⟨H, Hs, [p], h1, nb, ib⟩ H) := fun b o hb => (ext_old (h1 _ _ hb)).trans hb
    have R1 := rep_args (m := N.length - 2) R0 (ds := []) (vs := []) rfl
    rw [List.map_nil, List.map_nil, List.nil_append, List.nil_append] at R1
    have hown : owns ((List.replicate (N.length - 2) Sl.un).zip (List.replicate (N.length - 2) (none : Option V))) = [] := by
      unfold owns
      refine List.flatMap_eq_nil_iff.mpr fun r hr => ?_
      obtain ⟨a, b⟩ := r
      rw [(List.mem_replicate.mp (List.of_mem_zip hr).1).2]; rfl
    rw [List.append_nil]
    have e : (startB2 N l d).zip (L2.start N [va, .ref p]) = (.v (.tr d), some va) :: (.bw l, some (.ref p)) :: (List.replicate (N.length - 2) Sl.un).zip (List.replicate (N.length - 2) none) := by
      unfold startB2 L2.start
      rfl
    rw [e]
    have hNo : ∀ b o, Hs b = some o → b ≠ p := fun b o hb z => by rw [z, hsp] at hb; cases hb
    have R2 : Rep ⟨H, Hs, [p], h1, nb, ib⟩ ((.bw l, some (.ref p)) :: (List.replicate (N.length - 2) Sl.un).zip (List.replicate (N.length - 2) none)) H := by
      refine ⟨by rw [owns_some (a := p) rfl, hown]; simp, fun r hr => ?_, fun r hr a ha => ?_, R1.kp, R1.lv⟩
      · rw [owns_some (a := p) rfl, hown]
        rcases List.mem_cons.mp hr with rfl | hr
        · exact ⟨p, ws, rfl, hp, hl.imp fun _ _ z => z.to fun b o hb => hid_some.mpr ⟨fun z => hNo b o hb (List.mem_singleton.mp z), hvis _ _ hb⟩⟩
        · refine (R1.ok r hr).mono (.of fun b o hb => ?_) fun _ _ => rfl
          have hb' := hid_some.mp hb
          refine hid_some.mpr ⟨fun z => ?_, hb'.2⟩
          have h9 : Hs p = some o := (ext_old hp).symm.trans (List.mem_singleton.mp z ▸ hb'.2)
          rw [hsp] at h9; cases h9
      · rcases List.mem_cons.mp hr with rfl | hr
        · exact ha
        · exact R1.fr r hr a ha
    exact R2.add (hd.to fun b o hb => hid_some.mpr ⟨fun z => by rw [owns_some (a := p) rfl, hown] at z; exact hNo b o hb (List.mem_singleton.mp z), hvis _ _ hb⟩)
def xCallB2 (g : GB) (i : Nat) (t : XT) : XT := fun ρ Q => t ρ fun s ρ' => match (ρ'[i]?).bind lent with
  | some (l, f) => g l [s.d] fun d l' => Q (.tr d) (ρ'.set i (f l'))
  | none => False
theorem xe_callP2 {X : Cx} {Ex : ExT} {j i : Nat} {x : Str} {ps : List Str} {g : GB} {e e2 : Expr} {t : XT} {p pos : Pos} (C : Cal X.prog X.w X.K X.mg X.base j x ps (spB2 g)) (hr : Room j X.A) (ht : XE X Ex e t) (hv : PE X e2 (tVar i)) (hg : Gl X x := by rfl) (hdb : (x == ("__debug__" : Str)) = false := by decide)
    (he : starEach [e, e2] X.env = (false, eval e X.env) :: starEach [e2] X.env := by rfl) (he2 : starEach [e2] X.env = (false, eval e2 X.env) :: starEach [] X.env := by rfl) (hpl : (backTo pos (starEach [e2] X.env)).any (·.1) = false := by rfl) : XE X Ex (.Call (.Name x p) [e, e2] [] pos) (xCallB2 g i t) := fun F => (pe_cal C hr (pa_cons (ht F) (pa_cons hv pa_nil he2) he) hg hdb he hpl).weak fun σ H Q => by
  rintro ⟨ρ, fr, Qx, E, t, k⟩
  refine ⟨ρ, fr, _, E, t, fun va s2 H2 ρ2 E2 q2 => ?_⟩
  obtain ⟨R, hs⟩ := E2.one
  split at q2
  · rename_i l f hb
    obtain ⟨sl, h3, h4⟩ := Option.bind_eq_some_iff.mp hb
    have E3 : EOk F ρ2 σ fr H2 := ⟨E2.len, R⟩
    obtain ⟨v', hv', hi', R2⟩ := eok_slot E3 h3
    obtain ⟨p, ws, rfl, h5, h6, h7, h8⟩ := lent_row h4 R2
    refine ⟨.ref p, hv', va, .ref p, rfl, ?_⟩
    have hO : (owns (ρ2.zip σ ++ fr)).Perm (owns ((sl, some (V.ref p)) :: ((ρ2.zip σ).eraseIdx i ++ fr))) := ((zip_pull h3 hv').append_right fr).flatMap_right _
    have hOm : ∀ a ∈ owns ((sl, some (V.ref p)) :: ((ρ2.zip σ).eraseIdx i ++ fr)), a ∈ owns (ρ2.zip σ ++ fr) := fun a ha => hO.mem_iff.mpr ha
    refine ⟨p, ws, l, [va], hid (owns ((sl, some (V.ref p)) :: ((ρ2.zip σ).eraseIdx i ++ fr))) (F.vis H2), [s2.d], _, rfl, h5, R2.hv, ?_, ?_, All2.one (hs.to (hid_less hOm)), q2, fun d w l' ws' H' e hp hl' hd q => ?_⟩
    · unfold hid
      rw [if_pos (by rw [owns_some h6]; exact List.mem_cons_self)]
    · rw [owns_some h6]
      exact h7
    · obtain ⟨k1, k2, k3⟩ := h8 l'
      have ev := ext_called R2 h6 e
      have R3 := R2.called h6 k1 k2 e ⟨_, hp⟩ (k3 hp (hl'.imp fun _ _ z => z.to fun b o hb => by
        have hb' := hid_some.mp hb
        have := ev _ _ hb'.2
        rw [owns_some h6] at this
        exact this))
      refine k w (.tr d) H' _ (EOk.back (by rw [List.length_set]; exact E2.len) ?_) q
      have R4 := R3.add (d := d) (v := w) (hd.to fun b o hb => by
        have := ev _ _ hb
        rw [owns_some h6] at this
        rw [owns_some k1]
        exact this)
      exact R4.perm (((zip_put' E2.len hi' hv').append_right fr).symm.cons _)
  · exact q2.elim
end Lf

set_option Elab.async false
set_option linter.all false
set_option maxRecDepth 100000
set_option maxHeartbeats 4000000
namespace L2
open PySem PySem.Spec PyProof.Rows Builtin Builtin.Str
theorem isSame_str_same (y z : Str) (u v : Tok) (h0 : (u == 0 || v == 0) = false) (huv : (u == v) = true) : isSame (.str y u) (.str z v) = pure true := by
  show (if (u == 0 || v == 0) = true then _ else if (u == v) = true then pure true else _ : Sem Bool) = _
  rw [h0, huv]
  rfl
theorem gives_repl1 (x y z : Str) (t u v k : Tok) (h0 : (u == 0 || v == 0) = false) (hyz : (y == z) = false) (hl : tooLong (x.length + (occurrences x y 0 x.length 1).length * z.length) = false) :
    Gives («str.replace» ⟨[.str x t, .str y u, .str z v, .int 1 k], []⟩) (if ((occurrences x y 0 x.length 1).isEmpty || (y.length == 0 && z.length == 0)) = true then .val (.str x t) else if (u == v) = true then .val (.str x t) else .str (glued z (partsBetween x (occurrences x y 0 x.length 1) y.length))) := by
  show Gives (do
      let limit ← countLimit "str.replace" (some (.int 1 k)) (x.length + 1)
      if ((occurrences x y 0 x.length limit).isEmpty || (y.length == 0 && z.length == 0)) = true then (do rule "str.replace.nothing"; ret (.str x t)) else
          (do let same ← isSame (.str y u) (.str z v)
              if same = true then (do rule "str.replace.old-is-new"; ret (.str x t)) else
              if tooLong (x.length + (occurrences x y 0 x.length limit).length * z.length) = true then unsupported "str.replace:memory" else
              retStr (glued z (partsBetween x (occurrences x y 0 x.length limit) y.length)))) _
  rw [countLimit_int "str.replace" 1 k (x.length + 1) (by decide)]
  show Gives (if ((occurrences x y 0 x.length 1).isEmpty || (y.length == 0 && z.length == 0)) = true then (do rule "str.replace.nothing"; ret (.str x t)) else
          (do let same ← isSame (.str y u) (.str z v)
              if same = true then (do rule "str.replace.old-is-new"; ret (.str x t)) else
              if tooLong (x.length + (occurrences x y 0 x.length 1).length * z.length) = true then unsupported "str.replace:memory" else
              retStr (glued z (partsBetween x (occurrences x y 0 x.length 1) y.length)))) _
  cases hc : ((occurrences x y 0 x.length 1).isEmpty || (y.length == 0 && z.length == 0))
  · cases huv : (u == v)
    · rw [isSame_str_other y z u v h0 huv hyz, hl]
      exact .of_eq rfl
    · rw [isSame_str_same y z u v h0 huv]
      exact .rule (.of_eq rfl)
  · exact .rule (.of_eq rfl)
theorem glued1_le (x y z : Str) : (glued z (partsBetween x (occurrences x y 0 x.length 1) y.length)).length ≤ x.length + z.length := by
  have h1 := StrLaws.occ_length_le x y 0 x.length 1
  have hy : (glued y (partsBetween x (occurrences x y 0 x.length 1) y.length)).length = x.length := by rw [StrLaws.glued_between_self]
  rw [size_glued, length_partsBetween, Nat.add_sub_cancel] at hy
  rw [size_glued, length_partsBetween, Nat.add_sub_cancel]
  have h2 : (occurrences x y 0 x.length 1).length * z.length ≤ 1 * z.length := Nat.mul_le_mul_right _ h1
  omega
theorem call_repl1 {prog : Program} {w : World} {A : Around} {E : Value → Shared → Prop} {s : Shared} {x y z : Str} {t u v k : Tok} {Q : Value → Shared → Prop} (hu : u ≠ 0) (hv : v ≠ 0) (hyz : (y == z) = false) (hb : x.length + z.length ≤ 16777216)
    (hq : ∀ x' t' k', x'.length ≤ x.length + z.length → Q (.str x' t') { s with toks := k' }) : wpAny (model prog w) A (call (.builtin "str.replace") [.str x t, .str y u, .str z v, .int 1 k]) Q E s := by
  have e : (2 : Nat) ^ 24 = 16777216 := by decide
  have hl : tooLong (x.length + (occurrences x y 0 x.length 1).length * z.length) = false := by
    have h1 := StrLaws.occ_length_le x y 0 x.length 1
    have h2 : (occurrences x y 0 x.length 1).length * z.length ≤ 1 * z.length := Nat.mul_le_mul_right _ h1
    unfold tooLong sizeLine
    exact decide_eq_false (by omega)
  refine call_gives F.slot_str_replace (typeIs_str _ _ _) F.entry_str_replace (F.args_str_replace_4 _ _ _ _)
    (gives_repl1 x y z t u v k (by simp [hu, hv]) hyz hl) ?_
  cases hc : ((occurrences x y 0 x.length 1).isEmpty || (y.length == 0 && z.length == 0))
  · cases huv : (u == v)
    · simp only [Bool.false_eq_true, if_false]
      exact ⟨by rw [sizeLine_eq]; exact Nat.le_trans (glued1_le x y z) hb, hq _ _ _ (glued1_le x y z)⟩
    · simp only [Bool.false_eq_true, if_false, if_true]
      exact hq x t s.toks (Nat.le_add_right _ _)
  · simp only [if_true]
    exact hq x t s.toks (Nat.le_add_right _ _)
def PS1 (X : Cx) (st : Stmt) (t : TS) : Prop :=
  ∀ (pins : List (Addr × Obj)) (s : Shared) (σ : St) (H : Hp) (D : Ends), Inv X pins σ H s → 0 < s.toks → t D σ H → wpAny (model X.prog X.w) X.A (exec st X.env) (SP X pins D) X.xe s
def PSs1 (X : Cx) (st : List Stmt) (t : TS) : Prop :=
  ∀ (pins : List (Addr × Obj)) (s : Shared) (σ : St) (H : Hp) (D : Ends), Inv X pins σ H s → 0 < s.toks → t D σ H → wpAny (model X.prog X.w) X.A (execs st X.env) (SP X pins D) X.xe s
def PE1 (X : Cx) (e : Expr) (t : TE) : Prop :=
  ∀ (pins : List (Addr × Obj)) (s : Shared) (σ : St) (H : Hp) (Q : VK), Inv X pins σ H s → 0 < s.toks → t σ H Q → wpAny (model X.prog X.w) X.A (eval e X.env) (EP X pins σ Q) X.xe s
def TokOk (u : Value) : Prop := ∀ x t, u = .str x t → t ≠ 0
def PE2 (X : Cx) (e : Expr) (t : TE) : Prop :=
  ∀ (pins : List (Addr × Obj)) (s : Shared) (σ : St) (H : Hp) (Q : VK), Inv X pins σ H s → 0 < s.toks → t σ H Q → wpAny (model X.prog X.w) X.A (eval e X.env) (fun u s' => EP X pins σ Q u s' ∧ TokOk u ∧ 0 < s'.toks) X.xe s
def PA2 (X : Cx) (es : List Expr) (t : TA) : Prop :=
  ∀ (pos : Pos) (pins : List (Addr × Obj)) (s : Shared) (σ : St) (H : Hp) (Q : List V → Hp → Prop), Inv X pins σ H s → 0 < s.toks → t σ H Q → wpAny (model X.prog X.w) X.A (spliced (backTo pos (starEach es X.env))) (fun us s' => AP X pins σ Q us s' ∧ (∀ u ∈ us, TokOk u) ∧ 0 < s'.toks) X.xe s
section
variable {X : Cx} {e o : Expr} {es : List Expr} {te to : TE} {t : TA} {ts us : TS} {pos apos cpos : Pos}
theorem pe2_str {x j pos} : PE2 X (.Constant (.str x) j pos) (tC (.str x)) := fun _ s _ H _ I hp h => Calls.Constant_str ⟨⟨.str x, H, I.tok _, ⟨_, rfl⟩, h⟩, fun y t e => by cases e; exact Nat.pos_iff_ne_zero.mp hp, Nat.succ_pos _⟩
theorem pe2_int {i j pos} : PE2 X (.Constant (.int i) j pos) (tC (.int i)) := fun _ s _ H _ I hp h => wpAny_Constant_int ⟨⟨.int i, H, I.tok _, ⟨_, rfl⟩, h⟩, fun y t e => (nomatch e), Nat.succ_pos _⟩
theorem pa2_nil : PA2 X [] tNil := fun _ _ _ _ H Q I hp h => Calls.spliced_nil ⟨⟨[], H, I, .nil, h⟩, fun u hu => absurd hu List.not_mem_nil, hp⟩
theorem pa2_cons (ha : PE2 X e te) (hr : PA2 X es t) (hs : starEach (e :: es) X.env = (false, eval e X.env) :: starEach es X.env := by rfl) : PA2 X (e :: es) (tCons te t) := by
  intro pos pins s σ H Q I hp h
  rw [hs]
  show wpAny _ _ (spliced ((false, eval e X.env) :: backTo pos (starEach es X.env))) _ _ s
  refine Calls.spliced_cons (thn (ha pins s σ H _ I hp h) fun u s1 ⟨⟨x, H1, I1, r1, q1⟩, k1, p1⟩ => ?_)
  exact thn (hr pos pins s1 σ H1 _ I1 p1 q1) fun us s2 ⟨⟨xs, H2, I2, r2, q2⟩, k2, p2⟩ => ⟨⟨x :: xs, H2, I2, .cons r1 r2, q2⟩, fun u hu => by
    rcases List.mem_cons.mp hu with rfl | hu
    · exact k1
    · exact k2 u hu, p2⟩
theorem pss_one1 {st : Stmt} (h1 : PS1 X st ts) : PSs1 X [st] ts := by
  intro pins s σ H D I hp h
  refine wpAny_execs_cons (thn (h1 pins s σ H D I hp h) fun f s1 q => ?_)
  cases f with
  | next => exact wpAny_execs_nil q
  | brk => exact q
  | cont => exact q
  | ret u => exact q
theorem ps_ret1 (he : PE1 X e te) : PS1 X (.Return (some e) pos) (tRet te) := by
  intro pins s σ H D I hp h
  exact wpAny_Return_some (thn (he pins s σ H _ I hp h) fun v s1 ⟨x, H1, I1, r1, q1⟩ => ⟨x, σ, H1, I1, r1, q1⟩)
theorem ps_if1 {a : Expr} {ta tb : TE} {op : CmpOp} {r : R2} {c : Int} {j : Nat} {p1 p2 : Pos} {sa sb : List Stmt} (ho : OpR X (compareOp op) r) (ha : PE X a ta) (hC : ∀ σ H Q, tb σ H Q → Q (.int c) H) (hm : behindInMarks op (.Constant (.int c) j p1) = false) (hA : PSs1 X sa ts) (hB : PSs X sb us) :
    PS X (.If (.Compare a [op] [.Constant (.int c) j p1] p2) sa sb pos) (tIfS (tTest (tOp r ta tb)) ts us) := by
  intro pins s σ H D I h
  refine wpAny_If (wpAny_isTrue_Compare1 (thn (ha pins s σ H _ I h) fun v s1 ⟨x, H1, I1, r1, q1⟩ => wpAny_Constant_int (wpAny_with_toks (n := 1) (Nat.succ_le_succ (Nat.zero_le _)) (wpAny_mono (ho pins _ σ H1 x (.int c) v _ _ (I1.tok _) r1 ⟨_, rfl⟩ (hC _ _ _ q1)) (fun b s3 ⟨z, H3, I3, r3, k, e, q3⟩ hp => ?_) fun _ _ h _ => h))) hm)
  subst e
  cases r3
  refine wpAny_truthy_bool ?_
  cases k with
  | true => exact hA pins s3 σ H3 D I3 hp q3
  | false => exact hB pins s3 σ H3 D I3 q3
def tIxW (t : TA) (tb : TE) : TE := fun σ H Q => t σ H fun xs H1 => xs.length ≤ sizeLine ∧ tb σ H1 fun y H2 => ∃ (i : Nat) (v : V), y = .int (i : Int) ∧ xs[i]? = some v ∧ Q v H2
theorem pe2_ixw {b : Expr} {tb : TE} {p1 : Pos} (ha : PA2 X es t) (hb : PE X b tb) (hs : PlainIx b) : PE2 X (.Subscript (.List es p1) b pos) (tIxW t tb) := by
  intro pins s σ H Q I hp h
  refine PyProof.Rows.Subscript_ (wpAny_List_spliced (thn (ha p1 pins s σ H _ I hp h) fun us s1 ⟨⟨xs, H1, I1, r1, z1, q1⟩, k1, p1'⟩ => ⟨by rw [← r1.length]; exact z1, ?_⟩))
  have hf : H1 s1.heap.objs.size = none := I1.hok.fresh (Nat.le_refl _)
  have I2 : Inv X pins σ H1 { s1 with heap := s1.heap.push { cls := .type "list", data := .seq us.toArray } } := I1.kept (t' := s1.toks) fun b u e => Heap.get?_push_of_some _ e
  have I3 : Inv X (pins ++ [(s1.heap.objs.size, { cls := .type "list", data := .seq us.toArray })]) σ H1 { s1 with heap := s1.heap.push { cls := .type "list", data := .seq us.toArray } } := I2.pins_of fun p hp => by
    rcases List.mem_append.mp hp with hp | hp
    · exact I2.pin p (List.mem_append_right _ hp)
    · rw [List.mem_singleton.mp hp]
      exact ⟨Heap.get?_push_size _ rfl, hf, (Nat.ne_of_lt I1.lt).symm, I1.nofs (Nat.le_refl _), fun v e => (nomatch e)⟩
  refine wpAny_with_toks (n := 1) p1' (wpAny_mono (hb _ _ σ H1 _ I3 q1) (fun w s4 ⟨y, H4, I4, r4, i, v, e, hv, q4⟩ hp4 => ?_) fun _ _ h _ => h)
  subst e
  obtain ⟨t4, rfl⟩ := r4
  obtain ⟨g1, _⟩ := I4.pin (s1.heap.objs.size, { cls := .type "list", data := .seq us.toArray }) (List.mem_append_right _ (List.mem_append_right _ List.mem_cons_self))
  obtain ⟨u, hu, ru⟩ := r1.get hv
  have hi : i < xs.length := by
    rcases Nat.lt_or_ge i xs.length with h | h
    · exact h
    · rw [List.getElem?_eq_none h] at hv; cases hv
  have hn := line63
  exact PyProof.Rows.item_listR (show s4.heap.IsList s1.heap.objs.size us.toArray from ⟨_, g1, rfl, _, rfl⟩) (Int.natCast_nonneg i) (by omega) (by rw [Int.toNat_natCast]; simpa using hu) ⟨⟨v, H4, I4.unpinned, ru, q4⟩, k1 u (List.mem_of_getElem? hu), hp4⟩ (hs _ _)
def tRepl (K : PySem.W.Frag) (to : TE) (t : TA) : TE := fun σ H Q => to σ H fun x H1 => tyV K "str" x H1 ∧ t σ H1 fun vs H2 => ∃ x0 y z, x = .str x0 ∧ vs = [.str y, .str z, .int 1] ∧ (y == z) = false ∧ x0.length + z.length ≤ 16777216 ∧ ∀ x', x'.length ≤ x0.length + z.length → Q (.str x') H2
theorem pe1_repl (ho : PE X o to) (ha : PA2 X (e :: es) t)
    (hbase : attributeBase o "replace" X.env (eval o X.env) = eval o X.env := by rfl)
    (hfew : ((backTo cpos (starEach (e :: es) X.env)).all (fun x => !x.1) && (backToKw cpos (keywordEach [] X.env)).all (fun x => x.1.isSome)
      && decide ((e :: es).length + ([] : List Keyword).length + (if ([] : List Keyword).isEmpty then 0 else 1) < 30)) = true := by rfl)
    (hline : (apos.endLine == cpos.line) = true := by rfl) (hs : starEach (e :: es) X.env = (false, eval e X.env) :: starEach es X.env := by rfl) (hplain : (backTo cpos (starEach es X.env)).any (·.1) = false := by rfl) :
    PE1 X (.Call (.Attribute o "replace" apos) (e :: es) [] cpos) (tRepl X.K to t) := by
  intro pins s σ H Q I hp h
  refine wpAny_Call_method_late hbase hfew hline rfl (wpAny_with_toks (n := 1) hp (wpAny_mono (ho pins s σ H _ I h) (fun v s1 ⟨x, H1, I1, r1, ty, q1⟩ hp1 => ?_) fun _ _ h _ => h))
  obtain ⟨h1, h2⟩ := tyV_is I1 r1 ty
  refine ⟨"str", "str.replace", PySem.F.plainAttrs_str, PySem.F.slot_str_replace, PySem.F.type_str_replace, h1, h2, ?_⟩
  have hA := ha cpos pins s1 σ H1 _ I1 hp1 q1
  rw [hs] at hA ⊢
  refine Calls.callWith_builtin (by show (false || (backTo cpos (starEach es X.env)).any (·.1)) = false; rw [hplain] <;> rfl) (Calls.evalArgs_plain ?_)
  refine thn hA fun us s2 ⟨⟨vs, H2, I2, r2, x0, y, z, ex, ev, hyz, hl, q2⟩, k2, p2⟩ => ?_
  subst ex
  subst ev
  obtain ⟨t0, rfl⟩ := r1
  cases r2 with
  | cons ra r2 => cases r2 with
    | cons rb r2 => cases r2 with
      | cons rc r2 =>
        cases r2
        obtain ⟨ta, rfl⟩ := ra
        obtain ⟨tb, rfl⟩ := rb
        obtain ⟨tc, rfl⟩ := rc
        exact call_repl1 (k2 _ List.mem_cons_self y ta rfl) (k2 _ (List.mem_cons_of_mem _ List.mem_cons_self) z tb rfl) hyz hl fun x' t' k' hx' => ⟨.str x', H2, I2.tok _, ⟨_, rfl⟩, q2 x' hx'⟩
end
end L2

namespace L2
open PySem PySem.Spec PyProof.Rows
theorem PE2.weak {X : Cx} {e : Expr} {t t' : TE} (h : PE2 X e t) (w : ∀ σ H Q, t' σ H Q → t σ H Q) : PE2 X e t' := fun pins s σ H Q I hp q => h pins s σ H Q I hp (w σ H Q q)
theorem PE1.weak {X : Cx} {e : Expr} {t t' : TE} (h : PE1 X e t) (w : ∀ σ H Q, t' σ H Q → t σ H Q) : PE1 X e t' := fun pins s σ H Q I hp q => h pins s σ H Q I hp (w σ H Q q)
theorem PS1.weak {X : Cx} {st : Stmt} {t t' : TS} (h : PS1 X st t) (w : ∀ D σ H, t' D σ H → t D σ H) : PS1 X st t' := fun pins s σ H D I hp q => h pins s σ H D I hp (w D σ H q)
end L2
namespace Lf
open PySem L2
def tStrs (zs : List Str) : TA := fun _ H Q => Q (zs.map V.str) H
def XE2 (X : Cx) (Ex : ExT) (e : Expr) (t : XT) : Prop := ∀ F, [OkF X Ex F] → PE2 X e (tX F t)
def XE1 (X : Cx) (Ex : ExT) (e : Expr) (t : XT) : Prop := ∀ F, [OkF X Ex F] → PE1 X e (tX F t)
def XSt1 (X : Cx) (Ex : ExT) (st : Stmt) (G : XS) : Prop := ∀ F, [OkF X Ex F] → PS1 X st (tXS F G)
def XSs1 (X : Cx) (Ex : ExT) (st : List Stmt) (G : XS) : Prop := ∀ F, [OkF X Ex F] → PSs1 X st (tXS F G)
section
variable {X : Cx} {Ex : ExT} {e o b : Expr} {es : List Expr} {to t tb : XT} {apos cpos pos p1 p2 : Pos} {z y : Str} {zs : List Str} {j : Nat} {G K : XS}
theorem xa2_nil : PA2 X [] (tStrs []) := pa2_nil
theorem xa2_cons (h : PA2 X es (tStrs zs)) (hs : starEach (.Constant (.str z) j pos :: es) X.env = (false, eval (.Constant (.str z) j pos) X.env) :: starEach es X.env := by rfl) : PA2 X (.Constant (.str z) j pos :: es) (tStrs (z :: zs)) := pa2_cons pe2_str h hs
theorem xe2_str : XE2 X Ex (.Constant (.str z) j pos) (xC (.str z)) := fun F => pe2_str.weak fun σ H Q => by
  rintro ⟨ρ, fr, Qx, E, q, k⟩
  exact k _ _ H ρ (EOk.back E.len (E.rep.add (IsX.of_str z))) q
def xIxW (zs : List Str) (tb : XT) : XT := fun ρ Q => tb ρ fun s ρ' => ∃ (i : Nat) (z : Str), s.d = .int (i : Int) ∧ zs[i]? = some z ∧ Q (.tr (.str z)) ρ'
theorem xe2_ixw (ha : PA2 X es (tStrs zs)) (hl : zs.length ≤ 1000000) (hb : XE X Ex b tb) (hs : PlainIx b) : XE2 X Ex (.Subscript (.List es p1) b pos) (xIxW zs tb) := fun F => (pe2_ixw ha (hb F) hs).weak fun σ H Q => by
  rintro ⟨ρ, fr, Qx, E, q, k⟩
  refine ⟨by rw [List.length_map]; exact Nat.le_trans hl (by rw [sizeLine_eq]; decide), ρ, fr, _, E, q, fun v s H' ρ' E' q' => ?_⟩
  obtain ⟨i, z, hi, hz, q'⟩ := q'
  obtain ⟨R, hx⟩ := E'.one
  rw [hi] at hx
  cases hx.int_eq
  exact ⟨i, .str z, rfl, by rw [List.getElem?_map, hz]; rfl, k _ _ H' ρ' (EOk.back E'.len (R.add (IsX.of_str z))) q'⟩
def xRepl (y : Str) (to t : XT) : XT := fun ρ Q => to ρ fun o ρ1 => (∃ x, o.d = .str x) ∧ t ρ1 fun z ρ2 => ∃ x z', o.d = .str x ∧ z.d = .str z' ∧ (y == z') = false ∧ x.length + z'.length ≤ 16777216 ∧ ∀ x' : Str, x'.length ≤ x.length + z'.length → Q (.tr (.str x')) ρ2
theorem xe1_repl {j2 : Nat} {p3 : Pos} (ho : XE X Ex o to) (h : XE2 X Ex e t)
    (hbase : attributeBase o "replace" X.env (eval o X.env) = eval o X.env := by rfl)
    (hfew : ((backTo cpos (starEach [.Constant (.str y) j pos, e, .Constant (.int 1) j2 p3] X.env)).all (fun x => !x.1) && (backToKw cpos (keywordEach [] X.env)).all (fun x => x.1.isSome)
      && decide ([Expr.Constant (.str y) j pos, e, .Constant (.int 1) j2 p3].length + ([] : List Keyword).length + (if ([] : List Keyword).isEmpty then 0 else 1) < 30)) = true := by rfl)
    (hline : (apos.endLine == cpos.line) = true := by rfl) (hs : starEach [.Constant (.str y) j pos, e, .Constant (.int 1) j2 p3] X.env = (false, eval (.Constant (.str y) j pos) X.env) :: starEach [e, .Constant (.int 1) j2 p3] X.env := by rfl) (hs2 : starEach [e, .Constant (.int 1) j2 p3] X.env = (false, eval e X.env) :: starEach [.Constant (.int 1) j2 p3] X.env := by rfl) (hs3 : starEach [.Constant (.int 1) j2 p3] X.env = (false, eval (.Constant (.int 1) j2 p3) X.env) :: starEach [] X.env := by rfl) (hplain : (backTo cpos (starEach [e, .Constant (.int 1) j2 p3] X.env)).any (·.1) = false := by rfl) :
    XE1 X Ex (.Call (.Attribute o "replace" apos) [.Constant (.str y) j pos, e, .Constant (.int 1) j2 p3] [] cpos) (xRepl y to t) := fun F =>
  (pe1_repl (ho F) (pa2_cons pe2_str (pa2_cons (h F) (pa2_cons pe2_int pa2_nil hs3) hs2) hs) hbase hfew hline hs hplain).weak fun σ H Q => by
    rintro ⟨ρ, fr, Qx, E, q, k⟩
    refine ⟨ρ, fr, _, E, q, fun v s H' ρ' E' q' => ?_⟩
    obtain ⟨⟨x, hx⟩, q'⟩ := q'
    obtain ⟨R, hd⟩ := E'.one
    rw [hx] at hd
    cases hd.str_eq
    refine ⟨rfl, ρ', _, _, E'.drop, q', fun u s2 H2 ρ2 E2 q2 => ?_⟩
    obtain ⟨x2, z', e1, e2, hyz, hl, q2⟩ := q2
    rw [hx] at e1
    cases e1
    obtain ⟨R2, hx2⟩ := E2.one
    rw [e2] at hx2
    cases hx2.str_eq
    exact ⟨x, y, z', rfl, rfl, hyz, hl, fun x' hx' => k _ _ H2 ρ2 (EOk.back E2.len (R2.add (IsX.of_str x'))) (q2 x' hx')⟩
theorem xs_ret1 (he : XE1 X Ex e t) : XSt1 X Ex (.Return (some e) pos) (xRet t) := fun F => (ps_ret1 (he F)).weak fun D σ H => by
  rintro ⟨ρ, fr, d, E, q, k⟩
  exact ⟨ρ, fr, _, E, q, fun v s H' ρ' E' q' => k.rt v s σ H' ρ' rfl E' q'⟩
theorem xss_one1 {st : Stmt} (h : XSt1 X Ex st G) : XSs1 X Ex [st] G := fun F => pss_one1 (h F)
theorem xs_if1 {a : Expr} {ta : XT} {op : CmpOp} {r : R2} {g : G2} {c : Int} {sa sb : List Stmt} (ho : OpR X (compareOp op) r) (hx : OpX r g) (ha : XE X Ex a ta) (hm : behindInMarks op (.Constant (.int c) j p1) = false) (hA : XSs1 X Ex sa G) (hB : XSs X Ex sb K) :
    XSt X Ex (.If (.Compare a [op] [.Constant (.int c) j p1] p2) sa sb pos) (xIf (xB (xOp g ta (xC (.int c)))) G K) := fun F => (ps_if1 (tb := tX F (xC (.int c))) ho (ha F) (fun σ H Q => by
      rintro ⟨ρ, fr, Qx, E, q, k⟩
      exact k _ _ H ρ (EOk.back E.len (E.rep.add (IsX.of_int c))) q) hm (hA F) (hB F)).weak fun D σ H => by
  rintro ⟨ρ, fr, d, E, q, k⟩
  refine tTest_x (tOp_x hx) _ _ _ ⟨ρ, fr, _, E, q, fun b H' ρ' E' q' => ?_⟩
  cases b with
  | true => exact ⟨ρ', fr, d, E', q', k⟩
  | false => exact ⟨ρ', fr, d, E', q', k⟩
end
end Lf
namespace Lf
open PySem L2
theorem xss_no {X : Cx} {Ex : ExT} {sts : List Stmt} : XSs X Ex sts xNo := fun F => PSs.weak (pss_never (X := X)) fun D σ H => by
  rintro ⟨ρ, fr, d, E, q, k⟩
  exact q
end Lf

set_option maxHeartbeats 4000000
namespace Lf
open PySem L2
def top (i : Nat) : Stmt := PySem.Challenge.pw_laidfields_k48_bytes_written_and_read.main.body.getD i (.Pass ⟨0, 0, 0, 0⟩)
abbrev s_is_whole : Stmt := top 9
abbrev s_are_bytes : Stmt := top 12
abbrev s_is_byte : Stmt := top 13
abbrev s_show_bytes : Stmt := top 17
abbrev s_read_bytes : Stmt := top 18
abbrev s_read_byte : Stmt := top 19
abbrev s_law_cell_at : Stmt := top 21
abbrev s_law_numbers : Stmt := top 22
abbrev s_law_take : Stmt := top 24
abbrev s_law_alike : Stmt := top 25
abbrev s_law_asked : Stmt := top 26
abbrev s_law_bytes_written : Stmt := top 27
abbrev s_law_read : Stmt := top 28
abbrev s_law_changed : Stmt := top 29
abbrev s_law : Stmt := top 30
theorem sc_is_whole : FnScope ["thing"] ["thing"] (defScope s_is_whole) := ⟨rfl, rfl, rfl, by decide +kernel, rfl, by decide +kernel, by decide +kernel⟩
theorem sc_are_bytes : FnScope ["thing", "how_many"] ["thing", "how_many"] (defScope s_are_bytes) := ⟨rfl, rfl, rfl, by decide +kernel, rfl, by decide +kernel, by decide +kernel⟩
theorem sc_is_byte : FnScope ["thing"] ["thing"] (defScope s_is_byte) := ⟨rfl, rfl, rfl, by decide +kernel, rfl, by decide +kernel, by decide +kernel⟩
theorem sc_show_bytes : FnScope ["thing"] ["thing"] (defScope s_show_bytes) := ⟨rfl, rfl, rfl, by decide +kernel, rfl, by decide +kernel, by decide +kernel⟩
theorem sc_read_bytes : FnScope ["text"] ["text"] (defScope s_read_bytes) := ⟨rfl, rfl, rfl, by decide +kernel, rfl, by decide +kernel, by decide +kernel⟩
theorem sc_read_byte : FnScope ["signs"] ["signs"] (defScope s_read_byte) := ⟨rfl, rfl, rfl, by decide +kernel, rfl, by decide +kernel, by decide +kernel⟩
theorem sc_law_cell_at : FnScope ["script", "k"] ["script", "k"] (defScope s_law_cell_at) := ⟨rfl, rfl, rfl, by decide +kernel, rfl, by decide +kernel, by decide +kernel⟩
theorem sc_law_numbers : FnScope ["cell", "many", "found", "rest", "stir", "k", "again"] ["cell", "many"] (defScope s_law_numbers) := ⟨rfl, rfl, rfl, by decide +kernel, rfl, by decide +kernel, by decide +kernel⟩
theorem sc_law_take : FnScope ["deck", "many"] ["deck", "many"] (defScope s_law_take) := ⟨rfl, rfl, rfl, by decide +kernel, rfl, by decide +kernel, by decide +kernel⟩
theorem sc_law_alike : FnScope ["found", "due"] ["found", "due"] (defScope s_law_alike) := ⟨rfl, rfl, rfl, by decide +kernel, rfl, by decide +kernel, by decide +kernel⟩
theorem sc_law_asked : FnScope ["text", "found", "caught", "e"] ["text"] (defScope s_law_asked) := ⟨rfl, rfl, rfl, by decide +kernel, rfl, by decide +kernel, by decide +kernel⟩
theorem sc_law_bytes_written : FnScope ["some", "found", "one"] ["some"] (defScope s_law_bytes_written) := ⟨rfl, rfl, rfl, by decide +kernel, rfl, by decide +kernel, by decide +kernel⟩
theorem sc_law_read : FnScope ["text", "found", "word"] ["text"] (defScope s_law_read) := ⟨rfl, rfl, rfl, by decide +kernel, rfl, by decide +kernel, by decide +kernel⟩
theorem sc_law_changed : FnScope ["text", "deck", "at", "sign", "way"] ["text", "deck"] (defScope s_law_changed) := ⟨rfl, rfl, rfl, by decide +kernel, rfl, by decide +kernel, by decide +kernel⟩
theorem sc_law : FnScope ["script", "k", "ways", "some", "text", "handed", "found", "way", "odd", "due", "word"] ["script"] (defScope s_law) := ⟨rfl, rfl, rfl, by decide +kernel, rfl, by decide +kernel, by decide +kernel⟩

theorem go_set {i : Nat} {t : XT} {K : XS} {ρ : En} {D : XD} (h : t ρ fun s ρ' => K (ρ'.set i (.v s)) D) : xSeq (xSet i t) K ρ D := h
theorem go_setL {i : Nat} {t : XT} {ρ : En} {D : XD} (h : t ρ fun s ρ' => D.nx (ρ'.set i (.v s))) : xSet i t ρ D := h
theorem go_var {i : Nat} {s : Sv} {ρ : En} {Q : Sv → En → Prop} (hi : ρ[i]? = some (.v s)) (h : Q (.tr s.d) (ρ.set i (.v (.tr s.d)))) : xVar i ρ Q := by
  unfold xVar
  rw [hi]
  exact h
theorem go_c1 {d : Dx} {ρ : En} {Q : Sv → En → Prop} (h : Q (.tr d) ρ) : xC d ρ Q := h
theorem go_call {g : GC} {u : XA} {ρ : En} {Q : Sv → En → Prop} (h : u ρ fun ss ρ' => g (ss.map Sv.d) fun s => Q s ρ') : xCall g u ρ Q := h
theorem go_cons {t : XT} {u : XA} {ρ : En} {Q : List Sv → En → Prop} (h : t ρ fun s ρ1 => u ρ1 fun ss ρ2 => Q (s :: ss) ρ2) : xCons t u ρ Q := h
theorem go_nil {ρ : En} {Q : List Sv → En → Prop} (h : Q [] ρ) : xNil ρ Q := h
theorem go_op {g : G2} {ta tb : XT} {ρ : En} {Q : Sv → En → Prop} (h : ta ρ fun a ρ1 => tb ρ1 fun b ρ2 => g a.d b.d fun s => Q s ρ2) : xOp g ta tb ρ Q := h
theorem go_skip {c : XC} {G K : XS} {ρ ρ' : En} {D : XD} (hc : ∀ Q : Bool → En → Prop, Q false ρ' → c ρ Q) (h : K ρ' D) : xSeq (xIf c G xNext) K ρ D := hc _ h
theorem go_ifB {c : XC} {G K : XS} {ρ ρ' : En} {D : XD} (b : Bool) (hc : ∀ Q : Bool → En → Prop, Q b ρ' → c ρ Q) (ht : b = true → G ρ' { D with nx := fun ρ => K ρ D }) (hf : b = false → K ρ' D) : xSeq (xIf c G xNext) K ρ D := by
  refine hc _ ?_
  cases b with
  | true => exact ht rfl
  | false => exact hf rfl
theorem go_or {c u : XC} {ρ : En} {Q : Bool → En → Prop} (h : c ρ fun b ρ1 => if b = true then Q true ρ1 else u ρ1 Q) : xOr c u ρ Q := h
theorem go_not {c : XC} {ρ : En} {Q : Bool → En → Prop} (h : c ρ fun b ρ1 => Q (!b) ρ1) : xNot c ρ Q := h
theorem go_b {t : XT} {ρ : En} {Q : Bool → En → Prop} (h : t ρ fun s ρ' => match s with
  | .tr (.bl b) => Q b ρ'
  | _ => False) : xB t ρ Q := h
theorem go_ret {t : XT} {ρ : En} {D : XD} (h : t ρ fun s ρ' => D.rt s ρ') : xRet t ρ D := h
theorem go_lst {u : XA} {ρ : En} {Q : Sv → En → Prop} (h : u ρ fun ss ρ' => ss.length ≤ 1000000 ∧ Q (.ol (ss.map Sv.d)) ρ') : xLst u ρ Q := h
theorem go_isK {f : Dx → Option Bool} {i : Nat} {d : Dx} {b : Bool} {ρ : En} {Q : Sv → En → Prop} (hi : ρ[i]? = some (.v (.tr d))) (e : f d = some b) (q : Q (.tr (.bl b)) ρ) : xIsK f (xVar i) ρ Q := by
  unfold xIsK xVar
  rw [hi]
  show match f d with | some b => Q (.tr (.bl b)) (ρ.set i (.v (.tr d))) | none => False
  rw [e]
  have e2 : ρ.set i (.v (.tr d)) = ρ := by
    obtain ⟨h1, h2⟩ := List.getElem?_eq_some_iff.mp hi
    rw [← h2, List.set_getElem_self]
  rw [e2]
  exact q
theorem len1 {α : Type} {a : α} : [a].length ≤ 1000000 := by show 1 ≤ 1000000; decide
theorem len2 {α : Type} {a b : α} : [a, b].length ≤ 1000000 := by show 2 ≤ 1000000; decide
theorem lenA {n : Nat} (h : n ≤ 1000000) : n ≤ 1000000 := h
theorem ixX_in {l : List Dx} {r : Int} {Q : Sv → Prop} (h0 : 0 ≤ r) (h1 : r < l.length) (q : ∀ d ∈ l, Q (.tr d)) : ixX (.lst l) (.int r) Q := by
  obtain ⟨x, hx, hm⟩ := atI_of h0 h1
  show (match atI l r with | some d => Q (.tr d) | none => False)
  rw [hx]
  exact q x (List.mem_of_getElem? hm)
theorem go_ifE {c : XC} {G K : XS} {ρ ρ' : En} {D : XD} (b : Bool) (hc : ∀ Q : Bool → En → Prop, Q b ρ' → c ρ Q) (ht : b = true → G ρ' D) (hf : b = false → K ρ' D) : xIf c G K ρ D := by
  refine hc _ ?_
  cases b with
  | true => exact ht rfl
  | false => exact hf rfl

def NumsX (l : List Dx) : Prop := ∃ xs : List Int, l = xs.map Dx.int ∧ ∀ x ∈ xs, 0 ≤ x
def gCA (K : PySem.W.Frag) : GC := fun ds Q => ∃ (ns : List Int) (k : Int), ds = [.scr K ns, .int k] ∧ 0 ≤ k ∧ ∀ c : Int, Q (.tr (.int c))
def gNU : GC := fun ds Q => ∃ (c m : Int), ds = [.int c, .int m] ∧ 0 ≤ m ∧ m ≤ 100 ∧ ∀ xs : List Int, (xs.length : Int) = m → (∀ x ∈ xs, 0 ≤ x ∧ x < 720720) → Q (.ol (xs.map Dx.int))
def gTK : GB := fun l ds Q => ∃ many : Int, ds = [.int many] ∧ NumsX l ∧ 0 < many ∧ ∀ (r : Int) (l' : List Dx), 0 ≤ r → r < many → NumsX l' → Q (.int r) l'
section
variable {P : Program} {w : World} {K : PySem.W.Frag} {mg : Str → Option Value} {base : Heap} {f : Addr} {fd : FuncData}
theorem okx_ca (F : Fun K "_law_cell_at" "_law_cell_at" s_law_cell_at f fd) (m_len : mg "len" = none) : FnOk P w K mg base CX0 1 f fd ["script", "k"] (spX (gCA K)) := by
  refine fn_x F sc_law_cell_at (fun ds Q h => by obtain ⟨ns, k, rfl, _⟩ := h; rfl) (by decide) fun cdv A outer s H E hr => ?_
  have hu1 := hu_of hr
  have hu0 := Nat.lt_of_succ_lt hu1
  refine ⟨_, (xss_cons (xs_if (xt_cmp op_lt ox_lt (xe_var (pv 1)) (xe_callB (call_lenA K) cx_lenZ (by rfl) m_len PySem.boot_len (xa_cons (xe_var (pv 0)) xa_nil)) (nomark _)) (xss_one (xs_ret (xe_ixZ K (xe_var (pv 0)) (xe_var (pv 1)) (fun _ _ => rfl)))) xss_nil)
    (xss_one (xs_ret xe_int))), fun ds Q h => ?_⟩
  obtain ⟨ns, k, rfl, h0, q⟩ := h
  refine ⟨rfl, ?_⟩
  refine ite2 (fun c => ?_) (fun c => q 0)
  have c' := of_decide_eq_true c
  obtain ⟨v, hv, _⟩ := atI_of (l := ns) h0 c'
  refine ⟨rfl, ?_⟩
  rw [hv]
  exact q v
theorem okx_nu (F : Fun K "_law_numbers" "_law_numbers" s_law_numbers f fd) (m_range : mg "range" = none) : FnOk P w K mg base CX0 1 f fd ["cell", "many"] (spX gNU) := by
  refine fn_x F sc_law_numbers (fun ds Q h => by obtain ⟨ns, k, rfl, _⟩ := h; rfl) (by decide) fun cdv A outer s H E hr => ?_
  have hu1 := hu_of hr
  have hu0 := Nat.lt_of_succ_lt hu1
  refine ⟨_, (xss_cons (xs_setP fun F => ps_set (i := 2) sc_law_numbers.nd rfl (Or.inl rfl) (XE.at (Ex := noEx) F (xe_lst xa_nil)))
    (xss_cons (xs_setP fun F => ps_set (i := 3) sc_law_numbers.nd rfl (Or.inl rfl) (XE.at (Ex := noEx) F (xe_var (pv 0))))
    (xss_cons (xs_setP fun F => ps_set (i := 4) sc_law_numbers.nd rfl (Or.inl rfl) (XE.at (Ex := noEx) F (xe_mod (xe_var (pv 0)) xe_int)))
    (xss_cons (xs_for PassesOwn.never rfl (xi_range1 m_range (xa_cons (xe_var (pv 1)) xa_nil)) (pg_name (i := 5) sc_law_numbers.nd rfl (Or.inl rfl)) (gx_name (n := 99) (i := 5) (by decide)) (xss_one (xs_if (XW.pt (xw_and (xt_cmp op_ge ox_ge (xe_var (pv 0)) (xe_pow xe_int xe_int) (nomark _)) (xw_and1 (xt_cmp op_gt ox_gt (xe_var (pv 3)) xe_int (nomark _))))) (xss_cons (xs_of fun F => PS.weak (ps_expr (pe_bm PySem.F.plainAttrs_list PySem.F.slot_list_append PySem.F.type_list_append mt_append (pv 2) (pa_cons (XE.at (Ex := noEx) F (xe_mod (xe_var (pv 3)) xe_int)) pa_nil))) tApp_x)
    (xss_one (xs_setP fun F => ps_set (i := 3) sc_law_numbers.nd rfl (Or.inl rfl) (XE.at (Ex := noEx) F (xe_fdiv (xe_var (pv 3)) xe_int))))) (xss_cons (xs_setP fun F => ps_set (i := 4) sc_law_numbers.nd rfl (Or.inl rfl) (XE.at (Ex := noEx) F (xe_mod (xe_mul (xe_add (xe_add (xe_var (pv 4)) (xe_mul xe_int (xe_var (pv 5)))) xe_int) xe_int) xe_int)))
    (xss_cons (xs_setP fun F => ps_set (i := 6) sc_law_numbers.nd rfl (Or.inl rfl) (XE.at (Ex := noEx) F (xe_mod (xe_mul (xe_mod (xe_mul (xe_var (pv 4)) (xe_var (pv 4))) xe_int) xe_int) xe_int)))
    (xss_one (xs_of fun F => PS.weak (ps_expr (pe_bm PySem.F.plainAttrs_list PySem.F.slot_list_append PySem.F.type_list_append mt_append (pv 2) (pa_cons (XE.at (Ex := noEx) F (xe_mod (xe_fdiv (xe_var (pv 6)) xe_int) xe_int)) pa_nil))) tApp_x)))))))
    (xss_one (xs_ret (xe_move (pv 2)))))))), fun ds Q h => ?_⟩
  obtain ⟨c, m, rfl, m0, m1, q⟩ := h
  have cp : CPow 10 18 := ⟨by decide, by decide, by decide⟩
  refine ⟨Nat.zero_le _, ?_⟩
  dsimp only
  refine ⟨by show (0 : Int) < 2147483647; decide, ?_⟩
  dsimp only
  change xSeq _ _ [.v (.tr (.int c)), .v (.tr (.int m)), .v (.ol []), .v (.tr (.int c)), .v (.tr (.int (c % 2147483647))), .un, .un] _
  refine xSeq_nx (fun ρ => ∃ (xs : List Int) (y3 y4 y5 y6 : Sl), (xs.length : Int) = m ∧ (∀ x ∈ xs, 0 ≤ x ∧ x < 720720) ∧ ρ = [.v (.tr (.int c)), .v (.tr (.int m)), .v (.ol (xs.map Dx.int)), y3, y4, y5, y6]) ?_ (fun nx hnx => ?_)
  · rintro ρ ⟨xs, y3, y4, y5, y6, hl, hx, rfl⟩
    exact q xs hl hx
  refine ⟨⟨by omega, by omega⟩, ?_⟩
  refine forX_map (fun k : Nat => Dx.int (0 + (k : Int))) (fun rest ρ => ∃ (xs : List Int) (re st : Int) (y5 y6 : Sl), ((xs.length + rest.length : Nat) : Int) = m ∧ (∀ x ∈ xs, 0 ≤ x ∧ x < 720720) ∧ (∀ k ∈ rest, k < 100) ∧ 0 ≤ st ∧ st < 2147483647 ∧ ρ = [.v (.tr (.int c)), .v (.tr (.int m)), .v (.ol (xs.map Dx.int)), .v (.tr (.int re)), .v (.tr (.int st)), y5, y6]) (fun ρ h => ?_) (fun k rest ρ Kn h hk => ?_) ⟨[], c, c % 2147483647, .un, .un, by rw [List.length_range, List.length_nil]; omega, fun x hx => absurd hx List.not_mem_nil, fun k hk => by have := List.mem_range.mp hk; omega, Int.emod_nonneg _ (by decide), Int.emod_lt_of_pos _ (by decide), rfl⟩
  · obtain ⟨xs, re, st, y5, y6, hl, hx, _, _, _, rfl⟩ := h
    exact hnx _ ⟨xs, _, _, _, _, hl, hx, rfl⟩
  obtain ⟨xs, re, st, y5, y6, hl, hx, hr100, hs0, hs1, rfl⟩ := h
  have hk100 := hr100 k List.mem_cons_self
  have hx6 : (xs.map Dx.int).length < 1000000 := by rw [List.length_map]; omega
  have fin : ∀ (x re' st' : Int) (y6 : Sl), 0 ≤ x ∧ x < 720720 → 0 ≤ st' → st' < 2147483647 → Kn [.v (.tr (.int c)), .v (.tr (.int m)), .v (.ol (xs.map Dx.int ++ [.int x])), .v (.tr (.int re')), .v (.tr (.int st')), .v (.tr (.int (0 + (k : Int)))), y6] := fun x re' st' y6 h0 h1 h2 => by
    refine hk _ ⟨xs ++ [x], re', st', _, _, by rw [List.length_append, List.length_singleton]; rw [List.length_cons] at hl; omega, fun z hz => ?_, fun k' hk' => hr100 k' (List.mem_cons_of_mem _ hk'), h1, h2, by rw [List.map_append]; rfl⟩
    rcases List.mem_append.mp hz with hz | hz
    · exact hx z hz
    · rw [List.mem_singleton.mp hz]; exact h0
  refine go_ifE (decide ((10 : Int) ^ 18 ≤ c) && decide (0 < re)) (ρ' := [.v (.tr (.int c)), .v (.tr (.int m)), .v (.ol (xs.map Dx.int)), .v (.tr (.int re)), .v (.tr (.int st)), .v (.tr (.int (0 + (k : Int)))), y6]) (fun Q q => ?_) (fun _ => ?_) (fun _ => ?_)
  · refine ⟨cp, ?_⟩
    refine ite2 (fun h => ?_) (fun h => ?_)
    · have h' : decide ((10 : Int) ^ 18 ≤ c) = true := h
      rw [h', Bool.true_and] at q
      exact q
    · have h' : decide ((10 : Int) ^ 18 ≤ c) = false := Bool.not_eq_true _ ▸ h
      rw [h', Bool.false_and] at q
      exact q
  · refine ⟨rfl, by show (0 : Int) < 64; decide, ?_⟩
    dsimp only
    refine ⟨hx6, ?_⟩
    refine go_setL ⟨by show CDivB re 64; exact ⟨by decide, by decide⟩, ?_⟩
    exact fin (re % 64) _ _ _ ⟨Int.emod_nonneg _ (by decide), by have := Int.emod_lt_of_pos re (show (0 : Int) < 64 by decide); omega⟩ hs0 hs1
  · refine ⟨⟨by decide, by omega⟩, ⟨by omega, by decide⟩, by show (0 : Int) < 2147483647; decide, ?_⟩
    dsimp only
    have a0 : (0 : Int) ≤ (st + 7 * (0 + (k : Int)) + 3) * 48271 % 2147483647 := Int.emod_nonneg _ (by decide)
    have a1 : (st + 7 * (0 + (k : Int)) + 3) * 48271 % 2147483647 < 2147483647 := Int.emod_lt_of_pos _ (by decide)
    generalize (st + 7 * (0 + (k : Int)) + 3) * 48271 % 2147483647 = S at a0 a1 ⊢
    have b0 : (0 : Int) ≤ S * S % 2147483629 := Int.emod_nonneg _ (by decide)
    have b1 : S * S % 2147483629 < 2147483629 := Int.emod_lt_of_pos _ (by decide)
    refine ⟨⟨by omega, by omega⟩, by show (0 : Int) < 2147483629; decide, ⟨by show (S * S % 2147483629).natAbs < 2 ^ 250; omega, by decide⟩, by show (0 : Int) < 2147483587; decide, ?_⟩
    refine ⟨rfl, ⟨by decide, by decide⟩, by show (0 : Int) < 720720; decide, hx6, ?_⟩
    exact fin _ _ _ _ ⟨Int.emod_nonneg _ (by decide), Int.emod_lt_of_pos _ (by decide)⟩ a0 a1
set_option maxHeartbeats 16000000 in
theorem okx_take (F : Fun K "_law_take" "_law_take" s_law_take f fd) : FnOk P w K mg base CX0 1 f fd ["deck", "many"] (spB gTK) := by
  refine fn_b F sc_law_take (fun l ds Q h => by obtain ⟨m, rfl, _⟩ := h; rfl) (by decide) fun cdv A outer s H E hr => ?_
  have hu0 := Nat.lt_of_succ_lt (hu_of hr)
  refine ⟨_, (xss_cons (xs_if (xt_pkEq K hu0 (pv 0) (xe_lst xa_nil) (nomark _)) (xss_one (xs_ret xe_int)) xss_nil)
    (xss_one (xs_ret (xe_mod (fun F => PE.weak (pe_bm0 PySem.F.plainAttrs_list PySem.F.slot_list_pop PySem.F.type_list_pop mt_pop (pv 0)) tPop_x) (xe_var (pv 1)))))), fun l ds Q h => ?_⟩
  obtain ⟨many, rfl, ⟨xs, rfl, hx⟩, h2, q⟩ := h
  by_cases e : xs = []
  · subst e
    exact ⟨rfl, Nat.zero_le _, q 0 [] (by decide) h2 ⟨[], rfl, hx⟩⟩
  · have hemp : (xs.map Dx.int).isEmpty = false := by cases xs <;> first | rfl | exact absurd rfl e
    refine go_skip (ρ' := [.bw (xs.map Dx.int), .v (.tr (.int many))]) (fun Q q => ?_) ?_
    · refine ⟨rfl, Nat.zero_le _, ?_⟩
      show Q (xs.map Dx.int).isEmpty _
      rw [hemp]
      exact q
    · show match (xs.map Dx.int).getLast? with | some d => _ | none => False
      rw [List.getLast?_map, List.getLast?_eq_getLast e]
      refine ⟨h2, q _ _ (Int.emod_nonneg _ (by omega)) (Int.emod_lt_of_pos _ h2) ⟨xs.dropLast, by rw [List.map_dropLast], fun x hm => hx x ((List.dropLast_sublist xs).subset hm)⟩⟩
end

def codes (x : Str) : List Nat := x.cps.toList
theorem codes_len (x : Str) : x.length = (codes x).length := by simp [codes, Str.length]
theorem codes_app (x y : Str) : codes (x ++ y) = codes x ++ codes y := by
  show (x.cps ++ y.cps).toList = _
  rw [Array.toList_append]
  rfl
theorem codes_inj {x y : Str} (h : codes x = codes y) : x = y := by
  obtain ⟨a⟩ := x
  obtain ⟨b⟩ := y
  have : a = b := Array.ext' h
  rw [this]
theorem len_app (x y : Str) : (x ++ y).length = x.length + y.length := by rw [codes_len, codes_app, List.length_append, codes_len x, codes_len y]
theorem codes_from {x : Str} {k : Int} (h0 : 0 ≤ k) (h1 : k ≤ (codes x).length) : codes (Txt.slice x (some k) none) = (codes x).drop k.toNat := by
  rw [PyProof.Rows.slice_from_eq (x := x) (b := x.length) h0 (by rw [codes_len]; exact h1) rfl]
  show (((x.cps.toList.drop k.toNat).take ((x.length : Int) - k).toNat).toArray).toList = _
  rw [List.toList_toArray, List.take_of_length_le]
  · rfl
  · rw [List.length_drop, codes_len]
    show x.cps.toList.length - k.toNat ≤ (((codes x).length : Int) - k).toNat
    show (codes x).length - k.toNat ≤ (((codes x).length : Int) - k).toNat
    omega
abbrev hexS : Str := "0123456789abcdef"
abbrev dashS : Str := "-"
abbrev blankS : Str := " "
def hxc (n : Nat) : Nat := (codes hexS).getD n 0
theorem hex_codes : (codes hexS).length = 16 := by decide +kernel
theorem hex_at {r : Int} (h0 : 0 ≤ r) (h1 : r < 16) : atI hexS.cps.toList r = some (hxc r.toNat) := by
  have e : ((r.toNat : Nat) : Int) = r := by omega
  have q : atI (codes hexS) ((r.toNat : Nat) : Int) = some (hxc r.toNat) := atI_nat (by
    unfold hxc
    rw [List.getD_eq_getElem?_getD, List.getElem?_eq_getElem (by rw [hex_codes]; omega)]
    rfl)
  rw [e] at q
  exact q
def sg (n : Int) : Str := ⟨#[hxc n.toNat]⟩
theorem ixX_hex {r : Int} {Q : Sv → Prop} (h0 : 0 ≤ r) (h1 : r < 16) (q : Q (.tr (.str (sg r)))) : ixX (.str hexS) (.int r) Q := by
  refine ⟨by decide +kernel, ?_⟩
  rw [hex_at h0 h1]
  exact q
def byS (b : Int) : Str := sg (b / 16) ++ sg (b % 16)
theorem sg_len (n : Int) : (sg n).length = 1 := rfl
theorem byS_len (b : Int) : (byS b).length = 2 := by unfold byS; rw [len_app, sg_len, sg_len]
theorem joinB_fold (g : List Nat) : ∀ (r : List Str) (acc : Array Nat), (r.foldl (fun acc p => acc ++ g.toArray ++ p.cps) acc).toList = acc.toList ++ (r.map fun y => g ++ codes y).flatten
  | [], acc => by simp
  | y :: r, acc => by
    rw [List.foldl_cons, joinB_fold g r]
    simp [codes]
theorem codes_joinB (y : Str) (r : List Str) : codes (Txt.join blankS (y :: r)) = codes y ++ (r.map fun y => 32 :: codes y).flatten := by
  show ((r).foldl (fun acc p => acc ++ (Str.ofString " ").cps ++ p.cps) y.cps).toList = _
  rw [show (Str.ofString " ").cps = [32].toArray from by decide, joinB_fold]
  rfl
def wr (bs : List Int) : Str := ⟨((bs.map fun b => 32 :: codes (byS b)).flatten).toArray⟩
theorem wr_codes (bs : List Int) : codes (wr bs) = (bs.map fun b => 32 :: codes (byS b)).flatten := by unfold wr codes; rfl
theorem wr_len (bs : List Int) : (wr bs).length = 3 * bs.length := by
  rw [codes_len, wr_codes]
  induction bs with
  | nil => rfl
  | cons b r ih =>
    rw [List.map_cons, List.flatten_cons, List.length_append, ih, List.length_cons, List.length_cons, ← codes_len, byS_len]
    omega
theorem wr_snoc (bs : List Int) (b : Int) : wr bs ++ blankS ++ sg (b / 16) ++ sg (b % 16) = wr (bs ++ [b]) := by
  apply codes_inj
  rw [codes_app, codes_app, codes_app, wr_codes, wr_codes, List.map_append, List.flatten_append]
  show _ ++ [32] ++ _ ++ _ = _
  simp [byS, codes_app]
def shB : List Int → Str
  | [] => dashS
  | bs => Txt.join blankS (bs.map byS)
theorem wr_sh {bs : List Int} (h : bs ≠ []) : Txt.slice (wr bs) (some 1) none = shB bs := by
  cases bs with
  | nil => exact absurd rfl h
  | cons b r =>
    apply codes_inj
    rw [codes_from (by decide) (by rw [← codes_len, wr_len, List.length_cons]; omega), wr_codes]
    show _ = codes (Txt.join blankS (byS b :: r.map byS))
    rw [codes_joinB, List.map_cons, List.flatten_cons, List.map_map]
    rfl
theorem shB_len (bs : List Int) : (shB bs).length ≤ 3 * bs.length + 1 := by
  by_cases h : bs = []
  · subst h; decide
  · rw [← wr_sh h]
    exact Nat.le_trans (Txt.slice_le _ _ _) (by rw [wr_len]; omega)
def Byt (bs : List Int) : Prop := ∀ b ∈ bs, 0 ≤ b ∧ b < 256
theorem div16 {b : Int} (h : 0 ≤ b ∧ b < 256) : 0 ≤ b / 16 ∧ b / 16 < 16 := by omega
theorem mod16 {b : Int} : 0 ≤ b % 16 ∧ b % 16 < 16 := by omega
def gIW : GC := fun ds Q => ∃ i : Int, ds = [.int i] ∧ Q (.tr (.bl true))
def gIB : GC := fun ds Q => ∃ i : Int, ds = [.int i] ∧ 0 ≤ i ∧ i < 256 ∧ Q (.tr (.bl true))
def gAB : GC := fun ds Q => ∃ bs : List Int, ds = [.lst (bs.map Dx.int), .int bs.length] ∧ Byt bs ∧ bs.length ≤ 1000 ∧ Q (.tr (.bl true))
def gSH : GC := fun ds Q => ∃ bs : List Int, ds = [.lst (bs.map Dx.int)] ∧ Byt bs ∧ bs.length ≤ 1000 ∧ Q (.tr (.str (shB bs)))
section
variable {P : Program} {w : World} {K : PySem.W.Frag} {mg : Str → Option Value} {base : Heap} {f : Addr} {fd : FuncData}
theorem okx_iw (F : Fun K "is_whole" "is_whole" s_is_whole f fd) (m_isinstance : mg "isinstance" = none) (m_int : mg "int" = none) (m_bool : mg "bool" = none) : FnOk P w K mg base CX0 1 f fd ["thing"] (spX gIW) := by
  refine fn_x F sc_is_whole (fun ds Q h => by obtain ⟨_, rfl, _⟩ := h; rfl) (by decide) fun cdv A outer s H E hr => ?_
  refine ⟨_, (xss_one (xs_ret (xe_and (xe_isinst .int m_isinstance (xe_var (pv 0)) (pe_bltn (v := .ty "int") rfl m_int bt_int rfl)) (xe_one (xe_not (xe_isinst .bool m_isinstance (xe_var (pv 0)) (pe_bltn (v := .ty "bool") rfl m_bool bt_bool rfl))))))), fun ds Q h => ?_⟩
  obtain ⟨i, rfl, q⟩ := h
  exact q
theorem okx_ib (F : Fun K "is_byte" "is_byte" s_is_byte f fd) (CIW : Cal P w K mg base 1 "is_whole" ["thing"] (spX gIW)) (c_HOW_MANY_BYTES : ∃ t, mg "HOW_MANY_BYTES" = some (.int 256 t)) : FnOk P w K mg base CX0 2 f fd ["thing"] (spX gIB) := by
  refine fn_x F sc_is_byte (fun ds Q h => by obtain ⟨_, rfl, _⟩ := h; rfl) (by decide) fun cdv A outer s H E hr => ?_
  refine ⟨_, (xss_one (xs_ret (xe_and (xe_call CIW (hr.mono (by omega)) (xa_cons (xe_var (pv 0)) xa_nil)) (xe_one (xe_chain op_le ox_le op_lt ox_lt xe_int (xe_var (pv 0)) (xe_glob (by rfl) c_HOW_MANY_BYTES)))))), fun ds Q h => ?_⟩
  obtain ⟨i, rfl, h0, h1, q⟩ := h
  refine ⟨i, rfl, ?_⟩
  show if decide (0 ≤ i) = true then _ else _
  rw [if_pos (decide_eq_true h0)]
  show Q (.tr (.bl (decide (i < 256))))
  rw [decide_eq_true h1]
  exact q
theorem okx_ab (F : Fun K "are_bytes" "are_bytes" s_are_bytes f fd) (CIB : Cal P w K mg base 2 "is_byte" ["thing"] (spX gIB)) (m_isinstance : mg "isinstance" = none) (m_list : mg "list" = none) (m_len : mg "len" = none) (m_all : mg "all" = none) : FnOk P w K mg base CX0 3 f fd ["thing", "how_many"] (spX gAB) := by
  refine fn_x F sc_are_bytes (fun ds Q h => by obtain ⟨_, rfl, _⟩ := h; rfl) (by decide) fun cdv A outer s H E hr => ?_
  have hu1 := hu_of hr
  have hu0 := Nat.lt_of_succ_lt hu1
  refine ⟨_, (xss_cons (xs_if (XW.pt (xw_or (xt_not (xt_val (xe_isinst .list m_isinstance (xe_var (pv 0)) (pe_bltn (v := .ty "list") rfl m_list bt_list rfl)))) (xw_or1 (xt_cmp (op_neA K hu0) ox_ne (xe_callB (call_lenA K) cx_len (by rfl) m_len PySem.boot_len (xa_cons (xe_var (pv 0)) xa_nil)) (xe_var (pv 1)) (nomark _))))) (xss_one (xs_ret xe_bl)) xss_nil)
    (xss_one (xs_ret (xe_callB (call_allA K (by rfl)) cx_all (by rfl) m_all bt_all (xa_cons (xe_comp (dsc := defScope s_are_bytes) (N := ["thing", "how_many"]) (tgs := ["each"]) (outs := []) (N' := ["each"]) (by refine ⟨rfl, ?_, ?_, ?_, rfl, ?_, ?_, ?_⟩ <;> decide +kernel) (xi_list (xe_var (pv 0))) (fun _ _ _ _ _ => (pg_name (i := 0) (show (["each"] : List Str).Nodup by decide +kernel) rfl (Or.inl rfl) (.inr rfl))) (gx_name (n := 1) (i := 0) (by decide)) (tgt_name (by decide)) (fun _ _ _ _ _ => xcs_nil) (fun _ _ _ _ _ => (xe_call CIB (hr.mono (by omega)) (xa_cons (xe_var (pv 0)) xa_nil)))) xa_nil))))), fun ds Q h => ?_⟩
  obtain ⟨bs, rfl, hb, hl, q⟩ := h
  show if (!decide (((bs.map Dx.int).length : Int) = bs.length)) = true then _ else _
  rw [decide_eq_true (by rw [List.length_map])]
  refine ⟨show (bs.map Dx.int).length ≤ 1000000 by rw [List.length_map]; omega, show compX _ _ _ _ _ (bs.map Dx.int) _ _ from ?_⟩
  refine compX_fun (fun b : Int => Dx.int b) (fun d => .bl true) (fun b hm acc P p => ⟨b, rfl, (hb b hm).1, (hb b hm).2, p⟩) ?_
  rw [List.nil_append]
  refine ⟨bs.map fun _ => true, by rw [List.map_map]; rfl, ?_⟩
  have ea : (bs.map fun _ => true).all id = true := by
    rw [List.all_map, List.all_eq_true]
    intro b _
    rfl
  show Q (.tr (.bl ((bs.map fun _ => true).all id)))
  rw [ea]
  exact q
theorem okx_sh (F : Fun K "show_bytes" "show_bytes" s_show_bytes f fd) (CAB : Cal P w K mg base 3 "are_bytes" ["thing", "how_many"] (spX gAB)) (m_isinstance : mg "isinstance" = none) (m_list : mg "list" = none) (m_len : mg "len" = none) (c_BYTE_SIGNS : ∃ t, mg "BYTE_SIGNS" = some (.str hexS t)) (c_NO_BYTES_AT_ALL : ∃ t, mg "NO_BYTES_AT_ALL" = some (.str dashS t)) : FnOk P w K mg base CX0 4 f fd ["thing"] (spX gSH) := by
  refine fn_x F sc_show_bytes (fun ds Q h => by obtain ⟨_, rfl, _⟩ := h; rfl) (by decide) fun cdv A outer s H E hr => ?_
  have hu1 := hu_of hr
  have hu0 := Nat.lt_of_succ_lt hu1
  refine ⟨_, (xss_cons (xs_if (XW.pt (xw_or (xt_not (xt_val (xe_isinst .list m_isinstance (xe_var (pv 0)) (pe_bltn (v := .ty "list") rfl m_list bt_list rfl)))) (xw_or1 (xt_not (xt_val (xe_call CAB (hr.mono (by omega)) (xa_cons (xe_var (pv 0)) (xa_cons (xe_callB (call_lenA K) cx_len (by rfl) m_len PySem.boot_len (xa_cons (xe_var (pv 0)) xa_nil)) xa_nil)))))))) (xss_one xs_no) xss_nil)
    (xss_cons (xs_if (xt_cmp (op_eqA K hu0) ox_eq (xe_callB (call_lenA K) cx_len (by rfl) m_len PySem.boot_len (xa_cons (xe_var (pv 0)) xa_nil)) xe_int (nomark _)) (xss_one (xs_ret (xe_globS (by rfl) c_NO_BYTES_AT_ALL))) xss_nil)
    (xss_one (xs_ret (xe_join (xe_comp (dsc := defScope s_show_bytes) (N := ["thing"]) (tgs := ["byte"]) (outs := []) (N' := ["byte"]) (by refine ⟨rfl, ?_, ?_, ?_, rfl, ?_, ?_, ?_⟩ <;> decide +kernel) (xi_list (xe_var (pv 0))) (fun _ _ _ _ _ => (pg_name (i := 0) (show (["byte"] : List Str).Nodup by decide +kernel) rfl (Or.inl rfl) (.inr rfl))) (gx_name (n := 1) (i := 0) (by decide)) (tgt_name (by decide)) (fun _ _ _ _ _ => xcs_nil) (fun _ _ _ _ _ => (xe_add (xe_ix K (xe_globS (by rfl) c_BYTE_SIGNS) (xe_fdiv (xe_var (pv 0)) xe_int) (fun _ _ => rfl)) (xe_ix K (xe_globS (by rfl) c_BYTE_SIGNS) (xe_mod (xe_var (pv 0)) xe_int) (fun _ _ => rfl)))))))))), fun ds Q h => ?_⟩
  obtain ⟨bs, rfl, hb, hl, q⟩ := h
  refine go_skip (ρ' := [.v (.tr (.lst (bs.map Dx.int)))]) (fun Q q => ?_) ?_
  · exact ⟨bs, by rw [show (bs.length : Int) = ((bs.map Dx.int).length : Int) from by rw [List.length_map]]; rfl, hb, hl, q⟩
  by_cases e : bs = []
  · subst e
    exact q
  · refine go_skip (ρ' := [.v (.tr (.lst (bs.map Dx.int)))]) (fun Q q => ?_) ?_
    · show Q (decide (((bs.map Dx.int).length : Int) = 0)) _
      rw [decide_eq_false (by rw [List.length_map]; have := List.length_pos_iff.mpr e; omega)]
      exact q
    refine ⟨show (bs.map Dx.int).length ≤ 1000000 by rw [List.length_map]; omega, show compX _ _ _ _ _ (bs.map Dx.int) _ _ from ?_⟩
    refine compX_fun (fun b : Int => Dx.int b) (fun b => .str (byS b)) (fun b hm acc P p => ?_) ?_
    · refine ⟨⟨by decide, by decide⟩, ixX_hex (div16 (hb b hm)).1 (div16 (hb b hm)).2 ?_⟩
      refine ⟨by show (0 : Int) < 16; decide, ixX_hex mod16.1 mod16.2 ?_⟩
      exact ⟨by rw [sg_len, sg_len]; decide, p⟩
    rw [List.nil_append]
    refine ⟨bs.map byS, by rw [List.map_map]; rfl, ?_, ?_⟩
    · rw [List.map_map, List.length_map]
      have : (bs.map ((fun x : Str => x.length) ∘ byS)).sum = 2 * bs.length := by
        clear hb hl q e
        induction bs with
        | nil => rfl
        | cons b r ih => rw [List.map_cons, List.sum_cons, ih, List.length_cons]; show (byS b).length + _ = _; rw [byS_len]; omega
      have e2 : (blankS : Str).length = 1 := by decide
      show (bs.map ((fun x : Str => x.length) ∘ byS)).sum + bs.length * (blankS : Str).length ≤ _
      rw [this, e2]
      omega
    · cases bs with
      | nil => exact absurd rfl e
      | cons b r => exact q
end

open PySem.Builtin.Str in
def inH (c : Nat) : Bool := !(occurrences hexS ⟨#[c]⟩ 0 hexS.length 1).isEmpty
def vH (c : Nat) : Int := atF hexS ⟨#[c]⟩
def rdB (x : Str) : Option Int := match codes x with
  | [a, b] => if inH a = true then if inH b = true then some (16 * vH a + vH b) else none else none
  | _ => none
def wds (x : Str) : List Str := Txt.split x blankS
def rdT (x : Str) : Option (List Int) := if x = dashS then some [] else if (wds x).all (fun y => (rdB y).isSome) = true then some ((wds x).map fun y => (rdB y).getD 0) else none
theorem rdT_dash : rdT dashS = some [] := if_pos rfl
theorem rdT_some {x : Str} (h : x ≠ dashS) (ha : ∀ y ∈ wds x, (rdB y).isSome = true) : rdT x = some ((wds x).map fun y => (rdB y).getD 0) := by
  unfold rdT
  rw [if_neg h, if_pos (List.all_eq_true.mpr ha)]
theorem rdT_none {x y : Str} (h : x ≠ dashS) (hy : y ∈ wds x) (hn : rdB y = none) : rdT x = none := by
  unfold rdT
  rw [if_neg h, if_neg]
  intro ha
  have := List.all_eq_true.mp ha y hy
  rw [hn] at this
  cases this
theorem wds_len (x : Str) : (wds x).length ≤ x.length + 2 := by
  unfold wds Txt.split
  split
  · simp
  split
  · simp
  · rw [length_partsBetween]
    have := StrLaws.occ_length_le x blankS 0 x.length (x.length + 1)
    omega
theorem wds_le {x y : Str} (h : y ∈ wds x) : y.length ≤ x.length := by
  unfold wds Txt.split at h
  split at h
  · rw [List.mem_singleton.mp h]; exact Nat.le_refl _
  split at h
  · rw [List.mem_singleton.mp h]; exact Nat.le_refl _
  · unfold PySem.Builtin.Str.partsBetween at h
    obtain ⟨p, _, rfl⟩ := List.mem_map.mp h
    show (x.cps.extract p.1 p.2).size ≤ x.cps.size
    rw [Array.size_extract]
    omega
theorem inH_idx {c : Nat} (h : inH c = true) : ∃ i r, PySem.Builtin.Str.occurrences hexS ⟨#[c]⟩ 0 hexS.length 1 = i :: r ∧ vH c = (i : Int) := by
  unfold inH at h
  unfold vH atF
  cases e : PySem.Builtin.Str.occurrences hexS ⟨#[c]⟩ 0 hexS.length 1 with
  | nil => rw [e] at h; cases h
  | cons i r => exact ⟨i, r, rfl, rfl⟩
theorem hex_small : ∀ c ∈ codes hexS, 0 ≤ vH c ∧ vH c < 16 := by decide +kernel
theorem inH_small {c : Nat} (h : inH c = true) : 0 ≤ vH c ∧ vH c < 16 := hex_small c (by
  have e := StrLaws.found_one hexS c
  rw [show (!(PySem.Builtin.Str.occurrences hexS ⟨#[c]⟩ 0 hexS.length 1).isEmpty) = true from h] at e
  exact of_decide_eq_true e.symm)
theorem sgX_codes (x : Str) : sgX x = (codes x).map fun c => Dx.str ⟨#[c]⟩ := rfl
def gBW : GC := fun ds Q => ∃ bs : List Int, ds = [.lst (bs.map Dx.int)] ∧ Byt bs ∧ bs.length ≤ 1000 ∧ Q (.tr (.str (shB bs)))
def gRY (C : Addr) : GE := fun ds Q Ex => ∃ x : Str, ds = [.str x] ∧ x.length ≤ 1000000 ∧ (∀ n, rdB x = some n → Q (.tr (.int n))) ∧ (rdB x = none → Ex (.ref C))
def noS : Dx → Prop
  | .str _ => False | .scr _ _ => False | .ins _ _ => False | .exc _ => False
  | _ => True
def gRB (C : Addr) : GE := fun ds Q Ex => (∃ x : Str, ds = [.str x] ∧ x.length ≤ 10000 ∧ (∀ l, rdT x = some l → Q (.ol (l.map Dx.int))) ∧ (rdT x = none → Ex (.ref C))) ∨ ∃ d, ds = [d] ∧ noS d ∧ Ex (.ref C)
def gLR : GC := fun ds Q => ∃ x : Str, ds = [.str x] ∧ x.length ≤ 10000 ∧ (∀ l, rdT x = some l → Q (.ol (l.map Dx.int))) ∧ (rdT x = none → Q (.tr .non))
section
variable {P : Program} {w : World} {K : PySem.W.Frag} {mg : Str → Option Value} {base : Heap} {f : Addr} {fd : FuncData} {C_NoText : Addr}
theorem okx_bw (F : Fun K "_law_bytes_written" "_law_bytes_written" s_law_bytes_written f fd) : FnOk P w K mg base CX0 1 f fd ["some"] (spX gBW) := by
  refine fn_x F sc_law_bytes_written (fun ds Q h => by obtain ⟨_, rfl, _⟩ := h; rfl) (by decide) fun cdv A outer s H E hr => ?_
  have hu1 := hu_of hr
  have hu0 := Nat.lt_of_succ_lt hu1
  refine ⟨_, (xss_cons (xs_if (xt_cmp (op_eqA K hu0) ox_eq (xe_var (pv 0)) (xe_lst xa_nil) (nomark _)) (xss_one (xs_ret xe_str)) xss_nil)
    (xss_cons (xs_setP fun F => ps_set (i := 1) sc_law_bytes_written.nd rfl (Or.inl rfl) (XE.at (Ex := noEx) F xe_str))
    (xss_cons (xs_for PassesOwn.never rfl (xi_list (xe_var (pv 0))) (pg_name (i := 2) sc_law_bytes_written.nd rfl (Or.inl rfl)) (gx_name (n := 99) (i := 2) (by decide)) (xss_one (xs_setP fun F => ps_set (i := 1) sc_law_bytes_written.nd rfl (Or.inl rfl) (XE.at (Ex := noEx) F (xe_add (xe_add (xe_add (xe_var (pv 1)) xe_str) (xe_ix K xe_str (xe_fdiv (xe_var (pv 2)) xe_int) (fun _ _ => rfl))) (xe_ix K xe_str (xe_mod (xe_var (pv 2)) xe_int) (fun _ _ => rfl)))))))
    (xss_one (xs_ret (xe_slice K (xe_var (pv 1)) (xo_some xe_int) xo_none)))))), fun ds Q h => ?_⟩
  obtain ⟨bs, rfl, hb, hl, q⟩ := h
  by_cases e : bs = []
  · subst e
    exact ⟨Nat.zero_le _, q⟩
  · have hemp : (bs.map Dx.int).isEmpty = false := by cases bs <;> first | rfl | exact absurd rfl e
    refine go_skip (ρ' := [.v (.tr (.lst (bs.map Dx.int))), .un, .un]) (fun Q q => ?_) ?_
    · refine ⟨Nat.zero_le _, ?_⟩
      show Q (bs.map Dx.int).isEmpty _
      rw [hemp]
      exact q
    refine go_set (go_c1 ?_)
    change xSeq _ _ [.v (.tr (.lst (bs.map Dx.int))), .v (.tr (.str (wr []))), .un] _
    refine xSeq_nx (fun ρ => ∃ y2 : Sl, ρ = [.v (.tr (.lst (bs.map Dx.int))), .v (.tr (.str (wr bs))), y2]) ?_ (fun nx hnx => ?_)
    · rintro ρ ⟨y2, rfl⟩
      refine ⟨by rw [wr_len]; omega, ?_⟩
      rw [← wr_sh e] at q
      exact q
    show forX _ _ _ (bs.map Dx.int) _
    refine forX_map (fun b : Int => Dx.int b) (fun rest ρ => ∃ (pre : List Int) (y2 : Sl), bs = pre ++ rest ∧ ρ = [.v (.tr (.lst (bs.map Dx.int))), .v (.tr (.str (wr pre))), y2]) (fun ρ h => ?_) (fun b rest ρ Kn h hk => ?_) ⟨[], .un, rfl, rfl⟩
    · obtain ⟨pre, y2, e2, rfl⟩ := h
      rw [List.append_nil] at e2
      subst e2
      exact hnx _ ⟨y2, rfl⟩
    · obtain ⟨pre, y2, e2, rfl⟩ := h
      have hbb := hb b (by rw [e2]; exact List.mem_append_right _ List.mem_cons_self)
      have hpl : pre.length ≤ 1000 := by have := congrArg List.length e2; rw [List.length_append] at this; omega
      have e3 : (blankS : Str).length = 1 := by decide
      refine ⟨by rw [wr_len, e3]; omega, ⟨by decide, by decide⟩, ixX_hex (div16 hbb).1 (div16 hbb).2 ?_⟩
      refine ⟨by rw [len_app, wr_len, e3, sg_len]; omega, by show (0 : Int) < 16; decide, ixX_hex mod16.1 mod16.2 ?_⟩
      refine ⟨by rw [len_app, len_app, wr_len, e3, sg_len, sg_len]; omega, hk _ ⟨pre ++ [b], .v (.tr (.int b)), by rw [e2, List.append_assoc]; rfl, ?_⟩⟩
      rw [← wr_snoc pre b]
      rfl
set_option maxHeartbeats 16000000 in
theorem okx_ry (F : Fun K "read_byte" "read_byte" s_read_byte f fd) (m_len : mg "len" = none) (m_all : mg "all" = none) (c_BYTE_SIGNS : ∃ t, mg "BYTE_SIGNS" = some (.str hexS t)) (O_NoText : PyProof.Rows.OwnCls "NoText" C_NoText veM "ValueError.__new__" mg base) : FnOk P w K mg base (CXe P w) 1 f fd ["signs"] (spE (gRY C_NoText)) := by
  refine fn_e F sc_read_byte (fun ds Q Ex h => by obtain ⟨_, rfl, _⟩ := h; rfl) (by decide) fun cdv A outer s H E Ex hr => ?_
  have hu1 := hu_of hr
  have hu0 := Nat.lt_of_succ_lt hu1
  refine ⟨_, (xss_cons (xs_if (XW.pt (xw_or (xt_cmp (op_neA K hu0) ox_ne (xe_callB (call_lenA K) cx_len (by rfl) m_len PySem.boot_len (xa_cons (xe_var (pv 0)) xa_nil)) xe_int (nomark _)) (xw_or1 (xt_not (xt_val (xe_callB (call_allA K (by rfl)) cx_all (by rfl) m_all bt_all (xa_cons (xe_comp (dsc := defScope s_read_byte) (N := ["signs"]) (tgs := ["sign"]) (outs := []) (N' := ["sign"]) (by refine ⟨rfl, ?_, ?_, ?_, rfl, ?_, ?_, ?_⟩ <;> decide +kernel) (xi_str (xe_var (pv 0))) (fun _ _ _ _ _ => (pg_name (i := 0) (show (["sign"] : List Str).Nodup by decide +kernel) rfl (Or.inl rfl) (.inr rfl))) (gx_name (n := 1) (i := 0) (by decide)) (tgt_name (by decide)) (fun _ _ _ _ _ => xcs_nil) (fun _ _ _ _ _ => (xe_cmp op_in_str ox_inS (xe_var (pv 0)) (xe_globS (by rfl) c_BYTE_SIGNS) (by with_unfolding_all rfl)))) xa_nil))))))) (xss_one (xs_raise O_NoText rfl (by rfl))) xss_nil)
    (xss_one (xs_ret (xe_add (xe_mul (xe_index (xe_globS (by rfl) c_BYTE_SIGNS) (xe_ix K (xe_var (pv 0)) xe_int (fun _ _ => rfl))) xe_int) (xe_index (xe_globS (by rfl) c_BYTE_SIGNS) (xe_ix K (xe_var (pv 0)) xe_int (fun _ _ => rfl))))))), fun ds Q h => ?_⟩
  obtain ⟨x, rfl, hxl, qy, qn⟩ := h
  have e1 : x.length = (codes x).length := codes_len x
  by_cases h2 : x.length = 2
  · obtain ⟨a, b, hab⟩ : ∃ a b, codes x = [a, b] := by
      rw [e1] at h2
      match codes x, h2 with
      | [a, b], _ => exact ⟨a, b, rfl⟩
    have hrd : rdB x = if inH a = true then if inH b = true then some (16 * vH a + vH b) else none else none := by unfold rdB; rw [hab]
    refine go_ifB (!(inH a && inH b)) (ρ' := [.v (.tr (.str x))]) (fun Q q => ?_) (fun hb => ?_) (fun hb => ?_)
    · refine ⟨hxl, ?_⟩
      show if (!decide ((x.length : Int) = 2)) = true then _ else _
      rw [decide_eq_true (by omega)]
      show (sgX x).length ≤ 1000000 ∧ compX _ _ _ _ _ (sgX x) _ _
      rw [sgX_codes, hab]
      refine ⟨by show 2 ≤ 1000000; decide, ?_⟩
      refine compX_fun (fun c : Nat => Dx.str ⟨#[c]⟩) (fun c => .bl (inH c)) (fun c hm acc P p => p) ?_
      refine ⟨[inH a, inH b], rfl, ?_⟩
      show Q (!(inH a && (inH b && true))) _
      rw [Bool.and_true]
      exact q
    · refine qn ?_
      rw [hrd]
      cases ha : inH a with
      | false => rfl
      | true =>
        cases hb' : inH b with
        | false => rfl
        | true => rw [ha, hb'] at hb; cases hb
    · have hb2 : inH a = true ∧ inH b = true := by
        cases ha : inH a with
        | false => rw [ha] at hb; cases hb
        | true =>
          cases hb' : inH b with
          | false => rw [ha, hb'] at hb; cases hb
          | true => exact ⟨rfl, rfl⟩
      obtain ⟨i, r, ei, vi⟩ := inH_idx hb2.1
      obtain ⟨i2, r2, ei2, vi2⟩ := inH_idx hb2.2
      have hi16 := inH_small hb2.1
      have q := qy (16 * vH a + vH b) (by rw [hrd, if_pos hb2.1, if_pos hb2.2])
      rw [vi, vi2, Int.mul_comm] at q
      have at0 : atI x.cps.toList 0 = some a := by show atI (codes x) 0 = _; rw [hab]; rfl
      have at1 : atI x.cps.toList 1 = some b := by show atI (codes x) 1 = _; rw [hab]; rfl
      refine ⟨⟨hexS, rfl⟩, hxl, ?_⟩
      rw [at0]
      refine ⟨i, r, ei, ?_⟩
      refine ⟨⟨?_, by decide⟩, ⟨hexS, rfl⟩, hxl, ?_⟩
      · rw [vi] at hi16
        show ((i : Int)).natAbs < 2 ^ 250
        omega
      · rw [at1]
        exact ⟨i2, r2, ei2, q⟩
  · have hno : rdB x = none := by
      unfold rdB
      rw [e1] at h2
      split
      · rename_i a b hab; rw [hab] at h2; exact absurd rfl h2
      · rfl
    refine go_ifB true (ρ' := [.v (.tr (.str x))]) (fun Q q => ?_) (fun _ => qn hno) (fun hb => by cases hb)
    refine ⟨hxl, ?_⟩
    show if (!decide ((x.length : Int) = 2)) = true then _ else _
    rw [decide_eq_false (by omega)]
    exact q
set_option maxHeartbeats 16000000 in
theorem okx_rb (F : Fun K "read_bytes" "read_bytes" s_read_bytes f fd) (CRY : CalE P w K mg base 1 "read_byte" ["signs"] (spE (gRY C_NoText))) (m_isinstance : mg "isinstance" = none) (m_str : mg "str" = none) (c_NO_BYTES_AT_ALL : ∃ t, mg "NO_BYTES_AT_ALL" = some (.str dashS t)) (O_NoText : PyProof.Rows.OwnCls "NoText" C_NoText veM "ValueError.__new__" mg base) : FnOk P w K mg base (CXe P w) 2 f fd ["text"] (spE (gRB C_NoText)) := by
  refine fn_e F sc_read_bytes (fun ds Q Ex h => by rcases h with ⟨_, rfl, _⟩ | ⟨_, rfl, _⟩ <;> rfl) (by decide) fun cdv A outer s H E Ex hr => ?_
  have hu1 := hu_of hr
  have hu0 := Nat.lt_of_succ_lt hu1
  refine ⟨_, (xss_cons (xs_if (xt_not (xt_val (xe_isinst .str m_isinstance (xe_var (pv 0)) (pe_bltn (v := .ty "str") rfl m_str bt_str rfl)))) (xss_one (xs_raise O_NoText rfl (by rfl))) xss_nil)
    (xss_cons (xs_if (xt_cmp (op_eqA K hu0) ox_eq (xe_var (pv 0)) (xe_globS (by rfl) c_NO_BYTES_AT_ALL) (nomark _)) (xss_one (xs_ret (xe_lst xa_nil))) xss_nil)
    (xss_one (xs_ret (xe_compE (dsc := defScope s_read_bytes) (N := ["text"]) (tgs := ["signs"]) (outs := []) (N' := ["signs"]) (by refine ⟨rfl, ?_, ?_, ?_, rfl, ?_, ?_, ?_⟩ <;> decide +kernel) (xi_list (xe_split (xe_var (pv 0)) (by rfl))) (fun _ _ _ _ _ => (pg_name (i := 0) (show (["signs"] : List Str).Nodup by decide +kernel) rfl (Or.inl rfl) (.inr rfl))) (gx_name (n := 1) (i := 0) (by decide)) (tgt_name (by decide)) (fun _ _ _ _ _ => xcs_nil) (fun _ _ _ _ _ _ _ => (xe_callE CRY (hr.mono (by omega)) (xa_cons (xe_var (pv 0)) xa_nil)))))))), fun ds Q h => ?_⟩
  rcases h with ⟨x, rfl, hxl, qy, qn⟩ | ⟨d, rfl, hd, qn⟩
  · refine go_skip (ρ' := [.v (.tr (.str x))]) (fun Q q => q) ?_
    by_cases hds : x = dashS
    · subst hds
      have q := qy [] rdT_dash
      exact ⟨Nat.zero_le _, q⟩
    refine go_skip (ρ' := [.v (.tr (.str x))]) (fun Q q => ?_) ?_
    · show Q (decide (x = dashS)) _
      rw [decide_eq_false hds]
      exact q
    have hw := wds_len x
    refine ⟨x, rfl, by rw [sizeLine_eq]; omega, show (List.map Dx.str (wds x)).length ≤ 1000000 ∧ compX _ _ _ _ _ (List.map Dx.str (wds x)) _ _ from ⟨by rw [List.length_map]; omega, ?_⟩⟩
    refine compX_ind (fun y : Str => Dx.str y) (fun rest acc cs => ∃ pre : List Str, wds x = pre ++ rest ∧ (∀ y ∈ pre, (rdB y).isSome = true) ∧ acc = pre.map (fun y => Dx.int ((rdB y).getD 0)) ∧ cs = []) (fun acc cs h => ?_) (fun y rest acc cs Pn h hk => ?_) ⟨[], rfl, fun y hy => absurd hy List.not_mem_nil, rfl, rfl⟩
    · obtain ⟨pre, e, ha, rfl, rfl⟩ := h
      rw [List.append_nil] at e
      have q := qy _ (rdT_some hds (by rw [e]; exact ha))
      rw [e, List.map_map] at q
      exact q
    · obtain ⟨pre, e, ha, rfl, rfl⟩ := h
      have hy : y ∈ wds x := by rw [e]; exact List.mem_append_right _ List.mem_cons_self
      refine ⟨y, rfl, by have := wds_le hy; omega, fun n hn => ?_, fun hn => qn (rdT_none hds hy hn)⟩
      refine hk _ _ ⟨pre ++ [y], by rw [e, List.append_assoc]; rfl, fun z hz => ?_, ?_, rfl⟩
      · rcases List.mem_append.mp hz with hz | hz
        · exact ha z hz
        · rw [List.mem_singleton.mp hz, hn]; rfl
      · rw [List.map_append, List.map_cons, List.map_nil, hn]
        rfl
  · cases d <;> first | exact qn | exact hd.elim
set_option maxHeartbeats 16000000 in
theorem okx_lr (F : Fun K "_law_read" "_law_read" s_law_read f fd) (m_len : mg "len" = none) : FnOk P w K mg base CX0 1 f fd ["text"] (spX gLR) := by
  refine fn_x F sc_law_read (fun ds Q h => by obtain ⟨_, rfl, _⟩ := h; rfl) (by decide) fun cdv A outer s H E hr => ?_
  have hu1 := hu_of hr
  have hu0 := Nat.lt_of_succ_lt hu1
  refine ⟨_, (xss_cons (xs_if (xt_cmp (op_eqA K hu0) ox_eq (xe_var (pv 0)) xe_str (nomark _)) (xss_one (xs_ret (xe_lst xa_nil))) xss_nil)
    (xss_cons (xs_setP fun F => ps_set (i := 1) sc_law_read.nd rfl (Or.inl rfl) (XE.at (Ex := noEx) F (xe_lst xa_nil)))
    (xss_cons (xs_for PassesOwn.never rfl (xi_list (xe_split (xe_var (pv 0)) (by rfl))) (pg_name (i := 2) sc_law_read.nd rfl (Or.inl rfl)) (gx_name (n := 99) (i := 2) (by decide)) (xss_cons (xs_if (XW.pt (xw_or (xt_cmp (op_neA K hu0) ox_ne (xe_callB (call_lenA K) cx_len (by rfl) m_len PySem.boot_len (xa_cons (xe_var (pv 2)) xa_nil)) xe_int (nomark _)) (xw_or1 (xt_cmp (op_neA K hu0) ox_ne (xe_comp (dsc := defScope s_law_read) (N := ["text", "found", "word"]) (tgs := ["sign"]) (outs := []) (N' := ["sign"]) (by refine ⟨rfl, ?_, ?_, ?_, rfl, ?_, ?_, ?_⟩ <;> decide +kernel) (xi_str (xe_var (pv 2))) (fun _ _ _ _ _ => (pg_name (i := 0) (show (["sign"] : List Str).Nodup by decide +kernel) rfl (Or.inl rfl) (.inr rfl))) (gx_name (n := 1) (i := 0) (by decide)) (tgt_name (by decide)) (fun _ _ _ _ _ => (xcs_one (xt_cmp op_notin_str ox_niS (xe_var (pv 0)) xe_str (by with_unfolding_all rfl)))) (fun _ _ _ _ _ => (xe_var (pv 0)))) (xe_lst xa_nil) (nomark _))))) (xss_one (xs_ret xe_non)) xss_nil)
    (xss_one (xs_of fun F => PS.weak (ps_expr (pe_bm PySem.F.plainAttrs_list PySem.F.slot_list_append PySem.F.type_list_append mt_append (pv 1) (pa_cons (XE.at (Ex := noEx) F (xe_add (xe_mul xe_int (xe_find xe_str (xe_ix K (xe_var (pv 2)) xe_int (fun _ _ => rfl)))) (xe_find xe_str (xe_ix K (xe_var (pv 2)) xe_int (fun _ _ => rfl))))) pa_nil))) tApp_x))))
    (xss_one (xs_ret (xe_move (pv 1))))))), fun ds Q h => ?_⟩
  obtain ⟨x, rfl, hxl, qy, qn⟩ := h
  by_cases hds : x = dashS
  · subst hds
    have q := qy [] rdT_dash
    exact ⟨Nat.zero_le _, q⟩
  refine go_skip (ρ' := [.v (.tr (.str x)), .un, .un]) (fun Q q => ?_) ?_
  · show Q (decide (x = dashS)) _
    rw [decide_eq_false hds]
    exact q
  have hw := wds_len x
  refine go_set ⟨Nat.zero_le _, ?_⟩
  dsimp only
  change xSeq _ _ [.v (.tr (.str x)), .v (.ol []), .un] _
  refine xSeq_nx (fun ρ => ∃ y2 : Sl, (∀ y ∈ wds x, (rdB y).isSome = true) ∧ ρ = [.v (.tr (.str x)), .v (.ol ((wds x).map fun y => Dx.int ((rdB y).getD 0))), y2]) ?_ (fun nx hnx => ?_)
  · rintro ρ ⟨y2, ha, rfl⟩
    have q := qy _ (rdT_some hds ha)
    rw [List.map_map] at q
    exact q
  refine ⟨x, rfl, by rw [sizeLine_eq]; omega, ?_⟩
  show forX _ _ _ ((wds x).map Dx.str) _
  refine forX_map (fun y : Str => Dx.str y) (fun rest ρ => ∃ (pre : List Str) (y2 : Sl), wds x = pre ++ rest ∧ (∀ y ∈ pre, (rdB y).isSome = true) ∧ ρ = [.v (.tr (.str x)), .v (.ol (pre.map fun y => Dx.int ((rdB y).getD 0))), y2]) (fun ρ h => ?_) (fun y rest ρ Kn h hk => ?_) ⟨[], .un, rfl, fun y hy => absurd hy List.not_mem_nil, rfl⟩
  · obtain ⟨pre, y2, e, ha, rfl⟩ := h
    rw [List.append_nil] at e
    exact hnx _ ⟨y2, by rw [e]; exact ha, by rw [e]⟩
  · obtain ⟨pre, y2, e, ha, rfl⟩ := h
    have hy : y ∈ wds x := by rw [e]; exact List.mem_append_right _ List.mem_cons_self
    have hyl := wds_le hy
    have e1 : y.length = (codes y).length := codes_len y
    by_cases h2 : y.length = 2
    · obtain ⟨a, b, hab⟩ : ∃ a b, codes y = [a, b] := by
        rw [e1] at h2
        match codes y, h2 with
        | [a, b], _ => exact ⟨a, b, rfl⟩
      have hrd : rdB y = if inH a = true then if inH b = true then some (16 * vH a + vH b) else none else none := by unfold rdB; rw [hab]
      refine go_ifB (!(inH a && inH b)) (ρ' := [.v (.tr (.str x)), .v (.ol (pre.map fun y => Dx.int ((rdB y).getD 0))), .v (.tr (.str y))]) (fun Q q => ?_) (fun hb => ?_) (fun hb => ?_)
      · refine ⟨by omega, ?_⟩
        show if (!decide ((y.length : Int) = 2)) = true then _ else _
        rw [decide_eq_true (by omega)]
        show (sgX y).length ≤ 1000000 ∧ compX _ _ _ _ _ (sgX y) _ _
        rw [sgX_codes, hab]
        refine ⟨by show 2 ≤ 1000000; decide, ?_⟩
        show if (!inH a) = true then _ else _
        cases ha' : inH a with
        | true =>
          rw [ha'] at q
          show if (!inH b) = true then _ else _
          cases hb' : inH b with
          | true => rw [hb'] at q; exact ⟨Nat.zero_le _, q⟩
          | false => rw [hb'] at q; exact ⟨Nat.zero_le _, q⟩
        | false =>
          rw [ha'] at q
          show if (!inH b) = true then _ else _
          cases hb' : inH b with
          | true => exact ⟨Nat.zero_le _, q⟩
          | false => exact ⟨Nat.zero_le _, q⟩
      · refine qn (rdT_none hds hy ?_)
        rw [hrd]
        cases ha : inH a with
        | false => rfl
        | true =>
          cases hb' : inH b with
          | false => rfl
          | true => rw [ha, hb'] at hb; cases hb
      · have hb2 : inH a = true ∧ inH b = true := by
          cases ha : inH a with
          | false => rw [ha] at hb; cases hb
          | true =>
            cases hb' : inH b with
            | false => rw [ha, hb'] at hb; cases hb
            | true => exact ⟨rfl, rfl⟩
        have hrd2 : rdB y = some (16 * vH a + vH b) := by rw [hrd, if_pos hb2.1, if_pos hb2.2]
        have hi16 := inH_small hb2.1
        have at0 : atI y.cps.toList 0 = some a := by show atI (codes y) 0 = _; rw [hab]; rfl
        have at1 : atI y.cps.toList 1 = some b := by show atI (codes y) 1 = _; rw [hab]; rfl
        have hpl : pre.length ≤ 20000 := by have := congrArg List.length e; rw [List.length_append] at this; omega
        refine ⟨rfl, ⟨hexS, rfl⟩, by omega, ?_⟩
        rw [at0]
        refine ⟨⟨by decide, ?_⟩, ⟨hexS, rfl⟩, by omega, ?_⟩
        · show (vH a).natAbs < 2 ^ 250
          omega
        · rw [at1]
          refine ⟨by rw [List.length_map]; omega, hk _ ⟨pre ++ [y], .v (.tr (.str y)), by rw [e, List.append_assoc]; rfl, fun z hz => ?_, ?_⟩⟩
          · rcases List.mem_append.mp hz with hz | hz
            · exact ha z hz
            · rw [List.mem_singleton.mp hz, hrd2]; rfl
          · rw [List.map_append, List.map_cons, List.map_nil, hrd2]
            rfl
    · have hno : rdB y = none := by
        unfold rdB
        rw [e1] at h2
        split
        · rename_i a b hab; rw [hab] at h2; exact absurd rfl h2
        · rfl
      refine go_ifB true (ρ' := [.v (.tr (.str x)), .v (.ol (pre.map fun y => Dx.int ((rdB y).getD 0))), .v (.tr (.str y))]) (fun Q q => ?_) (fun _ => qn (rdT_none hds hy hno)) (fun hb => by cases hb)
      refine ⟨by omega, ?_⟩
      show if (!decide ((y.length : Int) = 2)) = true then _ else _
      rw [decide_eq_false (by omega)]
      exact q
end

def gAL (n : Nat) : GC := fun ds Q => ∃ d : Dx, ds = [d, d] ∧ ((∃ i : Int, d = .int i ∧ 1 ≤ n) ∨ ∃ xs : List Int, d = .lst (xs.map Dx.int) ∧ 2 ≤ n ∧ xs.length ≤ 100000) ∧ Q (.tr (.bl true))
theorem bt_ValueError : bootBuiltins "ValueError" = some (.type "ValueError") := by decide +kernel
structure Kit48 (K : PySem.W.Frag) (mg : Str → Option Value) (C_NoValue C_NoBytes C_NoMake C_NoText C_NoName C_NoRow : Addr) : Prop where
  mV : mg "NoValue" = some (.ref C_NoValue)
  mB : mg "NoBytes" = some (.ref C_NoBytes)
  mM : mg "NoMake" = some (.ref C_NoMake)
  mT : mg "NoText" = some (.ref C_NoText)
  mN : mg "NoName" = some (.ref C_NoName)
  mR : mg "NoRow" = some (.ref C_NoRow)
  kit : PySem.W.excKit K C_NoText = true
  kT : PySem.W.kitOne K (.ref C_NoText) (.ref C_NoText) = some true
  kE : PySem.W.kitOne K (.ref C_NoText) (.type "ValueError") = some true
  kA : PySem.W.kitAny K (.ref C_NoText) [.ref C_NoBytes, .ref C_NoMake, .ref C_NoName, .ref C_NoRow, .ref C_NoValue] = some false
def tupNo : Dx := .tup [.str "NoText", .non]
def gAS : GC := fun ds Q => (∃ x : Str, ds = [.str x] ∧ x.length ≤ 10000 ∧ (∀ l, rdT x = some l → ∀ a, Q (.ow (owW (.str "told") a (l.map Dx.int)))) ∧ (rdT x = none → Q (.tr tupNo))) ∨ ∃ d, ds = [d] ∧ noS d ∧ Q (.tr tupNo)
theorem go_tupA {u : XA} {ρ : En} {Q : Sv → En → Prop} (h : u ρ fun ss ρ' => ss.length ≤ 1000000 ∧ Q (.tr (.tup (ss.map Sv.d))) ρ') : xTup u ρ Q := h
section
variable {P : Program} {w : World} {K : PySem.W.Frag} {mg : Str → Option Value} {base : Heap} {f : Addr} {fd : FuncData} {n : Nat} {C_NoValue C_NoBytes C_NoMake C_NoText C_NoName C_NoRow C_FieldError : Addr}
set_option maxHeartbeats 16000000 in
theorem okx_al (F : Fun K "_law_alike" "_law_alike" s_law_alike f fd) (CAL : Cal P w K mg base n "_law_alike" ["found", "due"] (spX (gAL n))) (m_isinstance : mg "isinstance" = none) (m_dict : mg "dict" = none) (m_tuple : mg "tuple" = none) (m_list : mg "list" = none) (m_len : mg "len" = none) (m_range : mg "range" = none) (m_str : mg "str" = none) (m_int : mg "int" = none) (m_bool : mg "bool" = none) : FnOk P w K mg base CX0 (n + 1) f fd ["found", "due"] (spX (gAL (n + 1))) := by
  refine fn_x F sc_law_alike (fun ds Q h => by obtain ⟨_, rfl, _⟩ := h; rfl) (by decide) fun cdv A outer s H E hr => ?_
  have hu1 := hu_of hr
  have hu0 := Nat.lt_of_succ_lt hu1
  refine ⟨_, (xss_cons (xs_if (xt_val (xe_isinst .dict m_isinstance (xe_var (pv 1)) (pe_bltn (v := .ty "dict") rfl m_dict bt_dict rfl))) xss_no xss_nil)
    (xss_cons (xs_if (XW.pt (xw_or (xt_val (xe_isinst .tuple m_isinstance (xe_var (pv 1)) (pe_bltn (v := .ty "tuple") rfl m_tuple bt_tuple rfl))) (xw_or1 (xt_val (xe_isinst .list m_isinstance (xe_var (pv 1)) (pe_bltn (v := .ty "list") rfl m_list bt_list rfl)))))) (xss_cons (xs_if (XW.pt (xw_or (xt_cmp (op_neA K hu0) ox_ne (xe_isinst .tuple m_isinstance (xe_var (pv 0)) (pe_bltn (v := .ty "tuple") rfl m_tuple bt_tuple rfl)) (xe_isinst .tuple m_isinstance (xe_var (pv 1)) (pe_bltn (v := .ty "tuple") rfl m_tuple bt_tuple rfl)) (nomark _)) (xw_or1 (xt_cmp (op_neA K hu0) ox_ne (xe_isinst .list m_isinstance (xe_var (pv 0)) (pe_bltn (v := .ty "list") rfl m_list bt_list rfl)) (xe_isinst .list m_isinstance (xe_var (pv 1)) (pe_bltn (v := .ty "list") rfl m_list bt_list rfl)) (nomark _))))) (xss_one (xs_ret xe_bl)) xss_nil)
    (xss_cons (xs_if (xt_cmp (op_neA K hu0) ox_ne (xe_callB (call_lenA K) cx_len (by rfl) m_len PySem.boot_len (xa_cons (xe_var (pv 0)) xa_nil)) (xe_callB (call_lenA K) cx_len (by rfl) m_len PySem.boot_len (xa_cons (xe_var (pv 1)) xa_nil)) (nomark _)) (xss_one (xs_ret xe_bl)) xss_nil)
    (xss_one (xs_ret (xe_cmp (op_eqA K hu0) ox_eq (xe_comp (dsc := defScope s_law_alike) (N := ["found", "due"]) (tgs := ["k"]) (outs := [0, 1]) (N' := ["k", "found", "due"]) (by refine ⟨rfl, ?_, ?_, ?_, rfl, ?_, ?_, ?_⟩ <;> decide +kernel) (xi_range1 m_range (xa_cons (xe_callB (call_lenA K) cx_len (by rfl) m_len PySem.boot_len (xa_cons (xe_var (pv 1)) xa_nil)) xa_nil)) (fun _ _ _ _ _ => (pg_name (i := 0) (show (["k", "found", "due"] : List Str).Nodup by decide +kernel) rfl (Or.inl rfl) (.inr rfl))) (gx_name (n := 1) (i := 0) (by decide)) (tgt_name (by decide)) (fun _ _ _ _ _ => (xcs_one (xt_not (xt_val (xe_call CAL (hr.mono (by omega)) (xa_cons (xe_ix K (xe_var (pv 1)) (xe_var (pv 0)) (fun _ _ => rfl)) (xa_cons (xe_ix K (xe_var (pv 2)) (xe_var (pv 0)) (fun _ _ => rfl)) xa_nil))))))) (fun _ _ _ _ _ => (xe_var (pv 0)))) (xe_lst xa_nil) (nomark _)))))) xss_nil)
    (xss_cons (xs_if (xt_val (xe_isinst .str m_isinstance (xe_var (pv 1)) (pe_bltn (v := .ty "str") rfl m_str bt_str rfl))) (xss_one (xs_ret (xe_and (xe_isinst .str m_isinstance (xe_var (pv 0)) (pe_bltn (v := .ty "str") rfl m_str bt_str rfl)) (xe_one (xe_cmp (op_eqA K hu0) ox_eq (xe_var (pv 0)) (xe_var (pv 1)) (nomark _)))))) xss_nil)
    (xss_one (xs_ret (xe_and (xe_isinst .int m_isinstance (xe_var (pv 0)) (pe_bltn (v := .ty "int") rfl m_int bt_int rfl)) (xe_and (xe_not (xe_isinst .bool m_isinstance (xe_var (pv 0)) (pe_bltn (v := .ty "bool") rfl m_bool bt_bool rfl))) (xe_one (xe_cmp (op_eqA K hu0) ox_eq (xe_var (pv 0)) (xe_var (pv 1)) (nomark _)))))))))), fun ds Q h => ?_⟩
  obtain ⟨d, rfl, hd, q⟩ := h
  rcases hd with ⟨i, rfl, hn⟩ | ⟨xs, rfl, hn, hl⟩
  · show Q (.tr (.bl (decide (i = i))))
    rw [decide_eq_true rfl]
    exact q
  · show if (!decide (((xs.map Dx.int).length : Int) = ((xs.map Dx.int).length : Int))) = true then _ else _
    rw [decide_eq_true rfl]
    refine ⟨⟨by omega, by rw [List.length_map]; omega⟩, ?_⟩
    rw [show (((xs.map Dx.int).length : Nat) : Int).toNat = xs.length from by rw [List.length_map]; omega]
    have hlen : (rngX 0 xs.length).length ≤ 1000000 := by unfold rngX; rw [List.length_map, List.length_range]; omega
    refine ⟨hlen, ?_⟩
    show compX _ _ _ _ _ ((List.range xs.length).map fun t : Nat => Dx.int (0 + (t : Int))) _ _
    refine compX_ind (fun t : Nat => Dx.int (0 + (t : Int))) (fun rest acc cs => (∀ t ∈ rest, t < xs.length) ∧ acc = [] ∧ cs = [.v (.tr (.lst (xs.map Dx.int))), .v (.tr (.lst (xs.map Dx.int)))]) (fun acc cs h => ?_) (fun t rest acc cs Pn h hk => ?_) ⟨fun t ht => List.mem_range.mp ht, rfl, rfl⟩
    · obtain ⟨_, rfl, rfl⟩ := h
      exact ⟨Nat.zero_le _, q⟩
    · obtain ⟨ht, rfl, rfl⟩ := h
      have htx := ht t List.mem_cons_self
      obtain ⟨d, hd1, hd2⟩ := atI_of (l := xs.map Dx.int) (i := 0 + (t : Int)) (by omega) (by rw [List.length_map]; omega)
      rw [List.getElem?_map] at hd2
      obtain ⟨z, _, rfl⟩ := Option.map_eq_some_iff.mp hd2
      show match atI (xs.map Dx.int) (0 + (t : Int)) with | some d => _ | none => False
      rw [hd1]
      show match atI (xs.map Dx.int) (0 + (t : Int)) with | some d => _ | none => False
      rw [hd1]
      exact ⟨.int z, rfl, .inl ⟨z, rfl, by omega⟩, hk _ _ ⟨fun t' h' => ht t' (List.mem_cons_of_mem _ h'), rfl, rfl⟩⟩
set_option maxHeartbeats 16000000 in
theorem okx_as (F : Fun K "_law_asked" "_law_asked" s_law_asked f fd) (CRB : CalE P w K mg base 2 "read_bytes" ["text"] (spE (gRB C_NoText))) (Kt : Kit48 K mg C_NoValue C_NoBytes C_NoMake C_NoText C_NoName C_NoRow) (O_FieldError : PyProof.Rows.OwnCls "FieldError" C_FieldError veM "ValueError.__new__" mg base) (hun : Under base C_NoText C_FieldError) (m_isinstance : mg "isinstance" = none) (m_int : mg "int" = none) (m_ValueError : mg "ValueError" = none) : FnOk P w K mg base CX0 3 f fd ["text"] (spX gAS) := by
  have M_NoValue := Kt.mV
  have M_NoBytes := Kt.mB
  have M_NoMake := Kt.mM
  have M_NoText := Kt.mT
  have M_NoName := Kt.mN
  have M_NoRow := Kt.mR
  refine fn_x F sc_law_asked (fun ds Q h => by rcases h with ⟨_, rfl, _⟩ | ⟨_, rfl, _⟩ <;> rfl) (by decide) fun cdv A outer s H E hr => ?_
  have hu1 := hu_of hr
  have hu0 := Nat.lt_of_succ_lt hu1
  refine ⟨_, (xss_cons (xs_setP fun F => ps_set (i := 1) sc_law_asked.nd rfl (Or.inl rfl) (XE.at (Ex := noEx) F xe_non))
    (xss_cons (xs_setP fun F => ps_set (i := 2) sc_law_asked.nd rfl (Or.inl rfl) (XE.at (Ex := noEx) F xe_non))
    (xss_cons (xs_try (jn := 3) (xq_set (i := 1) fun _ _ _ _ => ps_set (i := 1) sc_law_asked.nd rfl (Or.inl rfl) (pe_callT CRB (hr.mono (by omega)) (xa_cons (xe_var (pv 0)) xa_nil))) O_FieldError rfl rfl (by rfl) sc_law_asked.nd rfl (by rfl) (fun _ => (xss_one (xs_setP fun F => ps_set (i := 2) sc_law_asked.nd rfl (Or.inl rfl) (XE.at (Ex := noEx) F (xe_var (pv 3)))))))
    (xss_cons (xs_if (xt_cmp op_isN ox_isN (xe_var (pv 2)) xe_non (nomark _)) (xss_one (xs_ret (xe_tupW (xa_cons xe_str (xa_cons (xe_move (pv 1)) xa_nil))))) xss_nil)
    (xss_cons (xs_if (XW.pt (xw_or (xt_val (xe_isCs (cs := [.ref C_NoBytes, .ref C_NoMake, .ref C_NoName, .ref C_NoRow, .ref C_NoValue]) (vcs := [.ref C_NoBytes, .ref C_NoMake, .ref C_NoName, .ref C_NoRow, .ref C_NoValue]) K m_isinstance (xe_var (pv 2)) (pa_cons (pe_glob (v := .ref C_NoBytes) (by rfl) M_NoBytes rfl) (pa_cons (pe_glob (v := .ref C_NoMake) (by rfl) M_NoMake rfl) (pa_cons (pe_glob (v := .ref C_NoName) (by rfl) M_NoName rfl) (pa_cons (pe_glob (v := .ref C_NoRow) (by rfl) M_NoRow rfl) (pa_cons (pe_glob (v := .ref C_NoValue) (by rfl) M_NoValue rfl) pa_nil))))) (fun _ _ _ q => q) (fun _ h => vals_refsX (as := [C_NoBytes, C_NoMake, C_NoName, C_NoRow, C_NoValue]) h) (by simp only [List.length_cons, List.length_nil]; decide))) (xw_or1 (xt_not (xt_val (xe_isC (c := .type "ValueError") K m_isinstance (xe_var (pv 2)) (pe_bltn (v := .ty "ValueError") rfl m_ValueError bt_ValueError rfl) (fun _ h => h))))))) (xss_one (xs_ret (xe_tup (xa_cons xe_str (xa_cons xe_non xa_nil))))) xss_nil)
    (xss_one (xs_ret (xe_tup (xa_cons (xe_ix K (xe_lst (xa_cons xe_str (xa_cons xe_str xa_nil))) (xe_callTy call_int1 cx_int (by rfl) m_int bt_int (xa_cons (xe_isC (c := .ref C_NoText) K m_isinstance (xe_var (pv 2)) (pe_glob (v := .ref C_NoText) (by rfl) M_NoText rfl) (fun _ h => h)) xa_nil)) (fun _ _ => rfl)) (xa_cons xe_non xa_nil)))))))))), fun ds Q h => ?_⟩
  have e2 : isC K (.ref C_NoText) (.exc (.ref C_NoText)) = some true := by simp only [isC]; rw [if_pos Kt.kit]; exact Kt.kT
  have e3 : isC K (.type "ValueError") (.exc (.ref C_NoText)) = some true := by simp only [isC]; rw [if_pos Kt.kit]; exact Kt.kE
  have e4 : isCs K [.ref C_NoBytes, .ref C_NoMake, .ref C_NoName, .ref C_NoRow, .ref C_NoValue] (.exc (.ref C_NoText)) = some false := by simp only [isCs]; rw [if_pos Kt.kit]; exact Kt.kA
  have refused : ∀ (d : Dx), Q (.tr tupNo) → xSeq (xIf (xB (xOp (isNX false) (xVar 2) (xC .non))) (xRet (xTupW (xCons (xC (.str "told")) (xCons (xMove 1) xNil)))) xNext)
      (xSeq (xIf (xOr (xB (xIsK (isCs K [.ref C_NoBytes, .ref C_NoMake, .ref C_NoName, .ref C_NoRow, .ref C_NoValue]) (xVar 2))) (xNot (xB (xIsK (isC K (.type "ValueError")) (xVar 2))))) (xRet (xTup (xCons (xC (.str "odd")) (xCons (xC .non) xNil)))) xNext)
        (xRet (xTup (xCons (xOp ixX (xLst (xCons (xC (.str "odd")) (xCons (xC (.str "NoText")) xNil))) (xCall intX (xCons (xIsK (isC K (.ref C_NoText)) (xVar 2)) xNil))) (xCons (xC .non) xNil))))) [.v (.tr d), .v (.tr .non), .v (.tr (.exc (.ref C_NoText))), .un] (retX Q) := fun d q => by
    refine go_skip (ρ' := [.v (.tr d), .v (.tr .non), .v (.tr (.exc (.ref C_NoText))), .un]) (fun Q q => q) ?_
    refine go_skip (ρ' := [.v (.tr d), .v (.tr .non), .v (.tr (.exc (.ref C_NoText))), .un]) (fun Q q => ?_) ?_
    · exact go_or (go_b (go_isK rfl e4 (go_not (go_b (go_isK rfl e3 q)))))
    · refine go_ret ?_
      refine go_tupA ?_
      refine go_cons (go_op (go_lst ⟨len2, ?_⟩))
      refine go_call (go_cons (go_isK rfl e2 ?_))
      exact ⟨len2, q⟩
  rcases h with ⟨x, rfl, hxl, qy, qn⟩ | ⟨d, rfl, hd, q⟩
  · refine .inl ⟨x, rfl, hxl, fun l hl => ?_, fun hn => ?_⟩
    · exact qy l hl
    · exact ⟨⟨C_NoText, rfl, hun⟩, refused (.str x) (qn hn)⟩
  · refine .inr ⟨d, rfl, hd, ⟨C_NoText, rfl, hun⟩, ?_⟩
    exact refused d q
end

theorem bxss {X : Cx} {Ex : ExT} {l : List Stmt} {G : XS} (h : Bx (XSs X Ex l G)) : XSs X Ex l G := h.out
def gCH : GB := fun l ds Q => ∃ x : Str, ds = [.str x] ∧ NumsX l ∧ x.length ≤ 3100 ∧ ∀ (x' : Str) (l' : List Dx), x'.length ≤ 10000 → NumsX l' → Q (.str x') l'
def rd_ch (K : PySem.W.Frag) : XS := (xSeq (xSet 2 (xOp modX (xOp addX (xCallB gTK 1 (xCons (xC (.int 64)) xNil)) (xOp mulX (xC (.int 64)) (xCallB gTK 1 (xCons (xC (.int 64)) xNil)))) (xOp addX (xCall lenX (xCons (xVar 0) xNil)) (xC (.int 1)))))
    (xSeq (xSet 3 (xOp ixX (xC (.str "0123456789abcdefgABF -x,+_\n\t")) (xCallB gTK 1 (xCons (xC (.int 28)) xNil))))
    (xSeq (xSet 4 (xCallB gTK 1 (xCons (xC (.int 8)) xNil)))
    (xSeq (xIf (xB (xOp eqX (xVar 4) (xC (.int 0)))) (xRet (xOp addX (xSl (xVar 0) xoN (xoS (xVar 2))) (xSl (xVar 0) (xoS (xOp addX (xVar 2) (xC (.int 1)))) xoN))) xNext)
    (xSeq (xIf (xB (xOp ltX (xVar 4) (xC (.int 3)))) (xRet (xOp addX (xOp addX (xSl (xVar 0) xoN (xoS (xVar 2))) (xVar 3)) (xSl (xVar 0) (xoS (xOp subX (xOp addX (xVar 2) (xVar 4)) (xC (.int 1)))) xoN))) xNext)
    (xSeq (xIf (xB (xOp eqX (xVar 4) (xC (.int 3)))) (xRet (xOp addX (xOp addX (xSl (xVar 0) xoN (xoS (xVar 2))) (xRevS (xSl (xVar 0) (xoS (xVar 2)) (xoS (xOp addX (xVar 2) (xC (.int 2))))))) (xSl (xVar 0) (xoS (xOp addX (xVar 2) (xC (.int 2)))) xoN))) xNext)
    (xSeq (xIf (xB (xOp eqX (xVar 4) (xC (.int 4)))) (xRet (xRepl "a" (xVar 0) (xC (.str "A")))) xNext)
    (xSeq (xIf (xB (xOp eqX (xVar 4) (xC (.int 5)))) (xRet (xRepl " " (xVar 0) (xIxW ["  ", "", "\n", ", "] (xCallB gTK 1 (xCons (xC (.int 4)) xNil))))) xNext)
    (xSeq (xIf (xB (xOp eqX (xVar 4) (xC (.int 6)))) (xRet (xOp addX (xOp ixX (xLst (xCons (xC (.str " ")) (xCons (xC (.str "\n")) (xCons (xC (.str "-")) (xCons (xC (.str "0")) (xCons (xC (.str "0x")) (xCons (xC (.str "- ")) xNil))))))) (xCallB gTK 1 (xCons (xC (.int 6)) xNil))) (xVar 0))) xNext)
    (xRet (xOp addX (xVar 0) (xOp ixX (xLst (xCons (xC (.str " ")) (xCons (xC (.str "\n")) (xCons (xC (.str "-")) (xCons (xC (.str "0")) (xCons (xC (.str " -")) (xCons (xC (.str " 0")) xNil))))))) (xCallB gTK 1 (xCons (xC (.int 6)) xNil))))))))))))))
section
variable {P : Program} {w : World} {K : PySem.W.Frag} {mg : Str → Option Value} {base : Heap} {f : Addr} {fd : FuncData}
set_option maxHeartbeats 16000000 in
theorem der_ch (CTK : Cal P w K mg base 1 "_law_take" ["deck", "many"] (spB gTK)) (m_len : mg "len" = none)
    {cdv : Value} {A : Around} {outer : List Env} {s : Shared} {H : Hp} {E : XK} (hr : Room 1 (A.deeper (PyProof.Rows.envOfC "_law_changed" (defScope s_law_changed) s.heap.objs.size f cdv))) :
    XSs (cxOf CX0 P w K mg base (["text", "deck", "at", "sign", "way"] : List Str) "_law_changed" (defScope s_law_changed) f cdv A outer s H E).nox noEx (defBody s_law_changed) (rd_ch K) := by
  have hu1 := hu_of hr
  have hu0 := Nat.lt_of_succ_lt hu1
  exact (bxss (bss_cons (Bx.mk (xs_setP fun F => ps_set (i := 2) sc_law_changed.nd rfl (Or.inl rfl) (XE.at (Ex := noEx) F (xe_mod (xe_add (xe_callP (i := 1) CTK (hr.mono (by omega)) (pv 1) (xa_cons xe_int xa_nil)) (xe_mul xe_int (xe_callP (i := 1) CTK (hr.mono (by omega)) (pv 1) (xa_cons xe_int xa_nil)))) (xe_add (xe_callB (call_lenA K) cx_len (by rfl) m_len PySem.boot_len (xa_cons (xe_var (pv 0)) xa_nil)) xe_int)))))
    (bss_cons (Bx.mk (xs_setP fun F => ps_set (i := 3) sc_law_changed.nd rfl (Or.inl rfl) (XE.at (Ex := noEx) F (xe_ix K xe_str (xe_callP (i := 1) CTK (hr.mono (by omega)) (pv 1) (xa_cons xe_int xa_nil)) (fun _ _ => rfl)))))
    (bss_cons (Bx.mk (xs_setP fun F => ps_set (i := 4) sc_law_changed.nd rfl (Or.inl rfl) (XE.at (Ex := noEx) F (xe_callP (i := 1) CTK (hr.mono (by omega)) (pv 1) (xa_cons xe_int xa_nil)))))
    (bss_cons (Bx.mk (xs_if (xt_cmp (op_eqA K hu0) ox_eq (xe_var (pv 4)) xe_int (nomark _)) (bxss (bss_one (Bx.mk (xs_ret (xe_add (xe_slice K (xe_var (pv 0)) xo_none (xo_some (xe_var (pv 2)))) (xe_slice K (xe_var (pv 0)) (xo_some (xe_add (xe_var (pv 2)) xe_int)) xo_none)))))) xss_nil))
    (bss_cons (Bx.mk (xs_if (xt_cmp op_lt ox_lt (xe_var (pv 4)) xe_int (nomark _)) (bxss (bss_one (Bx.mk (xs_ret (xe_add (xe_add (xe_slice K (xe_var (pv 0)) xo_none (xo_some (xe_var (pv 2)))) (xe_var (pv 3))) (xe_slice K (xe_var (pv 0)) (xo_some (xe_sub (xe_add (xe_var (pv 2)) (xe_var (pv 4))) xe_int)) xo_none)))))) xss_nil))
    (bss_cons (Bx.mk (xs_if (xt_cmp (op_eqA K hu0) ox_eq (xe_var (pv 4)) xe_int (nomark _)) (bxss (bss_one (Bx.mk (xs_ret (xe_add (xe_add (xe_slice K (xe_var (pv 0)) xo_none (xo_some (xe_var (pv 2)))) (xe_revS (xe_slice K (xe_var (pv 0)) (xo_some (xe_var (pv 2))) (xo_some (xe_add (xe_var (pv 2)) xe_int))))) (xe_slice K (xe_var (pv 0)) (xo_some (xe_add (xe_var (pv 2)) xe_int)) xo_none)))))) xss_nil))
    (bss_cons (Bx.mk (xs_if1 (op_eqA K hu0) ox_eq (xe_var (pv 4)) (nomark _) (xss_one1 (xs_ret1 (xe1_repl (xe_var (pv 0)) xe2_str))) xss_nil))
    (bss_cons (Bx.mk (xs_if1 (op_eqA K hu0) ox_eq (xe_var (pv 4)) (nomark _) (xss_one1 (xs_ret1 (xe1_repl (xe_var (pv 0)) (xe2_ixw (xa2_cons (xa2_cons (xa2_cons (xa2_cons xa2_nil)))) (by decide) (xe_callP (i := 1) CTK (hr.mono (by omega)) (pv 1) (xa_cons xe_int xa_nil)) (fun _ _ => rfl))))) xss_nil))
    (bss_cons (bs_if (Bx.mk (xt_cmp (op_eqA K hu0) ox_eq (xe_var (pv 4)) xe_int (nomark _))) (bss_one (Bx.mk (xs_ret (xe_add (xe_ix K (xe_lst (xa_cons xe_str (xa_cons xe_str (xa_cons xe_str (xa_cons xe_str (xa_cons xe_str (xa_cons xe_str xa_nil))))))) (xe_callP (i := 1) CTK (hr.mono (by omega)) (pv 1) (xa_cons xe_int xa_nil)) (fun _ _ => rfl)) (xe_var (pv 0)))))) bss_nil)
    (bss_one (Bx.mk (xs_ret (xe_add (xe_var (pv 0)) (xe_ix K (xe_lst (xa_cons xe_str (xa_cons xe_str (xa_cons xe_str (xa_cons xe_str (xa_cons xe_str (xa_cons xe_str xa_nil))))))) (xe_callP (i := 1) CTK (hr.mono (by omega)) (pv 1) (xa_cons xe_int xa_nil)) (fun _ _ => rfl))))))))))))))))
end

theorem sl_le {x : Str} {a b : Option Int} {n : Nat} (h : x.length ≤ n) : (Txt.slice x a b).length ≤ n := Nat.le_trans (Txt.slice_le x a b) h
theorem app_le {x y : Str} {n m : Nat} (h : x.length ≤ n) (h' : y.length ≤ m) : (x ++ y).length ≤ n + m := by rw [len_app]; omega
theorem rev_le {x : Str} {n : Nat} (h : x.length ≤ n) : (revS x).length ≤ n := by rw [revS_len]; exact h
theorem ixX_str {z : Str} {r : Int} {Q : Sv → Prop} (h0 : 0 ≤ r) (h1 : r < z.length) (h2 : z.length ≤ 1000000) (q : ∀ c, Q (.tr (.str ⟨#[c]⟩))) : ixX (.str z) (.int r) Q := by
  refine ⟨h2, ?_⟩
  obtain ⟨c, hc, _⟩ := atI_of (l := z.cps.toList) h0 (by rw [Array.length_toList]; exact h1)
  rw [hc]
  exact q c
theorem six {l : List Str} {n : Nat} (h : ∀ z ∈ l, z.length ≤ n) {r : Int} {Q : Sv → Prop} (h0 : 0 ≤ r) (h1 : r < l.length) (q : ∀ z : Str, z.length ≤ n → Q (.tr (.str z))) : ixX (.lst (l.map Dx.str)) (.int r) Q := ixX_in h0 (by rw [List.length_map]; exact h1) fun d hd => by
  obtain ⟨z, hz, rfl⟩ := List.mem_map.mp hd
  exact q z (h z hz)
section
variable {P : Program} {w : World} {K : PySem.W.Frag} {mg : Str → Option Value} {base : Heap} {f : Addr} {fd : FuncData}
set_option maxHeartbeats 16000000 in
theorem okx_ch (F : Fun K "_law_changed" "_law_changed" s_law_changed f fd) (CTK : Cal P w K mg base 1 "_law_take" ["deck", "many"] (spB gTK)) (m_len : mg "len" = none) : FnOk P w K mg base CX0 2 f fd ["text", "deck"] (spB2 gCH) := by
  refine fn_b2 F sc_law_changed (fun l ds Q h => by obtain ⟨_, rfl, _⟩ := h; rfl) rfl (by decide) fun cdv A outer s H E hr => ?_
  refine ⟨_, der_ch CTK m_len hr, fun l d Q h => ?_⟩
  clear hr
  obtain ⟨x, e, hN, hx, q⟩ := h
  cases e
  unfold rd_ch
  have hx6 : x.length ≤ 1000000 := by omega
  refine ⟨rfl, 64, rfl, hN, by decide, fun r1 l1 a0 a1 hN1 => ?_⟩
  refine ⟨rfl, 64, rfl, hN1, by decide, fun r2 l2 b0 b1 hN2 => ?_⟩
  refine ⟨⟨by decide, by omega⟩, hx6, ?_⟩
  refine ⟨by show (0 : Int) < (x.length : Int) + 1; omega, ?_⟩
  dsimp only
  generalize (r1 + 64 * r2) % ((x.length : Int) + 1) = at_
  change xSeq _ _ [.v (.tr (.str x)), .bw l2, .v (.tr (.int at_)), .un, .un] _
  refine go_set (go_op (go_c1 ?_))
  refine ⟨rfl, 28, rfl, hN2, by decide, fun r3 l3 c0 c1 hN3 => ?_⟩
  refine ixX_str c0 c1 (by decide) fun c => ?_
  refine ⟨rfl, 8, rfl, hN3, by decide, fun way l4 w0 w1 hN4 => ?_⟩
  dsimp only
  have hone : (⟨#[c]⟩ : Str).length = 1 := rfl
  generalize (⟨#[c]⟩ : Str) = sign at hone ⊢
  change xSeq _ _ [.v (.tr (.str x)), .bw l4, .v (.tr (.int at_)), .v (.tr (.str sign)), .v (.tr (.int way))] _
  have fin : ∀ (z : Str) (n : Nat) (l' : List Dx), z.length ≤ n → n ≤ 10000 → NumsX l' → Q (.str z) l' := fun z n l' h h' hn => q z l' (Nat.le_trans h h') hn
  refine go_ifB (decide (way = 0)) (ρ' := [.v (.tr (.str x)), .bw l4, .v (.tr (.int at_)), .v (.tr (.str sign)), .v (.tr (.int way))]) (fun Q q => q) (fun _ => ?_) (fun _ => ?_)
  · have h1 := sl_le (a := none) (b := some at_) hx
    have h2 := sl_le (a := some (at_ + 1)) (b := none) hx
    exact ⟨hx6, hx6, ⟨by omega, fin _ _ _ (app_le h1 h2) (by decide) hN4⟩⟩
  refine go_ifB (decide (way < 3)) (ρ' := [.v (.tr (.str x)), .bw l4, .v (.tr (.int at_)), .v (.tr (.str sign)), .v (.tr (.int way))]) (fun Q q => q) (fun _ => ?_) (fun _ => ?_)
  · have h1 := sl_le (a := none) (b := some at_) hx
    have h2 := sl_le (a := some (at_ + way - 1)) (b := none) hx
    have h3 := app_le h1 (Nat.le_of_eq hone)
    exact ⟨hx6, ⟨by omega, hx6, ⟨by omega, fin _ _ _ (app_le h3 h2) (by decide) hN4⟩⟩⟩
  refine go_ifB (decide (way = 3)) (ρ' := [.v (.tr (.str x)), .bw l4, .v (.tr (.int at_)), .v (.tr (.str sign)), .v (.tr (.int way))]) (fun Q q => q) (fun _ => ?_) (fun _ => ?_)
  · have h1 := sl_le (a := none) (b := some at_) hx
    have h2 := rev_le (sl_le (a := some at_) (b := some (at_ + 2)) hx)
    have h3 := sl_le (a := some (at_ + 2)) (b := none) hx
    have h4 := app_le h1 h2
    refine ⟨hx6, hx6, ?_⟩
    refine ⟨by have := sl_le (a := some at_) (b := some (at_ + 2)) hx; omega, ?_⟩
    exact ⟨by omega, hx6, ⟨by omega, fin _ _ _ (app_le h4 h3) (by decide) hN4⟩⟩
  refine go_ifB (decide (way = 4)) (ρ' := [.v (.tr (.str x)), .bw l4, .v (.tr (.int at_)), .v (.tr (.str sign)), .v (.tr (.int way))]) (fun Q q => q) (fun _ => ?_) (fun _ => ?_)
  · exact ⟨⟨x, rfl⟩, x, "A", rfl, rfl, by decide, by show x.length + 1 ≤ _; omega, fun x' h' => fin x' 3101 _ (Nat.le_trans h' (by show x.length + 1 ≤ _; omega)) (by decide) hN4⟩
  refine go_ifB (decide (way = 5)) (ρ' := [.v (.tr (.str x)), .bw l4, .v (.tr (.int at_)), .v (.tr (.str sign)), .v (.tr (.int way))]) (fun Q q => q) (fun _ => ?_) (fun _ => ?_)
  · refine ⟨⟨x, rfl⟩, rfl, 4, rfl, hN4, by decide, fun r5 l5 d0 d1 hN5 => ?_⟩
    have hz : ∃ z : Str, ([Str.ofString "  ", Str.ofString "", Str.ofString "\n", Str.ofString ", "] : List Str)[r5.toNat]? = some z ∧ z.length ≤ 2 ∧ ((Str.ofString " ") == z) = false := by
      have : r5 = 0 ∨ r5 = 1 ∨ r5 = 2 ∨ r5 = 3 := by omega
      rcases this with rfl | rfl | rfl | rfl
      · exact ⟨_, rfl, by decide, by decide⟩
      · exact ⟨_, rfl, by decide, by decide⟩
      · exact ⟨_, rfl, by decide, by decide⟩
      · exact ⟨_, rfl, by decide, by decide⟩
    obtain ⟨z, z1, z2, z3⟩ := hz
    refine ⟨r5.toNat, z, by rw [show ((r5.toNat : Nat) : Int) = r5 from by omega]; rfl, z1, x, z, rfl, rfl, z3, by omega, fun x' h' => fin x' 3102 _ (by omega) (by decide) hN5⟩
  refine go_ifB (decide (way = 6)) (ρ' := [.v (.tr (.str x)), .bw l4, .v (.tr (.int at_)), .v (.tr (.str sign)), .v (.tr (.int way))]) (fun Q q => q) (fun _ => ?_) (fun _ => ?_)
  · refine ⟨lenA (by show 6 ≤ 1000000; decide), rfl, 6, rfl, hN4, by decide, fun r5 l5 d0 d1 hN5 => ?_⟩
    refine six (l := [" ", "\n", "-", "0", "0x", "- "]) (n := 2) (by decide) d0 d1 fun z hz => ?_
    exact ⟨by omega, fin _ _ _ (app_le hz hx) (by decide) hN5⟩
  · refine ⟨lenA (by show 6 ≤ 1000000; decide), rfl, 6, rfl, hN4, by decide, fun r5 l5 d0 d1 hN5 => ?_⟩
    refine six (l := [" ", "\n", "-", "0", " -", " 0"]) (n := 2) (by decide) d0 d1 fun z hz => ?_
    exact ⟨by omega, fin _ _ _ (app_le hx hz) (by decide) hN5⟩
end

def rd_law (K : PySem.W.Frag) : XS := (xSeq (xFor (xiR1 (xCons (xCall max2X (xCons (xC (.int 1)) (xCons (xCall min2X (xCons (xCall (lenZ K) (xCons (xVar 0) xNil)) (xCons (xC (.int 12)) xNil))) xNil))) xNil)) (gxN 1) (xSeq (xSet 2 (xSl (xCall gNU (xCons (xCall (gCA K) (xCons (xVar 0) (xCons (xVar 1) xNil))) (xCons (xC (.int 60)) xNil))) (xoS (xC (.int 40))) xoN))
    (xSeq (xSet 3 (xComp 1 [] (xiL (xSl (xCall gNU (xCons (xCall (gCA K) (xCons (xVar 0) (xCons (xVar 1) xNil))) (xCons (xC (.int 40)) xNil))) xoN (xoS (xCallB gTK 2 (xCons (xC (.int 41)) xNil))))) (gxN 0) xYes (xOp modX (xOp mulX (xVar 0) (xC (.int 7))) (xC (.int 256)))))
    (xSeq (xIf (xB (xOp eqX (xCallB gTK 2 (xCons (xC (.int 8)) xNil)) (xC (.int 3)))) (xSet 3 (xComp 1 [] (xiR1 (xCons (xC (.int 1000)) xNil)) (gxN 0) xYes (xOp modX (xOp addX (xOp mulX (xC (.int 37)) (xOp fdivX (xVar 0) (xC (.int 40)))) (xVar 0)) (xC (.int 256))))) xNext)
    (xSeq (xSet 4 (xCall gBW (xCons (xVar 3) xNil)))
    (xSeq (xSet 5 (xCall listX (xCons (xVar 3) xNil)))
    (xSeq (xSet 6 (xCall gSH (xCons (xVar 5) xNil)))
    (xSeq (xIf (xOr (xNot (xB (xIs .str (xVar 6)))) (xOr (xB (xOp neX (xVar 6) (xVar 4))) (xB (xOp (eqI true) (xVar 5) (xVar 3))))) (xRet (xC (.bl false))) xNext)
    (xSeq (xSet 7 (xCallB gTK 2 (xCons (xC (.int 8)) xNil)))
    (xSeq (xIf (xB (xOp ltX (xVar 7) (xC (.int 4)))) (xSet 4 (xCallB2 gCH 2 (xVar 4))) xNext)
    (xSeq (xIf (xB (xOp eqX (xVar 7) (xC (.int 4)))) (xSeq (xSet 8 (xLst (xCons (xC (.str "")) (xCons (xC (.str " ")) (xCons (xC (.str "0")) (xCons (xC (.str "00")) (xCons (xC (.str "000")) (xCons (xC (.str "0 0")) (xCons (xC (.str "00 ")) (xCons (xC (.str " 00")) (xCons (xC (.str "--")) (xCons (xC (.str "- -")) (xCons (xC (.str "0g")) (xCons (xC (.str "FF")) (xCons (xC (.str "fF")) (xCons (xC (.str "0x00")) xNil))))))))))))))))
    (xSeq (xSet 8 (xOp addX (xVar 8) (xLst (xCons (xC (.str "00,00")) (xCons (xC (.str "00  00")) (xCons (xC (.str "00\n")) (xCons (xC (.str "-0")) (xCons (xC (.str "+1")) (xCons (xC (.str "1_")) (xCons (xC (.str "256")) (xCons (xC (.str "ff ff f")) xNil)))))))))))
    (xSet 4 (xOp ixX (xVar 8) (xCallB gTK 2 (xCons (xC (.int 22)) xNil)))))) xNext)
    (xSeq (xSet 4 (xSl (xVar 4) xoN (xoS (xC (.int 3000)))))
    (xSeq (xSet 9 (xCall gLR (xCons (xVar 4) xNil)))
    (xSeq (xIf (xAnd (xB (xOp eqX (xVar 7) (xC (.int 5)))) (xB (xOp eqX (xCallB gTK 2 (xCons (xC (.int 2)) xNil)) (xC (.int 0))))) (xSeq (xSet 4 (xOp ixX (xLst (xCons (xC .non) (xCons (xC (.int 7)) (xCons (xLst (xCons (xC (.int 0)) xNil)) (xCons (xLst (xCons (xC (.str "00")) xNil)) (xCons (xC (.bl true)) (xCons xDNew (xCons (xTup (xCons (xC (.str "00")) xNil)) (xCons (xC (.int 0)) xNil))))))))) (xCallB gTK 2 (xCons (xC (.int 8)) xNil))))
    (xSet 9 (xC .non))) xNext)
    (xSeq (xAsgW 10 6 (xCall gAS (xCons (xVar 4) xNil)))
    (xSeq (xIf (xOr (xB (xOp neX (xVar 10) (xOp ixX (xLst (xCons (xC (.str "told")) (xCons (xC (.str "NoText")) xNil))) (xCall intX (xCons (xOp (isNX false) (xVar 9) (xC .non)) xNil))))) (xAnd (xB (xOp (isNX true) (xVar 9) (xC .non))) (xNot (xB (xCallPk (gAL 2) 6 (xCons (xVar 9) xNil)))))) (xRet (xC (.bl false))) xNext)
    (xIf (xB (xOp (isNX true) (xVar 9) (xC .non))) (xSeq (xApp 6 (xC (.int 0)))
    (xIf (xNot (xB (xCall (gAL 2) (xCons (xOp ixX (xCall gAS (xCons (xVar 4) xNil)) (xC (.int 1))) (xCons (xVar 9) xNil))))) (xRet (xC (.bl false))) xNext)) xNext)))))))))))))))))
    (xRet (xC (.bl true))))
section
variable {P : Program} {w : World} {K : PySem.W.Frag} {mg : Str → Option Value} {base : Heap} {f : Addr} {fd : FuncData}
set_option maxHeartbeats 16000000 in
theorem der_law (CCA : Cal P w K mg base 1 "_law_cell_at" ["script", "k"] (spX (gCA K))) (CNU : Cal P w K mg base 1 "_law_numbers" ["cell", "many"] (spX gNU)) (CTK : Cal P w K mg base 1 "_law_take" ["deck", "many"] (spB gTK)) (CAL : Cal P w K mg base 2 "_law_alike" ["found", "due"] (spX (gAL 2))) (CAS : Cal P w K mg base 3 "_law_asked" ["text"] (spX gAS)) (CBW : Cal P w K mg base 1 "_law_bytes_written" ["some"] (spX gBW)) (CLR : Cal P w K mg base 1 "_law_read" ["text"] (spX gLR)) (CCH : Cal P w K mg base 2 "_law_changed" ["text", "deck"] (spB2 gCH)) (CSH : Cal P w K mg base 4 "show_bytes" ["thing"] (spX gSH))
    (m_max : mg "max" = none) (m_min : mg "min" = none) (m_range : mg "range" = none) (m_len : mg "len" = none) (m_int : mg "int" = none) (m_list : mg "list" = none) (m_str : mg "str" = none) (m_isinstance : mg "isinstance" = none)
    {cdv : Value} {A : Around} {outer : List Env} {s : Shared} {H : Hp} {E : XK} (hr : Room 4 (A.deeper (PyProof.Rows.envOfC "law" (defScope s_law) s.heap.objs.size f cdv))) :
    XSs (cxOf CX0 P w K mg base (["script", "k", "ways", "some", "text", "handed", "found", "way", "odd", "due", "word"] : List Str) "law" (defScope s_law) f cdv A outer s H E).nox noEx (defBody s_law) (rd_law K) := by
  have hu1 := hu_of hr
  have hu0 := Nat.lt_of_succ_lt hu1
  exact (bxss (bss_cons (Bx.mk (xs_for PassesOwn.never rfl (xi_range1 m_range (xa_cons (xe_callB (call_max2 (by rfl)) cx_max2 (by rfl) m_max bt_max (xa_cons xe_int (xa_cons (xe_callB (call_min2 (by rfl)) cx_min2 (by rfl) m_min bt_min (xa_cons (xe_callB (call_lenA K) cx_lenZ (by rfl) m_len PySem.boot_len (xa_cons (xe_var (pv 0)) xa_nil)) (xa_cons xe_int xa_nil))) xa_nil))) xa_nil)) (pg_name (i := 1) sc_law.nd rfl (Or.inl rfl)) (gx_name (n := 99) (i := 1) (by decide)) (bxss (bss_cons (Bx.mk (xs_setP fun F => ps_set (i := 2) sc_law.nd rfl (Or.inl rfl) (XE.at (Ex := noEx) F (xe_slice K (xe_call CNU (hr.mono (by omega)) (xa_cons (xe_call CCA (hr.mono (by omega)) (xa_cons (xe_var (pv 0)) (xa_cons (xe_var (pv 1)) xa_nil))) (xa_cons xe_int xa_nil))) (xo_some xe_int) xo_none))))
    (bss_cons (Bx.mk (xs_of fun F => PS.weak (ps_setC (i := 3) sc_law.nd rfl rfl (dsc := defScope s_law) (N := ["script", "k", "ways", "some", "text", "handed", "found", "way", "odd", "due", "word"]) (tgs := ["one"]) (outs := []) (N' := ["one"]) (by refine ⟨rfl, ?_, ?_, ?_, rfl, ?_, ?_, ?_⟩ <;> decide +kernel) (XIt.at (Ex := noEx) F (xi_list (xe_slice K (xe_call CNU (hr.mono (by omega)) (xa_cons (xe_call CCA (hr.mono (by omega)) (xa_cons (xe_var (pv 0)) (xa_cons (xe_var (pv 1)) xa_nil))) (xa_cons xe_int xa_nil))) xo_none (xo_some (xe_callP (i := 2) CTK (hr.mono (by omega)) (pv 2) (xa_cons xe_int xa_nil)))))) (fun _ _ _ _ _ => (pg_name (i := 0) (show (["one"] : List Str).Nodup by decide +kernel) rfl (Or.inl rfl) (.inr rfl))) (tgt_name (by decide)) (fun a b c d e => XCs.at (Ex := noEx) F xcs_nil) (fun a b c d e => XE.at (Ex := noEx) F (xe_mod (xe_mul (xe_var (pv 0)) xe_int) xe_int))) (setC_x (gx_name (n := 1) (i := 0) (by decide)) (by decide))))
    (bss_cons (Bx.mk (xs_if (xt_cmp (op_eqA K hu0) ox_eq (xe_callP (i := 2) CTK (hr.mono (by omega)) (pv 2) (xa_cons xe_int xa_nil)) xe_int (nomark _)) (bxss (bss_one (Bx.mk (xs_of fun F => PS.weak (ps_setC (i := 3) sc_law.nd rfl rfl (dsc := defScope s_law) (N := ["script", "k", "ways", "some", "text", "handed", "found", "way", "odd", "due", "word"]) (tgs := ["j"]) (outs := []) (N' := ["j"]) (by refine ⟨rfl, ?_, ?_, ?_, rfl, ?_, ?_, ?_⟩ <;> decide +kernel) (XIt.at (Ex := noEx) F (xi_range1 m_range (xa_cons xe_int xa_nil))) (fun _ _ _ _ _ => (pg_name (i := 0) (show (["j"] : List Str).Nodup by decide +kernel) rfl (Or.inl rfl) (.inr rfl))) (tgt_name (by decide)) (fun a b c d e => XCs.at (Ex := noEx) F xcs_nil) (fun a b c d e => XE.at (Ex := noEx) F (xe_mod (xe_add (xe_mul xe_int (xe_fdiv (xe_var (pv 0)) xe_int)) (xe_var (pv 0))) xe_int))) (setC_x (gx_name (n := 1) (i := 0) (by decide)) (by decide)))))) xss_nil))
    (bss_cons (Bx.mk (xs_setP fun F => ps_set (i := 4) sc_law.nd rfl (Or.inl rfl) (XE.at (Ex := noEx) F (xe_call CBW (hr.mono (by omega)) (xa_cons (xe_var (pv 3)) xa_nil)))))
    (bss_cons (Bx.mk (xs_setP fun F => ps_set (i := 5) sc_law.nd rfl (Or.inl rfl) (XE.at (Ex := noEx) F (xe_callTy (call_listA K) cx_list (by rfl) m_list bt_list (xa_cons (xe_var (pv 3)) xa_nil)))))
    (bss_cons (Bx.mk (xs_setP fun F => ps_set (i := 6) sc_law.nd rfl (Or.inl rfl) (XE.at (Ex := noEx) F (xe_call CSH (hr.mono (by omega)) (xa_cons (xe_var (pv 5)) xa_nil)))))
    (bss_cons (Bx.mk (xs_if (XW.pt (xw_or (xt_not (xt_val (xe_isinst .str m_isinstance (xe_var (pv 6)) (pe_bltn (v := .ty "str") rfl m_str bt_str rfl)))) (xw_or (xt_cmp (op_neA K hu0) ox_ne (xe_var (pv 6)) (xe_var (pv 4)) (nomark _)) (xw_or1 (xt_cmp (op_neZ hu0) ox_eqI (xe_var (pv 5)) (xe_var (pv 3)) (nomark _)))))) (bxss (bss_one (Bx.mk (xs_ret xe_bl)))) xss_nil))
    (bss_cons (Bx.mk (xs_setP fun F => ps_set (i := 7) sc_law.nd rfl (Or.inl rfl) (XE.at (Ex := noEx) F (xe_callP (i := 2) CTK (hr.mono (by omega)) (pv 2) (xa_cons xe_int xa_nil)))))
    (bss_cons (Bx.mk (xs_if (xt_cmp op_lt ox_lt (xe_var (pv 7)) xe_int (nomark _)) (bxss (bss_one (Bx.mk (xs_setP fun F => ps_set (i := 4) sc_law.nd rfl (Or.inl rfl) (XE.at (Ex := noEx) F (xe_callP2 (i := 2) CCH (hr.mono (by omega)) (xe_var (pv 4)) (pv 2))))))) xss_nil))
    (bss_cons (bs_if (Bx.mk (xt_cmp (op_eqA K hu0) ox_eq (xe_var (pv 7)) xe_int (nomark _))) (bss_cons (bs_set (i := 8) sc_law.nd rfl (Or.inl rfl) (be_lst (ba_cons be_str (ba_cons be_str (ba_cons be_str (ba_cons be_str (ba_cons be_str (ba_cons be_str (ba_cons be_str (ba_cons be_str (ba_cons be_str (ba_cons be_str (ba_cons be_str (ba_cons be_str (ba_cons be_str (ba_cons be_str ba_nil))))))))))))))))
    (bss_cons (bs_set (i := 8) sc_law.nd rfl (Or.inl rfl) (be_add (be_var (pv 8)) (be_lst (ba_cons be_str (ba_cons be_str (ba_cons be_str (ba_cons be_str (ba_cons be_str (ba_cons be_str (ba_cons be_str (ba_cons be_str ba_nil)))))))))))
    (bss_one (Bx.mk (xs_setP fun F => ps_set (i := 4) sc_law.nd rfl (Or.inl rfl) (XE.at (Ex := noEx) F (xe_ix K (xe_var (pv 8)) (xe_callP (i := 2) CTK (hr.mono (by omega)) (pv 2) (xa_cons xe_int xa_nil)) (fun _ _ => rfl)))))))) bss_nil)
    (bss_cons (Bx.mk (xs_setP fun F => ps_set (i := 4) sc_law.nd rfl (Or.inl rfl) (XE.at (Ex := noEx) F (xe_slice K (xe_var (pv 4)) xo_none (xo_some xe_int)))))
    (bss_cons (Bx.mk (xs_setP fun F => ps_set (i := 9) sc_law.nd rfl (Or.inl rfl) (XE.at (Ex := noEx) F (xe_call CLR (hr.mono (by omega)) (xa_cons (xe_var (pv 4)) xa_nil)))))
    (bss_cons (bs_if (Bx.mk (XW.pt (xw_and (xt_cmp (op_eqA K hu0) ox_eq (xe_var (pv 7)) xe_int (nomark _)) (xw_and1 (xt_cmp (op_eqA K hu0) ox_eq (xe_callP (i := 2) CTK (hr.mono (by omega)) (pv 2) (xa_cons xe_int xa_nil)) xe_int (nomark _)))))) (bss_cons (bs_set (i := 4) sc_law.nd rfl (Or.inl rfl) (be_ix K (be_lst (ba_cons be_non (ba_cons be_int (ba_cons (be_lst (ba_cons be_int ba_nil)) (ba_cons (be_lst (ba_cons be_str ba_nil)) (ba_cons be_bl (ba_cons be_dnew (ba_cons (be_tup (ba_cons be_str ba_nil)) (ba_cons be_int ba_nil))))))))) (be_callP (i := 2) CTK (hr.mono (by omega)) (pv 2) (ba_cons be_int ba_nil)) (fun _ _ => rfl)))
    (bss_one (Bx.mk (xs_setP fun F => ps_set (i := 9) sc_law.nd rfl (Or.inl rfl) (XE.at (Ex := noEx) F xe_non))))) bss_nil)
    (bss_cons (Bx.mk (xs_asgW (K := K) (i := 10) (j := 6) fun F => ps_asg (XE.at (Ex := noEx) F (xe_call CAS (hr.mono (by omega)) (xa_cons (xe_var (pv 4)) xa_nil))) (pg_tup rfl (pgs_cons (pg_name (i := 10) sc_law.nd rfl (Or.inl rfl)) (pgs_cons (pg_name (i := 6) sc_law.nd rfl (Or.inl rfl)) pgs_nil)))))
    (bss_cons (Bx.mk (xs_if (XW.pt (xw_or (xt_cmp (op_neA K hu0) ox_ne (xe_var (pv 10)) (xe_ix K (xe_lst (xa_cons xe_str (xa_cons xe_str xa_nil))) (xe_callTy call_int1 cx_int (by rfl) m_int bt_int (xa_cons (xe_cmp op_isN ox_isN (xe_var (pv 9)) xe_non (nomark _)) xa_nil)) (fun _ _ => rfl)) (nomark _)) (xw_or1 (XW.pt (xw_and (xt_cmp op_notN ox_notN (xe_var (pv 9)) xe_non (nomark _)) (xw_and1 (xt_not (xt_val (xe_callPk (i := 6) CAL (hr.mono (by omega)) (pv 6) (xa_cons (xe_var (pv 9)) xa_nil)))))))))) (bxss (bss_one (Bx.mk (xs_ret xe_bl)))) xss_nil))
    (bss_one (Bx.mk (xs_if (xt_cmp op_notN ox_notN (xe_var (pv 9)) xe_non (nomark _)) (bxss (bss_cons (Bx.mk (xs_of fun F => PS.weak (ps_expr (pe_bm PySem.F.plainAttrs_list PySem.F.slot_list_append PySem.F.type_list_append mt_append (pv 6) (pa_cons (XE.at (Ex := noEx) F xe_int) pa_nil))) tApp_x))
    (bss_one (Bx.mk (xs_if (xt_not (xt_val (xe_call CAL (hr.mono (by omega)) (xa_cons (xe_ix K (xe_call CAS (hr.mono (by omega)) (xa_cons (xe_var (pv 4)) xa_nil)) xe_int (fun _ _ => rfl)) (xa_cons (xe_var (pv 9)) xa_nil))))) (bxss (bss_one (Bx.mk (xs_ret xe_bl)))) xss_nil))))) xss_nil)))))))))))))))))))))
    (bss_one (Bx.mk (xs_ret xe_bl)))))
end

theorem cut_mem {α : Type} {l : List α} {a b : Option Int} {x : α} (h : x ∈ cutX l a b) : x ∈ l := List.mem_of_mem_drop (List.mem_of_mem_take h)
theorem cut_le {α : Type} {l : List α} {a b : Option Int} : (cutX l a b).length ≤ l.length := by
  unfold cutX
  rw [List.length_take, List.length_drop]
  omega
theorem nums_cut {xs : List Int} {a b : Option Int} (h : ∀ x ∈ xs, 0 ≤ x ∧ x < 720720) : NumsX (cutX (xs.map Dx.int) a b) := ⟨cutX xs a b, cut_map _ _ _, fun x hx => (h x (cut_mem hx)).1⟩
theorem rdT_len {x : Str} {l : List Int} (h : rdT x = some l) : l.length ≤ x.length + 2 := by
  unfold rdT at h
  split at h
  · cases h; exact Nat.zero_le _
  split at h
  · cases h; rw [List.length_map]; exact wds_len x
  · cases h
theorem mod256 (x : Int) : 0 ≤ x % 256 ∧ x % 256 < 256 := by omega
def oddT : List Dx := [.non, .int 7, .lst [.int 0], .lst [.str "00"], .bl true, .dic [], .tup [.str "00"], .int 0]
theorem oddT_no : ∀ d ∈ oddT, noS d := by
  intro d hd
  simp only [oddT, List.mem_cons, List.not_mem_nil, or_false] at hd
  rcases hd with rfl | rfl | rfl | rfl | rfl | rfl | rfl | rfl <;> trivial
theorem go_slF {t : XT} {c : Int} {ρ : En} {Q : Sv → En → Prop} (h : t ρ fun a ρ1 => slX a.d (some c) none fun s => Q s ρ1) : xSl t (xoS (xC (.int c))) xoN ρ Q := h
theorem go_listX {l : List Dx} {Q : Sv → Prop} (h : Q (.ol l)) : listX [.lst l] Q := h
theorem go_ix1 {d : Dx} {a : Addr} {l : List Dx} {Q : Sv → Prop} (h : Q (.tr (.lst l))) : ixX (Sv.ow (owW d a l)).d (Sv.tr (.int 1)).d Q := by
  show ixX (owW d a l).d _ _
  rw [owW_d]
  exact h
theorem slX_lst {l : List Dx} {a b : Option Int} {Q : Sv → Prop} (h : Q (.ol (cutX l a b))) : slX (.lst l) a b Q := h
section
variable {P : Program} {w : World} {K : PySem.W.Frag} {mg : Str → Option Value} {base : Heap} {f : Addr} {fd : FuncData}
set_option maxHeartbeats 16000000 in
theorem okx_law (F : Fun K "law" "law" s_law f fd) (CCA : Cal P w K mg base 1 "_law_cell_at" ["script", "k"] (spX (gCA K))) (CNU : Cal P w K mg base 1 "_law_numbers" ["cell", "many"] (spX gNU)) (CTK : Cal P w K mg base 1 "_law_take" ["deck", "many"] (spB gTK)) (CAL : Cal P w K mg base 2 "_law_alike" ["found", "due"] (spX (gAL 2))) (CAS : Cal P w K mg base 3 "_law_asked" ["text"] (spX gAS)) (CBW : Cal P w K mg base 1 "_law_bytes_written" ["some"] (spX gBW)) (CLR : Cal P w K mg base 1 "_law_read" ["text"] (spX gLR)) (CCH : Cal P w K mg base 2 "_law_changed" ["text", "deck"] (spB2 gCH)) (CSH : Cal P w K mg base 4 "show_bytes" ["thing"] (spX gSH))
    (m_max : mg "max" = none) (m_min : mg "min" = none) (m_range : mg "range" = none) (m_len : mg "len" = none) (m_int : mg "int" = none) (m_list : mg "list" = none) (m_str : mg "str" = none) (m_isinstance : mg "isinstance" = none) :
    FnOk P w K mg base CX0 5 f fd ["script"] (spX (gLaw K)) := by
  refine fn_x F sc_law (fun ds Q h => by obtain ⟨ns, rfl, _⟩ := h; rfl) (by decide) fun cdv A outer s H E hr => ?_
  refine ⟨_, der_law CCA CNU CTK CAL CAS CBW CLR CCH CSH m_max m_min m_range m_len m_int m_list m_str m_isinstance hr, fun ds Q h => ?_⟩
  clear hr
  obtain ⟨ns, rfl, h63, q⟩ := h
  unfold rd_law
  refine xSeq_nx (fun ρ => True) (fun ρ _ => q) (fun nx hnx => ?_)
  refine ⟨rfl, ?_⟩
  refine ⟨⟨by split <;> (try split) <;> omega, by split <;> (try split) <;> omega⟩, ?_⟩
  refine forX_map (fun k : Nat => Dx.int (0 + (k : Int))) (fun rest ρ => ∃ y1 y2 y3 y4 y5 y6 y7 y8 y9 y10, ρ = [.v (.tr (.scr K ns)), y1, y2, y3, y4, y5, y6, y7, y8, y9, y10]) (fun ρ h => hnx ρ trivial) (fun k rest ρ Kn h hk => ?_) ⟨.un, .un, .un, .un, .un, .un, .un, .un, .un, .un, rfl⟩
  obtain ⟨y1, y2, y3, y4, y5, y6, y7, y8, y9, y10, rfl⟩ := h
  have hknext : ∀ a1 a2 a3 a4 a5 a6 a7 a8 a9 a10, Kn [.v (.tr (.scr K ns)), a1, a2, a3, a4, a5, a6, a7, a8, a9, a10] := fun a1 a2 a3 a4 a5 a6 a7 a8 a9 a10 => hk _ ⟨_, _, _, _, _, _, _, _, _, _, rfl⟩
  -- ways
  refine go_set (go_slF ?_)
  refine ⟨ns, 0 + (k : Int), rfl, by omega, fun c1 => ?_⟩
  refine ⟨c1, 60, rfl, by decide, by decide, fun xs1 hl1 hx1 => slX_lst ?_⟩
  have hW := nums_cut (a := some 40) (b := none) hx1
  change xSeq _ _ [.v (.tr (.scr K ns)), .v (.tr (.int (0 + (k : Int)))), .v (.ol (cutX (xs1.map Dx.int) (some 40) none)), y3, y4, y5, y6, y7, y8, y9, y10] _
  generalize cutX (xs1.map Dx.int) (some 40) none = W at hW ⊢
  -- some
  refine ⟨ns, 0 + (k : Int), rfl, by omega, fun c2 => ?_⟩
  refine ⟨c2, 40, rfl, by decide, by decide, fun xs2 hl2 hx2 => ?_⟩
  refine ⟨rfl, 41, rfl, hW, by decide, fun r1 W1 a0 a1 hW1 => ?_⟩
  dsimp only
  show (cutX (xs2.map Dx.int) none (some r1)).length ≤ 1000000 ∧ compX _ _ _ _ _ (cutX (xs2.map Dx.int) none (some r1)) _ _
  rw [cut_map]
  have hcl := cut_le (l := xs2) (a := none) (b := some r1)
  have hcm : ∀ x ∈ cutX xs2 none (some r1), 0 ≤ x ∧ x < 720720 := fun x hx => hx2 x (cut_mem hx)
  generalize cutX xs2 none (some r1) = cs at hcl hcm ⊢
  refine ⟨by rw [List.length_map]; omega, ?_⟩
  refine compX_fun (fun b : Int => Dx.int b) (fun b => .int (b * 7 % 256)) (fun b hm acc P p => ?_) ?_
  · have := hcm b hm
    exact ⟨⟨by omega, by decide⟩, by show (0 : Int) < 256; decide, p⟩
  rw [List.nil_append]
  obtain ⟨bs, hbs, hB, hbl⟩ : ∃ bs : List Int, cs.map (fun b => Dx.int (b * 7 % 256)) = bs.map Dx.int ∧ Byt bs ∧ bs.length ≤ 1000 := ⟨cs.map fun b => b * 7 % 256, by rw [List.map_map]; rfl, fun b hb => by obtain ⟨c, _, rfl⟩ := List.mem_map.mp hb; exact mod256 _, by rw [List.length_map]; omega⟩
  rw [hbs]
  change xSeq _ _ [.v (.tr (.scr K ns)), .v (.tr (.int (0 + (k : Int)))), .v (.ol W1), .v (.ol (bs.map Dx.int)), y4, y5, y6, y7, y8, y9, y10] _
  clear hbs hcl hcm hx1 hx2 hl1 hl2
  -- some, a thousand
  refine xSeq_nx (fun ρ => ∃ (W : List Dx) (bs : List Int), NumsX W ∧ Byt bs ∧ bs.length ≤ 1000 ∧ ρ = [.v (.tr (.scr K ns)), .v (.tr (.int (0 + (k : Int)))), .v (.ol W), .v (.ol (bs.map Dx.int)), y4, y5, y6, y7, y8, y9, y10]) ?_ (fun nx1 hnx1 => ?_)
  rotate_left 1
  · refine ⟨rfl, 8, rfl, hW1, by decide, fun r2 W2 b0 b1 hW2 => ?_⟩
    show if decide (r2 = 3) = true then _ else _
    refine ite2 (fun _ => ?_) (fun _ => hnx1 _ ⟨W2, bs, hW2, hB, hbl, rfl⟩)
    refine ⟨⟨by decide, by decide⟩, ?_⟩
    show (rngX 0 1000).length ≤ 1000000 ∧ compX _ _ _ _ _ (rngX 0 1000) _ _
    obtain ⟨N, hN⟩ : ∃ N : Nat, N = 1000 := ⟨_, rfl⟩
    rw [← hN]
    unfold rngX
    refine ⟨by rw [List.length_map, List.length_range]; omega, ?_⟩
    refine compX_fun (fun t : Nat => Dx.int (0 + (t : Int))) (fun t => .int ((37 * ((0 + (t : Int)) / 40) + (0 + (t : Int))) % 256)) (fun t hm acc P p => ?_) ?_
    · have := List.mem_range.mp hm
      exact ⟨⟨by decide, by decide⟩, ⟨by decide, by show ((0 + (t : Int)) / 40).natAbs < 2 ^ 250; omega⟩, by show (0 : Int) < 256; decide, p⟩
    rw [List.nil_append]
    obtain ⟨bs', hbs, hB', hbl'⟩ : ∃ bs : List Int, (List.range N).map (fun t : Nat => Dx.int ((37 * ((0 + (t : Int)) / 40) + (0 + (t : Int))) % 256)) = bs.map Dx.int ∧ Byt bs ∧ bs.length ≤ 1000 := ⟨(List.range N).map fun t : Nat => (37 * ((0 + (t : Int)) / 40) + (0 + (t : Int))) % 256, by rw [List.map_map]; rfl, fun b hb => by obtain ⟨c, _, rfl⟩ := List.mem_map.mp hb; exact mod256 _, by rw [List.length_map, List.length_range]; omega⟩
    rw [hbs]
    exact hnx1 _ ⟨W2, bs', hW2, hB', hbl', rfl⟩
  clear hB hbl hW1 hW
  rintro ρ ⟨W2, bs, hW2, hB, hbl, rfl⟩
  -- text, handed, found
  refine go_set (go_call (go_cons (go_var rfl ⟨bs, rfl, hB, hbl, ?_⟩)))
  refine go_set (go_call (go_cons (go_var rfl (go_nil (go_listX ?_)))))
  change xSeq _ _ [.v (.tr (.scr K ns)), .v (.tr (.int (0 + (k : Int)))), .v (.ol W2), .v (.tr (.lst (bs.map Dx.int))), .v (.tr (.str (shB bs))), .v (.ol (bs.map Dx.int)), y6, y7, y8, y9, y10] _
  refine go_set (go_call (go_cons (go_var rfl ⟨bs, rfl, hB, hbl, ?_⟩)))
  have hx0 := shB_len bs
  have hx0' : (shB bs).length ≤ 3100 := by omega
  generalize shB bs = x0 at hx0' ⊢
  clear hx0
  change xSeq _ _ [.v (.tr (.scr K ns)), .v (.tr (.int (0 + (k : Int)))), .v (.ol W2), .v (.tr (.lst (bs.map Dx.int))), .v (.tr (.str x0)), .v (.tr (.lst (bs.map Dx.int))), .v (.tr (.str x0)), y7, y8, y9, y10] _
  refine go_skip (ρ' := [.v (.tr (.scr K ns)), .v (.tr (.int (0 + (k : Int)))), .v (.ol W2), .v (.tr (.lst (bs.map Dx.int))), .v (.tr (.str x0)), .v (.tr (.lst (bs.map Dx.int))), .v (.tr (.str x0)), y7, y8, y9, y10]) (fun Q q => ?_) ?_
  · show if (!decide (x0 = x0)) = true then _ else _
    rw [decide_eq_true rfl]
    refine ⟨bs, bs, rfl, rfl, ?_⟩
    show Q (!decide (bs = bs)) _
    rw [decide_eq_true rfl]
    exact q
  clear hB hbl
  generalize bs.map Dx.int = LB
  refine ⟨rfl, 8, rfl, hW2, by decide, fun way W3 c0 c1 hW3 => ?_⟩
  dsimp only
  change xSeq _ _ [.v (.tr (.scr K ns)), .v (.tr (.int (0 + (k : Int)))), .v (.ol W3), .v (.tr (.lst LB)), .v (.tr (.str x0)), .v (.tr (.lst LB)), .v (.tr (.str x0)), .v (.tr (.int way)), y8, y9, y10] _
  -- changed
  refine xSeq_nx (fun ρ => ∃ (W : List Dx) (x : Str), NumsX W ∧ x.length ≤ 10000 ∧ ρ = [.v (.tr (.scr K ns)), .v (.tr (.int (0 + (k : Int)))), .v (.ol W), .v (.tr (.lst LB)), .v (.tr (.str x)), .v (.tr (.lst LB)), .v (.tr (.str x0)), .v (.tr (.int way)), y8, y9, y10]) ?_ (fun nx1 hnx1 => ?_)
  rotate_left 1
  · show if decide (way < 4) = true then _ else _
    refine ite2 (fun _ => ?_) (fun _ => hnx1 _ ⟨W3, x0, hW3, by omega, rfl⟩)
    exact ⟨x0, rfl, hW3, by omega, fun x' l' hx' hN' => hnx1 _ ⟨l', x', hN', hx', rfl⟩⟩
  rintro ρ ⟨W4, x1, hW4, hx1, rfl⟩
  -- odd texts
  refine xSeq_nx (fun ρ => ∃ (W : List Dx) (x : Str) (y8 : Sl), NumsX W ∧ x.length ≤ 10000 ∧ ρ = [.v (.tr (.scr K ns)), .v (.tr (.int (0 + (k : Int)))), .v (.ol W), .v (.tr (.lst LB)), .v (.tr (.str x)), .v (.tr (.lst LB)), .v (.tr (.str x0)), .v (.tr (.int way)), y8, y9, y10]) ?_ (fun nx1 hnx1 => ?_)
  rotate_left 1
  · show if decide (way = 4) = true then _ else _
    refine ite2 (fun _ => ?_) (fun _ => hnx1 _ ⟨W4, x1, y8, hW4, hx1, rfl⟩)
    refine ⟨lenA (by show 14 ≤ 1000000; decide), ?_⟩
    dsimp only
    refine ⟨lenA (by show 8 ≤ 1000000; decide), ?_⟩
    refine ⟨lenA (by show 22 ≤ 1000000; decide), ?_⟩
    refine ⟨rfl, 22, rfl, hW4, by decide, fun r5 W5 d0 d1 hW5 => ?_⟩
    refine six (l := ["", " ", "0", "00", "000", "0 0", "00 ", " 00", "--", "- -", "0g", "FF", "fF", "0x00", "00,00", "00  00", "00\n", "-0", "+1", "1_", "256", "ff ff f"]) (n := 7) (by decide) d0 d1 fun z hz => ?_
    exact hnx1 _ ⟨W5, z, _, hW5, by omega, rfl⟩
  clear y8
  rintro ρ ⟨W5, x2, y8, hW5, hx2, rfl⟩
  -- cut, due
  refine go_set ?_
  refine ⟨by omega, ?_⟩
  have hx3 : (Txt.slice x2 none (some 3000)).length ≤ 10000 := sl_le hx2
  generalize Txt.slice x2 none (some 3000) = x3 at hx3 ⊢
  change xSeq _ _ [.v (.tr (.scr K ns)), .v (.tr (.int (0 + (k : Int)))), .v (.ol W5), .v (.tr (.lst LB)), .v (.tr (.str x3)), .v (.tr (.lst LB)), .v (.tr (.str x0)), .v (.tr (.int way)), y8, y9, y10] _
  refine xSeq_nx (fun ρ => ∃ y9 : Sl, ((∃ l, rdT x3 = some l ∧ y9 = .v (.ol (l.map Dx.int))) ∨ (rdT x3 = none ∧ y9 = .v (.tr .non))) ∧ ρ = [.v (.tr (.scr K ns)), .v (.tr (.int (0 + (k : Int)))), .v (.ol W5), .v (.tr (.lst LB)), .v (.tr (.str x3)), .v (.tr (.lst LB)), .v (.tr (.str x0)), .v (.tr (.int way)), y8, y9, y10]) ?_ (fun nx1 hnx1 => ?_)
  rotate_left 1
  · exact ⟨x3, rfl, hx3, fun l hl => hnx1 _ ⟨_, .inl ⟨l, hl, rfl⟩, rfl⟩, fun hn => hnx1 _ ⟨_, .inr ⟨hn, rfl⟩, rfl⟩⟩
  clear y9
  rintro ρ ⟨y9, h9, rfl⟩
  -- what is no text
  refine xSeq_nx (fun ρ => ∃ (y2 y9 : Sl) (d : Dx), ((∃ x l, d = .str x ∧ x.length ≤ 10000 ∧ rdT x = some l ∧ y9 = .v (.ol (l.map Dx.int))) ∨ (((∃ x, d = .str x ∧ x.length ≤ 10000 ∧ rdT x = none) ∨ noS d) ∧ y9 = .v (.tr .non))) ∧ ρ = [.v (.tr (.scr K ns)), .v (.tr (.int (0 + (k : Int)))), y2, .v (.tr (.lst LB)), .v (.tr d), .v (.tr (.lst LB)), .v (.tr (.str x0)), .v (.tr (.int way)), y8, y9, y10]) ?_ (fun nx1 hnx1 => ?_)
  rotate_left 1
  · have hstay : ∀ W, nx1 [.v (.tr (.scr K ns)), .v (.tr (.int (0 + (k : Int)))), .v (.ol W), .v (.tr (.lst LB)), .v (.tr (.str x3)), .v (.tr (.lst LB)), .v (.tr (.str x0)), .v (.tr (.int way)), y8, y9, y10] := fun W => hnx1 _ ⟨_, y9, .str x3, by
      rcases h9 with ⟨l, hl, rfl⟩ | ⟨hn, rfl⟩
      · exact .inl ⟨x3, l, rfl, hx3, hl, rfl⟩
      · exact .inr ⟨.inl ⟨x3, rfl, hx3, hn⟩, rfl⟩, rfl⟩
    show if decide (way = 5) = true then _ else _
    refine ite2 (fun _ => ?_) (fun _ => hstay W5)
    refine ⟨rfl, 2, rfl, hW5, by decide, fun r6 W6 e0 e1 hW6 => ?_⟩
    show if decide (r6 = 0) = true then _ else _
    refine ite2 (fun _ => ?_) (fun _ => hstay W6)
    refine ⟨len1, len1, len1, lenA (by show 8 ≤ 1000000; decide), ?_⟩
    refine ⟨rfl, 8, rfl, hW6, by decide, fun r7 W7 f0 f1 hW7 => ?_⟩
    refine ixX_in (l := oddT) f0 f1 fun d hd => ?_
    exact hnx1 _ ⟨_, _, d, .inr ⟨.inr (oddT_no d hd), rfl⟩, rfl⟩
  clear h9 y9
  rintro ρ ⟨y2, y9, d, h9, rfl⟩
  rcases h9 with ⟨x, l, rfl, hx, hl, rfl⟩ | ⟨hd, rfl⟩
  · have hll : l.length ≤ 100000 := by have := rdT_len hl; omega
    refine .inl ⟨x, rfl, hx, fun l' hl' a => .inr ⟨_, a, _, rfl, ?_⟩, fun hn => by rw [hl] at hn; cases hn⟩
    have e := hl.symm.trans hl'
    cases e
    dsimp only
    change xSeq _ _ [.v (.tr (.scr K ns)), .v (.tr (.int (0 + (k : Int)))), y2, .v (.tr (.lst LB)), .v (.tr (.str x)), .v (.tr (.lst LB)), .v (.ol (l.map Dx.int)), .v (.tr (.int way)), y8, .v (.ol (l.map Dx.int)), .v (.tr (.str "told"))] _
    refine go_skip (ρ' := [.v (.tr (.scr K ns)), .v (.tr (.int (0 + (k : Int)))), y2, .v (.tr (.lst LB)), .v (.tr (.str x)), .v (.tr (.lst LB)), .v (.ol (l.map Dx.int)), .v (.tr (.int way)), y8, .v (.tr (.lst (l.map Dx.int))), .v (.tr (.str "told"))]) (fun Q q => ?_) ?_
    · refine ⟨len2, ?_⟩
      exact ⟨⟨_, rfl⟩, .lst (l.map Dx.int), rfl, .inr ⟨l, rfl, by decide, hll⟩, true, rfl, q⟩
    refine ⟨rfl, by rw [List.length_map]; omega, ?_⟩
    refine .inl ⟨x, rfl, hx, fun l' hl' a => ?_, fun hn => by rw [hl] at hn; cases hn⟩
    have e := hl.symm.trans hl'
    cases e
    dsimp only
    refine go_c1 (go_ix1 ?_)
    exact ⟨.lst (l.map Dx.int), rfl, .inr ⟨l, rfl, by decide, hll⟩, hknext _ _ _ _ _ _ _ _ _ _⟩
  · refine xSeq_nx (fun ρ => ρ = [.v (.tr (.scr K ns)), .v (.tr (.int (0 + (k : Int)))), y2, .v (.tr (.lst LB)), .v (.tr d), .v (.tr (.lst LB)), .v (.tr .non), .v (.tr (.int way)), y8, .v (.tr .non), .v (.tr (.str "NoText"))]) ?_ (fun nx1 hnx1 => ?_)
    rotate_left 1
    · rcases hd with ⟨x, rfl, hx, hn⟩ | hd
      · exact .inl ⟨x, rfl, hx, fun l hl => (by rw [hn] at hl; cases hl), fun _ => .inl ⟨_, _, rfl, hnx1 _ rfl⟩⟩
      · exact .inr ⟨d, rfl, hd, .inl ⟨_, _, rfl, hnx1 _ rfl⟩⟩
    rintro ρ rfl
    refine go_skip (ρ' := [.v (.tr (.scr K ns)), .v (.tr (.int (0 + (k : Int)))), y2, .v (.tr (.lst LB)), .v (.tr d), .v (.tr (.lst LB)), .v (.tr .non), .v (.tr (.int way)), y8, .v (.tr .non), .v (.tr (.str "NoText"))]) (fun Q q => ?_) ?_
    · exact ⟨len2, q⟩
    · exact hknext _ _ _ _ _ _ _ _ _ _
end

theorem fn_no {P : Program} {w : World} {K : PySem.W.Frag} {mg : Str → Option Value} {base : Heap} {j : Nat} {f : Addr} {fd : FuncData} {ps : List Str} {g : GC} (no : ∀ ds Q, ¬ g ds Q) : FnOk P w K mg base CX0 j f fd ps (spX g) :=
  ⟨fun vs H Q E h => by obtain ⟨_, ds, Qx, _, _, h, _⟩ := h; exact absurd h (no _ _), fun A outer s H args us vs Q E _ _ _ _ h => by obtain ⟨_, ds, Qx, _, _, h, _⟩ := h; exact absurd h (no _ _)⟩
structure Fx (K : PySem.W.Frag) (mg : Str → Option Value) (nm : Str) (st : Stmt) (ps : List Str) (f : Addr) (fd : FuncData) : Prop where
  F : Fun K nm nm st f fd
  b : Binds K fd ps []
  k : PySem.W.keepIn K (.ref f) = true
  m : mg nm = some (.ref f)
section
variable {P : Program} {w : World} {K : PySem.W.Frag} {mg : Str → Option Value} {base : Heap} {f : Addr} {fd : FuncData}
theorem Fx.cal {nm : Str} {st : Stmt} {ps : List Str} {j : Nat} {sp : Sp} (x : Fx K mg nm st ps f fd) (h : FnOk P w K mg base CX0 j f fd ps sp) : Cal P w K mg base j nm ps sp := ⟨f, fd, h, x.b, x.k, x.m⟩
theorem Fx.calE {nm : Str} {st : Stmt} {ps : List Str} {j : Nat} {sp : Sp} (x : Fx K mg nm st ps f fd) (h : FnOk P w K mg base (CXe P w) j f fd ps sp) : CalE P w K mg base j nm ps sp := ⟨f, fd, h, x.b, x.k, x.m⟩
theorem alx_two (X : Fx K mg "_law_alike" s_law_alike ["found", "due"] f fd) (m_isinstance : mg "isinstance" = none) (m_dict : mg "dict" = none) (m_tuple : mg "tuple" = none) (m_list : mg "list" = none) (m_len : mg "len" = none) (m_range : mg "range" = none) (m_str : mg "str" = none) (m_int : mg "int" = none) (m_bool : mg "bool" = none) : FnOk P w K mg base CX0 2 f fd ["found", "due"] (spX (gAL 2)) :=
  okx_al X.F (X.cal (okx_al (n := 0) X.F (X.cal (fn_no fun ds Q h => by obtain ⟨d, _, ⟨_, _, h⟩ | ⟨_, _, h, _⟩, _⟩ := h <;> omega)) m_isinstance m_dict m_tuple m_list m_len m_range m_str m_int m_bool)) m_isinstance m_dict m_tuple m_list m_len m_range m_str m_int m_bool
end
structure VConsts (mg : Str → Option Value) : Prop where
  many : ∃ t, mg "HOW_MANY_BYTES" = some (.int 256 t)
  signs : ∃ t, mg "BYTE_SIGNS" = some (.str hexS t)
  none : ∃ t, mg "NO_BYTES_AT_ALL" = some (.str dashS t)
theorem kitAny_no {K : PySem.W.Frag} {t : Value} : ∀ {cs : List Value}, (∀ c ∈ cs, PySem.W.kitOne K t c = some false) → PySem.W.kitAny K t cs = some false
  | [], _ => by simp only [PySem.W.kitAny]
  | c :: r, h => by
    have h1 := h c List.mem_cons_self
    have h2 := kitAny_no (cs := r) fun c' h' => h c' (List.mem_cons_of_mem _ h')
    simp only [PySem.W.kitAny, h1, h2]
theorem kit48 {K : PySem.W.Frag} {mg : Str → Option Value} {base : Heap} {CF CV CB CM CT CN CR : Addr} (hF : ClsX K mg "FieldError" CF) (hV : ClsX K mg "NoValue" CV) (hB : ClsX K mg "NoBytes" CB) (hM : ClsX K mg "NoMake" CM) (hT : ClsX K mg "NoText" CT) (hN : ClsX K mg "NoName" CN) (hR : ClsX K mg "NoRow" CR)
    (l : [(some true, true), (some false, false), (some false, false), (some false, false), (some true, true), (some false, false), (some false, false)] = (["FieldError", "NoValue", "NoBytes", "NoMake", "NoText", "NoName", "NoRow"] : List Str).map (fun m => match clsAt K m with | some D => (PySem.W.kitOne K (.ref CT) (.ref D), undr K CT D) | none => (none, false))) (v : PySem.W.kitOne K (.ref CT) (.type "ValueError") = some true) (hb : K.In base) : Kit48 K mg CV CB CM CT CN CR ∧ Under base CT CF := by
  simp only [List.map_cons, List.map_nil, hF.at', hV.at', hB.at', hM.at', hT.at', hN.at', hR.at', List.cons.injEq, Prod.mk.injEq, and_true] at l
  obtain ⟨⟨_, f2⟩, ⟨kV, _⟩, ⟨kB, _⟩, ⟨kM, _⟩, ⟨kT, _⟩, ⟨kN, _⟩, ⟨kR, _⟩⟩ := l
  refine ⟨⟨hV.m, hB.m, hM.m, hT.m, hN.m, hR.m, clsOk_kit hT.ok, kT.symm, v, kitAny_no fun c hc => ?_⟩, clsOk_under hT.ok f2.symm hb⟩
  simp only [List.mem_cons, List.not_mem_nil, or_false] at hc
  rcases hc with rfl | rfl | rfl | rfl | rfl
  · exact kB.symm
  · exact kM.symm
  · exact kN.symm
  · exact kR.symm
  · exact kV.symm

theorem mkTw : Nat.ble 1 PySem.Challenge.pw_laidfields_k48_bytes_written_and_read.main.body.length = true := by k_qdec
def asgV (s : Stmt) : Option V := match s with
  | .Assign _ (.Constant (.int i) _ _) _ => some (.int i)
  | .Assign _ (.Constant (.str x) _ _) _ => some (.str x)
  | _ => none
def litV (e : Expr) : Option V := match e with
  | .Constant (.int i) _ _ => some (.int i)
  | _ => none
def asgT (s : Stmt) : Option (List (Option V)) := match s with
  | .Assign _ (.Tuple es _ _) _ => some (es.map litV)
  | _ => none
def seenF (p : Program) (K : PySem.W.Frag) : List FO × List Bool × List (Option V) × List (Option (List (Option V))) × List OX := ([9, 12, 13, 17, 18, 19, 21, 22, 24, 25, 26, 27, 28, 29, 30].map fun i => obsDef K (defName (topOf p i)), (bltNs ++ [(⟨#[86, 97, 108, 117, 101, 69, 114, 114, 111, 114]⟩ : Str)]).map (obsNo K), [11, 15, 16].map fun i => obsVal K (defName (topOf p i)), [].map fun i => obsTup K (defName (topOf p i)), obsX K ["FieldError", "NoValue", "NoBytes", "NoMake", "NoText", "NoName", "NoRow"])
def seenV (p : Program) : List FO × List Bool × List (Option V) × List (Option (List (Option V))) × List OX := ([9, 12, 13, 17, 18, 19, 21, 22, 24, 25, 26, 27, 28, 29, 30].map fun i => expDef (topOf p i), List.replicate 18 true, [11, 15, 16].map fun i => asgV (topOf p i), [].map fun i => asgT (topOf p i), [(true, [(some true, true), (some false, false), (some false, false), (some false, false), (some false, false), (some false, false), (some false, false)], some true, some false), (true, [(some true, true), (some true, true), (some false, false), (some false, false), (some false, false), (some false, false), (some false, false)], some true, some false), (true, [(some true, true), (some false, false), (some true, true), (some false, false), (some false, false), (some false, false), (some false, false)], some true, some false), (true, [(some true, true), (some false, false), (some false, false), (some true, true), (some false, false), (some false, false), (some false, false)], some true, some false), (true, [(some true, true), (some false, false), (some false, false), (some false, false), (some true, true), (some false, false), (some false, false)], some true, some false), (true, [(some true, true), (some false, false), (some false, false), (some false, false), (some false, false), (some true, true), (some false, false)], some true, some false), (true, [(some true, true), (some false, false), (some false, false), (some false, false), (some false, false), (some false, false), (some true, true)], some true, some false)])
theorem once_top : ∀ w : World, onceSeen PySem.W.topRun treeTable importedModules (fun m s => PySem.W.openSeen (PySem.W.view PySem.Challenge.pw_laidfields_k48_bytes_written_and_read [1, 2, 3, 4, 5, 6, 7, 9, 11, 12, 13, 15, 16, 17, 18, 19, 21, 22, 23, 24, 25, 26, 27, 28, 29, 30]) [] m (fun s => PySem.W.xlAt (PySem.W.view PySem.Challenge.pw_laidfields_k48_bytes_written_and_read [1, 2, 3, 4, 5, 6, 7, 9, 11, 12, 13, 15, 16, 17, 18, 19, 21, 22, 23, 24, 25, 26, 27, 28, 29, 30]) [] s && PySem.W.recOk [] s) true s) PySem.Challenge.pw_laidfields_k48_bytes_written_and_read 4120 (seenF PySem.Challenge.pw_laidfields_k48_bytes_written_and_read) w = fun _ => some (true, PySem.W.openGood (PySem.W.view PySem.Challenge.pw_laidfields_k48_bytes_written_and_read [1, 2, 3, 4, 5, 6, 7, 9, 11, 12, 13, 15, 16, 17, 18, 19, 21, 22, 23, 24, 25, 26, 27, 28, 29, 30]) [], seenV PySem.Challenge.pw_laidfields_k48_bytes_written_and_read) := by
  have _ := mkTw
  rw [PySem.W.Fast.te9089996193380269646, PySem.W.Fast.te14082659384304107361, PySem.W.Fast.te14364793385576792824, PySem.W.Fast.te5923862056798008813, PySem.W.Fast.te4187177175401517315]
  exact fun w => by kernel_rfl
theorem left_top : PySem.W.LeftO PySem.Challenge.pw_laidfields_k48_bytes_written_and_read (PySem.W.view PySem.Challenge.pw_laidfields_k48_bytes_written_and_read [1, 2, 3, 4, 5, 6, 7, 9, 11, 12, 13, 15, 16, 17, 18, 19, 21, 22, 23, 24, 25, 26, 27, 28, 29, 30]) [] (fun s => PySem.W.xlAt (PySem.W.view PySem.Challenge.pw_laidfields_k48_bytes_written_and_read [1, 2, 3, 4, 5, 6, 7, 9, 11, 12, 13, 15, 16, 17, 18, 19, 21, 22, 23, 24, 25, 26, 27, 28, 29, 30]) [] s && PySem.W.recOk [] s) (exHook (seenF PySem.Challenge.pw_laidfields_k48_bytes_written_and_read) (seenV PySem.Challenge.pw_laidfields_k48_bytes_written_and_read)).obs (exHook (seenF PySem.Challenge.pw_laidfields_k48_bytes_written_and_read) (seenV PySem.Challenge.pw_laidfields_k48_bytes_written_and_read)).val 4120 true := left_once (by decide) (by kernel_rfl) (fun s => by kernel_rfl) once_top
theorem mem_map_eq {α : Type} {f g : Nat → α} : ∀ {l : List Nat}, l.map f = l.map g → ∀ i, i ∈ l → f i = g i := fun h i hi => List.map_inj_left.mp h i hi
theorem binds_law {K : PySem.W.Frag} {f : Addr} {fd : FuncData} (F : Fun K "law" "law" s_law f fd) (s : Shared) (v : Value) : BindsTo s fd ⟨[v], []⟩ [("script", v)] := by
  obtain ⟨oc, od, kV, doc, pm, an, cdv, ct, osl, rfl, _⟩ := F.ex
  exact .of_eq rfl
theorem all_mk {l : PySem.W.OpenLaw} {w : World} {K : PySem.W.Frag} {mg : Str → Option Value} {fa : Addr} {h : Heap} (hK : seenF PySem.Challenge.pw_laidfields_k48_bytes_written_and_read K = seenV PySem.Challenge.pw_laidfields_k48_bytes_written_and_read) (X : K.In h) (G : h.Ns mainGlobals mg) (hfa : mg "law" = some (.ref fa)) :
    ∃ fd : FuncData, (∀ (s : Shared) (v : Value), BindsTo s fd ⟨[v], []⟩ [("script", v)]) ∧ ∀ base : Heap, K.In base → base.Ns mainGlobals mg → FnOk l.prog w K mg base CX0 30 fa fd ["script"] (spLaw K) := by
  have hd := mem_map_eq (f := fun i => obsDef K (defName (topOf PySem.Challenge.pw_laidfields_k48_bytes_written_and_read i))) (g := fun i => expDef (topOf PySem.Challenge.pw_laidfields_k48_bytes_written_and_read i)) (l := [9, 12, 13, 17, 18, 19, 21, 22, 24, 25, 26, 27, 28, 29, 30]) (congrArg (fun x => x.1) hK)
  have hn18 : (bltNs ++ [(⟨#[86, 97, 108, 117, 101, 69, 114, 114, 111, 114]⟩ : Str)]).map (obsNo K) = List.replicate 18 true := congrArg (fun x => x.2.1) hK
  rw [List.map_append] at hn18
  have hn19 : bltNs.map (obsNo K) ++ [obsNo K (⟨#[86, 97, 108, 117, 101, 69, 114, 114, 111, 114]⟩ : Str)] = List.replicate 17 true ++ [true] := hn18
  obtain ⟨hn, hv⟩ := List.append_inj hn19 (by rw [List.length_map]; rfl)
  have e_VE : (⟨#[86, 97, 108, 117, 101, 69, 114, 114, 111, 114]⟩ : Str) = "ValueError" := by rfl
  have m_ValueError : mg "ValueError" = none := PySem.W.mg_none_of X G (e_VE ▸ obsNo_ex (List.cons.inj hv).1)
  have hc := mem_map_eq (f := fun i => obsVal K (defName (topOf PySem.Challenge.pw_laidfields_k48_bytes_written_and_read i))) (g := fun i => asgV (topOf PySem.Challenge.pw_laidfields_k48_bytes_written_and_read i)) (l := [11, 15, 16]) (congrArg (fun x => x.2.2.1) hK)
  obtain ⟨f9, d9, a9, F9⟩ := obsDef_ex (hd 9 (by decide))
  have x_is_whole : Fx K mg "is_whole" s_is_whole ["thing"] f9 d9 := ⟨F9, binds1 F9 (fun _ _ _ _ _ _ _ => rfl), F9.kp, PySem.W.mg_of X G a9⟩
  obtain ⟨f12, d12, a12, F12⟩ := obsDef_ex (hd 12 (by decide))
  have x_are_bytes : Fx K mg "are_bytes" s_are_bytes ["thing", "how_many"] f12 d12 := ⟨F12, binds2 F12 (fun _ _ _ _ _ _ _ _ => rfl), F12.kp, PySem.W.mg_of X G a12⟩
  obtain ⟨f13, d13, a13, F13⟩ := obsDef_ex (hd 13 (by decide))
  have x_is_byte : Fx K mg "is_byte" s_is_byte ["thing"] f13 d13 := ⟨F13, binds1 F13 (fun _ _ _ _ _ _ _ => rfl), F13.kp, PySem.W.mg_of X G a13⟩
  obtain ⟨f17, d17, a17, F17⟩ := obsDef_ex (hd 17 (by decide))
  have x_show_bytes : Fx K mg "show_bytes" s_show_bytes ["thing"] f17 d17 := ⟨F17, binds1 F17 (fun _ _ _ _ _ _ _ => rfl), F17.kp, PySem.W.mg_of X G a17⟩
  obtain ⟨f18, d18, a18, F18⟩ := obsDef_ex (hd 18 (by decide))
  have x_read_bytes : Fx K mg "read_bytes" s_read_bytes ["text"] f18 d18 := ⟨F18, binds1 F18 (fun _ _ _ _ _ _ _ => rfl), F18.kp, PySem.W.mg_of X G a18⟩
  obtain ⟨f19, d19, a19, F19⟩ := obsDef_ex (hd 19 (by decide))
  have x_read_byte : Fx K mg "read_byte" s_read_byte ["signs"] f19 d19 := ⟨F19, binds1 F19 (fun _ _ _ _ _ _ _ => rfl), F19.kp, PySem.W.mg_of X G a19⟩
  obtain ⟨f21, d21, a21, F21⟩ := obsDef_ex (hd 21 (by decide))
  have x__law_cell_at : Fx K mg "_law_cell_at" s_law_cell_at ["script", "k"] f21 d21 := ⟨F21, binds2 F21 (fun _ _ _ _ _ _ _ _ => rfl), F21.kp, PySem.W.mg_of X G a21⟩
  obtain ⟨f22, d22, a22, F22⟩ := obsDef_ex (hd 22 (by decide))
  have x__law_numbers : Fx K mg "_law_numbers" s_law_numbers ["cell", "many"] f22 d22 := ⟨F22, binds2 F22 (fun _ _ _ _ _ _ _ _ => rfl), F22.kp, PySem.W.mg_of X G a22⟩
  obtain ⟨f24, d24, a24, F24⟩ := obsDef_ex (hd 24 (by decide))
  have x__law_take : Fx K mg "_law_take" s_law_take ["deck", "many"] f24 d24 := ⟨F24, binds2 F24 (fun _ _ _ _ _ _ _ _ => rfl), F24.kp, PySem.W.mg_of X G a24⟩
  obtain ⟨f25, d25, a25, F25⟩ := obsDef_ex (hd 25 (by decide))
  have x__law_alike : Fx K mg "_law_alike" s_law_alike ["found", "due"] f25 d25 := ⟨F25, binds2 F25 (fun _ _ _ _ _ _ _ _ => rfl), F25.kp, PySem.W.mg_of X G a25⟩
  obtain ⟨f26, d26, a26, F26⟩ := obsDef_ex (hd 26 (by decide))
  have x__law_asked : Fx K mg "_law_asked" s_law_asked ["text"] f26 d26 := ⟨F26, binds1 F26 (fun _ _ _ _ _ _ _ => rfl), F26.kp, PySem.W.mg_of X G a26⟩
  obtain ⟨f27, d27, a27, F27⟩ := obsDef_ex (hd 27 (by decide))
  have x__law_bytes_written : Fx K mg "_law_bytes_written" s_law_bytes_written ["some"] f27 d27 := ⟨F27, binds1 F27 (fun _ _ _ _ _ _ _ => rfl), F27.kp, PySem.W.mg_of X G a27⟩
  obtain ⟨f28, d28, a28, F28⟩ := obsDef_ex (hd 28 (by decide))
  have x__law_read : Fx K mg "_law_read" s_law_read ["text"] f28 d28 := ⟨F28, binds1 F28 (fun _ _ _ _ _ _ _ => rfl), F28.kp, PySem.W.mg_of X G a28⟩
  obtain ⟨f29, d29, a29, F29⟩ := obsDef_ex (hd 29 (by decide))
  have x__law_changed : Fx K mg "_law_changed" s_law_changed ["text", "deck"] f29 d29 := ⟨F29, binds2 F29 (fun _ _ _ _ _ _ _ _ => rfl), F29.kp, PySem.W.mg_of X G a29⟩
  obtain ⟨f30, d30, a30, F30⟩ := obsDef_ex (hd 30 (by decide))
  have x_law : Fx K mg "law" s_law ["script"] f30 d30 := ⟨F30, binds1 F30 (fun _ _ _ _ _ _ _ => rfl), F30.kp, PySem.W.mg_of X G a30⟩
  have m_isinstance : mg "isinstance" = none := PySem.W.mg_none_of X G (no_of hn 0 (by decide) (by rfl))
  have m_int : mg "int" = none := PySem.W.mg_none_of X G (no_of hn 1 (by decide) (by rfl))
  have m_bool : mg "bool" = none := PySem.W.mg_none_of X G (no_of hn 2 (by decide) (by rfl))
  have m_list : mg "list" = none := PySem.W.mg_none_of X G (no_of hn 3 (by decide) (by rfl))
  have m_len : mg "len" = none := PySem.W.mg_none_of X G (no_of hn 4 (by decide) (by rfl))
  have m_str : mg "str" = none := PySem.W.mg_none_of X G (no_of hn 5 (by decide) (by rfl))
  have m_tuple : mg "tuple" = none := PySem.W.mg_none_of X G (no_of hn 6 (by decide) (by rfl))
  have m_all : mg "all" = none := PySem.W.mg_none_of X G (no_of hn 7 (by decide) (by rfl))
  have m_dict : mg "dict" = none := PySem.W.mg_none_of X G (no_of hn 8 (by decide) (by rfl))
  have m_max : mg "max" = none := PySem.W.mg_none_of X G (no_of hn 9 (by decide) (by rfl))
  have m_min : mg "min" = none := PySem.W.mg_none_of X G (no_of hn 10 (by decide) (by rfl))
  have m_range : mg "range" = none := PySem.W.mg_none_of X G (no_of hn 11 (by decide) (by rfl))
  obtain ⟨_, c_HOW_MANY_BYTES, r_HOW_MANY_BYTES⟩ := obsVal_ex (x := .int 256) (hc 11 (by decide))
  obtain ⟨_, rfl⟩ := r_HOW_MANY_BYTES
  obtain ⟨_, c_BYTE_SIGNS, r_BYTE_SIGNS⟩ := obsVal_ex (x := .str hexS) (hc 15 (by decide))
  obtain ⟨_, rfl⟩ := r_BYTE_SIGNS
  obtain ⟨_, c_NO_BYTES_AT_ALL, r_NO_BYTES_AT_ALL⟩ := obsVal_ex (x := .str dashS) (hc 16 (by decide))
  obtain ⟨_, rfl⟩ := r_NO_BYTES_AT_ALL
  have hx : obsX K ["FieldError", "NoValue", "NoBytes", "NoMake", "NoText", "NoName", "NoRow"] = [(true, [(some true, true), (some false, false), (some false, false), (some false, false), (some false, false), (some false, false), (some false, false)], some true, some false), (true, [(some true, true), (some true, true), (some false, false), (some false, false), (some false, false), (some false, false), (some false, false)], some true, some false), (true, [(some true, true), (some false, false), (some true, true), (some false, false), (some false, false), (some false, false), (some false, false)], some true, some false), (true, [(some true, true), (some false, false), (some false, false), (some true, true), (some false, false), (some false, false), (some false, false)], some true, some false), (true, [(some true, true), (some false, false), (some false, false), (some false, false), (some true, true), (some false, false), (some false, false)], some true, some false), (true, [(some true, true), (some false, false), (some false, false), (some false, false), (some false, false), (some true, true), (some false, false)], some true, some false), (true, [(some true, true), (some false, false), (some false, false), (some false, false), (some false, false), (some false, false), (some true, true)], some true, some false)] := congrArg (fun x => x.2.2.2.2) hK
  rw [obsX_eq] at hx
  simp only [List.map_cons, List.map_nil, List.cons.injEq, and_true] at hx
  obtain ⟨hx_FieldError, hx_NoValue, hx_NoBytes, hx_NoMake, hx_NoText, hx_NoName, hx_NoRow⟩ := hx
  obtain ⟨C_FieldError, cls_FieldError, l_FieldError, v_FieldError, n_FieldError⟩ := cls_ex hx_FieldError X G
  obtain ⟨C_NoValue, cls_NoValue, l_NoValue, v_NoValue, n_NoValue⟩ := cls_ex hx_NoValue X G
  obtain ⟨C_NoBytes, cls_NoBytes, l_NoBytes, v_NoBytes, n_NoBytes⟩ := cls_ex hx_NoBytes X G
  obtain ⟨C_NoMake, cls_NoMake, l_NoMake, v_NoMake, n_NoMake⟩ := cls_ex hx_NoMake X G
  obtain ⟨C_NoText, cls_NoText, l_NoText, v_NoText, n_NoText⟩ := cls_ex hx_NoText X G
  obtain ⟨C_NoName, cls_NoName, l_NoName, v_NoName, n_NoName⟩ := cls_ex hx_NoName X G
  obtain ⟨C_NoRow, cls_NoRow, l_NoRow, v_NoRow, n_NoRow⟩ := cls_ex hx_NoRow X G
  have x_vconsts : VConsts mg := ⟨⟨_, PySem.W.mg_of X G c_HOW_MANY_BYTES⟩, ⟨_, PySem.W.mg_of X G c_BYTE_SIGNS⟩, ⟨_, PySem.W.mg_of X G c_NO_BYTES_AT_ALL⟩⟩
  have e := hfa.symm.trans x_law.m
  cases e
  refine ⟨d30, fun s v => binds_law x_law.F s v, fun base hbK _ => ?_⟩
  exact have KT := kit48 cls_FieldError cls_NoValue cls_NoBytes cls_NoMake cls_NoText cls_NoName cls_NoRow l_NoText v_NoText hbK
    have GIW := x_is_whole.cal (P := l.prog) (w := w) (base := base) (okx_iw x_is_whole.F m_isinstance m_int m_bool)
    have GAB := x_are_bytes.cal (okx_ab x_are_bytes.F (x_is_byte.cal (okx_ib x_is_byte.F GIW x_vconsts.many)) m_isinstance m_list m_len m_all)
    have GSH := x_show_bytes.cal (okx_sh x_show_bytes.F GAB m_isinstance m_list m_len x_vconsts.signs x_vconsts.none)
    have GRY := x_read_byte.calE (P := l.prog) (w := w) (base := base) (okx_ry x_read_byte.F m_len m_all x_vconsts.signs (cls_NoText.own hbK))
    have GRB := x_read_bytes.calE (okx_rb x_read_bytes.F GRY m_isinstance m_str x_vconsts.none (cls_NoText.own hbK))
    have GAS := x__law_asked.cal (okx_as x__law_asked.F GRB KT.1 (cls_FieldError.own hbK) KT.2 m_isinstance m_int m_ValueError)
    have GTK := x__law_take.cal (P := l.prog) (w := w) (base := base) (okx_take x__law_take.F)
    have GAL := x__law_alike.cal (P := l.prog) (w := w) (base := base) (alx_two x__law_alike m_isinstance m_dict m_tuple m_list m_len m_range m_str m_int m_bool)
    (law_tree (okx_law x_law.F (x__law_cell_at.cal (okx_ca x__law_cell_at.F m_len)) (x__law_numbers.cal (okx_nu x__law_numbers.F m_range)) GTK GAL GAS (x__law_bytes_written.cal (okx_bw x__law_bytes_written.F)) (x__law_read.cal (okx_lr x__law_read.F m_len)) (x__law_changed.cal (okx_ch x__law_changed.F GTK m_len)) GSH m_max m_min m_range m_len m_int m_list m_str m_isinstance)).mono (by decide)
def lawRec : DefRec := match s_law with
  | .FunctionDef n a b _ _ _ sc _ _ pos => ⟨n, a, b, sc, pos⟩
  | _ => ⟨⟨#[]⟩, ⟨[], [], none, [], [], none, []⟩, [], defScope s_law, ⟨0, 0, 0, 0⟩⟩
end Lf
open PySem PySem.W PyProof.Rows
set_option maxRecDepth 100000 in
set_option maxHeartbeats 0 in
theorem PySem.Challenge.cw_laidfields_k48_bytes_written_and_read_holds : PySem.Challenge.rw_laidfields_k48_bytes_written_and_read.Holds := by
  w_on; o_law
  refine holds_open (d := Lf.lawRec) (kwd := []) (XP := XL (PySem.W.view PySem.Challenge.pw_laidfields_k48_bytes_written_and_read [1, 2, 3, 4, 5, 6, 7, 9, 11, 12, 13, 15, 16, 17, 18, 19, 21, 22, 23, 24, 25, 26, 27, 28, 29, 30]) []) Lf.left_top (Hook.of (L2.exHook (Lf.seenF PySem.Challenge.pw_laidfields_k48_bytes_written_and_read) (Lf.seenV PySem.Challenge.pw_laidfields_k48_bytes_written_and_read))) (Hook.keeps (L2.exHook (Lf.seenF PySem.Challenge.pw_laidfields_k48_bytes_written_and_read) (Lf.seenV PySem.Challenge.pw_laidfields_k48_bytes_written_and_read))) (fun s e => xl_of s (Bool.and_eq_true_iff.mp e).1) XL.keeps (by kernel_rfl) (by kernel_rfl) (by kernel_rfl) (fun s e => recFacts_of (Bool.and_eq_true_iff.mp e).2) (by rfl) (by assumption) (by decide +kernel) ⟨rfl, rfl, rfl, rfl, rfl, by decide +kernel⟩ ?hw ?hc
  case hw => w_witness2
  case hc => exact L2.walk_ex (l := PySem.Challenge.rw_laidfields_k48_bytes_written_and_read) (n := 63) (k := 30) (x := "script") (CX := L2.CX0) (sp := Lf.spLaw) rfl (by decide) (by rfl) ⟨rfl, by decide, by decide⟩ (fun w K mg fa h hK X G hfa => Lf.all_mk hK X G hfa) (fun K H a ns hl _ hS => ⟨a, ns, rfl, hS, hl, fun _ => rfl⟩) (fun _ _ _ _ z => z)
#print axioms PySem.Challenge.cw_laidfields_k48_bytes_written_and_read_holds
