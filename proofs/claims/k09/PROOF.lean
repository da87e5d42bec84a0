import PyProof.Rows.All
import Wide.All
import OpenK.AllK
import Wide.FinOn
import PyProof.EqAt
import PyProof.EqKinds
import PyProof.NeKinds
import PyProof.TupleCall
import PyProof.StrWalks
import PyProof.ConsumeWalk
import PyProof.EnumMake
import PyProof.EnumFor
import PyProof.ListNew
import PyProof.ListRange
import PyProof.Rows.SortWalk
import PyProof.Rows.Range3
import PyProof.Rows.ChunkEnd
import PyProof.Rows.ChunkLeaf
import PyProof.Rows.StrInSeq
import Wide.Txt
import PyProof.DictIter
import PyProof.DictWalks
import PyProof.AttrMissHeap
import KE.KDictOf
import KE.KSortTup
import Lean
import PySem.Challenge.RW_laidfields_k09_whole_idle_bytes_are_noug
set_option Elab.async false
set_option linter.all false
set_option maxRecDepth 100000
namespace L2
open PySem PySem.Spec PyProof.Rows

abbrev Key := Sum Int Str
def keyIs : Key → Value → Bool
  | .inl k, v => Value.isInt k v
  | .inr x, v => Value.isStrOf x v
def keyH (w : World) : Key → Int
  | .inl k => hashInt k
  | .inr x => hashStr w x
theorem keyIs_shape : ∀ {k : Key} {v : Value}, keyIs k v = true → (∃ i t, k = Sum.inl i ∧ v = Value.int i t) ∨ (∃ x t, k = Sum.inr x ∧ v = Value.str x t)
  | .inl i, v, h => by
    obtain ⟨t, e⟩ := Value.isInt_shape (k := i) (v := v) h
    exact .inl ⟨i, t, rfl, e⟩
  | .inr x, v, h => by
    obtain ⟨t, e⟩ := Value.isStrOf_shape (x := x) (v := v) h
    exact .inr ⟨x, t, rfl, e⟩
theorem keyIs_int (i : Int) (t : Tok) : keyIs (.inl i) (.int i t) = true := by simp [keyIs, Value.isInt]
theorem keyIs_str (x : Str) (t : Tok) : keyIs (.inr x) (.str x t) = true := by simp [keyIs, Value.isStrOf]
theorem key_ll (a b : Int) : decide ((Sum.inl a : Key) = Sum.inl b) = (a == b) := by
  by_cases e : a = b
  · subst e; simp
  · have h : ¬ (Sum.inl a : Key) = Sum.inl b := fun q => e (Sum.inl.inj q)
    rw [decide_eq_false h]
    exact (beq_eq_false_iff_ne.mpr e).symm
theorem key_rr (a b : Str) : decide ((Sum.inr a : Key) = Sum.inr b) = decide (a = b) := by
  by_cases e : a = b
  · subst e; simp
  · have h : ¬ (Sum.inr a : Key) = Sum.inr b := fun q => e (Sum.inr.inj q)
    rw [decide_eq_false h, decide_eq_false e]
theorem key_lr (a : Int) (b : Str) : decide ((Sum.inl a : Key) = Sum.inr b) = false := decide_eq_false (fun q => nomatch q)
theorem key_rl (a : Str) (b : Int) : decide ((Sum.inr a : Key) = Sum.inl b) = false := decide_eq_false (fun q => nomatch q)

def mixKind (prog : Program) (w : World) : PySem.KeyKind prog w Key where
  is := keyIs
  hash := keyH w
  inj := fun v a b ha hb => by
    rcases keyIs_shape ha with ⟨i, t, rfl, rfl⟩ | ⟨x, t, rfl, rfl⟩
    · rcases keyIs_shape hb with ⟨j, u, rfl, e⟩ | ⟨y, u, rfl, e⟩
      · injection e with e1 _; rw [e1]
      · exact nomatch e
    · rcases keyIs_shape hb with ⟨j, u, rfl, e⟩ | ⟨y, u, rfl, e⟩
      · exact nomatch e
      · injection e with e1 _; rw [e1]
  byValue := fun k v h => by
    rcases keyIs_shape h with ⟨i, t, rfl, rfl⟩ | ⟨x, t, rfl, rfl⟩ <;> rfl
  pyHash := fun hv h => by
    rcases keyIs_shape hv with ⟨i, t, rfl, rfl⟩ | ⟨x, t, rfl, rfl⟩
    · exact wpAny_pyHash_int h
    · exact wpAny_pyHash_str h
  eqBool := fun hu hv h => by
    rcases keyIs_shape hu with ⟨i, t, rfl, rfl⟩ | ⟨x, t, rfl, rfl⟩
    · rcases keyIs_shape hv with ⟨j, u, rfl, rfl⟩ | ⟨y, u, rfl, rfl⟩
      · rw [key_ll] at h; exact wpAny_eqBool_int h
      · rw [key_lr] at h; exact SeqAt.EqAt.int_str i t y u _ _ _ _ h
    · rcases keyIs_shape hv with ⟨j, u, rfl, rfl⟩ | ⟨y, u, rfl, rfl⟩
      · rw [key_rl] at h; exact SeqAt.EqAt.str_int x t j u _ _ _ _ h
      · rw [key_rr] at h; exact wpAny_eqBool_str h
  «strs» := fun k x t v h => by
    rcases keyIs_shape h with ⟨i, u, rfl, e⟩ | ⟨y, u, rfl, e⟩
    · exact nomatch e
    · injection e with e1 _
      subst e1
      cases v <;> rfl

theorem mixKind_int (prog : Program) (w : World) (i : Int) (t : Tok) : (mixKind prog w).is (.inl i) (.int i t) = true := keyIs_int i t
theorem mixKind_str (prog : Program) (w : World) (x : Str) (t : Tok) : (mixKind prog w).is (.inr x) (.str x t) = true := keyIs_str x t
end L2

namespace L2
open PySem PySem.Spec PyProof.Rows

inductive V where
  | non | bl (b : Bool) | int (i : Int) | str (x : Str) | byt (b : Array UInt8) | flt (b : UInt64) | ref (a : Addr) | ty (n : String)
  deriving DecidableEq

def RelV : V → Value → Prop
  | .non, u => u = Value.none
  | .bl b, u => u = Value.bool b
  | .int i, u => ∃ t, u = Value.int i t
  | .str x, u => ∃ t, u = Value.str x t
  | .byt b, u => ∃ t, u = Value.bytes b t
  | .flt b, u => ∃ t, u = Value.float b t
  | .ref a, u => u = Value.ref a
  | .ty n, u => u = Value.type n

abbrev Vals : List V → List Value → Prop := Paired RelV
theorem Vals.length {xs : List V} {us : List Value} (r : Vals xs us) : xs.length = us.length := Paired.length r
theorem Vals.get : ∀ {xs : List V} {us : List Value} {i : Nat} {x : V}, Vals xs us → xs[i]? = some x → ∃ u, us[i]? = some u ∧ RelV x u
  | _, _, _, _, .nil, e => by simp at e
  | _, _, 0, _, .cons r _, e => by simp at e; subst e; exact ⟨_, rfl, r⟩
  | _, _, i + 1, x, .cons _ t, e => by
    obtain ⟨u, h1, h2⟩ := Vals.get (i := i) (x := x) t (by simpa using e)
    exact ⟨u, by simpa using h1, h2⟩
theorem Vals.set {x : V} {u : Value} (r : RelV x u) : ∀ {xs : List V} {us : List Value} (i : Nat), Vals xs us → Vals (xs.set i x) (us.set i u)
  | _, _, _, .nil => .nil
  | _, _, 0, .cons _ t => .cons r t
  | _, _, i + 1, .cons q t => .cons q (Vals.set r i t)
theorem Vals.append : ∀ {xs ys : List V} {us ws : List Value}, Vals xs us → Vals ys ws → Vals (xs ++ ys) (us ++ ws)
  | _, _, _, _, .nil, s => s
  | _, _, _, _, .cons r t, s => .cons r (Vals.append t s)
def RelO : Option V → Option Value → Prop
  | some v, some u => RelV v u
  | none, none => True
  | _, _ => False
def KV {κ : Type} : List (κ × V) → List (κ × Value) → Prop := Paired fun (p : κ × V) (q : κ × Value) => p.1 = q.1 ∧ RelV p.2 q.2

def kV : Key → V
  | .inl i => .int i
  | .inr x => .str x

inductive HO where
  /-- a list -/
  | lst (xs : List V)
  /-- a tuple (never changes) -/
  | tup (xs : List V)
  /-- a dict whose keys are ints and texts; one whose keys are tuples of ints and texts (the empty one is both) -/
  | dK (kvs : List (Key × V)) | dT (kvs : List (List Key × V))
  /-- a set of ints: its members, its size -/
  | set (S : Int → Bool) (n : Nat)
  /-- an instance of the class at C, its dict at dx, its attributes -/
  | ins (C dx : Addr) (fs : List (Str × V))
  /-- the dict of the instance at x -/
  | own (x : Addr)
  /-- the dict of an exception -/
  | xd (fs : List (Str × V))
  /-- a bound method, f of x -/
  | met (f x : Addr)
  /-- a range object lo, lo + 1, .. below hi -/
  | rng (lo hi : Int)
  /-- a thing that is known to the object (the script; a dict while a loop walks it): read, never written while it is so -/
  | frz (o : Obj) (u : HO)
  /-- a code object's table -/
  | tbl (ps : Array Value)
  /-- any other thing, by what is true of its one object (a def of one's own: SetO a S n := HO.ext fun h => ..) -/
  | ext (φ : Heap → Prop)

abbrev Hp := Addr → Option HO
def upd (H : Hp) (a : Addr) (o : HO) : Hp := fun b => if b = a then some o else H b
theorem upd_same {H : Hp} {a : Addr} {o : HO} : upd H a o a = some o := by unfold upd; rw [if_pos rfl]
theorem upd_ne {H : Hp} {a b : Addr} {o : HO} (h : b ≠ a) : upd H a o b = H b := by unfold upd; rw [if_neg h]
theorem ne_of_none {H : Hp} {a b : Addr} {o : HO} (h : H a = some o) (h' : H b = none) : a ≠ b := by
  intro e; subst e; rw [h] at h'; cases h'

section
variable (P : Program) (w : World)
def ObjOk (H : Hp) (h : Heap) (a : Addr) : HO → Prop
  | .lst xs => xs.length ≤ sizeLine ∧ ∃ (its : List Value) (n : Nat), Vals xs its ∧ h.get? a = some { cls := .type "list", data := .seq its.toArray n }
  | .tup xs => xs.length ≤ sizeLine ∧ ∃ its : List Value, Vals xs its ∧ IsTup h a its.toArray
  | .dK kvs => kvs.length ≤ sizeLine ∧ (a == sysModules) = false ∧ ∃ vs, KV kvs vs ∧ h.DictOf (mixKind P w) a vs
  | .dT kvs => kvs.length ≤ sizeLine ∧ (a == sysModules) = false ∧ ∃ xs : List (List Key × Addr × Value),
      Paired (fun (p : List Key × V) (q : List Key × Addr × Value) => p.1 = q.1 ∧ H q.2.1 = some (.tup (p.1.map kV)) ∧ RelV p.2 q.2.2) kvs xs ∧
      ∃ o es ep, h.get? a = some o ∧ o.ExactDict ∧ o.data = .dict es ep ∧ es.toList = xs.map (entryOfKey (tupleKind (mixKind P w))) ∧ (xs.map (·.1)).Nodup
  | .set S n => h.SetOf (intKind P w) a S n
  | .ins C dx fs => H dx = some (.own a) ∧ fs.length ≤ 1000 ∧ dx ≠ a ∧ h.get? a = some (PySem.W.instObj C dx) ∧
      ∃ mA, h.Ns1 dx mA ∧ (∀ f, RelO (fs.lookup f) (mA f)) ∧ PySem.Within mA (fs.map (·.1))
  | .own _ => ∃ o, h.get? a = some o
  | .xd fs => ∃ mA, h.Ns1 a mA ∧ ∀ f, RelO (fs.lookup f) (mA f)
  | .rng lo hi => ∃ t u v, h.get? a = some { cls := .type "range", data := .fields #[.int lo t, .int hi u, .int 1 v] }
  | .frz o u => h.get? a = some o ∧ ObjOk H h a u
  | .tbl ps => h.get? a = some { cls := .none, data := .fields ps }
  | .met f x => h.get? a = some (PySem.W.methodObj (.ref f) (.ref x))
  | .ext φ => φ h ∧ (∃ o, h.get? a = some o) ∧ ∀ h1 h2 : Heap, φ h1 → (∀ o, h1.get? a = some o → h2.get? a = some o) → φ h2
def HOk (H : Hp) (h : Heap) : Prop := ∀ a o, H a = some o → ObjOk P w H h a o
end

section
variable {P : Program} {w : World} {H H' : Hp} {h h' : Heap} {a : Addr} {o : HO}
theorem ObjOk.lt (x : ObjOk P w H h a o) : a < h.objs.size := by
  cases o with
  | lst xs => obtain ⟨_, _, _, _, e⟩ := x; exact Heap.lt_size e
  | tup xs => obtain ⟨_, _, _, p⟩ := x; exact p.lt
  | dK kvs => obtain ⟨_, _, _, _, o, _, _, e, _⟩ := x; exact Heap.lt_size e
  | dT kvs => obtain ⟨_, _, _, _, o, _, _, e, _⟩ := x; exact Heap.lt_size e
  | set S n => obtain ⟨o, _, _, _, e, _⟩ := x; exact Heap.lt_size e
  | ins C dx fs => obtain ⟨_, _, _, e, _⟩ := x; exact Heap.lt_size e
  | own y => obtain ⟨_, e⟩ := x; exact Heap.lt_size e
  | xd fs => obtain ⟨_, ⟨_, _, _, e, _⟩, _⟩ := x; exact Heap.lt_size e
  | rng lo hi => obtain ⟨_, _, _, e⟩ := x; exact Heap.lt_size e
  | frz ob u => obtain ⟨e, _⟩ := x; exact Heap.lt_size e
  | tbl ps => exact Heap.lt_size (show h.get? a = some _ from x)
  | met f y => exact Heap.lt_size (show h.get? a = some _ from x)
  | ext φ => obtain ⟨_, ⟨_, e⟩, _⟩ := x; exact Heap.lt_size e
theorem Paired.mapP {α β : Type} {F G : α → β → Prop} : ∀ {l₁ : List α} {l₂ : List β}, Paired F l₁ l₂ → (∀ a b, F a b → G a b) → Paired G l₁ l₂
  | _, _, .nil, _ => .nil
  | _, _, .cons r t, f => .cons (f _ _ r) (Paired.mapP t f)
theorem ObjOk.stay (x : ObjOk P w H h a o) (k : ∀ b u, (b = a ∨ H b = some (.own a)) → h.get? b = some u → h'.get? b = some u)
    (ho : ∀ b, H b = some (.own a) → H' b = some (.own a)) (ht : ∀ b xs, H b = some (.tup xs) → H' b = some (.tup xs)) : ObjOk P w H' h' a o := by
  induction o with
  | lst xs => obtain ⟨z, its, n, r, e⟩ := x; exact ⟨z, its, n, r, k _ _ (.inl rfl) e⟩
  | tup xs => obtain ⟨z, its, r, ob, e, c⟩ := x; exact ⟨z, its, r, ob, k _ _ (.inl rfl) e, c⟩
  | dK kvs => obtain ⟨z, y, vs, r, ob, es, ep, e, c⟩ := x; exact ⟨z, y, vs, r, ob, es, ep, k _ _ (.inl rfl) e, c⟩
  | dT kvs =>
    obtain ⟨z, y, xs, r, ob, es, ep, e, c⟩ := x
    exact ⟨z, y, xs, Paired.mapP r fun p q z => ⟨z.1, ht _ _ z.2.1, z.2.2⟩, ob, es, ep, k _ _ (.inl rfl) e, c⟩
  | set S n => obtain ⟨ob, es, ep, t, e, c⟩ := x; exact ⟨ob, es, ep, t, k _ _ (.inl rfl) e, c⟩
  | ins C dx fs =>
    obtain ⟨d, z, ne, e, mA, ⟨od, es, ep, e2, c⟩, r⟩ := x
    exact ⟨ho _ d, z, ne, k _ _ (.inl rfl) e, mA, ⟨od, es, ep, k _ _ (.inr d) e2, c⟩, r⟩
  | own y => obtain ⟨ob, e⟩ := x; exact ⟨ob, k _ _ (.inl rfl) e⟩
  | xd fs => obtain ⟨mA, ⟨od, es, ep, e, c⟩, r⟩ := x; exact ⟨mA, ⟨od, es, ep, k _ _ (.inl rfl) e, c⟩, r⟩
  | rng lo hi => obtain ⟨t, u, v, e⟩ := x; exact ⟨t, u, v, k _ _ (.inl rfl) e⟩
  | frz ob u ih => obtain ⟨e, q⟩ := x; exact ⟨k _ _ (.inl rfl) e, ih q⟩
  | tbl ps =>
    have e : h.get? a = some { cls := .none, data := .fields ps } := x
    show h'.get? a = some { cls := .none, data := .fields ps }
    exact k a _ (.inl rfl) e
  | met f y =>
    have e : h.get? a = some (PySem.W.methodObj (.ref f) (.ref y)) := x
    show h'.get? a = some (PySem.W.methodObj (.ref f) (.ref y))
    exact k a _ (.inl rfl) e
  | ext φ => obtain ⟨p, ⟨o, e⟩, st⟩ := x; exact ⟨st _ _ p fun o q => k _ _ (.inl rfl) q, ⟨o, k _ _ (.inl rfl) e⟩, st⟩
theorem HOk.lt (x : HOk P w H h) (e : H a = some o) : a < h.objs.size := (x a o e).lt
theorem HOk.fresh (x : HOk P w H h) (e : h.objs.size ≤ a) : H a = none := by
  cases q : H a with
  | none => rfl
  | some u => exact absurd (Nat.lt_of_lt_of_le (x.lt q) e) (Nat.lt_irrefl _)
theorem HOk.kept (x : HOk P w H h) (k : ∀ b u, h.get? b = some u → h'.get? b = some u) : HOk P w H h' := fun a o e =>
  (x a o e).stay (fun b u _ q => k b u q) (fun _ q => q) fun _ _ q => q
theorem HOk.laid (x : HOk P w H h) (k : ∀ b u, h.get? b = some u → h'.get? b = some u) (hp : h.objs.size ≤ a) (new : ObjOk P w (upd H a o) h' a o) : HOk P w (upd H a o) h' := fun b u e => by
  have hn := x.fresh hp
  by_cases hb : b = a
  · subst hb; rw [upd_same] at e; cases e; exact new
  · rw [upd_ne hb] at e
    exact (x b u e).stay (fun c v _ q => k c v q) (fun c q => by rw [upd_ne (ne_of_none q hn)]; exact q) fun c xs q => by rw [upd_ne (ne_of_none q hn)]; exact q
end

def Rd (H : Hp) (a : Addr) (u : HO) : Prop := H a = some u ∨ ∃ o, H a = some (.frz o u)
theorem Rd.ok {P : Program} {w : World} {H : Hp} {h : Heap} {a : Addr} {u : HO} (r : Rd H a u) (x : HOk P w H h) : ObjOk P w H h a u := by
  rcases r with r | ⟨o, r⟩
  · exact x a u r
  · obtain ⟨_, q⟩ := x a _ r
    exact q
def Mut : Option HO → Prop
  | some (.lst _) => True
  | some (.dK _) => True
  | some (.dT _) => True
  | some (.set _ _) => True
  | some (.ins _ _ _) => True
  | some (.ext _) => True
  | _ => False
section
variable {P : Program} {w : World} {H : Hp} {h h' : Heap} {x e : Addr} {o' : HO}
theorem HOk.write (ok : HOk P w H h) (mu : Mut (H x)) (he : e = x ∨ H e = some (.own x)) (k : ∀ b u, b ≠ e → h.get? b = some u → h'.get? b = some u) (heo : ∃ u, h'.get? e = some u)
    (new : ObjOk P w (upd H x o') h' x o') : HOk P w (upd H x o') h' := fun b u q => by
  have nown : ∀ c y, H c = some (.own y) → c ≠ x := fun c y r z => by subst z; rw [r] at mu; exact mu
  have ntup : ∀ c xs, H c = some (.tup xs) → c ≠ x := fun c xs r z => by subst z; rw [r] at mu; exact mu
  by_cases hb : b = x
  · subst hb; rw [upd_same] at q; cases q; exact new
  · rw [upd_ne hb] at q
    by_cases hbe : b = e
    · have q' : H b = some (.own x) := by
        rcases he with z | z
        · exact absurd (hbe.trans z) hb
        · rw [hbe]; exact z
      rw [q] at q'; cases q'
      obtain ⟨v, hv⟩ := heo
      exact ⟨v, by rw [hbe]; exact hv⟩
    · refine (ok b u q).stay (fun c v hc r => k c v ?_ r) (fun c r => by rw [upd_ne (nown c b r)]; exact r) fun c xs r => by rw [upd_ne (ntup c xs r)]; exact r
      rcases hc with rfl | hc
      · exact hbe
      · rintro rfl
        rcases he with z | z
        · exact nown c b hc z
        · rw [hc] at z; cases z; exact hb rfl
end

structure Un (fs ex : List Addr) (H H' : Hp) (h h' : Heap) : Prop where
  keep : ∀ b o, h.get? b = some o → H b = none → b ∉ fs → b ∉ ex → h'.get? b = some o
  slot : ∀ b o, h.get? b = some o → H b = none → b ∈ fs → b ∉ ex → ∃ sl, h'.get? b = some { o with slots := sl }
  free : ∀ b o, h.get? b = some o → H b = none → b ∉ ex → H' b = none
  there : ∀ b o, h.get? b = some o → b ∉ ex → ∃ o', h'.get? b = some o'
  tups : ∀ b xs, H b = some (.tup xs) → H' b = some (.tup xs)
  frzs : ∀ b o u, H b = some (.frz o u) → H' b = some (.frz o u)
  tbls : ∀ b ps, H b = some (.tbl ps) → ∃ more, H' b = some (.tbl (ps ++ more))
section
variable {fs fs' ex ex' : List Addr} {H H1 H2 : Hp} {h h1 h2 h' : Heap} {a x e : Addr} {o : HO}
theorem Un.any (u : Un fs ex H H1 h h1) {b : Addr} {ob : Obj} (q : h.get? b = some ob) (n : H b = none) (hx : b ∉ ex) : ∃ sl, h1.get? b = some { ob with slots := sl } := by
  by_cases hb : b ∈ fs
  · exact u.slot b ob q n hb hx
  · exact ⟨ob.slots, u.keep b ob q n hb hx⟩
theorem Un.kept (k : ∀ b u, h.get? b = some u → h'.get? b = some u) : Un fs ex H H h h' :=
  ⟨fun b ob q _ _ _ => k b ob q, fun b ob q _ _ _ => ⟨ob.slots, k b ob q⟩, fun _ _ _ n _ => n, fun b ob q _ => ⟨ob, k b ob q⟩, fun _ _ q => q, fun _ _ _ q => q, fun _ ps q => ⟨#[], by rw [q]; simp⟩⟩
theorem Un.refl : Un fs ex H H h h := Un.kept fun _ _ q => q
theorem Un.laid (k : ∀ b u, h.get? b = some u → h'.get? b = some u) (hp : h.objs.size ≤ a) (hn : H a = none) : Un fs ex H (upd H a o) h h' where
  keep := fun b u q _ _ _ => k b u q
  slot := fun b u q _ _ _ => ⟨u.slots, k b u q⟩
  free := fun b u q n _ => by rw [upd_ne (Nat.ne_of_lt (Nat.lt_of_lt_of_le (Heap.lt_size q) hp))]; exact n
  there := fun b u q _ => ⟨u, k b u q⟩
  tups := fun b xs q => by rw [upd_ne (ne_of_none q hn)]; exact q
  frzs := fun b u xs q => by rw [upd_ne (ne_of_none q hn)]; exact q
  tbls := fun b ps q => ⟨#[], by rw [upd_ne (ne_of_none q hn), q]; simp⟩
theorem Un.write (mu : Mut (H x)) (he : e = x ∨ H e = some (.own x)) (k : ∀ b u, b ≠ e → h.get? b = some u → h'.get? b = some u) (heo : ∃ u, h'.get? e = some u) : Un fs ex H (upd H x o) h h' := by
  have hx : ∀ b, H b = none → b ≠ x := fun b n z => by subst z; rw [n] at mu; exact mu
  have hb : ∀ b, H b = none → b ≠ e := fun b n z => by
    subst z
    rcases he with r | r
    · exact hx b n r
    · rw [n] at r; cases r
  have hm : ∀ b u, H b = some u → ¬ Mut (some u) → b ≠ x := fun b u q nm z => by subst z; rw [q] at mu; exact nm mu
  refine ⟨fun b u q n _ _ => k b u (hb b n) q, fun b u q n _ _ => ⟨u.slots, k b u (hb b n) q⟩, fun b u q n _ => by rw [upd_ne (hx b n)]; exact n, fun b u q _ => ?_,
    fun b xs q => by rw [upd_ne (hm b _ q fun z => z)]; exact q, fun b u xs q => by rw [upd_ne (hm b _ q fun z => z)]; exact q, fun b ps q => ⟨#[], by rw [upd_ne (hm b _ q fun z => z), q]; simp⟩⟩
  by_cases hbe : b = e
  · subst hbe; exact heo
  · exact ⟨u, k b u hbe q⟩
end

def trk (h : Heap) (H : Hp) : List Addr := (List.range h.objs.size).filter fun a => (H a).isSome
def hidT (h : Heap) (H : Hp) : Heap := PySem.W.hideAll h (trk h H)
theorem hidT_size (h : Heap) (H : Hp) : (hidT h H).objs.size = h.objs.size := PySem.W.hideAll_size _ _
theorem hidT_get {h : Heap} {H : Hp} {b : Addr} {o : Obj} (e : h.get? b = some o) (n : H b = none) : (hidT h H).get? b = some o :=
  PySem.W.hideAll_get _ e fun hm => by
    have q : (H b).isSome = true := (List.mem_filter.mp hm).2
    rw [n] at q; simp at q
theorem of_hidT {h : Heap} {H : Hp} {b : Addr} {o : Obj} (e : (hidT h H).get? b = some o) : h.get? b = some o ∧ H b = none := by
  have e' : h.get? b = some o := PySem.W.of_hideAll (trk h H) e
  refine ⟨e', ?_⟩
  cases q : H b with
  | none => rfl
  | some x =>
    have hm : b ∈ trk h H := List.mem_filter.mpr ⟨List.mem_range.mpr (Heap.lt_size e'), by simp [q]⟩
    have z : (hidT h H).get? b = none := PySem.W.hideAll_none (trk h H) hm
    rw [z] at e; cases e

def allNews (g h : Heap) (L : Addr) : List (Addr × Obj) := (List.range h.objs.size).filterMap fun a => if a = L ∨ (g.get? a).isSome = true then none else (h.get? a).map fun o => (a, o)
def rest (g h : Heap) (L d : Addr) : List (Addr × Obj) := (allNews g h L).filter fun p => decide (p.1 ≠ d)
end L2

namespace L2
open PySem PySem.Spec PyProof.Rows

structure Mod (K : PySem.W.Frag) (mg : Str → Option Value) (base : Heap) : Prop where
  kin : K.In base
  glob : base.Ns mainGlobals mg
  blt : ∃ mb, base.Ns builtinsNs mb ∧ ∀ x : Str, x ≠ "__name__" → mb x = bootBuiltins x
  nolimit : base.NoLimit

structure Cx where
  prog : Program
  w : World
  K : PySem.W.Frag
  mg : Str → Option Value
  base : Heap
  A : Around
  N : List Str
  s₀ : Shared
  H₀ : Hp
  env : Env
  outer : List Env
  stack : List Env
  ex : List Addr
  fn : Str → Bool
  calm : Bool
  pn : List (Addr × Obj)
  xe : Value → Shared → Prop
def frs (l : List Env) : List Addr := l.filterMap (·.frame)
abbrev Cx.fs (X : Cx) : List Addr := frs X.outer

def Vis (sc : Scope) (x : Str) : Prop := sc.names.lookup x = some .local ∨ sc.names.lookup x = some .cell ∨ sc.names.lookup x = some .free
def Loc (sc : Scope) (x : Str) : Prop := sc.names.lookup x = some .local ∨ sc.names.lookup x = some .cell
def Look (env : Env) (h : Heap) (m : Str → Option Value) (x : Str) (u : Value) : Prop :=
  (env.kindOf x = some .local ∧ m x = some u) ∨ ((env.kindOf x = some .cell ∨ env.kindOf x = some .free) ∧ ∃ c, env.cells.lookup x = some c ∧ h.IsCell c (some u))

structure Cx.Ok (X : Cx) : Prop where
  mod : Mod X.K X.mg X.base
  kind : X.env.scope.kind = .function
  glob : X.env.globals = mainGlobals
  blt : X.env.builtins = builtinsNs
  above : X.s₀.heap.objs.size ≤ X.env.locals
  inj : ∀ x y c, X.env.cells.lookup x = some c → X.env.cells.lookup y = some c → x = y
  has : ∀ x, (X.env.kindOf x = some .cell ∨ X.env.kindOf x = some .free) → ∃ c, X.env.cells.lookup x = some c
  cab : ∀ x c, X.fn x = true → X.env.cells.lookup x = some c → X.s₀.heap.objs.size ≤ c
  hd : X.calm = true → X.A.handled = none
  frames : X.A.frames = some X.stack
  stk : X.stack = X.outer ∨ (X.stack = X.env :: X.outer ∧ X.env.frame = some X.env.locals)
  exf : ∀ b ∈ X.ex, b ≠ X.env.locals ∧ ∀ x c, X.env.cells.lookup x = some c → c ≠ b
  bs : ∀ b o, X.base.get? b = some o → X.s₀.heap.get? b = some o ∧ X.H₀ b = none
  bsz : X.base.objs.size ≤ X.s₀.heap.objs.size
  noex : ∀ b o, X.base.get? b = some o → b ∉ X.ex
  exfs : ∀ b ∈ X.ex, b ∉ X.fs
  funs : X.s₀.heap.FunFrames X.base X.outer
  frf : ∀ b ∈ X.fs, X.H₀ b = none

structure Inv (X : Cx) (pins : List (Addr × Obj)) (σ : List (Option V)) (H : Hp) (s : Shared) : Prop where
  ok : X.Ok
  os : s.os = X.s₀.os
  bare : AllBare s.gens
  base : Un X.fs X.ex X.H₀ H X.s₀.heap s.heap
  loc : ∃ m, s.heap.Ns X.env.locals m ∧ ∀ (i : Nat) (x : Str) (v : V), X.N[i]? = some x → σ[i]? = some (some v) → Vis X.env.scope x → ∃ u, RelV v u ∧ Look X.env s.heap m x u
  cell : ∀ x c, X.env.cells.lookup x = some c → ∃ v, s.heap.IsCell c v
  free : H X.env.locals = none
  freeC : ∀ x c, X.env.cells.lookup x = some c → H c = none
  pin : ∀ p ∈ X.pn ++ pins, s.heap.get? p.1 = some p.2 ∧ H p.1 = none ∧ p.1 ≠ X.env.locals ∧ p.1 ∉ X.fs ∧ ∀ v, p.2.data ≠ .cell v
  hok : HOk X.prog X.w H s.heap
  len : σ.length = X.N.length

section
variable {X : Cx} {pins : List (Addr × Obj)} {σ : List (Option V)} {H H' : Hp} {s : Shared} {h' : Heap}

theorem Cx.Ok.nofr (ok : X.Ok) {b : Addr} {o : Obj} (e : X.base.get? b = some o) : b ∉ X.fs := fun hb => by
  have := (ok.funs.mem hb).1
  rw [e] at this; cases this
theorem Inv.bs (I : Inv X pins σ H s) : ∀ b o, X.base.get? b = some o → s.heap.get? b = some o ∧ H b = none := fun b o e =>
  ⟨I.base.keep b o (I.ok.bs b o e).1 (I.ok.bs b o e).2 (I.ok.nofr e) (I.ok.noex b o e), I.base.free b o (I.ok.bs b o e).1 (I.ok.bs b o e).2 (I.ok.noex b o e)⟩
theorem Inv.bk (I : Inv X pins σ H s) : ∀ b o, X.base.get? b = some o → s.heap.get? b = some o := fun b o e => (I.bs b o e).1
theorem Inv.mod (I : Inv X pins σ H s) : Mod X.K X.mg X.base := I.ok.mod
theorem Inv.kIn (I : Inv X pins σ H s) : X.K.In s.heap := I.ok.mod.kin.keeps I.bk
theorem Inv.fr (I : Inv X pins σ H s) : ∃ m, Fr X.base X.env.locals s.heap m :=
  let ⟨m, hn, _⟩ := I.loc
  ⟨m, hn, I.bk, Nat.le_trans I.ok.bsz I.ok.above⟩
theorem Inv.lt (I : Inv X pins σ H s) : X.env.locals < s.heap.objs.size := let ⟨_, hn, _⟩ := I.loc; hn.lt
theorem Inv.sz (I : Inv X pins σ H s) : X.s₀.heap.objs.size ≤ s.heap.objs.size := Nat.le_trans I.ok.above (Nat.le_of_lt I.lt)
theorem Inv.nofs (I : Inv X pins σ H s) {a : Addr} (h : s.heap.objs.size ≤ a) : a ∉ X.fs := fun hb => by
  obtain ⟨_, o, ho, _⟩ := I.ok.funs.mem hb
  exact absurd (Nat.lt_of_lt_of_le (Heap.lt_size ho) (Nat.le_trans I.sz h)) (Nat.lt_irrefl _)
theorem Inv.cne (I : Inv X pins σ H s) : ∀ x c, X.env.cells.lookup x = some c → c ≠ X.env.locals := fun x c e z => by
  obtain ⟨v, o, ho, hd⟩ := I.cell x c e
  obtain ⟨m, ⟨o', es, ep, ho', hd', _⟩, _⟩ := I.loc
  rw [z, ho'] at ho; cases ho; rw [hd'] at hd; cases hd
theorem Inv.funs (I : Inv X pins σ H s) : s.heap.FunFrames X.base X.outer := by
  have all : ∀ (l : List Env), (∀ b ∈ frs l, b ∈ X.fs) → X.s₀.heap.FunFrames X.base l → s.heap.FunFrames X.base l := by
    intro l
    induction l with
    | nil => intro _ _; trivial
    | cons env r ih =>
      intro hs hl
      obtain ⟨hk, ⟨L, o, hf, hn, ho, hd⟩, hr⟩ := hl
      have hL : L ∈ X.fs := hs L (by unfold frs; rw [List.filterMap_cons, hf]; exact List.mem_cons_self)
      obtain ⟨sl, e⟩ := I.base.slot L o ho (I.ok.frf L hL) hL fun z => I.ok.exfs L z hL
      exact ⟨hk, ⟨L, _, hf, hn, e, hd⟩, ih (fun b hb => hs b (by unfold frs; rw [List.filterMap_cons, hf]; exact List.mem_cons_of_mem _ hb)) hr⟩
  exact all X.outer (fun _ hb => hb) I.ok.funs

theorem Inv.stack (I : Inv X pins σ H s) : s.heap.FunFrames X.base X.stack := by
  rcases I.ok.stk with e | ⟨e, hf⟩
  · rw [e]; exact I.funs
  · rw [e]
    obtain ⟨m, hn, _⟩ := I.loc
    refine .cons (by rw [I.ok.kind]; decide) hf hn ?_ I.funs
    exact Heap.get?_none_of_le (Nat.le_trans I.ok.bsz I.ok.above)
theorem Inv.stkSub (I : Inv X pins σ H s) : ∀ b ∈ frs X.stack, b ∈ X.env.locals :: X.fs := fun b hb => by
  rcases I.ok.stk with e | ⟨e, hf⟩
  · rw [e] at hb; exact List.mem_cons_of_mem _ hb
  · rw [e] at hb
    unfold frs at hb
    rw [List.filterMap_cons, hf] at hb
    exact hb
theorem Inv.stkFree (I : Inv X pins σ H s) : ∀ b ∈ frs X.stack, H b = none := fun b hb => by
  rcases List.mem_cons.mp (I.stkSub b hb) with e | hb
  · rw [e]; exact I.free
  · obtain ⟨_, o, ho, _⟩ := I.ok.funs.mem hb
    exact I.base.free b o ho (I.ok.frf b hb) fun z => I.ok.exfs b z hb

theorem Inv.step {g' : Array GenState} {t' : Nat} {d' : Drawn} {ch : List Addr} (I : Inv X pins σ H s)
    (hch : ∀ b ∈ ch, (b ∈ X.ex ∨ X.s₀.heap.objs.size ≤ b) ∧ b ≠ X.env.locals ∧ (∀ x c, X.env.cells.lookup x = some c → c ≠ b) ∧ ∀ p ∈ X.pn ++ pins, p.1 ≠ b)
    (keep : ∀ b o, b ≠ X.env.locals → b ∉ X.fs → b ∉ ch → s.heap.get? b = some o → H b = none → h'.get? b = some o)
    (slot : ∀ b o, b ≠ X.env.locals → b ∈ X.fs → b ∉ ch → s.heap.get? b = some o → H b = none → ∃ sl, h'.get? b = some { o with slots := sl }) (free : ∀ b o, b ∉ ch → s.heap.get? b = some o → H b = none → H' b = none)
    (there : ∀ b o, b ∉ ch → s.heap.get? b = some o → ∃ o', h'.get? b = some o')
    (tups : ∀ b xs, H b = some (.tup xs) → H' b = some (.tup xs)) (frzs : ∀ b o u, H b = some (.frz o u) → H' b = some (.frz o u)) (tbls : ∀ b ps, H b = some (.tbl ps) → ∃ more, H' b = some (.tbl (ps ++ more)))
    (ns : ∀ m, s.heap.Ns X.env.locals m → h'.Ns X.env.locals m) (hok : HOk X.prog X.w H' h') (hg : AllBare g') :
    Inv X pins σ H' { s with heap := h', gens := g', drawn := d', toks := t' } := by
  have neL : ∀ b o, X.s₀.heap.get? b = some o → b ≠ X.env.locals := fun b o e => Nat.ne_of_lt (Nat.lt_of_lt_of_le (Heap.lt_size e) I.ok.above)
  have neC : ∀ b o, X.s₀.heap.get? b = some o → b ∉ X.ex → b ∉ ch := fun b o e hx hb => by
    rcases (hch b hb).1 with z | z
    · exact hx z
    · exact absurd (Nat.lt_of_lt_of_le (Heap.lt_size e) z) (Nat.lt_irrefl _)
  have cellK : ∀ x c, X.env.cells.lookup x = some c → ∀ v, s.heap.IsCell c v → h'.IsCell c v := fun x c e v ⟨o, ho, hd⟩ => by
    have nch : c ∉ ch := fun z => (hch c z).2.2.1 x c e rfl
    by_cases hc : c ∈ X.fs
    · obtain ⟨sl, q⟩ := slot c o (I.cne x c e) hc nch ho (I.freeC x c e)
      exact ⟨_, q, hd⟩
    · exact ⟨o, keep c o (I.cne x c e) hc nch ho (I.freeC x c e), hd⟩
  refine ⟨I.ok, I.os, hg, ⟨fun b o e n hb hx => ?_, fun b o e n hb hx => ?_, fun b o e n hx => ?_, fun b o e hx => ?_, fun b xs e => tups b xs (I.base.tups b xs e), fun b o xs e => frzs b o xs (I.base.frzs b o xs e), fun b ps e => ?_⟩, ?_, fun x c e => ?_, ?_, fun x c e => ?_, fun p hp => ?_, hok, I.len⟩
  · exact keep b o (neL b o e) hb (neC b o e hx) (I.base.keep b o e n hb hx) (I.base.free b o e n hx)
  · obtain ⟨sl, e1⟩ := I.base.slot b o e n hb hx
    obtain ⟨sl', e2⟩ := slot b _ (neL b o e) hb (neC b o e hx) e1 (I.base.free b o e n hx)
    exact ⟨sl', e2⟩
  · obtain ⟨o', e1⟩ := I.base.there b o e hx
    exact free b o' (neC b o e hx) e1 (I.base.free b o e n hx)
  · obtain ⟨o', e1⟩ := I.base.there b o e hx
    exact there b o' (neC b o e hx) e1
  · obtain ⟨m1, e1⟩ := I.base.tbls b ps e
    obtain ⟨m2, e2⟩ := tbls b _ e1
    exact ⟨m1 ++ m2, by rw [e2, Array.append_assoc]⟩
  · obtain ⟨m, hn, hl⟩ := I.loc
    refine ⟨m, ns m hn, fun i x v e1 e2 e3 => ?_⟩
    obtain ⟨u, r, l⟩ := hl i x v e1 e2 e3
    refine ⟨u, r, ?_⟩
    rcases l with l | ⟨k, c, e, z⟩
    · exact .inl l
    · exact .inr ⟨k, c, e, cellK x c e _ z⟩
  · obtain ⟨v, z⟩ := I.cell x c e
    exact ⟨v, cellK x c e v z⟩
  · obtain ⟨m, ⟨o, _, _, ho, _⟩, _⟩ := I.loc
    exact free _ o (fun z => (hch _ z).2.1 rfl) ho I.free
  · obtain ⟨v, o, ho, hd⟩ := I.cell x c e
    exact free c o (fun z => (hch c z).2.2.1 x c e rfl) ho (I.freeC x c e)
  · obtain ⟨e, n, ne, nf, d⟩ := I.pin p hp
    have nch : p.1 ∉ ch := fun z => (hch p.1 z).2.2.2 p hp rfl
    exact ⟨keep p.1 p.2 ne nf nch e n, free p.1 p.2 nch e n, ne, nf, d⟩
theorem Inv.un {t' : Nat} (I : Inv X pins σ H s) (u : Un X.fs [] H H' s.heap h') (hok : HOk X.prog X.w H' h') : Inv X pins σ H' { s with heap := h', toks := t' } := by
  obtain ⟨m, ⟨o, es, ep, ho, r⟩, _⟩ := id I.loc
  obtain ⟨sl, hL⟩ := u.any ho I.free (by simp)
  exact I.step (g' := s.gens) (d' := s.drawn) (ch := []) (fun _ z => nomatch z) (fun b o _ hb _ e n => u.keep b o e n hb (by simp)) (fun b o _ hb _ e n => u.slot b o e n hb (by simp)) (fun b o _ e n => u.free b o e n (by simp)) (fun b o _ e => u.there b o e (by simp)) u.tups u.frzs u.tbls (fun m' hm => by
    obtain ⟨o', es', ep', ho', r'⟩ := hm
    rw [ho] at ho'; cases ho'
    exact ⟨_, es', ep', hL, r'⟩) hok I.bare
theorem Inv.call {g' : Array GenState} {t' : Nat} {d' : Drawn} {ch : List Addr} (I : Inv X pins σ H s) (u : Un (frs X.stack) ch H H' s.heap h') (hok : HOk X.prog X.w H' h') (hg : AllBare g')
    (hch : ∀ b ∈ ch, (b ∈ X.ex ∨ X.s₀.heap.objs.size ≤ b) ∧ b ≠ X.env.locals ∧ (∀ x c, X.env.cells.lookup x = some c → c ≠ b) ∧ ∀ p ∈ X.pn ++ pins, p.1 ≠ b) :
    Inv X pins σ H' { s with heap := h', gens := g', drawn := d', toks := t' } := by
  obtain ⟨m, ⟨o, es, ep, ho, r⟩, _⟩ := id I.loc
  obtain ⟨sl, hL⟩ := u.any ho I.free fun z => (hch _ z).2.1 rfl
  exact I.step (ch := ch) hch (fun b o hL hb hc e n => u.keep b o e n (fun z => (List.mem_cons.mp (I.stkSub b z)).elim hL hb) hc) (fun b o _ _ hc e n => u.any e n hc) (fun b o hc e n => u.free b o e n hc) (fun b o hc e => u.there b o e hc) u.tups u.frzs u.tbls (fun m' hm => by
    obtain ⟨o', es', ep', ho', r'⟩ := hm
    rw [ho] at ho'; cases ho'
    exact ⟨_, es', ep', hL, r'⟩) hok hg
theorem Inv.turned {t' : Nat} {it : Addr} (I : Inv X pins σ H s) (k : ∀ b o, b ≠ it → s.heap.get? b = some o → h'.get? b = some o) (hn : H it = none) (hL : it ≠ X.env.locals)
    (h1 : it ∈ X.ex ∨ X.s₀.heap.objs.size ≤ it) (h2 : ∀ x c, X.env.cells.lookup x = some c → c ≠ it) (h3 : ∀ p ∈ X.pn ++ pins, p.1 ≠ it) : Inv X pins σ H { s with heap := h', toks := t' } := by
  have nit : ∀ b u, H b = some u → b ≠ it := fun b u e z => by rw [z, hn] at e; cases e
  refine I.step (g' := s.gens) (d' := s.drawn) (ch := [it]) (fun b hb => ?_) (fun b o _ _ hc e _ => k b o (fun z => hc (by simp [z])) e) (fun b o _ _ hc e _ => ⟨o.slots, k b o (fun z => hc (by simp [z])) e⟩) (fun _ _ _ _ n => n)
    (fun b o hc e => ⟨o, k b o (fun z => hc (by simp [z])) e⟩) (fun _ _ e => e) (fun _ _ _ e => e) (fun b ps e => ⟨#[], by rw [e]; simp⟩) (fun m hm => ?_) (fun b u e => ?_) I.bare
  · have e : b = it := by simpa using hb
    subst e
    exact ⟨h1, hL, h2, h3⟩
  · obtain ⟨o, es, ep, ho, r⟩ := hm
    exact ⟨o, es, ep, k _ o (Ne.symm hL) ho, r⟩
  · refine (I.hok b u e).stay (fun c v hc q => k c v ?_ q) (fun _ q => q) fun _ _ q => q
    rcases hc with z | z
    · rw [z]; exact nit b u e
    · exact nit c _ z
theorem Inv.tok (I : Inv X pins σ H s) (t : Nat) : Inv X pins σ H { s with toks := t } := I.un (h' := s.heap) (t' := t) Un.refl I.hok
theorem Inv.kept {t' : Nat} (I : Inv X pins σ H s) (k : ∀ b u, s.heap.get? b = some u → h'.get? b = some u) : Inv X pins σ H { s with heap := h', toks := t' } := I.un (Un.kept k) (I.hok.kept k)
theorem Inv.laid {a : Addr} {o : HO} {t' : Nat} (I : Inv X pins σ H s) (k : ∀ b u, s.heap.get? b = some u → h'.get? b = some u) (hp : s.heap.objs.size ≤ a) (new : ObjOk X.prog X.w (upd H a o) h' a o) :
    Inv X pins σ (upd H a o) { s with heap := h', toks := t' } := I.un (Un.laid k hp (I.hok.fresh hp)) (I.hok.laid k hp new)
theorem Inv.write {x e : Addr} {o : HO} {t' : Nat} (I : Inv X pins σ H s) (mu : Mut (H x)) (he : e = x ∨ H e = some (.own x)) (k : ∀ b u, b ≠ e → s.heap.get? b = some u → h'.get? b = some u) (heo : ∃ u, h'.get? e = some u)
    (new : ObjOk X.prog X.w (upd H x o) h' x o) : Inv X pins σ (upd H x o) { s with heap := h', toks := t' } := I.un (Un.write mu he k heo) (I.hok.write mu he k heo new)
theorem Inv.weak {σ' : List (Option V)} (I : Inv X pins σ H s) (hl : σ'.length = σ.length) (w : ∀ (i : Nat) v, σ'[i]? = some (some v) → σ[i]? = some (some v)) : Inv X pins σ' H s :=
  ⟨I.ok, I.os, I.bare, I.base, let ⟨m, hn, hl'⟩ := I.loc; ⟨m, hn, fun i x v e1 e2 e3 => hl' i x v e1 (w i v e2) e3⟩, I.cell, I.free, I.freeC, I.pin, I.hok, hl.trans I.len⟩
theorem Inv.pins_of {pins' : List (Addr × Obj)} (I : Inv X pins σ H s) (h : ∀ p ∈ pins', s.heap.get? p.1 = some p.2 ∧ H p.1 = none ∧ p.1 ≠ X.env.locals ∧ p.1 ∉ X.fs ∧ ∀ v, p.2.data ≠ .cell v) : Inv X pins' σ H s :=
  ⟨I.ok, I.os, I.bare, I.base, I.loc, I.cell, I.free, I.freeC, fun p hp => (List.mem_append.mp hp).elim (fun z => I.pin p (List.mem_append_left _ z)) (h p), I.hok, I.len⟩

theorem nodup_ix {N : List Str} (hN : N.Nodup) {i j : Nat} {x : Str} (a : N[i]? = some x) (b : N[j]? = some x) : i = j := by
  obtain ⟨h1, e1⟩ := List.getElem?_eq_some_iff.mp a
  obtain ⟨h2, e2⟩ := List.getElem?_eq_some_iff.mp b
  exact (List.getElem_inj hN).mp (e1.trans e2.symm)

theorem store_ok2 {M : Model} {A : Around} {E : Value → Shared → Prop} {i : Nat} {x : Str} {v : V} {u : Value} {Q : Unit → Shared → Prop} (I : Inv X pins σ H s) (hN : X.N.Nodup) (hi : X.N[i]? = some x) (hx : Loc X.env.scope x) (r : RelV v u)
    (h : ∀ s', Inv X pins (σ.set i (some v)) H s' → (∃ a, Heap.SameBut a s.heap s'.heap ∧ (a = X.env.locals ∨ X.env.cells.lookup x = some a)) → Q () s') (hf : X.fn x = true ∨ X.env.scope.names.lookup x = some .local := by first | exact .inl rfl | exact .inr rfl | assumption) : wpAny M A (storeName X.env x u) Q E s := by
  obtain ⟨m, hn, hl⟩ := id I.loc
  have hcls : (X.env.scope.kind == .class || (X.env.scope.kind == .module && X.env.locals != X.env.globals)) = false := by rw [I.ok.kind]; rfl
  have hiσ : i < σ.length := by rw [I.len]; exact (List.getElem?_eq_some_iff.mp hi).1
  have cne := I.cne
  have tracked : ∀ {a : Addr} {h' : Heap}, (∃ o, s.heap.get? a = some o ∧ H a = none) → Heap.SameBut a s.heap h' → HOk X.prog X.w H h' := fun {a h'} ha hs b ob e => by
    obtain ⟨_, _, hfree⟩ := ha
    refine (I.hok b ob e).stay (fun c w' hc q => (hs.2 c ?_).trans q) (fun _ q => q) fun _ _ q => q
    rintro rfl
    rcases hc with rfl | hc
    · rw [hfree] at e; cases e
    · rw [hfree] at hc; cases hc
  rcases hx with hk | hk
  · refine wpAny_storeName_local hk hn (fun h' hn' hs => ?_) hcls
    obtain ⟨oL, _, _, hoL, _⟩ := id hn
    refine h _ ⟨I.ok, I.os, I.bare, ⟨fun b o e n hb hx => ?_, fun b o e n hb hx => ?_, I.base.free, fun b o e hx => ?_, I.base.tups, I.base.frzs, I.base.tbls⟩, ⟨_, hn', fun j y v' e1 e2 e3 => ?_⟩, fun y c e => ?_, I.free, I.freeC, fun p hp => ?_, tracked ⟨oL, hoL, I.free⟩ hs, by simpa using I.len⟩ ⟨_, hs, .inl rfl⟩
    · exact (hs.2 b (Nat.ne_of_lt (Nat.lt_of_lt_of_le (Heap.lt_size e) I.ok.above))).trans (I.base.keep b o e n hb hx)
    · obtain ⟨sl, e1⟩ := I.base.slot b o e n hb hx
      exact ⟨sl, (hs.2 b (Nat.ne_of_lt (Nat.lt_of_lt_of_le (Heap.lt_size e) I.ok.above))).trans e1⟩
    · obtain ⟨o', e1⟩ := I.base.there b o e hx
      exact ⟨o', (hs.2 b (Nat.ne_of_lt (Nat.lt_of_lt_of_le (Heap.lt_size e) I.ok.above))).trans e1⟩
    · by_cases hj : j = i
      · subst hj
        rw [hi] at e1; cases e1
        rw [List.getElem?_set_self hiσ] at e2
        cases e2
        exact ⟨u, r, .inl ⟨hk, by simp⟩⟩
      · rw [List.getElem?_set_ne (Ne.symm hj)] at e2
        obtain ⟨u', r', q⟩ := hl j y v' e1 e2 e3
        refine ⟨u', r', ?_⟩
        rcases q with ⟨k, e⟩ | ⟨k, c, e, z⟩
        · refine .inl ⟨k, ?_⟩
          have : y ≠ x := fun e => hj (nodup_ix hN e1 (e ▸ hi))
          simp [this, e]
        · exact .inr ⟨k, c, e, z.sameBut hs (cne y c e)⟩
    · obtain ⟨w', z⟩ := I.cell y c e
      exact ⟨w', z.sameBut hs (cne y c e)⟩
    · obtain ⟨e, n, ne, nf, d⟩ := I.pin p hp
      exact ⟨(hs.2 p.1 ne).trans e, n, ne, nf, d⟩
  · have hfn : X.fn x = true := by
      rcases hf with z | z
      · exact z
      · rw [z] at hk; cases hk
    obtain ⟨c, hc⟩ := I.ok.has x (.inl hk)
    obtain ⟨w', z⟩ := I.cell x c hc
    refine wpAny_storeName_cell I.ok.kind hk hc z (fun h' hc' hs => ?_)
    obtain ⟨oc, hoc, hocd⟩ := id z
    refine h { s with heap := h' } ⟨I.ok, I.os, I.bare, ⟨fun b o e n hb hx => ?_, fun b o e n hb hx => ?_, I.base.free, fun b o e hx => ?_, I.base.tups, I.base.frzs, I.base.tbls⟩, ⟨m, hn.sameBut hs (Ne.symm (cne x c hc)), fun j y v' e1 e2 e3 => ?_⟩, fun y c' e => ?_, I.free, I.freeC, fun p hp => ?_, tracked ⟨oc, hoc, I.freeC x c hc⟩ hs, by simpa using I.len⟩ ⟨c, hs, .inr hc⟩
    · exact (hs.2 b (Nat.ne_of_lt (Nat.lt_of_lt_of_le (Heap.lt_size e) (I.ok.cab x c hfn hc)))).trans (I.base.keep b o e n hb hx)
    · obtain ⟨sl, e1⟩ := I.base.slot b o e n hb hx
      exact ⟨sl, (hs.2 b (Nat.ne_of_lt (Nat.lt_of_lt_of_le (Heap.lt_size e) (I.ok.cab x c hfn hc)))).trans e1⟩
    · obtain ⟨o', e1⟩ := I.base.there b o e hx
      exact ⟨o', (hs.2 b (Nat.ne_of_lt (Nat.lt_of_lt_of_le (Heap.lt_size e) (I.ok.cab x c hfn hc)))).trans e1⟩
    · by_cases hj : j = i
      · subst hj
        rw [hi] at e1; cases e1
        rw [List.getElem?_set_self hiσ] at e2
        cases e2
        exact ⟨u, r, .inr ⟨.inl hk, c, hc, hc'⟩⟩
      · rw [List.getElem?_set_ne (Ne.symm hj)] at e2
        obtain ⟨u', r', q⟩ := hl j y v' e1 e2 e3
        refine ⟨u', r', ?_⟩
        rcases q with q | ⟨k, c', e, z'⟩
        · exact .inl q
        · refine .inr ⟨k, c', e, z'.sameBut hs ?_⟩
          rintro rfl
          exact hj (nodup_ix hN e1 (I.ok.inj _ _ _ e hc ▸ hi))
    · by_cases hcc : c' = c
      · subst hcc; exact ⟨_, hc'⟩
      · obtain ⟨w2, z2⟩ := I.cell y c' e
        exact ⟨w2, z2.sameBut hs hcc⟩
    · obtain ⟨e, n, ne, nf, d⟩ := I.pin p hp
      refine ⟨(hs.2 p.1 ?_).trans e, n, ne, nf, d⟩
      intro q
      rw [q, hoc] at e
      have q' : oc = p.2 := Option.some.inj e
      exact d w' (by rw [← q']; exact hocd)
theorem store_ok {M : Model} {A : Around} {E : Value → Shared → Prop} {i : Nat} {x : Str} {v : V} {u : Value} {Q : Unit → Shared → Prop} (I : Inv X pins σ H s) (hN : X.N.Nodup) (hi : X.N[i]? = some x) (hx : Loc X.env.scope x) (r : RelV v u)
    (h : ∀ s', Inv X pins (σ.set i (some v)) H s' → Q () s') (hf : X.fn x = true ∨ X.env.scope.names.lookup x = some .local := by first | exact .inl rfl | exact .inr rfl | assumption) : wpAny M A (storeName X.env x u) Q E s :=
  store_ok2 I hN hi hx r (fun s' I' _ => h s' I') hf
theorem Inv.call' {s' : Shared} {ch : List Addr} (I : Inv X pins σ H s) (ho : s'.os = s.os) (u : Un (frs X.stack) ch H H' s.heap s'.heap) (hok : HOk X.prog X.w H' s'.heap) (hg : AllBare s'.gens)
    (hch : ∀ b ∈ ch, (b ∈ X.ex ∨ X.s₀.heap.objs.size ≤ b) ∧ b ≠ X.env.locals ∧ (∀ x c, X.env.cells.lookup x = some c → c ≠ b) ∧ ∀ p ∈ X.pn ++ pins, p.1 ≠ b) : Inv X pins σ H' s' := by
  obtain ⟨h', g', d', t', o'⟩ := s'
  have e : o' = s.os := ho
  subst e
  exact I.call (g' := g') (t' := t') (d' := d') u hok hg hch
end

abbrev XK := Value → Option Addr → Hp → Prop
abbrev St := List (Option V)
abbrev VK := V → Hp → Prop
abbrev TE := St → Hp → VK → Prop
abbrev TT := St → Hp → (Bool → Hp → Prop) → Prop
abbrev TA := St → Hp → (List V → Hp → Prop) → Prop
structure Ends where
  nx : St → Hp → Prop
  rt : VK
  bk : St → Hp → Prop := fun _ _ => False
  ct : St → Hp → Prop := fun _ _ => False
abbrev TS := Ends → St → Hp → Prop

def EP (X : Cx) (pins : List (Addr × Obj)) (σ : St) (Q : VK) (u : Value) (s' : Shared) : Prop := ∃ v H', Inv X pins σ H' s' ∧ RelV v u ∧ Q v H'
def TP (X : Cx) (pins : List (Addr × Obj)) (σ : St) (Q : Bool → Hp → Prop) (b : Bool) (s' : Shared) : Prop := ∃ H', Inv X pins σ H' s' ∧ Q b H'
def AP (X : Cx) (pins : List (Addr × Obj)) (σ : St) (Q : List V → Hp → Prop) (us : List Value) (s' : Shared) : Prop := ∃ vs H', Inv X pins σ H' s' ∧ Vals vs us ∧ Q vs H'
def SP (X : Cx) (pins : List (Addr × Obj)) (D : Ends) (f : Flow) (s' : Shared) : Prop :=
  match f with
  | .next => ∃ σ' H', Inv X pins σ' H' s' ∧ D.nx σ' H'
  | .brk => ∃ σ' H', Inv X pins σ' H' s' ∧ D.bk σ' H'
  | .cont => ∃ σ' H', Inv X pins σ' H' s' ∧ D.ct σ' H'
  | .ret u => ∃ v σ' H', Inv X pins σ' H' s' ∧ RelV v u ∧ D.rt v H'

def PE (X : Cx) (e : Expr) (t : TE) : Prop :=
  ∀ (pins : List (Addr × Obj)) (s : Shared) (σ : St) (H : Hp) (Q : VK), Inv X pins σ H s → t σ H Q → wpAny (model X.prog X.w) X.A (eval e X.env) (EP X pins σ Q) X.xe s
def PT (X : Cx) (e : Expr) (t : TT) : Prop :=
  ∀ (pins : List (Addr × Obj)) (s : Shared) (σ : St) (H : Hp) (Q : Bool → Hp → Prop), Inv X pins σ H s → t σ H Q → wpAny (model X.prog X.w) X.A (isTrue e X.env (eval e X.env)) (TP X pins σ Q) X.xe s
def PW (X : Cx) (e : Expr) (t : TT) : Prop :=
  ∀ (whole : Sem Value) (pins : List (Addr × Obj)) (s : Shared) (σ : St) (H : Hp) (Q : Bool → Hp → Prop), Inv X pins σ H s → t σ H Q → wpAny (model X.prog X.w) X.A (isTrue e X.env whole) (TP X pins σ Q) X.xe s
theorem PW.pt {X : Cx} {e : Expr} {t : TT} (h : PW X e t) : PT X e t := h _
def PA (X : Cx) (es : List Expr) (t : TA) : Prop :=
  ∀ (pos : Pos) (pins : List (Addr × Obj)) (s : Shared) (σ : St) (H : Hp) (Q : List V → Hp → Prop), Inv X pins σ H s → t σ H Q → wpAny (model X.prog X.w) X.A (spliced (backTo pos (starEach es X.env))) (AP X pins σ Q) X.xe s
def PS (X : Cx) (st : Stmt) (t : TS) : Prop :=
  ∀ (pins : List (Addr × Obj)) (s : Shared) (σ : St) (H : Hp) (D : Ends), Inv X pins σ H s → t D σ H → wpAny (model X.prog X.w) X.A (exec st X.env) (SP X pins D) X.xe s
def PSs (X : Cx) (st : List Stmt) (t : TS) : Prop :=
  ∀ (pins : List (Addr × Obj)) (s : Shared) (σ : St) (H : Hp) (D : Ends), Inv X pins σ H s → t D σ H → wpAny (model X.prog X.w) X.A (execs st X.env) (SP X pins D) X.xe s
theorem thn {α : Type} {t : Sem α} {Q Q' : α → Shared → Prop} {M : Model} {A : Around} {E : Value → Shared → Prop} {s : Shared} (h : wpAny M A t Q E s) (hQ : ∀ a s, Q a s → Q' a s) : wpAny M A t Q' E s := wpAny_mono h hQ fun _ _ x => x
end L2

namespace L2
open PySem PySem.Spec PyProof.Rows
section
variable {X : Cx}

theorem bin {a b : Expr} {ta tb : TE} (ha : PE X a ta) (hb : PE X b tb) {pins : List (Addr × Obj)} {s : Shared} {σ : St} {H : Hp} {R : V → V → Hp → Prop} (I : Inv X pins σ H s) (h : ta σ H fun x H1 => tb σ H1 fun y H2 => R x y H2)
    {α : Type} {Q : α → Shared → Prop} {f : Value → Value → Sem α}
    (hf : ∀ v u s2 x y H2, Inv X pins σ H2 s2 → RelV x v → RelV y u → R x y H2 → wpAny (model X.prog X.w) X.A (f v u) Q X.xe s2) :
    wpAny (model X.prog X.w) X.A (eval a X.env) (fun v s₁ => wpAny (model X.prog X.w) X.A (eval b X.env) (fun u s₂ => wpAny (model X.prog X.w) X.A (f v u) Q X.xe s₂) X.xe s₁) X.xe s := by
  refine thn (ha pins s σ H _ I h) fun v s1 ⟨x, H1, I1, r1, q1⟩ => ?_
  refine thn (hb pins s1 σ H1 _ I1 q1) fun u s2 ⟨y, H2, I2, r2, q2⟩ => ?_
  exact hf v u s2 x y H2 I2 r1 r2 q2

def tVar (i : Nat) : TE := fun σ H Q => ∃ v, σ[i]? = some (some v) ∧ Q v H
def tC (v : V) : TE := fun _ H Q => Q v H
theorem pe_var {i : Nat} {x : Str} {pos : Pos} (hN : X.N[i]? = some x) (hv : Vis X.env.scope x) (hd : (x == ("__debug__" : Str)) = false := by decide) (hcd : (x == ("__classdict__" : Str)) = false := by decide) : PE X (.Name x pos) (tVar i) := by
  intro pins s σ H Q I h
  obtain ⟨v, e, h⟩ := h
  obtain ⟨m, hn, hl⟩ := I.loc
  obtain ⟨u, r, l⟩ := hl i x v hN e hv
  have fin : EP X pins σ Q u s := ⟨v, H, I, r, h⟩
  rcases l with ⟨hk, hm⟩ | ⟨hk, c, hc, hcell⟩
  · exact wpAny_Name (wpAny_loadName_local I.ok.kind hk hn hm fin) hd
  · rcases hk with hk | hk
    · exact wpAny_Name (wpAny_loadName_cell I.ok.kind hk hc hcell fin) hd
    · exact wpAny_Name (wpAny_loadName_free I.ok.kind hk hc hcell fin hcd) hd
theorem pe_int {i j pos} : PE X (.Constant (.int i) j pos) (tC (.int i)) := fun _ _ _ H _ I h => wpAny_Constant_int ⟨.int i, H, I.tok _, ⟨_, rfl⟩, h⟩
theorem pe_bl {b j pos} : PE X (.Constant (.bool b) j pos) (tC (.bl b)) := fun _ _ _ H _ I h => Constant_bool ⟨.bl b, H, I, rfl, h⟩
theorem pe_str {x j pos} : PE X (.Constant (.str x) j pos) (tC (.str x)) := fun _ _ _ H _ I h => Calls.Constant_str ⟨.str x, H, I.tok _, ⟨_, rfl⟩, h⟩

def Gl (X : Cx) (x : Str) : Prop := X.env.kindOf x = some .globalImplicit
theorem ld_glob {E : Value → Shared → Prop} {pins : List (Addr × Obj)} {s : Shared} {σ : St} {H : Hp} {x : Str} {u : Value} {pos : Pos} {Q : Value → Shared → Prop} (I : Inv X pins σ H s) (hg : Gl X x) (hm : X.mg x = some u) (h : Q u s)
    (hd : (x == ("__debug__" : Str)) = false := by decide) : wpAny (model X.prog X.w) X.A (eval (.Name x pos) X.env) Q E s :=
  Calls.Name_function_global I.ok.kind hg (Calls.loadGlobal_global (by rw [I.ok.glob]; exact I.mod.glob.keeps I.bk) hm h) hd
theorem ld_blt {E : Value → Shared → Prop} {pins : List (Addr × Obj)} {s : Shared} {σ : St} {H : Hp} {x : Str} {u : Value} {pos : Pos} {Q : Value → Shared → Prop} (I : Inv X pins σ H s) (hg : Gl X x) (hm : X.mg x = none) (hv : bootBuiltins x = some u) (h : Q u s)
    (hn : x ≠ "__name__" := by decide) (hd : (x == ("__debug__" : Str)) = false := by decide) : wpAny (model X.prog X.w) X.A (eval (.Name x pos) X.env) Q E s := by
  obtain ⟨mb, h1, h2⟩ := I.mod.blt
  exact Calls.Name_function_global I.ok.kind hg (Calls.loadGlobal_builtin (by rw [I.ok.glob]; exact I.mod.glob.keeps I.bk) hm (by rw [I.ok.blt]; exact h1.keeps I.bk) ((h2 x hn).trans hv) h) hd
theorem pe_glob {x : Str} {v : V} {u : Value} {pos : Pos} (hg : Gl X x) (hm : X.mg x = some u) (r : RelV v u) (hd : (x == ("__debug__" : Str)) = false := by decide) : PE X (.Name x pos) (tC v) :=
  fun _ _ _ H _ I h => ld_glob I hg hm ⟨v, H, I, r, h⟩ hd
theorem pe_bltn {x : Str} {v : V} {u : Value} {pos : Pos} (hg : Gl X x) (hm : X.mg x = none) (hv : bootBuiltins x = some u) (r : RelV v u) (hn : x ≠ "__name__" := by decide) (hd : (x == ("__debug__" : Str)) = false := by decide) : PE X (.Name x pos) (tC v) :=
  fun _ _ _ H _ I h => ld_blt I hg hm hv ⟨v, H, I, r, h⟩ hn hd

def t2I (ta tb : TE) (k : Int → Int → Hp → Prop) : St → Hp → Prop := fun σ H => ta σ H fun x H1 => tb σ H1 fun y H2 => ∃ i j, x = .int i ∧ y = .int j ∧ k i j H2
def tAdd (ta tb : TE) : TE := fun σ H Q => t2I ta tb (fun i j H2 => Q (.int (i + j)) H2) σ H
def tSub (ta tb : TE) : TE := fun σ H Q => t2I ta tb (fun i j H2 => Q (.int (i - j)) H2) σ H
def tMul (ta tb : TE) : TE := fun σ H Q => t2I ta tb (fun i j H2 => (-(2 ^ 64) < i ∧ i < 2 ^ 64) ∧ Q (.int (i * j)) H2) σ H
variable {a b : Expr} {ta tb : TE} {pos : Pos}
def PC (X : Cx) (op : CmpOp) (a b : Expr) (t : TE) : Prop :=
  ∀ (pins : List (Addr × Obj)) (s : Shared) (σ : St) (H : Hp) (Q : VK), Inv X pins σ H s → t σ H Q →
    wpAny (model X.prog X.w) X.A (eval a X.env) (fun v s₁ => wpAny (model X.prog X.w) X.A (eval b X.env) (fun u s₂ => wpAny (model X.prog X.w) X.A (compareOp op v u) (EP X pins σ Q) X.xe s₂) X.xe s₁) X.xe s
theorem nobehind (b : Expr) {op : CmpOp} (h : op ≠ .In) (h2 : op ≠ .NotIn) : behindInMarks op b = false := by
  have e1 : (op == CmpOp.In) = false := by cases op <;> first | rfl | exact absurd rfl h
  have e2 : (op == CmpOp.NotIn) = false := by cases op <;> first | rfl | exact absurd rfl h2
  cases b <;> simp [behindInMarks, e1, e2]
def tCmp (p : Int → Int → Bool) (ta tb : TE) : TE := fun σ H Q => t2I ta tb (fun i j H2 => Q (.bl (p i j)) H2) σ H
abbrev tLt : TE → TE → TE := tCmp fun i j => decide (i < j)
abbrev tLe : TE → TE → TE := tCmp fun i j => decide (i ≤ j)
abbrev tGt : TE → TE → TE := tCmp fun i j => decide (j < i)
abbrev tGe : TE → TE → TE := tCmp fun i j => decide (j ≤ i)
abbrev tEqI : TE → TE → TE := tCmp fun i j => decide (i = j)
abbrev tNeI : TE → TE → TE := tCmp fun i j => !decide (i = j)
def tIsN (ta : TE) : TE := fun σ H Q => ta σ H fun x H1 => Q (.bl (decide (x = .non))) H1
def tNotN (ta : TE) : TE := fun σ H Q => ta σ H fun x H1 => Q (.bl (!decide (x = .non))) H1
def tB (t : TE) : TT := fun σ H Q => t σ H fun x H1 => ∃ c, x = .bl c ∧ Q c H1
theorem pe_cmp {op : CmpOp} {t : TE} (h : PC X op a b t) (h1 : behindInMarks op b = false := by first | exact nobehind _ (by decide) (by decide) | rfl) : PE X (.Compare a [op] [b] pos) t := fun pins s σ H Q I hw => wpAny_Compare1 (h pins s σ H Q I hw) h1
theorem pt_cmp {op : CmpOp} {t : TE} (h : PC X op a b t) (h1 : behindInMarks op b = false := by first | exact nobehind _ (by decide) (by decide) | rfl) : PT X (.Compare a [op] [b] pos) (tB t) := by
  intro pins s σ H Q I hw
  refine wpAny_isTrue_Compare1 (thn (h pins s σ H _ I hw) fun v s1 h1 => thn h1 fun u s2 h2 => thn h2 fun c s3 ⟨x, H1, I1, r1, q1⟩ => ?_) h1
  obtain ⟨d, rfl, q⟩ := q1
  cases r1
  exact wpAny_truthy_bool ⟨H1, I1, q⟩
theorem pt_val {e : Expr} {t : TE} (h : PE X e t) (he : ∀ whole, isTrue e X.env whole = (do let v ← whole; standAt e.pos; holding [v] (truthy v)) := by intro _; rfl) : PT X e (tB t) := by
  intro pins s σ H Q I hw
  refine isTrue_plain (thn (h pins s σ H _ I hw) fun v s1 ⟨x, H1, I1, r1, q1⟩ => ?_) (he _)
  obtain ⟨d, rfl, q⟩ := q1
  cases r1
  exact wpAny_truthy_bool ⟨H1, I1, q⟩

variable {tA tB' : TT} {rest : List Expr}
def tAnd (t u : TT) : TT := fun σ H Q => t σ H fun c H1 => if c = true then u σ H1 Q else Q false H1
def tOr (t u : TT) : TT := fun σ H Q => t σ H fun c H1 => if c = true then Q true H1 else u σ H1 Q
def tNot (t : TT) : TT := fun σ H Q => t σ H fun c H1 => Q (!c) H1
theorem pw_or1 (ha : PT X a tA) : PW X (.BoolOp .Or [a] pos) tA := by
  intro wh pins s σ H Q I h
  refine isTrue_or (thn (ha pins s σ H Q I h) fun c s1 e => ?_)
  cases c with
  | false => exact isTrue_or_nil e
  | true => exact e
theorem pw_or (ha : PT X a tA) (hb : PW X (.BoolOp .Or (b :: rest) pos) tB') : PW X (.BoolOp .Or (a :: b :: rest) pos) (tOr tA tB') := by
  intro wh pins s σ H Q I h
  refine isTrue_or (thn (ha pins s σ H _ I h) fun c s1 ⟨H1, I1, q1⟩ => ?_)
  cases c with
  | true => exact ⟨H1, I1, q1⟩
  | false => exact hb wh pins s1 σ H1 Q I1 q1
theorem pt_not (ha : PT X a tA) : PT X (.UnaryOp .Not a pos) (tNot tA) := by
  intro pins s σ H Q I h
  exact isTrue_not (ha pins s σ H (fun c H1 => Q (!c) H1) I h)
def tAndV (ta tb : TE) : TE := fun σ H Q => ta σ H fun x H1 => ∃ c, x = .bl c ∧ if c = true then tb σ H1 Q else Q (.bl false) H1
def tOrV (ta tb : TE) : TE := fun σ H Q => ta σ H fun x H1 => ∃ c, x = .bl c ∧ if c = true then Q (.bl true) H1 else tb σ H1 Q
def tNotV (ta : TE) : TE := fun σ H Q => ta σ H fun x H1 => ∃ c, x = .bl c ∧ Q (.bl (!c)) H1
theorem pe_one {op} {t : TE} (h : PE X a t) : PE X (.BoolOp op [a] pos) t := fun pins s σ H Q I hw => BoolOp_one (h pins s σ H Q I hw)
theorem pe_and (ha : PE X a ta) (hb : PE X (.BoolOp .And (b :: rest) pos) tb) : PE X (.BoolOp .And (a :: b :: rest) pos) (tAndV ta tb) := by
  intro pins s σ H Q I h
  refine BoolOp_and (thn (ha pins s σ H _ I h) fun v s1 ⟨x, H1, I1, r1, q1⟩ => ?_)
  obtain ⟨c, rfl, q1⟩ := q1
  cases r1
  refine wpAny_truthy_bool ?_
  cases c with
  | true => exact hb pins s1 σ H1 Q I1 q1
  | false => exact ⟨.bl false, H1, I1, rfl, q1⟩
theorem pe_not (ha : PE X a ta) : PE X (.UnaryOp .Not a pos) (tNotV ta) := by
  intro pins s σ H Q I h
  refine UnaryOp_ (thn (ha pins s σ H _ I h) fun v s1 ⟨x, H1, I1, r1, q1⟩ => ?_)
  obtain ⟨c, rfl, q1⟩ := q1
  cases r1
  exact not_of (wpAny_truthy_bool ⟨.bl (!c), H1, I1, rfl, q1⟩)
def tIf (t : TT) (ta tb : TE) : TE := fun σ H Q => t σ H fun c H1 => if c = true then ta σ H1 Q else tb σ H1 Q
end
end L2

namespace L2
open PySem PySem.Spec PyProof.Rows

def SqL (K : PySem.W.Frag) (H : Hp) (a : Addr) (xs : List V) : Prop :=
  Rd H a (.lst xs) ∨
    ∃ (o : Obj) (its : Array Value) (n : Nat), K.lookup a = some o ∧ o.cls = .type "list" ∧ o.dict = none ∧ o.data = .seq its n ∧ its.size ≤ sizeLine ∧ Vals xs its.toList
def SqT (K : PySem.W.Frag) (H : Hp) (a : Addr) (xs : List V) : Prop :=
  Rd H a (.tup xs) ∨
    ∃ (o : Obj) (its : Array Value) (n : Nat), K.lookup a = some o ∧ o.cls = .type "tuple" ∧ o.data = .seq its n ∧ its.size ≤ sizeLine ∧ Vals xs its.toList
def absV : Value → Option V
  | .none => some .non
  | .bool b => some (.bl b)
  | .int i _ => some (.int i)
  | .str x _ => some (.str x)
  | .bytes b _ => some (.byt b)
  | .float b _ => some (.flt b)
  | .ref a => some (.ref a)
  | .type n => some (.ty n)
  | _ => none
theorem RelV.abs {x : V} {u : Value} (r : RelV x u) : absV u = some x := by
  cases x with
  | non => cases r; rfl
  | bl _ => cases r; rfl
  | int _ => obtain ⟨t, rfl⟩ := r; rfl
  | str _ => obtain ⟨t, rfl⟩ := r; rfl
  | byt _ => obtain ⟨t, rfl⟩ := r; rfl
  | flt _ => obtain ⟨t, rfl⟩ := r; rfl
  | ref _ => cases r; rfl
  | ty _ => cases r; rfl
theorem RelV.inj {x y : V} {u : Value} (r : RelV x u) (q : RelV y u) : x = y := Option.some.inj (r.abs.symm.trans q.abs)
theorem Vals.inj : ∀ {xs ys : List V} {us : List Value}, Vals xs us → Vals ys us → xs = ys
  | _, _, _, .nil, .nil => rfl
  | _, _, _, .cons r t, .cons r' t' => by rw [r.inj r', Vals.inj t t']
section
variable {X : Cx} {pins : List (Addr × Obj)} {σ : St} {H : Hp} {s : Shared} {a : Addr} {xs ys : List V}
theorem SqL.of {K : PySem.W.Frag} (h : H a = some (.lst xs)) : SqL K H a xs := .inl (.inl h)
theorem SqT.of {K : PySem.W.Frag} (h : H a = some (.tup xs)) : SqT K H a xs := .inl (.inl h)
theorem Inv.list (I : Inv X pins σ H s) (h : SqL X.K H a xs) : ∃ its : List Value, Vals xs its ∧ PlainL s.heap a its.toArray ∧ xs.length ≤ sizeLine := by
  rcases h with h | ⟨o, its, n, hk, hc, hd, hs, hz, r⟩
  · obtain ⟨z, its, n, r, e⟩ := h.ok I.hok
    exact ⟨its, r, ⟨_, n, e, rfl, rfl, rfl⟩, z⟩
  · refine ⟨its.toList, r, ⟨o, n, I.kIn a o hk, hc, hd, by simpa using hs⟩, ?_⟩
    have e := r.length
    simp only [Array.length_toList] at e
    omega
theorem Inv.tuple (I : Inv X pins σ H s) (h : SqT X.K H a xs) : ∃ its : List Value, Vals xs its ∧ IsTup s.heap a its.toArray ∧ xs.length ≤ sizeLine := by
  rcases h with h | ⟨o, its, n, hk, hc, hs, hz, r⟩
  · obtain ⟨z, its, r, p⟩ := h.ok I.hok
    exact ⟨its, r, p, z⟩
  · refine ⟨its.toList, r, ⟨o, I.kIn a o hk, hc, n, by simpa using hs⟩, ?_⟩
    have e := r.length
    simp only [Array.length_toList] at e
    omega
theorem Inv.list_inj (I : Inv X pins σ H s) (h : SqL X.K H a xs) (h' : SqL X.K H a ys) : xs = ys := by
  obtain ⟨its, r, ⟨o, n, e, _, _, d⟩, _⟩ := I.list h
  obtain ⟨its', r', ⟨o', n', e', _, _, d'⟩, _⟩ := I.list h'
  rw [e] at e'; cases e'
  rw [d] at d'
  injection d' with d1 _
  have : its = its' := by simpa using congrArg Array.toList d1
  subst this
  exact r.inj r'
theorem Inv.tuple_inj (I : Inv X pins σ H s) (h : SqT X.K H a xs) (h' : SqT X.K H a ys) : xs = ys := by
  obtain ⟨its, r, ⟨o, e, _, n, d⟩, _⟩ := I.tuple h
  obtain ⟨its', r', ⟨o', e', _, n', d'⟩, _⟩ := I.tuple h'
  rw [e] at e'; cases e'
  rw [d] at d'
  injection d' with d1 _
  have : its = its' := by simpa using congrArg Array.toList d1
  subst this
  exact r.inj r'
end

abbrev Cx.wish (X : Cx) (E : Value → Shared → Prop) : Cx := { X with xe := E }
abbrev Cx.nox (X : Cx) : Cx := X.wish fun _ _ => False
theorem Cx.Ok.wish {X : Cx} (ok : X.Ok) (E : Value → Shared → Prop) : (X.wish E).Ok :=
  ⟨ok.mod, ok.kind, ok.glob, ok.blt, ok.above, ok.inj, ok.has, ok.cab, ok.hd, ok.frames, ok.stk, ok.exf, ok.bs, ok.bsz, ok.noex, ok.exfs, ok.funs, ok.frf⟩
theorem Cx.Ok.unwish {X : Cx} {E : Value → Shared → Prop} (ok : (X.wish E).Ok) : X.Ok :=
  ⟨ok.mod, ok.kind, ok.glob, ok.blt, ok.above, ok.inj, ok.has, ok.cab, ok.hd, ok.frames, ok.stk, ok.exf, ok.bs, ok.bsz, ok.noex, ok.exfs, ok.funs, ok.frf⟩
section
variable {X : Cx} {pins : List (Addr × Obj)} {σ : St} {H : Hp} {s : Shared} {E : Value → Shared → Prop}
theorem Inv.wish (I : Inv X pins σ H s) (E : Value → Shared → Prop) : Inv (X.wish E) pins σ H s := ⟨I.ok.wish E, I.os, I.bare, I.base, I.loc, I.cell, I.free, I.freeC, I.pin, I.hok, I.len⟩
theorem Inv.unwish (I : Inv (X.wish E) pins σ H s) : Inv X pins σ H s := ⟨I.ok.unwish, I.os, I.bare, I.base, I.loc, I.cell, I.free, I.freeC, I.pin, I.hok, I.len⟩
theorem SP.unwish {D : Ends} {f : Flow} {s' : Shared} (h : SP (X.wish E) pins D f s') : SP X pins D f s' := by
  cases f with
  | next => obtain ⟨σ', H', I, q⟩ := h; exact ⟨σ', H', I.unwish, q⟩
  | brk => obtain ⟨σ', H', I, q⟩ := h; exact ⟨σ', H', I.unwish, q⟩
  | cont => obtain ⟨σ', H', I, q⟩ := h; exact ⟨σ', H', I.unwish, q⟩
  | ret u => obtain ⟨v, σ', H', I, r, q⟩ := h; exact ⟨v, σ', H', I.unwish, r, q⟩
theorem PSs.nox {st : List Stmt} {t : TS} (h : PSs X.nox st t) : PSs X st t := fun pins s σ H D I hw =>
  wpAny_mono (h pins s σ H D (I.wish _) hw) (fun _ _ q => q.unwish) fun _ _ z => False.elim z
end

section
variable {X : Cx} {st : Stmt} {rest : List Stmt} {t u : TS} {e : Expr} {te : TE} {pos : Pos}
def tNext : TS := fun D σ H => D.nx σ H
def tSeq (t u : TS) : TS := fun D σ H => t { D with nx := u D } σ H
theorem pss_nil : PSs X [] tNext := fun _ _ σ H _ I h => wpAny_execs_nil ⟨σ, H, I, h⟩
theorem pss_cons (h1 : PS X st t) (h2 : PSs X rest u) : PSs X (st :: rest) (tSeq t u) := by
  intro pins s σ H D I h
  refine wpAny_execs_cons (thn (h1 pins s σ H { D with nx := u D } I h) fun f s1 q => ?_)
  cases f with
  | next =>
    obtain ⟨σ', H', I', q⟩ := q
    exact h2 pins s1 σ' H' D I' q
  | ret v => exact q
  | brk => exact q
  | cont => exact q
theorem pss_one (h1 : PS X st t) : PSs X [st] t := by
  intro pins s σ H D I h
  refine wpAny_execs_cons (thn (h1 pins s σ H D I h) fun f s1 q => ?_)
  cases f with
  | next => exact wpAny_execs_nil q
  | ret v => exact q
  | brk => exact q
  | cont => exact q
def tBreak : TS := fun D σ H => D.bk σ H
def tCont : TS := fun D σ H => D.ct σ H
theorem Inv.quiet {pins : List (Addr × Obj)} {σ : St} {H : Hp} {s : Shared} (I : Inv X pins σ H s) : interactive X.env = false := by simp [interactive, I.ok.kind]
def tDrop (te : TE) : TS := fun D σ H => te σ H fun _ H1 => D.nx σ H1
theorem ps_expr (he : PE X e te) (hs : swapsWith e none pos.line X.env = pure false := by rfl) : PS X (.Expr e pos) (tDrop te) := by
  intro pins s σ H D I h
  exact wpAny_Expr_any (thn (he pins s σ H _ I h) fun v s1 ⟨x, H1, I1, r1, q1⟩ => ⟨σ, H1, I1, q1⟩) I.quiet hs
def tRet (te : TE) : TS := fun D σ H => te σ H D.rt
theorem ps_ret (he : PE X e te) : PS X (.Return (some e) pos) (tRet te) := by
  intro pins s σ H D I h
  exact wpAny_Return_some (thn (he pins s σ H _ I h) fun v s1 ⟨x, H1, I1, r1, q1⟩ => ⟨x, σ, H1, I1, r1, q1⟩)
def tRetN : TS := fun D _ H => D.rt .non H
def tIfS (c : TT) (t u : TS) : TS := fun D σ H => c σ H fun b H1 => if b = true then t D σ H1 else u D σ H1
theorem ps_if {c : Expr} {a b : List Stmt} {tc : TT} (hc : PT X c tc) (ha : PSs X a t) (hb : PSs X b u) : PS X (.If c a b pos) (tIfS tc t u) := by
  intro pins s σ H D I h
  refine wpAny_If (thn (hc pins s σ H _ I h) fun d s1 ⟨H1, I1, q1⟩ => ?_)
  cases d with
  | true => exact ha pins s1 σ H1 D I1 q1
  | false => exact hb pins s1 σ H1 D I1 q1
def tNever : TS := fun _ _ _ => False
end

abbrev TG := V → St → Hp → (St → Hp → Prop) → Prop
abbrev TGs := List V → St → Hp → (St → Hp → Prop) → Prop
def PG (X : Cx) (target : Expr) (t : TG) : Prop :=
  ∀ (pins : List (Addr × Obj)) (s : Shared) (σ : St) (H : Hp) (v : V) (u : Value) (Q : St → Hp → Prop), Inv X pins σ H s → RelV v u → t v σ H Q →
    wpAny (model X.prog X.w) X.A (assign target X.env u) (fun _ s' => ∃ σ' H', Inv X pins σ' H' s' ∧ Q σ' H') X.xe s
def PGs (X : Cx) (ts : List Expr) (t : TGs) : Prop :=
  ∀ (pins : List (Addr × Obj)) (s : Shared) (σ : St) (H : Hp) (vs : List V) (us : List Value) (Q : St → Hp → Prop), Inv X pins σ H s → Vals vs us → t vs σ H Q →
    wpAny (model X.prog X.w) X.A (assignInOrder ((assignEach ts X.env).map (·.2)) us) (fun _ s' => ∃ σ' H', Inv X pins σ' H' s' ∧ Q σ' H') X.xe s
abbrev TSet := V → V → V → Hp → (Hp → Prop) → Prop
def PSet (X : Cx) (t : TSet) : Prop :=
  ∀ (pins : List (Addr × Obj)) (s : Shared) (σ : St) (H : Hp) (o i v : V) (ov iv u : Value) (Q : Hp → Prop), Inv X pins σ H s → RelV o ov → RelV i iv → RelV v u → t o i v H Q →
    wpAny (model X.prog X.w) X.A (setItem ov iv u) (fun _ s' => ∃ H', Inv X pins σ H' s' ∧ Q H') X.xe s
abbrev TIp := V → V → Hp → VK → Prop
def PIp (X : Cx) (op : Operator) (t : TIp) : Prop :=
  ∀ (pins : List (Addr × Obj)) (s : Shared) (σ : St) (H : Hp) (x y : V) (v u : Value) (Q : VK), Inv X pins σ H s → RelV x v → RelV y u → t x y H Q →
    wpAny (model X.prog X.w) X.A (inplaceOp op v u) (EP X pins σ Q) X.xe s
section
variable {X : Cx} {pos : Pos}
def gName (i : Nat) : TG := fun v σ H Q => Q (σ.set i (some v)) H
theorem pg_name {i : Nat} {x : Str} (hN : X.N.Nodup) (hi : X.N[i]? = some x) (hx : Loc X.env.scope x) (hf : X.fn x = true ∨ X.env.scope.names.lookup x = some .local := by first | exact .inl rfl | exact .inr rfl | assumption) : PG X (.Name x pos) (gName i) := by
  intro pins s σ H v u Q I r h
  exact wpAny_assign_Name (store_ok I hN hi hx r (fun s' I' => ⟨_, H, I', h⟩) hf)
def gNil : TGs := fun vs σ H Q => vs = [] ∧ Q σ H
def gCons (t : TG) (u : TGs) : TGs := fun vs σ H Q => ∃ v r, vs = v :: r ∧ t v σ H fun σ' H' => u r σ' H' Q
theorem pgs_nil : PGs X [] gNil := by
  intro pins s σ H vs us Q I r h
  obtain ⟨e, h⟩ := h
  subst e
  cases r
  exact assignInOrder_nil ⟨σ, H, I, h⟩
theorem pgs_cons {e : Expr} {es : List Expr} {t : TG} {u : TGs} (h1 : PG X e t) (h2 : PGs X es u)
    (hs : (assignEach (e :: es) X.env).map (·.2) = assign e X.env :: (assignEach es X.env).map (·.2) := by rfl) : PGs X (e :: es) (gCons t u) := by
  intro pins s σ H vs us Q I r h
  obtain ⟨v, vr, e1, h⟩ := h
  subst e1
  cases r with
  | cons r rr =>
    rw [hs]
    refine assignInOrder_cons (thn (h1 pins s σ H _ _ _ I r h) fun _ s1 ⟨σ1, H1, I1, q1⟩ => ?_)
    exact h2 pins s1 σ1 H1 _ _ Q I1 rr q1
def gTup (K : PySem.W.Frag) (n : Nat) (t : TGs) : TG := fun v σ H Q => ∃ a xs, v = .ref a ∧ SqT K H a xs ∧ xs.length = n ∧ t xs σ H Q
theorem pg_tup {es : List Expr} {k : Nat} {t : TGs} {n : Nat} (hc : X.calm = true) (h : PGs X es t)
    (hn : (assignEach es X.env).length = n := by rfl) (hst : (assignEach es X.env).findIdx? (·.1) = none := by rfl) : PG X (.Tuple es k pos) (gTup X.K n t) := by
  intro pins s σ H v u Q I r hw
  obtain ⟨a, xs, e1, hq, hl, hw⟩ := hw
  subst e1
  cases r
  obtain ⟨its, rv, ht, hz⟩ := I.tuple hq
  refine assign_Tuple_tuple (I.ok.hd hc) ht (by simp [hn, ← hl, rv.length]) hst fun h' hx => ?_
  have I1 : Inv X pins σ H { s with heap := h' } := I.kept (t' := s.toks) fun b o e => hx b o (Nat.ne_of_lt (Heap.lt_size e)) e
  exact h pins _ σ H xs _ Q I1 (by simpa using rv) hw
def gSub (to ti : TE) (t : TSet) : TG := fun v σ H Q => to σ H fun o H1 => ti σ H1 fun i H2 => t o i v H2 fun H3 => Q σ H3
theorem pg_sub {o i : Expr} {to ti : TE} {t : TSet} (ho : PE X o to) (hi : PE X i ti) (hs : PSet X t)
    (ha : ∀ v, assign (.Subscript o i pos) X.env v = (do
      let ov ← holding [v] (eval o X.env)
      let iv ← holding [v, ov] (eval i X.env)
      standAt pos
      holding [v, ov, iv] (setItem ov iv v)
      release [v, ov, iv] []) := by intro _; rfl) : PG X (.Subscript o i pos) (gSub to ti t) := by
  intro pins s σ H v u Q I r h
  rw [ha]
  refine wpAny_bind (wpAny_holding (thn (ho pins s σ H _ I h) fun ov s1 ⟨x, H1, I1, r1, q1⟩ => ?_))
  refine wpAny_bind (wpAny_holding (thn (hi pins s1 σ H1 _ I1 q1) fun iv s2 ⟨y, H2, I2, r2, q2⟩ => ?_))
  refine wpAny_bind (wpAny_standAt (wpAny_bind (wpAny_holding (thn (hs pins s2 σ H2 x y v ov iv u _ I2 r1 r2 r q2) fun _ s3 ⟨H3, I3, q3⟩ => ?_))))
  exact wpAny_release ⟨σ, H3, I3, q3⟩
def tAsg (te : TE) (g : TG) : TS := fun D σ H => te σ H fun x H1 => g x σ H1 D.nx
theorem ps_asg {tg e : Expr} {te : TE} {g : TG} (he : PE X e te) (hg : PG X tg g) (hs : swapsWithSole [tg] e pos.line X.env = pure false := by rfl) (hw : swappedStores [tg] e X.env = pure none := by rfl)
    (h1 : (assignEach [tg] X.env).map (·.2) = [assign tg X.env] := by rfl) : PS X (.Assign [tg] e pos) (tAsg te g) := by
  intro pins s σ H D I h
  refine wpAny_Assign_stores (thn (he pins s σ H _ I h) fun v s1 ⟨x, H1, I1, r1, q1⟩ => ?_) hs hw
  rw [h1]
  exact thn (hg pins s1 σ H1 x v _ I1 r1 q1) fun _ s2 q => q
theorem ps_set {i : Nat} {x : Str} {e : Expr} {te : TE} {pos' : Pos} (hN : X.N.Nodup) (hi : X.N[i]? = some x) (hx : Loc X.env.scope x) (he : PE X e te) (hs : swapsWith e (some (.Name x pos')) pos.line X.env = pure false := by rfl) (hf : X.fn x = true ∨ X.env.scope.names.lookup x = some .local := by first | exact .inl rfl | exact .inr rfl | assumption) :
    PS X (.Assign [.Name x pos'] e pos) (tAsg te (gName i)) := by
  intro pins s σ H D I h
  refine wpAny_Assign_Name (thn (he pins s σ H _ I h) fun v s1 ⟨y, H1, I1, r1, q1⟩ => ?_) hs
  exact store_ok I1 hN hi hx r1 (fun s2 I2 => ⟨_, H1, I2, q1⟩) hf
def tPar (i j : Nat) (ta : TA) : TS := fun D σ H => ta σ H fun vs H1 => ∃ v w, vs = [v, w] ∧ D.nx ((σ.set i (some v)).set j (some w)) H1
def tAug (i : Nat) (te : TE) (ti : TIp) : TS := fun D σ H => ∃ x, σ[i]? = some (some x) ∧ te σ H fun y H1 => ti x y H1 fun z H2 => D.nx (σ.set i (some z)) H2
def tAugS (to ti te : TE) (tget : V → V → Hp → VK → Prop) (tip : TIp) (tset : TSet) : TS := fun D σ H => to σ H fun o H1 => ti σ H1 fun i H2 => tget o i H2 fun x H3 => te σ H3 fun y H4 => tip x y H4 fun z H5 => tset o i z H5 fun H6 => D.nx σ H6
def PGet (X : Cx) (t : V → V → Hp → VK → Prop) : Prop :=
  ∀ (pins : List (Addr × Obj)) (s : Shared) (σ : St) (H : Hp) (o i : V) (ov iv : Value) (Q : VK), Inv X pins σ H s → RelV o ov → RelV i iv → t o i H Q →
    wpAny (model X.prog X.w) X.A (getItem ov iv) (EP X pins σ Q) X.xe s
def ipI (f : Int → Int → Int) : TIp := fun x y H Q => ∃ i j, x = .int i ∧ y = .int j ∧ Q (.int (f i j)) H
end

section
variable {X : Cx} {pos : Pos}
def tWhile (c : TT) (tb : TS) : TS := fun D σ H => ∃ W : Nat → St → Hp → Prop, (∃ m, W m σ H) ∧ ∀ m σ H, W m σ H →
  c σ H fun b H1 => if b = true then ∃ N : St → Hp → Prop, (∀ σ' H', N σ' H' → ∃ m', m' < m ∧ W m' σ' H') ∧ tb { D with nx := N, ct := N, bk := D.nx } σ H1 else D.nx σ H1
end

structure It where
  go : Nat → Hp → Prop
  yld : Nat → Hp → V → Hp → Prop
  stop : Nat → Hp → Prop
def FpOk (X : Cx) (pins : List (Addr × Obj)) (H : Hp) (b : Addr) : Prop :=
  H b = none ∧ b ≠ X.env.locals ∧ b ∉ X.fs ∧ (b ∈ X.ex ∨ X.s₀.heap.objs.size ≤ b) ∧ (∀ x c, X.env.cells.lookup x = some c → c ≠ b) ∧ ∀ p ∈ X.pn ++ pins, p.1 ≠ b
theorem Inv.fpOk {X : Cx} {pins : List (Addr × Obj)} {σ : St} {H H' : Hp} {s : Shared} {b : Addr} (I : Inv X pins σ H s) (hb : s.heap.objs.size ≤ b) (hn : H' b = none) : FpOk X pins H' b := by
  refine ⟨hn, Nat.ne_of_gt (Nat.lt_of_lt_of_le I.lt hb), I.nofs hb, .inr (Nat.le_trans I.sz hb), fun x c e z => ?_, fun p hp z => ?_⟩
  · obtain ⟨v, q⟩ := I.cell x c e
    exact absurd (Nat.lt_of_lt_of_le q.lt (by rw [z]; exact hb)) (Nat.lt_irrefl _)
  · exact absurd (Nat.lt_of_lt_of_le (Heap.lt_size (I.pin p hp).1) (by rw [z]; exact hb)) (Nat.lt_irrefl _)
structure Turn (P : Program) (w : World) (K : PySem.W.Frag) (tg : Expr) (J : It) (fp : List Addr) (it : Addr) (tn : Nat → Heap → Prop) : Prop where
  mem : it ∈ fp
  obj : ∀ i h, tn i h → ∀ b ∈ fp, ∃ o, h.get? b = some o ∧ ∀ v, o.data ≠ .cell v
  keep : ∀ i h h', tn i h → (∀ b ∈ fp, ∀ o, h.get? b = some o → h'.get? b = some o) → tn i h'
  item : ∀ (X : Cx), X.prog = P → X.w = w → X.K = K → X.calm = true → ∀ (i : Nat) (pins : List (Addr × Obj)) (s : Shared) (σ : St) (H : Hp) (E : Value → Shared → Prop), Inv X pins σ H s → (∀ b ∈ fp, FpOk X pins H b) → tn i s.heap → J.go i H →
    wpAny (model P w) X.A (pyNext (.ref it)) (fun r s1 => ∃ u, r = some u ∧
      wpAny (model P w) X.A (letOwnedTupleGo tg (.ref it) u) (fun _ s2 => ∃ x H', Inv X pins σ H' s2 ∧ RelV x u ∧ J.yld i H x H' ∧ tn (i + 1) s2.heap ∧ ∀ b ∈ fp, H' b = none) E s1) E s
  done : ∀ (X : Cx), X.prog = P → X.w = w → X.K = K → X.calm = true → ∀ (i : Nat) (pins : List (Addr × Obj)) (s : Shared) (σ : St) (H : Hp) (E : Value → Shared → Prop), Inv X pins σ H s → (∀ b ∈ fp, FpOk X pins H b) → tn i s.heap → J.stop i H →
    wpAny (model P w) X.A (pyNext (.ref it)) (fun r s1 => r = none ∧ Inv X pins σ H s1) E s
  self : ∀ (A : Around) (i : Nat) (s : Shared) (Q : Value → Shared → Prop) (E : Value → Shared → Prop), tn i s.heap → Q (.ref it) s → wpAny (model P w) A (pyIter (.ref it)) Q E s
abbrev TI := St → Hp → (It → Hp → Prop) → Prop
def PIE (X : Cx) (pins : List (Addr × Obj)) (σ : St) (tg : Expr) (R : It → Hp → Prop) (itv : Value) (s2 : Shared) : Prop :=
  ∃ (it : Addr) (fp : List Addr) (tn : Nat → Heap → Prop) (J : It) (H' : Hp), itv = .ref it ∧ Inv X pins σ H' s2 ∧ Turn X.prog X.w X.K tg J fp it tn ∧ tn 0 s2.heap ∧ (∀ b ∈ fp, FpOk X pins H' b) ∧ R J H'
def PI (X : Cx) (tg iter : Expr) (wi : TI) : Prop :=
  ∀ (pins : List (Addr × Obj)) (s : Shared) (σ : St) (H : Hp) (R : It → Hp → Prop), Inv X pins σ H s → wi σ H R →
    wpAny (model X.prog X.w) X.A (eval iter X.env) (fun v s1 => wpAny (model X.prog X.w) X.A (pyIter v) (PIE X pins σ tg R) X.xe s1) X.xe s

theorem go_of {M : Model} {A : Around} {E : Value → Shared → Prop} {s : Shared} {tg : Expr} {it : Addr} {u : Value} {o : Obj} {n : String} {vs : Array Value} {Q : Unit → Shared → Prop} (ho : s.heap.get? it = some o) (hc : o.cls = .type n) (hd : o.data = .fields vs)
    (hn : ["enumerate", "zip", "dict_itemiterator", "dict_reverseitemiterator", "odict_iterator", "itertools.zip_longest", "itertools.pairwise"].contains n = false) (hQ : Q () s) : wpAny M A (letOwnedTupleGo tg (.ref it) u) Q E s := by
  unfold letOwnedTupleGo
  cases tg <;> first
    | exact wpAny_pure hQ
    | (cases u <;> first
        | exact wpAny_pure hQ
        | (refine wpAny_bind (wpAny_load ho ?_)
           rw [hc, hd]
           show wpAny M A (if (["enumerate", "zip", "dict_itemiterator", "dict_reverseitemiterator", "odict_iterator", "itertools.zip_longest", "itertools.pairwise"].contains n && vs[0]? == some (rawInt _)) = true then _ else _) Q E s
           rw [if_neg (by intro h; rw [hn, Bool.false_and] at h; cases h)]
           exact wpAny_pure hQ))

def Itl (K : PySem.W.Frag) (a : Addr) : It :=
  ⟨fun i H => ∃ xs x, SqL K H a xs ∧ xs[i]? = some x, fun i H x H' => H' = H ∧ ∀ xs, SqL K H a xs → xs[i]? = some x, fun i H => ∃ xs, SqL K H a xs ∧ xs.length ≤ i⟩
def Itt (K : PySem.W.Frag) (a : Addr) : It :=
  ⟨fun i H => ∃ xs x, SqT K H a xs ∧ xs[i]? = some x, fun i H x H' => H' = H ∧ ∀ xs, SqT K H a xs → xs[i]? = some x, fun i H => ∃ xs, SqT K H a xs ∧ xs.length ≤ i⟩
def Itr (lo : Int) (n : Nat) : It := ⟨fun i _ => i < n, fun i H x H' => H' = H ∧ x = .int (lo + i), fun i _ => n ≤ i⟩
theorem turn_list {P : Program} {w : World} {K : PySem.W.Frag} {tg : Expr} (a it : Addr) : Turn P w K tg (Itl K a) [it] it (fun i h => h.IsListIter it a i) where
  mem := by simp
  obj := fun i h st b hb => by
    have e : b = it := by simpa using hb
    subst e
    obtain ⟨o, e, c, d⟩ := st
    exact ⟨o, e, fun v z => by rw [d] at z; cases z⟩
  keep := fun i h h' st k => st.at fun o e => k it (by simp) o e
  item := by
    intro X hP hw hK hc i pins s σ H E I hf st hg
    subst hP hw hK
    obtain ⟨xs, x, hq, hx⟩ := hg
    obtain ⟨its, rv, p, hz⟩ := I.list hq
    obtain ⟨u, hu, ru⟩ := rv.get hx
    obtain ⟨f0, f1, f2, f3, f4, f5⟩ := hf it (by simp)
    refine wpAny_pyNext_list_item st p.isList (x := u) (by simpa using hu) fun h' st' sb => ?_
    have I1 : Inv X pins σ H { s with heap := h' } := I.turned (t' := s.toks) (fun b o hb e => (sb.2 b hb).trans e) f0 f1 f3 f4 f5
    obtain ⟨o, e, c, d⟩ := id st'
    exact ⟨u, rfl, go_of (s := { s with heap := h' }) e c d (by decide) ⟨x, H, I1, ru, ⟨rfl, fun ys hy => by rw [I.list_inj hy hq]; exact hx⟩, st', fun b hb => (hf b hb).1⟩⟩
  done := by
    intro X hP hw hK hc i pins s σ H E I hf st hg
    subst hP hw hK
    obtain ⟨xs, hq, hx⟩ := hg
    obtain ⟨its, rv, p, hz⟩ := I.list hq
    obtain ⟨f0, f1, f2, f3, f4, f5⟩ := hf it (by simp)
    have hl := rv.length
    exact wpAny_pyNext_list_end (I.ok.hd hc) st p.isList (by simp; omega) fun h' eb => ⟨rfl, I.turned (t' := s.toks) (fun b o hb e => eb b o hb e) f0 f1 f3 f4 f5⟩
  self := fun _ _ _ _ _ st h => wpAny_pyIter_listiter st h
theorem turn_range {P : Program} {w : World} {K : PySem.W.Frag} {tg : Expr} (it : Addr) (lo : Int) (n : Nat) : Turn P w K tg (Itr lo n) [it] it (fun i h => IsRangeIter h it (lo + (i : Nat) * 1) ((n : Int) - (i : Nat)) 1) where
  mem := by simp
  obj := fun i h st b hb => by
    have e : b = it := by simpa using hb
    subst e
    exact ⟨_, st, fun v z => by
      have z' : Data.fields _ = Data.cell v := z
      cases z'⟩
  keep := fun i h h' st k => k it (by simp) _ st
  item := by
    intro X hP hw hK hc i pins s σ H E I hf st hg
    subst hP hw hK
    obtain ⟨f0, f1, f2, f3, f4, f5⟩ := hf it (by simp)
    have W := Walks.range (prog := X.prog) (w := X.w) (I.ok.hd hc) it lo 1 n
    refine W.item i s _ _ hg st fun v h' tk hv st' kk => ?_
    obtain ⟨t, rfl⟩ := hv
    have I1 : Inv X pins σ H { s with heap := h', toks := tk } := I.turned (fun b o hb e => kk b o (by simpa using hb) e) f0 f1 f3 f4 f5
    refine ⟨_, rfl, go_of (s := { s with heap := h', toks := tk }) (n := "range_iterator") st' rfl rfl (by decide) ⟨.int (lo + i), H, I1, ⟨t, ?_⟩, ⟨rfl, rfl⟩, st', fun b hb => (hf b hb).1⟩⟩
    rw [Int.mul_one]
  done := by
    intro X hP hw hK hc i pins s σ H E I hf st hg
    subst hP hw hK
    obtain ⟨f0, f1, f2, f3, f4, f5⟩ := hf it (by simp)
    exact wpAny_pyNext_range_end (I.ok.hd hc) st (by have : n ≤ i := hg; omega) fun h' eb => ⟨rfl, I.turned (t' := s.toks) (fun b o hb e => eb b o hb e) f0 f1 f3 f4 f5⟩
  self := fun _ _ _ _ _ st h => wpAny_pyIter_rangeiter st h
end L2

namespace L2
open PySem PySem.Spec PyProof.Rows
section
variable {X : Cx} {tg : Expr}
def iList (K : PySem.W.Frag) (tl : TE) : TI := fun σ H R => tl σ H fun x H1 => ∃ a, x = .ref a ∧ (∃ xs, SqL K H1 a xs) ∧ R (Itl K a) H1
def iTup (K : PySem.W.Frag) (tl : TE) : TI := fun σ H R => tl σ H fun x H1 => ∃ a, x = .ref a ∧ (∃ xs, SqT K H1 a xs) ∧ R (Itt K a) H1
theorem pi_list {l : Expr} {tl : TE} (hl : PE X l tl) : PI X tg l (iList X.K tl) := by
  intro pins s σ H R I h
  refine thn (hl pins s σ H _ I h) fun v s1 ⟨x, H1, I1, r1, q1⟩ => ?_
  obtain ⟨a, e, ⟨xs, hq⟩, q⟩ := q1
  subst e
  cases r1
  obtain ⟨its, rv, p, hz⟩ := I1.list hq
  refine wpAny_pyIter_list p.isList ?_
  refine ⟨s1.heap.objs.size, [s1.heap.objs.size], _, _, H1, rfl, I1.kept (t' := s1.toks) fun b o e => Heap.get?_push_of_some _ e, turn_list a _, ⟨_, Heap.get?_push_size _ rfl, rfl, rfl⟩, fun b hb => ?_, q⟩
  have e : b = s1.heap.objs.size := by simpa using hb
  subst e
  exact I1.fpOk (Nat.le_refl _) (I1.hok.fresh (Nat.le_refl _))
theorem range_it {pins : List (Addr × Obj)} {σ : St} {H : Hp} {s : Shared} {R : It → Hp → Prop} {E : Value → Shared → Prop} {lo hi : Int} {t u v : Tok} {tk : Nat} (I : Inv X pins σ H s) (h1 : -(2 ^ 62) ≤ lo) (h2 : lo < 2 ^ 62) (h3 : -(2 ^ 62) ≤ hi) (h4 : hi < 2 ^ 62)
    (q : R (Itr lo (hi - lo).toNat) H) : wpAny (model X.prog X.w) X.A (pyIter (.ref s.heap.objs.size)) (PIE X pins σ tg R) E { s with heap := s.heap.push { cls := .type "range", data := .fields #[.int lo t, .int hi u, .int 1 v] }, toks := tk } := by
  refine wpAny_pyIter_range (IsRange.new ..) (small_one h1 h2 h3 h4) ?_
  have I1 : Inv X pins σ H { s with heap := s.heap.push { cls := .type "range", data := .fields #[.int lo t, .int hi u, .int 1 v] }, toks := tk } := I.kept fun b o e => Heap.get?_push_of_some _ e
  refine ⟨(s.heap.push { cls := .type "range", data := .fields #[.int lo t, .int hi u, .int 1 v] }).objs.size, [(s.heap.push { cls := .type "range", data := .fields #[.int lo t, .int hi u, .int 1 v] }).objs.size], _, _, H, rfl,
    I1.kept (t' := tk) fun b o e => Heap.get?_push_of_some _ e, turn_range _ lo (hi - lo).toNat, ?_, fun b hb => ?_, q⟩
  · have e1 : lo + ((0 : Nat) : Int) * 1 = lo := by simp
    have e2 : (((hi - lo).toNat : Nat) : Int) - ((0 : Nat) : Int) = Builtin.Range.rangeSize lo hi 1 := by rw [rangeSize_one]; split <;> omega
    show IsRangeIter _ _ (lo + ((0 : Nat) : Int) * 1) ((((hi - lo).toNat : Nat) : Int) - ((0 : Nat) : Int)) 1
    rw [e1, e2]
    exact Heap.get?_push_size _ rfl
  · have e : b = (s.heap.push { cls := .type "range", data := .fields #[.int lo t, .int hi u, .int 1 v] }).objs.size := by simpa using hb
    subst e
    exact I1.fpOk (Nat.le_refl _) (I1.hok.fresh (Nat.le_refl _))
def iRng1 (ta : TA) : TI := fun σ H R => ta σ H fun vs H1 => ∃ j : Int, vs = [.int j] ∧ -(2 ^ 62) ≤ j ∧ j < 2 ^ 62 ∧ R (Itr 0 j.toNat) H1
def iRng2 (ta : TA) : TI := fun σ H R => ta σ H fun vs H1 => ∃ i j : Int, vs = [.int i, .int j] ∧ (-(2 ^ 62) ≤ i ∧ i < 2 ^ 62 ∧ -(2 ^ 62) ≤ j ∧ j < 2 ^ 62) ∧ R (Itr i (j - i).toNat) H1
theorem pi_range1 {a : Expr} {ta : TA} {p pos : Pos} (hg : Gl X "range") (hm : X.mg "range" = none) (ha : PA X [a] ta) (hs : starEach [a] X.env = [(false, eval a X.env)] := by rfl) : PI X tg (.Call (.Name "range" p) [a] [] pos) (iRng1 ta) := by
  intro pins s σ H R I h
  refine Call_ (ld_blt I hg hm boot_range (PyProof.Rows.callWith_type1 (thn (ha pos pins s σ H _ I h) fun us s1 ⟨vs, H1, I1, r1, q1⟩ => ?_) hs rfl))
  obtain ⟨j, e, q1, q2, q⟩ := q1
  subst e
  cases r1 with
  | cons r rr =>
    cases rr
    obtain ⟨t, rfl⟩ := r
    exact call_range_1 (range_it I1 (by omega) (by omega) q1 q2 (by simpa using q))
def tFor (wi : TI) (g : TG) (tb : TS) : TS := fun D σ H => wi σ H fun J H1 => ∃ W : Nat → Nat → St → Hp → Prop, (∃ m, W 0 m σ H1) ∧ ∀ i m σ H, W i m σ H →
  (J.stop i H ∧ D.nx σ H) ∨ (J.go i H ∧ ∃ N : St → Hp → Prop, (∀ σ' H', N σ' H' → ∃ m', m' < m ∧ W (i + 1) m' σ' H') ∧ ∀ x H', J.yld i H x H' → g x σ H' fun σ2 H2 => tb { D with nx := N, ct := N, bk := D.nx } σ2 H2)
def pinsAt (fp : List Addr) (h : Heap) : List (Addr × Obj) := fp.filterMap fun b => (h.get? b).map fun o => (b, o)
theorem mem_pinsAt {fp : List Addr} {h : Heap} {b : Addr} {o : Obj} (hb : b ∈ fp) (e : h.get? b = some o) : (b, o) ∈ pinsAt fp h := List.mem_filterMap.mpr ⟨b, hb, by rw [e]; rfl⟩
theorem of_pinsAt {fp : List Addr} {h : Heap} {p : Addr × Obj} (hp : p ∈ pinsAt fp h) : p.1 ∈ fp ∧ h.get? p.1 = some p.2 := by
  obtain ⟨b, hb, e⟩ := List.mem_filterMap.mp hp
  cases q : h.get? b with
  | none => rw [q] at e; cases e
  | some o =>
    rw [q] at e
    have e' : (b, o) = p := Option.some.inj e
    subst e'
    exact ⟨hb, q⟩
theorem Inv.pinned {pins : List (Addr × Obj)} {σ : St} {H : Hp} {s : Shared} {fp : List Addr} (I : Inv X pins σ H s) (hf : ∀ b ∈ fp, FpOk X pins H b) (ho : ∀ b ∈ fp, ∃ o, s.heap.get? b = some o ∧ ∀ v, o.data ≠ .cell v) : Inv X (pins ++ pinsAt fp s.heap) σ H s :=
  I.pins_of fun p hp => (List.mem_append.mp hp).elim (fun z => I.pin p (List.mem_append_right _ z)) fun z => by
    obtain ⟨hb, e⟩ := of_pinsAt z
    obtain ⟨f0, f1, f2, _⟩ := hf p.1 hb
    obtain ⟨o, e', d⟩ := ho p.1 hb
    rw [e] at e'; cases e'
    exact ⟨e, f0, f1, f2, d⟩
theorem Inv.unpinned {pins pl : List (Addr × Obj)} {σ : St} {H : Hp} {s : Shared} (I : Inv X (pins ++ pl) σ H s) : Inv X pins σ H s := I.pins_of fun p hp => I.pin p (List.mem_append_right _ (List.mem_append_left _ hp))
theorem ps_for {iter : Expr} {body : List Stmt} {wi : TI} {g : TG} {tb : TS} {pos : Pos} (hp : PassesOwn (model X.prog X.w) X.A X.env X.xe) (hc : X.calm = true) (hi : PI X tg iter wi) (hg : PG X tg g) (hb : PSs X body tb)
    (hs : ∀ x, foldedSetIterable iter X.env x = pure x := by intro _; rfl) : PS X (.For tg iter body [] pos) (tFor wi g tb) := by
  intro pins s σ H D I h
  refine wpAny_For (thn (hi pins s σ H _ I h) fun v s1 h1 => thn h1 fun itv s2 h2 => ?_) hs
  obtain ⟨it, fp, tn, J, H2, e, I2, T, st2, f2, W, ⟨m0, w0⟩, turn⟩ := h2
  subst e
  -- what stays true of the iterator's objects through the loop
  have stat : ∀ {H' : Hp}, (∀ b ∈ fp, H' b = none) → ∀ b ∈ fp, FpOk X pins H' b := fun hn b hb => ⟨hn b hb, (f2 b hb).2⟩
  refine codeAny_forLoop_any (fun n s' => ∃ i σ' H', Inv X pins σ' H' s' ∧ tn i s'.heap ∧ (∀ b ∈ fp, H' b = none) ∧ W i n σ' H') ?_ m0 ⟨0, σ, H2, I2, st2, fun b hb => (f2 b hb).1, w0⟩
  rintro n s3 ⟨i, σ3, H3, I3, st3, fr3, w3⟩
  rcases turn i n σ3 H3 w3 with ⟨stop, qn⟩ | ⟨go, N, hN, step⟩
  · refine wpAny_passesOwn hp (thn (T.done X rfl rfl rfl hc i pins s3 σ3 H3 X.xe I3 (stat fr3) st3 stop) fun r s4 ⟨hr, I4⟩ => ?_)
    subst hr
    exact wpAny_execs_nil ⟨σ3, H3, I4, qn⟩
  · refine wpAny_passesOwn hp (thn (T.item X rfl rfl rfl hc i pins s3 σ3 H3 X.xe I3 (stat fr3) st3 go) fun r s4 ⟨u, hr, h4⟩ => ?_)
    subst hr
    refine wpAny_passesOwn hp (thn h4 fun _ s5 ⟨x, H5, I5, r5, y5, st5, fr5⟩ => ?_)
    have I5' := I5.pinned (stat fr5) (T.obj _ _ st5)
    refine wpAny_passesOwn hp (thn (hg _ s5 σ3 H5 x u _ I5' r5 (step x H5 y5)) fun _ s6 ⟨σ6, H6, I6, q6⟩ => ?_)
    refine wpAny_passesOwn hp (thn (hb _ s6 σ6 H6 _ I6 q6) fun f s7 q7 => ?_)
    have again : ∀ {σ7 : St} {H7 : Hp}, Inv X (pins ++ pinsAt fp s5.heap) σ7 H7 s7 → N σ7 H7 → ∃ m, m < n ∧ ∃ i σ' H', Inv X pins σ' H' s7 ∧ tn i s7.heap ∧ (∀ b ∈ fp, H' b = none) ∧ W i m σ' H' := fun {σ7 H7} I7 n7 => by
      obtain ⟨m', hm, w7⟩ := hN σ7 H7 n7
      refine ⟨m', hm, i + 1, σ7, H7, I7.unpinned, T.keep _ _ _ st5 fun b hb o e => (I7.pin (b, o) (List.mem_append_right _ (List.mem_append_right _ (mem_pinsAt hb e)))).1, fun b hb => ?_, w7⟩
      obtain ⟨o, e, d⟩ := T.obj _ _ st5 b hb
      exact (I7.pin (b, o) (List.mem_append_right _ (List.mem_append_right _ (mem_pinsAt hb e)))).2.1
    cases f with
    | next => obtain ⟨σ7, H7, I7, n7⟩ := q7; exact again I7 n7
    | cont => obtain ⟨σ7, H7, I7, n7⟩ := q7; exact again I7 n7
    | brk => obtain ⟨σ7, H7, I7, q7⟩ := q7; exact ⟨σ7, H7, I7.unpinned, q7⟩
    | ret v => obtain ⟨x7, σ7, H7, I7, r7, q7⟩ := q7; exact ⟨x7, σ7, H7, I7.unpinned, r7, q7⟩
end

theorem for_list {K : PySem.W.Frag} {a : Addr} {xs : List V} {g : TG} {tb : TS} {D : Ends} {σ : St} {H : Hp} (Pv : Nat → St → Hp → Prop) (h0 : Pv 0 σ H) (hl : ∀ i σ H, i ≤ xs.length → Pv i σ H → SqL K H a xs)
    (hs : ∀ i x σ H, xs[i]? = some x → Pv i σ H → g x σ H fun σ2 H2 => tb { D with nx := Pv (i + 1), ct := Pv (i + 1), bk := D.nx } σ2 H2) (hd : ∀ σ H, Pv xs.length σ H → D.nx σ H) :
    ∃ W : Nat → Nat → St → Hp → Prop, (∃ m, W 0 m σ H) ∧ ∀ i m σ H, W i m σ H →
      ((Itl K a).stop i H ∧ D.nx σ H) ∨ ((Itl K a).go i H ∧ ∃ N : St → Hp → Prop, (∀ σ' H', N σ' H' → ∃ m', m' < m ∧ W (i + 1) m' σ' H') ∧ ∀ x H', (Itl K a).yld i H x H' → g x σ H' fun σ2 H2 => tb { D with nx := N, ct := N, bk := D.nx } σ2 H2) := by
  refine ⟨fun i m σ H => m = xs.length - i ∧ i ≤ xs.length ∧ Pv i σ H, ⟨xs.length, by simp, Nat.zero_le _, h0⟩, ?_⟩
  rintro i m σ H ⟨rfl, hi, p⟩
  have q := hl i σ H hi p
  by_cases hlt : i < xs.length
  · refine .inr ⟨⟨xs, xs[i], q, by simp [hlt]⟩, Pv (i + 1), fun σ' H' p' => ⟨xs.length - (i + 1), by omega, rfl, hlt, p'⟩, fun x H' y => ?_⟩
    obtain ⟨e, y⟩ := y
    subst e
    exact hs i x σ _ (y xs q) p
  · have e : i = xs.length := by omega
    subst e
    exact .inl ⟨⟨xs, q, Nat.le_refl _⟩, hd σ H p⟩
theorem for_range {lo : Int} {n : Nat} {g : TG} {tb : TS} {D : Ends} {σ : St} {H : Hp} (Pv : Nat → St → Hp → Prop) (h0 : Pv 0 σ H)
    (hs : ∀ i σ H, i < n → Pv i σ H → g (.int (lo + i)) σ H fun σ2 H2 => tb { D with nx := Pv (i + 1), ct := Pv (i + 1), bk := D.nx } σ2 H2) (hd : ∀ σ H, Pv n σ H → D.nx σ H) :
    ∃ W : Nat → Nat → St → Hp → Prop, (∃ m, W 0 m σ H) ∧ ∀ i m σ H, W i m σ H →
      ((Itr lo n).stop i H ∧ D.nx σ H) ∨ ((Itr lo n).go i H ∧ ∃ N : St → Hp → Prop, (∀ σ' H', N σ' H' → ∃ m', m' < m ∧ W (i + 1) m' σ' H') ∧ ∀ x H', (Itr lo n).yld i H x H' → g x σ H' fun σ2 H2 => tb { D with nx := N, ct := N, bk := D.nx } σ2 H2) := by
  refine ⟨fun i m σ H => m = n - i ∧ i ≤ n ∧ Pv i σ H, ⟨n, by simp, Nat.zero_le _, h0⟩, ?_⟩
  rintro i m σ H ⟨rfl, hi, p⟩
  by_cases hlt : i < n
  · refine .inr ⟨hlt, Pv (i + 1), fun σ' H' p' => ⟨n - (i + 1), by omega, rfl, hlt, p'⟩, fun x H' y => ?_⟩
    obtain ⟨e, y⟩ := y
    subst e y
    exact hs i σ _ hlt p
  · have e : i = n := by omega
    subst e
    exact .inl ⟨Nat.le_refl _, hd σ H p⟩
end L2

namespace L2
open PySem PySem.Spec PyProof.Rows

abbrev R2 := V → V → Hp → VK → Prop
def OpR (X : Cx) (f : Value → Value → Sem Value) (r : R2) : Prop :=
  ∀ (pins : List (Addr × Obj)) (s : Shared) (σ : St) (H : Hp) (x y : V) (v u : Value) (Q : VK), Inv X pins σ H s → RelV x v → RelV y u → r x y H Q →
    wpAny (model X.prog X.w) X.A (f v u) (EP X pins σ Q) X.xe s
def UnR (X : Cx) (f : Value → Sem Value) (r : V → Hp → VK → Prop) : Prop :=
  ∀ (pins : List (Addr × Obj)) (s : Shared) (σ : St) (H : Hp) (x : V) (v : Value) (Q : VK), Inv X pins σ H s → RelV x v → r x H Q →
    wpAny (model X.prog X.w) X.A (f v) (EP X pins σ Q) X.xe s
def CallR (X : Cx) (f : Value) (r : List V → Hp → VK → Prop) : Prop :=
  ∀ (pins : List (Addr × Obj)) (s : Shared) (σ : St) (H : Hp) (xs : List V) (us : List Value) (Q : VK), Inv X pins σ H s → Vals xs us → r xs H Q →
    wpAny (model X.prog X.w) X.A (call f us) (EP X pins σ Q) X.xe s
def TruR (X : Cx) (r : V → Hp → (Bool → Hp → Prop) → Prop) : Prop :=
  ∀ (pins : List (Addr × Obj)) (s : Shared) (σ : St) (H : Hp) (x : V) (v : Value) (Q : Bool → Hp → Prop), Inv X pins σ H s → RelV x v → r x H Q →
    wpAny (model X.prog X.w) X.A (truthy v) (TP X pins σ Q) X.xe s

def tOp (r : R2) (ta tb : TE) : TE := fun σ H Q => ta σ H fun x H1 => tb σ H1 fun y H2 => r x y H2 Q
def tUn (r : V → Hp → VK → Prop) (ta : TE) : TE := fun σ H Q => ta σ H fun x H1 => r x H1 Q
def rI (C : Int → Int → Prop) (g : Int → Int → V) : R2 := fun x y H Q => ∃ i j, x = .int i ∧ y = .int j ∧ C i j ∧ Q (g i j) H
def rI0 (g : Int → Int → V) : R2 := fun x y H Q => ∃ i j, x = .int i ∧ y = .int j ∧ Q (g i j) H
def rU (g : Int → V) : V → Hp → VK → Prop := fun x H Q => ∃ i, x = .int i ∧ Q (g i) H

section
variable {X : Cx} {a b c : Expr} {ta tb tc : TE} {pos : Pos}

theorem binT (ha : PE X a ta) (hb : PE X b tb) {pins : List (Addr × Obj)} {s : Shared} {σ : St} {H : Hp} {R : V → V → Hp → Prop} (I : Inv X pins σ H s)
    (h : ta σ H fun x H1 => tb σ H1 fun y H2 => R x y H2) {Q : Value → Shared → Prop} {f : Value → Value → Sem Value}
    (hf : ∀ v u s2 x y H2, Inv X pins σ H2 s2 → RelV x v → RelV y u → R x y H2 → wpAny (model X.prog X.w) X.A (f v u) Q X.xe s2) :
    wpAny (model X.prog X.w) X.A (eval a X.env) (fun v s₁ => wpAny (model X.prog X.w) X.A (eval b X.env) (fun u s₂ => wpAny (model X.prog X.w) X.A (f v u) Q X.xe s₂) X.xe s₁) X.xe s := by
  refine thn (ha pins s σ H _ I h) fun v s1 ⟨x, H1, I1, r1, q1⟩ => ?_
  refine thn (hb pins s1 σ H1 _ I1 q1) fun u s2 ⟨y, H2, I2, r2, q2⟩ => ?_
  exact hf v u s2 x y H2 I2 r1 r2 q2

theorem pe_op {op : Operator} {r : R2} (ho : OpR X (binaryOp op) r) (ha : PE X a ta) (hb : PE X b tb) : PE X (.BinOp a op b pos) (tOp r ta tb) := by
  intro pins s σ H Q I h
  exact wpAny_BinOp (binT ha hb I h fun v u s2 x y H2 I2 rx ry q => ho pins s2 σ H2 x y v u Q I2 rx ry q)
theorem pe_un {op : UnaryOp} {r : V → Hp → VK → Prop} (ho : UnR X (unaryOp op) r) (ha : PE X a ta) : PE X (.UnaryOp op a pos) (tUn r ta) := by
  intro pins s σ H Q I h
  exact UnaryOp_ (thn (ha pins s σ H _ I h) fun v s1 ⟨x, H1, I1, r1, q1⟩ => ho pins s1 σ H1 x v Q I1 r1 q1)
theorem opI {f : Value → Value → Sem Value} {C : Int → Int → Prop} {g : Int → Int → Int}
    (rule : ∀ (i j : Int) (t u : Tok) (s : Shared) (Q : Value → Shared → Prop) (E : Value → Shared → Prop), C i j → Q (.int (g i j) s.toks) { s with toks := s.toks + 1 } → wpAny (model X.prog X.w) X.A (f (.int i t) (.int j u)) Q E s) :
    OpR X f (rI C fun i j => .int (g i j)) := by
  intro pins s σ H x y v u Q I rx ry h
  obtain ⟨i, j, rfl, rfl, hc, q⟩ := h
  obtain ⟨t, rfl⟩ := rx
  obtain ⟨t', rfl⟩ := ry
  exact rule i j t t' s _ _ hc ⟨.int (g i j), H, I.tok _, ⟨_, rfl⟩, q⟩
theorem opI0 {f : Value → Value → Sem Value} {g : Int → Int → Int}
    (rule : ∀ (i j : Int) (t u : Tok) (s : Shared) (Q : Value → Shared → Prop) (E : Value → Shared → Prop), Q (.int (g i j) s.toks) { s with toks := s.toks + 1 } → wpAny (model X.prog X.w) X.A (f (.int i t) (.int j u)) Q E s) :
    OpR X f (rI0 fun i j => .int (g i j)) := by
  intro pins s σ H x y v u Q I rx ry h
  obtain ⟨i, j, rfl, rfl, q⟩ := h
  obtain ⟨t, rfl⟩ := rx
  obtain ⟨t', rfl⟩ := ry
  exact rule i j t t' s _ _ ⟨.int (g i j), H, I.tok _, ⟨_, rfl⟩, q⟩
theorem opB0 {f : Value → Value → Sem Value} {g : Int → Int → Bool}
    (rule : ∀ (i j : Int) (t u : Tok) (s : Shared) (Q : Value → Shared → Prop) (E : Value → Shared → Prop), Q (.bool (g i j)) s → wpAny (model X.prog X.w) X.A (f (.int i t) (.int j u)) Q E s) :
    OpR X f (rI0 fun i j => .bl (g i j)) := by
  intro pins s σ H x y v u Q I rx ry h
  obtain ⟨i, j, rfl, rfl, q⟩ := h
  obtain ⟨t, rfl⟩ := rx
  obtain ⟨t', rfl⟩ := ry
  exact rule i j t t' s _ _ ⟨.bl (g i j), H, I, rfl, q⟩

def CDiv (i j : Int) : Prop := 0 < j ∧ j < 1073741824
def CDivN (i j : Int) : Prop := j ≠ 0 ∧ j.natAbs < 1073741824
def CPow (i j : Int) : Prop := 0 ≤ j ∧ j ≤ 1000000 ∧ i.natAbs < 2 ^ 64
def CMul (i j : Int) : Prop := (-(2 ^ 64) < i ∧ i < 2 ^ 64) ∨ (-(2 ^ 64) < j ∧ j < 2 ^ 64)
theorem op_add : OpR X (binaryOp .Add) (rI0 fun i j => .int (i + j)) := opI0 fun _ _ _ _ _ _ _ q => add_int q
theorem op_sub : OpR X (binaryOp .Sub) (rI0 fun i j => .int (i - j)) := opI0 fun _ _ _ _ _ _ _ q => sub_int q
theorem op_mod : OpR X (binaryOp .Mod) (rI (fun _ j => 0 < j) fun i j => .int (i % j)) := opI fun i j _ _ _ _ _ hc q => by
  have h1 : (0 : Int) < j := hc
  exact mod_int' (by omega) (by rw [Int.fmod_eq_emod_of_nonneg i (by omega)]; exact q)
theorem op_pow : OpR X (binaryOp .Pow) (rI CPow fun i j => .int (i ^ j.toNat)) := opI fun _ _ _ _ _ _ _ hc q => pow_int_small hc.1 hc.2.1 hc.2.2 q
theorem unI {f : Value → Sem Value} {g : Int → Int}
    (rule : ∀ (i : Int) (t : Tok) (s : Shared) (Q : Value → Shared → Prop) (E : Value → Shared → Prop), Q (.int (g i) s.toks) { s with toks := s.toks + 1 } → wpAny (model X.prog X.w) X.A (f (.int i t)) Q E s) :
    UnR X f (rU fun i => .int (g i)) := by
  intro pins s σ H x v Q I rx h
  obtain ⟨i, rfl, q⟩ := h
  obtain ⟨t, rfl⟩ := rx
  exact rule i t s _ _ ⟨.int (g i), H, I.tok _, ⟨_, rfl⟩, q⟩
theorem un_neg : UnR X (unaryOp .USub) (rU fun i => .int (-i)) := unI fun _ _ _ _ _ q => neg_int q
end

def scal : V → V → Bool
  | .non, .non => true | .non, .int _ => true | .int _, .non => true | .non, .bl _ => true | .bl _, .non => true | .non, .str _ => true | .str _, .non => true
  | .int _, .int _ => true | .bl _, .bl _ => true | .str _, .str _ => true | .byt _, .byt _ => true
  | .int _, .str _ => true | .str _, .int _ => true | .bl _, .str _ => true | .str _, .bl _ => true
  | _, _ => false
def rEq : R2 := fun x y H Q => scal x y = true ∧ Q (.bl (decide (x = y))) H
def rNe : R2 := fun x y H Q => scal x y = true ∧ Q (.bl (!decide (x = y))) H

theorem dec_int {i j : Int} : decide (V.int i = V.int j) = (i == j) := by
  rw [Bool.eq_iff_iff]
  simp
theorem dec_bl {i j : Bool} : decide (V.bl i = V.bl j) = (i == j) := by
  rw [Bool.eq_iff_iff]
  simp
theorem dec_str {i j : Str} : decide (V.str i = V.str j) = (i == j) := by
  rw [Bool.eq_iff_iff]
  simp
theorem dec_byt {i j : Array UInt8} : decide (V.byt i = V.byt j) = (i.toList == j.toList) := by
  rw [Bool.eq_iff_iff]
  cases i
  cases j
  simp

section
variable {X : Cx} {a b c : Expr} {ta tb tc : TE} {pos : Pos}
theorem fin_bl {pins : List (Addr × Obj)} {σ : St} {H : Hp} {s : Shared} {Q : VK} {k k' : Bool} (I : Inv X pins σ H s) (q : Q (.bl k) H) (e : k = k') : EP X pins σ Q (.bool k') s := by
  subst e
  exact ⟨.bl k, H, I, rfl, q⟩
theorem op_eq : OpR X (compareOp .Eq) rEq := by
  intro pins s σ H x y v u Q I rx ry h
  obtain ⟨hs, q⟩ := h
  cases x with
  | non =>
    cases rx
    cases y with
    | non => cases ry; exact PySem.EqNone.eq_none_none (fin_bl I q (by simp))
    | bl j => cases ry; exact PySem.EqNone.eq_none_bool (fin_bl I q (by simp))
    | int j => obtain ⟨t', rfl⟩ := ry; exact PySem.EqNone.eq_none_int (fin_bl I q (by simp))
    | str j => obtain ⟨t', rfl⟩ := ry; exact PySem.EqNone.eq_none_str (fin_bl I q (by simp))
    | _ => exact absurd (show false = true from hs) Bool.false_ne_true
  | bl i =>
    cases rx
    cases y with
    | non => cases ry; exact PySem.EqNone.eq_bool_none (fin_bl I q (by simp))
    | bl j => cases ry; exact eq_bool (fin_bl I q dec_bl)
    | str j => obtain ⟨t', rfl⟩ := ry; exact PySem.EqMixed.eq_bool_str (fin_bl I q (by simp))
    | _ => exact absurd (show false = true from hs) Bool.false_ne_true
  | int i =>
    obtain ⟨t, rfl⟩ := rx
    cases y with
    | non => cases ry; exact PySem.EqNone.eq_int_none (fin_bl I q (by simp))
    | int j => obtain ⟨t', rfl⟩ := ry; exact eq_int (fin_bl I q dec_int)
    | str j => obtain ⟨t', rfl⟩ := ry; exact PySem.EqMixed.eq_int_str (fin_bl I q (by simp))
    | _ => exact absurd (show false = true from hs) Bool.false_ne_true
  | str i =>
    obtain ⟨t, rfl⟩ := rx
    cases y with
    | non => cases ry; exact PySem.EqNone.eq_str_none (fin_bl I q (by simp))
    | bl j => cases ry; exact PySem.EqMixed.eq_str_bool (fin_bl I q (by simp))
    | int j => obtain ⟨t', rfl⟩ := ry; exact PySem.EqMixed.eq_str_int (fin_bl I q (by simp))
    | str j => obtain ⟨t', rfl⟩ := ry; exact eq_str (fin_bl I q dec_str)
    | _ => exact absurd (show false = true from hs) Bool.false_ne_true
  | byt i =>
    obtain ⟨t, rfl⟩ := rx
    cases y with
    | byt j => obtain ⟨t', rfl⟩ := ry; exact PySem.W.eq_bytes (fin_bl I q dec_byt)
    | _ => exact absurd (show false = true from hs) Bool.false_ne_true
  | _ => cases y <;> exact absurd (show false = true from hs) Bool.false_ne_true
theorem op_ne : OpR X (compareOp .NotEq) rNe := by
  intro pins s σ H x y v u Q I rx ry h
  obtain ⟨hs, q⟩ := h
  cases x with
  | non =>
    cases rx
    cases y with
    | non => cases ry; exact PySem.EqNone.ne_none_none (fin_bl I q (by simp))
    | bl j => cases ry; exact PySem.EqNone.ne_none_bool (fin_bl I q (by simp))
    | int j => obtain ⟨t', rfl⟩ := ry; exact PySem.EqNone.ne_none_int (fin_bl I q (by simp))
    | str j => obtain ⟨t', rfl⟩ := ry; exact PySem.EqNone.ne_none_str (fin_bl I q (by simp))
    | _ => exact absurd (show false = true from hs) Bool.false_ne_true
  | bl i =>
    cases rx
    cases y with
    | non => cases ry; exact PySem.EqNone.ne_bool_none (fin_bl I q (by simp))
    | bl j => cases ry; exact ne_bool (fin_bl I q (congrArg not dec_bl))
    | str j => obtain ⟨t', rfl⟩ := ry; exact PySem.EqMixed.ne_bool_str (fin_bl I q (by simp))
    | _ => exact absurd (show false = true from hs) Bool.false_ne_true
  | int i =>
    obtain ⟨t, rfl⟩ := rx
    cases y with
    | non => cases ry; exact PySem.EqNone.ne_int_none (fin_bl I q (by simp))
    | int j => obtain ⟨t', rfl⟩ := ry; exact ne_int (fin_bl I q (congrArg not dec_int))
    | str j => obtain ⟨t', rfl⟩ := ry; exact PySem.EqMixed.ne_int_str (fin_bl I q (by simp))
    | _ => exact absurd (show false = true from hs) Bool.false_ne_true
  | str i =>
    obtain ⟨t, rfl⟩ := rx
    cases y with
    | non => cases ry; exact PySem.EqNone.ne_str_none (fin_bl I q (by simp))
    | bl j => cases ry; exact PySem.EqMixed.ne_str_bool (fin_bl I q (by simp))
    | int j => obtain ⟨t', rfl⟩ := ry; exact PySem.EqMixed.ne_str_int (fin_bl I q (by simp))
    | str j => obtain ⟨t', rfl⟩ := ry; exact ne_str (fin_bl I q (congrArg not dec_str))
    | _ => exact absurd (show false = true from hs) Bool.false_ne_true
  | byt i =>
    obtain ⟨t, rfl⟩ := rx
    cases y with
    | byt j => obtain ⟨t', rfl⟩ := ry; exact PySem.W.ne_bytes (fin_bl I q (congrArg not dec_byt))
    | _ => exact absurd (show false = true from hs) Bool.false_ne_true
  | _ => cases y <;> exact absurd (show false = true from hs) Bool.false_ne_true

theorem op_lt : OpR X (compareOp .Lt) (rI0 fun i j => .bl (decide (i < j))) := opB0 fun _ _ _ _ _ _ _ q => lt_int q
theorem op_le : OpR X (compareOp .LtE) (rI0 fun i j => .bl (decide (i ≤ j))) := opB0 fun _ _ _ _ _ _ _ q => le_int q
theorem op_gt : OpR X (compareOp .Gt) (rI0 fun i j => .bl (decide (j < i))) := opB0 fun _ _ _ _ _ _ _ q => gt_int q
theorem op_ge : OpR X (compareOp .GtE) (rI0 fun i j => .bl (decide (j ≤ i))) := opB0 fun _ _ _ _ _ _ _ q => ge_int q
def isObj : HO → Bool
  | .lst _ => true
  | .ins _ _ _ => true
  | _ => false
theorem nomark (b : Expr) {op : CmpOp} (h : op ≠ .In := by decide) (h2 : op ≠ .NotIn := by decide) : behindInMarks op b = false := by
  have e1 : (op == CmpOp.In) = false := by cases op <;> first | rfl | exact absurd rfl h
  have e2 : (op == CmpOp.NotIn) = false := by cases op <;> first | rfl | exact absurd rfl h2
  cases b <;> simp [behindInMarks, e1, e2]
theorem pe_cmpR {op : CmpOp} {r : R2} (ho : OpR X (compareOp op) r) (ha : PE X a ta) (hb : PE X b tb) (hm : behindInMarks op b = false) : PE X (.Compare a [op] [b] pos) (tOp r ta tb) := by
  intro pins s σ H Q I h
  exact wpAny_Compare1 (binT ha hb I h fun v u s2 x y H2 I2 rx ry q => ho pins s2 σ H2 x y v u Q I2 rx ry q) hm
def tTest (t : TE) : TT := fun σ H Q => t σ H fun x H' => ∃ k, x = .bl k ∧ Q k H'
theorem pt_cmpR {op : CmpOp} {r : R2} (ho : OpR X (compareOp op) r) (ha : PE X a ta) (hb : PE X b tb) (hm : behindInMarks op b = false) : PT X (.Compare a [op] [b] pos) (tTest (tOp r ta tb)) := by
  intro pins s σ H Q I h
  refine wpAny_isTrue_Compare1 (thn (ha pins s σ H _ I h) fun v s1 ⟨x, H1, I1, r1, q1⟩ => thn (hb pins s1 σ H1 _ I1 q1) fun u s2 ⟨y, H2, I2, r2, q2⟩ =>
    thn (ho pins s2 σ H2 x y v u _ I2 r1 r2 q2) fun c s3 ⟨z, H3, I3, r3, k, e, q3⟩ => ?_) hm
  subst e
  cases r3
  exact wpAny_truthy_bool ⟨H3, I3, q3⟩
def tChain (r r' : R2) (ta tb tc : TE) : TE := fun σ H Q => ta σ H fun x H1 => tb σ H1 fun y H2 => r x y H2 fun z H3 => ∃ k, z = .bl k ∧
  (if k = true then tc σ H3 fun w' H4 => r' y w' H4 Q else Q (.bl false) H3)
theorem pt_chain {op op' : CmpOp} {r r' : R2} (ho : OpR X (compareOp op) r) (ho' : OpR X (compareOp op') r') (ha : PE X a ta) (hb : PE X b tb) (hc : PE X c tc)
    (hm : lastMarks [op, op'] [b, c] = false := by with_unfolding_all rfl) : PT X (.Compare a [op, op'] [b, c] pos) (tTest (tChain r r' ta tb tc)) := by
  intro pins s σ H Q I h
  refine isTrue_chain (thn (ha pins s σ H _ I h) fun v s1 ⟨x, H1, I1, r1, q1⟩ => test_link (thn (hb pins s1 σ H1 _ I1 q1) fun u s2 ⟨y, H2, I2, r2, q2⟩ =>
    thn (ho pins s2 σ H2 x y v u _ I2 r1 r2 q2) fun d s3 ⟨z, H3, I3, r3, k, e, q3⟩ => ?_)) hm
  subst e
  cases r3
  refine wpAny_truthy_bool ?_
  cases k with
  | false =>
    obtain ⟨k', e', q'⟩ := q3
    cases e'
    exact ite_ff ⟨H3, I3, q'⟩
  | true =>
    refine ite_tt (test_last (thn (hc pins s3 σ H3 _ I3 q3) fun w' s4 ⟨z', H4, I4, r4, q4⟩ => thn (ho' pins s4 σ H4 y z' u w' _ I4 r2 r4 q4) fun d' s5 ⟨z2, H5, I5, r5, k2, e2, q5⟩ => ?_))
    subst e2
    cases r5
    exact wpAny_truthy_bool ⟨H5, I5, q5⟩

def TruV (K : PySem.W.Frag) (x : V) (H : Hp) (k : Bool) : Prop :=
  match x with
  | .non => k = false
  | .bl b => k = b
  | .int i => k = (i != 0)
  | .str y => y.length ≤ sizeLine ∧ k = ((y.length : Int) != 0)
  | .byt y => y.size ≤ sizeLine ∧ k = ((y.size : Int) != 0)
  | .ref p => (∃ xs, SqL K H p xs ∧ k = !xs.isEmpty) ∨ (∃ xs, SqT K H p xs ∧ k = !xs.isEmpty) ∨ ∃ kvs, H p = some (.dK kvs) ∧ k = !kvs.isEmpty
  | _ => False
theorem line63 : (sizeLine : Nat) < 2 ^ 63 := by rw [sizeLine_eq]; decide
theorem op_add_str : OpR X (binaryOp .Add) (fun x y H Q => ∃ i j, x = .str i ∧ y = .str j ∧ i.length + j.length ≤ sizeLine ∧ Q (.str (i ++ j)) H) := by
  intro pins s σ H x y v u Q I rx ry h
  obtain ⟨i, j, rfl, rfl, hz, q⟩ := h
  obtain ⟨t, rfl⟩ := rx
  obtain ⟨t', rfl⟩ := ry
  exact add_str (fun t' tk => ⟨.str (i ++ j), H, I.tok _, ⟨_, rfl⟩, q⟩) hz
def PlainIxT (b : Expr) : Prop := ∀ o i, subscripted b false o i = operate [o, i] (getItem o i)
theorem vals1 {x : V} {us : List Value} (r : Vals [x] us) : ∃ u, us = [u] ∧ RelV x u := by
  cases r with
  | cons r1 r2 => cases r2; exact ⟨_, rfl, r1⟩
theorem vals2 {x y : V} {us : List Value} (r : Vals [x, y] us) : ∃ u w', us = [u, w'] ∧ RelV x u ∧ RelV y w' := by
  cases r with
  | cons r1 r2 =>
    cases r2 with
    | cons r3 r4 => cases r4; exact ⟨_, _, rfl, r1, r3⟩
theorem call_max2 (hc : X.calm = true) : CallR X (.builtin "max") (fun xs H Q => ∃ i j, xs = [.int i, .int j] ∧ Q (.int (if j > i then j else i)) H) := by
  intro pins s σ H xs us Q I r h
  obtain ⟨i, j, rfl, q⟩ := h
  obtain ⟨u, w', rfl, ⟨t, rfl⟩, ⟨t', rfl⟩⟩ := vals2 r
  refine max_two_ints (I.ok.hd hc) fun h' tk k => ⟨_, H, I.kept k, ?_, q⟩
  by_cases hj : j > i
  · rw [if_pos hj, if_pos hj]; exact ⟨_, rfl⟩
  · rw [if_neg hj, if_neg hj]; exact ⟨_, rfl⟩
theorem call_min2 (hc : X.calm = true) : CallR X (.builtin "min") (fun xs H Q => ∃ i j, xs = [.int i, .int j] ∧ Q (.int (if j < i then j else i)) H) := by
  intro pins s σ H xs us Q I r h
  obtain ⟨i, j, rfl, q⟩ := h
  obtain ⟨u, w', rfl, ⟨t, rfl⟩, ⟨t', rfl⟩⟩ := vals2 r
  refine min_two_ints (I.ok.hd hc) fun h' tk k => ⟨_, H, I.kept k, ?_, q⟩
  by_cases hj : j < i
  · rw [if_pos hj, if_pos hj]; exact ⟨_, rfl⟩
  · rw [if_neg hj, if_neg hj]; exact ⟨_, rfl⟩
theorem call_int1 : CallR X (.type "int") (fun xs H Q => (∃ i, xs = [.int i] ∧ Q (.int i) H) ∨ ∃ k, xs = [.bl k] ∧ Q (.int (if k then 1 else 0)) H) := by
  intro pins s σ H xs us Q I r h
  rcases h with ⟨i, rfl, q⟩ | ⟨k, rfl, q⟩
  · obtain ⟨u, rfl, t, rfl⟩ := vals1 r
    exact call_int_int ⟨.int i, H, I, ⟨_, rfl⟩, q⟩
  · obtain ⟨u, rfl, r1⟩ := vals1 r
    cases r1
    exact call_int_bool ⟨.int (if k then 1 else 0), H, I.tok _, ⟨_, rfl⟩, q⟩
def LenV (K : PySem.W.Frag) (x : V) (H : Hp) (n : Nat) : Prop :=
  match x with
  | .str y => y.length ≤ sizeLine ∧ n = y.length
  | .byt y => y.size ≤ sizeLine ∧ n = y.size
  | .ref p => (∃ xs, SqL K H p xs ∧ n = xs.length) ∨ ∃ xs, SqT K H p xs ∧ n = xs.length
  | _ => False
end
end L2

namespace L2
open PySem PySem.Spec PyProof.Rows

structure ObjM (h : Heap) (x dx C : Addr) (mA : Str → Option Value) : Prop where
  obj : h.get? x = some (PySem.W.instObj C dx)
  ns : h.Ns1 dx mA
  ne : dx ≠ x

theorem lookIn_ns {h : Heap} {dx : Addr} {mA : Str → Option Value} (n : h.Ns1 dx mA) : ∃ od, h.get? dx = some od ∧ ∀ name, PySem.W.lookIn name od = some (mA name) := by
  obtain ⟨o, es, ep, ho, hd, hk, _, hm⟩ := n
  refine ⟨o, ho, fun name => ?_⟩
  have e := hm name
  unfold nsFind findBy at e
  rw [← Array.find?_toList] at e
  unfold PySem.W.lookIn
  rw [hd]
  dsimp only
  split
  · rename_i y q
    rw [q] at e
    exact congrArg some e
  · rename_i q
    rw [q] at e
    have a : es.toList.any (·.refKey) = false := by
      rw [List.any_eq_false]
      intro y hy
      obtain ⟨z, t, hkey⟩ := hk y (Array.mem_toList_iff.mp hy)
      simp [DictEntry.refKey, hkey]
    have a' : ¬ es.toList.any (·.refKey) = true := by rw [a]; exact Bool.false_ne_true
    rw [if_neg a']
    exact congrArg some e

theorem ObjM.look {h : Heap} {x dx C : Addr} {mA : Str → Option Value} (I : ObjM h x dx C mA) : ∃ od, PySem.W.InstAt h x (PySem.W.instObj C dx) C (some od) ∧ ∀ name, PySem.W.lookIn name od = some (mA name) :=
  let ⟨od, ho, hl⟩ := lookIn_ns I.ns
  ⟨od, ⟨I.obj, rfl, rfl, ho⟩, hl⟩

section
variable {prog : Program} {w : World} {A : Around} {E : Value → Shared → Prop} {s : Shared} {K : PySem.W.Frag} {x dx C f : Addr} {mA : Str → Option Value} {name : Str} {v : Value}

end

def putF (f : Str) (v : V) : List (Str × V) → List (Str × V)
  | [] => [(f, v)]
  | (g, x) :: r => if g = f then (g, v) :: r else (g, x) :: putF f v r
theorem RelO.some_of {v : V} {o : Option Value} (r : RelO (some v) o) : ∃ u, o = some u ∧ RelV v u := by
  cases o with
  | none => exact (show False from r).elim
  | some u => exact ⟨u, rfl, r⟩
section
variable {P : Program} {w : World} {H H' : Hp} {h h' : Heap} {a C dx : Addr} {fs fs' : List (Str × V)}
theorem ins_get (hok : HOk P w H h) (e : H a = some (.ins C dx fs)) : ∃ mA, ObjM h a dx C mA ∧ (∀ f, RelO (fs.lookup f) (mA f)) ∧ PySem.Within mA (fs.map (·.1)) ∧ fs.length ≤ 1000 ∧ H dx = some (.own a) := by
  obtain ⟨d, z, ne, ob, mA, n, r, q⟩ := (show ObjOk P w H h a (.ins C dx fs) from hok a _ e)
  exact ⟨mA, ⟨ob, n, ne⟩, r, q, z, d⟩
end

structure Cls (K : PySem.W.Frag) (C : Addr) : Prop where
  pg : PySem.W.plainGet K C Str.empty = true
  hd : PySem.W.hasDictIn K C = true
  po : PySem.W.plainOver K C = true
  sa : PySem.W.findIn K (.ref C) "__setattr__" = some (some (.builtin "object.__setattr__"))
theorem Cls.get {K : PySem.W.Frag} {C : Addr} (c : Cls K C) (f : Str) : PySem.W.plainGet K C f = true := c.pg
def NoAttr (K : PySem.W.Frag) (C : Addr) (f : Str) : Prop := PySem.W.findIn K (.ref C) f = some none
structure Con (K : PySem.W.Frag) (C : Addr) (f : Str) (v : V) (u : Value) : Prop where
  at_ : PySem.W.findIn K (.ref C) f = some (some u)
  rel : RelV v u
  get : PySem.W.specialIn K u "__get__" = some none
  cp : PySem.W.copiedNames.contains f = false
structure Meth (K : PySem.W.Frag) (C : Addr) (m : Str) (f : Addr) : Prop where
  at_ : PySem.W.findIn K (.ref C) m = some (some (.ref f))
  fn : PySem.W.isFn K (.ref f) = true
  kp : PySem.W.keepIn K (.ref f) = true

section
variable {X : Cx} {pins : List (Addr × Obj)} {σ : St} {H : Hp} {s : Shared} {a C dx : Addr} {fs : List (Str × V)} {f : Str} {v : V} {A : Around} {E : Value → Shared → Prop}

end

def tFld (K : PySem.W.Frag) (ta : TE) (f : Str) : TE := fun σ H Q => ta σ H fun x H1 => ∃ a C dx fs v, x = .ref a ∧ H1 a = some (.ins C dx fs) ∧ Cls K C ∧ NoAttr K C f ∧ fs.lookup f = some v ∧ Q v H1
def tCon (K : PySem.W.Frag) (ta : TE) (f : Str) : TE := fun σ H Q => ta σ H fun x H1 => ∃ a C dx fs v u, x = .ref a ∧ H1 a = some (.ins C dx fs) ∧ Cls K C ∧ Con K C f v u ∧ fs.lookup f = none ∧ Q v H1
def sFld (K : PySem.W.Frag) (ta tv : TE) (f : Str) : TS := fun D σ H => tv σ H fun y H1 => ta σ H1 fun x H2 => ∃ a C dx fs, x = .ref a ∧ H2 a = some (.ins C dx fs) ∧ Cls K C ∧ NoAttr K C f ∧ fs.length < 1000 ∧
  D.nx σ (upd H2 a (.ins C dx (putF f y fs)))
def InOp (X : Cx) (op : Operator) (rd : V → V → Hp → VK → Prop) : Prop :=
  ∀ (pins : List (Addr × Obj)) (s : Shared) (σ : St) (H : Hp) (x y : V) (u v : Value) (Q : VK), Inv X pins σ H s → RelV x u → RelV y v → rd x y H Q → wpAny (model X.prog X.w) X.A (inplaceOp op u v) (EP X pins σ Q) X.xe s
def sFldAug (K : PySem.W.Frag) (ta tv : TE) (rd : V → V → Hp → VK → Prop) (f : Str) : TS := fun D σ H => ta σ H fun x H1 => ∃ a C dx fs v, x = .ref a ∧ H1 a = some (.ins C dx fs) ∧ Cls K C ∧ NoAttr K C f ∧ fs.lookup f = some v ∧
  tv σ H1 fun y H2 => rd v y H2 fun z H3 => ∃ dx' fs', H3 a = some (.ins C dx' fs') ∧ fs'.length < 1000 ∧ D.nx σ (upd H3 a (.ins C dx' (putF f z fs')))

section
variable {X : Cx} {o e value : Expr} {f : Str} {pos pos' tpos : Pos} {ta tv : TE}
def rAdd : V → V → Hp → VK → Prop := fun x y H Q => ∃ i j, x = .int i ∧ y = .int j ∧ Q (.int (i + j)) H
def rSub : V → V → Hp → VK → Prop := fun x y H Q => ∃ i j, x = .int i ∧ y = .int j ∧ Q (.int (i - j)) H
end

section
variable {X : Cx} {pins : List (Addr × Obj)} {σ : St} {H : Hp} {s : Shared} {A : Around} {E : Value → Shared → Prop} {Q : Value → Shared → Prop} {c : Value} {b : Bool}
inductive TyOf (K : PySem.W.Frag) (H : Hp) : V → Value → Prop where
  | non : TyOf K H .non (.type "NoneType")
  | bl (x : Bool) : TyOf K H (.bl x) (.type "bool")
  | int (i : Int) : TyOf K H (.int i) (.type "int")
  | str (x : Str) : TyOf K H (.str x) (.type "str")
  | flt (x : UInt64) : TyOf K H (.flt x) (.type "float")
  | lst {a : Addr} {xs : List V} (e : H a = some (.lst xs)) : TyOf K H (.ref a) (.type "list")
  | frz {a : Addr} {o : Obj} {xs : List V} (e : H a = some (.frz o (.lst xs))) : TyOf K H (.ref a) (.type "list")
  | tup {a : Addr} {xs : List V} (e : H a = some (.tup xs)) : TyOf K H (.ref a) (.type "tuple")
  | dK {a : Addr} {kvs : List (Key × V)} (e : H a = some (.dK kvs)) : TyOf K H (.ref a) (.type "dict")
  | dT {a : Addr} {kvs : List (List Key × V)} (e : H a = some (.dT kvs)) : TyOf K H (.ref a) (.type "dict")
  | ins {a C dx : Addr} {fs : List (Str × V)} (e : H a = some (.ins C dx fs)) (cl : Cls K C) (ha : PySem.W.findIn K (.ref C) "__class__" = some (some (.builtin "object.__class__")))
      (hn : PySem.W.specialIn K (.builtin "object.__class__") "__get__" = some (some (.builtin "getset_descriptor.__get__"))) (htk : PySem.W.takesIn K (.builtin "object.__class__") = some true)
      (hm : PySem.W.mroIn K C (.type "object") = some true) : TyOf K H (.ref a) (.ref C)
theorem isinst_ok {x : V} {u t : Value} (I : Inv X pins σ H s) (rx : RelV x u) (ty : TyOf X.K H x t) (e : PySem.W.kitOne X.K t c = some b) (h : ∀ tk, Q (.bool b) { s with toks := tk }) :
    wpAny (model X.prog X.w) A (call (.builtin "isinstance") [u, c]) Q E s := by
  cases ty with
  | non => cases (show u = Value.none from rx); exact PySem.W.kia_one PySem.W.kitx_none I.kIn True.intro e (fun z => nomatch z) h
  | bl y => cases (show u = Value.bool y from rx); exact PySem.W.kia_one PySem.W.kitx_bool I.kIn True.intro e (fun z => nomatch z) h
  | int i => obtain ⟨t, q⟩ := (show ∃ t, u = Value.int i t from rx); cases q; exact PySem.W.kia_one PySem.W.kitx_int I.kIn True.intro e (fun z => nomatch z) h
  | str y => obtain ⟨t, q⟩ := (show ∃ t, u = Value.str y t from rx); cases q; exact PySem.W.kia_one PySem.W.kitx_str I.kIn True.intro e (fun z => nomatch z) h
  | flt y => obtain ⟨t, q⟩ := (show ∃ t, u = Value.float y t from rx); cases q; exact PySem.W.kia_one PySem.W.kitx_float I.kIn True.intro e (fun z => nomatch z) h
  | @lst a xs ea =>
    cases (show u = Value.ref a from rx)
    obtain ⟨_, _, n, _, h1⟩ := (show ObjOk X.prog X.w H s.heap a (.lst xs) from I.hok a _ ea)
    exact PySem.W.kia_one PySem.W.kitx_list I.kIn ⟨_, h1, rfl⟩ e (fun z => nomatch z) h
  | @frz a ob xs ea =>
    cases (show u = Value.ref a from rx)
    obtain ⟨_, _, _, n, _, h1⟩ := (show ObjOk X.prog X.w H s.heap a (.frz ob (.lst xs)) from I.hok a _ ea)
    exact PySem.W.kia_one PySem.W.kitx_list I.kIn ⟨_, h1, rfl⟩ e (fun z => nomatch z) h
  | @tup a xs ea =>
    cases (show u = Value.ref a from rx)
    obtain ⟨_, _, _, p⟩ := (show ObjOk X.prog X.w H s.heap a (.tup xs) from I.hok a _ ea)
    obtain ⟨o, h1, h2, _⟩ := p
    exact PySem.W.kia_one PySem.W.kitx_tuple I.kIn ⟨o, h1, h2⟩ e (fun z => nomatch z) h
  | @dK a kvs ea =>
    cases (show u = Value.ref a from rx)
    obtain ⟨_, _, vs, _, p⟩ := (show ObjOk X.prog X.w H s.heap a (.dK kvs) from I.hok a _ ea)
    obtain ⟨o, es, ep, h1, h2, _⟩ := p
    exact PySem.W.kia_one PySem.W.kitx_dict I.kIn ⟨o, h1, h2.1⟩ e (fun z => nomatch z) h
  | @dT a kvs ea =>
    cases (show u = Value.ref a from rx)
    obtain ⟨_, _, xs, _, o, es, ep, h1, h2, _⟩ := (show ObjOk X.prog X.w H s.heap a (.dT kvs) from I.hok a _ ea)
    exact PySem.W.kia_one PySem.W.kitx_dict I.kIn ⟨o, h1, h2.1⟩ e (fun z => nomatch z) h
  | @ins a C dx fs ea cl ha hn htk hm =>
    cases (show u = Value.ref a from rx)
    obtain ⟨mA, O, _⟩ := ins_get I.hok ea
    obtain ⟨od, J, _⟩ := O.look
    exact PySem.W.kia_one (PySem.W.kitx_own (cl.get _) cl.hd ha hn htk hm) I.kIn J e (fun z => nomatch z) h
end
end L2

namespace L2
open PySem PySem.Spec PyProof.Rows

structure Room (k : Nat) (A : Around) : Prop where
  hd : A.handled = none
  dp : A.depth + 3 * k + 5 < recursionLimit
  un : A.units + 16 * k + 200 < cLine
theorem Room.mono {j k : Nat} {A : Around} (r : Room k A) (h : j ≤ k) : Room j A := ⟨r.hd, by have := r.dp; omega, by have := r.un; omega⟩
theorem Room.deeper {k : Nat} {A : Around} (r : Room (k + 1) A) (env : Env) : Room k (A.deeper env) :=
  ⟨r.hd, by have := r.dp; show A.depth + 1 + 3 * k + 5 < _; omega, by have := r.un; show A.units + 3 + 16 * k + 200 < _; omega⟩
theorem Room.depth {k : Nat} {A : Around} (r : Room k A) : A.depth < recursionLimit := by have := r.dp; omega
theorem Room.units {k : Nat} {A : Around} (r : Room k A) : A.units + 64 < cLine := by have := r.un; omega
theorem Room.units0 {k : Nat} {A : Around} (r : Room k A) : A.units < cLine := by have := r.un; omega

def tNil : TA := fun _ H Q => Q [] H
def tCons (ta : TE) (tr : TA) : TA := fun σ H Q => ta σ H fun x H1 => tr σ H1 fun xs H2 => Q (x :: xs) H2
section
variable {X : Cx} {e : Expr} {es : List Expr} {te : TE} {t : TA} {pos : Pos}
theorem pa_nil : PA X [] tNil := fun _ _ _ _ H Q I h => Calls.spliced_nil ⟨[], H, I, .nil, h⟩
theorem pa_cons (ha : PE X e te) (hr : PA X es t) (hs : starEach (e :: es) X.env = (false, eval e X.env) :: starEach es X.env := by rfl) : PA X (e :: es) (tCons te t) := by
  intro pos pins s σ H Q I h
  rw [hs]
  show wpAny _ _ (spliced ((false, eval e X.env) :: backTo pos (starEach es X.env))) _ _ s
  refine Calls.spliced_cons (thn (ha pins s σ H _ I h) fun u s1 ⟨x, H1, I1, r1, q1⟩ => ?_)
  exact thn (hr pos pins s1 σ H1 _ I1 q1) fun us s2 ⟨xs, H2, I2, r2, q2⟩ => ⟨x :: xs, H2, I2, .cons r1 r2, q2⟩

def tTup (t : TA) : TE := fun σ H Q => t σ H fun xs H1 => xs.length ≤ sizeLine ∧ ∀ p, H1 p = none → Q (.ref p) (upd H1 p (.tup xs))
def tLst (t : TA) : TE := fun σ H Q => t σ H fun xs H1 => xs.length ≤ sizeLine ∧ ∀ p, H1 p = none → Q (.ref p) (upd H1 p (.lst xs))
theorem pe_tup {x1} (h : PA X es t) : PE X (.Tuple es x1 pos) (tTup t) := by
  intro pins s σ H Q I hq
  refine wpAny_Tuple_spliced (thn (h pos pins s σ H _ I hq) fun us s1 ⟨xs, H1, I1, r, z, q⟩ => ⟨by rw [← r.length]; exact z, ?_⟩)
  have hf : H1 s1.heap.objs.size = none := I1.hok.fresh (Nat.le_refl _)
  refine ⟨.ref s1.heap.objs.size, upd H1 s1.heap.objs.size (.tup xs), I1.laid (t' := s1.toks) (fun b u e => Heap.get?_push_of_some _ e) (Nat.le_refl _) ?_, rfl, q _ hf⟩
  exact ⟨z, us, r, ⟨_, Heap.get?_push_size _ rfl, rfl, _, rfl⟩⟩
theorem pe_lst (h : PA X es t) : PE X (.List es pos) (tLst t) := by
  intro pins s σ H Q I hq
  refine wpAny_List_spliced (thn (h pos pins s σ H _ I hq) fun us s1 ⟨xs, H1, I1, r, z, q⟩ => ⟨by rw [← r.length]; exact z, ?_⟩)
  have hf : H1 s1.heap.objs.size = none := I1.hok.fresh (Nat.le_refl _)
  refine ⟨.ref s1.heap.objs.size, upd H1 s1.heap.objs.size (.lst xs), I1.laid (t' := s1.toks) (fun b u e => Heap.get?_push_of_some _ e) (Nat.le_refl _) ?_, rfl, q _ hf⟩
  exact ⟨z, us, 0, r, Heap.get?_push_size _ rfl⟩
end

abbrev Sp := List V → Hp → VK → XK → Prop
abbrev CXT := List Env → Hp → Shared → XK → Value → Shared → Prop

structure Env0 (P : Program) (w : World) (K : PySem.W.Frag) (mg : Str → Option Value) (base : Heap) (A : Around) (outer : List Env) (s : Shared) (H : Hp) : Prop where
  frames : A.frames = some outer
  mod : Mod K mg base
  bs : ∀ b o, base.get? b = some o → s.heap.get? b = some o ∧ H b = none
  bsz : base.objs.size ≤ s.heap.objs.size
  funs : s.heap.FunFrames base outer
  frf : ∀ b ∈ frs outer, H b = none
  hok : HOk P w H s.heap
  bare : AllBare s.gens
def CE (outer : List Env) (P : Program) (w : World) (H : Hp) (s : Shared) (Q : VK) (u : Value) (s' : Shared) : Prop :=
  ∃ v H', s'.os = s.os ∧ AllBare s'.gens ∧ Un (frs outer) [] H H' s.heap s'.heap ∧ HOk P w H' s'.heap ∧ RelV v u ∧ Q v H'
def CR (CX : CXT) (outer : List Env) (P : Program) (w : World) (H : Hp) (s : Shared) (Q : VK) (E : XK) (r : Result) (s' : Shared) : Prop :=
  match r with
  | .ok (.ret u) => CE outer P w H s Q u s'
  | .ok _ => False
  | .error e => CX outer H s E e s'
structure FnOk (P : Program) (w : World) (K : PySem.W.Frag) (mg : Str → Option Value) (base : Heap) (CX : CXT) (k : Nat) (f : Addr) (fd : FuncData) (ps : List Str) (sp : Sp) : Prop where
  len : ∀ vs H Q E, sp vs H Q E → vs.length = ps.length
  run : ∀ (A : Around) (outer : List Env) (s : Shared) (H : Hp) (args : Args) (us : List Value) (vs : List V) (Q : VK) (E : XK), Room k A → Env0 P w K mg base A outer s H → BindsTo s fd args (ps.zip us) → Vals vs us → sp vs H Q E →
    codeAny (model P w) A (.call (.ref f) args) (CR CX outer P w H s Q E) s
theorem FnOk.mono {P : Program} {w : World} {K : PySem.W.Frag} {mg : Str → Option Value} {base : Heap} {CX : CXT} {j k : Nat} {f : Addr} {fd : FuncData} {ps : List Str} {sp : Sp} (F : FnOk P w K mg base CX j f fd ps sp) (h : j ≤ k) :
    FnOk P w K mg base CX k f fd ps sp := ⟨F.len, fun A outer s H args us vs Q E hr => F.run A outer s H args us vs Q E (hr.mono h)⟩
section
variable {X : Cx} {pins : List (Addr × Obj)} {σ : St} {H : Hp} {s s' : Shared}
theorem Inv.env0 (I : Inv X pins σ H s) : Env0 X.prog X.w X.K X.mg X.base X.A X.stack s H :=
  ⟨I.ok.frames, I.ok.mod, I.bs, Nat.le_trans I.ok.bsz I.sz, I.stack, I.stkFree, I.hok, I.bare⟩
theorem Inv.after {Q : VK} {u : Value} (I : Inv X pins σ H s) (h : CE X.stack X.prog X.w H s Q u s') : EP X pins σ Q u s' := by
  obtain ⟨v, H', os, bare, un, hok, r, q⟩ := h
  obtain ⟨hh, g, d, t, os'⟩ := s'
  obtain rfl : os' = s.os := os
  exact ⟨v, H', I.call (h' := hh) (g' := g) (d' := d) (t' := t) (ch := []) un hok bare (fun b z => absurd z (by simp)), r, q⟩
end

def tCall (sp : Sp) (dvs : List V) (E : XK) (t : TA) : TE := fun σ H Q => t σ H fun vs H1 => sp (vs ++ dvs) H1 Q E
def tMeth (C : Addr) (m : Str) (sp : Sp) (dvs : List V) (E : XK) (ta : TE) (t : TA) : TE := fun σ H Q => ta σ H fun x H1 => ∃ a dx fs, x = .ref a ∧ H1 a = some (.ins C dx fs) ∧ fs.lookup m = none ∧
  t σ H1 fun vs H2 => sp (x :: (vs ++ dvs)) H2 Q E
def tMake (C : Addr) (sp : Sp) (dvs : List V) (E : XK) (t : TA) : TE := fun σ H Q => t σ H fun vs H1 => ∀ x dx, H1 x = none → H1 dx = none → dx ≠ x →
  sp (.ref x :: (vs ++ dvs)) (upd (upd H1 dx (.own x)) x (.ins C dx [])) (fun v H2 => v = .non ∧ Q (.ref x) H2) E

def Binds (K : PySem.W.Frag) (fd : FuncData) (ps : List Str) (ds : List Value) : Prop :=
  ∀ (s : Shared) (us : List Value), K.In s.heap → (us ++ ds).length = ps.length → BindsTo s fd ⟨us, []⟩ (ps.zip (us ++ ds))
theorem Binds.all {K : PySem.W.Frag} {fd : FuncData} {ps : List Str} (h : ∀ us : List Value, us.length = ps.length → bindArgs fd ⟨us, []⟩ = pure (ps.zip us)) : Binds K fd ps [] := fun s us _ hl => by
  rw [List.append_nil] at hl ⊢
  exact .of_eq (h us hl)

def Passes (CX : CXT) (X : Cx) (E : XK) : Prop := ∀ (pins : List (Addr × Obj)) (σ : St) (H : Hp) (s : Shared) (e : Value) (s' : Shared), Inv X pins σ H s → CX X.stack H s E e s' → X.xe e s'

section
variable {X : Cx} {CX : CXT} {k : Nat} {f C : Addr} {fd : FuncData} {ps : List Str} {sp : Sp} {dvs : List V} {ds : List Value} {E : XK} {x m : Str} {p pos apos : Pos} {e o : Expr} {es : List Expr} {ta : TE} {t : TA}

theorem run_fn {pins : List (Addr × Obj)} {σ : St} {H : Hp} {s : Shared} {Q : VK} {us : List Value} {vs : List V} (F : FnOk X.prog X.w X.K X.mg X.base CX k f fd ps sp) (hr : Room k X.A) (hb : Binds X.K fd ps ds) (hd : Vals dvs ds) (hx : Passes CX X E)
    (I : Inv X pins σ H s) (r : Vals vs us) (h : sp (vs ++ dvs) H Q E) : wpAny (model X.prog X.w) X.A (call (.ref f) us) (EP X pins σ Q) X.xe s := by
  have r2 : Vals (vs ++ dvs) (us ++ ds) := r.append hd
  have hl : (us ++ ds).length = ps.length := by rw [← r2.length]; exact F.len _ _ _ _ h
  refine wpAny_call (codeAny_mono (F.run X.A X.stack s H ⟨us, []⟩ (us ++ ds) (vs ++ dvs) Q E hr I.env0 (hb s us I.kIn hl) r2 h) fun r s' hq => ?_)
  cases r with
  | error e => exact hx pins σ H s e s' I hq
  | ok fl =>
    cases fl with
    | ret u => exact I.after hq
    | next => exact False.elim hq
    | brk => exact False.elim hq
    | cont => exact False.elim hq

theorem pe_call (F : FnOk X.prog X.w X.K X.mg X.base CX k f fd ps sp) (hr : Room k X.A) (hg : Gl X x) (hm : X.mg x = some (.ref f)) (hk : PySem.W.keepIn X.K (.ref f) = true) (hb : Binds X.K fd ps ds) (hd : Vals dvs ds) (hx : Passes CX X E)
    (ha : PA X (e :: es) t) (hdb : (x == ("__debug__" : Str)) = false := by decide) (he : starEach (e :: es) X.env = (false, eval e X.env) :: starEach es X.env := by rfl) (hpl : (backTo pos (starEach es X.env)).any (·.1) = false := by rfl) :
    PE X (.Call (.Name x p) (e :: es) [] pos) (tCall sp dvs E t) := by
  intro pins s σ H Q I h
  refine wpAny_Call_Name_kw (ld_glob I hg hm ?_ hdb)
  refine PySem.W.callWith_K (h₀ := X.base) I.ok.mod.kin hk (thn (ha pos pins s σ H _ I h) fun us s1 ⟨vs, H1, I1, r, q⟩ => ⟨I1.kIn, ?_⟩) he hpl
  exact run_fn F hr hb hd hx I1 r q
structure Mk (K : PySem.W.Frag) (C f : Addr) : Prop where
  makes : PySem.W.makesIn K C = true
  init : PySem.W.findIn K (.ref C) "__init__" = some (some (.ref f))
  fn : PySem.W.isFn K (.ref f) = true
  kp : PySem.W.keepIn K (.ref C) = true

end

def PK (X : Cx) (kws : List Keyword) (t : TA) : Prop :=
  ∀ (pos : Pos) (pins : List (Addr × Obj)) (s : Shared) (σ : St) (H : Hp) (Q : List V → Hp → Prop), Inv X pins σ H s → t σ H Q → wpAny (model X.prog X.w) X.A (evalAll ((backToKw pos (keywordEach kws X.env)).map (·.2))) (AP X pins σ Q) X.xe s
section
variable {X : Cx} {CX : CXT} {k : Nat} {f C : Addr} {fd : FuncData} {ps ks : List Str} {sp : Sp} {E : XK} {x m : Str} {p pos apos kpos : Pos} {e o : Expr} {es : List Expr} {kws : List Keyword} {te ta : TE} {t tk : TA} {nm : Option Str}
theorem pk_nil : PK X [] tNil := fun _ _ _ _ H Q I h => wpAny_evalAll_nil ⟨[], H, I, .nil, h⟩
theorem pk_cons (ha : PE X e te) (hr : PK X kws t) : PK X (⟨nm, e, kpos⟩ :: kws) (tCons te t) := by
  intro pos pins s σ H Q I h
  show wpAny _ _ (evalAll ((do let v ← eval e X.env; standAt pos; pure v) :: (backToKw pos (keywordEach kws X.env)).map (·.2))) _ _ s
  refine wpAny_evalAll_cons (wpAny_bind (thn (ha pins s σ H _ I h) fun u s1 ⟨x, H1, I1, r1, q1⟩ => wpAny_bind (wpAny_standAt (wpAny_pure ?_))))
  exact thn (hr pos pins s1 σ H1 _ I1 q1) fun us s2 ⟨xs, H2, I2, r2, q2⟩ => ⟨x :: xs, H2, I2, .cons r1 r2, q2⟩

structure KBinds (K : PySem.W.Frag) (fd : FuncData) (ps ks : List Str) (g : List Value → List Value → List Value) (gV : List V → List V → List V) : Prop where
  to : ∀ (s : Shared) (us ws : List Value), K.In s.heap → (g us ws).length = ps.length → BindsTo s fd ⟨us, ks.zip ws⟩ (ps.zip (g us ws))
  rel : ∀ {vs : List V} {us : List Value} {zs : List V} {ws : List Value}, Vals vs us → Vals zs ws → Vals (gV vs zs) (g us ws)
def tCallK (sp : Sp) (gV : List V → List V → List V) (E : XK) (t tk : TA) : TE := fun σ H Q => t σ H fun vs H1 => tk σ H1 fun zs H2 => sp (gV vs zs) H2 Q E
variable {g : List Value → List Value → List Value} {gV : List V → List V → List V}
end

structure FnScope (N P : List Str) (sc : Scope) : Prop where
  kind : sc.kind = .function
  co : sc.isCoroutine = false
  gen : sc.isGenerator = false
  nd : N.Nodup
  pre : N.take P.length = P
  par : ∀ x ∈ P, sc.names.lookup x = some .local ∨ sc.names.lookup x = some .cell
  nofree : ∀ y ∈ sc.names, y.2 ≠ .free

theorem bindL_out {kindOf : Str → Option NameKind} {x : Str} : ∀ {binds : List (Str × Value)} {m : Str → Option Value}, (∀ v, (x, v) ∉ binds) → bindL kindOf binds m x = m x
  | [], _, _ => rfl
  | (n, v) :: r, m, h => by
    unfold bindL
    rw [bindL_out fun w hw => h w (List.mem_cons_of_mem _ hw)]
    split
    · have : x ≠ n := by rintro rfl; exact h v List.mem_cons_self
      simp [this]
    · rfl
theorem bindC_out {kindOf : Str → Option NameKind} {x : Str} : ∀ {binds : List (Str × Value)} {m : Str → Option Value}, (∀ v, (x, v) ∉ binds) → bindC kindOf binds m x = m x
  | [], _, _ => rfl
  | (n, v) :: r, m, h => by
    unfold bindC
    rw [bindC_out fun w hw => h w (List.mem_cons_of_mem _ hw)]
    split
    · rfl
    · have : x ≠ n := by rintro rfl; exact h v List.mem_cons_self
      simp [this]
theorem bindL_get {kindOf : Str → Option NameKind} {x : Str} {v : Value} : ∀ {P : List Str} {vs : List Value} {i : Nat} {m : Str → Option Value}, P.Nodup → P[i]? = some x → vs[i]? = some v → kindOf x = some .local →
    bindL kindOf (P.zip vs) m x = some v
  | [], _, _, _, _, h, _, _ => by simp at h
  | _ :: _, [], _, _, _, _, h, _ => by simp at h
  | p :: P, w :: vs, 0, m, nd, h1, h2, hk => by
    simp at h1 h2; subst h1; subst h2
    show bindL kindOf ((p, w) :: P.zip vs) m p = _
    unfold bindL
    rw [bindL_out fun v hv => (List.nodup_cons.mp nd).1 (List.of_mem_zip hv).1, if_pos hk]
    simp
  | p :: P, w :: vs, i + 1, m, nd, h1, h2, hk => by
    show bindL kindOf ((p, w) :: P.zip vs) m x = _
    unfold bindL
    exact bindL_get (i := i) (List.nodup_cons.mp nd).2 (by simpa using h1) (by simpa using h2) hk
theorem bindC_get {kindOf : Str → Option NameKind} {x : Str} {v : Value} : ∀ {P : List Str} {vs : List Value} {i : Nat} {m : Str → Option Value}, P.Nodup → P[i]? = some x → vs[i]? = some v → kindOf x ≠ some .local →
    bindC kindOf (P.zip vs) m x = some v
  | [], _, _, _, _, h, _, _ => by simp at h
  | _ :: _, [], _, _, _, _, h, _ => by simp at h
  | p :: P, w :: vs, 0, m, nd, h1, h2, hk => by
    simp at h1 h2; subst h1; subst h2
    show bindC kindOf ((p, w) :: P.zip vs) m p = _
    unfold bindC
    rw [bindC_out fun v hv => (List.nodup_cons.mp nd).1 (List.of_mem_zip hv).1, if_neg hk]
    simp
  | p :: P, w :: vs, i + 1, m, nd, h1, h2, hk => by
    show bindC kindOf ((p, w) :: P.zip vs) m x = _
    unfold bindC
    exact bindC_get (i := i) (List.nodup_cons.mp nd).2 (by simpa using h1) (by simpa using h2) hk

def start (N : List Str) (vs : List V) : St := vs.map some ++ List.replicate (N.length - vs.length) none

def cxOf (CX : CXT) (P : Program) (w : World) (K : PySem.W.Frag) (mg : Str → Option Value) (base : Heap) (N : List Str) (qual : Str) (scope : Scope) (f : Addr) (cd : Value) (A : Around) (outer : List Env) (s : Shared) (H : Hp) (E : XK) : Cx where
  prog := P
  w := w
  K := K
  mg := mg
  base := base
  A := A.deeper (envOfC qual scope s.heap.objs.size f cd)
  N := N
  s₀ := s
  H₀ := H
  env := envOfC qual scope s.heap.objs.size f cd
  outer := outer
  stack := envOfC qual scope s.heap.objs.size f cd :: outer
  ex := []
  calm := true
  fn := fun _ => true
  pn := []
  xe := fun e s' => wpAny (model P w) (A.deeper (envOfC qual scope s.heap.objs.size f cd)) (leaving (envOfC qual scope s.heap.objs.size f cd) e) (fun _ s'' => CX outer H s E e s'') (fun e' s'' => CX outer H s E e' s'') s'

theorem cell_has {sc : Scope} {n : Nat} {x : Str} (h : sc.names.lookup x = some .cell) : ∃ c, (cellsFrom n sc.names []).lookup x = some c := by
  have q := PySem.W.cellsFrom_some sc.names n [] (.inl h)
  exact Option.isSome_iff_exists.mp q

theorem inv_start {CX : CXT} {P : Program} {w : World} {K : PySem.W.Frag} {mg : Str → Option Value} {base : Heap} {N ps : List Str} {qual : Str} {scope : Scope} {f : Addr} {cd : Value} {A : Around} {outer : List Env} {s s1 : Shared} {H : Hp} {E : XK} {us : List Value} {vs : List V}
    (S : FnScope N ps scope) (hd : A.handled = none) (e0 : Env0 P w K mg base A outer s H) (hl : vs.length = ps.length) (r : Vals vs us)
    (x : InCallC s s.heap.objs.size (bindL (envOfC qual scope s.heap.objs.size f cd).kindOf (ps.zip us) fun _ => none) (cellsFrom (s.heap.objs.size + 1) scope.names []) (bindC (envOfC qual scope s.heap.objs.size f cd).kindOf (ps.zip us) fun _ => none) s1) :
    Inv (cxOf CX P w K mg base N qual scope f cd A outer s H E) [] (start N vs) H s1 := by
  have hpl : ps.length ≤ N.length := by have := congrArg List.length S.pre; rw [List.length_take] at this; omega
  obtain ⟨h1, tk, rfl, hk⟩ := x.done
  have noA : ∀ b : Addr, b ∉ (cxOf CX P w K mg base N qual scope f cd A outer s H E).ex := fun b z => absurd (show b ∈ ([] : List Addr) from z) (by simp)
  refine ⟨⟨e0.mod, S.kind, rfl, rfl, Nat.le_refl _, fun y z c h1 h2 => ?_, fun y hy => ?_, fun y c _ h => ?_, fun _ => hd, Around.frames_deeper e0.frames, .inr ⟨rfl, rfl⟩, fun b z => absurd z (noA b), e0.bs, e0.bsz, fun b _ _ => noA b, fun b z => absurd z (noA b), e0.funs, e0.frf⟩,
    rfl, e0.bare, Un.kept hk, ⟨_, x.toInCall.ns, fun i y v h1 h2 h3 => ?_⟩, fun y c h => ⟨_, x.cell y c h⟩, e0.hok.fresh (Nat.le_refl _), fun y c h => ?_, fun p hp => absurd (show p ∈ ([] : List (Addr × Obj)) from hp) (by simp), e0.hok.kept hk, ?_⟩
  · exact name_of_addr x.apart (PySem.mem_of_lookup h1) (PySem.mem_of_lookup h2)
  · have hy : scope.names.lookup y = some .cell ∨ scope.names.lookup y = some .free := hy
    rcases hy with hy | hy
    · exact cell_has hy
    · exact absurd rfl (S.nofree _ (PySem.mem_of_lookup hy))
  · exact Nat.le_of_lt (x.above y c (PySem.mem_of_lookup h))
  · have hi : i < vs.length := by
      unfold start at h2
      by_cases hi : i < vs.length
      · exact hi
      · rw [List.getElem?_append_right (by simpa using hi)] at h2
        rw [List.getElem?_replicate] at h2
        split at h2 <;> cases h2
    have ha : vs[i]? = some v := by
      unfold start at h2
      rw [List.getElem?_append_left (by simpa using hi), List.getElem?_map] at h2
      cases e : vs[i]? with
      | none => rw [e] at h2; cases h2
      | some a => rw [e] at h2; cases h2; rfl
    obtain ⟨u, hu, rv⟩ := r.get ha
    have hp : ps[i]? = some y := by
      rw [← S.pre, List.getElem?_take_of_lt (by omega)]; exact h1
    have ndP : ps.Nodup := by rw [← S.pre]; exact S.nd.sublist (List.take_sublist _ _)
    refine ⟨u, rv, ?_⟩
    rcases S.par y (List.mem_of_getElem? hp) with k | k
    · exact .inl ⟨k, bindL_get ndP hp hu k⟩
    · obtain ⟨c, e⟩ := cell_has (n := s.heap.objs.size + 1) k
      refine .inr ⟨.inl k, c, e, ?_⟩
      have q := x.cell y c e
      rw [bindC_get ndP hp hu (by show scope.names.lookup y ≠ _; rw [k]; decide)] at q
      exact q
  · exact e0.hok.fresh (Nat.le_of_lt (x.above y c (PySem.mem_of_lookup h)))
  · unfold start
    show _ = N.length
    rw [List.length_append, List.length_map, List.length_replicate]
    omega

theorem fn_of {CX : CXT} {P : Program} {w : World} {K : PySem.W.Frag} {mg : Str → Option Value} {base : Heap} {k : Nat} {f : Addr} {name qual : Str} {params : Arguments} {body : List Stmt} {scope : Scope} {dV kV doc pm cdv ct oc : Value} {an od : Option Addr}
    {osl : Array (Option Value)} {N ps : List Str} {sp : Sp} (lk : K.lookup f = some ⟨oc, od, .func (PySem.W.fnOf name qual params body scope dV kV doc pm an cdv ct), osl⟩) (hcd : PySem.W.codeIn K cdv qual = true) (S : FnScope N ps scope)
    (len : ∀ vs H Q E, sp vs H Q E → vs.length = ps.length)
    (hbody : ∀ (A : Around) (outer : List Env) (s : Shared) (H : Hp) (vs : List V) (Q : VK) (E : XK), Room k (A.deeper (envOfC qual scope s.heap.objs.size f cdv)) → sp vs H Q E →
      ∃ t, PSs (cxOf CX P w K mg base N qual scope f cdv A outer s H E) body t ∧ t { nx := fun _ H' => Q .non H', rt := Q } (start N vs) H) :
    FnOk P w K mg base CX (k + 1) f (PySem.W.fnOf name qual params body scope dV kV doc pm an cdv ct) ps sp := by
  refine ⟨len, fun A outer s H args us vs Q E hr e0 hb r hsp => ?_⟩
  have hl := len _ _ _ _ hsp
  have KX : K.In s.heap := e0.mod.kin.keeps fun b o e => (e0.bs b o e).1
  have lim : s.heap.NoLimit := e0.mod.nolimit.keeps fun b o e => (e0.bs b o e).1
  have hkind : ∀ y ∈ ps.zip us, scope.names.lookup y.1 = some .local ∨ (scope.names.lookup y.1 = some .cell ∧ ((cellsFrom (s.heap.objs.size + 1) scope.names []).lookup y.1).isSome = true) := fun ⟨n, v⟩ hy => by
    rcases S.par n (List.of_mem_zip hy).1 with q | q
    · exact .inl q
    · exact .inr ⟨q, PySem.W.cellsFrom_some _ _ _ (.inl q)⟩
  refine codeAny_call_function hr.depth (KX _ _ lk) rfl S.co S.gen rfl (PySem.W.codeRec_of KX hcd) (hb _ _ _ _ ?_)
  refine wpAny_newFunctionEnv_cells S.kind hkind fun env he s1 x => ?_
  subst he
  refine ⟨lim.keeps x.toInCall.keep, codeAny_func ?_⟩
  obtain ⟨t, ht, hq⟩ := hbody A outer s H vs Q E (hr.deeper _) hsp
  have I : Inv (cxOf CX P w K mg base N qual scope f cdv A outer s H E) [] (start N vs) H s1 := inv_start S hr.hd e0 hl r x
  refine wpAny_mono (ht [] s1 (start N vs) H _ I hq) (fun fl s' hs => ?_) fun e s' hs => hs
  have fin : ∀ {σ' : St} {H' : Hp} {v : V} {u : Value}, Inv (cxOf CX P w K mg base N qual scope f cdv A outer s H E) [] σ' H' s' → RelV v u → Q v H' → CE outer P w H s Q u s' :=
    fun {σ' H' v u} J rv q => ⟨v, H', J.os, J.bare, J.base, J.hok, rv, q⟩
  cases fl with
  | ret u =>
    obtain ⟨v, σ', H', J, rv, q⟩ := hs
    exact fin J rv q
  | next =>
    obtain ⟨σ', H', J, q⟩ := hs
    exact fin (v := V.non) (u := Value.none) J rfl q
  | brk =>
    obtain ⟨_, _, _, q⟩ := hs
    exact False.elim q
  | cont =>
    obtain ⟨_, _, _, q⟩ := hs
    exact False.elim q
end L2

namespace L2
open PySem PySem.Spec PyProof.Rows
section
variable {X : Cx} {x : Str} {p pos : Pos} {e : Expr} {es : List Expr} {t : TA} {id T : String} {r : List V → Hp → VK → Prop}

def tCB (r : List V → Hp → VK → Prop) (t : TA) : TE := fun σ H Q => t σ H fun vs H1 => r vs H1 Q
theorem pe_callB (hc : CallR X (.builtin id) r) (hg : Gl X x) (hm : X.mg x = none) (hv : bootBuiltins x = some (.builtin id)) (ha : PA X (e :: es) t) (hn : x ≠ "__name__" := by decide) (hdb : (x == ("__debug__" : Str)) = false := by decide)
    (he : starEach (e :: es) X.env = (false, eval e X.env) :: starEach es X.env := by rfl) (hpl : (backTo pos (starEach es X.env)).any (·.1) = false := by rfl) : PE X (.Call (.Name x p) (e :: es) [] pos) (tCB r t) := by
  intro pins s σ H Q I h
  refine wpAny_Call_Name_kw (ld_blt I hg hm hv ?_ hn hdb)
  exact PyProof.Rows.callWith_builtin1 (thn (ha pos pins s σ H _ I h) fun us s1 ⟨vs, H1, I1, r1, q1⟩ => hc pins s1 σ H1 vs us Q I1 r1 q1) he hpl
theorem pe_callTy (hc : CallR X (.type T) r) (hg : Gl X x) (hm : X.mg x = none) (hv : bootBuiltins x = some (.type T)) (ha : PA X (e :: es) t) (hn : x ≠ "__name__" := by decide) (hdb : (x == ("__debug__" : Str)) = false := by decide)
    (he : starEach (e :: es) X.env = (false, eval e X.env) :: starEach es X.env := by rfl) (hpl : (backTo pos (starEach es X.env)).any (·.1) = false := by rfl) : PE X (.Call (.Name x p) (e :: es) [] pos) (tCB r t) := by
  intro pins s σ H Q I h
  refine wpAny_Call_Name_kw (ld_blt I hg hm hv ?_ hn hdb)
  exact PyProof.Rows.callWith_type1 (thn (ha pos pins s σ H _ I h) fun us s1 ⟨vs, H1, I1, r1, q1⟩ => hc pins s1 σ H1 vs us Q I1 r1 q1) he hpl
end
end L2

namespace HT
open PySem PyProof.Rows

def lexLt : List Int → List Int → Bool
  | [], [] => false
  | [], _ :: _ => true
  | _ :: _, [] => false
  | x :: xs, y :: ys => if x = y then lexLt xs ys else decide (x < y)
section
open PySem.SeqAt
open PySem.AutoSeq1 (wpAny_loadPart')
open PySem.MeetsSeq PySem.MeetsSeq2 PySem.MeetsSeq3

end

section
variable {prog : Program} {w : World} {A : Around} {E : Value → Shared → Prop} {s : Shared}

def sIx (n d : Nat) : Option Int → Nat
  | none => d
  | some v => if v < 0 then (v + (n : Int)).toNat else min v.toNat n
end
end HT

namespace L2
open PySem PySem.Spec PyProof.Rows

abbrev TO := St → Hp → (Option Int → Hp → Prop) → Prop
def PO (X : Cx) (e : Option Expr) (t : TO) : Prop :=
  ∀ (pins : List (Addr × Obj)) (s : Shared) (σ : St) (H : Hp) (Q : Option Int → Hp → Prop), Inv X pins σ H s → t σ H Q →
    wpAny (model X.prog X.w) X.A (evalPart e X.env) (fun u s' => ∃ o H', Inv X pins σ H' s' ∧ IsPart u o ∧ Q o H') X.xe s
def tNoPart : TO := fun _ H Q => Q none H
def tPart (t : TE) : TO := fun σ H Q => t σ H fun x H1 => ∃ i, x = .int i ∧ Q (some i) H1

theorem intsAre_of {ns : List Int} : ∀ {us : List Value}, Vals (ns.map V.int) us → IntsAre us ns := by
  induction ns with
  | nil => intro us r; rw [List.map_nil] at r; cases r; exact .nil
  | cons n ns ih =>
    intro us r
    rw [List.map_cons] at r
    cases r with
    | cons r1 r2 =>
      obtain ⟨t, e⟩ := r1
      subst e
      exact .cons n t (ih r2)

section
variable {X : Cx} {e : Expr} {te : TE} {lo hi : Option Expr} {tl th : TO} {pos p2 : Pos}

theorem po_none : PO X none tNoPart := by
  intro pins s σ H Q I h
  rw [evalPart_none]
  exact wpAny_pure ⟨none, H, I, .none, h⟩
theorem po_some (h : PE X e te) : PO X (some e) (tPart te) := by
  intro pins s σ H Q I hw
  rw [evalPart_some]
  refine thn (h pins s σ H _ I hw) fun u s1 ⟨x, H1, I1, r1, q1⟩ => ?_
  obtain ⟨i, rfl, q⟩ := q1
  obtain ⟨t, rfl⟩ := r1
  exact ⟨some i, H1, I1, .int i t, q⟩

def SlR (X : Cx) (r : V → Option Int → Option Int → Hp → VK → Prop) : Prop :=
  ∀ (pins : List (Addr × Obj)) (s : Shared) (σ : St) (H : Hp) (x : V) (v vl vu : Value) (lo hi : Option Int) (sl : Addr) (Q : VK), Inv X pins σ H s → RelV x v → s.heap.IsSliceOf sl vl vu .none → IsPart vl lo → IsPart vu hi → r x lo hi H Q →
    ∃ T id, typeLookup (.type T) "__getitem__" = pure (some (.builtin id)) ∧ s.TypeIs v T ∧ wpAny (model X.prog X.w) X.A (getItem v (.ref sl)) (EP X pins σ Q) X.xe s
def tSl (r : V → Option Int → Option Int → Hp → VK → Prop) (te : TE) (tl th : TO) : TE := fun σ H Q => te σ H fun x H1 => tl σ H1 fun l H2 => th σ H2 fun u H3 => r x l u H3 Q
theorem pe_slice {r : V → Option Int → Option Int → Hp → VK → Prop} (hr : SlR X r) (he : PE X e te) (hl : PO X lo tl) (hu : PO X hi th) : PE X (.Subscript e (.Slice lo hi none p2) pos) (tSl r te tl th) := by
  intro pins s σ H Q I h
  refine Subscript_ (thn (he pins s σ H _ I h) fun v s1 ⟨x, H1, I1, r1, q1⟩ => ?_)
  refine wpAny_Slice (thn (hl pins s1 σ H1 _ I1 q1) fun vl s2 ⟨l, H2, I2, pl, q2⟩ => thn (hu pins s2 σ H2 _ I2 q2) fun vu s3 ⟨u, H3, I3, pu, q3⟩ => ?_)
  rw [evalPart_none]
  refine wpAny_pure ?_
  have I4 : Inv X pins σ H3 { s3 with heap := s3.heap.push { cls := .type "slice", data := .fields #[vl, vu, .none] } } := I3.kept (t' := s3.toks) fun b ob q => Heap.get?_push_of_some _ q
  obtain ⟨T, id, hT, ht, hg⟩ := hr pins { s3 with heap := s3.heap.push { cls := .type "slice", data := .fields #[vl, vu, .none] } } σ H3 x v vl vu l u s3.heap.objs.size Q I4 r1 (Heap.IsSliceOf.new ..) pl pu q3
  show wpAny (model X.prog X.w) X.A (subscriptTail e (.Slice lo hi none p2) v (.ref s3.heap.objs.size)) (EP X pins σ Q) X.xe { s3 with heap := s3.heap.push { cls := .type "slice", data := .fields #[vl, vu, .none] } }
  exact tail_any (ops := [.ref s3.heap.objs.size, v]) ht hT hg (by with_unfolding_all rfl)

def cutV (xs : List V) (lo hi : Option Int) : List V := (xs.drop (HT.sIx xs.length 0 lo)).take (HT.sIx xs.length xs.length hi - HT.sIx xs.length 0 lo)
def rSlT (K : PySem.W.Frag) : V → Option Int → Option Int → Hp → VK → Prop := fun x lo hi H Q => ∃ a xs, x = .ref a ∧ SqT K H a xs ∧
  ¬ (HT.sIx xs.length 0 lo = 0 ∧ HT.sIx xs.length xs.length hi = xs.length) ∧ ∀ p, H p = none → Q (.ref p) (upd H p (.tup (cutV xs lo hi)))
def rLtT (K : PySem.W.Frag) : R2 := fun x y H Q => ∃ a b ns ms, x = .ref a ∧ y = .ref b ∧ SqT K H a (ns.map V.int) ∧ SqT K H b (ms.map V.int) ∧ Q (.bl (HT.lexLt ns ms)) H
def rCatT (K : PySem.W.Frag) : R2 := fun x y H Q => ∃ a b xs ys, x = .ref a ∧ y = .ref b ∧ SqT K H a xs ∧ SqT K H b ys ∧ xs ≠ [] ∧ xs.length + ys.length ≤ sizeLine ∧
  (ys = [] → Q (.ref a) H) ∧ (ys ≠ [] → ∀ p, H p = none → Q (.ref p) (upd H p (.tup (xs ++ ys))))
end
end L2

namespace L2
open PySem PySem.Spec PyProof.Rows

def ixN (n : Nat) (i : Int) : Option Nat := if 0 ≤ i then (if i < n then some i.toNat else none) else if -(n : Int) ≤ i then some (i + n).toNat else none
def atI {α : Type} (xs : List α) (i : Int) : Option α := (ixN xs.length i).bind fun j => xs[j]?
theorem ixN_seq {n : Nat} {i : Int} {j : Nat} (h : ixN n i = some j) : seqIndex? i n = some j ∧ j < n ∧ -(n : Int) ≤ i ∧ i < n := by
  unfold ixN at h
  by_cases h0 : 0 ≤ i
  · rw [if_pos h0] at h
    by_cases h1 : i < n
    · rw [if_pos h1] at h
      have e : i.toNat = j := Option.some.inj h
      exact ⟨by rw [seqIndex_of h0 h1, e], by omega, by omega, h1⟩
    · rw [if_neg h1] at h; cases h
  · rw [if_neg h0] at h
    by_cases h1 : -(n : Int) ≤ i
    · rw [if_pos h1] at h
      have e : (i + n).toNat = j := Option.some.inj h
      exact ⟨by rw [seqIndex_neg (by omega) h1, e], by omega, h1, by omega⟩
    · rw [if_neg h1] at h; cases h
theorem atI_get {α : Type} {xs : List α} {i : Int} {v : α} (h : atI xs i = some v) : ∃ j, seqIndex? i xs.length = some j ∧ xs[j]? = some v ∧ j < xs.length ∧ -(xs.length : Int) ≤ i ∧ i < xs.length := by
  unfold atI at h
  cases e : ixN xs.length i with
  | none => rw [e] at h; cases h
  | some j =>
    rw [e] at h
    obtain ⟨h1, h2, h3, h4⟩ := ixN_seq e
    exact ⟨j, h1, h, h2, h3, h4⟩
theorem atI_nat {α : Type} {xs : List α} {j : Nat} {v : α} (h : xs[j]? = some v) : atI xs (j : Int) = some v := by
  have hj : j < xs.length := (List.getElem?_eq_some_iff.mp h).1
  have e : ixN xs.length (j : Int) = some j := by
    unfold ixN
    rw [if_pos (by omega), if_pos (by omega)]; simp
  unfold atI; rw [e]; exact h
def PlainIx (b : Expr) : Prop := ∀ o i, subscripted b false o i = operate [o, i] (getItem o i)
def IxR (X : Cx) (r : R2) : Prop :=
  ∀ (value slice : Expr) (pins : List (Addr × Obj)) (s : Shared) (σ : St) (H : Hp) (x y : V) (v u : Value) (Q : VK), Inv X pins σ H s → RelV x v → RelV y u → r x y H Q →
    subscripted slice false v u = operate [v, u] (getItem v u) → wpAny (model X.prog X.w) X.A (subscriptTail value slice v u) (EP X pins σ Q) X.xe s
def MtR (X : Cx) (id : String) (r : V → List V → Hp → VK → Prop) : Prop :=
  ∀ (pins : List (Addr × Obj)) (s : Shared) (σ : St) (H : Hp) (x : V) (xs : List V) (v : Value) (us : List Value) (Q : VK), Inv X pins σ H s → RelV x v → Vals xs us → r x xs H Q →
    wpAny (model X.prog X.w) X.A (call (.builtin id) (v :: us)) (EP X pins σ Q) X.xe s
section
variable {X : Cx} {a b : Expr} {ta tb : TE} {pos : Pos}
theorem pe_ix {r : R2} (hr : IxR X r) (ha : PE X a ta) (hb : PE X b tb) (hs : PlainIx b) : PE X (.Subscript a b pos) (tOp r ta tb) := by
  intro pins s σ H Q I h
  exact Subscript_ (binT ha hb I h fun v u s2 x y H2 I2 rx ry q => hr a b pins s2 σ H2 x y v u Q I2 rx ry q (hs _ _))

def rIxL (K : PySem.W.Frag) : R2 := fun x y H Q => ∃ p xs i v, x = .ref p ∧ y = .int i ∧ SqL K H p xs ∧ atI xs i = some v ∧ Q v H
def rIxT (K : PySem.W.Frag) : R2 := fun x y H Q => ∃ p xs i v, x = .ref p ∧ y = .int i ∧ SqT K H p xs ∧ atI xs i = some v ∧ Q v H
def rIxS : R2 := fun x y H Q => ∃ z i c, x = .str z ∧ y = .int i ∧ z.length ≤ sizeLine ∧ atI z.cps.toList i = some c ∧ Q (.str ⟨#[c]⟩) H
theorem ix_list : IxR X (rIxL X.K) := by
  intro value slice pins s σ H x y v u Q I rx ry h hs
  obtain ⟨p, xs, i, z, rfl, rfl, hq, he, q⟩ := h
  cases rx
  obtain ⟨t, rfl⟩ := ry
  obtain ⟨its, r, pl, hz⟩ := I.list hq
  obtain ⟨j, h1, h2, h3, h4, h5⟩ := atI_get he
  obtain ⟨w, ew, rw'⟩ := r.get h2
  have hl := r.length
  have hn := line63
  have fin : EP X pins σ Q w s := ⟨z, H, I, rw', q⟩
  by_cases h0 : 0 ≤ i
  · have hj : i.toNat = j := by
      rw [seqIndex_of h0 h5] at h1
      exact Option.some.inj h1
    exact item_listR pl.isList h0 (by omega) (by rw [hj]; simpa using ew) fin hs
  · have hj : (i + (its.toArray.size : Int)).toNat = j := by
      rw [seqIndex_neg (by omega) h4] at h1
      rw [List.size_toArray, ← hl]
      exact Option.some.inj h1
    exact subscriptTail_builtinR (x := w) pl.isList.typeIs slot_list_getitem.lookup
      (wpAny_getItem_list_neg (Q := fun r s' => r = w ∧ EP X pins σ Q r s') pl.isList (by omega) (by rw [List.size_toArray] <;> omega) (by omega) (by rw [hj]; simpa using ew) ⟨rfl, fin⟩) hs
theorem ix_tup : IxR X (rIxT X.K) := by
  intro value slice pins s σ H x y v u Q I rx ry h hs
  obtain ⟨p, xs, i, z, rfl, rfl, hq, he, q⟩ := h
  cases rx
  obtain ⟨t, rfl⟩ := ry
  obtain ⟨its, r, pl, hz⟩ := I.tuple hq
  obtain ⟨j, h1, h2, h3, h4, h5⟩ := atI_get he
  obtain ⟨w, ew, rw'⟩ := r.get h2
  have hl := r.length
  have hn := line63
  have fin : EP X pins σ Q w s := ⟨z, H, I, rw', q⟩
  exact subscriptTail_builtinR (x := w) pl.typeIs slot_tuple_getitem.lookup
    (getItem_tuple (j := j) (Q := fun r s' => r = w ∧ EP X pins σ Q r s') pl (by omega) (by omega) (by rw [List.size_toArray, ← hl]; exact h1) (by simpa using ew) ⟨rfl, fin⟩) hs
theorem ix_str : IxR X rIxS := by
  intro value slice pins s σ H x y v u Q I rx ry h hs
  obtain ⟨z, i, c, rfl, rfl, hz, he, q⟩ := h
  obtain ⟨t, rfl⟩ := rx
  obtain ⟨t', rfl⟩ := ry
  obtain ⟨j, h1, h2, h3, h4, h5⟩ := atI_get he
  have hl : z.cps.toList.length = z.length := by simp [Str.length]
  rw [hl] at h1 h4 h5
  have hn := line63
  exact tail_any (typeIs_str s z t) slot_str_getitem.lookup (getItem_str (c := c) (by
    have e1 : decide (i < -(2 ^ 63 : Int)) = false := decide_eq_false (by omega)
    have e2 : decide (i ≥ 2 ^ 63) = false := decide_eq_false (by omega)
    rw [e1, e2, Bool.or_false]) (by rw [h1]; simpa using h2) ⟨.str ⟨#[c]⟩, H, I.tok _, ⟨_, rfl⟩, q⟩) hs
def rIx (K : PySem.W.Frag) : R2 := fun x y H Q => rIxL K x y H Q ∨ rIxT K x y H Q ∨ rIxS x y H Q
theorem mapSeq_set (its : List Value) (n j : Nat) (u : Value) : Obj.mapSeq (·.setIfInBounds j u) { cls := .type "list", data := .seq its.toArray n } = { cls := .type "list", data := .seq (its.set j u).toArray n } := by
  simp [Obj.mapSeq]
theorem Inv.lst {pins : List (Addr × Obj)} {σ : St} {H : Hp} {s : Shared} {p : Addr} {xs : List V} (I : Inv X pins σ H s) (h : H p = some (.lst xs)) :
    ∃ (its : List Value) (n : Nat), Vals xs its ∧ s.heap.get? p = some { cls := .type "list", data := .seq its.toArray n } ∧ xs.length ≤ sizeLine := by
  obtain ⟨z, its, n, r, e⟩ := I.hok p _ h
  exact ⟨its, n, r, e, z⟩
theorem Inv.lstUpd {pins : List (Addr × Obj)} {σ : St} {H : Hp} {s : Shared} {p : Addr} {xs ys : List V} {its its' : List Value} {n n' : Nat} {f : Obj → Obj} (I : Inv X pins σ H s) (h : H p = some (.lst xs))
    (ho : s.heap.get? p = some { cls := .type "list", data := .seq its.toArray n }) (hf : f { cls := .type "list", data := .seq its.toArray n } = { cls := .type "list", data := .seq its'.toArray n' }) (r : Vals ys its') (hz : ys.length ≤ sizeLine) (t : Nat) :
    Inv X pins σ (upd H p (.lst ys)) { s with heap := s.heap.update p f, toks := t } := by
  have e : (s.heap.update p f).get? p = some { cls := .type "list", data := .seq its'.toArray n' } := by
    rw [Heap.get?_update_self f ho (by rw [hf] <;> rfl), hf]
  refine I.write (x := p) (e := p) (by rw [h]; trivial) (.inl rfl) (fun b u hb q => (Heap.get?_update_other _ _ (Ne.symm hb)).trans q) ⟨_, e⟩ ?_
  exact ⟨hz, its', n', r, e⟩
def rSetL : V → V → V → Hp → (Hp → Prop) → Prop := fun o i v H Q => ∃ p xs k j, o = .ref p ∧ i = .int k ∧ H p = some (.lst xs) ∧ ixN xs.length k = some j ∧ Q (upd H p (.lst (xs.set j v)))
theorem set_list : PSet X rSetL := by
  intro pins s σ H o i v ov iv u Q I ro ri rv h
  obtain ⟨p, xs, k, j, rfl, rfl, hp, hj, q⟩ := h
  cases ro
  obtain ⟨t, rfl⟩ := ri
  obtain ⟨its, n, r, ho, hz⟩ := I.lst hp
  obtain ⟨h1, h2, h3, h4⟩ := ixN_seq hj
  have hl := r.length
  have hn := line63
  have I' : Inv X pins σ (upd H p (.lst (xs.set j v))) { s with heap := s.heap.update p (Obj.mapSeq (·.setIfInBounds j u)) } :=
    I.lstUpd hp ho (mapSeq_set its n j u) (r.set rv j) (by rw [List.length_set]; exact hz) s.toks
  by_cases h0 : 0 ≤ k
  · have hk : k.toNat = j := by
      rw [seqIndex_of h0 h4] at h1
      exact Option.some.inj h1
    exact PySem.W.ki_setAt ho h0 (by omega) (by rw [List.size_toArray, ← hl]; exact h4) (by rw [hk]; exact ⟨_, I', q⟩)
  · have hk : (k + (its.toArray.size : Int)).toNat = j := by
      rw [seqIndex_neg (by omega) h3] at h1
      rw [List.size_toArray, ← hl]
      exact Option.some.inj h1
    exact PySem.W.ki_setBack ho (by omega) (by rw [List.size_toArray, ← hl]; exact h3) (by omega) (by rw [hk]; exact ⟨_, I', q⟩)

def rSlL (K : PySem.W.Frag) : V → Option Int → Option Int → Hp → VK → Prop := fun x lo hi H Q => ∃ a xs, x = .ref a ∧ SqL K H a xs ∧ ∀ p, H p = none → Q (.ref p) (upd H p (.lst (cutV xs lo hi)))
def flatV : V → Bool
  | .non => true
  | .bl _ => true
  | .int _ => true
  | .str _ => true
  | _ => false
def eqV : V → V → Bool
  | .non, .non => true
  | .bl a, .bl b => a == b
  | .bl a, .int b => (if a then 1 else 0) == b
  | .int a, .bl b => a == (if b then 1 else 0)
  | .int a, .int b => a == b
  | .str a, .str b => a == b
  | _, _ => false
theorem eqAt_V {A : Around} {s : Shared} {y x : V} {u v : Value} (ry : RelV y u) (rx : RelV x v) (fy : flatV y = true) (fx : flatV x = true) : SeqAt.EqAt A s u v (eqV y x) := by
  cases y with
  | non =>
    cases ry
    cases x with
    | non => cases rx; exact SeqAt.EqAt.same _
    | bl b => cases rx; exact SeqAt.EqAt.none_bool b
    | int b => obtain ⟨t, rfl⟩ := rx; exact SeqAt.EqAt.none_int b t
    | str b => obtain ⟨t, rfl⟩ := rx; exact SeqAt.EqAt.none_str b t
    | _ => exact absurd (show false = true from fx) Bool.false_ne_true
  | bl a =>
    cases ry
    cases x with
    | non => cases rx; exact SeqAt.EqAt.bool_none a
    | bl b => cases rx; exact SeqAt.EqAt.bool_bool a b
    | int b => obtain ⟨t, rfl⟩ := rx; exact SeqAt.EqAt.bool_int a b t
    | str b => obtain ⟨t, rfl⟩ := rx; exact SeqAt.EqAt.bool_str a b t
    | _ => exact absurd (show false = true from fx) Bool.false_ne_true
  | int a =>
    obtain ⟨t', rfl⟩ := ry
    cases x with
    | non => cases rx; exact SeqAt.EqAt.int_none a t'
    | bl b => cases rx; exact SeqAt.EqAt.int_bool a t' b
    | int b => obtain ⟨t, rfl⟩ := rx; exact SeqAt.EqAt.int_int a t' b t
    | str b => obtain ⟨t, rfl⟩ := rx; exact SeqAt.EqAt.int_str a t' b t
    | _ => exact absurd (show false = true from fx) Bool.false_ne_true
  | str a =>
    obtain ⟨t', rfl⟩ := ry
    cases x with
    | non => cases rx; exact SeqAt.EqAt.str_none a t'
    | bl b => cases rx; exact SeqAt.EqAt.str_bool a t' b
    | int b => obtain ⟨t, rfl⟩ := rx; exact SeqAt.EqAt.str_int a t' b t
    | str b => obtain ⟨t, rfl⟩ := rx; exact SeqAt.EqAt.str_str a t' b t
    | _ => exact absurd (show false = true from fx) Bool.false_ne_true
  | _ => exact absurd (show false = true from fy) Bool.false_ne_true
def eqU (x : V) (u : Value) : Bool := match u with
  | .none => eqV .non x
  | .bool b => eqV (.bl b) x
  | .int i _ => eqV (.int i) x
  | .str z _ => eqV (.str z) x
  | _ => false
theorem eqU_of {x y : V} {u : Value} (r : RelV y u) (f : flatV y = true) : eqU x u = eqV y x := by
  cases y with
  | non => cases r; rfl
  | bl b => cases r; rfl
  | int i => obtain ⟨t, rfl⟩ := r; rfl
  | str z => obtain ⟨t, rfl⟩ := r; rfl
  | _ => exact absurd (show false = true from f) Bool.false_ne_true
theorem any_eqU {x : V} : ∀ {xs : List V} {us : List Value}, Vals xs us → xs.all flatV = true → us.any (eqU x) = xs.any fun y => eqV y x
  | _, _, .nil, _ => rfl
  | y :: xs, u :: us, .cons r t, f => by
    rw [List.all_cons, Bool.and_eq_true] at f
    rw [List.any_cons, List.any_cons, eqU_of r f.1, any_eqU t f.2]
theorem mem_eqAt {A : Around} {s : Shared} {x : V} {v : Value} (rx : RelV x v) (fx : flatV x = true) : ∀ {xs : List V} {us : List Value}, Vals xs us → xs.all flatV = true → ∀ u ∈ us, SeqAt.EqAt A s u v (eqU x u)
  | _, _, .nil, _ => fun u hu => by cases hu
  | y :: xs, u :: us, .cons r t, f => fun u' hu => by
    rw [List.all_cons, Bool.and_eq_true] at f
    rcases List.mem_cons.mp hu with rfl | hu
    · rw [eqU_of r f.1]; exact eqAt_V r rx f.1 fx
    · exact mem_eqAt rx fx t f.2 u' hu
def inV (x : V) (xs : List V) : Bool := xs.any fun y => eqV y x
def rIn (K : PySem.W.Frag) (neg : Bool) : R2 := fun x y H Q => ∃ p xs, y = .ref p ∧ (SqL K H p xs ∨ SqT K H p xs) ∧ flatV x = true ∧ xs.all flatV = true ∧ Q (.bl (if neg then !inV x xs else inV x xs)) H
theorem op_in_seq : OpR X (compareOp .In) (rIn X.K false) := by
  intro pins s σ H x y v u Q I rx ry h
  obtain ⟨p, xs, rfl, hq, fx, fs, q⟩ := h
  cases ry
  rcases hq with hq | hq
  · obtain ⟨its, r, pl, hz⟩ := I.list hq
    refine SeqAt.in_listAt (eqU x) pl.isList (fun w hw => mem_eqAt rx fx r fs w (by simpa using hw)) ⟨.bl _, H, I, rfl, ?_⟩
    rw [show its.toArray.any (eqU x) = its.any (eqU x) by simp, any_eqU r fs]
    exact q
  · obtain ⟨its, r, pl, hz⟩ := I.tuple hq
    refine SeqAt.in_tupleAt (eqU x) pl (fun w hw => mem_eqAt rx fx r fs w (by simpa using hw)) ⟨.bl _, H, I, rfl, ?_⟩
    rw [show its.toArray.any (eqU x) = its.any (eqU x) by simp, any_eqU r fs]
    exact q
theorem call_len_seq : CallR X (.builtin "len") (fun xs H Q => ∃ p ys, xs = [.ref p] ∧ (SqL X.K H p ys ∨ SqT X.K H p ys) ∧ Q (.int ys.length) H) := by
  intro pins s σ H xs us Q I r h
  obtain ⟨p, ys, rfl, hq, q⟩ := h
  obtain ⟨u, rfl, rx⟩ := vals1 r
  cases rx
  have hn := line63
  rcases hq with hq | hq
  · obtain ⟨its, r', pl, hz⟩ := I.list hq
    have hlen := r'.length
    exact Calls.call_len_list pl.isList (by simp only [List.size_toArray] <;> omega) ⟨.int ys.length, H, I.tok _, ⟨s.toks + 1, by rw [List.size_toArray, hlen]⟩, q⟩
  · obtain ⟨its, r', pl, hz⟩ := I.tuple hq
    have hlen := r'.length
    exact len_tuple pl (by simp only [List.size_toArray] <;> omega) ⟨.int ys.length, H, I.tok _, ⟨s.toks + 1, by rw [List.size_toArray, hlen]⟩, q⟩
def tyV (K : PySem.W.Frag) (T : String) (x : V) (H : Hp) : Prop := match x with
  | .str _ => T = "str"
  | .int _ => T = "int"
  | .ref p => (T = "list" ∧ ∃ xs, SqL K H p xs) ∨ (T = "tuple" ∧ ∃ o, K.lookup p = some o ∧ o.cls = .type "tuple" ∧ o.dict = none) ∨
      (T = "dict" ∧ ((∃ kvs, H p = some (.dK kvs)) ∨ ∃ kvs, H p = some (.dT kvs))) ∨ (T = "set" ∧ ∃ S n, H p = some (.set S n))
  | _ => False
theorem tyV_is {pins : List (Addr × Obj)} {σ : St} {H : Hp} {s : Shared} {T : String} {x : V} {v : Value} (I : Inv X pins σ H s) (r : RelV x v) (ty : tyV X.K T x H) :
    s.TypeIs v T ∧ ∀ a, v = .ref a → ∃ ob, s.heap.get? a = some ob ∧ ob.dict = none := by
  cases x with
  | str z =>
    obtain ⟨t, rfl⟩ := r
    cases (show T = "str" from ty)
    exact ⟨typeIs_str s z t, fun _ e => nomatch e⟩
  | int i =>
    obtain ⟨t, rfl⟩ := r
    cases (show T = "int" from ty)
    exact ⟨typeIs_int s i t, fun _ e => nomatch e⟩
  | ref p =>
    cases r
    rcases ty with ⟨rfl, xs, hq⟩ | ⟨rfl, o, hk, hc, hd⟩ | ⟨rfl, hk⟩ | ⟨rfl, S, n, hk⟩
    · obtain ⟨its, _, pl, _⟩ := I.list hq
      refine ⟨pl.isList.typeIs, fun a e => ?_⟩
      cases e
      obtain ⟨o, n, e, c, hd, _⟩ := pl
      exact ⟨o, e, hd⟩
    · refine ⟨⟨o, I.kIn p o hk, hc⟩, fun a e => ?_⟩
      cases e
      exact ⟨o, I.kIn _ o hk, hd⟩
    · have z : ∃ o, s.heap.get? p = some o ∧ o.ExactDict := by
        rcases hk with ⟨kvs, hk⟩ | ⟨kvs, hk⟩
        · obtain ⟨_, _, _, _, o, _, _, e, ex, _⟩ := I.hok p _ hk
          exact ⟨o, e, ex⟩
        · obtain ⟨_, _, _, _, o, _, _, e, ex, _⟩ := I.hok p _ hk
          exact ⟨o, e, ex⟩
      obtain ⟨o, e, ex⟩ := z
      refine ⟨⟨o, e, ex.1⟩, fun a e2 => ?_⟩
      cases e2
      exact ⟨o, e, ex.2.1⟩
    · obtain ⟨o, _, _, _, e, ex, _⟩ := I.hok p _ hk
      refine ⟨⟨o, e, ex.1⟩, fun a e2 => ?_⟩
      cases e2
      exact ⟨o, e, ex.2.1⟩
  | _ => exact False.elim ty
def tBM0 (K : PySem.W.Frag) (T : String) (r : V → List V → Hp → VK → Prop) (to : TE) : TE := fun σ H Q => to σ H fun x H1 => tyV K T x H1 ∧ r x [] H1 Q
def tBM (K : PySem.W.Frag) (T : String) (r : V → List V → Hp → VK → Prop) (to : TE) (t : TA) : TE := fun σ H Q => to σ H fun x H1 => tyV K T x H1 ∧ t σ H1 fun xs H2 => r x xs H2 Q
variable {o e : Expr} {es : List Expr} {to : TE} {t : TA} {name : Str} {apos cpos : Pos} {T id : String} {r : V → List V → Hp → VK → Prop}
theorem pe_bm0 (pa : PlainAttrs T) (slot : Slot T name id) (hty : typeOf (.builtin id) = pure (.type "method_descriptor")) (hm : MtR X id r) (ho : PE X o to)
    (hbase : attributeBase o name X.env (eval o X.env) = eval o X.env := by rfl) (hline : (apos.endLine == cpos.line) = true := by rfl) : PE X (.Call (.Attribute o name apos) [] [] cpos) (tBM0 X.K T r to) := by
  intro pins s σ H Q I h
  refine wpAny_Call_method0_late hbase hline (thn (ho pins s σ H _ I h) fun v s1 ⟨x, H1, I1, r1, ty, q1⟩ => ?_)
  obtain ⟨h1, h2⟩ := tyV_is I1 r1 ty
  exact ⟨T, id, pa, slot, hty, h1, h2, Calls.callWith_builtin rfl (PySem.evalArgs_none (hm pins s1 σ H1 x [] v [] Q I1 r1 .nil q1))⟩
theorem pe_bm (pa : PlainAttrs T) (slot : Slot T name id) (hty : typeOf (.builtin id) = pure (.type "method_descriptor")) (hm : MtR X id r) (ho : PE X o to) (ha : PA X (e :: es) t)
    (hbase : attributeBase o name X.env (eval o X.env) = eval o X.env := by rfl)
    (hfew : ((backTo cpos (starEach (e :: es) X.env)).all (fun x => !x.1) && (backToKw cpos (keywordEach [] X.env)).all (fun x => x.1.isSome)
      && decide ((e :: es).length + ([] : List Keyword).length + (if ([] : List Keyword).isEmpty then 0 else 1) < 30)) = true := by rfl)
    (hline : (apos.endLine == cpos.line) = true := by rfl) (hs : starEach (e :: es) X.env = (false, eval e X.env) :: starEach es X.env := by rfl) (hplain : (backTo cpos (starEach es X.env)).any (·.1) = false := by rfl) :
    PE X (.Call (.Attribute o name apos) (e :: es) [] cpos) (tBM X.K T r to t) := by
  intro pins s σ H Q I h
  refine wpAny_Call_method_late hbase hfew hline rfl (thn (ho pins s σ H _ I h) fun v s1 ⟨x, H1, I1, r1, ty, q1⟩ => ?_)
  obtain ⟨h1, h2⟩ := tyV_is I1 r1 ty
  refine ⟨T, id, pa, slot, hty, h1, h2, ?_⟩
  have hA := ha cpos pins s1 σ H1 _ I1 q1
  rw [hs] at hA ⊢
  refine Calls.callWith_builtin (by show (false || (backTo cpos (starEach es X.env)).any (·.1)) = false; rw [hplain] <;> rfl) (Calls.evalArgs_plain ?_)
  exact thn hA fun us s2 ⟨vs, H2, I2, r2, q2⟩ => hm pins s2 σ H2 x vs v us Q I2 r1 r2 q2
end
end L2

namespace L2
open PySem PySem.Spec PyProof.Rows

def MtM (X : Cx) (id : String) (r : V → List V → Hp → VK → Prop) : Prop :=
  ∀ (pins : List (Addr × Obj)) (s : Shared) (σ : St) (H : Hp) (x : V) (xs : List V) (v : Value) (us : List Value) (Q : VK), Inv X pins σ H s → RelV x v → Vals xs us → r x xs H Q →
    wpAny (model X.prog X.w) X.A (call (.builtin id) (v :: us)) (EP X pins σ Q) X.xe s

theorem Vals.one : ∀ {x : V} {us : List Value}, Vals [x] us → ∃ u, us = [u] ∧ RelV x u
  | _, _, .cons r .nil => ⟨_, rfl, r⟩
theorem Vals.two : ∀ {x y : V} {us : List Value}, Vals [x, y] us → ∃ u v, us = [u, v] ∧ RelV x u ∧ RelV y v
  | _, _, _, .cons r (.cons q .nil) => ⟨_, _, rfl, r, q⟩
theorem Vals.zero : ∀ {us : List Value}, Vals [] us → us = []
  | _, .nil => rfl
theorem Vals.dropLast {xs : List V} {us : List Value} (h : Vals xs us) : Vals xs.dropLast us.dropLast := by
  induction h with
  | nil => exact .nil
  | cons r t ih =>
    cases t with
    | nil => exact .nil
    | cons q t' => exact .cons r ih
theorem Vals.reverse {xs : List V} {us : List Value} (h : Vals xs us) : Vals xs.reverse us.reverse := by
  induction h with
  | nil => exact .nil
  | cons r t ih => rw [List.reverse_cons, List.reverse_cons]; exact Vals.append ih (.cons r .nil)
theorem Vals.rep {xs : List V} {us : List Value} (h : Vals xs us) : ∀ k : Nat, Vals (List.replicate k xs).flatten (List.replicate k us).flatten
  | 0 => .nil
  | k + 1 => by
    rw [List.replicate_succ, List.replicate_succ, List.flatten_cons, List.flatten_cons]
    exact Vals.append h (Vals.rep h k)
theorem erase_last {α : Type} (l : List α) : l.eraseIdx (l.length - 1) = l.dropLast := by
  induction l with
  | nil => rfl
  | cons a r ih =>
    cases r with
    | nil => rfl
    | cons b r =>
      have e : (a :: b :: r).length - 1 = ((b :: r).length - 1) + 1 := by
        have h1 : (a :: b :: r).length = r.length + 2 := rfl
        have h2 : (b :: r).length = r.length + 1 := rfl
        omega
      rw [e, List.eraseIdx_cons_succ, ih]
      all_goals rfl
theorem foldl_rep (its : List Value) : ∀ (k : Nat) (acc : List Value),
    List.foldl (fun x1 x2 => x1 ++ x2) acc.toArray (List.replicate k its.toArray) = (acc ++ (List.replicate k its).flatten).toArray
  | 0, acc => by simp
  | k + 1, acc => by
    have e : acc.toArray ++ its.toArray = (acc ++ its).toArray := by simp
    have e2 : (acc ++ its) ++ (List.replicate k its).flatten = acc ++ (List.replicate (k + 1) its).flatten := by
      rw [List.replicate_succ, List.flatten_cons, List.append_assoc]
    rw [← e2, ← foldl_rep its k (acc ++ its), ← e, List.replicate_succ, List.foldl_cons]

section
variable {X : Cx} {pins : List (Addr × Obj)} {σ : St} {H : Hp} {s : Shared} {l b : Addr} {xs ys zs : List V}

theorem Inv.lset {its its' : List Value} {n : Nat} {f : Array Value → Array Value} {t' : Nat} (I : Inv X pins σ H s) (hH : H l = some (.lst xs))
    (e : s.heap.get? l = some { cls := .type "list", data := .seq its.toArray n }) (hf : f its.toArray = its'.toArray) (hv : Vals ys its') (hz : ys.length ≤ sizeLine) :
    Inv X pins σ (upd H l (.lst ys)) { s with heap := s.heap.update l (Obj.mapSeq f), toks := t' } := by
  have q := PySem.IsL.update e f
  rw [hf] at q
  refine I.write (x := l) (e := l) (by rw [hH]; exact trivial) (.inl rfl) (fun b' u hb hu => (Heap.get?_update_other s.heap (Obj.mapSeq f) (Ne.symm hb)).trans hu) ⟨_, q⟩ ?_
  exact ⟨hz, its', _, hv, q⟩
theorem Inv.lnew {its : List Value} {t' : Nat} (I : Inv X pins σ H s) (hv : Vals ys its) (hz : ys.length ≤ sizeLine) :
    Inv X pins σ (upd H s.heap.objs.size (.lst ys)) { s with heap := s.heap.push { cls := .type "list", data := .seq its.toArray }, toks := t' } :=
  I.laid (fun _ _ q => Heap.get?_push_of_some _ q) (Nat.le_refl _) ⟨hz, its, 0, hv, Heap.get?_push_size _ rfl⟩
theorem Inv.fresh (I : Inv X pins σ H s) : H s.heap.objs.size = none := I.hok.fresh (Nat.le_refl _)
theorem Inv.lstM (I : Inv X pins σ H s) (hH : H l = some (.lst xs)) : xs.length ≤ sizeLine ∧ ∃ (its : List Value) (n : Nat), Vals xs its ∧ xs.length = its.length ∧ s.heap.get? l = some { cls := .type "list", data := .seq its.toArray n } := by
  obtain ⟨z, its, n, r, e⟩ := I.hok l _ hH
  exact ⟨z, its, n, r, r.length, e⟩

theorem notLongL {n : Nat} (h : n ≤ sizeLine) : Builtin.List.listTooLong n = false := by
  unfold Builtin.List.listTooLong
  exact decide_eq_false (by omega)
end

section
variable {X : Cx}

def rAppend : V → List V → Hp → VK → Prop := fun x vs H Q => ∃ l xs y, x = .ref l ∧ vs = [y] ∧ H l = some (.lst xs) ∧ xs.length < sizeLine ∧ Q .non (upd H l (.lst (xs ++ [y])))
theorem mt_append : MtM X "list.append" rAppend := by
  intro pins s σ H x vs v us Q I rx rv h
  obtain ⟨l, xs, y, rfl, rfl, hH, hz, q⟩ := h
  cases rx
  obtain ⟨u, rfl, ru⟩ := rv.one
  obtain ⟨z, its, n, r, hl, e⟩ := I.lstM hH
  refine call_meets F.slot_list_append ⟨_, e, rfl⟩ F.entry_list_append (F.args_list_append_2 _ _) (PySem.list_append l its.toArray n u (by rw [List.size_toArray]; omega)) ⟨e, ?_⟩
  refine ⟨.non, _, I.lset (its' := its ++ [u]) hH e (by simp) (r.append (.cons ru .nil)) ?_, rfl, q⟩
  rw [List.length_append, List.length_singleton]
  omega

def rExtend : V → List V → Hp → VK → Prop := fun x vs H Q => ∃ l b xs zs, x = .ref l ∧ vs = [.ref b] ∧ H l = some (.lst xs) ∧ H b = some (.lst zs) ∧ xs.length + zs.length ≤ sizeLine ∧ Q .non (upd H l (.lst (xs ++ zs)))
theorem mt_extend : MtM X "list.extend" rExtend := by
  intro pins s σ H x vs v us Q I rx rv h
  obtain ⟨l, b, xs, zs, rfl, rfl, hH, hB, hz, q⟩ := h
  cases rx
  obtain ⟨u, rfl, ru⟩ := rv.one
  cases ru
  obtain ⟨z, its, n, r, hl, e⟩ := I.lstM hH
  obtain ⟨z2, its2, n2, r2, hl2, e2⟩ := I.lstM hB
  have hsz : its.toArray.size + its2.toArray.size ≤ sizeLine := by rw [List.size_toArray, List.size_toArray]; omega
  have hlong : ¬ (!its.toArray.isEmpty && Builtin.List.listTooLong (its.toArray.size + its2.toArray.size)) = true := by
    rw [notLongL hsz, Bool.and_false]
    exact Bool.false_ne_true
  refine call_meets F.slot_list_extend ⟨_, e, rfl⟩ F.entry_list_extend (F.args_list_extend_2 _ _)
    (AutoSeq1.list_extend_list_list_0 l its.toArray n b its2.toArray n2 hlong (by rw [List.size_toArray]; omega) (by omega)) ⟨e, e2, ?_⟩
  refine ⟨.non, _, I.lset (its' := its ++ its2) hH e (by simp) (r.append r2) ?_, rfl, q⟩
  rw [List.length_append]
  omega

def rPop : V → List V → Hp → VK → Prop := fun x vs H Q => ∃ l xs y, x = .ref l ∧ vs = [] ∧ H l = some (.lst xs) ∧ xs[xs.length - 1]? = some y ∧ Q y (upd H l (.lst xs.dropLast))
theorem mt_pop : MtM X "list.pop" rPop := by
  intro pins s σ H x vs v us Q I rx rv h
  obtain ⟨l, xs, y, rfl, rfl, hH, hy, q⟩ := h
  cases rx
  have hus := rv.zero
  subst hus
  obtain ⟨z, its, n, r, hl, e⟩ := I.lstM hH
  obtain ⟨u, hu, ru⟩ := r.get hy
  have hy' : its.toArray[its.toArray.size - 1]? = some u := by
    show its.toArray[its.length - 1]? = some u
    rw [← Array.getElem?_toList, ← hl]
    exact hu
  refine call_meets F.slot_list_pop ⟨_, e, rfl⟩ F.entry_list_pop (F.args_list_pop_1 _) (MeetsSeq.list_pop_last l its.toArray n u hy' (by rw [List.size_toArray]; omega)) ⟨e, ?_⟩
  refine ⟨y, _, I.lset (its' := its.dropLast) hH e ?_ r.dropLast ?_, ru, q⟩
  · show its.toArray.eraseIdxIfInBounds (its.toArray.size - 1) = its.dropLast.toArray
    rw [List.size_toArray, List.eraseIdxIfInBounds_toArray, erase_last]
  · rw [List.length_dropLast]
    omega

def rPopAt : V → List V → Hp → VK → Prop := fun x vs H Q => ∃ l xs i k y, x = .ref l ∧ vs = [.int i] ∧ H l = some (.lst xs) ∧ -(2 ^ 63) ≤ i ∧ i < 2 ^ 63 ∧ seqIndex? i xs.length = some k ∧ xs[k]? = some y ∧ Q y (upd H l (.lst (xs.eraseIdx k)))
def rReverse : V → List V → Hp → VK → Prop := fun x vs H Q => ∃ l xs, x = .ref l ∧ vs = [] ∧ H l = some (.lst xs) ∧ Q .non (upd H l (.lst xs.reverse))
def rClear : V → List V → Hp → VK → Prop := fun x vs H Q => ∃ l xs, x = .ref l ∧ vs = [] ∧ H l = some (.lst xs) ∧ Q .non (upd H l (.lst []))
def rCat : R2 := fun x y H Q => ∃ l b xs zs, x = .ref l ∧ y = .ref b ∧ H l = some (.lst xs) ∧ H b = some (.lst zs) ∧ xs.length + zs.length ≤ sizeLine ∧ ∀ p, H p = none → Q (.ref p) (upd H p (.lst (xs ++ zs)))
theorem op_cat : OpR X (binaryOp .Add) rCat := by
  intro pins s σ H x y v u Q I rx ry h
  obtain ⟨l, b, xs, zs, rfl, rfl, hH, hB, hz, q⟩ := h
  cases rx
  cases ry
  obtain ⟨z, its, n, r, hl, e⟩ := I.lstM hH
  obtain ⟨z2, its2, n2, r2, hl2, e2⟩ := I.lstM hB
  refine PySem.P.add_list e e2 ?_ (by rw [List.size_toArray, List.size_toArray]; omega)
  have ea : its.toArray ++ its2.toArray = (its ++ its2).toArray := by simp
  rw [ea]
  exact ⟨.ref _, _, I.lnew (t' := s.toks) (r.append r2) (by rw [List.length_append]; omega), rfl, q _ I.fresh⟩
def rRep : R2 := fun x y H Q => ∃ l k xs, x = .ref l ∧ y = .int k ∧ H l = some (.lst xs) ∧ -(2 ^ 63) ≤ k ∧ k < 2 ^ 63 ∧ xs.length * k.toNat ≤ sizeLine ∧
  ∀ p, H p = none → Q (.ref p) (upd H p (.lst (List.replicate k.toNat xs).flatten))
theorem len_rep {α : Type} (xs : List α) (k : Nat) : (List.replicate k xs).flatten.length = k * xs.length := by
  induction k with
  | zero => simp
  | succ k ih => rw [List.replicate_succ, List.flatten_cons, List.length_append, ih, Nat.succ_mul, Nat.add_comm]
theorem op_rep : OpR X (binaryOp .Mult) rRep := by
  intro pins s σ H x y v u Q I rx ry h
  obtain ⟨l, k, xs, rfl, rfl, hH, h1, h2, hz, q⟩ := h
  cases rx
  obtain ⟨t, rfl⟩ := ry
  obtain ⟨z, its, n, r, hl, e⟩ := I.lstM hH
  have hlen : its.toArray.size * k.toNat ≤ sizeLine := by rw [List.size_toArray, ← hl]; exact hz
  have hcap : ¬ its.toArray.size * k.toNat > (2 ^ 63 - 1) / 8 := by
    have : (sizeLine : Nat) ≤ (2 ^ 63 - 1) / 8 := by decide
    omega
  have hfit : ¬ (!Builtin.List.listFitsIndex k) = true := by
    rw [fitsIndex_both h1 h2]
    exact Bool.false_ne_true
  have hlong : ¬ Builtin.List.listTooLong (its.toArray.size * k.toNat) = true := by
    rw [notLongL hlen]
    exact Bool.false_ne_true
  have hnew : List.foldl (fun x1 x2 => x1 ++ x2) #[] (List.replicate (if its.toArray.isEmpty = true then 0 else k.toNat) its.toArray) = (List.replicate k.toNat its).flatten.toArray := by
    have f0 : ∀ m : Nat, List.foldl (fun x1 x2 => x1 ++ x2) #[] (List.replicate m its.toArray) = (List.replicate m its).flatten.toArray := fun m => by
      have := foldl_rep its m []
      rw [List.nil_append] at this
      exact this
    rw [f0]
    cases its with
    | nil => simp
    | cons a r' => rw [if_neg (by simp)]
  refine wpAny_binaryOp_repeat_ref (T := "list") (U := "int") (by decide) ⟨_, e, rfl⟩ (fun s' => typeIs_int s' k t) noFill_list_mul F.fills_int_mul F.slot_int_rmul repeat_list F.slot_int_index.lookup
    (call_meets F.slot_int_rmul (typeIs_int s k t) F.entry_int_rmul (F.args_int_rmul_2 _ _) (int___rmul___int_list k t l its.toArray n)
      ⟨e, rfl, ⟨_, e, rfl⟩, call_meets F.slot_list_mul ⟨_, e, rfl⟩ F.entry_list_mul (F.args_list_mul_2 _ _) (AutoListH.list___mul___list_int_3 l its.toArray n k t hfit hcap hlong) ⟨e, ?_⟩⟩)
  rw [hnew]
  exact ⟨.ref _, _, I.lnew (t' := s.toks) (r.rep k.toNat) (by rw [len_rep, Nat.mul_comm]; exact hz), rfl, q _ I.fresh⟩

end

section
variable {prog : Program} {w : World} {A : Around} {E : Value → Shared → Prop} {s : Shared}
end

section
variable {X : Cx}
end
end L2

namespace Att
open PySem PySem.W PySem.Calls PyProof.Rows

theorem ints_of_wellAll {P : Params} {h : Heap} : ∀ (ns : List Int) (vs : List Value), WellAll P h vs (ns.map WData.int) → IntsAre vs ns := by
  intro ns
  induction ns with
  | nil =>
    intro vs w
    rw [List.map_nil] at w
    cases w
    exact .nil
  | cons n ns ih =>
    intro vs w
    rw [List.map_cons] at w
    cases w with
    | cons a b =>
      cases a
      exact .cons _ _ (ih _ b)

theorem script_of {l : OpenLaw} {n : Nat} (hn : l.most = some n) {P : Params} {h : Heap} {args : List WData} {vals : List Value}
    (hpre : l.row.toRowW.claim.pre args = true) (hwl : WellAll P h vals args) :
    ∃ a vs ns, vals = [Value.ref a] ∧ args = [WData.list (ns.map WData.int)] ∧ h.get? a = some { cls := .type "list", data := .seq vs.toArray } ∧ IntsAre vs ns ∧ ns.length ≤ n := by
  have hsh : WShape.hasAll [] args [.list .int] = true := (pre_splitW hpre).1
  have hc : l.pre.holds [] { args := args } = true := (pre_splitW hpre).2
  obtain ⟨d, r, rfl, h1, h2⟩ := hasAllW_cons hsh
  obtain rfl := hasAllW_nil h2
  obtain ⟨xs, rfl, h3⟩ := hasW_list h1
  obtain ⟨ns, rfl⟩ := items_int h3
  have hlen : ns.length ≤ n := by
    unfold OpenLaw.pre at hc
    have h4 : (WTm.not (.lt (.lit (.int (n : Int))) (.len (.arg 0)))).holds [] { args := [.list (ns.map .int)] } = true := by
      have h4 := (holds_andW hc).1
      rw [hn] at h4
      exact h4
    have h5 := condW_of h4 (w_not (w_lt w_lit (w_len_list (w_arg rfl))))
    rw [List.length_map] at h5
    refine Nat.le_of_not_lt fun q => ?_
    have q' : (n : Int) < ((ns.length : Nat) : Int) := by omega
    first
      | (rw [decide_eq_true q'] at h5; exact absurd h5 (by decide))
      | (simp at h5; omega)
  cases hwl with
  | cons w1 w2 =>
    cases w2
    cases w1 with
    | list ho hall => exact ⟨_, _, ns, rfl, rfl, ho, ints_of_wellAll ns _ hall, hlen⟩

theorem post_true (l : OpenLaw) (args : List WData) : l.row.toRowW.claim.post args (.bool true) args = true :=
  postW_of (r := l.row.toRowW) (X := (true == true))
    (show WShape.has [] (.bool true) .bool = true by first | rfl | decide | simp [WShape.has, WShape.arms, WShape.armsAll])
    (show (WTm.eq .res (.lit (.bool true))).value [] { args := args, res := some (.bool true), after := args } = some (.bool (true == true)) from w_eq_bool (w_res rfl) w_lit) rfl

theorem attach_call {l : OpenLaw} {n : Nat} {q : Program} {loose : List Str} {XP : (Str → Option Value) → Heap → Prop} {YP : World → Heap → Prop} {d : DefRec}
    (hn : l.most = some n) (hdf : d.params.defaults = [])
    (call : ∀ (w : World) (s₀ s₁ : Shared) (mg mb : Str → Option Value) (fa : Addr) (o : Obj) (pm cd doc : Value) (a : Addr) (vs : List Value) (ns : List Int),
      Ground q loose [] XP w s₀ mg mb s₁.heap → YP w s₁.heap →
      s₁.heap.get? fa = some o → o.data = .func (docDef d.name d.params d.body d.scope pm cd doc) → s₁.heap.CodeRec cd d.name → mg d.name = some (.ref fa) →
      s₁.heap.get? a = some { cls := .type "list", data := .seq vs.toArray } → IntsAre vs ns → ns.length ≤ n → s₁.gens = #[] →
      codeAny (model l.prog w) callerA (.call (.ref fa) ⟨[.ref a], []⟩) (fun r s' => r = .ok (.ret (.bool true)) ∧ OldK s₁.heap s'.heap ∧ s'.os = s₁.os ∧ AllBare s'.gens) s₁) :
    WalkO q loose XP YP l.row.toRowW d [] (fun f vs => PySem.call f vs) := by
  intro w s₀ s₁ mg mb G Y fa o pm cd doc dV kV ho hd hcd hD hmg hg args vals as hpre hlay hrd hwl hlo
  obtain rfl : dV = .none := Dflts.none hD hdf
  obtain rfl : kV = .none := Dflts.noKw hD
  obtain ⟨a, vs, ns, rfl, rfl, hobj, hints, hlen⟩ := script_of hn hpre hwl
  refine enter_call (codeAny_mono (call w s₀ s₁ mg mb fa o pm cd doc a vs ns G Y ho (fd_plain hd) hcd hmg hobj hints hlen hg) fun r s' hq => ?_)
  obtain ⟨rfl, h2, h3, h4⟩ := hq
  exact ⟨.inl ⟨.bool true, .bool true, [], rfl, fun _ => rfl, .bool true, post_true l _, fun _ => ⟨List.Pairwise.nil, fun _ hm => (nomatch hm)⟩⟩, h2, h3, h4⟩

section
variable {prog : Program} {w : World} {A : Around} {E : Value → Shared → Prop} {s : Shared} {K : Frag}

def noObjs (h : Heap) : Heap := { h with objs := #[] }
def ledger (h : Heap) (L d : Addr) : List (Addr × Obj) := (List.range h.objs.size).filterMap fun a => if a = L ∨ a = d then none else (h.get? a).map fun o => (a, o)
end
end Att

namespace L2
open PySem PySem.Spec PyProof.Rows

theorem vals_ints : ∀ {vs : List Value} {ns : List Int}, IntsAre vs ns → Vals (ns.map V.int) vs
  | _, _, .nil => .nil
  | _, _, .cons n t h => .cons ⟨t, rfl⟩ (vals_ints h)

def Only (H : Hp) : Prop := ∀ b, H b = none ∨ ∃ o xs, H b = some (.frz o (.lst xs))

theorem law_call {P : Program} {w : World} {K : PySem.W.Frag} {mg mb : Str → Option Value} {CX : CXT} {k : Nat} {fa a : Addr} {fd : FuncData} {x : Str} {sp : Sp} {s₁ : Shared} {vs : List Value} {ns : List Int}
    (KX : K.In s₁.heap) (hns : s₁.heap.Ns mainGlobals mg) (hb : s₁.heap.Ns builtinsNs mb) (hbb : ∀ x : Str, x ≠ "__name__" → mb x = bootBuiltins x) (hlim : s₁.heap.NoLimit) (hg : s₁.gens = #[])
    (ha : s₁.heap.get? a = some { cls := .type "list", data := .seq vs.toArray }) (hi : IntsAre vs ns) (hl : ns.length ≤ sizeLine) (hr : Room k callerA)
    (F : ∀ base : Heap, K.In base → base.Ns mainGlobals mg → FnOk P w K mg base CX k fa fd [x] sp) (hbind : ∀ (s : Shared) (u : Value), BindsTo s fd ⟨[u], []⟩ [(x, u)])
    (hsp : ∀ H : Hp, Only H → SqL K H a (ns.map V.int) → sp [.ref a] H (fun v _ => v = .bl true) fun _ _ _ => False)
    (hCX : ∀ H e s', CX [] H s₁ (fun _ _ _ => False) e s' → False) :
    codeAny (model P w) callerA (.call (.ref fa) ⟨[.ref a], []⟩) (fun r s' => r = .ok (.ret (.bool true)) ∧ OldK s₁.heap s'.heap ∧ s'.os = s₁.os ∧ AllBare s'.gens) s₁ := by
  have rv := vals_ints hi
  have lenV := hi.length
  -- from an abstract heap in which nothing but the script may be tracked
  have core : ∀ H : Hp, Only H → SqL K H a (ns.map V.int) → HOk P w H s₁.heap → (∀ b, H b ≠ none → b = a) → (H a ≠ none → K.lookup a = none) →
      codeAny (model P w) callerA (.call (.ref fa) ⟨[.ref a], []⟩) (fun r s' => r = .ok (.ret (.bool true)) ∧ OldK s₁.heap s'.heap ∧ s'.os = s₁.os ∧ AllBare s'.gens) s₁ := by
    intro H hO hS hok hA hK
    have base_of : ∀ {b : Addr} {o : Obj}, s₁.heap.get? b = some o → H b = none → (hidT s₁.heap H).get? b = some o := fun e n => hidT_get e n
    have noA : ∀ {b : Addr} {o : Obj} {es : Array DictEntry} {ep : Nat}, s₁.heap.get? b = some o → o.data = .dict es ep → H b = none := fun {b o es ep} e d => by
      cases q : H b with
      | none => rfl
      | some u =>
        have e' : b = a := hA b (by rw [q]; simp)
        subst e'
        rw [ha] at e; cases e
        have d' : Data.seq vs.toArray _ = Data.dict es ep := d
        cases d'
    have nsK : ∀ {b : Addr} {m : Str → Option Value}, s₁.heap.Ns b m → (hidT s₁.heap H).Ns b m := fun {b m} ⟨o, es, ep, e, d, r⟩ => ⟨o, es, ep, base_of e (noA e d), d, r⟩
    have hKb : K.In (hidT s₁.heap H) := fun b o e => base_of (KX b o e) (by
      cases q : H b with
      | none => rfl
      | some u =>
        have e' : b = a := hA b (by rw [q]; simp)
        subst e'
        rw [hK (by rw [q]; simp)] at e; cases e)
    have hM : Mod K mg (hidT s₁.heap H) := ⟨hKb, nsK hns, ⟨mb, nsK hb, hbb⟩, let ⟨mc, h1, h2⟩ := hlim; ⟨mc, nsK h1, h2⟩⟩
    have e0 : Env0 P w K mg (hidT s₁.heap H) callerA [] s₁ H := ⟨rfl, hM, fun b o e => of_hidT e, Nat.le_of_eq (hidT_size _ _), trivial, fun b hb => absurd (show b ∈ ([] : List Addr) from hb) (by simp), hok, .of_eq hg⟩
    refine codeAny_mono ((F _ hKb (nsK hns)).run callerA [] s₁ H ⟨[.ref a], []⟩ [.ref a] [.ref a] _ _ hr e0 (hbind s₁ (.ref a)) (.cons rfl .nil) (hsp H hO hS)) fun r s' h => ?_
    cases r with
    | error e => exact (hCX H e s' h).elim
    | ok fl =>
      cases fl with
      | next => exact False.elim h
      | brk => exact False.elim h
      | cont => exact False.elim h
      | ret u =>
        obtain ⟨v, H', os, bare, un, hok', r', q⟩ := h
        have q' : v = .bl true := q
        subst q'
        obtain rfl : u = Value.bool true := r'
        refine ⟨rfl, OldK.of_keep fun b o e => ?_, os, bare⟩
        cases q : H b with
        | none => exact un.keep b o e q (by intro z; exact absurd (show b ∈ ([] : List Addr) from z) (by simp)) (by simp)
        | some u =>
          rcases hO b with z | ⟨ob, xs, z⟩
          · rw [q] at z; cases z
          · have z2 := un.frzs b ob _ z
            obtain ⟨e1, _⟩ := hok b _ z
            obtain ⟨e2, _⟩ := hok' b _ z2
            rw [e] at e1; cases e1
            exact e2
  cases hk : K.lookup a with
  | some o =>
    -- the script is one of the module's own objects
    have e := KX a o hk
    rw [ha] at e
    cases e
    refine core (fun _ => none) (fun _ => .inl rfl) (.inr ⟨_, vs.toArray, _, hk, rfl, rfl, rfl, by rw [List.size_toArray, lenV]; exact hl, by simpa using rv⟩) (fun b u z => by have z' : (none : Option HO) = some u := z; cases z') (fun b z => absurd rfl z) fun z => absurd rfl z
  | none =>
    refine core (fun b => if b = a then some (.frz { cls := .type "list", data := .seq vs.toArray } (.lst (ns.map V.int))) else none) (fun b => ?_) (.inl (.inr ⟨{ cls := .type "list", data := .seq vs.toArray }, if_pos rfl⟩)) (fun b u z => ?_) (fun b z => ?_) fun _ => hk
    · by_cases hb : b = a
      · exact .inr ⟨_, _, if_pos hb⟩
      · exact .inl (if_neg hb)
    · by_cases hb : b = a
      · have z' := (if_pos hb).symm.trans z
        cases z'
        subst hb
        exact ⟨ha, by rw [List.length_map]; exact hl, vs, _, rv, ha⟩
      · have z' := (if_neg hb).symm.trans z
        cases z'
    · by_cases hb : b = a
      · exact hb
      · exact absurd (if_neg hb) z
end L2

namespace L2
open PySem PySem.Spec PyProof.Rows

abbrev KOf {K : PySem.W.Frag} {h : Heap} (_ : K.In h) : PySem.W.Frag := K

end L2


namespace L2
open PySem PySem.Spec PyProof.Rows

def inClass (s : Stmt) (j : Nat) : Stmt := match s with
  | .ClassDef _ _ _ body _ _ _ _ _ _ _ => body.getD j (.Pass ⟨0, 0, 0, 0⟩)
  | _ => .Pass ⟨0, 0, 0, 0⟩
def defArgs (s : Stmt) : Arguments := match s with
  | .FunctionDef _ a _ _ _ _ _ _ _ _ => a
  | _ => { posonlyargs := [], args := [], vararg := none, kwonlyargs := [], kw_defaults := [], kwarg := none, defaults := [] }
def defBody (s : Stmt) : List Stmt := match s with
  | .FunctionDef _ _ b _ _ _ _ _ _ _ => b
  | _ => []
def defScope (s : Stmt) : Scope := match s with
  | .FunctionDef _ _ _ _ _ _ sc _ _ _ => sc
  | _ => { kind := .function, names := [], isGenerator := false, isCoroutine := false }

abbrev CX0 : CXT := fun _ _ _ _ _ _ => False
abbrev E0 : XK := fun _ _ _ => False
theorem pass0 {X : Cx} : Passes CX0 X E0 := fun _ _ _ _ _ _ _ h => h.elim

structure Fun (K : PySem.W.Frag) (x qual : Str) (st : Stmt) (f : Addr) (fd : FuncData) : Prop where
  ex : ∃ (oc : Value) (od : Option Addr) (kV doc pm : Value) (an : Option Addr) (cdv ct : Value) (osl : Array (Option Value)),
    fd = PySem.W.fnOf x qual (defArgs st) (defBody st) (defScope st) .none kV doc pm an cdv ct ∧ K.lookup f = some ⟨oc, od, .func fd, osl⟩ ∧ PySem.W.codeIn K cdv qual = true
  kp : PySem.W.keepIn K (.ref f) = true
section
variable {P : Program} {w : World} {K : PySem.W.Frag} {mg : Str → Option Value} {base : Heap}
theorem Fun.ok {x qual : Str} {st : Stmt} {f : Addr} {fd : FuncData} {N ps : List Str} {k : Nat} {sp : Sp} (F : Fun K x qual st f fd) (S : FnScope N ps (defScope st)) (len : ∀ vs H Q E, sp vs H Q E → vs.length = ps.length)
    (hbody : ∀ (cdv : Value) (A : Around) (outer : List Env) (s : Shared) (H : Hp) (vs : List V) (Q : VK) (E : XK), Room k (A.deeper (envOfC qual (defScope st) s.heap.objs.size f cdv)) → sp vs H Q E →
      ∃ t, PSs (cxOf CX0 P w K mg base N qual (defScope st) f cdv A outer s H E).nox (defBody st) t ∧ t { nx := fun _ H' => Q .non H', rt := Q } (start N vs) H) : FnOk P w K mg base CX0 (k + 1) f fd ps sp := by
  obtain ⟨oc, od, kV, doc, pm, an, cdv, ct, osl, rfl, lk, hcd⟩ := F.ex
  refine fn_of lk hcd S len fun A outer s H vs Q E hr hsp => ?_
  obtain ⟨t, h, q⟩ := hbody cdv A outer s H vs Q E hr hsp
  exact ⟨t, h.nox, q⟩
theorem Fun.binds {x qual : Str} {st : Stmt} {f : Addr} {fd : FuncData} {ps : List Str} (F : Fun K x qual st f fd)
    (h : ∀ (kV doc pm : Value) (an : Option Addr) (cdv ct : Value) (us : List Value), us.length = ps.length → bindArgs (PySem.W.fnOf x qual (defArgs st) (defBody st) (defScope st) .none kV doc pm an cdv ct) ⟨us, []⟩ = pure (ps.zip us)) : Binds K fd ps [] := by
  obtain ⟨oc, od, kV, doc, pm, an, cdv, ct, osl, rfl, lk, hcd⟩ := F.ex
  exact .all (h kV doc pm an cdv ct)
end
theorem hu_of {A : Around} {k : Nat} (hr : Room k A) : A.units + 1 < cLine := Nat.lt_of_le_of_lt (Nat.add_le_add_left (by decide : 1 ≤ 64) _) hr.units
theorem small1000 {n : Nat} (h : n ≤ 1000) : n < sizeLine := Nat.lt_of_le_of_lt h (by decide)

section
variable {X : Cx}
theorem pv (i : Nat) {x : Str} {pos : Pos} (hN : X.N[i]? = some x := by rfl) (hv : Vis X.env.scope x := by first | exact Or.inl rfl | exact Or.inr (Or.inl rfl) | exact Or.inr (Or.inr rfl)) (hd : (x == ("__debug__" : Str)) = false := by decide)
    (hcd : (x == ("__classdict__" : Str)) = false := by decide) : PE X (.Name x pos) (tVar i) := pe_var hN hv hd hcd
end

theorem iteF {A B : Prop} (h : B) : if false = true then A else B := by
  rw [if_neg Bool.false_ne_true]
  exact h
theorem iteT {A B : Prop} (h : A) : if true = true then A else B := by
  rw [if_pos rfl]
  exact h
theorem ite2 {c A B : Prop} [Decidable c] (h1 : c → A) (h2 : ¬ c → B) : if c then A else B := by
  by_cases h : c
  · rw [if_pos h]
    exact h1 h
  · rw [if_neg h]
    exact h2 h
def Same (H H' : Hp) : Prop := ∀ b o, H b = some o → H' b = some o
theorem Same.refl (H : Hp) : Same H H := fun _ _ h => h
theorem Same.trans {H H1 H2 : Hp} (a : Same H H1) (b : Same H1 H2) : Same H H2 := fun c o h => b c o (a c o h)
end L2

set_option Elab.async false
set_option linter.all false
set_option maxRecDepth 100000
set_option maxHeartbeats 4000000
namespace L2
open PySem PySem.Spec PyProof.Rows
section
variable {X : Cx}
def CDivB (_ j : Int) : Prop := 0 < j ∧ j < 2 ^ 250
theorem log2_big {j : Int} (h1 : 0 < j) (h2 : j < 2 ^ 250) : j.natAbs.log2 < 9000 := by
  have h0 : j.natAbs ≠ 0 := by omega
  have h3 : j.natAbs < 2 ^ 250 := by omega
  exact Nat.lt_trans ((Nat.log2_lt h0).mpr h3) (by decide)
theorem op_fdivB : OpR X (binaryOp .FloorDiv) (rI CDivB fun i j => .int (i / j)) := opI fun i j _ _ _ _ _ hc q => by
  have h1 : (0 : Int) < j := hc.1
  exact floordiv_int (by omega) (by rw [Int.fdiv_eq_ediv_of_nonneg i (by omega)]; exact q) (.inl (PyProof.noPylong_of_log2 (log2_big hc.1 hc.2)))
def CMulB (i j : Int) : Prop := i.natAbs < 2 ^ 250 ∧ j.natAbs < 2 ^ 250
theorem CMulB.ok {i j : Int} (h : CMulB i j) : IntMulOk i j := by
  have a : Builtin.Int.intBits i ≤ 250 := intBits_le h.1
  have b : Builtin.Int.intBits j ≤ 250 := intBits_le h.2
  unfold IntMulOk Builtin.Int.intTooBig
  intro z
  rw [Bool.and_eq_true] at z
  have c := of_decide_eq_true z.2
  rw [bitsLine_eq] at c
  omega
theorem op_mulB : OpR X (binaryOp .Mult) (rI CMulB fun i j => .int (i * j)) := opI fun _ _ _ _ _ _ _ hc q => mul_int q hc.ok
theorem call_isinst : CallR X (.builtin "isinstance") (fun xs H Q => ∃ x n t b, xs = [x, .ty n] ∧ TyOf X.K H x t ∧ PySem.W.kitOne X.K t (.type n) = some b ∧ Q (.bl b) H) := by
  intro pins s σ H xs us Q I r h
  obtain ⟨x, n, t, b, rfl, ty, e, q⟩ := h
  obtain ⟨u, w', rfl, r1, r2⟩ := vals2 r
  cases (show w' = Value.type n from r2)
  exact isinst_ok I r1 ty e (fun tk => ⟨.bl b, H, I.tok _, rfl, q⟩)
end
section
variable {K : PySem.W.Frag}
theorem kit_self (T : String) : PySem.W.kitOne K (.type T) (.type T) = some true := by
  unfold PySem.W.kitOne
  rw [if_pos (beq_self_eq_true _)]
theorem kit_of {T S : String} {b : Bool} (h1 : (Value.type T == Value.type S) = false) (h2 : PySem.W.kitMeta S = true) (h3 : (fastBuiltinMro T).map (·.contains (Value.type S)) = some b) : PySem.W.kitOne K (.type T) (.type S) = some b := by
  unfold PySem.W.kitOne
  rw [if_neg (by rw [h1]; exact Bool.false_ne_true)]
  show (if PySem.W.kitMeta S = true then PySem.W.subIn K (.type T) (.type S) else none) = some b
  rw [if_pos h2]
  exact h3
theorem kit_int_bool : PySem.W.kitOne K (.type "int") (.type "bool") = some false := kit_of (by decide +kernel) (by decide +kernel) (by decide +kernel)
theorem bt_isinstance : bootBuiltins "isinstance" = some (.builtin "isinstance") := by decide +kernel
theorem bt_max : bootBuiltins "max" = some (.builtin "max") := by decide +kernel
theorem bt_min : bootBuiltins "min" = some (.builtin "min") := by decide +kernel
theorem bt_int : bootBuiltins "int" = some (.type "int") := by decide +kernel
theorem bt_bool : bootBuiltins "bool" = some (.type "bool") := by decide +kernel
theorem bt_str : bootBuiltins "str" = some (.type "str") := by decide +kernel
theorem bt_list : bootBuiltins "list" = some (.type "list") := by decide +kernel
theorem bt_tuple : bootBuiltins "tuple" = some (.type "tuple") := by decide +kernel
theorem bt_dict : bootBuiltins "dict" = some (.type "dict") := by decide +kernel
end
end L2

set_option Elab.async false
set_option linter.all false
set_option maxRecDepth 100000
set_option maxHeartbeats 4000000
namespace L2
open PySem PySem.Spec PyProof.Rows
theorem closure_of {scope : Scope} {env : Env} (h : ∀ y ∈ scope.names, y.2 = .free → ∃ c, env.cells.lookup y.1 = some c) :
    ∃ cl, closureFor scope env = pure cl ∧ (∀ x c, cl.lookup x = some c → env.cells.lookup x = some c) ∧ (∀ y ∈ scope.names, y.2 = .free → ∃ c, cl.lookup y.1 = some c) := by
  have key : ∀ (ns : List (Str × NameKind)) (cs : List (Str × Addr)), (∀ y ∈ ns, y.2 = .free → ∃ c, env.cells.lookup y.1 = some c) → (∀ x c, cs.lookup x = some c → env.cells.lookup x = some c) →
      ∃ cl, (forIn ns cs fun (x : Str × NameKind) (cs : List (Str × Addr)) => (if x.2 == .free then do let c ← cellOf env x.1; pure (ForInStep.yield ((x.1, c) :: cs)) else pure (ForInStep.yield cs) : Sem _)) = pure cl ∧
        (∀ x c, cl.lookup x = some c → env.cells.lookup x = some c) ∧ (∀ x c, cs.lookup x = some c → ∃ c, cl.lookup x = some c) ∧ (∀ y ∈ ns, y.2 = .free → ∃ c, cl.lookup y.1 = some c) := by
    intro ns
    induction ns with
    | nil => intro cs _ hc; exact ⟨cs, rfl, hc, fun x c e => ⟨c, e⟩, fun y hy => nomatch hy⟩
    | cons y r ih =>
      intro cs hn hc
      obtain ⟨n, k⟩ := y
      by_cases hk : k = .free
      · subst hk
        obtain ⟨c, e⟩ := hn (n, .free) List.mem_cons_self rfl
        obtain ⟨cl, e1, e2, e3, e4⟩ := ih ((n, c) :: cs) (fun y hy => hn y (List.mem_cons_of_mem _ hy)) (fun x c' q => by
          rw [List.lookup_cons] at q
          cases hx : x == n with
          | true =>
            rw [hx] at q
            cases q
            have : x = n := by simpa using hx
            rw [this]
            exact e
          | false =>
            rw [hx] at q
            exact hc x c' q)
        refine ⟨cl, ?_, e2, fun x c' q => ?_, fun y hy hyk => ?_⟩
        · rw [List.forIn_cons]
          have e' : env.cells.lookup n = some c := e
          simp only [beq_self_eq_true, if_true, cellOf, e']
          exact e1
        · cases hx : x == n with
          | true => exact e3 x c (by rw [List.lookup_cons, hx])
          | false => exact e3 x c' (by rw [List.lookup_cons, hx]; exact q)
        · rcases List.mem_cons.mp hy with rfl | hy
          · exact e3 n c (by rw [List.lookup_cons]; simp)
          · exact e4 y hy hyk
      · obtain ⟨cl, e1, e2, e3, e4⟩ := ih cs (fun y hy => hn y (List.mem_cons_of_mem _ hy)) hc
        refine ⟨cl, ?_, e2, e3, fun y hy hyk => ?_⟩
        · rw [List.forIn_cons]
          have hb : (k == NameKind.free) = false := by simpa using hk
          simp only [hb, Bool.false_eq_true, if_false]
          exact e1
        · rcases List.mem_cons.mp hy with rfl | hy
          · exact absurd hyk hk
          · exact e4 y hy hyk
  obtain ⟨cl, e1, e2, _, e4⟩ := key scope.names [] h (fun x c e => by simp at e)
  refine ⟨cl, ?_, e2, e4⟩
  simp only [closureFor]
  rw [show (forIn scope.names ([] : List (Str × Addr)) fun (x : Str × NameKind) (cs : List (Str × Addr)) => (if x.2 == .free then do let c ← cellOf env x.1; pure (ForInStep.yield ((x.1, c) :: cs)) else pure (ForInStep.yield cs) : Sem _)) = pure cl from e1]
  rfl
theorem relabel_inv {scope : Scope} {env : Env} {x : Str} {k : NameKind} (h : (relabel scope env).names.lookup x = some k) : ∃ k0, scope.names.lookup x = some k0 ∧ (k0 = k ∨ (k0 = .free ∧ k = .cell)) := by
  unfold relabel at h
  dsimp only at h
  revert h
  generalize scope.names = ns
  induction ns with
  | nil => intro h; simp at h
  | cons y r ih =>
    obtain ⟨n, k'⟩ := y
    intro h
    rw [List.map_cons] at h
    cases hx : x == n with
    | true =>
      rw [List.lookup_cons, hx]
      refine ⟨k', rfl, ?_⟩
      dsimp only at h
      split at h
      · rename_i hc
        rw [List.lookup_cons, hx] at h
        cases h
        rw [Bool.and_eq_true, Bool.and_eq_true] at hc
        exact .inr ⟨by simpa using hc.1.1, rfl⟩
      · rw [List.lookup_cons, hx] at h
        cases h
        exact .inl rfl
    | false =>
      rw [List.lookup_cons, hx]
      dsimp only at h
      apply ih
      split at h
      · rw [List.lookup_cons, hx] at h; exact h
      · rw [List.lookup_cons, hx] at h; exact h
theorem relabel_free {scope : Scope} {env : Env} {x : Str} (h : scope.names.lookup x = some .free) (hk : env.scope.kind = .function) (hc : env.kindOf x = some .cell) : (relabel scope env).names.lookup x = some .cell := by
  unfold relabel
  dsimp only
  revert h
  generalize scope.names = ns
  induction ns with
  | nil => intro h; simp at h
  | cons y r ih =>
    obtain ⟨n, k'⟩ := y
    intro h
    rw [List.map_cons]
    cases hx : x == n with
    | true =>
      rw [List.lookup_cons, hx] at h
      cases h
      have : x = n := by simpa using hx
      subst this
      dsimp only
      rw [if_pos (by rw [hk, hc]; rfl), List.lookup_cons, hx]
    | false =>
      rw [List.lookup_cons, hx] at h
      dsimp only
      split
      · rw [List.lookup_cons, hx]; exact ih h
      · rw [List.lookup_cons, hx]; exact ih h
section
variable {prog : Program} {w : World} {A : Around} {R : Result → Shared → Prop} {s : Shared}
theorem compLoop_any {elt target iter : Expr} {ifs : List Expr} {scope : Scope} {pos : Pos} {it acc : Value} {env : Env} (I : Nat → Shared → Prop)
    (turn : ∀ n s, I n s → wpAny (model prog w) A (pyNext it) (fun r s₁ => match r with
      | none => R (.ok .next) s₁
      | some v => wpAny (model prog w) A (letOwnedTupleGo target it v) (fun _ s₀ => wpAny (model prog w) A (assign target env v) (fun _ s₂ =>
          wpAny (model prog w) A (forIn ifs true fun c r => if r = true then do let ok ← isTrue c env (eval c env); pure (ForInStep.yield ok) else pure (ForInStep.yield r)) (fun ok s₃ =>
            if ok = true then wpAny (model prog w) A (eval elt env) (fun x s₄ =>
              wpAny (model prog w) A (call (.builtin "list.append") [acc, x]) (fun _ s₅ => ∃ m, m < n ∧ I m s₅) (fun _ _ => False) s₄) (fun _ _ => False) s₃
            else ∃ m, m < n ∧ I m s₃) (fun _ _ => False) s₂) (fun _ _ => False) s₀) (fun _ _ => False) s₁) (fun _ _ => False) s)
    (n : Nat) (h : I n s) :
    codeAny (model prog w) A (.compLoop (.ListComp elt [⟨target, iter, ifs, 0⟩] scope pos) 0 it acc env) R s := by
  refine codeAny_loop rfl I (fun n s hI => ?_) n h
  show wpAny _ A ((compTurn (.ListComp elt [⟨target, iter, ifs, 0⟩] scope pos) 0 it acc env).onRaise (fun x => do noteFrame x env; theTreesLotGoes x)) _ _ s
  refine wpAny_noted ?_
  rw [compTurn_list]
  refine wpAny_bind (wpAny_standAt (wpAny_bind (wpAny_mono (turn n s hI) (fun r s₁ h₁ => ?_) fun _ _ h' => h'.elim)))
  cases r with
  | none => exact wpAny_pure h₁
  | some v =>
    refine wpAny_bind (wpAny_mono h₁ (fun _ s₀ h₀ => ?_) fun _ _ h' => h'.elim)
    refine wpAny_bind (wpAny_mono h₀ (fun _ s₂ h₂ => wpAny_bind (wpAny_mono h₂ (fun ok s₃ h₃ => ?_) fun _ _ h' => h'.elim)) fun _ _ h' => h'.elim)
    cases ok with
    | false => exact wpAny_pure ⟨rfl, h₃⟩
    | true =>
      exact wpAny_bind (wpAny_bind (wpAny_mono h₃ (fun x s₄ h₄ => wpAny_bind (wpAny_mono h₄ (fun _ s₅ h₅ => wpAny_pure (wpAny_pure ⟨rfl, h₅⟩)) fun _ _ h' => h'.elim)) fun _ _ h' => h'.elim))
end

section
variable {X : Cx} {pins : List (Addr × Obj)} {σ : St} {H : Hp} {s : Shared}
def PCs (X : Cx) (ifs : List Expr) (t : TT) : Prop :=
  ∀ (pins : List (Addr × Obj)) (s : Shared) (σ : St) (H : Hp) (Q : Bool → Hp → Prop), Inv X pins σ H s → t σ H Q →
    wpAny (model X.prog X.w) X.A (forIn ifs true fun c r => if r = true then do let ok ← isTrue c X.env (eval c X.env); pure (ForInStep.yield ok) else pure (ForInStep.yield r)) (TP X pins σ Q) X.xe s
def tYes : TT := fun _ H Q => Q true H
theorem yesT {σ : St} {H : Hp} {A B : Hp → Prop} (h : A H) : tYes σ H (fun b H3 => if b = true then A H3 else B H3) := by
  show (if true = true then A H else B H)
  exact iteT h
theorem nameYes {i : Nat} {x : V} {σ : St} {H : Hp} {A B : St → Hp → Prop} (h : A (σ.set i (some x)) H) : gName i x σ H (fun σ2 H2 => tYes σ2 H2 (fun b H3 => if b = true then A σ2 H3 else B σ2 H3)) := by
  show (if true = true then A (σ.set i (some x)) H else B (σ.set i (some x)) H)
  exact iteT h
theorem pcs_nil : PCs X [] tYes := fun pins s σ H Q I h => wpAny_tests_nil ⟨H, I, h⟩
theorem pcs_one {c : Expr} {t : TT} (h : PT X c t) : PCs X [c] t := fun pins s σ H Q I q => wpAny_tests_one (h pins s σ H Q I q)
end
def pick (n : Nat) (outs : List Nat) (σ : St) : St := List.replicate n none ++ outs.map fun j => (σ[j]?).join
theorem pick_len (n : Nat) (outs : List Nat) (σ : St) : (pick n outs σ).length = n + outs.length := by
  unfold pick
  rw [List.length_append, List.length_replicate, List.length_map]
def cxComp (X : Cx) (N' : List Str) (scope : Scope) (cl : List (Str × Addr)) (C : Addr) (s : Shared) (H : Hp) (ex : List Addr) : Cx where
  prog := X.prog
  w := X.w
  K := X.K
  mg := X.mg
  base := X.base
  A := X.A
  N := N'
  s₀ := s
  H₀ := H
  env := compEnvC scope cl C X.env
  outer := X.stack
  stack := X.stack
  ex := ex
  fn := fun _ => false
  calm := X.calm
  pn := []
  xe := fun _ _ => False
structure CompScope (dsc scope : Scope) (N tgs : List Str) (outs : List Nat) (N' : List Str) : Prop where
  kind : scope.kind = .function
  names : ∀ x ∈ scope.names, x.2 = .local → scope.names.lookup x.1 = some .local
  nocell : ∀ y ∈ scope.names, y.2 ≠ .cell
  free : ∀ y ∈ scope.names, y.2 = .free → dsc.names.lookup y.1 = some .cell
  isN : N' = tgs ++ outs.map (fun j => N.getD j "")
  lts : ∀ j ∈ outs, j < N.length
  outF : ∀ j ∈ outs, scope.names.lookup (N.getD j "") = some .free
  nd : N'.Nodup
def Tgt (n : Nat) (g : TG) : Prop := ∀ x σ H Q, g x σ H Q → g x σ H (fun σ2 H2 => Q σ2 H2 ∧ σ2.length = σ.length ∧ ∀ i, n ≤ i → σ2[i]? = σ[i]?)
theorem tgt_name {n i : Nat} (h : i < n) : Tgt n (gName i) := fun x σ H Q q => ⟨q, by rw [List.length_set], fun j hj => List.getElem?_set_ne (by omega)⟩
def Tgts (n : Nat) (g : TGs) : Prop := ∀ xs σ H Q, g xs σ H Q → g xs σ H (fun σ2 H2 => Q σ2 H2 ∧ σ2.length = σ.length ∧ ∀ i, n ≤ i → σ2[i]? = σ[i]?)
theorem tgts_nil {n : Nat} : Tgts n gNil := fun xs σ H Q ⟨e, q⟩ => ⟨e, q, rfl, fun _ _ => rfl⟩
def TMono (g : TGs) : Prop := ∀ xs σ H Q Q', (∀ σ2 H2, Q σ2 H2 → Q' σ2 H2) → g xs σ H Q → g xs σ H Q'
theorem tgts_name {n i : Nat} {u : TGs} (h : i < n) (hu : Tgts n u) (mu : TMono u) : Tgts n (gCons (gName i) u) := fun xs σ H Q ⟨v, r, e, q⟩ => by
  refine ⟨v, r, e, ?_⟩
  have z := hu r (σ.set i (some v)) H Q q
  refine mu r _ H _ _ (fun σ2 H2 ⟨a, b, c⟩ => ⟨a, ?_, fun j hj => ?_⟩) z
  · rw [b, List.length_set]
  · rw [c j hj, List.getElem?_set_ne (by omega)]
theorem tmono_nil : TMono gNil := fun xs σ H Q Q' h ⟨e, q⟩ => ⟨e, h _ _ q⟩
theorem tmono_name {i : Nat} {u : TGs} (mu : TMono u) : TMono (gCons (gName i) u) := fun xs σ H Q Q' h ⟨v, r, e, q⟩ => ⟨v, r, e, mu r _ H _ _ h q⟩
theorem tgt_tup {K : PySem.W.Frag} {n k : Nat} {t : TGs} (h : Tgts n t) : Tgt n (gTup K k t) := fun x σ H Q ⟨a, xs, e, hq, hl, q⟩ => ⟨a, xs, e, hq, hl, h xs σ H Q q⟩
def tComp (n : Nat) (outs : List Nat) (wi : TI) (g : TG) (tc : TT) (te : TE) : TE := fun σ H Q => wi σ H fun J H1 =>
  ∃ W : Nat → Nat → List V → Hp → Prop, (∃ m, W 0 m [] H1) ∧ ∀ i m acc H, W i m acc H →
    (J.stop i H ∧ acc.length ≤ sizeLine ∧ ∀ l, H l = none → Q (.ref l) (upd H l (.lst acc))) ∨
    (J.go i H ∧ acc.length < sizeLine ∧ ∃ N : List V → Hp → Prop, (∀ acc' H', N acc' H' → ∃ m', m' < m ∧ W (i + 1) m' acc' H') ∧ ∀ x H', J.yld i H x H' → g x (pick n outs σ) H' fun σ2 H2 => tc σ2 H2 fun b H3 =>
      if b = true then te σ2 H3 fun y H4 => N (acc ++ [y]) H4 else N acc H3)
section
variable {X : Cx} {pins : List (Addr × Obj)} {σ : St} {H2 : Hp} {s2 : Shared} {dsc scope : Scope} {tgs N' : List Str} {outs : List Nat} {cl : List (Str × Addr)} {fp : List Addr} {C D : Addr} {h1 : Heap} {tk : Nat} {mC : Str → Option Value}
theorem comp_start (S : CompScope dsc scope X.N tgs outs N') (hsc : X.env.scope = dsc) (I2 : Inv X pins σ H2 s2) (f2 : ∀ b ∈ fp, FpOk X pins H2 b) (hfp : ∀ b ∈ fp, b < s2.heap.objs.size)
    (hcl1 : ∀ x c, cl.lookup x = some c → X.env.cells.lookup x = some c) (hcl2 : ∀ y ∈ scope.names, y.2 = .free → ∃ c, cl.lookup y.1 = some c)
    (hC : s2.heap.objs.size ≤ C) (kp : ∀ b o, s2.heap.get? b = some o → h1.get? b = some o) (nC : h1.Ns C mC) :
    Inv (cxComp X N' scope cl C s2 H2 fp) [] (pick tgs.length outs σ) H2 { s2 with heap := h1, toks := tk } := by
  have freeAt : ∀ x, scope.names.lookup x = some .free → (relabel scope X.env).names.lookup x = some .cell := fun x e =>
    relabel_free e I2.ok.kind (by show X.env.scope.names.lookup x = some .cell; rw [hsc]; exact S.free (x, .free) (PySem.mem_of_lookup e) rfl)
  refine ⟨⟨I2.ok.mod, ?_, I2.ok.glob, I2.ok.blt, hC, fun x y c e1 e2 => I2.ok.inj x y c (hcl1 x c e1) (hcl1 y c e2), fun x hx => ?_, (fun x c h => nomatch h), I2.ok.hd, I2.ok.frames, .inl rfl, fun b hb => ?_, I2.bs, Nat.le_trans I2.ok.bsz I2.sz, fun b o e hb => ?_, fun b hb => ?_, I2.stack, I2.stkFree⟩,
    rfl, I2.bare, Un.kept kp, ⟨mC, nC, fun i x v e1 e2 e3 => ?_⟩, fun x c e => ?_, I2.hok.fresh hC, fun x c e => I2.freeC x c (hcl1 x c e), fun p hp => absurd (show p ∈ ([] : List (Addr × Obj)) from hp) (by simp), I2.hok.kept kp, ?_⟩
  · exact S.kind
  · have hx' : (relabel scope X.env).names.lookup x = some .cell ∨ (relabel scope X.env).names.lookup x = some .free := hx
    have z : scope.names.lookup x = some .free := by
      rcases hx' with hx' | hx'
      · obtain ⟨k0, e, h | ⟨h, _⟩⟩ := relabel_inv hx'
        · rw [h] at e
          exact absurd rfl (S.nocell _ (PySem.mem_of_lookup e))
        · rw [h] at e; exact e
      · obtain ⟨k0, e, h | ⟨h, _⟩⟩ := relabel_inv hx'
        · rw [h] at e; exact e
        · rw [h] at e; exact e
    exact hcl2 (x, .free) (PySem.mem_of_lookup z) rfl
  · refine ⟨fun z => ?_, fun x c e => (f2 b hb).2.2.2.2.1 x c (hcl1 x c e)⟩
    have z' : b = C := z
    exact absurd (Nat.lt_of_lt_of_le (hfp b hb) hC) (by rw [z']; exact Nat.lt_irrefl _)
  · rcases (f2 b hb).2.2.2.1 with z | z
    · exact I2.ok.noex b o e z
    · exact absurd (Nat.lt_of_lt_of_le (Heap.lt_size e) (Nat.le_trans I2.ok.bsz z)) (Nat.lt_irrefl _)
  · intro z
    rcases List.mem_cons.mp (I2.stkSub b z) with z | z
    · exact (f2 b hb).2.1 z
    · exact (f2 b hb).2.2.1 z
  · have e2' : (List.replicate tgs.length (none : Option V) ++ outs.map fun j => (σ[j]?).join)[i]? = some (some v) := e2
    have e1' : N'[i]? = some x := e1
    by_cases hi : i < tgs.length
    · rw [List.getElem?_append_left (by rw [List.length_replicate]; exact hi), List.getElem?_replicate, if_pos hi] at e2'
      cases e2'
    · rw [List.getElem?_append_right (by rw [List.length_replicate]; omega), List.length_replicate, List.getElem?_map] at e2'
      rw [S.isN, List.getElem?_append_right (by omega), List.getElem?_map] at e1'
      cases ej : outs[i - tgs.length]? with
      | none => rw [ej] at e2'; cases e2'
      | some j =>
        rw [ej] at e1' e2'
        have hj : j ∈ outs := List.mem_of_getElem? ej
        have ex : X.N.getD j "" = x := Option.some.inj e1'
        have ev : (σ[j]?).join = some v := Option.some.inj e2'
        have ev' : σ[j]? = some (some v) := by
          cases q : σ[j]? with
          | none => rw [q] at ev; cases ev
          | some o => rw [q] at ev; exact congrArg some ev
        have eN : X.N[j]? = some x := by
          have hl := S.lts j hj
          rw [← ex, List.getD_eq_getElem?_getD, List.getElem?_eq_getElem hl]
          rfl
        have fx : scope.names.lookup x = some .free := by rw [← ex]; exact S.outF j hj
        have cx : X.env.scope.names.lookup x = some .cell := by rw [hsc]; exact S.free (x, .free) (PySem.mem_of_lookup fx) rfl
        obtain ⟨m, hn, hl⟩ := I2.loc
        obtain ⟨u, ru, lk⟩ := hl j x v eN ev' (.inr (.inl cx))
        refine ⟨u, ru, ?_⟩
        rcases lk with ⟨k, _⟩ | ⟨k, c, ec, ⟨oc, hoc, hdc⟩⟩
        · have k' : X.env.scope.names.lookup x = some .local := k
          rw [cx] at k'; cases k'
        · obtain ⟨c', ec'⟩ := hcl2 (x, .free) (PySem.mem_of_lookup fx) rfl
          have ecc := hcl1 x c' ec'
          rw [ec] at ecc
          cases ecc
          exact .inr ⟨.inl (freeAt x fx), c, ec', oc, kp _ _ hoc, hdc⟩
  · obtain ⟨v, oc, hoc, hdc⟩ := I2.cell x c (hcl1 x c e)
    exact ⟨v, oc, kp _ _ hoc, hdc⟩
  · show (pick tgs.length outs σ).length = N'.length
    rw [pick_len, S.isN, List.length_append, List.length_map]
theorem comp_end {σ5 : St} {H5 : Hp} {s5 : Shared} {acc : List V} {its : List Value} {n : Nat} (I2 : Inv X pins σ H2 s2) (I5 : Inv (cxComp X N' scope cl C s2 H2 fp) [] σ5 H5 s5) (f2 : ∀ b ∈ fp, FpOk X pins H2 b)
    (hD : s2.heap.objs.size ≤ D) (eD : s5.heap.get? D = some { cls := .type "list", data := .seq its.toArray n }) (r : Vals acc its) (hz : acc.length ≤ sizeLine) (hn : H5 D = none) : Inv X pins σ (upd H5 D (.lst acc)) s5 := by
  have ne : ∀ b o, s2.heap.get? b = some o → b ≠ D := fun b o e z => absurd (Nat.lt_of_lt_of_le (Heap.lt_size e) (by rw [z]; exact hD)) (Nat.lt_irrefl _)
  refine I2.call' (ch := fp) I5.os ⟨fun b o e nn hb hx => ?_, fun b o e nn hb hx => ?_, fun b o e nn hx => ?_, fun b o e hx => ?_, fun b xs e => ?_, fun b o u e => ?_, fun b ps e => ?_⟩ (fun b u e => ?_) I5.bare fun b hb => ⟨(f2 b hb).2.2.2.1, (f2 b hb).2.1, (f2 b hb).2.2.2.2.1, (f2 b hb).2.2.2.2.2⟩
  · exact I5.base.keep b o e nn hb hx
  · exact I5.base.slot b o e nn hb hx
  · rw [upd_ne (ne b o e)]
    exact I5.base.free b o e nn hx
  · exact I5.base.there b o e hx
  · have q := I5.base.tups b xs e
    rw [upd_ne (ne_of_none q hn)]
    exact q
  · have q := I5.base.frzs b o u e
    rw [upd_ne (ne_of_none q hn)]
    exact q
  · obtain ⟨more, q⟩ := I5.base.tbls b ps e
    refine ⟨more, ?_⟩
    rw [upd_ne (ne_of_none q hn)]
    exact q
  · by_cases hb : b = D
    · subst hb
      rw [upd_same] at e
      cases e
      exact ⟨hz, its, n, r, eD⟩
    · rw [upd_ne hb] at e
      exact (I5.hok b u e).stay (fun c v _ q => q) (fun c q => by rw [upd_ne (ne_of_none q hn)]; exact q) fun c xs q => by rw [upd_ne (ne_of_none q hn)]; exact q
end

theorem pick_weak {n : Nat} {outs : List Nat} {σ σ6 : St} (k6 : ∀ i, n ≤ i → σ6[i]? = (pick n outs σ)[i]?) : ∀ (i : Nat) v, (pick n outs σ)[i]? = some (some v) → σ6[i]? = some (some v) := fun i v e => by
  by_cases hi : n ≤ i
  · rw [k6 i hi]; exact e
  · unfold pick at e
    rw [List.getElem?_append_left (by rw [List.length_replicate]; omega), List.getElem?_replicate, if_pos (by omega)] at e
    cases e
section
variable {X : Cx} {tg elt iter : Expr} {ifs : List Expr} {dsc scope : Scope} {tgs N' : List Str} {outs : List Nat} {wi : TI} {g : TG} {tc : TT} {te : TE} {pos : Pos}
theorem comp_block {pins : List (Addr × Obj)} {σ : St} {H2 : Hp} {s2 : Shared} {cl : List (Str × Addr)} {it : Addr} {fp : List Addr} {tn : Nat → Heap → Prop} {J : It} (S : CompScope dsc scope X.N tgs outs N') (hsc : X.env.scope = dsc) (hc : X.calm = true)
    (hg : ∀ cl C s H ex, PG (cxComp X N' scope cl C s H ex) tg g) (hgt : Tgt tgs.length g) (hcs : ∀ cl C s H ex, PCs (cxComp X N' scope cl C s H ex) ifs tc) (he : ∀ cl C s H ex, PE (cxComp X N' scope cl C s H ex) elt te)
    (hcl1 : ∀ x c, cl.lookup x = some c → X.env.cells.lookup x = some c) (hcl2 : ∀ y ∈ scope.names, y.2 = .free → ∃ c, cl.lookup y.1 = some c)
    (I2 : Inv X pins σ H2 s2) (T : Turn X.prog X.w X.K tg J fp it tn) (st2 : tn 0 s2.heap) (f2 : ∀ b ∈ fp, FpOk X pins H2 b)
    {W : Nat → Nat → List V → Hp → Prop} {m0 : Nat} (w0 : W 0 m0 [] H2) {Qf : List V → Hp → Prop}
    (turn : ∀ i m acc H, W i m acc H → (J.stop i H ∧ acc.length ≤ sizeLine ∧ Qf acc H) ∨ (J.go i H ∧ acc.length < sizeLine ∧ ∃ N : List V → Hp → Prop, (∀ acc' H', N acc' H' → ∃ m', m' < m ∧ W (i + 1) m' acc' H') ∧ ∀ x H', J.yld i H x H' → g x (pick tgs.length outs σ) H' fun σ2 H2 => tc σ2 H2 fun b H3 =>
      if b = true then te σ2 H3 fun y H4 => N (acc ++ [y]) H4 else N acc H3))
    {E : Value → Shared → Prop} {RR : Value → Addr → Result → Shared → Prop}
    (fin : ∀ D C s5 mC acc H5, Inv X pins σ (upd H5 D (.lst acc)) s5 → H5 D = none → Qf acc H5 → s5.heap.Ns C mC → FpOk X pins (upd H5 D (.lst acc)) C → RR (.ref D) C (.ok .next) s5) :
    wpAny (model X.prog X.w) X.A (newList []) (fun acc s₃ => wpAny (model X.prog X.w) X.A (newFunctionEnv scope X.env.globals cl [] X.env.qual none .none (some X.env)) (fun cenv s₄ =>
      codeAny (model X.prog X.w) X.A (.compStart (.ListComp elt [⟨tg, iter, ifs, 0⟩] scope pos) 0 (.ref it) acc { cenv with scope := relabel scope X.env }) (RR acc cenv.locals) s₄) E s₃) E s2 := by
  have hfp : ∀ b ∈ fp, b < s2.heap.objs.size := fun b hb => let ⟨o, e, _⟩ := T.obj 0 _ st2 b hb; Heap.lt_size e
  refine wpAny_newObj_type (wpAny_newFunctionEnv S.nocell (by intro y hy; simp at hy) (fun h₁ hns₁ hsb₁ => ?_) S.kind)
  dsimp only at hns₁ hsb₁ ⊢
  generalize hHH : s2.heap.push { cls := .type "list", dict := none, data := .seq ([] : List Value).toArray } = HH at hns₁ hsb₁ ⊢
  have hC : HH.objs.size = s2.heap.objs.size + 1 := by rw [← hHH, Heap.size_push]
  have hDC : s2.heap.objs.size ≠ HH.objs.size := by rw [hC]; exact Nat.ne_of_lt (Nat.lt_succ_self _)
  have hCle : s2.heap.objs.size ≤ HH.objs.size := by rw [hC]; exact Nat.le_succ _
  have old : ∀ b o, s2.heap.get? b = some o → h₁.get? b = some o := fun b o e => hsb₁.extBut b o (by rw [hC]; exact Nat.ne_of_lt (Nat.lt_succ_of_lt (Heap.lt_size e))) (Heap.get?_push_of_some _ (hHH ▸ Heap.get?_push_of_some _ e))
  have hacc : h₁.get? s2.heap.objs.size = some { cls := .type "list", data := .seq ([] : List Value).toArray 0 } := hsb₁.extBut _ _ hDC (Heap.get?_push_of_some _ (hHH ▸ Heap.get?_push_size _ rfl))
  have hDfp : ∀ b ∈ fp, s2.heap.objs.size ≠ b := fun b hb => Nat.ne_of_gt (hfp b hb)
  have fresh2 : H2 s2.heap.objs.size = none := I2.hok.fresh (Nat.le_refl _)
  have I4 := comp_start (tk := s2.toks + ([] : List (Str × Value)).length) S hsc I2 f2 hfp hcl1 hcl2 hCle old hns₁
  have st1 : tn 0 h₁ := T.keep 0 _ _ st2 fun b hb o e => old b o e
  generalize hCC : HH.objs.size = C at *
  generalize hDD : s2.heap.objs.size = D at *
  have nofs : D ∉ (cxComp X N' scope cl C s2 H2 fp).fs := fun z => by
    obtain ⟨_, o, ho, _⟩ := I2.stack.mem (show D ∈ frs X.stack from z)
    have := Heap.lt_size ho
    rw [hDD] at this
    exact Nat.lt_irrefl _ this
  have pinD : ∀ {σ' : St} {H' : Hp} {s' : Shared} {its : List Value} {n : Nat}, Inv (cxComp X N' scope cl C s2 H2 fp) [] σ' H' s' → s'.heap.get? D = some { cls := .type "list", data := .seq its.toArray n } → H' D = none →
      Inv (cxComp X N' scope cl C s2 H2 fp) [(D, { cls := .type "list", data := .seq its.toArray n })] σ' H' s' := fun {σ' H' s' its n} J e hn => J.pins_of fun p hp => by
    have ep : p = (D, { cls := .type "list", data := .seq its.toArray n }) := by simpa using hp
    subst ep
    exact ⟨e, hn, hDC, nofs, fun v z => by cases z⟩
  have stat : ∀ {H' : Hp} {o : Obj}, (∀ b ∈ fp, H' b = none) → ∀ b ∈ fp, FpOk (cxComp X N' scope cl C s2 H2 fp) [(D, o)] H' b := fun {H' o} hn b hb => by
    refine ⟨hn b hb, (I4.ok.exf b hb).1, I4.ok.exfs b hb, .inl hb, (I4.ok.exf b hb).2, fun p hp => ?_⟩
    have hp' : p ∈ ([] : List (Addr × Obj)) ++ [(D, o)] := hp
    have ep : p = (D, o) := by simpa using hp'
    subst ep
    exact hDfp b hb
  have loop : ∀ s₃ : Shared, s₃ = { s2 with heap := h₁, toks := s2.toks + ([] : List (Str × Value)).length } →
      codeAny (model X.prog X.w) X.A (.compLoop (.ListComp elt [⟨tg, iter, ifs, 0⟩] scope pos) 0 (.ref it) (.ref D) (compEnvC scope cl C X.env)) (RR (.ref D) C) s₃ := by
    rintro s₃ rfl
    refine compLoop_any (fun m s' => ∃ i acc H its n, Inv (cxComp X N' scope cl C s2 H2 fp) [(D, { cls := .type "list", data := .seq its.toArray n })] (pick tgs.length outs σ) H s' ∧ tn i s'.heap ∧ (∀ b ∈ fp, H b = none) ∧ Vals acc its ∧ W i m acc H) ?_ m0
      ⟨0, [], H2, [], 0, pinD I4 hacc fresh2, st1, fun b hb => (f2 b hb).1, .nil, w0⟩
    rintro m s' ⟨i, acc, H, its, n, I', st', fr', rD, w'⟩
    rcases turn i m acc H w' with ⟨stop, hz, q⟩ | ⟨go, hz, N, hN, step⟩
    · refine thn (T.done (cxComp X N' scope cl C s2 H2 fp) rfl rfl rfl hc i _ s' _ H _ I' (stat fr') st' stop) fun r s4 ⟨hr, J4⟩ => ?_
      subst hr
      obtain ⟨eD, nD, _⟩ := J4.pin (D, { cls := .type "list", data := .seq its.toArray n }) (List.mem_append_right _ List.mem_cons_self)
      obtain ⟨mC, nsC, _⟩ := J4.loc
      have I5 : Inv X pins σ (upd H D (.lst acc)) s4 := comp_end (D := D) I2 (J4.pins_of (pins' := []) (fun p hp => nomatch hp)) f2 (by rw [hDD]; exact Nat.le_refl _) eD rD hz nD
      refine fin D C s4 mC acc H I5 nD q nsC (I2.fpOk (by rw [hDD]; exact hCle) ?_)
      rw [upd_ne (Ne.symm hDC)]
      exact J4.free
    · refine thn (T.item (cxComp X N' scope cl C s2 H2 fp) rfl rfl rfl hc i _ s' _ H _ I' (stat fr') st' go) fun r s4 ⟨u, hr, h4⟩ => ?_
      subst hr
      dsimp only
      refine thn h4 fun _ s5 ⟨x, H5, I5, r5, y5, st5, fr5⟩ => ?_
      have I5' := I5.pinned (stat fr5) (T.obj _ _ st5)
      refine thn (hg cl C s2 H2 fp _ s5 _ H5 x u _ I5' r5 (hgt x _ H5 _ (step x H5 y5))) fun _ s6 ⟨σ6, H6, I6, q6, l6, k6⟩ => ?_
      refine thn (hcs cl C s2 H2 fp _ s6 σ6 H6 _ I6 q6) fun b s7 ⟨H7, I7, q7⟩ => ?_
      have tail : ∀ {H' : Hp} {s' : Shared}, Inv (cxComp X N' scope cl C s2 H2 fp) ([(D, { cls := .type "list", data := .seq its.toArray n })] ++ pinsAt fp s5.heap) σ6 H' s' → (∀ b ∈ fp, ∀ o, s5.heap.get? b = some o → s'.heap.get? b = some o) ∧ ∀ b ∈ fp, H' b = none := fun {H' s'} J =>
        ⟨fun b hb o e => (J.pin (b, o) (List.mem_append_right _ (List.mem_append_right _ (mem_pinsAt hb e)))).1, fun b hb => by
          obtain ⟨o, e, d⟩ := T.obj _ _ st5 b hb
          exact (J.pin (b, o) (List.mem_append_right _ (List.mem_append_right _ (mem_pinsAt hb e)))).2.1⟩
      cases b with
      | false =>
        rw [if_neg Bool.false_ne_true] at q7 ⊢
        obtain ⟨m', hm, w7⟩ := hN _ _ q7
        obtain ⟨t1, t2⟩ := tail I7
        exact ⟨m', hm, i + 1, acc, H7, its, n, I7.unpinned.weak l6.symm (pick_weak k6), T.keep _ _ _ st5 t1, t2, rD, w7⟩
      | true =>
        rw [if_pos rfl] at q7 ⊢
        refine thn (he cl C s2 H2 fp _ s7 σ6 H7 _ I7 q7) fun v s8 ⟨y, H8, I8, r8, q8⟩ => ?_
        obtain ⟨m', hm, w8⟩ := hN _ _ q8
        obtain ⟨t1, t2⟩ := tail I8
        obtain ⟨eD, nD, _⟩ := I8.pin (D, { cls := .type "list", data := .seq its.toArray n }) (List.mem_append_right _ (List.mem_append_left _ List.mem_cons_self))
        have hl := rD.length
        refine call_meets F.slot_list_append ⟨_, eD, rfl⟩ F.entry_list_append (F.args_list_append_2 _ _) (PySem.list_append D its.toArray n v (by rw [List.size_toArray]; omega)) ⟨eD, ?_⟩
        have q := PySem.IsL.update eD (·.push v)
        have eA : its.toArray.push v = (its ++ [v]).toArray := by simp
        rw [eA] at q
        refine ⟨m', hm, i + 1, acc ++ [y], H8, its ++ [v], _, pinD (Inv.weak (Inv.turned (it := D) (I8.pins_of (pins' := []) (fun p hp => nomatch hp)) (fun b o hb e => (Heap.get?_update_other _ _ (Ne.symm hb)).trans e) nD hDC (.inr (by show s2.heap.objs.size ≤ D; rw [hDD]; exact Nat.le_refl _)) (fun x c e z => ?_) (fun p hp => nomatch hp)) l6.symm (pick_weak k6)) q nD,
          T.keep _ _ _ st5 (fun b hb o e => (Heap.get?_update_other _ _ (hDfp b hb)).trans (t1 b hb o e)), t2, rD.append (.cons r8 .nil), w8⟩
        obtain ⟨v', oc, hoc, hdc⟩ := I8.cell x c e
        rw [z, eD] at hoc
        cases hoc
        cases hdc
  exact codeAny_compStart_list (loop _ rfl) (T.self X.A 0 _ _ _ st1 (loop _ rfl))
theorem pe_comp {N : List Str} (S : CompScope dsc scope N tgs outs N') (hi : PI X tg iter wi) (hg : ∀ cl C s H ex, PG (cxComp X N' scope cl C s H ex) tg g) (hgt : Tgt tgs.length g) (hcs : ∀ cl C s H ex, PCs (cxComp X N' scope cl C s H ex) ifs tc)
    (he : ∀ cl C s H ex, PE (cxComp X N' scope cl C s H ex) elt te) (hN0 : X.N = N := by rfl) (hsc : X.env.scope = dsc := by rfl) (hc : X.calm = true := by rfl) (hs : ∀ x, foldedSetIterable iter X.env x = pure x := by intro _; rfl) :
    PE X (.ListComp elt [⟨tg, iter, ifs, 0⟩] scope pos) (tComp tgs.length outs wi g tc te) := by
  subst hN0
  intro pins s σ H Q I h
  obtain ⟨cl, e1, e2, e3⟩ := closure_of (scope := scope) (env := X.env) (fun y hy hk => I.ok.has y.1 (.inl (by show X.env.scope.names.lookup y.1 = _; rw [hsc]; exact S.free y hy hk)))
  rw [eval_ListComp]
  refine wpAny_comprehension_free (use := none) rfl hs e1 S.kind S.names (wpAny_mono (hi pins s σ H _ I h) (fun xv s1 h1 => wpAny_mono h1 (fun itv s2 h2 => ?_) fun _ _ e => e) fun _ _ e => e)
  obtain ⟨it, fp, tn, J, H2, rfl, I2, T, st2, f2, W, ⟨m0, w0⟩, turn⟩ := h2
  refine comp_block (RR := fun acc C => compPost (model X.prog X.w) X.A X.xe none (EP X pins σ Q) acc C) S hsc hc hg hgt hcs he e2 e3 I2 T st2 f2 w0 (Qf := fun acc H => ∀ l, H l = none → Q (.ref l) (upd H l (.lst acc))) turn ?_
  intro D C s5 mC acc H5 I5 nD q nsC hf
  refine ⟨mC, nsC, fun h' hs' => ⟨.ref D, _, ?_, rfl, q D nD⟩⟩
  exact I5.turned (it := C) (t' := s5.toks) (fun b o hb e => (hs'.2 b hb).trans e) hf.1 hf.2.1 hf.2.2.2.1 hf.2.2.2.2.1 hf.2.2.2.2.2
theorem ps_setC {N : List Str} {i : Nat} {x : Str} {px spos : Pos} (hN : X.N.Nodup) (hx : X.N[i]? = some x) (hl : X.env.scope.names.lookup x = some .local) (S : CompScope dsc scope N tgs outs N') (hi : PI X tg iter wi) (hg : ∀ cl C s H ex, PG (cxComp X N' scope cl C s H ex) tg g) (hgt : Tgt tgs.length g)
    (hcs : ∀ cl C s H ex, PCs (cxComp X N' scope cl C s H ex) ifs tc) (he : ∀ cl C s H ex, PE (cxComp X N' scope cl C s H ex) elt te)
    (hsw : swapsWith (.ListComp elt [⟨tg, iter, ifs, 0⟩] scope pos) (some (.Name x px)) spos.line X.env = pure true := by rfl)
    (hN0 : X.N = N := by rfl) (hsc : X.env.scope = dsc := by rfl) (hc : X.calm = true := by rfl) (hs : ∀ x, foldedSetIterable iter X.env x = pure x := by intro _; rfl) :
    PS X (.Assign [.Name x px] (.ListComp elt [⟨tg, iter, ifs, 0⟩] scope pos) spos) (tAsg (tComp tgs.length outs wi g tc te) (gName i)) := by
  subst hN0
  intro pins s σ H Dn I h
  obtain ⟨cl, e1, e2, e3⟩ := closure_of (scope := scope) (env := X.env) (fun y hy hk => I.ok.has y.1 (.inl (by show X.env.scope.names.lookup y.1 = _; rw [hsc]; exact S.free y hy hk)))
  rw [exec_Assign_Name_used _ _ _ _ hsw]
  refine wpAny_bind (wpAny_standAt (wpAny_bind ?_))
  show wpAny _ X.A (do let _ ← comprehension (.ListComp elt [⟨tg, iter, ifs, 0⟩] scope pos) scope X.env _ (newList []) false (eval iter X.env) (some (assign (.Name x px) X.env))) _ _ s
  refine wpAny_bind (wpAny_mono (wpAny_comprehension_free (use := some (assign (.Name x px) X.env)) (Q := fun _ s' => SP X pins Dn .next s') rfl hs e1 S.kind S.names
    (wpAny_mono (hi pins s σ H _ I h) (fun xv s1 h1 => wpAny_mono h1 (fun itv s2 h2 => ?_) fun _ _ e => e) fun _ _ e => e)) (fun _ s' hq => wpAny_pure (wpAny_pure hq)) fun _ _ e => e)
  obtain ⟨it, fp, tn, J, H2, rfl, I2, T, st2, f2, W, ⟨m0, w0⟩, turn⟩ := h2
  refine comp_block (RR := fun acc C => compPost (model X.prog X.w) X.A X.xe (some (assign (.Name x px) X.env)) (fun _ s' => SP X pins Dn .next s') acc C) S hsc hc hg hgt hcs he e2 e3 I2 T st2 f2 w0
    (Qf := fun acc H => ∀ l, H l = none → Dn.nx (σ.set i (some (.ref l))) (upd H l (.lst acc))) turn ?_
  intro D C s5 mC acc H5 I5 nD q nsC hf
  show wpAny _ X.A (assign (.Name x px) X.env (.ref D)) _ _ _
  refine wpAny_assign_Name (store_ok2 I5 hN hx (.inl hl) (show RelV (.ref D) (.ref D) from rfl) (fun s' I' ⟨a, sb, ha⟩ => ?_) (.inr hl))
  have hCa : C ≠ a := by
    rcases ha with ha | ha
    · rw [ha]; exact hf.2.1
    · exact Ne.symm (hf.2.2.2.2.1 x a ha)
  refine ⟨mC, nsC.sameBut sb hCa, fun h' hs' => ⟨_, _, I'.turned (it := C) (t' := s'.toks) (fun b o hb e => (hs'.2 b hb).trans e) hf.1 hf.2.1 hf.2.2.2.1 hf.2.2.2.2.1 hf.2.2.2.2.2, q D nD⟩⟩
end

theorem comp_list {K : PySem.W.Frag} {a : Addr} {xs : List V} {g : TG} {tc : TT} {te : TE} {σ' : St} {H1 : Hp} {Fin : List V → Hp → Prop} (Pv : Nat → List V → Hp → Prop) (hz : xs.length ≤ 1000000) (h0 : Pv 0 [] H1) (hl : ∀ i acc H, i ≤ xs.length → Pv i acc H → SqL K H a xs ∧ acc.length ≤ i)
    (hs : ∀ i x acc H, xs[i]? = some x → Pv i acc H → g x σ' H fun σ2 H2 => tc σ2 H2 fun b H3 => if b = true then te σ2 H3 fun y H4 => Pv (i + 1) (acc ++ [y]) H4 else Pv (i + 1) acc H3) (hd : ∀ acc H, Pv xs.length acc H → Fin acc H) :
    ∃ W : Nat → Nat → List V → Hp → Prop, (∃ m, W 0 m [] H1) ∧ ∀ i m acc H, W i m acc H → ((Itl K a).stop i H ∧ acc.length ≤ sizeLine ∧ Fin acc H) ∨
      ((Itl K a).go i H ∧ acc.length < sizeLine ∧ ∃ N : List V → Hp → Prop, (∀ acc' H', N acc' H' → ∃ m', m' < m ∧ W (i + 1) m' acc' H') ∧ ∀ x H', (Itl K a).yld i H x H' → g x σ' H' fun σ2 H2 => tc σ2 H2 fun b H3 => if b = true then te σ2 H3 fun y H4 => N (acc ++ [y]) H4 else N acc H3) := by
  have zl : (1000000 : Nat) < sizeLine := by rw [sizeLine_eq]; decide
  refine ⟨fun i m acc H => m = xs.length - i ∧ i ≤ xs.length ∧ Pv i acc H, ⟨xs.length, by simp, Nat.zero_le _, h0⟩, ?_⟩
  rintro i m acc H ⟨rfl, hi, p⟩
  obtain ⟨q, al⟩ := hl i acc H hi p
  by_cases hlt : i < xs.length
  · refine .inr ⟨⟨xs, xs[i], q, by simp [hlt]⟩, by omega, Pv (i + 1), fun acc' H' p' => ⟨xs.length - (i + 1), by omega, rfl, hlt, p'⟩, fun x H' y => ?_⟩
    obtain ⟨e, y⟩ := y
    subst e
    exact hs i x acc _ (y xs q) p
  · have e : i = xs.length := by omega
    subst e
    exact .inl ⟨⟨xs, q, Nat.le_refl _⟩, by omega, hd acc H p⟩
theorem comp_range {lo : Int} {n : Nat} {g : TG} {tc : TT} {te : TE} {σ' : St} {H1 : Hp} {Fin : List V → Hp → Prop} (Pv : Nat → List V → Hp → Prop) (hz : n ≤ 1000000) (h0 : Pv 0 [] H1) (hl : ∀ i acc H, i ≤ n → Pv i acc H → acc.length ≤ i)
    (hs : ∀ i acc H, i < n → Pv i acc H → g (.int (lo + i)) σ' H fun σ2 H2 => tc σ2 H2 fun b H3 => if b = true then te σ2 H3 fun y H4 => Pv (i + 1) (acc ++ [y]) H4 else Pv (i + 1) acc H3) (hd : ∀ acc H, Pv n acc H → Fin acc H) :
    ∃ W : Nat → Nat → List V → Hp → Prop, (∃ m, W 0 m [] H1) ∧ ∀ i m acc H, W i m acc H → ((Itr lo n).stop i H ∧ acc.length ≤ sizeLine ∧ Fin acc H) ∨
      ((Itr lo n).go i H ∧ acc.length < sizeLine ∧ ∃ N : List V → Hp → Prop, (∀ acc' H', N acc' H' → ∃ m', m' < m ∧ W (i + 1) m' acc' H') ∧ ∀ x H', (Itr lo n).yld i H x H' → g x σ' H' fun σ2 H2 => tc σ2 H2 fun b H3 => if b = true then te σ2 H3 fun y H4 => N (acc ++ [y]) H4 else N acc H3) := by
  have zl : (1000000 : Nat) < sizeLine := by rw [sizeLine_eq]; decide
  refine ⟨fun i m acc H => m = n - i ∧ i ≤ n ∧ Pv i acc H, ⟨n, by simp, Nat.zero_le _, h0⟩, ?_⟩
  rintro i m acc H ⟨rfl, hi, p⟩
  have al := hl i acc H hi p
  by_cases hlt : i < n
  · refine .inr ⟨hlt, by omega, Pv (i + 1), fun acc' H' p' => ⟨n - (i + 1), by omega, rfl, hlt, p'⟩, fun x H' y => ?_⟩
    obtain ⟨e, y⟩ := y
    subst e y
    exact hs i acc _ hlt p
  · have e : i = n := by omega
    subst e
    exact .inl ⟨Nat.le_refl _, by omega, hd acc H p⟩
end L2

set_option Elab.async false
set_option linter.all false
set_option maxRecDepth 100000
set_option maxHeartbeats 4000000
namespace L2
open PySem PySem.Spec PyProof.Rows
def SIter (t : Bool) (h : Heap) (it l : Addr) (k : Nat) : Prop := if t = true then h.IsTupleIter it l k else h.IsListIter it l k
def SSeq (t : Bool) (h : Heap) (l : Addr) (xs : Array Value) : Prop := if t = true then h.IsTuple l xs else h.IsList l xs
theorem SIter.obj {t : Bool} {h : Heap} {it l : Addr} {k : Nat} (x : SIter t h it l k) : ∃ o, h.get? it = some o ∧ ∀ v, o.data ≠ .cell v := by
  cases t
  · obtain ⟨o, e, _, d⟩ := (show h.IsListIter it l k from x); exact ⟨o, e, fun v z => by rw [d] at z; cases z⟩
  · obtain ⟨o, e, _, d⟩ := (show h.IsTupleIter it l k from x); exact ⟨o, e, fun v z => by rw [d] at z; cases z⟩
theorem SIter.to {t : Bool} {h h' : Heap} {it l : Addr} {k : Nat} (x : SIter t h it l k) (e : ∀ o, h.get? it = some o → h'.get? it = some o) : SIter t h' it l k := by
  cases t
  · obtain ⟨o, a, r⟩ := (show h.IsListIter it l k from x); exact ⟨o, e o a, r⟩
  · obtain ⟨o, a, r⟩ := (show h.IsTupleIter it l k from x); exact ⟨o, e o a, r⟩
theorem SSeq.to {t : Bool} {h h' : Heap} {l : Addr} {xs : Array Value} (x : SSeq t h l xs) (e : ∀ o, h.get? l = some o → h'.get? l = some o) : SSeq t h' l xs := by
  cases t
  · obtain ⟨o, a, r⟩ := (show h.IsList l xs from x); exact ⟨o, e o a, r⟩
  · obtain ⟨o, a, r⟩ := (show h.IsTuple l xs from x); exact ⟨o, e o a, r⟩
section
variable {prog : Program} {w : World} {A : Around} {E : Value → Shared → Prop} {s : Shared}
theorem nextOf_tup {it l : Addr} {i : Nat} {items : Array Value} {x : Value} {Q : Value → Shared → Prop} (hit : s.heap.IsTupleIter it l i) (hl : s.heap.IsTuple l items) (hx : items[i]? = some x)
    (hQ : ∀ h', h'.IsTupleIter it l (i + 1) → Heap.SameBut it s.heap h' → Q x { s with heap := h' }) : wpAny (model prog w) A (Builtin.SmallTypes.nextOf (.ref it)) Q E s := by
  obtain ⟨o, ho, hc, hd⟩ := id hit; obtain ⟨ol, hol, _, nl, hdl⟩ := hl
  unfold Builtin.SmallTypes.nextOf
  refine wpAny_bind (wpAny_callSpecial?_slot (name := Str.ofString "__next__") hit.typeIs F.slot_tuple_iterator_next (wpAny_call_entry F.slot_tuple_iterator_next hit.typeIs F.entry_tuple_iterator_next ?_ (F.args_tuple_iterator_next_1 _)))
  show wpAny _ _ (field (.ref it) 0 >>= _) _ _ s; refine wpAny_bind (wpAny_field ho hd (x := .ref l) rfl ?_)
  show wpAny _ _ (if (Value.ref l == Value.none) = true then _ else _) _ _ s; rw [if_neg (show ¬ ((Value.ref l == Value.none) = true) from Bool.false_ne_true)]
  show wpAny _ _ (field (.ref it) 1 >>= _) _ _ s; refine wpAny_bind (wpAny_field ho hd (x := .int i 0) rfl ?_)
  show wpAny _ _ (seqItems? (.ref l) >>= _) _ _ s; refine wpAny_bind (wpAny_seqItems hol hdl ?_); simp only [Int.toNat_natCast, hx]
  exact wpAny_bind (wpAny_setField ho hd (by simp) (wpAny_pure ⟨x, rfl, wpAny_pure (hQ _ ⟨_, Heap.get?_update_self _ ho (Obj.isFreed_of_fields (Obj.data_mapFields hd _)), (Obj.cls_mapFields ..).trans hc, by rw [Obj.data_mapFields hd]; simp [rawInt]⟩ (Heap.SameBut.update ..))⟩))
theorem nextOf_tupE {it l : Addr} {i : Nat} {items : Array Value} {Q : Value → Shared → Prop} (hh : A.handled = none) (hit : s.heap.IsTupleIter it l i) (hl : s.heap.IsTuple l items) (hx : items[i]? = none)
    (hE : ∀ h' e, Heap.ExtBut it s.heap h' → (∃ o, h'.get? e = some o ∧ o.cls = .type "StopIteration") → E (.ref e) { s with heap := h' }) : wpAny (model prog w) A (Builtin.SmallTypes.nextOf (.ref it)) Q E s := by
  obtain ⟨o, ho, hc, hd⟩ := id hit; obtain ⟨ol, hol, _, nl, hdl⟩ := hl
  unfold Builtin.SmallTypes.nextOf
  refine wpAny_bind (wpAny_callSpecial?_slot (name := Str.ofString "__next__") hit.typeIs F.slot_tuple_iterator_next (wpAny_call_entry F.slot_tuple_iterator_next hit.typeIs F.entry_tuple_iterator_next ?_ (F.args_tuple_iterator_next_1 _)))
  show wpAny _ _ (field (.ref it) 0 >>= _) _ _ s; refine wpAny_bind (wpAny_field ho hd (x := .ref l) rfl ?_)
  show wpAny _ _ (if (Value.ref l == Value.none) = true then _ else _) _ _ s; rw [if_neg (show ¬ ((Value.ref l == Value.none) = true) from Bool.false_ne_true)]
  show wpAny _ _ (field (.ref it) 1 >>= _) _ _ s; refine wpAny_bind (wpAny_field ho hd (x := .int i 0) rfl ?_)
  show wpAny _ _ (seqItems? (.ref l) >>= _) _ _ s; refine wpAny_bind (wpAny_seqItems hol hdl ?_); simp only [Int.toNat_natCast, hx]
  refine wpAny_bind (wpAny_rule (wpAny_bind (wpAny_setField ho hd (by simp) ?_))); show wpAny _ _ (newExc (.type "StopIteration") [] >>= _) _ _ _
  refine wpAny_bind ?_; simp only [newExc, newTuple]; refine wpAny_bind (wpAny_newObj_type ?_ (by size_fits))
  refine wpAny_bind (m := firstArgMember _ _) (wpAny_of_eq (a := Value.none) (by first | rfl | (simp only [firstArgMember]; rfl)) ?_); refine wpAny_newObj_type ?_ (by size_fits); simp only [raiseNew]
  refine wpAny_bind (wpAny_handled ?_); first | rw [show A.in1.handled = none from hh] | rw [hh]
  refine wpAny_bind (wpAny_pure (wpAny_throw ?_)); exact hE _ _ (((Heap.SameBut.update ..).extBut.push _).push _) ⟨_, Heap.get?_push_size _ rfl, rfl⟩
theorem nextOf_s {t : Bool} {it l : Addr} {i : Nat} {items : Array Value} {x : Value} {Q : Value → Shared → Prop} (hit : SIter t s.heap it l i) (hl : SSeq t s.heap l items) (hx : items[i]? = some x)
    (hQ : ∀ h', SIter t h' it l (i + 1) → Heap.SameBut it s.heap h' → Q x { s with heap := h' }) : wpAny (model prog w) A (Builtin.SmallTypes.nextOf (.ref it)) Q E s := by
  cases t
  · exact wpAny_nextOf_list_item hit hl hx hQ
  · exact nextOf_tup hit hl hx hQ
theorem nextOf_sE {t : Bool} {it l : Addr} {i : Nat} {items : Array Value} {Q : Value → Shared → Prop} (hh : A.handled = none) (hit : SIter t s.heap it l i) (hl : SSeq t s.heap l items) (hx : items[i]? = none)
    (hE : ∀ h' e, Heap.ExtBut it s.heap h' → (∃ o, h'.get? e = some o ∧ o.cls = .type "StopIteration") → E (.ref e) { s with heap := h' }) : wpAny (model prog w) A (Builtin.SmallTypes.nextOf (.ref it)) Q E s := by
  cases t
  · exact wpAny_nextOf_list_end hh hit hl hx hE
  · exact nextOf_tupE hh hit hl hx hE
theorem zipS_item {t1 t2 : Bool} {z TI TO i1 i2 l1 l2 : Addr} {k1 k2 : Nat} {xs ys : Array Value} {x y a b : Value} {Q : Value → Shared → Prop} (D : ZipApart z TI TO i1 i2 l1 l2)
    (hz : IsZip s.heap z TI TO .none) (hTI : IsPair s.heap TI (.ref i1) (.ref i2)) (hTO : IsPair s.heap TO a b)
    (h1 : SIter t1 s.heap i1 l1 k1) (h2 : SIter t2 s.heap i2 l2 k2) (hl1 : SSeq t1 s.heap l1 xs) (hl2 : SSeq t2 s.heap l2 ys) (hx : xs[k1]? = some x) (hy : ys[k2]? = some y)
    (hQ : ∀ h', IsZip h' z TI TO (rawInt s.heap.objs.size) → IsPair h' TO x y → SIter t1 h' i1 l1 (k1 + 1) → SIter t2 h' i2 l2 (k2 + 1) → IsPair h' s.heap.objs.size x y → h'.objs.size = s.heap.objs.size + 1 →
      (∀ c o, c ≠ z → c ≠ TO → c ≠ i1 → c ≠ i2 → s.heap.get? c = some o → h'.get? c = some o) → Q (.ref s.heap.objs.size) { s with heap := h' }) :
    wpAny (model prog w) A (Builtin.«zip.__next__» ⟨[.ref z], []⟩) (fun fin s' => ∃ v, fin = .done (.ret v) ∧ Q v s') E s := by
  show wpAny _ _ (field (.ref z) 2 >>= _) _ _ _; refine wpAny_bind (wpAny_field hz rfl (x := .bool false) rfl ?_)
  show wpAny _ _ (field (.ref z) 3 >>= _) _ _ _; refine wpAny_bind (wpAny_field hz rfl (x := .ref TI) rfl ?_); refine wpAny_bind (wpAny_seqItems hTI rfl ?_)
  show wpAny _ _ (Builtin.SmallTypes.ownedTupleIsFree (.ref z) >>= _) _ _ _; refine wpAny_bind ?_; unfold Builtin.SmallTypes.ownedTupleIsFree
  refine wpAny_bind (wpAny_field hz rfl (x := .none) rfl (wpAny_pure ?_)); simp only [if_true]; refine wpAny_bind (wpAny_rule ?_)
  refine wpAny_bind (wpAny_field hz rfl (x := .ref TO) rfl ?_); refine wpAny_bind (wpAny_setField_rec hz (by simp) fun q1 hz₁ s1 => ?_); replace hz₁ : IsZip q1 z TI TO .ellipsis := hz₁
  refine wpAny_bind ?_; simp only [List.zipIdx_cons, List.zipIdx_nil, List.forIn_cons, List.forIn_nil]
  refine wpAny_bind (wpAny_bind (wpAny_onRaise ?_)); show wpAny _ _ (Builtin.SmallTypes.nextOf (.ref i1) >>= _) _ _ _
  refine wpAny_bind (nextOf_s (h1.to fun o e => s1.extBut _ _ D.i1z e) (hl1.to fun o e => s1.extBut _ _ D.l1z e) hx fun q2 a2 s2 => wpAny_pure ?_)
  have b2 : IsPair q2 TO a b := s2.extBut _ _ D.TOi1 (s1.extBut _ _ D.TOz hTO)
  refine wpAny_bind (wpAny_seqItems b2 rfl ?_); refine wpAny_bind (wpAny_updateSeq_pair b2 fun q3 b3 s3 => ?_); replace b3 : IsPair q3 TO x b := b3
  refine wpAny_bind (wpAny_letGo (wpAny_pure ?_)); refine wpAny_bind (wpAny_bind (wpAny_onRaise ?_)); show wpAny _ _ (Builtin.SmallTypes.nextOf (.ref i2) >>= _) _ _ _
  refine wpAny_bind (nextOf_s (h2.to fun o e => s3.extBut _ _ D.TOi2.symm (s2.extBut _ _ D.i12.symm (s1.extBut _ _ D.i2z e))) (hl2.to fun o e => s3.extBut _ _ D.l2TO (s2.extBut _ _ D.l2i1 (s1.extBut _ _ D.l2z e))) hy fun q4 a4 s4 => wpAny_pure ?_)
  have b4 : IsPair q4 TO x b := s4.extBut _ _ D.TOi2 b3
  refine wpAny_bind (wpAny_seqItems b4 rfl ?_); refine wpAny_bind (wpAny_updateSeq_pair b4 fun q5 b5 s5 => ?_); replace b5 : IsPair q5 TO x y := b5
  refine wpAny_bind (wpAny_letGo (wpAny_pure (wpAny_pure ?_))); refine wpAny_bind (wpAny_seqItems b5 rfl ?_); refine wpAny_bind (wpAny_newTuple ?_)
  have hsz : q5.objs.size = s.heap.objs.size := by rw [s5.1, s4.1, s3.1, s2.1, s1.1]
  have z5 : IsZip q5 z TI TO .ellipsis := s5.extBut _ _ D.TOz.symm (s4.extBut _ _ D.i2z.symm (s3.extBut _ _ D.TOz.symm (s2.extBut _ _ D.i1z.symm hz₁)))
  have k5 : ∀ c o, c ≠ z → c ≠ TO → c ≠ i1 → c ≠ i2 → s.heap.get? c = some o → q5.get? c = some o := fun c o c1 c2 c3 c4 e => s5.extBut _ _ c2 (s4.extBut _ _ c4 (s3.extBut _ _ c2 (s2.extBut _ _ c3 (s1.extBut _ _ c1 e))))
  have d1 : SIter t1 q5 i1 l1 (k1 + 1) := a2.to fun o e => s5.extBut _ _ D.TOi1.symm (s4.extBut _ _ D.i12 (s3.extBut _ _ D.TOi1.symm e))
  have d2 : SIter t2 q5 i2 l2 (k2 + 1) := a4.to fun o e => s5.extBut _ _ D.TOi2.symm e
  have zlt : z < q5.objs.size := Heap.lt_size z5
  show wpAny _ _ (Builtin.SmallTypes.ownedTupleHandOut (.ref z) (.ref q5.objs.size) >>= _) _ _ _; refine wpAny_bind ?_; unfold Builtin.SmallTypes.ownedTupleHandOut
  have z6 : IsZip (q5.push { cls := .type "tuple", data := .seq #[x, y] }) z TI TO .ellipsis := Heap.get?_push_of_some _ z5
  refine wpAny_bind (wpAny_setField_rec z6 (by simp) fun q7 z7 s7 => ?_); replace z7 : IsZip q7 z TI TO (rawInt q5.objs.size) := z7
  refine wpAny_setField_rec z7 (by simp) fun q8 z8 s8 => ?_; replace z8 : IsZip q8 z TI TO (rawInt q5.objs.size) := z8
  have up : ∀ c o, c ≠ z → q5.get? c = some o → q8.get? c = some o := fun c o c1 e => s8.extBut _ _ c1 (s7.extBut _ _ c1 (Heap.get?_push_of_some _ e))
  have t8 : IsPair q8 q5.objs.size x y := s8.extBut _ _ (Nat.ne_of_gt zlt) (s7.extBut _ _ (Nat.ne_of_gt zlt) (Heap.get?_push_size _ rfl))
  have n8 : q8.objs.size = q5.objs.size + 1 := by rw [s8.1, s7.1, Heap.size_push]
  rw [hsz] at z8 t8 n8; refine wpAny_pure ⟨_, rfl, ?_⟩; show Q (.ref q5.objs.size) _; rw [hsz]
  exact hQ q8 z8 (up _ _ D.TOz b5) (d1.to fun o e => up _ o D.i1z e) (d2.to fun o e => up _ o D.i2z e) t8 n8 fun c o c1 c2 c3 c4 e => up c o c1 (k5 c o c1 c2 c3 c4 e)
theorem zipS_end {t1 t2 : Bool} {z TI TO i1 i2 l1 l2 : Addr} {k1 k2 : Nat} {xs ys : Array Value} {a b : Value} {Q : Fin → Shared → Prop} (hh : A.handled = none) (D : ZipApart z TI TO i1 i2 l1 l2)
    (hz : IsZip s.heap z TI TO .none) (hTI : IsPair s.heap TI (.ref i1) (.ref i2)) (hTO : IsPair s.heap TO a b)
    (h1 : SIter t1 s.heap i1 l1 k1) (h2 : SIter t2 s.heap i2 l2 k2) (hl1 : SSeq t1 s.heap l1 xs) (hl2 : SSeq t2 s.heap l2 ys) (hend : xs[k1]? = none ∨ ys[k2]? = none)
    (hE : ∀ h' e, (∀ c o, c ≠ z → c ≠ TO → c ≠ i1 → c ≠ i2 → s.heap.get? c = some o → h'.get? c = some o) → (∃ o, h'.get? e = some o ∧ o.cls = .type "StopIteration") → E (.ref e) { s with heap := h' }) :
    wpAny (model prog w) A (Builtin.«zip.__next__» ⟨[.ref z], []⟩) Q E s := by
  show wpAny _ _ (field (.ref z) 2 >>= _) _ _ _; refine wpAny_bind (wpAny_field hz rfl (x := .bool false) rfl ?_)
  show wpAny _ _ (field (.ref z) 3 >>= _) _ _ _; refine wpAny_bind (wpAny_field hz rfl (x := .ref TI) rfl ?_); refine wpAny_bind (wpAny_seqItems hTI rfl ?_)
  show wpAny _ _ (Builtin.SmallTypes.ownedTupleIsFree (.ref z) >>= _) _ _ _; refine wpAny_bind ?_; unfold Builtin.SmallTypes.ownedTupleIsFree
  refine wpAny_bind (wpAny_field hz rfl (x := .none) rfl (wpAny_pure ?_)); simp only [if_true]; refine wpAny_bind (wpAny_rule ?_)
  refine wpAny_bind (wpAny_field hz rfl (x := .ref TO) rfl ?_); refine wpAny_bind (wpAny_setField_rec hz (by simp) fun q1 hz₁ s1 => ?_); replace hz₁ : IsZip q1 z TI TO .ellipsis := hz₁
  refine wpAny_bind ?_; simp only [List.zipIdx_cons, List.zipIdx_nil, List.forIn_cons, List.forIn_nil]
  refine wpAny_bind (wpAny_bind (wpAny_onRaise ?_)); show wpAny _ _ (Builtin.SmallTypes.nextOf (.ref i1) >>= _) _ _ _
  cases hx : xs[k1]? with
  | none =>
    refine wpAny_bind (nextOf_sE hh (h1.to fun o e => s1.extBut _ _ D.i1z e) (hl1.to fun o e => s1.extBut _ _ D.l1z e) hx fun q2 e s2 he => ?_)
    obtain ⟨oe, hoe, hce⟩ := he
    have z2 : IsZip q2 z TI TO .ellipsis := s2 _ _ D.i1z.symm hz₁
    have ez : e ≠ z := fun x => by subst x; rw [z2] at hoe; cases hoe; simp at hce
    exact wpAny_setField_rec z2 (by simp) fun q3 _ s3 => hE q3 e (fun c o c1 _ c3 _ x => s3.extBut _ _ c1 (s2 _ _ c3 (s1.extBut _ _ c1 x))) ⟨oe, s3.extBut _ _ ez hoe, hce⟩
  | some x =>
    have hy : ys[k2]? = none := by rcases hend with h | h; rw [hx] at h; cases h; exact h
    refine wpAny_bind (nextOf_s (h1.to fun o e => s1.extBut _ _ D.i1z e) (hl1.to fun o e => s1.extBut _ _ D.l1z e) hx fun q2 a2 s2 => wpAny_pure ?_)
    have b2 : IsPair q2 TO a b := s2.extBut _ _ D.TOi1 (s1.extBut _ _ D.TOz hTO)
    refine wpAny_bind (wpAny_seqItems b2 rfl ?_); refine wpAny_bind (wpAny_updateSeq_pair b2 fun q3 b3 s3 => ?_)
    refine wpAny_bind (wpAny_letGo (wpAny_pure ?_)); refine wpAny_bind (wpAny_bind (wpAny_onRaise ?_)); show wpAny _ _ (Builtin.SmallTypes.nextOf (.ref i2) >>= _) _ _ _
    refine wpAny_bind (nextOf_sE hh (h2.to fun o e => s3.extBut _ _ D.TOi2.symm (s2.extBut _ _ D.i12.symm (s1.extBut _ _ D.i2z e))) (hl2.to fun o e => s3.extBut _ _ D.l2TO (s2.extBut _ _ D.l2i1 (s1.extBut _ _ D.l2z e))) hy fun q4 e s4 he => ?_)
    obtain ⟨oe, hoe, hce⟩ := he
    have z4 : IsZip q4 z TI TO .ellipsis := s4 _ _ D.i2z.symm (s3.extBut _ _ D.TOz.symm (s2.extBut _ _ D.i1z.symm hz₁))
    have ez : e ≠ z := fun x => by subst x; rw [z4] at hoe; cases hoe; simp at hce
    exact wpAny_setField_rec z4 (by simp) fun q5 _ s5 => hE q5 e (fun c o c1 c2 c3 c4 x => s5.extBut _ _ c1 (s4 _ _ c4 (s3.extBut _ _ c2 (s2.extBut _ _ c3 (s1.extBut _ _ c1 x))))) ⟨oe, s5.extBut _ _ ez hoe, hce⟩
theorem pyNext_zipS {t1 t2 : Bool} {z TI TO i1 i2 l1 l2 : Addr} {k1 k2 : Nat} {xs ys : Array Value} {x y a b : Value} {Q : Option Value → Shared → Prop} (D : ZipApart z TI TO i1 i2 l1 l2)
    (hz : IsZip s.heap z TI TO .none) (hTI : IsPair s.heap TI (.ref i1) (.ref i2)) (hTO : IsPair s.heap TO a b)
    (h1 : SIter t1 s.heap i1 l1 k1) (h2 : SIter t2 s.heap i2 l2 k2) (hl1 : SSeq t1 s.heap l1 xs) (hl2 : SSeq t2 s.heap l2 ys) (hx : xs[k1]? = some x) (hy : ys[k2]? = some y)
    (hQ : ∀ h', IsZip h' z TI TO (rawInt s.heap.objs.size) → IsPair h' TO x y → SIter t1 h' i1 l1 (k1 + 1) → SIter t2 h' i2 l2 (k2 + 1) → IsPair h' s.heap.objs.size x y → h'.objs.size = s.heap.objs.size + 1 →
      (∀ c o, c ≠ z → c ≠ TO → c ≠ i1 → c ≠ i2 → s.heap.get? c = some o → h'.get? c = some o) → Q (some (.ref s.heap.objs.size)) { s with heap := h' }) :
    wpAny (model prog w) A (pyNext (.ref z)) Q E s := by
  have hT : s.TypeIs (.ref z) "zip" := ⟨_, hz, rfl⟩
  unfold pyNext
  exact wpAny_bind (wpAny_attempt (wpAny_callSpecial?_slot (name := Str.ofString "__next__") hT F.slot_zip_next (wpAny_call_entry F.slot_zip_next hT F.entry_zip_next (zipS_item D hz hTI hTO h1 h2 hl1 hl2 hx hy fun h' a1 a2 a3 a4 a5 a6 a7 => wpAny_pure (hQ h' a1 a2 a3 a4 a5 a6 a7)) (F.args_zip_next_1 _))))
theorem pyNext_zipSE {t1 t2 : Bool} {z TI TO i1 i2 l1 l2 : Addr} {k1 k2 : Nat} {xs ys : Array Value} {a b : Value} {Q : Option Value → Shared → Prop} (hh : A.handled = none) (D : ZipApart z TI TO i1 i2 l1 l2)
    (hz : IsZip s.heap z TI TO .none) (hTI : IsPair s.heap TI (.ref i1) (.ref i2)) (hTO : IsPair s.heap TO a b)
    (h1 : SIter t1 s.heap i1 l1 k1) (h2 : SIter t2 s.heap i2 l2 k2) (hl1 : SSeq t1 s.heap l1 xs) (hl2 : SSeq t2 s.heap l2 ys) (hend : xs[k1]? = none ∨ ys[k2]? = none)
    (hQ : ∀ h', (∀ c o, c ≠ z → c ≠ TO → c ≠ i1 → c ≠ i2 → s.heap.get? c = some o → h'.get? c = some o) → Q none { s with heap := h' }) : wpAny (model prog w) A (pyNext (.ref z)) Q E s := by
  have hT : s.TypeIs (.ref z) "zip" := ⟨_, hz, rfl⟩
  unfold pyNext
  refine wpAny_bind (wpAny_attempt (wpAny_callSpecial?_slot (name := Str.ofString "__next__") hT F.slot_zip_next (wpAny_call_entry F.slot_zip_next hT F.entry_zip_next (zipS_end hh D hz hTI hTO h1 h2 hl1 hl2 hend fun h' e hk he => ?_) (F.args_zip_next_1 _))))
  obtain ⟨o, ho, hc⟩ := he
  exact wpAny_bind (wpAny_isInstance (T := "StopIteration") (b := true) ⟨o, ho, hc⟩ isSubtype_stop (wpAny_pure (hQ _ hk)))
end
abbrev itName (t : Bool) : String := if t = true then "tuple_iterator" else "list_iterator"
abbrev zq1 (t1 : Bool) (h : Heap) (l1 : Addr) : Heap := h.push { cls := .type (itName t1), data := .fields #[.ref l1, .int 0 0] }
abbrev zq2 (t1 t2 : Bool) (h : Heap) (l1 l2 : Addr) : Heap := (zq1 t1 h l1).push { cls := .type (itName t2), data := .fields #[.ref l2, .int 0 0] }
abbrev zq3 (t1 t2 : Bool) (h : Heap) (l1 l2 : Addr) : Heap := (zq2 t1 t2 h l1 l2).push { cls := .type "tuple", data := .seq #[.ref h.objs.size, .ref (zq1 t1 h l1).objs.size] }
abbrev zq4 (t1 t2 : Bool) (h : Heap) (l1 l2 : Addr) : Heap := (zq3 t1 t2 h l1 l2).push { cls := .type "tuple", data := .seq #[.none, .none] }
abbrev zq5 (t1 t2 : Bool) (h : Heap) (l1 l2 : Addr) : Heap := (zq4 t1 t2 h l1 l2).push { cls := .type "zip", data := .fields #[.none, .bool false, .bool false, .ref (zq2 t1 t2 h l1 l2).objs.size, .ref (zq3 t1 t2 h l1 l2).objs.size] }
theorem pyIter_s {prog : Program} {w : World} {A : Around} {E : Value → Shared → Prop} {s : Shared} {t : Bool} {l : Addr} {xs : Array Value} {Q : Value → Shared → Prop} (hl : SSeq t s.heap l xs)
    (hQ : Q (.ref s.heap.objs.size) { s with heap := zq1 t s.heap l }) : wpAny (model prog w) A (pyIter (.ref l)) Q E s := by
  cases t
  · exact wpAny_pyIter_list hl hQ
  · exact wpAny_pyIter_tuple hl hQ
theorem zipS_new (t1 t2 : Bool) (l1 l2 : Addr) (xs ys : Array Value) :
    Meets (Builtin.«zip.__new__» ⟨[.type "zip", .ref l1, .ref l2], []⟩) (fun _ R s => SSeq t1 s.heap l1 xs ∧ SSeq t2 s.heap l2 ys ∧ R (.ok (.ret (.ref (zq4 t1 t2 s.heap l1 l2).objs.size))) { s with heap := zq5 t1 t2 s.heap l1 l2 }) :=
  .of_wp fun prog w A R s h => by
    obtain ⟨hp, g, d, tk, os⟩ := s
    obtain ⟨hl1, hl2, h⟩ := h
    have hsub := sub_zip
    have hL1 : SSeq t1 (Shared.heap ⟨hp, g, d, tk, os⟩) l1 xs := hl1
    have hL2 : SSeq t2 (Shared.heap ⟨zq1 t1 hp l1, g, d, tk, os⟩) l2 ys := hl2.to fun o e => Heap.get?_push_of_some _ e
    wp_walk using pyIter_s hL1, pyIter_s hL2
    exact ⟨_, rfl, h⟩
theorem call_zipS {prog : Program} {w : World} {A : Around} {E : Value → Shared → Prop} {s : Shared} {t1 t2 : Bool} {l1 l2 : Addr} {xs ys : Array Value} {Q : Value → Shared → Prop} (hl1 : SSeq t1 s.heap l1 xs) (hl2 : SSeq t2 s.heap l2 ys)
    (h : ∀ h', IsZip h' (s.heap.objs.size + 4) (s.heap.objs.size + 2) (s.heap.objs.size + 3) .none → IsPair h' (s.heap.objs.size + 2) (.ref s.heap.objs.size) (.ref (s.heap.objs.size + 1)) →
      IsPair h' (s.heap.objs.size + 3) .none .none → SIter t1 h' s.heap.objs.size l1 0 → SIter t2 h' (s.heap.objs.size + 1) l2 0 → (∀ c o, s.heap.get? c = some o → h'.get? c = some o) → Q (.ref (s.heap.objs.size + 4)) { s with heap := h' }) :
    wpAny (model prog w) A (call (.type "zip") [.ref l1, .ref l2]) Q E s := by
  refine callType_new F.called_zip (by decide) (F.typeCall_zip_2 _ _) (F.newCall_zip_2 _ _) (fun obj => F.args_object_init_3 obj _ _) F.entry_zip_new (zipS_new t1 t2 l1 l2 xs ys) ⟨hl1, hl2, ?_⟩
  have z1 : (zq1 t1 s.heap l1).objs.size = s.heap.objs.size + 1 := Heap.size_push ..
  have z2 : (zq2 t1 t2 s.heap l1 l2).objs.size = s.heap.objs.size + 2 := by rw [Heap.size_push, z1]
  have z3 : (zq3 t1 t2 s.heap l1 l2).objs.size = s.heap.objs.size + 3 := by rw [Heap.size_push, z2]
  have z4 : (zq4 t1 t2 s.heap l1 l2).objs.size = s.heap.objs.size + 4 := by rw [Heap.size_push, z3]
  have g5 : (zq5 t1 t2 s.heap l1 l2).get? (zq4 t1 t2 s.heap l1 l2).objs.size = some _ := Heap.get?_push_size _ rfl
  have g4 : (zq5 t1 t2 s.heap l1 l2).get? (zq3 t1 t2 s.heap l1 l2).objs.size = some _ := Heap.get?_push_of_some _ (Heap.get?_push_size _ rfl)
  have g3 : (zq5 t1 t2 s.heap l1 l2).get? (zq2 t1 t2 s.heap l1 l2).objs.size = some _ := Heap.get?_push_of_some _ (Heap.get?_push_of_some _ (Heap.get?_push_size _ rfl))
  have g2 : (zq5 t1 t2 s.heap l1 l2).get? (zq1 t1 s.heap l1).objs.size = some _ := Heap.get?_push_of_some _ (Heap.get?_push_of_some _ (Heap.get?_push_of_some _ (Heap.get?_push_size _ rfl)))
  have g1 : (zq5 t1 t2 s.heap l1 l2).get? s.heap.objs.size = some _ := Heap.get?_push_of_some _ (Heap.get?_push_of_some _ (Heap.get?_push_of_some _ (Heap.get?_push_of_some _ (Heap.get?_push_size _ rfl))))
  show _ ∧ _
  rw [z2, z3, z4] at g5; rw [z1, z2] at g3; rw [z3] at g4; rw [z1] at g2; rw [z4]
  refine ⟨⟨_, g5, rfl⟩, h _ g5 g3 g4 ?_ ?_ fun c o x => Heap.get?_push_of_some _ (Heap.get?_push_of_some _ (Heap.get?_push_of_some _ (Heap.get?_push_of_some _ (Heap.get?_push_of_some _ x))))⟩
  · cases t1 <;> exact ⟨_, g1, rfl, rfl⟩
  · cases t2 <;> exact ⟨_, g2, rfl, rfl⟩
section
variable {prog : Program} {w : World} {A : Around} {R : Result → Shared → Prop} {I : Addr} {fp wr : List Addr} {n : Nat} {P : Nat → Value → Prop} {St : Nat → Heap → Prop}
theorem maxK_loop (kw : List (Str × Value)) (W : Walks prog w A.in1 I fp wr n P St) (bt : Nat → Nat → Bool) (hcmp : CmpOf prog w A.in1 .Gt P bt) (S : Addr) (hSf : S ∉ fp) :
    ∀ (k j : Nat) (s : Shared) (vb : Value) (c : Nat), n - (j + 1) = k → j + 1 ≤ n → St (j + 1) s.heap → P (argBest bt j) vb → s.heap.get? S = some { cls := .type "list", dict := none, data := .seq #[vb, vb] c, slots := #[] } →
    (∀ v h' tk, P (argBest bt (n - 1)) v → (∀ b o, b ∉ wr → b ≠ S → s.heap.get? b = some o → h'.get? b = some o) → R (.ok (.ret v)) { s with heap := h', toks := tk }) →
    codeAny (model prog w) A (.builtin "max.loop" ⟨[.ref I, .none, .ref S], kw⟩) R s := by
  have hSw : S ∉ wr := fun h => hSf (W.sub _ h)
  have hname : (toString "max" ++ toString ".loop" : String) = "max.loop" := by decide
  intro k
  induction k with
  | zero =>
    intro j s vb c hk hj hst hPb hS hR
    have hin : j + 1 = n := by omega
    refine codeAny_builtin F.entry_max_loop ?_; rw [Around.under_plainId F.plain_max_loop _]
    show wpAny _ A.in1 (seqItems? (.ref S) >>= _) _ _ s; refine wpAny_bind (wpAny_seqItems hS rfl ?_)
    show wpAny _ A.in1 (tryCatch (pyNext (.ref I)) _ >>= _) _ _ s; refine wpAny_bind (wpAny_tryCatch (W.done s _ _ (hin ▸ hst) fun h' tk hk' => ?_))
    have hS' := hk' S _ hSw hS
    show wpAny _ A.in1 (updateSeq S (fun _ => #[]) >>= _) _ _ _; refine wpAny_bind ?_; refine wpAny_updateSeq hS' rfl (wpAny_bind (wpAny_letGo (wpAny_pure ?_)))
    exact hR vb _ tk (by rw [← hin]; exact hPb) fun b o hbw hbS e => (Heap.get?_update_other _ _ (Ne.symm hbS)).trans (hk' b o hbw e)
  | succ k ih =>
    intro j s vb c hk hj hst hPb hS hR
    have hlt : j + 1 < n := by omega
    refine codeAny_builtin F.entry_max_loop ?_; rw [Around.under_plainId F.plain_max_loop _]
    show wpAny _ A.in1 (seqItems? (.ref S) >>= _) _ _ s; refine wpAny_bind (wpAny_seqItems hS rfl ?_)
    show wpAny _ A.in1 (tryCatch (pyNext (.ref I)) _ >>= _) _ _ s; refine wpAny_bind (wpAny_tryCatch (W.item (j + 1) s _ _ hlt hst fun v h' tk hP hst' hk' => ?_))
    have hS' := hk' S _ hSw hS
    show wpAny _ A.in1 (tryCatch (holding [v, v] (richCompare .Gt v vb >>= _)) _ >>= _) _ _ _; refine wpAny_bind (wpAny_tryCatch (wpAny_holding (wpAny_bind (hcmp (j + 1) (argBest bt j) v vb _ _ _ hP hPb ?_))))
    refine wpAny_bind (wpAny_holding (wpAny_truthy_bool ?_)); refine wpAny_bind (wpAny_letGo (wpAny_pure ?_))
    cases hb : bt (j + 1) (argBest bt j) with
    | true =>
      simp only [if_true]; refine wpAny_bind ?_; refine wpAny_updateSeq hS' rfl (wpAny_bind (wpAny_letGo ?_)); rw [hname]
      refine wpAny_pure ⟨plainId_quiet F.plain_max_loop _, ih (j + 1) _ v _ (by omega) hlt (W.frame _ _ _ hst' fun b hbf o e => ?_) (by simp only [argBest, hb, if_true]; exact hP) (Heap.get?_update_self _ hS' rfl) fun v' h'' tk'' hP' hk'' => ?_⟩
      · exact (Heap.get?_update_other _ _ (fun h : S = b => hSf (by rw [h]; exact hbf))).trans e
      · exact hR v' h'' tk'' hP' fun b o hbw hbS e => hk'' b o hbw hbS ((Heap.get?_update_other _ _ (Ne.symm hbS)).trans (hk' b o hbw e))
    | false =>
      simp only [Bool.false_eq_true, if_false]; refine wpAny_bind (wpAny_letGo ?_); rw [hname]
      refine wpAny_pure ⟨plainId_quiet F.plain_max_loop _, ih (j + 1) _ vb c (by omega) hlt hst' (by simp only [argBest, hb, Bool.false_eq_true, if_false]; exact hPb) hS' fun v' h'' tk'' hP' hk'' => ?_⟩
      exact hR v' h'' tk'' hP' fun b o hbw hbS e => hk'' b o hbw hbS (hk' b o hbw e)
theorem maxK_first (kw : List (Str × Value)) (W : Walks prog w A.in1 I fp wr n P St) (bt : Nat → Nat → Bool) (hcmp : CmpOf prog w A.in1 .Gt P bt) (S : Addr) (hSf : S ∉ fp) (hn : 0 < n) {s : Shared} {c : Nat} (hst : St 0 s.heap)
    (hS : s.heap.get? S = some { cls := .type "list", dict := none, data := .seq #[] c, slots := #[] })
    (hR : ∀ v h' tk, P (argBest bt (n - 1)) v → (∀ b o, b ∉ wr → b ≠ S → s.heap.get? b = some o → h'.get? b = some o) → R (.ok (.ret v)) { s with heap := h', toks := tk }) :
    codeAny (model prog w) A (.builtin "max.loop" ⟨[.ref I, .none, .ref S], kw⟩) R s := by
  have hSw : S ∉ wr := fun h => hSf (W.sub _ h)
  have hname : (toString "max" ++ toString ".loop" : String) = "max.loop" := by decide
  refine codeAny_builtin F.entry_max_loop ?_; rw [Around.under_plainId F.plain_max_loop _]
  show wpAny _ A.in1 (seqItems? (.ref S) >>= _) _ _ s; refine wpAny_bind (wpAny_seqItems hS rfl ?_)
  show wpAny _ A.in1 (tryCatch (pyNext (.ref I)) _ >>= _) _ _ s; refine wpAny_bind (wpAny_tryCatch (W.item 0 s _ _ hn hst fun v h' tk hP hst' hk' => ?_))
  have hS' := hk' S _ hSw hS
  show wpAny _ A.in1 (updateSeq S (fun _ => #[v, v]) >>= _) _ _ _; refine wpAny_bind ?_; refine wpAny_updateSeq hS' rfl ?_; rw [hname]
  refine wpAny_pure ⟨plainId_quiet F.plain_max_loop _, maxK_loop kw W bt hcmp S hSf _ 0 _ v _ rfl hn (W.frame _ _ _ hst' fun b hbf o e => ?_) hP (Heap.get?_update_self _ hS' rfl) fun v' h'' tk'' hP' hk'' => ?_⟩
  · exact (Heap.get?_update_other _ _ (fun h : S = b => hSf (by rw [h]; exact hbf))).trans e
  · exact hR v' h'' tk'' hP' fun b o hbw hbS e => hk'' b o hbw hbS ((Heap.get?_update_other _ _ (Ne.symm hbS)).trans (hk' b o hbw e))
theorem maxK_none {d : Value} {nm : Str} (W : Walks prog w A.in1 I fp wr 0 P St) (S : Addr) (hSf : S ∉ fp) {s : Shared} {c : Nat} (hst : St 0 s.heap)
    (hS : s.heap.get? S = some { cls := .type "list", dict := none, data := .seq #[] c, slots := #[] })
    (hR : ∀ h' tk, (∀ b o, b ∉ wr → s.heap.get? b = some o → h'.get? b = some o) → R (.ok (.ret d)) { s with heap := h', toks := tk }) :
    codeAny (model prog w) A (.builtin "max.loop" ⟨[.ref I, .none, .ref S], [(nm, d)]⟩) R s := by
  have hSw : S ∉ wr := fun h => hSf (W.sub _ h)
  refine codeAny_builtin F.entry_max_loop ?_; rw [Around.under_plainId F.plain_max_loop _]
  show wpAny _ A.in1 (seqItems? (.ref S) >>= _) _ _ s; refine wpAny_bind (wpAny_seqItems hS rfl ?_)
  show wpAny _ A.in1 (tryCatch (pyNext (.ref I)) _ >>= _) _ _ s; refine wpAny_bind (wpAny_tryCatch (W.done s _ _ hst fun h' tk hk' => ?_))
  refine wpAny_bind (wpAny_rule (wpAny_pure ?_))
  exact hR h' tk hk'
end
theorem args_maxD (a d : Value) : argsOk "max" ⟨[a], [(Str.ofString "default", d)]⟩ := by unfold argsOk; kernel_rfl

def Sq (t : Bool) (K : PySem.W.Frag) (H : Hp) (a : Addr) (xs : List V) : Prop := if t = true then SqT K H a xs else SqL K H a xs
theorem Inv.sseq {X : Cx} {pins : List (Addr × Obj)} {σ : St} {H : Hp} {s : Shared} {t : Bool} {a : Addr} {xs : List V} (I : Inv X pins σ H s) (h : Sq t X.K H a xs) : ∃ its : List Value, Vals xs its ∧ SSeq t s.heap a its.toArray ∧ xs.length ≤ sizeLine := by
  cases t
  · obtain ⟨its, r, p, z⟩ := I.list h
    exact ⟨its, r, p.isList, z⟩
  · obtain ⟨its, r, p, z⟩ := I.tuple h
    exact ⟨its, r, p, z⟩
theorem Inv.sseq_inj {X : Cx} {pins : List (Addr × Obj)} {σ : St} {H : Hp} {s : Shared} {t : Bool} {a : Addr} {xs ys : List V} (I : Inv X pins σ H s) (h : Sq t X.K H a xs) (h' : Sq t X.K H a ys) : xs = ys := by
  cases t
  · exact I.list_inj h h'
  · exact I.tuple_inj h h'
def Itz (t1 t2 : Bool) (K : PySem.W.Frag) (a b : Addr) : It :=
  ⟨fun i H => ∃ xs ys x y, Sq t1 K H a xs ∧ Sq t2 K H b ys ∧ xs[i]? = some x ∧ ys[i]? = some y,
   fun i H v H' => ∃ p x y, v = .ref p ∧ H p = none ∧ H' = upd H p (.tup [x, y]) ∧ ∀ xs ys, Sq t1 K H a xs → Sq t2 K H b ys → xs[i]? = some x ∧ ys[i]? = some y,
   fun i H => ∃ xs ys, Sq t1 K H a xs ∧ Sq t2 K H b ys ∧ (xs.length ≤ i ∨ ys.length ≤ i)⟩
section
variable {X : Cx} {pins : List (Addr × Obj)} {σ : St} {H : Hp} {s : Shared}
theorem Inv.turnedL {ch : List Addr} {h' : Heap} {t' : Nat} (I : Inv X pins σ H s) (hf : ∀ b ∈ ch, FpOk X pins H b) (k : ∀ b o, b ∉ ch → s.heap.get? b = some o → h'.get? b = some o) : Inv X pins σ H { s with heap := h', toks := t' } := by
  have nch : ∀ b u, H b = some u → b ∉ ch := fun b u e z => by rw [(hf b z).1] at e; cases e
  refine I.step (g' := s.gens) (d' := s.drawn) (ch := ch) (fun b hb => ⟨(hf b hb).2.2.2.1, (hf b hb).2.1, (hf b hb).2.2.2.2.1, (hf b hb).2.2.2.2.2⟩) (fun b o _ _ hc e _ => k b o hc e) (fun b o _ _ hc e _ => ⟨o.slots, k b o hc e⟩) (fun _ _ _ _ n => n)
    (fun b o hc e => ⟨o, k b o hc e⟩) (fun _ _ e => e) (fun _ _ _ e => e) (fun b ps e => ⟨#[], by rw [e]; simp⟩) (fun m hm => ?_) (fun b u e => ?_) I.bare
  · obtain ⟨o, es, ep, ho, r⟩ := hm
    exact ⟨o, es, ep, k _ o (fun z => (hf _ z).2.1 rfl) ho, r⟩
  · refine (I.hok b u e).stay (fun c v hc q => k c v ?_ q) (fun _ q => q) fun _ _ q => q
    rcases hc with z | z
    · rw [z]; exact nch b u e
    · exact nch c _ z
theorem Inv.turnedT {ch : List Addr} {h' : Heap} {t' : Nat} {T : Addr} {xs : List V} {its : List Value} (I : Inv X pins σ H s) (hf : ∀ b ∈ ch, FpOk X pins H b) (k : ∀ b o, b ∉ ch → s.heap.get? b = some o → h'.get? b = some o)
    (hT : s.heap.objs.size ≤ T) (r : Vals xs its) (hz : xs.length ≤ sizeLine) (e : IsTup h' T its.toArray) : Inv X pins σ (upd H T (.tup xs)) { s with heap := h', toks := t' } := by
  have nT : H T = none := I.hok.fresh hT
  have nch : ∀ b u, H b = some u → b ∉ ch := fun b u e z => by rw [(hf b z).1] at e; cases e
  have neT : ∀ b o, s.heap.get? b = some o → b ≠ T := fun b o e z => absurd (Nat.lt_of_lt_of_le (Heap.lt_size e) (by rw [z]; exact hT)) (Nat.lt_irrefl _)
  refine I.step (g' := s.gens) (d' := s.drawn) (ch := ch) (fun b hb => ⟨(hf b hb).2.2.2.1, (hf b hb).2.1, (hf b hb).2.2.2.2.1, (hf b hb).2.2.2.2.2⟩) (fun b o _ _ hc e _ => k b o hc e) (fun b o _ _ hc e _ => ⟨o.slots, k b o hc e⟩)
    (fun b o _ e n => by rw [upd_ne (neT b o e)]; exact n) (fun b o hc e => ⟨o, k b o hc e⟩) (fun b ys q => by rw [upd_ne (ne_of_none q nT)]; exact q) (fun b o u q => by rw [upd_ne (ne_of_none q nT)]; exact q)
    (fun b ps q => ⟨#[], by rw [upd_ne (ne_of_none q nT), q]; simp⟩) (fun m hm => ?_) (fun b u q => ?_) I.bare
  · obtain ⟨o, es, ep, ho, rr⟩ := hm
    exact ⟨o, es, ep, k _ o (fun z => (hf _ z).2.1 rfl) ho, rr⟩
  · by_cases hb : b = T
    · subst hb
      rw [upd_same] at q
      cases q
      exact ⟨hz, its, r, e⟩
    · rw [upd_ne hb] at q
      refine (I.hok b u q).stay (fun c v hc z => k c v ?_ z) (fun c z => by rw [upd_ne (ne_of_none z nT)]; exact z) fun c ys z => by rw [upd_ne (ne_of_none z nT)]; exact z
      rcases hc with z | z
      · rw [z]; exact nch b u q
      · exact nch c _ z
end
theorem turn_zip {P : Program} {w : World} {K : PySem.W.Frag} {es : List Expr} {kk : Nat} {tpos : Pos} {t1 t2 : Bool} {a b z TI TO i1 i2 : Addr} (D : ZipApart z TI TO i1 i2 a b) :
    Turn P w K (.Tuple es kk tpos) (Itz t1 t2 K a b) [z, TI, TO, i1, i2] z (fun i h => IsZip h z TI TO .none ∧ IsPair h TI (.ref i1) (.ref i2) ∧ (∃ u v, IsPair h TO u v) ∧ SIter t1 h i1 a i ∧ SIter t2 h i2 b i) where
  mem := by simp
  obj := fun i h st c hb => by
    obtain ⟨hz, hTI, ⟨u, v, hTO⟩, h1, h2⟩ := st
    simp only [List.mem_cons, List.not_mem_nil, or_false] at hb
    rcases hb with rfl | rfl | rfl | rfl | rfl
    · exact ⟨_, hz, fun v e => nomatch e⟩
    · exact ⟨_, hTI, fun v e => nomatch e⟩
    · exact ⟨_, hTO, fun v e => nomatch e⟩
    · exact h1.obj
    · exact h2.obj
  keep := fun i h h' st k => by
    obtain ⟨hz, hTI, ⟨u, v, hTO⟩, h1, h2⟩ := st
    exact ⟨k z (by simp) _ hz, k TI (by simp) _ hTI, ⟨u, v, k TO (by simp) _ hTO⟩, h1.to fun o e => k i1 (by simp) o e, h2.to fun o e => k i2 (by simp) o e⟩
  item := by
    intro X hP hw hK hc i pins s σ H E I hf st hg
    subst hP hw hK
    obtain ⟨xs, ys, x, y, q1, q2, e1, e2⟩ := hg
    obtain ⟨its1, r1, p1, z1⟩ := I.sseq q1
    obtain ⟨its2, r2, p2, z2⟩ := I.sseq q2
    obtain ⟨u1, eu1, ru1⟩ := r1.get e1
    obtain ⟨u2, eu2, ru2⟩ := r2.get e2
    obtain ⟨hz, hTI, ⟨u, v, hTO⟩, h1, h2⟩ := st
    have hf4 : ∀ c ∈ [z, TO, i1, i2], FpOk X pins H c := fun c hc => hf c (by simp only [List.mem_cons, List.not_mem_nil, or_false] at hc ⊢; rcases hc with rfl | rfl | rfl | rfl <;> simp)
    have lt : ∀ {c o}, s.heap.get? c = some o → s.heap.objs.size ≠ c := fun e => Nat.ne_of_gt (Heap.lt_size e)
    refine pyNext_zipS D hz hTI hTO h1 h2 p1 p2 (x := u1) (y := u2) (by simpa using eu1) (by simpa using eu2) fun h' a1 a2 a3 a4 a5 a6 hk => ?_
    refine ⟨_, rfl, wpAny_letOwnedTupleGo_zip a1 fun h'' b1 b2 => ?_⟩
    have b2' : Heap.SameBut z h' h'' := b2
    have kk : ∀ c o, c ∉ [z, TO, i1, i2] → s.heap.get? c = some o → h''.get? c = some o := fun c o hc e => by
      simp only [List.mem_cons, List.not_mem_nil, or_false, not_or] at hc
      exact b2'.extBut _ _ hc.1 (hk c o hc.1 hc.2.1 hc.2.2.1 hc.2.2.2 e)
    have tT : h''.get? s.heap.objs.size = some { cls := .type "tuple", data := .seq #[u1, u2] } := b2'.extBut _ _ (lt hz) a5
    have nT : H s.heap.objs.size = none := I.hok.fresh (Nat.le_refl _)
    have I' : Inv X pins σ (upd H s.heap.objs.size (.tup [x, y])) { s with heap := h'' } := I.turnedT (t' := s.toks) (its := [u1, u2]) hf4 kk (Nat.le_refl _) (.cons ru1 (.cons ru2 .nil)) (by show 2 ≤ sizeLine; decide) ⟨_, tT, rfl, _, rfl⟩
    refine ⟨.ref s.heap.objs.size, upd H s.heap.objs.size (.tup [x, y]), I', rfl,
      ⟨_, x, y, rfl, nT, rfl, fun xs' ys' w1 w2 => ⟨by rw [I.sseq_inj w1 q1]; exact e1, by rw [I.sseq_inj w2 q2]; exact e2⟩⟩, ⟨b1, b2'.extBut _ _ D.TIz (hk _ _ D.TIz D.TITO D.TIi1 D.TIi2 hTI), ⟨_, _, b2'.extBut _ _ D.TOz a2⟩, a3.to fun o e => b2'.extBut _ _ D.i1z e, a4.to fun o e => b2'.extBut _ _ D.i2z e⟩, fun c hc => ?_⟩
    obtain ⟨o, eo, _⟩ : ∃ o, s.heap.get? c = some o ∧ True := by
      simp only [List.mem_cons, List.not_mem_nil, or_false] at hc
      rcases hc with rfl | rfl | rfl | rfl | rfl
      · exact ⟨_, hz, trivial⟩
      · exact ⟨_, hTI, trivial⟩
      · exact ⟨_, hTO, trivial⟩
      · obtain ⟨o, e, _⟩ := h1.obj; exact ⟨o, e, trivial⟩
      · obtain ⟨o, e, _⟩ := h2.obj; exact ⟨o, e, trivial⟩
    rw [upd_ne (Ne.symm (lt eo))]
    exact (hf c hc).1
  done := by
    intro X hP hw hK hc i pins s σ H E I hf st hg
    subst hP hw hK
    obtain ⟨xs, ys, q1, q2, e⟩ := hg
    obtain ⟨its1, r1, p1, z1⟩ := I.sseq q1
    obtain ⟨its2, r2, p2, z2⟩ := I.sseq q2
    obtain ⟨hz, hTI, ⟨u, v, hTO⟩, h1, h2⟩ := st
    have hf4 : ∀ c ∈ [z, TO, i1, i2], FpOk X pins H c := fun c hc => hf c (by simp only [List.mem_cons, List.not_mem_nil, or_false] at hc ⊢; rcases hc with rfl | rfl | rfl | rfl <;> simp)
    have l1 := r1.length
    have l2 := r2.length
    refine pyNext_zipSE (I.ok.hd hc) D hz hTI hTO h1 h2 p1 p2 ?_ fun h' hk => ⟨rfl, I.turnedL (t' := s.toks) hf4 fun c o hc e => ?_⟩
    · rcases e with e | e
      · exact .inl (by simp; omega)
      · exact .inr (by simp; omega)
    · simp only [List.mem_cons, List.not_mem_nil, or_false, not_or] at hc
      exact hk c o hc.1 hc.2.1 hc.2.2.1 hc.2.2.2 e
  self := fun _ _ _ _ _ st h => wpAny_pyIter_zip st.1 h
theorem bt_zip : bootBuiltins "zip" = some (.type "zip") := by decide +kernel
def iZip (t1 t2 : Bool) (K : PySem.W.Frag) (ta : TA) : TI := fun σ H R => ta σ H fun vs H1 => ∃ a b, vs = [.ref a, .ref b] ∧ (∃ xs, Sq t1 K H1 a xs) ∧ (∃ ys, Sq t2 K H1 b ys) ∧ R (Itz t1 t2 K a b) H1
theorem pi_zip {X : Cx} {ea eb : Expr} {ta : TA} {p pos : Pos} {es : List Expr} {kk : Nat} {tpos : Pos} {t1 t2 : Bool} (hg : Gl X "zip") (hm : X.mg "zip" = none) (ha : PA X [ea, eb] ta) (hs : starEach [ea, eb] X.env = [(false, eval ea X.env), (false, eval eb X.env)] := by rfl) (hs2 : starEach [eb] X.env = [(false, eval eb X.env)] := by rfl) :
    PI X (.Tuple es kk tpos) (.Call (.Name "zip" p) [ea, eb] [] pos) (iZip t1 t2 X.K ta) := by
  intro pins s σ H R I h
  refine Call_ (ld_blt I hg hm bt_zip (PyProof.Rows.callWith_type1 (thn (ha pos pins s σ H _ I h) fun us s1 ⟨vs, H1, I1, r1, q1⟩ => ?_) (by rw [hs, hs2]) (by rw [hs2]; rfl)))
  obtain ⟨a, b, e, ⟨xs, w1⟩, ⟨ys, w2⟩, q⟩ := q1
  subst e
  obtain ⟨u, v, rfl, ru, rv⟩ := r1.two
  cases ru
  cases rv
  obtain ⟨its1, r1, p1, z1⟩ := I1.sseq w1
  obtain ⟨its2, r2, p2, z2⟩ := I1.sseq w2
  have lt1 : a < s1.heap.objs.size := by cases t1 <;> (obtain ⟨_, e, _⟩ := p1; exact Heap.lt_size e)
  have lt2 : b < s1.heap.objs.size := by cases t2 <;> (obtain ⟨_, e, _⟩ := p2; exact Heap.lt_size e)
  refine call_zipS p1 p2 fun h' hz hTI hTO hi1 hi2 hk => wpAny_pyIter_zip hz ?_
  refine ⟨_, _, _, _, H1, rfl, I1.kept (t' := s1.toks) hk, turn_zip (t1 := t1) (t2 := t2) (zipApart_new lt1 lt2), ⟨hz, hTI, ⟨_, _, hTO⟩, hi1, hi2⟩, fun c hc => ?_, q⟩
  have hle : s1.heap.objs.size ≤ c := by
    simp only [List.mem_cons, List.not_mem_nil, or_false] at hc
    rcases hc with rfl | rfl | rfl | rfl | rfl <;> omega
  exact I1.fpOk hle (I1.hok.fresh hle)
section
variable {X : Cx}
theorem call_maxL (hc : X.calm = true) : CallR X (.builtin "max") (fun xs H Q => ∃ p ns, xs = [.ref p] ∧ SqL X.K H p (ns.map V.int) ∧ ns ≠ [] ∧ ∀ M, M ∈ ns → (∀ a ∈ ns, a ≤ M) → Q (.int M) H) := by
  intro pins s σ H xs us Q I r h
  obtain ⟨p, ns, rfl, hq, hne, q⟩ := h
  obtain ⟨u, rfl, rx⟩ := vals1 r
  cases rx
  obtain ⟨its, r', pl, hz⟩ := I.list hq
  have hi := intsAre_of r'
  obtain ⟨zs, e⟩ := hi.allInts.items
  have hns : ns = zs.toList.map (·.1) := by rw [← hi.numsOf, ← nums_intItems, ← e]
  have hsz : 0 < zs.size := by
    have h3 := List.length_pos_iff.mpr hne
    rw [hns, List.length_map, Array.length_toList] at h3
    exact h3
  have pl' := pl.isList
  rw [e] at pl'
  refine max_intList (I.ok.hd hc) pl' hsz fun v h' tk hv hk => ?_
  obtain ⟨t, rfl⟩ := intItems_at hv
  obtain ⟨h1, h2⟩ := argBest_gt (numAt zs) (zs.size - 1)
  refine ⟨.int _, H, I.kept hk, ⟨t, rfl⟩, q _ ?_ fun a ha => ?_⟩
  · rw [hns, numAt_eq]
    exact getD_mem (by rw [List.length_map, Array.length_toList]; omega)
  · rw [hns] at ha
    obtain ⟨j, hj, rfl⟩ := mem_getD ha
    rw [List.length_map, Array.length_toList] at hj
    rw [← numAt_eq]
    exact h2 j (by omega)
def CallKR (X : Cx) (f : Value) (ks : List Str) (r : List V → List V → Hp → VK → Prop) : Prop :=
  ∀ (pins : List (Addr × Obj)) (s : Shared) (σ : St) (H : Hp) (xs zs : List V) (us ws : List Value) (Q : VK), Inv X pins σ H s → Vals xs us → Vals zs ws → r xs zs H Q →
    wpAny (model X.prog X.w) X.A (call f us (ks.zip ws)) (EP X pins σ Q) X.xe s
def tCBK (r : List V → List V → Hp → VK → Prop) (t tk : TA) : TE := fun σ H Q => t σ H fun vs H1 => tk σ H1 fun zs H2 => r vs zs H2 Q
theorem pe_callBK {x : Str} {p pos : Pos} {e : Expr} {es : List Expr} {kws : List Keyword} {t tk : TA} {id : String} {ks : List Str} {r : List V → List V → Hp → VK → Prop} (hc : CallKR X (.builtin id) ks r) (hg : Gl X x) (hm : X.mg x = none) (hv : bootBuiltins x = some (.builtin id))
    (ha : PA X (e :: es) t) (hkw : PK X kws tk) (hks : (backToKw pos (keywordEach kws X.env)).filterMap (·.1) = ks := by rfl) (hn : x ≠ "__name__" := by decide) (hdb : (x == ("__debug__" : Str)) = false := by decide)
    (he : backTo pos (starEach (e :: es) X.env) = (false, eval e X.env) :: backTo pos (starEach es X.env) := by rfl) (hpl : (backTo pos (starEach (e :: es) X.env)).any (·.1) = false := by rfl)
    (hall : (backToKw pos (keywordEach kws X.env)).all (·.1.isSome) = true := by rfl) (hkn : (backToKw pos (keywordEach kws X.env)).any (·.1.isNone) = false := by rfl) : PE X (.Call (.Name x p) (e :: es) kws pos) (tCBK r t tk) := by
  intro pins s σ H Q I h
  refine wpAny_Call_Name_kw (ld_blt I hg hm hv ?_ hn hdb)
  refine PyProof.Rows.callWith_kw (thn (ha pos pins s σ H _ I h) fun us s1 ⟨vs, H1, I1, r1, q1⟩ => thn (hkw pos pins s1 σ H1 _ I1 q1) fun ws s2 ⟨zs, H2, I2, r2, q2⟩ => ?_) he hpl hall hkn
  rw [hks]
  exact hc pins s2 σ H2 vs zs us ws Q I2 r1 r2 q2
theorem call_maxD (hc : X.calm = true) : CallKR X (.builtin "max") ["default"] (fun xs zs H Q => ∃ p ns d, xs = [.ref p] ∧ zs = [.int d] ∧ SqL X.K H p (ns.map V.int) ∧ (ns = [] → Q (.int d) H) ∧ (∀ M, M ∈ ns → (∀ a ∈ ns, a ≤ M) → Q (.int M) H)) := by
  intro pins s σ H xs zs us ws Q I r rz h
  obtain ⟨p, ns, d, rfl, rfl, hq, q0, q⟩ := h
  obtain ⟨u, rfl, rx⟩ := vals1 r
  cases rx
  obtain ⟨v, rfl, td, rfl⟩ := vals1 rz
  obtain ⟨its, r', pl, hz⟩ := I.list hq
  have hi := intsAre_of r'
  obtain ⟨ys, e⟩ := hi.allInts.items
  have hns : ns = ys.toList.map (·.1) := by rw [← hi.numsOf, ← nums_intItems, ← e]
  have pl' := pl.isList
  rw [e] at pl'
  have hname : (toString "max" ++ toString ".loop" : String) = "max.loop" := by decide
  have hh : X.A.handled = none := I.ok.hd hc
  refine kmk_tree PySem.F.kind_max PySem.F.plain_max PySem.F.entry_max (args_maxD _ _) ?_
  show wpAny _ X.A.in1 (Builtin.Builtins.bindParams "max" ["key", "default"] 0 ⟨[], [(Str.ofString "default", .int d td)]⟩ >>= _) _ _ s
  refine wpAny_bind (wpAny_of_eq (show Builtin.Builtins.bindParams "max" ["key", "default"] 0 ⟨[], [(Str.ofString "default", .int d td)]⟩ = pure [none, some (.int d td)] from rfl) ?_)
  refine wpAny_bind (wpAny_pure ?_)
  refine wpAny_bind (iter_intList pl' fun s2 e2 st hfp hlI => ?_)
  subst e2
  refine wpAny_bind (wpAny_newObj_type ?_)
  have W := Walks.list (prog := X.prog) (w := X.w) (A := X.A.in1) hh s.heap.objs.size p hlI (intItems ys)
  rw [hname]
  have old : ∀ b o, s.heap.get? b = some o → b ≠ s.heap.objs.size := fun b o e => Nat.ne_of_lt (Heap.lt_size e)
  refine wpAny_pure ⟨plainId_quiet PySem.F.plain_max_loop _, ?_⟩
  have hSf : (s.heap.push { cls := .type "list_iterator", data := .fields #[.ref p, .int 0 0] }).objs.size ∉ [s.heap.objs.size, p] := fun hm => Nat.lt_irrefl _ (hfp _ hm)
  have st' := W.frame 0 _ ((s.heap.push { cls := .type "list_iterator", data := .fields #[.ref p, .int 0 0] }).push { cls := .type "list", dict := none, data := .seq ([] : List Value).toArray }) st fun b _ o e => Heap.get?_push_of_some _ e
  by_cases hn : 0 < ys.size
  · refine maxK_first _ W (fun i j => decide (numAt ys i > numAt ys j)) (CmpOf.ints_gt (numAt ys) (fun _ _ => intItems_at)) _ hSf (by simpa [intItems] using hn) st' (Heap.get?_push_size _ rfl) fun v h' tk hP hk => ?_
    have hv : (intItems ys)[argBest (fun i j => decide (numAt ys i > numAt ys j)) (ys.size - 1)]? = some v := by simpa [intItems] using hP
    obtain ⟨t, rfl⟩ := intItems_at hv
    obtain ⟨h1, h2⟩ := argBest_gt (numAt ys) (ys.size - 1)
    refine ⟨.int _, H, I.kept fun b o e => hk b o (by simpa using old b o e) ?_ (Heap.get?_push_of_some _ (Heap.get?_push_of_some _ e)), ⟨t, rfl⟩, q _ ?_ fun a ha => ?_⟩
    · have := Heap.lt_size e
      rw [Heap.size_push]
      exact Nat.ne_of_lt (Nat.lt_succ_of_lt this)
    · rw [hns, numAt_eq]
      exact getD_mem (by rw [List.length_map, Array.length_toList]; omega)
    · rw [hns] at ha
      obtain ⟨j, hj, rfl⟩ := mem_getD ha
      rw [List.length_map, Array.length_toList] at hj
      rw [← numAt_eq]
      exact h2 j (by omega)
  · have e0 : (intItems ys).size = 0 := by rw [intItems, Array.size_map]; omega
    rw [e0] at W
    refine maxK_none W _ hSf st' (Heap.get?_push_size _ rfl) fun h' tk hk => ?_
    refine ⟨.int d, H, I.kept fun b o e => hk b o (by simpa using old b o e) (Heap.get?_push_of_some _ (Heap.get?_push_of_some _ e)), ⟨td, rfl⟩, q0 ?_⟩
    rw [hns]
    have : ys.toList.length = 0 := by rw [Array.length_toList]; omega
    rw [List.eq_nil_of_length_eq_zero this]
    rfl
theorem op_eqNil (hu : X.A.units < cLine) : OpR X (compareOp .Eq) (fun x y H Q => ∃ p b xs, x = .ref p ∧ y = .ref b ∧ SqL X.K H p xs ∧ SqL X.K H b [] ∧ Q (.bl xs.isEmpty) H) := by
  intro pins s σ H x y v u Q I rx ry h
  obtain ⟨p, b, xs, rfl, rfl, h1, h2, q⟩ := h
  cases rx
  cases ry
  obtain ⟨its, r1, p1, _⟩ := I.list h1
  obtain ⟨its2, r2, p2, _⟩ := I.list h2
  cases r2
  cases r1 with
  | nil => exact PySem.SeqAt.eq_listAt (e := fun _ => true) p1.isList p2.isList rfl hu (fun j a1 => absurd a1 (by simp)) ⟨.bl true, H, I, rfl, q⟩
  | cons ra rb => exact PySem.SeqAt.eq_list_lengthsAt p1.isList p2.isList (by simp) hu ⟨.bl false, H, I, rfl, q⟩
theorem op_neNil (hu : X.A.units < cLine) : OpR X (compareOp .NotEq) (fun x y H Q => ∃ p b xs, x = .ref p ∧ y = .ref b ∧ SqL X.K H p xs ∧ SqL X.K H b [] ∧ Q (.bl (!xs.isEmpty)) H) := by
  intro pins s σ H x y v u Q I rx ry h
  obtain ⟨p, b, xs, rfl, rfl, h1, h2, q⟩ := h
  cases rx
  cases ry
  obtain ⟨its, r1, p1, _⟩ := I.list h1
  obtain ⟨its2, r2, p2, _⟩ := I.list h2
  cases r2
  cases r1 with
  | nil => exact PySem.SeqAt.RcNeAt.lists (e := fun _ => true) p1.isList p2.isList rfl hu (fun j a1 => absurd a1 (by simp)) _ _ _ _ ⟨.bl false, H, I, rfl, q⟩
  | cons ra rb => exact PySem.SeqAt.RcNeAt.lists_lengths p1.isList p2.isList (by simp) hu _ _ _ _ ⟨.bl true, H, I, rfl, q⟩
theorem sl_str : SlR X (fun x lo hi H Q => ∃ z, x = .str z ∧ z.length ≤ sizeLine ∧ Q (.str (Txt.slice z lo hi)) H) := by
  intro pins s σ H x v vl vu lo hi sl Q I rx hs pl pu h
  obtain ⟨z, rfl, hz, q⟩ := h
  obtain ⟨t, rfl⟩ := rx
  refine ⟨"str", _, PySem.F.slot_str_getitem.lookup, typeIs_str _ _ _, ?_⟩
  obtain ⟨o, h1, h2, h3⟩ := hs
  cases pl with
  | none =>
    cases pu with
    | none => exact wpAny_getItem_str_slice (l := none) (u := none) (st := none) ⟨o, h1, h2, h3⟩ rfl (post_val_or_str ⟨Nat.le_trans (Txt.slice_le z _ _) hz, fun t' k => ⟨.str _, H, I.tok _, ⟨_, rfl⟩, q⟩⟩)
    | int j uj => exact wpAny_getItem_str_slice (l := none) (u := some (j, uj)) (st := none) ⟨o, h1, h2, h3⟩ rfl (post_val_or_str ⟨Nat.le_trans (Txt.slice_le z _ _) hz, fun t' k => ⟨.str _, H, I.tok _, ⟨_, rfl⟩, q⟩⟩)
  | int i ui =>
    cases pu with
    | none => exact wpAny_getItem_str_slice (l := some (i, ui)) (u := none) (st := none) ⟨o, h1, h2, h3⟩ rfl (post_val_or_str ⟨Nat.le_trans (Txt.slice_le z _ _) hz, fun t' k => ⟨.str _, H, I.tok _, ⟨_, rfl⟩, q⟩⟩)
    | int j uj => exact wpAny_getItem_str_slice (l := some (i, ui)) (u := some (j, uj)) (st := none) ⟨o, h1, h2, h3⟩ rfl (post_val_or_str ⟨Nat.le_trans (Txt.slice_le z _ _) hz, fun t' k => ⟨.str _, H, I.tok _, ⟨_, rfl⟩, q⟩⟩)
end

section
variable {prog : Program} {w : World} {A : Around} {E : Value → Shared → Prop}
end
def gLst (K : PySem.W.Frag) (n : Nat) (t : TGs) : TG := fun v σ H Q => ∃ a xs, v = .ref a ∧ SqL K H a xs ∧ xs.length = n ∧ t xs σ H Q
theorem comp_zip {t1 t2 : Bool} {K : PySem.W.Frag} {a b : Addr} {xs ys : List V} {g : TG} {tc : TT} {te : TE} {σ' : St} {H1 : Hp} {Fin : List V → Hp → Prop} (Pv : Nat → List V → Hp → Prop) (he : xs.length = ys.length) (hz : xs.length ≤ 1000000) (h0 : Pv 0 [] H1)
    (hl : ∀ i acc H, i ≤ xs.length → Pv i acc H → Sq t1 K H a xs ∧ Sq t2 K H b ys ∧ acc.length ≤ i)
    (hs : ∀ i x y p acc H, xs[i]? = some x → ys[i]? = some y → Pv i acc H → H p = none → g (.ref p) σ' (upd H p (.tup [x, y])) fun σ2 H2 => tc σ2 H2 fun b H3 => if b = true then te σ2 H3 fun y H4 => Pv (i + 1) (acc ++ [y]) H4 else Pv (i + 1) acc H3) (hd : ∀ acc H, Pv xs.length acc H → Fin acc H) :
    ∃ W : Nat → Nat → List V → Hp → Prop, (∃ m, W 0 m [] H1) ∧ ∀ i m acc H, W i m acc H → ((Itz t1 t2 K a b).stop i H ∧ acc.length ≤ sizeLine ∧ Fin acc H) ∨
      ((Itz t1 t2 K a b).go i H ∧ acc.length < sizeLine ∧ ∃ N : List V → Hp → Prop, (∀ acc' H', N acc' H' → ∃ m', m' < m ∧ W (i + 1) m' acc' H') ∧ ∀ x H', (Itz t1 t2 K a b).yld i H x H' → g x σ' H' fun σ2 H2 => tc σ2 H2 fun b H3 => if b = true then te σ2 H3 fun y H4 => N (acc ++ [y]) H4 else N acc H3) := by
  have zl : (1000000 : Nat) < sizeLine := by rw [sizeLine_eq]; decide
  refine ⟨fun i m acc H => m = xs.length - i ∧ i ≤ xs.length ∧ Pv i acc H, ⟨xs.length, by simp, Nat.zero_le _, h0⟩, ?_⟩
  rintro i m acc H ⟨rfl, hi, p⟩
  obtain ⟨q1, q2, al⟩ := hl i acc H hi p
  by_cases hlt : i < xs.length
  · refine .inr ⟨⟨xs, ys, xs[i], ys[i]'(by omega), q1, q2, by simp [hlt], List.getElem?_eq_getElem (by omega)⟩, by omega, Pv (i + 1), fun acc' H' p' => ⟨xs.length - (i + 1), by omega, rfl, hlt, p'⟩, fun x H' y => ?_⟩
    obtain ⟨pp, x', y', rfl, hp, rfl, e⟩ := y
    obtain ⟨e1, e2⟩ := e xs ys q1 q2
    exact hs i x' y' pp acc H e1 e2 p hp
  · have e : i = xs.length := by omega
    subst e
    exact .inl ⟨⟨xs, ys, q1, q2, .inl (Nat.le_refl _)⟩, by omega, hd acc H p⟩

section
variable {X : Cx} (K : PySem.W.Frag) (h : X.K = K := by rfl)
include h
theorem ix_tupK : IxR X (rIxT K) := h ▸ ix_tup
theorem ix_listK : IxR X (rIxL K) := h ▸ ix_list
theorem call_lenK : CallR X (.builtin "len") (fun xs H Q => ∃ p ys, xs = [.ref p] ∧ (SqL K H p ys ∨ SqT K H p ys) ∧ Q (.int ys.length) H) := h ▸ call_len_seq
theorem call_isinstK : CallR X (.builtin "isinstance") (fun xs H Q => ∃ x n t b, xs = [x, .ty n] ∧ TyOf K H x t ∧ PySem.W.kitOne K t (.type n) = some b ∧ Q (.bl b) H) := h ▸ call_isinst
theorem pg_tupK {pos : Pos} {es : List Expr} {k : Nat} {t : TGs} {n : Nat} (hc : X.calm = true) (hh : PGs X es t) (hn : (assignEach es X.env).length = n := by rfl) (hst : (assignEach es X.env).findIdx? (·.1) = none := by rfl) : PG X (.Tuple es k pos) (gTup K n t) := h ▸ pg_tup hc hh hn hst
end

def tMid (t : TS) : TS := fun D σ H => ∃ P : St → Hp → Prop, t { D with nx := P } σ H ∧ ∀ σ' H', P σ' H' → D.nx σ' H'
theorem ps_mid {X : Cx} {st : Stmt} {t : TS} (h : PS X st t) : PS X st (tMid t) := by
  intro pins s σ H D I ⟨P, h1, h2⟩
  refine thn (h pins s σ H _ I h1) fun f s' q => ?_
  cases f with
  | next => obtain ⟨σ', H', I', q'⟩ := q; exact ⟨σ', H', I', h2 _ _ q'⟩
  | brk => exact q
  | cont => exact q
  | ret u => exact q
def rMaxL (K : PySem.W.Frag) : List V → Hp → VK → Prop := fun xs H Q => ∃ p ns, xs = [.ref p] ∧ SqL K H p (ns.map V.int) ∧ ns ≠ [] ∧ ∀ M, M ∈ ns → (∀ a ∈ ns, a ≤ M) → Q (.int M) H
section
variable {K : PySem.W.Frag}
end
end L2

set_option linter.all false
namespace Lf
open PySem
inductive Kd where
  | num (w m : Int)
  | row (k : Kd) (n : Int)
  | rcd (fs : List (Str × Kd))
  | cho (ks : List Kd)
def up (n m : Int) : Int := (n + m - 1) / m * m
theorem up_eq {n m : Int} (hm : 0 < m) : up n m = n + m - 1 - (n + m - 1) % m := by
  have := Int.mul_ediv_add_emod (n + m - 1) m
  rw [Int.mul_comm] at this
  unfold up
  omega
theorem up_bounds {n m : Int} (hm : 0 < m) : n ≤ up n m ∧ up n m < n + m := by
  have a := Int.emod_nonneg (n + m - 1) (Int.ne_of_gt hm)
  have b := Int.emod_lt_of_pos (n + m - 1) hm
  rw [up_eq hm]
  omega
theorem up_mod {n m : Int} : up n m % m = 0 := Int.mul_emod_left _ _
def upL (n m : Int) : Int := if n % m = 0 then n else n + m - n % m
theorem mod_unique {a b m : Int} (hm : 0 < m) (ha : a % m = 0) (hb : b % m = 0) (h1 : a - b < m) (h2 : b - a < m) : a = b := by
  have h : (a - b) % m = 0 := by rw [Int.sub_emod, ha, hb]; simp
  obtain ⟨c, hc⟩ := Int.dvd_of_emod_eq_zero h
  by_cases c0 : c = 0
  · subst c0; omega
  · rcases Int.lt_or_gt_of_ne c0 with c1 | c1
    · have : m * c ≤ m * (-1) := Int.mul_le_mul_of_nonneg_left (by omega) (by omega)
      omega
    · have : m * 1 ≤ m * c := Int.mul_le_mul_of_nonneg_left (by omega) (by omega)
      omega
def maxL (d : Int) (l : List Int) : Int := l.foldr max d
theorem maxL_ge {d : Int} : ∀ {l : List Int} {a : Int}, a ∈ l → a ≤ maxL d l
  | b :: r, a, h => by
    show a ≤ max b (maxL d r)
    rcases List.mem_cons.mp h with rfl | h
    · exact Int.le_max_left _ _
    · exact Int.le_trans (maxL_ge h) (Int.le_max_right _ _)
theorem maxL_is {d M : Int} {l : List Int} (hm : M ∈ l) (hd : d ≤ M) (hM : ∀ a ∈ l, a ≤ M) : M = maxL d l := by
  refine Int.le_antisymm (maxL_ge hm) ?_
  clear hm
  induction l with
  | nil => exact hd
  | cons b r ih =>
    show max b (maxL d r) ≤ M
    exact Int.max_le.mpr ⟨hM b List.mem_cons_self, ih fun a ha => hM a (List.mem_cons_of_mem _ ha)⟩
def ends (e : Int) : List (Int × Int) → List Int
  | [] => []
  | r :: rs => (up e r.2 + r.1) :: ends (up e r.2 + r.1) rs
def lastEnd (e : Int) : List (Int × Int) → Int
  | [] => e
  | r :: rs => lastEnd (up e r.2 + r.1) rs
def plcs (e : Int) : List (Int × Int) → List Int
  | [] => []
  | r :: rs => up e r.2 :: plcs (up e r.2 + r.1) rs
def Rms (rs : List (Int × Int)) : Prop := ∀ r ∈ rs, 0 ≤ r.1 ∧ 0 < r.2
theorem lastEnd_ge : ∀ {rs : List (Int × Int)} {e : Int}, Rms rs → e ≤ lastEnd e rs
  | [], e, _ => Int.le_refl e
  | r :: rs, e, h => by
    obtain ⟨a, b⟩ := h r List.mem_cons_self
    have := lastEnd_ge (rs := rs) (e := up e r.2 + r.1) fun x hx => h x (List.mem_cons_of_mem _ hx)
    have := (up_bounds (n := e) b).1
    show e ≤ lastEnd (up e r.2 + r.1) rs
    omega
theorem ends_max : ∀ {rs : List (Int × Int)} {e : Int}, Rms rs → rs ≠ [] → lastEnd e rs ∈ ends e rs ∧ ∀ a ∈ ends e rs, a ≤ lastEnd e rs
  | [], _, _, h => absurd rfl h
  | [r], e, h, _ => by
    refine ⟨List.mem_cons_self, fun a ha => ?_⟩
    rcases List.mem_cons.mp ha with rfl | ha
    · exact Int.le_refl _
    · cases ha
  | r :: s :: rs, e, h, _ => by
    have ih := ends_max (rs := s :: rs) (e := up e r.2 + r.1) (fun x hx => h x (List.mem_cons_of_mem _ hx)) (by simp)
    refine ⟨List.mem_cons_of_mem _ ih.1, fun a ha => ?_⟩
    rcases List.mem_cons.mp ha with rfl | ha
    · exact lastEnd_ge (rs := s :: rs) fun x hx => h x (List.mem_cons_of_mem _ hx)
    · exact ih.2 a ha
theorem plcs_length : ∀ (rs : List (Int × Int)) (e : Int), (plcs e rs).length = rs.length
  | [], _ => rfl
  | r :: rs, e => by show (plcs _ rs).length + 1 = _; rw [plcs_length rs]; rfl
theorem plcs_snoc : ∀ (rs : List (Int × Int)) (r : Int × Int) (e : Int), plcs e (rs ++ [r]) = plcs e rs ++ [up (lastEnd e rs) r.2]
  | [], _, _ => rfl
  | s :: rs, r, e => by show up e s.2 :: plcs _ (rs ++ [r]) = up e s.2 :: (plcs _ rs ++ _); rw [plcs_snoc rs]; rfl
theorem lastEnd_snoc : ∀ (rs : List (Int × Int)) (r : Int × Int) (e : Int), lastEnd e (rs ++ [r]) = up (lastEnd e rs) r.2 + r.1
  | [], _, _ => rfl
  | s :: rs, r, e => lastEnd_snoc rs r _
theorem ends_zip : ∀ (rs : List (Int × Int)) (e : Int), ends e rs = ((plcs e rs).zip rs).map fun p => p.1 + p.2.1
  | [], _ => rfl
  | r :: rs, e => by show _ :: ends _ rs = _ :: _; rw [ends_zip rs]; rfl
def rcdRm (rs : List (Int × Int)) : Int × Int := (up (lastEnd 0 rs) (maxL 1 (rs.map (·.2))), maxL 1 (rs.map (·.2)))
def choRm (rs : List (Int × Int)) : Int × Int := (up (up 1 (maxL 1 (rs.map (·.2))) + maxL 0 (rs.map (·.1))) (maxL 1 (rs.map (·.2))), maxL 1 (rs.map (·.2)))
mutual
def Kd.rm : Kd → Int × Int
  | .num w m => (w, m)
  | .row k n => (n * up k.rm.1 k.rm.2, k.rm.2)
  | .rcd fs => rcdRm (rmF fs)
  | .cho ks => choRm (rmK ks)
def rmF : List (Str × Kd) → List (Int × Int)
  | [] => []
  | f :: r => f.2.rm :: rmF r
def rmK : List Kd → List (Int × Int)
  | [] => []
  | k :: r => k.rm :: rmK r
end
mutual
def Kd.deep : Kd → Nat
  | .num _ _ => 1
  | .row k _ => k.deep + 1
  | .rcd fs => deepF fs + 1
  | .cho ks => deepK ks + 1
def deepF : List (Str × Kd) → Nat
  | [] => 0
  | f :: r => max f.2.deep (deepF r)
def deepK : List Kd → Nat
  | [] => 0
  | k :: r => max k.deep (deepK r)
end
mutual
def Kd.Ok : Kd → Prop
  | .num w m => 1 ≤ w ∧ w ≤ 8 ∧ 1 ≤ m ∧ m ≤ 8
  | .row k n => k.Ok ∧ 0 ≤ n ∧ n ≤ 100
  | .rcd fs => okF fs ∧ fs.length ≤ 10
  | .cho ks => okK ks ∧ ks.length ≤ 10
def okF : List (Str × Kd) → Prop
  | [] => True
  | f :: r => f.2.Ok ∧ okF r
def okK : List Kd → Prop
  | [] => True
  | k :: r => k.Ok ∧ okK r
end
theorem maxL_le {d M : Int} : ∀ {l : List Int}, d ≤ M → (∀ a ∈ l, a ≤ M) → maxL d l ≤ M
  | [], hd, _ => hd
  | b :: r, hd, h => Int.max_le.mpr ⟨h b List.mem_cons_self, maxL_le hd fun a ha => h a (List.mem_cons_of_mem _ ha)⟩
theorem maxL_d {d : Int} : ∀ (l : List Int), d ≤ maxL d l
  | [] => Int.le_refl _
  | b :: r => Int.le_trans (maxL_d r) (Int.le_max_right _ _)
def Bd (B : Int) (r : Int × Int) : Prop := 0 ≤ r.1 ∧ r.1 ≤ B ∧ 1 ≤ r.2 ∧ r.2 ≤ 8
theorem lastEnd_le {B : Int} : ∀ {rs : List (Int × Int)} {e : Int}, 0 ≤ e → (∀ r ∈ rs, Bd B r) → 0 ≤ lastEnd e rs ∧ lastEnd e rs ≤ e + (rs.length : Int) * (B + 8)
  | [], e, h0, _ => ⟨h0, by simp [lastEnd]⟩
  | r :: rs, e, h0, h => by
    obtain ⟨a, b, c, d⟩ := h r List.mem_cons_self
    obtain ⟨u1, u2⟩ := up_bounds (n := e) (m := r.2) (by omega)
    have ih := lastEnd_le (B := B) (rs := rs) (e := up e r.2 + r.1) (by omega) fun x hx => h x (List.mem_cons_of_mem _ hx)
    refine ⟨ih.1, ?_⟩
    show lastEnd (up e r.2 + r.1) rs ≤ _
    have e1 : ((r :: rs).length : Int) * (B + 8) = (rs.length : Int) * (B + 8) + (B + 8) := by
      rw [List.length_cons]
      push_cast
      rw [Int.add_mul]
      omega
    rw [e1]
    omega
theorem mx_bd {B : Int} {rs : List (Int × Int)} (h : ∀ r ∈ rs, Bd B r) : 1 ≤ maxL 1 (rs.map (·.2)) ∧ maxL 1 (rs.map (·.2)) ≤ 8 :=
  ⟨maxL_d _, maxL_le (by decide) fun a ha => by obtain ⟨r, hr, rfl⟩ := List.mem_map.mp ha; exact (h r hr).2.2.2⟩
theorem rcd_bd {B : Int} {rs : List (Int × Int)} (h : ∀ r ∈ rs, Bd B r) (hl : rs.length ≤ 10) (hB : 0 ≤ B) : Bd (1000 * (B + 8)) (rcdRm rs) := by
  obtain ⟨a, b⟩ := mx_bd h
  obtain ⟨c, d⟩ := lastEnd_le (e := 0) (by omega) h
  obtain ⟨u1, u2⟩ := up_bounds (n := lastEnd 0 rs) (m := maxL 1 (rs.map (·.2))) (by omega)
  have : (rs.length : Int) * (B + 8) ≤ 10 * (B + 8) := Int.mul_le_mul_of_nonneg_right (by omega) (by omega)
  exact ⟨by show 0 ≤ up _ _; omega, by show up _ _ ≤ _; omega, a, b⟩
theorem cho_bd {B : Int} {rs : List (Int × Int)} (h : ∀ r ∈ rs, Bd B r) (hB : 0 ≤ B) : Bd (1000 * (B + 8)) (choRm rs) := by
  obtain ⟨a, b⟩ := mx_bd h
  have c : 0 ≤ maxL 0 (rs.map (·.1)) := maxL_d _
  have d : maxL 0 (rs.map (·.1)) ≤ B := maxL_le hB fun z hz => by obtain ⟨r, hr, rfl⟩ := List.mem_map.mp hz; exact (h r hr).2.1
  obtain ⟨u1, u2⟩ := up_bounds (n := 1) (m := maxL 1 (rs.map (·.2))) (by omega)
  obtain ⟨v1, v2⟩ := up_bounds (n := up 1 (maxL 1 (rs.map (·.2))) + maxL 0 (rs.map (·.1))) (m := maxL 1 (rs.map (·.2))) (by omega)
  exact ⟨by show 0 ≤ up _ _; omega, by show up _ _ ≤ _; omega, a, b⟩
def bnd : Nat → Int
  | 0 => 0
  | n + 1 => 1000 * (bnd n + 8)
theorem bnd_nonneg : ∀ n, 0 ≤ bnd n
  | 0 => Int.le_refl _
  | n + 1 => by have := bnd_nonneg n; show 0 ≤ 1000 * (bnd n + 8); omega
theorem bnd_mono {n m : Nat} (h : n ≤ m) : bnd n ≤ bnd m := by
  induction m with
  | zero => cases (Nat.le_zero.mp h); exact Int.le_refl _
  | succ m ih =>
    by_cases e : n = m + 1
    · subst e; exact Int.le_refl _
    · have := ih (by omega)
      have := bnd_nonneg m
      show bnd n ≤ 1000 * (bnd m + 8)
      omega
theorem Bd.mono {B C : Int} {r : Int × Int} (h : Bd B r) (hb : B ≤ C) : Bd C r := ⟨h.1, Int.le_trans h.2.1 hb, h.2.2⟩
mutual
theorem Kd.bd : ∀ (k : Kd), k.Ok → Bd (bnd k.deep) k.rm
  | .num w m, h => by
    obtain ⟨a, b, c, d⟩ := h
    refine ⟨by show 0 ≤ w; omega, ?_, c, d⟩
    show w ≤ 1000 * (0 + 8)
    omega
  | .row k n, h => by
    obtain ⟨hk, h0, h1⟩ := h
    obtain ⟨a, b, c, d⟩ := Kd.bd k hk
    obtain ⟨u1, u2⟩ := up_bounds (n := k.rm.1) (m := k.rm.2) (by omega)
    refine ⟨Int.mul_nonneg h0 (by omega), ?_, c, d⟩
    have e1 : n * up k.rm.1 k.rm.2 ≤ 100 * up k.rm.1 k.rm.2 := Int.mul_le_mul_of_nonneg_right h1 (by omega)
    show n * up k.rm.1 k.rm.2 ≤ 1000 * (bnd k.deep + 8)
    omega
  | .rcd fs, h => by
    refine rcd_bd (rs := rmF fs) (bdF fs h.1) ?_ (bnd_nonneg _)
    have : (rmF fs).length = fs.length := lenF fs
    rw [this]; exact h.2
  | .cho ks, h => cho_bd (rs := rmK ks) (bdK ks h.1) (bnd_nonneg _)
theorem bdF : ∀ (fs : List (Str × Kd)), okF fs → ∀ r ∈ rmF fs, Bd (bnd (deepF fs)) r
  | [], _, _, h => nomatch h
  | f :: fs, h, r, hr => by
    have hr' : r ∈ f.2.rm :: rmF fs := hr
    rcases List.mem_cons.mp hr' with rfl | hr'
    · exact (Kd.bd f.2 h.1).mono (bnd_mono (Nat.le_max_left _ _))
    · exact (bdF fs h.2 r hr').mono (bnd_mono (Nat.le_max_right _ _))
theorem bdK : ∀ (ks : List Kd), okK ks → ∀ r ∈ rmK ks, Bd (bnd (deepK ks)) r
  | [], _, _, h => nomatch h
  | k :: ks, h, r, hr => by
    have hr' : r ∈ k.rm :: rmK ks := hr
    rcases List.mem_cons.mp hr' with rfl | hr'
    · exact (Kd.bd k h.1).mono (bnd_mono (Nat.le_max_left _ _))
    · exact (bdK ks h.2 r hr').mono (bnd_mono (Nat.le_max_right _ _))
theorem lenF : ∀ (fs : List (Str × Kd)), (rmF fs).length = fs.length
  | [] => rfl
  | f :: fs => by show (rmF fs).length + 1 = _; rw [lenF fs]; rfl
end
theorem lenK : ∀ (ks : List Kd), (rmK ks).length = ks.length
  | [] => rfl
  | f :: fs => by show (rmK fs).length + 1 = _; rw [lenK fs]; rfl
inductive Dt where
  | int (i : Int)
  | str (x : Str)
  | bl (b : Bool)
  | tup (ds : List Dt)
  | lst (ds : List Dt)
mutual
def Kd.dt : Kd → Dt
  | .num w m => .tup [.str "number", .int w, .int m]
  | .row k n => .tup [.str "row", k.dt, .int n]
  | .rcd fs => .tup [.str "record", .lst (dtF fs)]
  | .cho ks => .tup [.str "choice", .lst (dtK ks)]
def dtF : List (Str × Kd) → List Dt
  | [] => []
  | f :: r => .tup [.str f.1, f.2.dt] :: dtF r
def dtK : List Kd → List Dt
  | [] => []
  | k :: r => k.dt :: dtK r
end
mutual
def Dt.deep : Dt → Nat
  | .int _ => 1
  | .str _ => 1
  | .bl _ => 1
  | .tup ds => deepD ds + 1
  | .lst ds => deepD ds + 1
def deepD : List Dt → Nat
  | [] => 0
  | d :: r => max d.deep (deepD r)
end
theorem Kd.deep_pos : ∀ k : Kd, 1 ≤ k.deep
  | .num _ _ => Nat.le_refl _
  | .row k _ => Nat.le_add_left 1 k.deep
  | .rcd fs => Nat.le_add_left 1 (deepF fs)
  | .cho ks => Nat.le_add_left 1 (deepK ks)
mutual
theorem Kd.dt_deep : ∀ k : Kd, k.dt.deep ≤ 3 * k.deep
  | .num w m => by show max 1 (max 1 (max 1 0)) + 1 ≤ 3; decide
  | .row k n => by
    have := Kd.dt_deep k
    show max 1 (max k.dt.deep (max 1 0)) + 1 ≤ 3 * (k.deep + 1)
    omega
  | .rcd fs => by
    have := dtF_deep fs
    show max 1 (max (deepD (dtF fs) + 1) 0) + 1 ≤ 3 * (deepF fs + 1)
    omega
  | .cho ks => by
    have := dtK_deep ks
    show max 1 (max (deepD (dtK ks) + 1) 0) + 1 ≤ 3 * (deepK ks + 1)
    omega
theorem dtF_deep : ∀ fs : List (Str × Kd), deepD (dtF fs) ≤ 3 * deepF fs + 1
  | [] => by decide
  | f :: r => by
    have := Kd.dt_deep f.2
    have := dtF_deep r
    have := Kd.deep_pos f.2
    show max (max 1 (max f.2.dt.deep 0) + 1) (deepD (dtF r)) ≤ 3 * max f.2.deep (deepF r) + 1
    omega
theorem dtK_deep : ∀ ks : List Kd, deepD (dtK ks) ≤ 3 * deepK ks + 1
  | [] => by decide
  | k :: r => by
    have := Kd.dt_deep k
    have := dtK_deep r
    show max k.dt.deep (deepD (dtK r)) ≤ 3 * max k.deep (deepK r) + 1
    omega
end
end Lf

set_option Elab.async false
set_option linter.all false
set_option maxRecDepth 100000
namespace Lf
open PySem L2
mutual
def IsD (H : Hp) : Dt → V → Prop
  | .int i, v => v = .int i
  | .str x, v => v = .str x
  | .bl b, v => v = .bl b
  | .tup ds, v => ∃ a vs, v = .ref a ∧ H a = some (.tup vs) ∧ IsDs H ds vs
  | .lst ds, v => ∃ a vs, v = .ref a ∧ H a = some (.lst vs) ∧ IsDs H ds vs
def IsDs (H : Hp) : List Dt → List V → Prop
  | [], vs => vs = []
  | d :: r, vs => ∃ v vr, vs = v :: vr ∧ IsD H d v ∧ IsDs H r vr
end
mutual
theorem IsD.same {H H' : Hp} (e : Same H H') : ∀ {d : Dt} {v : V}, IsD H d v → IsD H' d v
  | .int _, _, h => h
  | .str _, _, h => h
  | .bl _, _, h => h
  | .tup ds, _, ⟨a, vs, h1, h2, h3⟩ => ⟨a, vs, h1, e _ _ h2, IsDs.same e h3⟩
  | .lst ds, _, ⟨a, vs, h1, h2, h3⟩ => ⟨a, vs, h1, e _ _ h2, IsDs.same e h3⟩
theorem IsDs.same {H H' : Hp} (e : Same H H') : ∀ {ds : List Dt} {vs : List V}, IsDs H ds vs → IsDs H' ds vs
  | [], _, h => h
  | d :: r, _, ⟨v, vr, h1, h2, h3⟩ => ⟨v, vr, h1, IsD.same e h2, IsDs.same e h3⟩
end
theorem IsDs.len {H : Hp} : ∀ {ds : List Dt} {vs : List V}, IsDs H ds vs → vs.length = ds.length
  | [], _, h => by cases (show _ = [] from h); rfl
  | d :: r, _, ⟨v, vr, h1, _, h3⟩ => by subst h1; show vr.length + 1 = r.length + 1; rw [IsDs.len h3]
theorem IsDs.get {H : Hp} : ∀ {ds : List Dt} {vs : List V} {i : Nat} {v : V}, IsDs H ds vs → vs[i]? = some v → ∃ d, ds[i]? = some d ∧ IsD H d v
  | [], _, _, _, h, e => by cases (show _ = [] from h); simp at e
  | d :: r, _, 0, v, ⟨u, vr, h1, h2, h3⟩, e => by subst h1; simp at e; subst e; exact ⟨d, rfl, h2⟩
  | d :: r, _, i + 1, v, ⟨u, vr, h1, h2, h3⟩, e => by subst h1; obtain ⟨d', a, b⟩ := IsDs.get (i := i) h3 (by simpa using e); exact ⟨d', by simpa using a, b⟩
theorem IsDs.snoc {H : Hp} {d : Dt} {v : V} (h : IsD H d v) : ∀ {ds : List Dt} {vs : List V}, IsDs H ds vs → IsDs H (ds ++ [d]) (vs ++ [v])
  | [], _, hs => by cases (show _ = [] from hs); exact ⟨v, [], rfl, h, rfl⟩
  | e :: r, _, ⟨u, vr, h1, h2, h3⟩ => by subst h1; exact ⟨u, vr ++ [v], rfl, h2, IsDs.snoc h h3⟩
theorem same_new {H : Hp} {p : Addr} (h : H p = none) (o : HO) : Same H (upd H p o) := fun b u q => by rw [upd_ne (ne_of_none q h)]; exact q
def hide (p : Addr) (H : Hp) : Hp := fun b => if b = p then none else H b
theorem hide_ne {p b : Addr} {H : Hp} (h : b ≠ p) : hide p H b = H b := if_neg h
theorem hide_sub (p : Addr) (H : Hp) : Same (hide p H) H := fun b o h => by
  by_cases e : b = p
  · subst e; rw [show hide b H b = none from if_pos rfl] at h; cases h
  · rw [hide_ne e] at h; exact h
theorem hide_some {p b : Addr} {H : Hp} {o : HO} (h : hide p H b = some o) : b ≠ p ∧ H b = some o := by
  by_cases e : b = p
  · subst e; rw [show hide b H b = none from if_pos rfl] at h; cases h
  · rw [hide_ne e] at h; exact ⟨e, h⟩
theorem hide_same {p : Addr} {H H' : Hp} (e : Same H H') : Same (hide p H) (hide p H') := fun b o h => by
  obtain ⟨n, q⟩ := hide_some h
  rw [hide_ne n]
  exact e b o q
abbrev SameX (p : Addr) (H H' : Hp) : Prop := Same (hide p H) (hide p H')
theorem SameX.upd (p : Addr) (H : Hp) (o : HO) : SameX p H (L2.upd H p o) := fun b u h => by
  obtain ⟨n, q⟩ := hide_some h
  rw [hide_ne n, upd_ne n]
  exact q
theorem SameX.get {p b : Addr} {H H' : Hp} {o : HO} (e : SameX p H H') (n : b ≠ p) (h : H b = some o) : H' b = some o := by
  have := e b o (by rw [hide_ne n]; exact h)
  rw [hide_ne n] at this
  exact this
theorem SameX.of {p : Addr} {H H' : Hp} (e : Same H H') : SameX p H H' := hide_same e
theorem seq_x {K : PySem.W.Frag} {H : Hp} {a p : Addr} {xs : List V} (h : SqL K H a xs) (hp : H p = none) {H' : Hp} (e : SameX p H H') : SqL K H' a xs := by
  rcases h with (h | ⟨o, h⟩) | h
  · exact .inl (.inl (e.get (ne_of_none h hp) h))
  · exact .inl (.inr ⟨o, e.get (ne_of_none h hp) h⟩)
  · exact .inr h
theorem atI_in {α : Type} {xs : List α} {i : Int} (h0 : 0 ≤ i) (h1 : i < (xs.length : Int)) : ∃ v, atI xs i = some v ∧ v ∈ xs := by
  have hk : i.toNat < xs.length := by omega
  have ek : ((i.toNat : Nat) : Int) = i := by omega
  have q : atI xs ((i.toNat : Nat) : Int) = some xs[i.toNat] := atI_nat (List.getElem?_eq_getElem hk)
  rw [ek] at q
  exact ⟨_, q, List.getElem_mem _⟩
theorem iteND {c A B : Prop} [Decidable c] (h : ¬ c) (hB : B) : if decide c = true then A else B := by
  rw [decide_eq_false h]
  exact iteF hB
theorem iteDT {c A B : Prop} [Decidable c] (h : c) (hA : A) : if decide c = true then A else B := by
  rw [decide_eq_true h]
  exact iteT hA
theorem lists3 (n : Nat) (h : n ≤ 1000) : n ≤ sizeLine := Nat.le_of_lt (small1000 h)
theorem str_ne {x y : Str} (h : (x == y) = false) : ¬ V.str x = V.str y := fun e => by
  have e' : x = y := V.str.inj e
  rw [e', beq_self_eq_true] at h
  cases h
end Lf

set_option Elab.async false
set_option linter.all false
set_option maxRecDepth 100000

namespace L2
open PySem PySem.Spec PyProof.Rows

section
variable {κ : Type} [DecidableEq κ]
def valV (kvs : List (κ × V)) (k : κ) : Option V := (kvs.find? fun kv => decide (kv.1 = k)).map (·.2)
def putK (kvs : List (κ × V)) (k : κ) (v : V) : List (κ × V) :=
  if (kvs.any fun kv => decide (kv.1 = k)) = true then kvs.map (fun kv => if kv.1 = k then (kv.1, v) else kv) else kvs ++ [(k, v)]
def dropK (kvs : List (κ × V)) (k : κ) : List (κ × V) := kvs.filter fun kv => decide (kv.1 ≠ k)

theorem valV_pos {p : κ × V} {r : List (κ × V)} {k : κ} (e : p.1 = k) : valV (p :: r) k = some p.2 := by simp [valV, List.find?_cons, e]
theorem valV_neg {p : κ × V} {r : List (κ × V)} {k : κ} (e : ¬ p.1 = k) : valV (p :: r) k = valV r k := by simp [valV, List.find?_cons, e]
theorem RelO.isSome_eq {o : Option V} {u : Option Value} (r : RelO o u) : o.isSome = u.isSome := by
  cases o with
  | none => cases u with
    | none => rfl
    | some _ => exact (show False from r).elim
  | some _ => cases u with
    | none => exact (show False from r).elim
    | some _ => rfl
theorem KV.val {kvs : List (κ × V)} {vs : List (κ × Value)} (r : KV kvs vs) (k : κ) : RelO (valV kvs k) (valueAt vs k) := by
  unfold KV at r
  induction r with
  | nil => exact True.intro
  | @cons p q ps qs h t ih =>
    obtain ⟨h1, h2⟩ := h
    by_cases e : p.1 = k
    · have e' : q.1 = k := h1.symm.trans e
      have b : valueAt (q :: qs) k = some q.2 := by simp [valueAt, List.find?_cons, e']
      rw [valV_pos e, b]; exact h2
    · have e' : ¬ q.1 = k := fun z => e (h1.trans z)
      have b : valueAt (q :: qs) k = valueAt qs k := by simp [valueAt, List.find?_cons, e']
      rw [valV_neg e, b]; exact ih
theorem KV.keys {kvs : List (κ × V)} {vs : List (κ × Value)} (r : KV kvs vs) : kvs.map (·.1) = vs.map (·.1) := by
  unfold KV at r
  induction r with
  | nil => rfl
  | cons h t ih => rw [List.map_cons, List.map_cons, ih, h.1]
theorem KV.length {kvs : List (κ × V)} {vs : List (κ × Value)} (r : KV kvs vs) : kvs.length = vs.length := Paired.length r
end


theorem kV_is {P : Program} {w : World} {k : Key} {u : Value} (r : RelV (kV k) u) : (mixKind P w).is k u = true := by
  cases k with
  | inl i => obtain ⟨t, e⟩ := (show ∃ t, u = Value.int i t from r); subst e; exact mixKind_int P w i t
  | inr x => obtain ⟨t, e⟩ := (show ∃ t, u = Value.str x t from r); subst e; exact mixKind_str P w x t
theorem items_are {P : Program} {w : World} : ∀ {ks : List Key} {us : List Value}, Vals (ks.map kV) us → ItemsAre (mixKind P w) ks us
  | [], _, r => by rw [List.map_nil] at r; cases r; exact .nil
  | k :: ks, _, r => by
    rw [List.map_cons] at r
    cases r with
    | cons h t => exact .cons (kV_is h) (items_are t)

abbrev KT (H : Hp) : List (List Key × V) → List (List Key × Addr × Value) → Prop := Paired fun p q => p.1 = q.1 ∧ H q.2.1 = some (.tup (p.1.map kV)) ∧ RelV p.2 q.2.2
theorem KT.val {H : Hp} {kvs : List (List Key × V)} {xs : List (List Key × Addr × Value)} (r : KT H kvs xs) (k : List Key) : RelO (valV kvs k) ((atKey xs k).map (·.2)) := by
  induction r with
  | nil => exact True.intro
  | @cons p q ps qs h t ih =>
    obtain ⟨h1, _, h2⟩ := h
    by_cases e : p.1 = k
    · have e' : q.1 = k := h1.symm.trans e
      have b : atKey (q :: qs) k = some q.2 := by simp [atKey, List.find?_cons, e']
      rw [valV_pos e, b]; exact h2
    · have e' : ¬ q.1 = k := fun z => e (h1.trans z)
      have b : atKey (q :: qs) k = atKey qs k := by simp [atKey, List.find?_cons, e']
      rw [valV_neg e, b]; exact ih
section
variable {P : Program} {w : World} {H : Hp} {h : Heap} {a : Addr}
theorem rd_of {u : HO} (ok : HOk P w H h) (e : Rd H a u) : ObjOk P w H h a u := e.ok ok
theorem dk_rd {kvs : List (Key × V)} (ok : HOk P w H h) (e : Rd H a (.dK kvs)) : kvs.length ≤ sizeLine ∧ (a == sysModules) = false ∧ ∃ vs, KV kvs vs ∧ h.DictOf (mixKind P w) a vs :=
  show ObjOk P w H h a (.dK kvs) from rd_of ok e
theorem key_of {ks : List Key} (ok : HOk P w H h) (e : H a = some (.tup (ks.map kV))) : (tupleKind (mixKind P w)).is h ks a := by
  obtain ⟨_, its, r, o, h1, h2, n, h3⟩ := (show ObjOk P w H h a (.tup (ks.map kV)) from ok a _ e)
  exact ⟨o, its.toArray, n, h1, h2, h3, by simpa using items_are r⟩
theorem dt_rd {kvs : List (List Key × V)} (ok : HOk P w H h) (e : Rd H a (.dT kvs)) : kvs.length ≤ sizeLine ∧ (a == sysModules) = false ∧
    ∃ xs, KT H kvs xs ∧ h.DictOfH (tupleKind (mixKind P w)) a xs := by
  obtain ⟨z, y, xs, r, o, es, ep, h1, h2, h3, h4, h5⟩ := (show ObjOk P w H h a (.dT kvs) from rd_of ok e)
  refine ⟨z, y, xs, r, o, es, ep, h1, h2, h3, h4, fun x hx => ?_, h5⟩
  have all : ∀ {l : List (List Key × V)} {m : List (List Key × Addr × Value)}, KT H l m → ∀ x ∈ m, (tupleKind (mixKind P w)).is h x.1 x.2.1 := by
    intro l m q
    induction q with
    | nil => intro x hx; exact nomatch hx
    | @cons p q ps qs hq t ih =>
      intro x hx
      rcases List.mem_cons.mp hx with e | hx
      · subst e
        exact key_of ok (by rw [← hq.1]; exact hq.2.1)
      · exact ih x hx
  exact all r x hx
end

def DGet (H : Hp) (a : Addr) (y : V) (r : Option V) : Prop :=
  (∃ kvs k, Rd H a (.dK kvs) ∧ y = kV k ∧ r = valV kvs k) ∨ ∃ kvs k b, Rd H a (.dT kvs) ∧ y = .ref b ∧ H b = some (.tup (k.map kV)) ∧ r = valV kvs k
def DPut (H : Hp) (a : Addr) (y v : V) (H' : Hp) : Prop :=
  (∃ kvs k, H a = some (.dK kvs) ∧ y = kV k ∧ kvs.length < sizeLine ∧ H' = upd H a (.dK (putK kvs k v))) ∨
  ∃ kvs k b, H a = some (.dT kvs) ∧ y = .ref b ∧ H b = some (.tup (k.map kV)) ∧ kvs.length < sizeLine ∧ H' = upd H a (.dT (putK kvs k v))
theorem DGet.k {H : Hp} {a : Addr} {kvs : List (Key × V)} {k : Key} (e : H a = some (.dK kvs)) : DGet H a (kV k) (valV kvs k) := .inl ⟨kvs, k, .inl e, rfl, rfl⟩
section
variable {X : Cx} {pins : List (Addr × Obj)} {σ : St} {H : Hp} {s : Shared} {a : Addr} {y v : V} {u r : Value} {o : Option V} {A : Around} {E : Value → Shared → Prop}

theorem Inv.big (I : Inv X pins σ H s) : sysModules < s.heap.objs.size := by
  have h : mainGlobals < s.heap.objs.size := (I.mod.glob.keeps I.bk).lt
  exact Nat.lt_trans (by decide) h

theorem d_getItem {Q : Value → Shared → Prop} (hu : A.units + 1 < cLine) (I : Inv X pins σ H s) (g : DGet H a y (some v)) (ry : RelV y u) (h : ∀ w' s', Inv X pins σ H s' → RelV v w' → Q w' s') :
    wpAny (model X.prog X.w) A (getItem (.ref a) u) Q E s := by
  rcases g with ⟨kvs, k, e, ey, l⟩ | ⟨kvs, k, b, e, ey, eb, l⟩
  · subst ey
    obtain ⟨z, hd, vs, rel, dd⟩ := dk_rd I.hok e
    obtain ⟨w', hw, rw'⟩ := RelO.some_of (v := v) (o := valueAt vs k) (by rw [l]; exact rel.val k)
    exact wpAny_getItem_of (kV_is ry) dd.mapOf hw (h w' _ (I.tok _) rw')
  · subst ey
    cases (show u = Value.ref b from ry)
    obtain ⟨z, hd, xs, rel, dd⟩ := dt_rd I.hok e
    obtain ⟨w', hw, rw'⟩ := RelO.some_of (v := v) (o := (atKey xs k).map (·.2)) (by rw [l]; exact rel.val k)
    obtain ⟨p, hp, hp2⟩ := Option.map_eq_some_iff.mp hw
    refine wpAny_getItem_heap (tupleKind_room_in1 hu) (key_of I.hok eb) dd hp ?_
    rw [hp2]
    exact h w' _ (I.tok _) rw'
theorem d_in {Q : Value → Shared → Prop} (hu : A.units + 1 < cLine) (I : Inv X pins σ H s) (g : DGet H a y o) (ry : RelV y u) (h : ∀ s', Inv X pins σ H s' → Q (.bool o.isSome) s') :
    wpAny (model X.prog X.w) A (compareOp .In u (.ref a)) Q E s := by
  rcases g with ⟨kvs, k, e, ey, l⟩ | ⟨kvs, k, b, e, ey, eb, l⟩
  · subst ey
    obtain ⟨z, hd, vs, rel, dd⟩ := dk_rd I.hok e
    refine wpAny_in_of (kV_is ry) hd dd.mapOf ?_
    rw [← (rel.val k).isSome_eq, ← l]
    exact h _ (I.tok _)
  · subst ey
    cases (show u = Value.ref b from ry)
    obtain ⟨z, hd, xs, rel, dd⟩ := dt_rd I.hok e
    refine wpAny_in_heap (tupleKind_room_in1 hu) (key_of I.hok eb) hd dd ?_
    have q := (rel.val k).isSome_eq
    rw [Option.isSome_map] at q
    rw [← q, ← l]
    exact h _ (I.tok _)
theorem dk_new {P : Program} {w : World} {H' : Hp} {h' : Heap} {kvs : List (Key × V)} {vs : List (Key × Value)} (z : kvs.length ≤ sizeLine) (hd : (a == sysModules) = false) (rel : KV kvs vs) (dd : h'.DictOf (mixKind P w) a vs) :
    ObjOk P w H' h' a (.dK kvs) := ⟨z, hd, vs, rel, dd⟩
end

section
variable {X : Cx} {pins : List (Addr × Obj)} {σ : St} {H : Hp} {s : Shared} {a : Addr} {kvs : List (Key × V)} {k : Key} {u : Value} {A : Around} {E : Value → Shared → Prop}
theorem d_len {Q : Value → Shared → Prop} (I : Inv X pins σ H s) (e : Rd H a (.dK kvs)) (h : ∀ t s', Inv X pins σ H s' → Q (.int kvs.length t) s') : wpAny (model X.prog X.w) A (call (.builtin "len") [.ref a]) Q E s := by
  obtain ⟨z, hd, vs, rel, dd⟩ := dk_rd I.hok e
  refine call_len_dict hd dd (by rw [← rel.length]; rw [sizeLine_eq] at z; omega) ?_
  rw [← rel.length]
  exact h _ _ (I.tok _)
end


def NoSl (i : Expr) : Prop := ∀ ov iv, subscripted i false ov iv = operate [ov, iv] (getItem ov iv)
theorem subD_of {prog : Program} {w : World} {A : Around} {E : Value → Shared → Prop} {s : Shared} {env : Env} {value slice : Expr} {pos : Pos} {T id : String} {Q : Value → Shared → Prop}
    (hl : typeLookup (.type T) "__getitem__" = pure (some (.builtin id))) (hs : NoSl slice)
    (h : wpAny (model prog w) A (eval value env) (fun o s₁ => wpAny (model prog w) A (eval slice env) (fun i s₂ => s₂.TypeIs o T ∧ wpAny (model prog w) A (getItem o i) Q E s₂) E s₁) E s) :
    wpAny (model prog w) A (eval (.Subscript value slice pos) env) Q E s := by
  refine Subscript_ (wpAny_mono h (fun o s₁ h₁ => wpAny_mono h₁ (fun i s₂ h₂ => ?_) fun _ _ x => x) fun _ _ x => x)
  obtain ⟨hT, h₂⟩ := h₂
  unfold subscriptTail
  refine wpAny_bind ?_
  rw [getitemInPython_of_ne hT.not_modules]
  refine wpAny_bind (wpAny_specialOf hT hl ?_)
  have fin : wpAny (model prog w) A (subscripted slice false o i) (fun r s₃ => wpAny (model prog w) A (letTemporaryGo value o r >>= fun _ => pure r) Q E s₃) E s₂ := by
    rw [hs o i]
    exact wpAny_operating (wpAny_mono h₂ (fun r s₃ h₃ => wpAny_bind (wpAny_letTemporaryGo (wpAny_pure h₃))) fun _ _ x => x)
  first
    | exact wpAny_pure (wpAny_bind fin)
    | exact wpAny_bind (wpAny_pure (wpAny_bind fin))
    | exact wpAny_bind fin

theorem dict_typeIs {X : Cx} {pins : List (Addr × Obj)} {σ : St} {H : Hp} {s : Shared} {a : Addr} {y : V} {o : Option V} (I : Inv X pins σ H s) (g : DGet H a y o) : s.TypeIs (.ref a) "dict" := by
  rcases g with ⟨kvs, k, e, _, _⟩ | ⟨kvs, k, b, e, _, _, _⟩
  · obtain ⟨_, _, vs, _, dd⟩ := dk_rd I.hok e
    exact dd.typeIs
  · obtain ⟨_, _, xs, _, dd⟩ := dt_rd I.hok e
    exact dd.typeIs
def tDGet (td ty : TE) : TE := fun σ H Q => td σ H fun x H1 => ty σ H1 fun y H2 => ∃ a v, x = .ref a ∧ DGet H2 a y (some v) ∧ Q v H2
def tDIn (ty td : TE) : TE := fun σ H Q => ty σ H fun y H1 => td σ H1 fun x H2 => ∃ a o, x = .ref a ∧ DGet H2 a y o ∧ Q (.bl o.isSome) H2
def tDNotIn (ty td : TE) : TE := fun σ H Q => ty σ H fun y H1 => td σ H1 fun x H2 => ∃ a o, x = .ref a ∧ DGet H2 a y o ∧ Q (.bl (!o.isSome)) H2
def sDPut (td ty tv : TE) : TS := fun D σ H => tv σ H fun v H1 => td σ H1 fun x H2 => ty σ H2 fun y H3 => ∃ a H4, x = .ref a ∧ DPut H3 a y v H4 ∧ D.nx σ H4
def sDAug (td ty tv : TE) (rd : V → V → Hp → VK → Prop) : TS := fun D σ H => td σ H fun x H1 => ty σ H1 fun y H2 => ∃ a v, x = .ref a ∧ DGet H2 a y (some v) ∧
  tv σ H2 fun y2 H3 => rd v y2 H3 fun z H4 => ∃ H5, DPut H4 a y z H5 ∧ D.nx σ H5
def sDDel (td ty : TE) : TS := fun D σ H => td σ H fun x H1 => ty σ H1 fun y H2 => ∃ a kvs k, x = .ref a ∧ H2 a = some (.dK kvs) ∧ y = kV k ∧ (valV kvs k).isSome = true ∧ D.nx σ (upd H2 a (.dK (dropK kvs k)))

section
variable {X : Cx} {o i e value : Expr} {pos pos' tpos : Pos} {td ty tv : TE}
theorem pe_dget (hu : X.A.units + 1 < cLine) (ho : PE X o td) (hi : PE X i ty) (hs : NoSl i) : PE X (.Subscript o i pos) (tDGet td ty) := by
  intro pins s σ H Q I h
  refine subD_of PySem.F.slot_dict_getitem.lookup hs (thn (ho pins s σ H _ I h) fun u s1 ⟨x, H1, I1, rx, q1⟩ => thn (hi pins s1 σ H1 _ I1 q1) fun iv s2 ⟨y, H2, I2, ry, a, v, ex, g, q2⟩ => ?_)
  subst ex
  obtain rfl : u = Value.ref a := rx
  exact ⟨dict_typeIs I2 g, d_getItem hu I2 g ry fun w' s3 I3 rw' => ⟨v, H2, I3, rw', q2⟩⟩
theorem pc_din (hu : X.A.units + 1 < cLine) (hi : PE X i ty) (ho : PE X o td) : PC X .In i o (tDIn ty td) := by
  intro pins s σ H Q I h
  refine thn (hi pins s σ H _ I h) fun iv s1 ⟨y, H1, I1, ry, q1⟩ => thn (ho pins s1 σ H1 _ I1 q1) fun u s2 ⟨x, H2, I2, rx, a, ov, ex, g, q2⟩ => ?_
  subst ex
  obtain rfl : u = Value.ref a := rx
  exact d_in hu I2 g ry fun s3 I3 => ⟨.bl ov.isSome, H2, I3, rfl, q2⟩
end


def tDNewK : TE := fun _ H Q => ∀ p, H p = none → Q (.ref p) (upd H p (.dK []))
def tDNewT : TE := fun _ H Q => ∀ p, H p = none → Q (.ref p) (upd H p (.dT []))
section
variable {X : Cx} {pos : Pos}
end

def tPairs : List (TE × TE) → St → Hp → (List (V × V) → Hp → Prop) → Prop
  | [], _, H, Q => Q [] H
  | (tk, tv) :: r, σ, H, Q => tk σ H fun x H1 => tv σ H1 fun y H2 => tPairs r σ H2 fun ps H3 => Q ((x, y) :: ps) H3
abbrev VV : List (V × V) → List (Value × Value) → Prop := Paired fun p q => RelV p.1 q.1 ∧ RelV p.2 q.2
def PPs (X : Cx) (pos : Pos) (keys : List (Option Expr)) (values : List Expr) (trs : List (TE × TE)) : Prop :=
  ∀ (pins : List (Addr × Obj)) (s : Shared) (σ : St) (H : Hp) (Q : List (V × V) → Hp → Prop), Inv X pins σ H s → tPairs trs σ H Q →
    wpAny (model X.prog X.w) X.A (evalPairs (pairTrees keys values X.env pos)) (fun vs s' => ∃ ps H', Inv X pins σ H' s' ∧ VV ps vs ∧ Q ps H') X.xe s
def mergeK (kvs more : List (Key × V)) : List (Key × V) := more.foldl (fun acc kv => putK acc kv.1 kv.2) kvs
def tDisp (trs : List (TE × TE)) : TE := fun σ H Q => ∀ p, H p = none → tPairs trs σ (upd H p (.dK [])) fun ps H2 => H2 p = some (.dK []) ∧ ∃ kvs : List (Key × V), ps = kvs.map (fun kv => (kV kv.1, kv.2)) ∧ kvs.length ≤ 15 ∧ Q (.ref p) (upd H2 p (.dK (mergeK [] kvs)))
structure M1 (X : Cx) (o : Expr) (m : Str) (apos : Pos) (e : Expr) (cpos : Pos) : Prop where
  base : attributeBase o m X.env (eval o X.env) = eval o X.env
  few : ((backTo cpos (starEach [e] X.env)).all (fun x => !x.1) && (backToKw cpos (keywordEach [] X.env)).all (fun x => x.1.isSome)
    && decide (([e] : List Expr).length + ([] : List Keyword).length + (if ([] : List Keyword).isEmpty then 0 else 1) < 30)) = true
  line : (apos.endLine == cpos.line) = true
  trees : backTo cpos (starEach [e] X.env) = [(false, eval e X.env)]
structure M2 (X : Cx) (o : Expr) (m : Str) (apos : Pos) (e f : Expr) (cpos : Pos) : Prop where
  base : attributeBase o m X.env (eval o X.env) = eval o X.env
  few : ((backTo cpos (starEach [e, f] X.env)).all (fun x => !x.1) && (backToKw cpos (keywordEach [] X.env)).all (fun x => x.1.isSome)
    && decide (([e, f] : List Expr).length + ([] : List Keyword).length + (if ([] : List Keyword).isEmpty then 0 else 1) < 30)) = true
  line : (apos.endLine == cpos.line) = true
  trees : backTo cpos (starEach [e, f] X.env) = [(false, eval e X.env), (false, eval f X.env)]

def IsD (H : Hp) (a : Addr) : Prop := (∃ kvs, Rd H a (.dK kvs)) ∨ ∃ kvs, Rd H a (.dT kvs)
section
variable {X : Cx} {pins : List (Addr × Obj)} {σ : St} {H : Hp} {s : Shared} {a : Addr} {y d : V} {u r : Value} {o : Option V} {A : Around} {E : Value → Shared → Prop}
end

def tDGet1 (td ty : TE) : TE := fun σ H Q => td σ H fun x H1 => ∃ a, x = .ref a ∧ IsD H1 a ∧ ty σ H1 fun y H2 => ∃ o, DGet H2 a y o ∧ Q (o.getD .non) H2
def tDGet2 (td ty tx : TE) : TE := fun σ H Q => td σ H fun x H1 => ∃ a, x = .ref a ∧ IsD H1 a ∧ ty σ H1 fun y H2 => tx σ H2 fun z H3 => ∃ o, DGet H3 a y o ∧ Q (o.getD z) H3
def tDPop1 (td ty : TE) : TE := fun σ H Q => td σ H fun x H1 => ∃ a, x = .ref a ∧ IsD H1 a ∧ ty σ H1 fun y H2 => ∃ kvs k v, H2 a = some (.dK kvs) ∧ y = kV k ∧ valV kvs k = some v ∧ Q v (upd H2 a (.dK (dropK kvs k)))
def tDPop2 (td ty tx : TE) : TE := fun σ H Q => td σ H fun x H1 => ∃ a, x = .ref a ∧ IsD H1 a ∧ ty σ H1 fun y H2 => tx σ H2 fun z H3 => ∃ kvs k, H3 a = some (.dK kvs) ∧ y = kV k ∧
  (∀ v, valV kvs k = some v → Q v (upd H3 a (.dK (dropK kvs k)))) ∧ (valV kvs k = none → Q z H3)
section
variable {X : Cx} {o e f : Expr} {apos cpos : Pos} {td ty tx : TE}
end

section
variable {X : Cx} {pins : List (Addr × Obj)} {σ : St} {H : Hp} {s : Shared} {a : Addr} {kvs : List (Key × V)} {A : Around} {E : Value → Shared → Prop}
end


section
variable {X : Cx} {pins : List (Addr × Obj)} {σ : St} {H : Hp} {s : Shared} {a : Addr} {y : V} {u : Value} {A : Around} {E : Value → Shared → Prop}
end
end L2

set_option Elab.async false
set_option linter.all false
set_option maxRecDepth 100000
set_option maxHeartbeats 4000000
namespace L2
open PySem PySem.Spec PyProof.Rows
theorem bt_all : bootBuiltins "all" = some (.builtin "all") := by decide +kernel
theorem vals_bl : ∀ {bs : List Bool} {us : List Value}, Vals (bs.map V.bl) us → us = bs.map Value.bool
  | [], _, h => by cases h; rfl
  | b :: bs, _, h => by
    cases h with
    | cons ra rb =>
      cases ra
      rw [vals_bl rb]
      rfl
theorem range_all : ∀ (bs : List Bool), (List.range bs.length).all (fun i => bs[i]?.getD false) = bs.all id := by
  intro bs
  rw [Bool.eq_iff_iff, List.all_eq_true, List.all_eq_true]
  constructor
  · intro h b hb
    obtain ⟨i, hi, rfl⟩ := List.getElem_of_mem hb
    have := h i (List.mem_range.mpr hi)
    rw [List.getElem?_eq_getElem hi] at this
    exact this
  · intro h i hi
    have hi' := List.mem_range.mp hi
    rw [List.getElem?_eq_getElem hi']
    exact h _ (List.getElem_mem hi')
section
variable {X : Cx}
def rAllL (K : PySem.W.Frag) : List V → Hp → VK → Prop := fun xs H Q => ∃ (p : Addr) (bs : List Bool), xs = [.ref p] ∧ SqL K H p (bs.map V.bl) ∧ Q (.bl (bs.all id)) H
theorem call_allL (hc : X.calm = true) : CallR X (.builtin "all") (rAllL X.K) := by
  intro pins s σ H xs us Q I r h
  obtain ⟨p, bs, rfl, hq, q⟩ := h
  obtain ⟨u, rfl, rx⟩ := vals1 r
  cases rx
  obtain ⟨its, r', pl, hz⟩ := I.list hq
  have hi := vals_bl r'
  subst hi
  have hh : X.A.in1.handled = none := I.ok.hd hc
  have lt : p < s.heap.objs.size := by obtain ⟨_, e, _⟩ := pl.isList; exact Heap.lt_size e
  refine call_all_walk (wpAny_pyIter_list pl.isList ⟨_, _, _, _, _, _, fun i => bs[i]?.getD false, rfl, Walks.list hh s.heap.objs.size p (Nat.ne_of_lt lt) (bs.map Value.bool).toArray, ⟨⟨_, Heap.get?_push_size _ rfl, rfl, rfl⟩, ?_⟩, ?_, fun h' tk hk => ?_⟩)
  · obtain ⟨o, e, r⟩ := pl.isList
    exact ⟨o, Heap.get?_push_of_some _ e, r⟩
  · intro i v s' Q' E' hv hQ
    have hv' : (bs.map Value.bool)[i]? = some v := by simpa using hv
    rw [List.getElem?_map] at hv'
    cases hb : bs[i]? with
    | none => rw [hb] at hv'; cases hv'
    | some b =>
      rw [hb] at hv'
      cases hv'
      have hQ' : Q' (bs[i]?.getD false) s' := hQ
      rw [hb] at hQ'
      exact wpAny_truthy_bool hQ'
  · have hk' : ∀ b o, s.heap.get? b = some o → h'.get? b = some o := fun b o e => hk b o (by simp; exact Nat.ne_of_lt (Heap.lt_size e)) (Heap.get?_push_of_some _ e)
    refine ⟨.bl _, H, I.kept hk', ?_, q⟩
    show Value.bool _ = Value.bool _
    rw [List.size_toArray, List.length_map, range_all]
end
def Its (x : Str) : It := ⟨fun i H => i < x.cps.size, fun i H v H' => H' = H ∧ ∃ c, x.cps[i]? = some c ∧ v = .str ⟨#[c]⟩, fun i H => x.cps.size ≤ i⟩
def iStr (tl : TE) : TI := fun σ H R => tl σ H fun v H1 => ∃ x, v = .str x ∧ R (Its x) H1
end L2

set_option Elab.async false
set_option linter.all false
set_option maxRecDepth 100000
set_option maxHeartbeats 4000000
namespace L2
open PySem PySem.Spec PyProof.Rows
section
variable {X : Cx}
def rEqP (K : PySem.W.Frag) (neg : Bool) : R2 := fun x y H Q => ∃ (p b : Addr) (i j k l : Int), x = .ref p ∧ y = .ref b ∧ SqT K H p [.int i, .int j] ∧ SqT K H b [.int k, .int l] ∧ Q (.bl (if neg then !(decide (i = k) && decide (j = l)) else (decide (i = k) && decide (j = l)))) H
end
end L2

set_option Elab.async false
set_option linter.all false
set_option maxRecDepth 100000
set_option maxHeartbeats 4000000
namespace L2
open PySem PySem.Spec PyProof.Rows
def Ite (K : PySem.W.Frag) (a : Addr) : It :=
  ⟨fun i H => ∃ xs x, SqL K H a xs ∧ xs[i]? = some x,
   fun i H v H' => ∃ p x, v = .ref p ∧ H p = none ∧ H' = upd H p (.tup [.int (i : Int), x]) ∧ ∀ xs, SqL K H a xs → xs[i]? = some x,
   fun i H => ∃ xs, SqL K H a xs ∧ xs.length ≤ i⟩
theorem turn_enum {P : Program} {w : World} {K : PySem.W.Frag} {es : List Expr} {kk : Nat} {tpos : Pos} {a e it : Addr} (hne : e ≠ it) :
    Turn P w K (.Tuple es kk tpos) (Ite K a) [e, it] e (fun i h => (∃ old, IsEnum h e it (i : Int) old) ∧ h.IsListIter it a i) where
  mem := by simp
  obj := fun i h st c hb => by
    obtain ⟨⟨old, he⟩, h1⟩ := st
    simp only [List.mem_cons, List.not_mem_nil, or_false] at hb
    rcases hb with rfl | rfl
    · exact ⟨_, he, fun v e => nomatch e⟩
    · obtain ⟨o, e, _, d⟩ := h1; exact ⟨o, e, fun v z => by rw [d] at z; cases z⟩
  keep := fun i h h' st k => by
    obtain ⟨⟨old, he⟩, o, a, r⟩ := st
    exact ⟨⟨old, k e (by simp) _ he⟩, ⟨o, k it (by simp) o a, r⟩⟩
  item := by
    intro X hP hw hK hc i pins s σ H E I hf st hg
    subst hP hw hK
    obtain ⟨xs, x, q1, e1⟩ := hg
    obtain ⟨its1, r1, p1, z1⟩ := I.list q1
    obtain ⟨u1, eu1, ru1⟩ := r1.get e1
    obtain ⟨⟨old, he⟩, h1⟩ := st
    have lt : ∀ {c o}, s.heap.get? c = some o → s.heap.objs.size ≠ c := fun e => Nat.ne_of_gt (Heap.lt_size e)
    refine wpAny_pyNext_enum_item he h1 p1.isList (x := u1) (by simpa using eu1) hne fun h' a1 a2 a3 a4 hk => ?_
    refine ⟨_, rfl, wpAny_letOwnedTupleGo_enum a1 fun h'' b1 b2 => ?_⟩
    have b2' : Heap.SameBut e h' h'' := b2
    have kk : ∀ c o, c ∉ [e, it] → s.heap.get? c = some o → h''.get? c = some o := fun c o hc e => by
      simp only [List.mem_cons, List.not_mem_nil, or_false, not_or] at hc
      exact b2'.extBut _ _ hc.1 (hk c o hc.1 hc.2 e)
    have tT : h''.get? s.heap.objs.size = some { cls := .type "tuple", data := .seq #[.int i s.toks, u1] } := b2'.extBut _ _ (lt he) a3
    have nT : H s.heap.objs.size = none := I.hok.fresh (Nat.le_refl _)
    have I' : Inv X pins σ (upd H s.heap.objs.size (.tup [.int (i : Int), x])) { s with heap := h'', toks := s.toks + 1 } := I.turnedT (t' := s.toks + 1) (its := [.int i s.toks, u1]) hf kk (Nat.le_refl _) (.cons ⟨_, rfl⟩ (.cons ru1 .nil)) (by show 2 ≤ sizeLine; decide) ⟨_, tT, rfl, _, rfl⟩
    obtain ⟨o2, ho2, r2⟩ := a2
    refine ⟨.ref s.heap.objs.size, upd H s.heap.objs.size (.tup [.int (i : Int), x]), I', rfl, ⟨_, x, rfl, nT, rfl, fun xs' w1 => by rw [I.list_inj w1 q1]; exact e1⟩, ⟨⟨_, b1⟩, ⟨o2, b2'.extBut _ _ (Ne.symm hne) ho2, r2⟩⟩, fun c hc => ?_⟩
    obtain ⟨o, eo⟩ : ∃ o, s.heap.get? c = some o := by
      simp only [List.mem_cons, List.not_mem_nil, or_false] at hc
      rcases hc with rfl | rfl
      · exact ⟨_, he⟩
      · obtain ⟨o, e, _⟩ := h1; exact ⟨o, e⟩
    rw [upd_ne (Ne.symm (lt eo))]
    exact (hf c hc).1
  done := by
    intro X hP hw hK hc i pins s σ H E I hf st hg
    subst hP hw hK
    obtain ⟨xs, q1, e⟩ := hg
    obtain ⟨its1, r1, p1, z1⟩ := I.list q1
    obtain ⟨⟨old, he⟩, h1⟩ := st
    have l1 := r1.length
    refine wpAny_pyNext_enum_end (I.ok.hd hc) he h1 p1.isList (by simp; omega) fun h' hk => ⟨rfl, I.turnedL (t' := s.toks) hf fun c o hc e => ?_⟩
    simp only [List.mem_cons, List.not_mem_nil, or_false, not_or] at hc
    exact hk c o hc.2 e
  self := fun _ _ _ _ _ st h => by
    obtain ⟨⟨old, he⟩, _⟩ := st
    exact wpAny_pyIter_enum he h
theorem bt_enumerate : bootBuiltins "enumerate" = some (.type "enumerate") := by decide +kernel
def iEnum (K : PySem.W.Frag) (ta : TA) : TI := fun σ H R => ta σ H fun vs H1 => ∃ a, vs = [.ref a] ∧ (∃ xs, SqL K H1 a xs) ∧ R (Ite K a) H1
theorem pi_enum {X : Cx} {ea : Expr} {ta : TA} {p pos : Pos} {es : List Expr} {kk : Nat} {tpos : Pos} (hg : Gl X "enumerate") (hm : X.mg "enumerate" = none) (ha : PA X [ea] ta) (hs : starEach [ea] X.env = [(false, eval ea X.env)] := by rfl) :
    PI X (.Tuple es kk tpos) (.Call (.Name "enumerate" p) [ea] [] pos) (iEnum X.K ta) := by
  intro pins s σ H R I h
  refine Call_ (ld_blt I hg hm bt_enumerate (PyProof.Rows.callWith_type1 (thn (ha pos pins s σ H _ I h) fun us s1 ⟨vs, H1, I1, r1, q1⟩ => ?_) hs rfl))
  obtain ⟨a, e, ⟨xs, w1⟩, q⟩ := q1
  subst e
  obtain ⟨u, rfl, ru⟩ := vals1 r1
  cases ru
  obtain ⟨its1, r2, p1, z1⟩ := I1.list w1
  refine call_enumerate_list p1.isList fun h' he hi hsz hk => wpAny_pyIter_enum he ?_
  refine ⟨_, _, _, _, H1, rfl, I1.kept (t' := s1.toks) hk, turn_enum (a := a) (e := s1.heap.objs.size + 1) (it := s1.heap.objs.size) (Nat.succ_ne_self _), ⟨⟨_, he⟩, hi⟩, fun c hc => ?_, q⟩
  have hle : s1.heap.objs.size ≤ c := by
    simp only [List.mem_cons, List.not_mem_nil, or_false] at hc
    rcases hc with rfl | rfl <;> omega
  exact I1.fpOk hle (I1.hok.fresh hle)
theorem for_enum {K : PySem.W.Frag} {a : Addr} {xs : List V} {g : TG} {tb : TS} {D : Ends} {σ : St} {H : Hp} (Pv : Nat → St → Hp → Prop) (h0 : Pv 0 σ H) (hl : ∀ i σ H, i ≤ xs.length → Pv i σ H → SqL K H a xs)
    (hs : ∀ i x p σ H, xs[i]? = some x → Pv i σ H → H p = none → g (.ref p) σ (upd H p (.tup [.int (i : Int), x])) fun σ2 H2 => tb { D with nx := Pv (i + 1), ct := Pv (i + 1), bk := D.nx } σ2 H2) (hd : ∀ σ H, Pv xs.length σ H → D.nx σ H) :
    ∃ W : Nat → Nat → St → Hp → Prop, (∃ m, W 0 m σ H) ∧ ∀ i m σ H, W i m σ H →
      ((Ite K a).stop i H ∧ D.nx σ H) ∨ ((Ite K a).go i H ∧ ∃ N : St → Hp → Prop, (∀ σ' H', N σ' H' → ∃ m', m' < m ∧ W (i + 1) m' σ' H') ∧ ∀ x H', (Ite K a).yld i H x H' → g x σ H' fun σ2 H2 => tb { D with nx := N, ct := N, bk := D.nx } σ2 H2) := by
  refine ⟨fun i m σ H => m = xs.length - i ∧ i ≤ xs.length ∧ Pv i σ H, ⟨xs.length, by simp, Nat.zero_le _, h0⟩, ?_⟩
  rintro i m σ H ⟨rfl, hi, p⟩
  have q := hl i σ H hi p
  by_cases hlt : i < xs.length
  · refine .inr ⟨⟨xs, xs[i], q, by simp [hlt]⟩, Pv (i + 1), fun σ' H' p' => ⟨xs.length - (i + 1), by omega, rfl, hlt, p'⟩, fun x H' y => ?_⟩
    obtain ⟨pp, x', rfl, hp, rfl, e⟩ := y
    exact hs i x' pp σ H (e xs q) p hp
  · have e : i = xs.length := by omega
    subst e
    exact .inl ⟨⟨xs, q, Nat.le_refl _⟩, hd σ H p⟩
theorem for_zip {t1 t2 : Bool} {K : PySem.W.Frag} {a b : Addr} {xs ys : List V} {g : TG} {tb : TS} {D : Ends} {σ : St} {H : Hp} (Pv : Nat → St → Hp → Prop) (he : xs.length = ys.length) (h0 : Pv 0 σ H) (hl : ∀ i σ H, i ≤ xs.length → Pv i σ H → Sq t1 K H a xs ∧ Sq t2 K H b ys)
    (hs : ∀ i x y p σ H, xs[i]? = some x → ys[i]? = some y → Pv i σ H → H p = none → g (.ref p) σ (upd H p (.tup [x, y])) fun σ2 H2 => tb { D with nx := Pv (i + 1), ct := Pv (i + 1), bk := D.nx } σ2 H2) (hd : ∀ σ H, Pv xs.length σ H → D.nx σ H) :
    ∃ W : Nat → Nat → St → Hp → Prop, (∃ m, W 0 m σ H) ∧ ∀ i m σ H, W i m σ H →
      ((Itz t1 t2 K a b).stop i H ∧ D.nx σ H) ∨ ((Itz t1 t2 K a b).go i H ∧ ∃ N : St → Hp → Prop, (∀ σ' H', N σ' H' → ∃ m', m' < m ∧ W (i + 1) m' σ' H') ∧ ∀ x H', (Itz t1 t2 K a b).yld i H x H' → g x σ H' fun σ2 H2 => tb { D with nx := N, ct := N, bk := D.nx } σ2 H2) := by
  refine ⟨fun i m σ H => m = xs.length - i ∧ i ≤ xs.length ∧ Pv i σ H, ⟨xs.length, by simp, Nat.zero_le _, h0⟩, ?_⟩
  rintro i m σ H ⟨rfl, hi, p⟩
  obtain ⟨q1, q2⟩ := hl i σ H hi p
  by_cases hlt : i < xs.length
  · refine .inr ⟨⟨xs, ys, xs[i], ys[i]'(by omega), q1, q2, by simp [hlt], List.getElem?_eq_getElem (by omega)⟩, Pv (i + 1), fun σ' H' p' => ⟨xs.length - (i + 1), by omega, rfl, hlt, p'⟩, fun x H' y => ?_⟩
    obtain ⟨pp, x', y', rfl, hp, rfl, e⟩ := y
    obtain ⟨e1, e2⟩ := e xs ys q1 q2
    exact hs i x' y' pp σ H e1 e2 p hp
  · have e : i = xs.length := by omega
    subst e
    exact .inl ⟨⟨xs, ys, q1, q2, .inl (Nat.le_refl _)⟩, hd σ H p⟩
section
variable {X : Cx}
def rRevL (K : PySem.W.Frag) : V → Hp → VK → Prop := fun x H Q => ∃ a xs, x = .ref a ∧ SqL K H a xs ∧ ∀ p, H p = none → Q (.ref p) (upd H p (.lst xs.reverse))
def tRevL (K : PySem.W.Frag) (te : TE) : TE := fun σ H Q => te σ H fun x H1 => rRevL K x H1 Q
theorem pe_revL {e : Expr} {te : TE} {k : Nat} {p1 p2 p3 pos : Pos} (he : PE X e te) : PE X (.Subscript e (.Slice none none (some (.UnaryOp .USub (.Constant (.int 1) k p1) p2)) p3) pos) (tRevL X.K te) := by
  intro pins s σ H Q I h
  refine Subscript_ (thn (he pins s σ H _ I h) fun v s1 ⟨x, H1, I1, r1, q1⟩ => ?_)
  obtain ⟨a, xs, rfl, hx, q⟩ := q1
  cases r1
  refine wpAny_Slice ?_
  rw [evalPart_none]
  refine wpAny_pure (wpAny_pure ?_)
  rw [evalPart_some]
  refine thn ((pe_un un_neg pe_int : PE X (.UnaryOp .USub (.Constant (.int 1) k p1) p2) _) pins s1 σ H1 (fun x H' => x = .int (-1) ∧ H' = H1) I1 ⟨_, rfl, rfl, rfl⟩) fun vs s2 ⟨y, H2, I2, r2, e2, e3⟩ => ?_
  subst e2 e3
  obtain ⟨t, rfl⟩ := r2
  have I3 : Inv X pins σ H2 { s2 with heap := s2.heap.push { cls := .type "slice", data := .fields #[.none, .none, .int (-1) t] } } := I2.kept (t' := s2.toks) fun b ob q => Heap.get?_push_of_some _ q
  obtain ⟨its, r, ht, hz⟩ := I3.list hx
  have hlen := r.length
  refine tail_any (ops := [.ref a, .ref s2.heap.objs.size]) ht.isList.typeIs slot_list_getitem.lookup ?_ (by with_unfolding_all rfl)
  refine wpAny_getItem_list_slice ht.isList (Heap.IsSliceOf.new ..) .none .none (.int _ _) (by simp) ?_ (by rw [List.size_toArray] <;> omega)
  rw [PySem.W.krv_pick]
  refine ⟨.ref _, _, I3.laid (t' := s2.toks) (o := .lst xs.reverse) (fun b ob q => Heap.get?_push_of_some _ q) (Nat.le_refl _) ?_, rfl, q _ (I3.hok.fresh (Nat.le_refl _))⟩
  exact ⟨by rw [List.length_reverse]; exact hz, its.reverse, 0, r.reverse, Heap.get?_push_size _ rfl⟩
end
end L2

set_option Elab.async false
set_option linter.all false
set_option maxRecDepth 100000
set_option maxHeartbeats 4000000
namespace L2
open PySem PySem.Spec PyProof.Rows
abbrev IsZipA (h : Heap) (z TI TO T0 : Addr) (f1 : Bool) : Prop :=
  h.get? z = some { cls := .type "zip", dict := none, data := .fields #[rawInt T0, .bool f1, .bool false, .ref TI, .ref TO], slots := #[] }
section
variable {prog : Program} {w : World} {A : Around} {E : Value → Shared → Prop} {s : Shared}
theorem wpAny_ifAlive {a : Addr} {Q : Option Obj → Shared → Prop} (h : Q (s.heap.get? a) s) : wpAny (model prog w) A (loadIfAlive a) Q E s := fun _ _ _ => h
theorem owned_out {z TI TO T0 : Addr} {f1 : Bool} {o0 : Obj} {Q : Bool → Shared → Prop} (hz : IsZipA s.heap z TI TO T0 f1) (h0 : s.heap.get? T0 = some o0)
    (hQ : ∀ h', IsZipA h' z TI TO T0 true → Heap.SameBut z s.heap h' → Q false { s with heap := h' }) : wpAny (model prog w) A (Builtin.SmallTypes.ownedTupleIsFree (.ref z)) Q E s := by
  unfold Builtin.SmallTypes.ownedTupleIsFree
  refine wpAny_bind (wpAny_field hz rfl (x := rawInt T0) rfl ?_)
  show wpAny _ _ (loadIfAlive ((T0 : Nat) : Int).toNat >>= _) _ _ _
  refine wpAny_bind (wpAny_ifAlive ?_)
  rw [Int.toNat_natCast, h0]
  show wpAny _ _ (field (.ref z) 1 >>= _) _ _ _
  refine wpAny_bind (wpAny_field hz rfl (x := .bool f1) rfl ?_)
  cases f1 with
  | true =>
    show wpAny _ _ (pure false) _ _ _
    refine wpAny_pure (hQ s.heap hz ⟨rfl, fun _ _ => rfl⟩)
  | false =>
    show wpAny _ _ (setField (.ref z) 1 (.bool true) >>= fun _ => pure false) _ _ _
    exact wpAny_bind (wpAny_setField_rec hz (by simp) fun h' hz' hs' => wpAny_pure (hQ h' hz' hs'))
theorem zipA_item {t1 t2 : Bool} {z TI TO T0 i1 i2 l1 l2 : Addr} {f1 : Bool} {o0 : Obj} {k1 k2 : Nat} {xs ys : Array Value} {x y : Value} {Q : Value → Shared → Prop} (D : ZipApart z TI TO i1 i2 l1 l2)
    (hz : IsZipA s.heap z TI TO T0 f1) (h0 : s.heap.get? T0 = some o0) (hTI : IsPair s.heap TI (.ref i1) (.ref i2))
    (h1 : SIter t1 s.heap i1 l1 k1) (h2 : SIter t2 s.heap i2 l2 k2) (hl1 : SSeq t1 s.heap l1 xs) (hl2 : SSeq t2 s.heap l2 ys) (hx : xs[k1]? = some x) (hy : ys[k2]? = some y)
    (hQ : ∀ h', IsZipA h' z TI TO T0 true → SIter t1 h' i1 l1 (k1 + 1) → SIter t2 h' i2 l2 (k2 + 1) → IsPair h' s.heap.objs.size x y → h'.objs.size = s.heap.objs.size + 1 →
      (∀ c o, c ≠ z → c ≠ i1 → c ≠ i2 → s.heap.get? c = some o → h'.get? c = some o) → Q (.ref s.heap.objs.size) { s with heap := h' }) :
    wpAny (model prog w) A (Builtin.«zip.__next__» ⟨[.ref z], []⟩) (fun fin s' => ∃ v, fin = .done (.ret v) ∧ Q v s') E s := by
  show wpAny _ _ (field (.ref z) 2 >>= _) _ _ _; refine wpAny_bind (wpAny_field hz rfl (x := .bool false) rfl ?_)
  show wpAny _ _ (field (.ref z) 3 >>= _) _ _ _; refine wpAny_bind (wpAny_field hz rfl (x := .ref TI) rfl ?_); refine wpAny_bind (wpAny_seqItems hTI rfl ?_)
  show wpAny _ _ (Builtin.SmallTypes.ownedTupleIsFree (.ref z) >>= _) _ _ _; refine wpAny_bind (owned_out hz h0 fun q1 z1 s1 => ?_)
  simp only [Bool.false_eq_true, if_false]
  refine wpAny_bind ?_
  rw [List.forIn_toArray]
  simp only [List.forIn_cons, List.forIn_nil]
  refine wpAny_bind (wpAny_bind (wpAny_holding ?_))
  show wpAny _ _ (Builtin.SmallTypes.nextOf (.ref i1) >>= _) _ _ _
  refine wpAny_bind (nextOf_s (h1.to fun o e => s1.extBut _ _ D.i1z e) (hl1.to fun o e => s1.extBut _ _ D.l1z e) hx fun q2 a2 s2 => wpAny_pure ?_)
  refine wpAny_pure ?_
  refine wpAny_bind (wpAny_bind (wpAny_holding ?_))
  show wpAny _ _ (Builtin.SmallTypes.nextOf (.ref i2) >>= _) _ _ _
  refine wpAny_bind (nextOf_s (h2.to fun o e => s2.extBut _ _ D.i12.symm (s1.extBut _ _ D.i2z e)) (hl2.to fun o e => s2.extBut _ _ D.l2i1 (s1.extBut _ _ D.l2z e)) hy fun q3 a3 s3 => wpAny_pure ?_)
  refine wpAny_pure (wpAny_pure ?_)
  show wpAny _ _ (newTuple [x, y] >>= _) _ _ _
  refine wpAny_bind (wpAny_newTuple ?_)
  have hsz : q3.objs.size = s.heap.objs.size := by rw [s3.1, s2.1, s1.1]
  refine wpAny_pure ⟨_, rfl, ?_⟩
  show Q (.ref q3.objs.size) _
  have k3 : ∀ c o, c ≠ z → c ≠ i1 → c ≠ i2 → s.heap.get? c = some o → q3.get? c = some o := fun c o c1 c2 c3 e => s3.extBut _ _ c3 (s2.extBut _ _ c2 (s1.extBut _ _ c1 e))
  have z3 : IsZipA q3 z TI TO T0 true := s3.extBut _ _ D.i2z.symm (s2.extBut _ _ D.i1z.symm z1)
  have tp : IsPair (q3.push { cls := .type "tuple", data := .seq #[x, y] }) q3.objs.size x y := Heap.get?_push_size _ rfl
  rw [hsz] at tp ⊢
  exact hQ _ (Heap.get?_push_of_some _ z3) (a2.to fun o e => Heap.get?_push_of_some _ (s3.extBut _ _ D.i12 e)) (a3.to fun o e => Heap.get?_push_of_some _ e) tp (by rw [Heap.size_push, hsz]) fun c o c1 c2 c3 e => Heap.get?_push_of_some _ (k3 c o c1 c2 c3 e)
theorem zipA_end {t1 t2 : Bool} {z TI TO T0 i1 i2 l1 l2 : Addr} {f1 : Bool} {o0 : Obj} {k1 k2 : Nat} {xs ys : Array Value} {Q : Fin → Shared → Prop} (hh : A.handled = none) (D : ZipApart z TI TO i1 i2 l1 l2)
    (hz : IsZipA s.heap z TI TO T0 f1) (h0 : s.heap.get? T0 = some o0) (hTI : IsPair s.heap TI (.ref i1) (.ref i2))
    (h1 : SIter t1 s.heap i1 l1 k1) (hl1 : SSeq t1 s.heap l1 xs) (hend : xs[k1]? = none)
    (hE : ∀ h' e, (∀ c o, c ≠ z → c ≠ i1 → s.heap.get? c = some o → h'.get? c = some o) → (∃ o, h'.get? e = some o ∧ o.cls = .type "StopIteration") → E (.ref e) { s with heap := h' }) :
    wpAny (model prog w) A (Builtin.«zip.__next__» ⟨[.ref z], []⟩) Q E s := by
  show wpAny _ _ (field (.ref z) 2 >>= _) _ _ _; refine wpAny_bind (wpAny_field hz rfl (x := .bool false) rfl ?_)
  show wpAny _ _ (field (.ref z) 3 >>= _) _ _ _; refine wpAny_bind (wpAny_field hz rfl (x := .ref TI) rfl ?_); refine wpAny_bind (wpAny_seqItems hTI rfl ?_)
  show wpAny _ _ (Builtin.SmallTypes.ownedTupleIsFree (.ref z) >>= _) _ _ _; refine wpAny_bind (owned_out hz h0 fun q1 z1 s1 => ?_)
  simp only [Bool.false_eq_true, if_false]
  refine wpAny_bind ?_
  rw [List.forIn_toArray]
  simp only [List.forIn_cons, List.forIn_nil]
  refine wpAny_bind (wpAny_bind (wpAny_holding ?_))
  show wpAny _ _ (Builtin.SmallTypes.nextOf (.ref i1) >>= _) _ _ _
  exact wpAny_bind (nextOf_sE hh (h1.to fun o e => s1.extBut _ _ D.i1z e) (hl1.to fun o e => s1.extBut _ _ D.l1z e) hend fun q2 e s2 he => hE q2 e (fun c o c1 c2 x => s2 _ _ c2 (s1.extBut _ _ c1 x)) he)
theorem pyNext_zipA {t1 t2 : Bool} {z TI TO T0 i1 i2 l1 l2 : Addr} {f1 : Bool} {o0 : Obj} {k1 k2 : Nat} {xs ys : Array Value} {x y : Value} {Q : Option Value → Shared → Prop} (D : ZipApart z TI TO i1 i2 l1 l2)
    (hz : IsZipA s.heap z TI TO T0 f1) (h0 : s.heap.get? T0 = some o0) (hTI : IsPair s.heap TI (.ref i1) (.ref i2))
    (h1 : SIter t1 s.heap i1 l1 k1) (h2 : SIter t2 s.heap i2 l2 k2) (hl1 : SSeq t1 s.heap l1 xs) (hl2 : SSeq t2 s.heap l2 ys) (hx : xs[k1]? = some x) (hy : ys[k2]? = some y)
    (hQ : ∀ h', IsZipA h' z TI TO T0 true → SIter t1 h' i1 l1 (k1 + 1) → SIter t2 h' i2 l2 (k2 + 1) → IsPair h' s.heap.objs.size x y → h'.objs.size = s.heap.objs.size + 1 →
      (∀ c o, c ≠ z → c ≠ i1 → c ≠ i2 → s.heap.get? c = some o → h'.get? c = some o) → Q (some (.ref s.heap.objs.size)) { s with heap := h' }) :
    wpAny (model prog w) A (pyNext (.ref z)) Q E s := by
  have hT : s.TypeIs (.ref z) "zip" := ⟨_, hz, rfl⟩
  unfold pyNext
  exact wpAny_bind (wpAny_attempt (wpAny_callSpecial?_slot (name := Str.ofString "__next__") hT F.slot_zip_next (wpAny_call_entry F.slot_zip_next hT F.entry_zip_next (zipA_item D hz h0 hTI h1 h2 hl1 hl2 hx hy fun h' a1 a3 a4 a5 a6 a7 => wpAny_pure (hQ h' a1 a3 a4 a5 a6 a7)) (F.args_zip_next_1 _))))
theorem pyNext_zipAE {t1 : Bool} {z TI TO T0 i1 i2 l1 l2 : Addr} {f1 : Bool} {o0 : Obj} {k1 : Nat} {xs : Array Value} {Q : Option Value → Shared → Prop} (hh : A.handled = none) (D : ZipApart z TI TO i1 i2 l1 l2)
    (hz : IsZipA s.heap z TI TO T0 f1) (h0 : s.heap.get? T0 = some o0) (hTI : IsPair s.heap TI (.ref i1) (.ref i2)) (h1 : SIter t1 s.heap i1 l1 k1) (hl1 : SSeq t1 s.heap l1 xs) (hend : xs[k1]? = none)
    (hQ : ∀ h', (∀ c o, c ≠ z → c ≠ i1 → s.heap.get? c = some o → h'.get? c = some o) → Q none { s with heap := h' }) : wpAny (model prog w) A (pyNext (.ref z)) Q E s := by
  have hT : s.TypeIs (.ref z) "zip" := ⟨_, hz, rfl⟩
  unfold pyNext
  refine wpAny_bind (wpAny_attempt (wpAny_callSpecial?_slot (name := Str.ofString "__next__") hT F.slot_zip_next (wpAny_call_entry F.slot_zip_next hT F.entry_zip_next (zipA_end (t1 := t1) (t2 := false) (k1 := k1) (k2 := 0) (xs := xs) (ys := xs) hh D hz h0 hTI h1 hl1 hend fun h' e hk he => ?_) (F.args_zip_next_1 _))))
  obtain ⟨o, ho, hc⟩ := he
  exact wpAny_bind (wpAny_isInstance (T := "StopIteration") (b := true) ⟨o, ho, hc⟩ isSubtype_stop (wpAny_pure (hQ _ hk)))
end
def ZDrawn (N : Nat) (xs ys acc : Array Value) (h : Heap) (i : Nat) : Prop := acc.size = i ∧ ∀ j, j < i → ∃ T x y, acc[j]? = some (.ref T) ∧ xs[j]? = some x ∧ ys[j]? = some y ∧ IsPair h T x y ∧ N ≤ T
theorem ZDrawn.keep {N : Nat} {xs ys acc : Array Value} {h h' : Heap} {i : Nat} (d : ZDrawn N xs ys acc h i) (k : ∀ b o, N ≤ b → o.cls = .type "tuple" → h.get? b = some o → h'.get? b = some o) : ZDrawn N xs ys acc h' i :=
  ⟨d.1, fun j hj => by obtain ⟨T, x, y, a, b, c, e, n⟩ := d.2 j hj; exact ⟨T, x, y, a, b, c, k T _ n rfl e, n⟩⟩
theorem ZDrawn.push {N T : Nat} {xs ys acc : Array Value} {h : Heap} {i : Nat} {x y : Value} (d : ZDrawn N xs ys acc h i) (hx : xs[i]? = some x) (hy : ys[i]? = some y) (hT : IsPair h T x y) (n : N ≤ T) : ZDrawn N xs ys (acc.push (.ref T)) h (i + 1) := by
  refine ⟨by rw [Array.size_push, d.1], fun j hj => ?_⟩
  by_cases e : j = i
  · subst e
    exact ⟨T, x, y, by rw [Array.getElem?_push, if_pos d.1.symm], hx, hy, hT, n⟩
  · obtain ⟨T', x', y', a, b, c, f, m⟩ := d.2 j (by omega)
    exact ⟨T', x', y', by rw [Array.getElem?_push, if_neg (by rw [d.1]; exact e)]; exact a, b, c, f, m⟩
section
variable {prog : Program} {w : World} {A : Around} {R : Result → Shared → Prop}
theorem extend_zipA {t1 t2 : Bool} {z TI TO T0 i1 i2 l1 l2 S : Addr} {xs ys : Array Value} {x0 y0 : Value} {N n : Nat} (hh : A.in1.handled = none) (D : ZipApart z TI TO i1 i2 l1 l2) (hSz : S ≠ z) (hS1 : S ≠ i1) (hS2 : S ≠ i2) (hSTI : S ≠ TI) (hSl1 : S ≠ l1) (hSl2 : S ≠ l2) (hT0 : T0 ≠ S)
    (hxn : xs.size = n) (hyn : ys.size = n) (hn : n ≤ sizeLine) (res : Value) :
    ∀ (k i : Nat) (s : Shared) (acc : Array Value) (c : Nat) (f1 : Bool), n - i = k → i ≤ n → N ≤ s.heap.objs.size → IsZipA s.heap z TI TO T0 f1 → IsPair s.heap T0 x0 y0 → IsPair s.heap TI (.ref i1) (.ref i2) → SIter t1 s.heap i1 l1 i → SIter t2 s.heap i2 l2 i → SSeq t1 s.heap l1 xs → SSeq t2 s.heap l2 ys →
    s.heap.get? S = some { cls := .type "list", dict := none, data := .seq acc c, slots := #[] } → ZDrawn N xs ys acc s.heap i →
    (∀ h' acc' c', (∀ b o, b ≠ z → b ≠ i1 → b ≠ i2 → b ≠ S → s.heap.get? b = some o → h'.get? b = some o) → h'.get? S = some { cls := .type "list", dict := none, data := .seq acc' c', slots := #[] } → ZDrawn N xs ys acc' h' n → R (.ok (.ret res)) { s with heap := h' }) →
    codeAny (model prog w) A (.builtin "list.extend.loop" ⟨[.ref S, .ref z, res], []⟩) R s := by
  intro k
  induction k with
  | zero =>
    intro i s acc c f1 hk hi hN hz h0 hTI h1 h2 hl1 hl2 hS hd hR
    have hin : i = n := by omega
    subst hin
    refine codeAny_builtin F.entry_extend_loop ?_
    rw [Around.under_plainId F.plain_extend_loop _]
    show wpAny _ A.in1 (pyNext (.ref z) >>= _) _ _ s
    refine wpAny_bind (pyNext_zipAE hh D hz h0 hTI h1 hl1 (by rw [Array.getElem?_eq_none (by omega)]) fun h' hk' => ?_)
    refine wpAny_pure (hR h' acc c (fun b o b1 b2 _ _ e => hk' b o b1 b2 e) (hk' S _ hSz hS1 hS) (hd.keep fun b o _ hc e => hk' b o ?_ ?_ e))
    · intro q; subst q; rw [hz] at e; cases e; simp at hc
    · intro q; subst q; obtain ⟨o', e', _⟩ := h1.obj; rw [e] at e'; cases e'; exact (by cases t1 <;> (obtain ⟨o2, e2, c2, _⟩ := h1; rw [e] at e2; cases e2; rw [c2] at hc; simp at hc))
  | succ k ih =>
    intro i s acc c f1 hk hi hN hz h0 hTI h1 h2 hl1 hl2 hS hd hR
    have hlt : i < n := by omega
    refine codeAny_builtin F.entry_extend_loop ?_
    rw [Around.under_plainId F.plain_extend_loop _]
    show wpAny _ A.in1 (pyNext (.ref z) >>= _) _ _ s
    refine wpAny_bind (pyNext_zipA D hz h0 hTI h1 h2 hl1 hl2 (x := xs[i]'(by omega)) (y := ys[i]'(by omega)) (Array.getElem?_eq_getElem _) (Array.getElem?_eq_getElem _) fun h' a1 a2 a3 a4 a5 hk' => ?_)
    have hS' := hk' S _ hSz hS1 hS2 hS
    have nz : ∀ b o, o.cls = .type "tuple" → s.heap.get? b = some o → b ≠ z ∧ b ≠ i1 ∧ b ≠ i2 := fun b o hc e => by
      refine ⟨?_, ?_, ?_⟩
      · intro q; subst q; rw [hz] at e; cases e; simp at hc
      · intro q; subst q; cases t1 <;> (obtain ⟨o2, e2, c2, _⟩ := h1; rw [e] at e2; cases e2; rw [c2] at hc; simp at hc)
      · intro q; subst q; cases t2 <;> (obtain ⟨o2, e2, c2, _⟩ := h2; rw [e] at e2; cases e2; rw [c2] at hc; simp at hc)
    show wpAny _ A.in1 (updateSeq S (·.push (.ref s.heap.objs.size)) >>= _) _ _ _
    refine wpAny_bind ?_
    have oth : ∀ b o, b ≠ S → h'.get? b = some o → (h'.update S (Obj.mapSeq (·.push (.ref s.heap.objs.size)))).get? b = some o := fun b o hb e => (Heap.get?_update_other _ _ (Ne.symm hb)).trans e
    have ltS : s.heap.objs.size ≠ S := Nat.ne_of_gt (Heap.lt_size hS)
    have d1 : ZDrawn N xs ys acc h' i := hd.keep fun b o _ hc e => by obtain ⟨n1, n2, n3⟩ := nz b o hc e; exact hk' b o n1 n2 n3 e
    have d2 : ZDrawn N xs ys (acc.push (.ref s.heap.objs.size)) h' (i + 1) := d1.push (Array.getElem?_eq_getElem (by omega)) (Array.getElem?_eq_getElem (by omega)) a4 hN
    refine wpAny_updateSeq hS' rfl (wpAny_pure ⟨plainId_quiet F.plain_extend_loop _, ih (i + 1) _ (acc.push (.ref s.heap.objs.size)) _ true (by omega) hlt ?_ ?_ ?_ ?_ ?_ ?_ ?_ ?_ (Heap.get?_update_self _ hS' rfl) ?_ fun h'' acc' c' hk'' hS'' hd'' => ?_⟩)
      (by rw [hd.1]; omega) (by show (acc.push _).size ≤ sizeLine + 1; rw [Array.size_push, hd.1]; omega)
    · show N ≤ (h'.update S _).objs.size
      rw [(Heap.SameBut.update ..).1, a5]; omega
    · exact oth _ _ (Ne.symm hSz) a1
    · exact oth _ _ hT0 (by obtain ⟨n1, n2, n3⟩ := nz T0 _ rfl h0; exact hk' T0 _ n1 n2 n3 h0)
    · exact oth _ _ (Ne.symm hSTI) (hk' TI _ D.TIz D.TIi1 D.TIi2 hTI)
    · exact a2.to fun o e => oth _ o (Ne.symm hS1) e
    · exact a3.to fun o e => oth _ o (Ne.symm hS2) e
    · exact hl1.to fun o e => oth _ o (Ne.symm hSl1) (hk' _ _ D.l1z D.l1i1 D.l1i2 e)
    · exact hl2.to fun o e => oth _ o (Ne.symm hSl2) (hk' _ _ D.l2z D.l2i1 D.l2i2 e)
    · exact d2.keep fun b o _ hc e => oth b o (fun q => by subst q; rw [hS'] at e; cases e; simp at hc) e
    · exact hR h'' acc' c' (fun b o b1 b2 b3 b4 e => hk'' b o b1 b2 b3 b4 (oth b o b4 (hk' b o b1 b2 b3 e))) hS'' hd''
end
theorem zip_no_len : typeLookup (.type "zip") "__len__" = pure none := by rw [typeLookup_type, builtinLookup_eq_fast]; kernel_rfl
theorem zip_no_hint : typeLookup (.type "zip") "__length_hint__" = pure none := by rw [typeLookup_type, builtinLookup_eq_fast]; kernel_rfl
section
variable {prog : Program} {w : World} {A : Around} {R : Result → Shared → Prop}
theorem extend_zip0 {t1 t2 : Bool} {z TI TO i1 i2 l1 l2 S : Addr} {xs ys : Array Value} {u v : Value} {N n : Nat} (hh : A.in1.handled = none) (D : ZipApart z TI TO i1 i2 l1 l2) (hSz : S ≠ z) (hS1 : S ≠ i1) (hS2 : S ≠ i2) (hSTI : S ≠ TI) (hSTO : S ≠ TO) (hSl1 : S ≠ l1) (hSl2 : S ≠ l2)
    (hxn : xs.size = n) (hyn : ys.size = n) (hn : n ≤ sizeLine) (res : Value) {s : Shared} {c : Nat} (hN : N ≤ s.heap.objs.size) (hz : IsZip s.heap z TI TO .none) (hTI : IsPair s.heap TI (.ref i1) (.ref i2)) (hTO : IsPair s.heap TO u v) (h1 : SIter t1 s.heap i1 l1 0) (h2 : SIter t2 s.heap i2 l2 0) (hl1 : SSeq t1 s.heap l1 xs) (hl2 : SSeq t2 s.heap l2 ys)
    (hS : s.heap.get? S = some { cls := .type "list", dict := none, data := .seq #[] c, slots := #[] })
    (hR : ∀ h' acc' c', (∀ b o, b ≠ z → b ≠ TO → b ≠ i1 → b ≠ i2 → b ≠ S → s.heap.get? b = some o → h'.get? b = some o) → h'.get? S = some { cls := .type "list", dict := none, data := .seq acc' c', slots := #[] } → ZDrawn N xs ys acc' h' n → R (.ok (.ret res)) { s with heap := h' }) :
    codeAny (model prog w) A (.builtin "list.extend.loop" ⟨[.ref S, .ref z, res], []⟩) R s := by
  have d0 : ZDrawn N xs ys #[] s.heap 0 := ⟨rfl, fun j hj => absurd hj (Nat.not_lt_zero _)⟩
  refine codeAny_builtin F.entry_extend_loop ?_
  rw [Around.under_plainId F.plain_extend_loop _]
  show wpAny _ A.in1 (pyNext (.ref z) >>= _) _ _ s
  cases n with
  | zero =>
    refine wpAny_bind (pyNext_zipSE hh D hz hTI hTO h1 h2 hl1 hl2 (.inl (by rw [Array.getElem?_eq_none (by omega)])) fun h' hk' => ?_)
    exact wpAny_pure (hR h' #[] c (fun b o b1 b2 b3 b4 _ e => hk' b o b1 b2 b3 b4 e) (hk' S _ hSz hSTO hS1 hS2 hS) ⟨rfl, fun j hj => absurd hj (Nat.not_lt_zero _)⟩)
  | succ n =>
    refine wpAny_bind (pyNext_zipS D hz hTI hTO h1 h2 hl1 hl2 (x := xs[0]'(by omega)) (y := ys[0]'(by omega)) (Array.getElem?_eq_getElem _) (Array.getElem?_eq_getElem _) fun h' a1 aTO a2 a3 a4 a5 hk' => ?_)
    have hS' := hk' S _ hSz hSTO hS1 hS2 hS
    show wpAny _ A.in1 (updateSeq S (·.push (.ref s.heap.objs.size)) >>= _) _ _ _
    refine wpAny_bind ?_
    have oth : ∀ b o, b ≠ S → h'.get? b = some o → (h'.update S (Obj.mapSeq (·.push (.ref s.heap.objs.size)))).get? b = some o := fun b o hb e => (Heap.get?_update_other _ _ (Ne.symm hb)).trans e
    have ltS : s.heap.objs.size ≠ S := Nat.ne_of_gt (Heap.lt_size hS)
    have dd : ZDrawn N xs ys #[] h' 0 := ⟨rfl, fun j hj => absurd hj (Nat.not_lt_zero _)⟩
    have d2 : ZDrawn N xs ys ((#[] : Array Value).push (.ref s.heap.objs.size)) h' (0 + 1) := dd.push (Array.getElem?_eq_getElem (by omega)) (Array.getElem?_eq_getElem (by omega)) a4 hN
    refine wpAny_updateSeq hS' rfl (wpAny_pure ⟨plainId_quiet F.plain_extend_loop _, extend_zipA (t1 := t1) (t2 := t2) (T0 := s.heap.objs.size) (x0 := xs[0]'(by omega)) (y0 := ys[0]'(by omega)) (n := n + 1) (N := N) hh D hSz hS1 hS2 hSTI hSl1 hSl2 ltS hxn hyn hn res n 1 _ ((#[] : Array Value).push (.ref s.heap.objs.size)) _ false (by omega) (by omega) ?_ ?_ ?_ ?_ ?_ ?_ ?_ ?_ (Heap.get?_update_self _ hS' rfl) ?_ fun h'' acc' c' hk'' hS'' hd'' => ?_⟩)
      (by simp) (by show ((#[] : Array Value).push _).size ≤ sizeLine + 1; simp)
    · show N ≤ (h'.update S _).objs.size
      rw [(Heap.SameBut.update ..).1, a5]; omega
    · exact oth _ _ (Ne.symm hSz) a1
    · exact oth _ _ ltS a4
    · exact oth _ _ (Ne.symm hSTI) (hk' TI _ D.TIz D.TITO D.TIi1 D.TIi2 hTI)
    · exact a2.to fun o e => oth _ o (Ne.symm hS1) e
    · exact a3.to fun o e => oth _ o (Ne.symm hS2) e
    · exact hl1.to fun o e => oth _ o (Ne.symm hSl1) (hk' _ _ D.l1z D.l1TO D.l1i1 D.l1i2 e)
    · exact hl2.to fun o e => oth _ o (Ne.symm hSl2) (hk' _ _ D.l2z D.l2TO D.l2i1 D.l2i2 e)
    · exact d2.keep fun b o _ hc e => oth b o (fun q => by subst q; rw [hS'] at e; cases e; simp at hc) e
    · exact hR h'' acc' c' (fun b o b1 b2 b3 b4 b5 e => hk'' b o b1 b3 b4 b5 (oth b o b5 (hk' b o b1 b2 b3 b4 e))) hS'' hd''
end
section
variable {prog : Program} {w : World} {A : Around} {E : Value → Shared → Prop} {s : Shared}
theorem call_list_zip {t1 t2 : Bool} {z TI TO i1 i2 l1 l2 : Addr} {xs ys : Array Value} {u v : Value} {N n : Nat} {Q : Value → Shared → Prop} (hh : A.handled = none) (D : ZipApart z TI TO i1 i2 l1 l2)
    (hxn : xs.size = n) (hyn : ys.size = n) (hn : n ≤ sizeLine) (hN : N ≤ s.heap.objs.size) (hz : IsZip s.heap z TI TO .none) (hTI : IsPair s.heap TI (.ref i1) (.ref i2)) (hTO : IsPair s.heap TO u v) (h1 : SIter t1 s.heap i1 l1 0) (h2 : SIter t2 s.heap i2 l2 0) (hl1 : SSeq t1 s.heap l1 xs) (hl2 : SSeq t2 s.heap l2 ys)
    (hQ : ∀ h' acc' c', (∀ b o, b ≠ z → b ≠ TO → b ≠ i1 → b ≠ i2 → s.heap.get? b = some o → h'.get? b = some o) → h'.get? s.heap.objs.size = some { cls := .type "list", dict := none, data := .seq acc' c', slots := #[] } → ZDrawn N xs ys acc' h' n → Q (.ref s.heap.objs.size) { s with heap := h' }) :
    wpAny (model prog w) A (call (.type "list") [.ref z]) Q E s := by
  have lt : ∀ {b : Addr} {o : Obj}, s.heap.get? b = some o → s.heap.objs.size ≠ b := fun e => Nat.ne_of_gt (Heap.lt_size e)
  obtain ⟨o1, e1, _⟩ := h1.obj
  obtain ⟨o2, e2, _⟩ := h2.obj
  have ltl1 : s.heap.objs.size ≠ l1 := by cases t1 <;> (obtain ⟨_, e, _⟩ := hl1; exact lt e)
  have ltl2 : s.heap.objs.size ≠ l2 := by cases t2 <;> (obtain ⟨_, e, _⟩ := hl2; exact lt e)
  refine callType_codes (Q₁ := fun obj s₁ => obj = .ref s.heap.objs.size ∧ s₁ = { s with heap := s.heap.push { cls := .type "list", data := .seq #[] } }) F.called_list (F.typeCall_list_1 _) F.entry_list_init
    (code_list_new _ ⟨rfl, rfl⟩) fun obj s₁ h₁ => ?_
  obtain ⟨rfl, rfl⟩ := h₁
  have hS : (s.heap.push { cls := .type "list", data := .seq #[] }).get? s.heap.objs.size = some { cls := .type "list", data := .seq #[] } := Heap.get?_push_size _ rfl
  refine ⟨⟨_, hS, rfl⟩, F.args_list_init_2 _ _, ?_⟩
  show wpAny _ _ (do let old ← Builtin.List.listItems (.ref s.heap.objs.size); Builtin.List.listUpdate (.ref s.heap.objs.size) (fun _ => #[]); letGo old.toList.reverse; Builtin.List.listExtendWith (.ref s.heap.objs.size) (.ref z) .none) _ _ _
  refine wpAny_bind ?_
  unfold Builtin.List.listItems
  refine wpAny_bind (wpAny_seqItems hS rfl (wpAny_pure ?_))
  show wpAny _ _ (updateSeq s.heap.objs.size (fun _ => #[]) >>= fun _ => letGo (#[] : Array Value).toList.reverse >>= fun _ => Builtin.List.listExtendWith (.ref s.heap.objs.size) (.ref z) .none) _ _ _
  refine wpAny_bind (wpAny_updateSeq hS rfl ?_)
  have hS₂ := Heap.get?_update_self (Obj.mapSeq (fun _ => (#[] : Array Value))) hS rfl
  refine wpAny_bind (wpAny_letGo ?_)
  have k1 : ∀ b o, s.heap.objs.size ≠ b → s.heap.get? b = some o → ((s.heap.push { cls := .type "list", data := .seq #[] }).update s.heap.objs.size (Obj.mapSeq (fun _ => (#[] : Array Value)))).get? b = some o := fun b o hb e => (Heap.get?_update_other _ _ hb).trans (Heap.get?_push_of_some _ e)
  have sz1 : s.heap.objs.size ≤ ((s.heap.push { cls := .type "list", data := .seq #[] }).update s.heap.objs.size (Obj.mapSeq (fun _ => (#[] : Array Value)))).objs.size := by rw [(Heap.SameBut.update ..).1, Heap.size_push]; omega
  generalize hg : (s.heap.push { cls := .type "list", data := .seq #[] }).update s.heap.objs.size (Obj.mapSeq (fun _ => (#[] : Array Value))) = g1 at hS₂ k1 sz1 ⊢
  have hzT : Shared.TypeIs { s with heap := g1 } (.ref z) "zip" := ⟨_, k1 _ _ (lt hz) hz, rfl⟩
  unfold Builtin.List.listExtendWith
  refine wpAny_bind (wpAny_typeOf hzT ?_)
  have q1 : Builtin.List.listSameRef (.ref s.heap.objs.size) (.ref z) = false := by simp [Builtin.List.listSameRef, lt hz]
  have q2 : (Value.type "zip" == Value.type "list") = false := by decide
  have q3 : (Value.type "zip" == Value.type "tuple") = false := by decide
  simp only [q1, q2, q3, Bool.or_false, Bool.false_eq_true, if_false]
  refine wpAny_bind (wpAny_pyIter_zip (k1 _ _ (lt hz) hz) ?_)
  refine wpAny_bind (wpAny_holding ?_)
  unfold Builtin.List.listLengthHint
  refine wpAny_bind (wpAny_specialOf hzT zip_no_len ?_)
  show wpAny _ _ (specialOf (Value.ref z) (Str.ofString "__length_hint__") >>= _) _ _ _
  refine wpAny_bind (wpAny_specialOf hzT zip_no_hint ?_)
  refine wpAny_pure ?_
  show wpAny _ _ (rule "list.extend.makes-room" >>= fun _ => Builtin.List.listTouch (.ref s.heap.objs.size) >>= fun _ =>
    again (.builtin "list.extend.loop" ⟨[.ref s.heap.objs.size, .ref z, .none], []⟩)) _ _ _
  refine wpAny_bind (wpAny_rule ?_)
  refine wpAny_bind ?_
  show wpAny _ _ (updateSeq s.heap.objs.size (·.push .none) >>= fun _ => updateSeq s.heap.objs.size (·.pop)) _ _ _
  refine wpAny_bind (wpAny_updateSeq hS₂ rfl ?_)
  have hS₃ := Heap.get?_update_self (Obj.mapSeq (·.push Value.none)) hS₂ rfl
  refine wpAny_updateSeq (hz := by seq_fits) hS₃ rfl ?_
  have hS₄ := Heap.get?_update_self (Obj.mapSeq (·.pop)) hS₃ rfl
  have k2 : ∀ b o, s.heap.objs.size ≠ b → s.heap.get? b = some o → ((g1.update s.heap.objs.size (Obj.mapSeq (·.push Value.none))).update s.heap.objs.size (Obj.mapSeq (·.pop))).get? b = some o := fun b o hb e => (Heap.get?_update_other _ _ hb).trans ((Heap.get?_update_other _ _ hb).trans (k1 b o hb e))
  have sz2 : s.heap.objs.size ≤ ((g1.update s.heap.objs.size (Obj.mapSeq (·.push Value.none))).update s.heap.objs.size (Obj.mapSeq (·.pop))).objs.size := by rw [(Heap.SameBut.update ..).1, (Heap.SameBut.update ..).1]; exact sz1
  generalize hg2 : (g1.update s.heap.objs.size (Obj.mapSeq (·.push Value.none))).update s.heap.objs.size (Obj.mapSeq (·.pop)) = g2 at hS₄ k2 sz2 ⊢
  refine wpAny_pure ⟨plainId_quiet F.plain_extend_loop _, extend_zip0 (A := A.in1) (t1 := t1) (t2 := t2) (N := N) (n := n) hh D (lt hz) (lt e1) (lt e2) (lt hTI) (lt hTO) ltl1 ltl2 hxn hyn hn .none (Nat.le_trans hN sz2) (k2 _ _ (lt hz) hz) (k2 _ _ (lt hTI) hTI) (k2 _ _ (lt hTO) hTO) (h1.to fun o e => k2 _ o (lt e) e) (h2.to fun o e => k2 _ o (lt e) e) (hl1.to fun o e => k2 _ o (lt e) e) (hl2.to fun o e => k2 _ o (lt e) e) hS₄ fun h' acc' c' hk hS' hd => ?_⟩
  exact ⟨rfl, hQ h' acc' c' (fun b o b1 b2 b3 b4 e => hk b o b1 b2 b3 b4 (fun q => lt e q.symm) (k2 b o (lt e) e)) hS' hd⟩
end
theorem Inv.grown {X : Cx} {pins : List (Addr × Obj)} {σ : St} {H Hn : Hp} {s : Shared} {h' : Heap} {t' : Nat} (I : Inv X pins σ H s) (k : ∀ b o, s.heap.get? b = some o → h'.get? b = some o)
    (old : ∀ b u, H b = some u → Hn b = some u) (young : ∀ b, b < s.heap.objs.size → H b = none → Hn b = none) (new : ∀ b u, H b = none → Hn b = some u → ObjOk X.prog X.w Hn h' b u) : Inv X pins σ Hn { s with heap := h', toks := t' } := by
  have fr : ∀ b o, s.heap.get? b = some o → H b = none → Hn b = none := fun b o e n => young b (Heap.lt_size e) n
  refine I.step (g' := s.gens) (d' := s.drawn) (ch := []) (fun b hb => (nomatch hb)) (fun b o _ _ _ e _ => k b o e) (fun b o _ _ _ e _ => ⟨o.slots, k b o e⟩)
    (fun b o _ e n => fr b o e n) (fun b o _ e => ⟨o, k b o e⟩) (fun b ys q => old b _ q) (fun b o u q => old b _ q)
    (fun b ps q => ⟨#[], by rw [old b _ q]; simp⟩) (fun m hm => ?_) (fun b u q => ?_) I.bare
  · obtain ⟨o, es, ep, ho, rr⟩ := hm
    exact ⟨o, es, ep, k _ o ho, rr⟩
  · cases hb : H b with
    | some u' =>
      have e := old b u' hb
      rw [q] at e
      cases e
      exact (I.hok b u hb).stay (fun c v hc z => k c v z) (fun c z => old c _ z) fun c ys z => old c _ z
    | none => exact new b u hb q
def tListZip (t1 t2 : Bool) (K : PySem.W.Frag) (ta : TA) : TE := fun σ H Q => ta σ H fun vs H1 => ∃ (a b : Addr) (xs ys : List V), vs = [.ref a, .ref b] ∧ Sq t1 K H1 a xs ∧ Sq t2 K H1 b ys ∧ xs.length = ys.length ∧
  ∀ (l : Addr) (zs : List V) (H' : Hp), Same H1 H' → H1 l = none → H' l = some (.lst zs) → zs.length = xs.length → (∀ (j : Nat) (x y : V), xs[j]? = some x → ys[j]? = some y → ∃ T : Addr, zs[j]? = some (.ref T) ∧ H' T = some (.tup [x, y])) → Q (.ref l) H'
theorem Vals.of_get : ∀ {zs : List V} {us : List Value}, zs.length = us.length → (∀ (j : Nat) (z : V) (u : Value), zs[j]? = some z → us[j]? = some u → RelV z u) → Vals zs us
  | [], [], _, _ => .nil
  | z :: zs, u :: us, hl, h => .cons (h 0 z u rfl rfl) (Vals.of_get (by simpa using hl) fun j a b e1 e2 => h (j + 1) a b (by simpa using e1) (by simpa using e2))
  | [], _ :: _, hl, _ => by simp at hl
  | _ :: _, [], hl, _ => by simp at hl
theorem pe_listZip {X : Cx} {ea eb : Expr} {ta : TA} {p p1 pos pos1 : Pos} {t1 t2 : Bool} (hc : X.calm = true) (hg1 : Gl X "list") (hm1 : X.mg "list" = none) (hg : Gl X "zip") (hm : X.mg "zip" = none) (ha : PA X [ea, eb] ta) (hs : starEach [ea, eb] X.env = [(false, eval ea X.env), (false, eval eb X.env)] := by rfl) (hs2 : starEach [eb] X.env = [(false, eval eb X.env)] := by rfl)
    (hs3 : starEach [.Call (.Name "zip" p) [ea, eb] [] pos] X.env = [(false, eval (.Call (.Name "zip" p) [ea, eb] [] pos) X.env)] := by rfl) :
    PE X (.Call (.Name "list" p1) [.Call (.Name "zip" p) [ea, eb] [] pos] [] pos1) (tListZip t1 t2 X.K ta) := by
  intro pins s σ H Q I h
  refine Call_ (ld_blt I hg1 hm1 bt_list (PyProof.Rows.callWith_type1 ?_ hs3 rfl))
  rw [hs3]
  show wpAny _ _ (spliced [(false, eval (.Call (.Name "zip" p) [ea, eb] [] pos) X.env)]) _ _ s
  refine Calls.spliced_cons ?_
  refine Call_ (ld_blt I hg hm bt_zip (PyProof.Rows.callWith_type1 (thn (ha pos pins s σ H _ I h) fun us s1 ⟨vs, H1, I1, r1, q1⟩ => ?_) (by rw [hs, hs2]) (by rw [hs2]; rfl)))
  obtain ⟨a, b, xs, ys, e, w1, w2, hl, q⟩ := q1
  subst e
  obtain ⟨u, v, rfl, ru, rv⟩ := r1.two
  cases ru
  cases rv
  obtain ⟨its1, r1, p1, z1⟩ := I1.sseq w1
  obtain ⟨its2, r2, p2, z2⟩ := I1.sseq w2
  have n1 := r1.length
  have n2 := r2.length
  have lt1 : a < s1.heap.objs.size := by cases t1 <;> (obtain ⟨_, e, _⟩ := p1; exact Heap.lt_size e)
  have lt2 : b < s1.heap.objs.size := by cases t2 <;> (obtain ⟨_, e, _⟩ := p2; exact Heap.lt_size e)
  refine call_zipS p1 p2 fun h' hz hTI hTO hi1 hi2 hk => Calls.spliced_nil ?_
  have fp := zipApart_new lt1 lt2
  refine call_list_zip (t1 := t1) (t2 := t2) (N := s1.heap.objs.size) (n := xs.length) (xs := its1.toArray) (ys := its2.toArray) (I.ok.hd hc) fp (by simp; omega) (by simp; omega) z1 ?_ hz hTI hTO hi1 hi2 (p1.to fun o e => hk _ o e) (p2.to fun o e => hk _ o e) fun h'' acc c hk2 hS hd => ?_
  · exact Nat.le_of_lt (Nat.lt_of_le_of_lt (Nat.le_add_right _ 4) (Heap.lt_size hz))
  generalize hl0 : h'.objs.size = l at hS
  have hzlt := Heap.lt_size hz
  have hle : s1.heap.objs.size ≤ l := by rw [← hl0]; exact Nat.le_of_lt (Nat.lt_of_le_of_lt (Nat.le_add_right _ 4) (Heap.lt_size hz))
  have kk : ∀ c o, s1.heap.get? c = some o → h''.get? c = some o := fun c o e => hk2 c o (Nat.ne_of_lt (Nat.lt_of_lt_of_le (Heap.lt_size e) (Nat.le_add_right _ _))) (Nat.ne_of_lt (Nat.lt_of_lt_of_le (Heap.lt_size e) (Nat.le_add_right _ _))) (Nat.ne_of_lt (Heap.lt_size e)) (Nat.ne_of_lt (Nat.lt_of_lt_of_le (Heap.lt_size e) (Nat.le_add_right _ _))) (hk c o e)
  have hacc : acc.size = xs.length := hd.1
  have hfr : ∀ c, s1.heap.objs.size ≤ c → H1 c = none := fun c hc => I1.hok.fresh hc
  let zs : List V := acc.toList.map fun u => match u with | .ref T => V.ref T | _ => V.non
  have zsl : zs.length = xs.length := by show (acc.toList.map _).length = _; rw [List.length_map, Array.length_toList, hacc]
  have zsg : ∀ (j : Nat) (T : Addr), acc[j]? = some (.ref T) → zs[j]? = some (.ref T) := fun j T e => by
    show (acc.toList.map _)[j]? = _
    rw [List.getElem?_map, Array.getElem?_toList, e]
    rfl
  have vz : Vals zs acc.toList := by
    refine Vals.of_get (zsl.trans (hacc.symm.trans Array.length_toList.symm)) fun j z u e1 e2 => ?_
    rw [Array.getElem?_toList] at e2
    have hj : j < xs.length := by
      by_cases hj : j < acc.size
      · omega
      · rw [Array.getElem?_eq_none (by omega)] at e2; cases e2
    obtain ⟨T, _, _, e3, _⟩ := hd.2 j hj
    rw [zsg j T e3] at e1
    rw [e3] at e2
    cases e1
    cases e2
    rfl
  let Pp : Addr → V → V → Prop := fun c x y => s1.heap.objs.size ≤ c ∧ ∃ u v, IsPair h'' c u v ∧ RelV x u ∧ RelV y v
  have uni : ∀ c x y x' y', Pp c x y → Pp c x' y' → x = x' ∧ y = y' := by
    rintro c x y x' y' ⟨_, u, v, e, ru, rv⟩ ⟨_, u', v', e', ru', rv'⟩
    have e2 := (show h''.get? c = some _ from e).symm.trans (show h''.get? c = some _ from e')
    cases e2
    exact ⟨Option.some.inj (ru.abs.symm.trans ru'.abs), Option.some.inj (rv.abs.symm.trans rv'.abs)⟩
  have nl : ∀ x y, ¬ Pp l x y := by
    rintro x y ⟨_, u, v, e, _⟩
    have e' : h''.get? l = some { cls := .type "tuple", data := .seq #[u, v] } := e
    rw [hS] at e'
    have e2 := congrArg Obj.cls (Option.some.inj e')
    exact absurd (show (Value.type "list" : Value) = Value.type "tuple" from e2) (by decide)
  classical
  let Hn : Hp := fun c => if c = l then some (.lst zs) else if hx : ∃ x y, Pp c x y then some (.tup [hx.choose, hx.choose_spec.choose]) else H1 c
  have Hl : Hn l = some (.lst zs) := if_pos rfl
  have Hp' : ∀ c x y, Pp c x y → Hn c = some (.tup [x, y]) := fun c x y hp => by
    have hcl : c ≠ l := fun e => nl x y (e ▸ hp)
    have hx : ∃ x y, Pp c x y := ⟨x, y, hp⟩
    show (if c = l then _ else if hx : ∃ x y, Pp c x y then _ else _) = _
    rw [if_neg hcl, dif_pos hx]
    obtain ⟨e1, e2⟩ := uni c _ _ _ _ hx.choose_spec.choose_spec hp
    exact congrArg some (congrArg HO.tup (by rw [show [hx.choose, hx.choose_spec.choose] = [x, y] from List.cons_eq_cons.mpr ⟨e1, List.cons_eq_cons.mpr ⟨e2, rfl⟩⟩]))
  have Ho : ∀ c, c ≠ l → (∀ x y, ¬ Pp c x y) → Hn c = H1 c := fun c hcl hp => by
    show (if c = l then _ else if hx : ∃ x y, Pp c x y then _ else _) = _
    rw [if_neg hcl, dif_neg fun ⟨x, y, z⟩ => hp x y z]
  have low : ∀ c, c < s1.heap.objs.size → Hn c = H1 c := fun c hc => Ho c (Nat.ne_of_lt (Nat.lt_of_lt_of_le hc hle)) fun x y ⟨z, _⟩ => Nat.not_le_of_lt hc z
  have old : ∀ c u, H1 c = some u → Hn c = some u := fun c u e => by
    have : c < s1.heap.objs.size := by
      by_cases hc : c < s1.heap.objs.size
      · exact hc
      · rw [hfr c (Nat.le_of_not_lt hc)] at e; cases e
    rw [low c this]; exact e
  refine ⟨.ref l, Hn, I1.grown (t' := s1.toks) kk old (fun c hc e => by rw [low c hc]; exact e) (fun c u e1 e2 => ?_), rfl, q l zs Hn old (hfr l hle) Hl zsl fun j x y ex ey => ?_⟩
  · by_cases hcl : c = l
    · subst hcl
      rw [Hl] at e2
      cases e2
      exact ⟨by rw [zsl]; exact z1, acc.toList, _, vz, by rw [Array.toArray_toList]; exact hS⟩
    · by_cases hp : ∃ x y, Pp c x y
      · obtain ⟨x, y, hp⟩ := hp
        rw [Hp' c x y hp] at e2
        cases e2
        obtain ⟨_, u', v', e, ru, rv⟩ := hp
        exact ⟨by show 2 ≤ sizeLine; decide, [u', v'], .cons ru (.cons rv .nil), _, e, rfl, _, rfl⟩
      · rw [Ho c hcl fun x y z => hp ⟨x, y, z⟩, e1] at e2
        cases e2
  · have hj : j < xs.length := (List.getElem?_eq_some_iff.mp ex).1
    obtain ⟨T, u', v', e3, e4, e5, e6, e7⟩ := hd.2 j hj
    obtain ⟨u1, eu1, ru1⟩ := r1.get ex
    obtain ⟨v1, ev1, rv1⟩ := r2.get ey
    have e4' : its1[j]? = some u' := by simpa using e4
    have e5' : its2[j]? = some v' := by simpa using e5
    rw [eu1] at e4'
    rw [ev1] at e5'
    cases e4'
    cases e5'
    exact ⟨T, zsg j T e3, Hp' T x y ⟨e7, _, _, e6, ru1, rv1⟩⟩
end L2
namespace Lf
open PySem L2
mutual
theorem eqAt_data {X : Cx} {pins : List (Addr × Obj)} {σ : St} {H : Hp} {s : Shared} (I : Inv X pins σ H s) : ∀ (d : Dt) {v v' : V} {u u' : Value} {A : Around}, A.units + d.deep < cLine → IsD H d v → IsD H d v' → RelV v u → RelV v' u' → SeqAt.EqAt A s u u' true
  | .int i, v, v', u, u', A, _, h, h', r, r' => by
    cases (show v = .int i from h)
    cases (show v' = .int i from h')
    obtain ⟨t, rfl⟩ := r
    obtain ⟨t', rfl⟩ := r'
    have := SeqAt.EqAt.int_int (A := A) (s := s) i t i t'
    rw [beq_self_eq_true] at this
    exact this
  | .str x, v, v', u, u', A, _, h, h', r, r' => by
    cases (show v = .str x from h)
    cases (show v' = .str x from h')
    obtain ⟨t, rfl⟩ := r
    obtain ⟨t', rfl⟩ := r'
    have := SeqAt.EqAt.str_str (A := A) (s := s) x t x t'
    rw [beq_self_eq_true] at this
    exact this
  | .bl b, v, v', u, u', A, _, h, h', r, r' => by
    cases (show v = .bl b from h)
    cases (show v' = .bl b from h')
    cases r
    cases r'
    exact SeqAt.EqAt.same _
  | .tup ds, v, v', u, u', A, hA, h, h', r, r' => by
    obtain ⟨a, vs, rfl, ha, hv⟩ := h
    obtain ⟨b, ws, rfl, hb, hw⟩ := h'
    cases r
    cases r'
    by_cases hab : a = b
    · subst hab; exact SeqAt.EqAt.same _
    · obtain ⟨i1, r1, p1, z1⟩ := I.tuple (SqT.of (K := X.K) ha)
      obtain ⟨i2, r2, p2, z2⟩ := I.tuple (SqT.of (K := X.K) hb)
      have hd : A.units + (deepD ds + 1) < cLine := hA
      refine SeqAt.EqAt.of_refs hab ?_
      have q := SeqAt.RcAt.tuples (e := fun _ => true) p1 p2 (by omega) (eqAts_data I ds (A := A.in1) (by show A.units + 1 + deepD ds < cLine; omega) hv hw r1 r2)
      have n1 := r1.length
      have n2 := r2.length
      have l1 := hv.len
      have l2 := hw.len
      have e : ((List.range (min i1.toArray.size i2.toArray.size)).all (fun _ => true) && i1.toArray.size == i2.toArray.size) = true := by
        rw [Bool.and_eq_true]
        exact ⟨by simp, beq_iff_eq.mpr (by simp only [List.size_toArray]; omega)⟩
      rw [e] at q
      exact q
  | .lst ds, v, v', u, u', A, hA, h, h', r, r' => by
    obtain ⟨a, vs, rfl, ha, hv⟩ := h
    obtain ⟨b, ws, rfl, hb, hw⟩ := h'
    cases r
    cases r'
    by_cases hab : a = b
    · subst hab; exact SeqAt.EqAt.same _
    · obtain ⟨i1, r1, p1, z1⟩ := I.list (SqL.of (K := X.K) ha)
      obtain ⟨i2, r2, p2, z2⟩ := I.list (SqL.of (K := X.K) hb)
      have hd : A.units + (deepD ds + 1) < cLine := hA
      refine SeqAt.EqAt.of_refs hab ?_
      have n1 := r1.length
      have n2 := r2.length
      have l1 := hv.len
      have l2 := hw.len
      have q := SeqAt.RcAt.lists (e := fun _ => true) p1.isList p2.isList (by simp only [List.size_toArray]; omega) (by omega) (eqAts_data I ds (A := A.in1) (by show A.units + 1 + deepD ds < cLine; omega) hv hw r1 r2)
      have e : ((List.range i1.toArray.size).all (fun _ => true)) = true := by simp
      rw [e] at q
      exact q
theorem eqAts_data {X : Cx} {pins : List (Addr × Obj)} {σ : St} {H : Hp} {s : Shared} (I : Inv X pins σ H s) : ∀ (ds : List Dt) {vs ws : List V} {us us' : List Value} {A : Around}, A.units + deepD ds < cLine → IsDs H ds vs → IsDs H ds ws → Vals vs us → Vals ws us' →
    ∀ (j : Nat) (h1 : j < us.toArray.size) (h2 : j < us'.toArray.size), SeqAt.EqAt A s us.toArray[j] us'.toArray[j] true
  | [], _, _, us, _, _, _, h, h', r, r', j, h1, _ => by
    cases (show _ = [] from h)
    cases r
    simp at h1
  | d :: ds, _, _, us, us', A, hA, ⟨v, vr, e1, hv, hvs⟩, ⟨v', vr', e2, hw, hws⟩, r, r', j, h1, h2 => by
    subst e1
    subst e2
    cases r with
    | cons r1 r2 =>
    cases r' with
    | cons r1' r2' =>
    have hm : A.units + max d.deep (deepD ds) < cLine := hA
    cases j with
    | zero => exact eqAt_data I d (by omega) hv hw r1 r1'
    | succ j =>
      have := eqAts_data I ds (A := A) (by omega) hvs hws r2 r2' j (by simpa using h1) (by simpa using h2)
      simpa using this
end
def rSame (neg : Bool) : R2 := fun x y H Q => ∃ (d : Dt), d.deep ≤ 60 ∧ ((∃ ds, d = .lst ds) ∨ ∃ ds, d = .tup ds) ∧ IsD H d x ∧ IsD H d y ∧ Q (.bl neg) H
end Lf

set_option Elab.async false
set_option linter.all false
set_option maxRecDepth 100000
set_option maxHeartbeats 4000000
namespace L2
open PySem PySem.Spec PyProof.Rows
def rangeV (lo hi : Int) : List V := (List.range (hi - lo).toNat).map fun (k : Nat) => V.int (lo + (k : Int))
def tListRange (ta : TA) : TE := fun σ H Q => ta σ H fun vs H1 => ∃ lo hi : Int, vs = [.int lo, .int hi] ∧ 0 ≤ lo ∧ lo ≤ 1000000 ∧ 0 ≤ hi ∧ hi ≤ 1000000 ∧ ∀ l, H1 l = none → Q (.ref l) (upd H1 l (.lst (rangeV lo hi)))
theorem pe_listRange {X : Cx} {ea eb : Expr} {ta : TA} {p p1 pos pos1 : Pos} (hc : X.calm = true) (hg1 : Gl X "list") (hm1 : X.mg "list" = none) (hg : Gl X "range") (hm : X.mg "range" = none) (ha : PA X [ea, eb] ta) (hs : starEach [ea, eb] X.env = [(false, eval ea X.env), (false, eval eb X.env)] := by rfl) (hs2 : starEach [eb] X.env = [(false, eval eb X.env)] := by rfl)
    (hs3 : starEach [.Call (.Name "range" p) [ea, eb] [] pos] X.env = [(false, eval (.Call (.Name "range" p) [ea, eb] [] pos) X.env)] := by rfl) :
    PE X (.Call (.Name "list" p1) [.Call (.Name "range" p) [ea, eb] [] pos] [] pos1) (tListRange ta) := by
  intro pins s σ H Q I h
  refine Call_ (ld_blt I hg1 hm1 bt_list (PyProof.Rows.callWith_type1 ?_ hs3 rfl))
  rw [hs3]
  show wpAny _ _ (spliced [(false, eval (.Call (.Name "range" p) [ea, eb] [] pos) X.env)]) _ _ s
  refine Calls.spliced_cons ?_
  refine Call_ (ld_blt I hg hm boot_range (PyProof.Rows.callWith_type1 (thn (ha pos pins s σ H _ I h) fun us s1 ⟨vs, H1, I1, r1, q1⟩ => ?_) (by rw [hs, hs2]) (by rw [hs2]; rfl)))
  obtain ⟨lo, hi, e, h0, h1, h2, h3, q⟩ := q1
  subst e
  obtain ⟨u, v, rfl, ru, rv⟩ := r1.two
  obtain ⟨t1, rfl⟩ := ru
  obtain ⟨t2, rfl⟩ := rv
  refine call_range_2 (Calls.spliced_nil ?_)
  have I2 : Inv X pins σ H1 { s1 with heap := s1.heap.push { cls := .type "range", data := .fields #[.int lo t1, .int hi t2, .int 1 s1.toks] }, toks := s1.toks + 1 } := I1.kept fun b o e => Heap.get?_push_of_some _ e
  have hn : Builtin.Range.rangeSize lo hi 1 = (((hi - lo).toNat : Nat) : Int) := by rw [rangeSize_one]; split <;> omega
  refine call_list_range (n := (hi - lo).toNat) (I.ok.hd hc) (IsRange.new ..) (small_one (by omega) (by omega) (by omega) (by omega)) hn (by omega) fun h' tk acc c' hk hS hI => ?_
  have hrl : (rangeV lo hi).length = (hi - lo).toNat := by unfold rangeV; rw [List.length_map, List.length_range]
  have hlen : (rangeV lo hi).length = acc.toList.length := hrl.trans (hI.1.symm.trans Array.length_toList.symm)
  have vz : Vals (rangeV lo hi) acc.toList := by
    refine Vals.of_get hlen fun j z u e1 e2 => ?_
    rw [Array.getElem?_toList] at e2
    obtain ⟨t, rfl⟩ := hI.2 j u e2
    unfold rangeV at e1
    rw [List.getElem?_map] at e1
    cases hr : (List.range (hi - lo).toNat)[j]? with
    | none => rw [hr] at e1; cases e1
    | some k =>
      rw [hr] at e1
      cases e1
      have hk2 : k = j := by
        have := (List.getElem?_eq_some_iff.mp hr).2
        rw [List.getElem_range] at this
        exact this.symm
      subst hk2
      exact ⟨t, by rw [Int.mul_one]⟩
  refine ⟨.ref _, _, I2.laid (t' := tk) (o := .lst (rangeV lo hi)) hk (Nat.le_refl _) ?_, rfl, q _ (I2.hok.fresh (Nat.le_refl _))⟩
  refine ⟨?_, acc.toList, c', vz, by rw [Array.toArray_toList]; exact hS⟩
  unfold rangeV
  rw [List.length_map, List.length_range, sizeLine_eq]
  omega
end L2

set_option Elab.async false
set_option linter.all false
set_option maxRecDepth 100000
set_option maxHeartbeats 4000000
namespace L2
open PySem PySem.Spec PyProof.Rows
section
variable {prog : Program} {w : World} {A : Around} {E : Value → Shared → Prop} {s : Shared} {a₀ : Array Keyed}
end
section
variable {X : Cx}
end
end L2

set_option Elab.async false
set_option linter.all false
set_option maxRecDepth 100000
set_option maxHeartbeats 4000000
namespace L2
open PySem PySem.Spec PyProof.Rows
theorem cells_app : ∀ (ns : List (Str × NameKind)) (n : Nat) (acc : List (Str × Addr)), cellsFrom n ns acc = cellsFrom n ns [] ++ acc
  | [], _, _ => rfl
  | (x, k) :: r, n, acc => by
    unfold cellsFrom
    split
    · rw [cells_app r (n + 1) ((x, n) :: acc), cells_app r (n + 1) [(x, n)], List.append_assoc]; rfl
    · exact cells_app r n acc
theorem cells_has : ∀ (ns : List (Str × NameKind)) (n : Nat) (y : Str × NameKind), y ∈ ns → y.2 = .cell → ∃ c, (cellsFrom n ns []).lookup y.1 = some c
  | [], _, _, h, _ => (nomatch h)
  | (x, k) :: r, n, y, h, hy => by
    have app : ∀ {l m : List (Str × Addr)} {z : Str}, (∃ c, l.lookup z = some c) ∨ (∃ c, m.lookup z = some c) → ∃ c, (l ++ m).lookup z = some c := fun {l m z} q => by
      rw [List.lookup_append]
      cases e : l.lookup z with
      | some c => exact ⟨c, rfl⟩
      | none =>
        rcases q with ⟨c, q⟩ | ⟨c, q⟩
        · rw [e] at q; cases q
        · exact ⟨c, by rw [q]; rfl⟩
    unfold cellsFrom
    rcases List.mem_cons.mp h with h | h
    · subst h
      have hk : (k == NameKind.cell) = true := by rw [show k = NameKind.cell from hy]; rfl
      rw [if_pos hk, cells_app]
      exact app (.inr ⟨n, by rw [List.lookup_cons]; simp⟩)
    · split
      · rw [cells_app]
        exact app (.inl (cells_has r (n + 1) y h hy))
      · exact cells_has r n y h hy
theorem cells_of : ∀ (ns : List (Str × NameKind)) (n : Nat) (x : Str) (c : Addr), (x, c) ∈ cellsFrom n ns [] → (x, NameKind.cell) ∈ ns
  | [], _, _, _, h => (nomatch h)
  | (y, k) :: r, n, x, c, h => by
    unfold cellsFrom at h
    split at h
    · rename_i hk
      rw [cells_app] at h
      rcases List.mem_append.mp h with h | h
      · exact List.mem_cons_of_mem _ (cells_of r _ x c h)
      · have e := List.mem_singleton.mp h
        cases e
        rw [show k = NameKind.cell by simpa using hk]
        exact List.mem_cons_self
    · exact List.mem_cons_of_mem _ (cells_of r _ x c h)
section
variable {M : Model} {A : Around} {E : Value → Shared → Prop} {s : Shared}
theorem env_own {scope : Scope} {globals : Addr} {cl : List (Str × Addr)} {qual : Str} {outer : Env} {Q : Env → Shared → Prop}
    (q : ∀ h' : Heap, h'.Ns s.heap.objs.size (fun _ => none) → (∀ b o, s.heap.get? b = some o → h'.get? b = some o) → CellsOk h' (s.heap.objs.size + 1) (cellsFrom (s.heap.objs.size + 1) scope.names []) →
      Q (newEnv scope s.heap.objs.size globals (cellsFrom (s.heap.objs.size + 1) scope.names [] ++ cl) qual none .none (some outer) builtinsNs) { s with heap := h' }) : wpAny M A (newFunctionEnv scope globals cl [] qual none .none (some outer)) Q E s := by
  simp only [newFunctionEnv, Option.isSome_some, if_true]
  refine wpAny_bind (wpAny_alloc ?_)
  refine wpAny_bind (wpAny_layCells _ (fun name kind cells => by cases hkc : kind == NameKind.cell <;> simp [hkc]) _ _ _ _ ?_)
  have ok := cellsFrom_ok scope.names (s.heap.push { cls := .type "dict", data := .dict #[] }) (s.heap.objs.size + 1) [] ⟨fun _ _ hm => (nomatch hm), List.Pairwise.nil⟩ (by rw [Heap.size_push]; exact Nat.le_refl _)
  rw [Heap.size_push] at ok
  rw [show ({ s with heap := s.heap.push { cls := .type "dict", data := .dict #[] } } : Shared).heap.objs.size = s.heap.objs.size + 1 from Heap.size_push .., cells_app]
  refine wpAny_bind ?_
  rw [List.forIn_nil]
  exact wpAny_pure (wpAny_pure (q _ ((Heap.Ns.new s.heap (.type "dict")).keeps (pushCells_keeps _ _)) (fun b o e => pushCells_keeps _ _ b o (Heap.get?_push_of_some _ e)) ok))
end
def ownFn (scope : Scope) (x : Str) : Bool := scope.names.any fun y => y.1 == x && y.2 == .cell
def cxComp2 (X : Cx) (N' : List Str) (scope : Scope) (cl : List (Str × Addr)) (C : Addr) (s : Shared) (H : Hp) (ex : List Addr) : Cx := { cxComp X N' scope cl C s H ex with fn := ownFn scope }
structure CompScope2 (dsc scope : Scope) (N tgs : List Str) (outs : List Nat) (N' : List Str) : Prop where
  kind : scope.kind = .function
  names : ∀ x ∈ scope.names, x.2 = .local → scope.names.lookup x.1 = some .local
  sep : ∀ j ∈ outs, ∀ y ∈ scope.names, y.2 = .cell → y.1 ≠ N.getD j ""
  free : ∀ y ∈ scope.names, y.2 = .free → dsc.names.lookup y.1 = some .cell
  isN : N' = tgs ++ outs.map (fun j => N.getD j "")
  lts : ∀ j ∈ outs, j < N.length
  outF : ∀ j ∈ outs, scope.names.lookup (N.getD j "") = some .free
  nd : N'.Nodup
theorem lk_app {cs cl : List (Str × Addr)} {x : Str} {c : Addr} (h : (cs ++ cl).lookup x = some c) : cs.lookup x = some c ∨ (cs.lookup x = none ∧ cl.lookup x = some c) := by
  rw [List.lookup_append] at h
  cases e : cs.lookup x with
  | some d => rw [e] at h; exact .inl h
  | none => rw [e] at h; exact .inr ⟨rfl, h⟩
theorem lk_left {cs cl : List (Str × Addr)} {x : Str} {c : Addr} (h : cs.lookup x = some c) : (cs ++ cl).lookup x = some c := by rw [List.lookup_append, h]; rfl
theorem lk_right {cs cl : List (Str × Addr)} {x : Str} {c : Addr} (h0 : cs.lookup x = none) (h : cl.lookup x = some c) : (cs ++ cl).lookup x = some c := by rw [List.lookup_append, h0, h]; rfl
def cellAll (scope : Scope) : Scope := { scope with names := scope.names.map fun (n, k) => if k == .free then (n, .cell) else (n, k) }
theorem relabel_all {scope dsc : Scope} {env : Env} (hsc : env.scope = dsc) (hk : dsc.kind = .function) (hf : ∀ y ∈ scope.names, y.2 = .free → dsc.names.lookup y.1 = some .cell) : relabel scope env = cellAll scope := by
  unfold relabel cellAll
  congr 1
  refine List.map_congr_left fun y hy => ?_
  obtain ⟨n, k⟩ := y
  cases hkf : (k == NameKind.free) with
  | false => simp [hkf]
  | true =>
    have e1 : k = .free := by simpa using hkf
    have e2 : env.kindOf n = some .cell := by
      show env.scope.names.lookup n = some .cell
      rw [hsc]
      exact hf (n, k) hy e1
    have e3 : env.scope.kind = .function := by rw [hsc]; exact hk
    simp [hkf, e2, e3]
section
variable {X : Cx} {pins : List (Addr × Obj)} {σ : St} {H2 : Hp} {s2 : Shared} {dsc scope : Scope} {tgs N' : List Str} {outs : List Nat} {cl : List (Str × Addr)} {fp : List Addr} {C D : Addr} {h1 : Heap} {tk : Nat} {mC : Str → Option Value}
theorem comp_start2 (S : CompScope2 dsc scope X.N tgs outs N') (hsc : X.env.scope = dsc) (I2 : Inv X pins σ H2 s2) (f2 : ∀ b ∈ fp, FpOk X pins H2 b) (hfp : ∀ b ∈ fp, b < s2.heap.objs.size)
    (hcl1 : ∀ x c, cl.lookup x = some c → X.env.cells.lookup x = some c) (hcl2 : ∀ y ∈ scope.names, y.2 = .free → ∃ c, cl.lookup y.1 = some c)
    (cs : List (Str × Addr)) (hs1 : ∀ x c, cs.lookup x = some c → s2.heap.objs.size ≤ c ∧ h1.IsCell c none) (hs2 : ∀ x y c, cs.lookup x = some c → cs.lookup y = some c → x = y) (hs3 : ∀ y ∈ scope.names, y.2 = .cell → ∃ c, cs.lookup y.1 = some c) (hs4 : ∀ x c, cs.lookup x = some c → (x, NameKind.cell) ∈ scope.names) (hC : s2.heap.objs.size ≤ C) (kp : ∀ b o, s2.heap.get? b = some o → h1.get? b = some o) (nC : h1.Ns C mC) :
    Inv (cxComp2 X N' scope (cs ++ cl) C s2 H2 fp) [] (pick tgs.length outs σ) H2 { s2 with heap := h1, toks := tk } := by
  have old : ∀ x c, cl.lookup x = some c → c < s2.heap.objs.size := fun x c e => by
    obtain ⟨v, z⟩ := I2.cell x c (hcl1 x c e)
    exact z.lt
  have inj : ∀ x y c, (cs ++ cl).lookup x = some c → (cs ++ cl).lookup y = some c → x = y := fun x y c e1 e2 => by
    rcases lk_app e1 with e1 | ⟨_, e1⟩ <;> rcases lk_app e2 with e2 | ⟨_, e2⟩
    · exact hs2 x y c e1 e2
    · exact absurd (Nat.lt_of_lt_of_le (old y c e2) (hs1 x c e1).1) (Nat.lt_irrefl _)
    · exact absurd (Nat.lt_of_lt_of_le (old x c e1) (hs1 y c e2).1) (Nat.lt_irrefl _)
    · exact I2.ok.inj x y c (hcl1 x c e1) (hcl1 y c e2)
  have cab : ∀ x c, ownFn scope x = true → (cs ++ cl).lookup x = some c → s2.heap.objs.size ≤ c := fun x c h e => by
    obtain ⟨y, hy, hyx⟩ := List.any_eq_true.mp (show (scope.names.any fun y => y.1 == x && y.2 == .cell) = true from h)
    have h2 := Bool.and_eq_true_iff.mp hyx
    have e1 : y.1 = x := by simpa using h2.1
    have e2 : y.2 = .cell := by simpa using h2.2
    obtain ⟨d, ed⟩ := hs3 y hy e2
    rw [e1] at ed
    rw [lk_left ed] at e
    cases e
    exact (hs1 x _ ed).1
  have frc : ∀ x c, (cs ++ cl).lookup x = some c → H2 c = none := fun x c e => by
    rcases lk_app e with e | ⟨_, e⟩
    · exact I2.hok.fresh (hs1 x c e).1
    · exact I2.freeC x c (hcl1 x c e)
  have exc : ∀ b ∈ fp, ∀ x c, (cs ++ cl).lookup x = some c → c ≠ b := fun b hb x c e => by
    rcases lk_app e with e | ⟨_, e⟩
    · exact fun z => absurd (Nat.lt_of_lt_of_le (hfp b hb) (hs1 x c e).1) (by rw [z]; exact Nat.lt_irrefl _)
    · exact (f2 b hb).2.2.2.2.1 x c (hcl1 x c e)
  have freeAt : ∀ x, scope.names.lookup x = some .free → (relabel scope X.env).names.lookup x = some .cell := fun x e =>
    relabel_free e I2.ok.kind (by show X.env.scope.names.lookup x = some .cell; rw [hsc]; exact S.free (x, .free) (PySem.mem_of_lookup e) rfl)
  refine ⟨⟨I2.ok.mod, ?_, I2.ok.glob, I2.ok.blt, hC, inj, fun x hx => ?_, cab, I2.ok.hd, I2.ok.frames, .inl rfl, fun b hb => ?_, I2.bs, Nat.le_trans I2.ok.bsz I2.sz, fun b o e hb => ?_, fun b hb => ?_, I2.stack, I2.stkFree⟩,
    rfl, I2.bare, Un.kept kp, ⟨mC, nC, fun i x v e1 e2 e3 => ?_⟩, fun x c e => ?_, I2.hok.fresh hC, frc, fun p hp => absurd (show p ∈ ([] : List (Addr × Obj)) from hp) (by simp), I2.hok.kept kp, ?_⟩
  · exact S.kind
  · have hx' : (relabel scope X.env).names.lookup x = some .cell ∨ (relabel scope X.env).names.lookup x = some .free := hx
    have z : scope.names.lookup x = some .cell ∨ scope.names.lookup x = some .free := by
      rcases hx' with hx' | hx'
      · obtain ⟨k0, e, h | ⟨h, _⟩⟩ := relabel_inv hx'
        · rw [h] at e; exact .inl e
        · rw [h] at e; exact .inr e
      · obtain ⟨k0, e, h | ⟨h, _⟩⟩ := relabel_inv hx'
        · rw [h] at e; exact .inr e
        · rw [h] at e; exact .inr e
    show ∃ c, (cs ++ cl).lookup x = some c
    rcases z with z | z
    · obtain ⟨c, e⟩ := hs3 (x, .cell) (PySem.mem_of_lookup z) rfl
      exact ⟨c, lk_left e⟩
    · obtain ⟨c, e⟩ := hcl2 (x, .free) (PySem.mem_of_lookup z) rfl
      cases q : cs.lookup x with
      | some d => exact ⟨d, lk_left q⟩
      | none => exact ⟨c, lk_right q e⟩
  · refine ⟨fun z => ?_, exc b hb⟩
    have z' : b = C := z
    exact absurd (Nat.lt_of_lt_of_le (hfp b hb) hC) (by rw [z']; exact Nat.lt_irrefl _)
  · rcases (f2 b hb).2.2.2.1 with z | z
    · exact I2.ok.noex b o e z
    · exact absurd (Nat.lt_of_lt_of_le (Heap.lt_size e) (Nat.le_trans I2.ok.bsz z)) (Nat.lt_irrefl _)
  · intro z
    rcases List.mem_cons.mp (I2.stkSub b z) with z | z
    · exact (f2 b hb).2.1 z
    · exact (f2 b hb).2.2.1 z
  · have e2' : (List.replicate tgs.length (none : Option V) ++ outs.map fun j => (σ[j]?).join)[i]? = some (some v) := e2
    have e1' : N'[i]? = some x := e1
    by_cases hi : i < tgs.length
    · rw [List.getElem?_append_left (by rw [List.length_replicate]; exact hi), List.getElem?_replicate, if_pos hi] at e2'
      cases e2'
    · rw [List.getElem?_append_right (by rw [List.length_replicate]; omega), List.length_replicate, List.getElem?_map] at e2'
      rw [S.isN, List.getElem?_append_right (by omega), List.getElem?_map] at e1'
      cases ej : outs[i - tgs.length]? with
      | none => rw [ej] at e2'; cases e2'
      | some j =>
        rw [ej] at e1' e2'
        have hj : j ∈ outs := List.mem_of_getElem? ej
        have ex : X.N.getD j "" = x := Option.some.inj e1'
        have ev : (σ[j]?).join = some v := Option.some.inj e2'
        have ev' : σ[j]? = some (some v) := by
          cases q : σ[j]? with
          | none => rw [q] at ev; cases ev
          | some o => rw [q] at ev; exact congrArg some ev
        have eN : X.N[j]? = some x := by
          have hl := S.lts j hj
          rw [← ex, List.getD_eq_getElem?_getD, List.getElem?_eq_getElem hl]
          rfl
        have fx : scope.names.lookup x = some .free := by rw [← ex]; exact S.outF j hj
        have cx : X.env.scope.names.lookup x = some .cell := by rw [hsc]; exact S.free (x, .free) (PySem.mem_of_lookup fx) rfl
        obtain ⟨m, hn, hl⟩ := I2.loc
        obtain ⟨u, ru, lk⟩ := hl j x v eN ev' (.inr (.inl cx))
        refine ⟨u, ru, ?_⟩
        rcases lk with ⟨k, _⟩ | ⟨k, c, ec, ⟨oc, hoc, hdc⟩⟩
        · have k' : X.env.scope.names.lookup x = some .local := k
          rw [cx] at k'; cases k'
        · obtain ⟨c', ec'⟩ := hcl2 (x, .free) (PySem.mem_of_lookup fx) rfl
          have ecc := hcl1 x c' ec'
          rw [ec] at ecc
          cases ecc
          have hno : cs.lookup x = none := by
            cases q : cs.lookup x with
            | none => rfl
            | some d => exact absurd ex.symm (S.sep j hj _ (hs4 x d q) rfl)
          exact .inr ⟨.inl (freeAt x fx), c, lk_right hno ec', oc, kp _ _ hoc, hdc⟩
  · rcases lk_app e with e | ⟨_, e⟩
    · exact ⟨_, (hs1 x c e).2⟩
    · obtain ⟨v, oc, hoc, hdc⟩ := I2.cell x c (hcl1 x c e)
      exact ⟨v, oc, kp _ _ hoc, hdc⟩
  · show (pick tgs.length outs σ).length = N'.length
    rw [pick_len, S.isN, List.length_append, List.length_map]
theorem comp_end2 {σ5 : St} {H5 : Hp} {s5 : Shared} {acc : List V} {its : List Value} {n : Nat} (I2 : Inv X pins σ H2 s2) (I5 : Inv (cxComp2 X N' scope cl C s2 H2 fp) [] σ5 H5 s5) (f2 : ∀ b ∈ fp, FpOk X pins H2 b)
    (hD : s2.heap.objs.size ≤ D) (eD : s5.heap.get? D = some { cls := .type "list", data := .seq its.toArray n }) (r : Vals acc its) (hz : acc.length ≤ sizeLine) (hn : H5 D = none) : Inv X pins σ (upd H5 D (.lst acc)) s5 := by
  have ne : ∀ b o, s2.heap.get? b = some o → b ≠ D := fun b o e z => absurd (Nat.lt_of_lt_of_le (Heap.lt_size e) (by rw [z]; exact hD)) (Nat.lt_irrefl _)
  refine I2.call' (ch := fp) I5.os ⟨fun b o e nn hb hx => ?_, fun b o e nn hb hx => ?_, fun b o e nn hx => ?_, fun b o e hx => ?_, fun b xs e => ?_, fun b o u e => ?_, fun b ps e => ?_⟩ (fun b u e => ?_) I5.bare fun b hb => ⟨(f2 b hb).2.2.2.1, (f2 b hb).2.1, (f2 b hb).2.2.2.2.1, (f2 b hb).2.2.2.2.2⟩
  · exact I5.base.keep b o e nn hb hx
  · exact I5.base.slot b o e nn hb hx
  · rw [upd_ne (ne b o e)]
    exact I5.base.free b o e nn hx
  · exact I5.base.there b o e hx
  · have q := I5.base.tups b xs e
    rw [upd_ne (ne_of_none q hn)]
    exact q
  · have q := I5.base.frzs b o u e
    rw [upd_ne (ne_of_none q hn)]
    exact q
  · obtain ⟨more, q⟩ := I5.base.tbls b ps e
    refine ⟨more, ?_⟩
    rw [upd_ne (ne_of_none q hn)]
    exact q
  · by_cases hb : b = D
    · subst hb
      rw [upd_same] at e
      cases e
      exact ⟨hz, its, n, r, eD⟩
    · rw [upd_ne hb] at e
      exact (I5.hok b u e).stay (fun c v _ q => q) (fun c q => by rw [upd_ne (ne_of_none q hn)]; exact q) fun c xs q => by rw [upd_ne (ne_of_none q hn)]; exact q
end
section
variable {X : Cx} {tg elt iter : Expr} {ifs : List Expr} {dsc scope : Scope} {tgs N' : List Str} {outs : List Nat} {wi : TI} {g : TG} {tc : TT} {te : TE} {pos : Pos}
theorem comp_block2 {pins : List (Addr × Obj)} {σ : St} {H2 : Hp} {s2 : Shared} {cl : List (Str × Addr)} {it : Addr} {fp : List Addr} {tn : Nat → Heap → Prop} {J : It} (S : CompScope2 dsc scope X.N tgs outs N') (hsc : X.env.scope = dsc) (hc : X.calm = true)
    (hg : ∀ cl C s H ex, PG (cxComp2 X N' scope cl C s H ex) tg g) (hgt : Tgt tgs.length g) (hcs : ∀ cl C s H ex, PCs (cxComp2 X N' scope cl C s H ex) ifs tc) (he : ∀ cl C s H ex, PE (cxComp2 X N' scope cl C s H ex) elt te)
    (hcl1 : ∀ x c, cl.lookup x = some c → X.env.cells.lookup x = some c) (hcl2 : ∀ y ∈ scope.names, y.2 = .free → ∃ c, cl.lookup y.1 = some c)
    (I2 : Inv X pins σ H2 s2) (T : Turn X.prog X.w X.K tg J fp it tn) (st2 : tn 0 s2.heap) (f2 : ∀ b ∈ fp, FpOk X pins H2 b)
    {W : Nat → Nat → List V → Hp → Prop} {m0 : Nat} (w0 : W 0 m0 [] H2) {Qf : List V → Hp → Prop}
    (turn : ∀ i m acc H, W i m acc H → (J.stop i H ∧ acc.length ≤ sizeLine ∧ Qf acc H) ∨ (J.go i H ∧ acc.length < sizeLine ∧ ∃ N : List V → Hp → Prop, (∀ acc' H', N acc' H' → ∃ m', m' < m ∧ W (i + 1) m' acc' H') ∧ ∀ x H', J.yld i H x H' → g x (pick tgs.length outs σ) H' fun σ2 H2 => tc σ2 H2 fun b H3 =>
      if b = true then te σ2 H3 fun y H4 => N (acc ++ [y]) H4 else N acc H3))
    {E : Value → Shared → Prop} {RR : Value → Addr → Result → Shared → Prop}
    (fin : ∀ D C s5 mC acc H5, Inv X pins σ (upd H5 D (.lst acc)) s5 → H5 D = none → Qf acc H5 → s5.heap.Ns C mC → FpOk X pins (upd H5 D (.lst acc)) C → RR (.ref D) C (.ok .next) s5) :
    wpAny (model X.prog X.w) X.A (newList []) (fun acc s₃ => wpAny (model X.prog X.w) X.A (newFunctionEnv scope X.env.globals cl [] X.env.qual none .none (some X.env)) (fun cenv s₄ =>
      codeAny (model X.prog X.w) X.A (.compStart (.ListComp elt [⟨tg, iter, ifs, 0⟩] scope pos) 0 (.ref it) acc { cenv with scope := relabel scope X.env }) (RR acc cenv.locals) s₄) E s₃) E s2 := by
  have hfp : ∀ b ∈ fp, b < s2.heap.objs.size := fun b hb => let ⟨o, e, _⟩ := T.obj 0 _ st2 b hb; Heap.lt_size e
  refine wpAny_newObj_type (env_own fun h₁ hns₁ keep₁ cok => ?_)
  dsimp only at hns₁ keep₁ cok ⊢
  generalize hHH : s2.heap.push { cls := .type "list", dict := none, data := .seq ([] : List Value).toArray } = HH at hns₁ keep₁ cok ⊢
  have hC : HH.objs.size = s2.heap.objs.size + 1 := by rw [← hHH, Heap.size_push]
  have hDC : s2.heap.objs.size ≠ HH.objs.size := by rw [hC]; exact Nat.ne_of_lt (Nat.lt_succ_self _)
  have hCle : s2.heap.objs.size ≤ HH.objs.size := by rw [hC]; exact Nat.le_succ _
  have old : ∀ b o, s2.heap.get? b = some o → h₁.get? b = some o := fun b o e => keep₁ b o (hHH ▸ Heap.get?_push_of_some _ e)
  have hacc : h₁.get? s2.heap.objs.size = some { cls := .type "list", data := .seq ([] : List Value).toArray 0 } := keep₁ _ _ (hHH ▸ Heap.get?_push_size _ rfl)
  have hDfp : ∀ b ∈ fp, s2.heap.objs.size ≠ b := fun b hb => Nat.ne_of_gt (hfp b hb)
  have fresh2 : H2 s2.heap.objs.size = none := I2.hok.fresh (Nat.le_refl _)
  have I4 := comp_start2 (tk := s2.toks) S hsc I2 f2 hfp hcl1 hcl2 (cellsFrom (HH.objs.size + 1) scope.names []) (fun x c e => ⟨Nat.le_trans hCle (Nat.le_of_lt (cok.empty x c (PySem.mem_of_lookup e)).2), (cok.empty x c (PySem.mem_of_lookup e)).1⟩)
    (fun x y c e1 e2 => name_of_addr cok.apart (PySem.mem_of_lookup e1) (PySem.mem_of_lookup e2)) (fun y hy h => cells_has _ _ y hy h) (fun x c e => cells_of _ _ x c (PySem.mem_of_lookup e)) hCle old hns₁
  generalize cellsFrom (HH.objs.size + 1) scope.names [] ++ cl = cl' at I4 ⊢
  have st1 : tn 0 h₁ := T.keep 0 _ _ st2 fun b hb o e => old b o e
  generalize hCC : HH.objs.size = C at *
  generalize hDD : s2.heap.objs.size = D at *
  have nofs : D ∉ (cxComp2 X N' scope cl' C s2 H2 fp).fs := fun z => by
    obtain ⟨_, o, ho, _⟩ := I2.stack.mem (show D ∈ frs X.stack from z)
    have := Heap.lt_size ho
    rw [hDD] at this
    exact Nat.lt_irrefl _ this
  have pinD : ∀ {σ' : St} {H' : Hp} {s' : Shared} {its : List Value} {n : Nat}, Inv (cxComp2 X N' scope cl' C s2 H2 fp) [] σ' H' s' → s'.heap.get? D = some { cls := .type "list", data := .seq its.toArray n } → H' D = none →
      Inv (cxComp2 X N' scope cl' C s2 H2 fp) [(D, { cls := .type "list", data := .seq its.toArray n })] σ' H' s' := fun {σ' H' s' its n} J e hn => J.pins_of fun p hp => by
    have ep : p = (D, { cls := .type "list", data := .seq its.toArray n }) := by simpa using hp
    subst ep
    exact ⟨e, hn, hDC, nofs, fun v z => by cases z⟩
  have stat : ∀ {H' : Hp} {o : Obj}, (∀ b ∈ fp, H' b = none) → ∀ b ∈ fp, FpOk (cxComp2 X N' scope cl' C s2 H2 fp) [(D, o)] H' b := fun {H' o} hn b hb => by
    refine ⟨hn b hb, (I4.ok.exf b hb).1, I4.ok.exfs b hb, .inl hb, (I4.ok.exf b hb).2, fun p hp => ?_⟩
    have hp' : p ∈ ([] : List (Addr × Obj)) ++ [(D, o)] := hp
    have ep : p = (D, o) := by simpa using hp'
    subst ep
    exact hDfp b hb
  have loop : ∀ s₃ : Shared, s₃ = { s2 with heap := h₁, toks := s2.toks } →
      codeAny (model X.prog X.w) X.A (.compLoop (.ListComp elt [⟨tg, iter, ifs, 0⟩] scope pos) 0 (.ref it) (.ref D) (compEnvC scope cl' C X.env)) (RR (.ref D) C) s₃ := by
    rintro s₃ rfl
    refine compLoop_any (fun m s' => ∃ i acc H its n, Inv (cxComp2 X N' scope cl' C s2 H2 fp) [(D, { cls := .type "list", data := .seq its.toArray n })] (pick tgs.length outs σ) H s' ∧ tn i s'.heap ∧ (∀ b ∈ fp, H b = none) ∧ Vals acc its ∧ W i m acc H) ?_ m0
      ⟨0, [], H2, [], 0, pinD I4 hacc fresh2, st1, fun b hb => (f2 b hb).1, .nil, w0⟩
    rintro m s' ⟨i, acc, H, its, n, I', st', fr', rD, w'⟩
    rcases turn i m acc H w' with ⟨stop, hz, q⟩ | ⟨go, hz, N, hN, step⟩
    · refine thn (T.done (cxComp2 X N' scope cl' C s2 H2 fp) rfl rfl rfl hc i _ s' _ H _ I' (stat fr') st' stop) fun r s4 ⟨hr, J4⟩ => ?_
      subst hr
      obtain ⟨eD, nD, _⟩ := J4.pin (D, { cls := .type "list", data := .seq its.toArray n }) (List.mem_append_right _ List.mem_cons_self)
      obtain ⟨mC, nsC, _⟩ := J4.loc
      have I5 : Inv X pins σ (upd H D (.lst acc)) s4 := comp_end2 (D := D) I2 (J4.pins_of (pins' := []) (fun p hp => nomatch hp)) f2 (by rw [hDD]; exact Nat.le_refl _) eD rD hz nD
      refine fin D C s4 mC acc H I5 nD q nsC (I2.fpOk (by rw [hDD]; exact hCle) ?_)
      rw [upd_ne (Ne.symm hDC)]
      exact J4.free
    · refine thn (T.item (cxComp2 X N' scope cl' C s2 H2 fp) rfl rfl rfl hc i _ s' _ H _ I' (stat fr') st' go) fun r s4 ⟨u, hr, h4⟩ => ?_
      subst hr
      dsimp only
      refine thn h4 fun _ s5 ⟨x, H5, I5, r5, y5, st5, fr5⟩ => ?_
      have I5' := I5.pinned (stat fr5) (T.obj _ _ st5)
      refine thn (hg cl' C s2 H2 fp _ s5 _ H5 x u _ I5' r5 (hgt x _ H5 _ (step x H5 y5))) fun _ s6 ⟨σ6, H6, I6, q6, l6, k6⟩ => ?_
      refine thn (hcs cl' C s2 H2 fp _ s6 σ6 H6 _ I6 q6) fun b s7 ⟨H7, I7, q7⟩ => ?_
      have tail : ∀ {H' : Hp} {s' : Shared}, Inv (cxComp2 X N' scope cl' C s2 H2 fp) ([(D, { cls := .type "list", data := .seq its.toArray n })] ++ pinsAt fp s5.heap) σ6 H' s' → (∀ b ∈ fp, ∀ o, s5.heap.get? b = some o → s'.heap.get? b = some o) ∧ ∀ b ∈ fp, H' b = none := fun {H' s'} J =>
        ⟨fun b hb o e => (J.pin (b, o) (List.mem_append_right _ (List.mem_append_right _ (mem_pinsAt hb e)))).1, fun b hb => by
          obtain ⟨o, e, d⟩ := T.obj _ _ st5 b hb
          exact (J.pin (b, o) (List.mem_append_right _ (List.mem_append_right _ (mem_pinsAt hb e)))).2.1⟩
      cases b with
      | false =>
        rw [if_neg Bool.false_ne_true] at q7 ⊢
        obtain ⟨m', hm, w7⟩ := hN _ _ q7
        obtain ⟨t1, t2⟩ := tail I7
        exact ⟨m', hm, i + 1, acc, H7, its, n, I7.unpinned.weak l6.symm (pick_weak k6), T.keep _ _ _ st5 t1, t2, rD, w7⟩
      | true =>
        rw [if_pos rfl] at q7 ⊢
        refine thn (he cl' C s2 H2 fp _ s7 σ6 H7 _ I7 q7) fun v s8 ⟨y, H8, I8, r8, q8⟩ => ?_
        obtain ⟨m', hm, w8⟩ := hN _ _ q8
        obtain ⟨t1, t2⟩ := tail I8
        obtain ⟨eD, nD, _⟩ := I8.pin (D, { cls := .type "list", data := .seq its.toArray n }) (List.mem_append_right _ (List.mem_append_left _ List.mem_cons_self))
        have hl := rD.length
        refine call_meets F.slot_list_append ⟨_, eD, rfl⟩ F.entry_list_append (F.args_list_append_2 _ _) (PySem.list_append D its.toArray n v (by rw [List.size_toArray]; omega)) ⟨eD, ?_⟩
        have q := PySem.IsL.update eD (·.push v)
        have eA : its.toArray.push v = (its ++ [v]).toArray := by simp
        rw [eA] at q
        refine ⟨m', hm, i + 1, acc ++ [y], H8, its ++ [v], _, pinD (Inv.weak (Inv.turned (it := D) (I8.pins_of (pins' := []) (fun p hp => nomatch hp)) (fun b o hb e => (Heap.get?_update_other _ _ (Ne.symm hb)).trans e) nD hDC (.inr (by show s2.heap.objs.size ≤ D; rw [hDD]; exact Nat.le_refl _)) (fun x c e z => ?_) (fun p hp => nomatch hp)) l6.symm (pick_weak k6)) q nD,
          T.keep _ _ _ st5 (fun b hb o e => (Heap.get?_update_other _ _ (hDfp b hb)).trans (t1 b hb o e)), t2, rD.append (.cons r8 .nil), w8⟩
        obtain ⟨v', oc, hoc, hdc⟩ := I8.cell x c e
        rw [z, eD] at hoc
        cases hoc
        cases hdc
  exact codeAny_compStart_list (loop _ rfl) (T.self X.A 0 _ _ _ st1 (loop _ rfl))
theorem pe_comp2 {N : List Str} (S : CompScope2 dsc scope N tgs outs N') (hi : PI X tg iter wi) (hg : ∀ cl C s H ex, PG (cxComp2 X N' scope cl C s H ex) tg g) (hgt : Tgt tgs.length g) (hcs : ∀ cl C s H ex, PCs (cxComp2 X N' scope cl C s H ex) ifs tc)
    (he : ∀ cl C s H ex, PE (cxComp2 X N' scope cl C s H ex) elt te) (hN0 : X.N = N := by rfl) (hsc : X.env.scope = dsc := by rfl) (hc : X.calm = true := by rfl) (hs : ∀ x, foldedSetIterable iter X.env x = pure x := by intro _; rfl) :
    PE X (.ListComp elt [⟨tg, iter, ifs, 0⟩] scope pos) (tComp tgs.length outs wi g tc te) := by
  subst hN0
  intro pins s σ H Q I h
  obtain ⟨cl, e1, e2, e3⟩ := closure_of (scope := scope) (env := X.env) (fun y hy hk => I.ok.has y.1 (.inl (by show X.env.scope.names.lookup y.1 = _; rw [hsc]; exact S.free y hy hk)))
  rw [eval_ListComp]
  refine wpAny_comprehension_free (use := none) rfl hs e1 S.kind S.names (wpAny_mono (hi pins s σ H _ I h) (fun xv s1 h1 => wpAny_mono h1 (fun itv s2 h2 => ?_) fun _ _ e => e) fun _ _ e => e)
  obtain ⟨it, fp, tn, J, H2, rfl, I2, T, st2, f2, W, ⟨m0, w0⟩, turn⟩ := h2
  refine comp_block2 (RR := fun acc C => compPost (model X.prog X.w) X.A X.xe none (EP X pins σ Q) acc C) S hsc hc hg hgt hcs he e2 e3 I2 T st2 f2 w0 (Qf := fun acc H => ∀ l, H l = none → Q (.ref l) (upd H l (.lst acc))) turn ?_
  intro D C s5 mC acc H5 I5 nD q nsC hf
  refine ⟨mC, nsC, fun h' hs' => ⟨.ref D, _, ?_, rfl, q D nD⟩⟩
  exact I5.turned (it := C) (t' := s5.toks) (fun b o hb e => (hs'.2 b hb).trans e) hf.1 hf.2.1 hf.2.2.2.1 hf.2.2.2.2.1 hf.2.2.2.2.2
end
end L2

set_option Elab.async false
set_option linter.all false
set_option maxRecDepth 100000
set_option maxHeartbeats 4000000
namespace L2
open PySem PySem.Spec PyProof.Rows
section
variable {prog : Program} {w : World} {A : Around} {R : Result → Shared → Prop} {I : Addr} {fp wr : List Addr} {n : Nat} {P : Nat → Value → Prop} {St : Nat → Heap → Prop}
end
section
variable {X : Cx}
end
def tListRange1 (ta : TA) : TE := fun σ H Q => ta σ H fun vs H1 => ∃ hi : Int, vs = [.int hi] ∧ 0 ≤ hi ∧ hi ≤ 1000000 ∧ ∀ l, H1 l = none → Q (.ref l) (upd H1 l (.lst (rangeV 0 hi)))
end L2

set_option linter.all false
set_option maxRecDepth 100000
namespace Lf
open PySem PySem.W PyProof.Rows
def krun {α : Type} (lt : Nat → Nat → Bool) : KasT α → α
  | .ret a => a
  | .ask i j k => krun lt (k (lt i j))
def kok {α : Type} (n : Nat) (lt : Nat → Nat → Bool) : KasT α → Prop
  | .ret _ => True
  | .ask i j k => i < n ∧ j < n ∧ kok n lt (k (lt i j))
section
variable {lt : Nat → Nat → Bool}
structure Ord (lt : Nat → Nat → Bool) : Prop where
  tr : ∀ i j k, lt j i = false → lt k j = false → lt k i = false
  asy : ∀ i j, lt i j = true → lt j i = false
abbrev gk (p : Array Nat) (k : Nat) : Nat := p.getD k 0
def Srt (lt : Nat → Nat → Bool) (p : Array Nat) (n : Nat) : Prop := ∀ i j, i ≤ j → j < n → lt (gk p j) (gk p i) = false
def Dec (lt : Nat → Nat → Bool) (p : Array Nat) (n : Nat) : Prop := ∀ i j, i ≤ j → j < n → lt (gk p i) (gk p j) = false
structure Fal (lt : Nat → Nat → Bool) (N : Nat) (p₀ p : Array Nat) (n q : Nat) : Prop where
  sz : p.size = p₀.size
  pm : p.Perm p₀
  dc : Dec lt p n
  q1 : q + 1 ≤ n
  nN : n ≤ N
  eq : ∀ i j, n - (q + 1) ≤ i → i < n → n - (q + 1) ≤ j → j < n → lt (gk p i) (gk p j) = false
structure Cnt (lt : Nat → Nat → Bool) (N : Nat) (p₀ : Array Nat) (r : Nat × Array Nat) : Prop where
  sz : r.2.size = p₀.size
  pm : r.2.Perm p₀
  n1 : 1 ≤ r.1
  nN : r.1 ≤ N
  st : Srt lt r.2 r.1
def Blw (n : Nat) (p : Array Nat) : Prop := 0 < n ∧ ∀ x ∈ p.toList, x < n
end
end Lf

set_option Elab.async false
set_option linter.all false
set_option maxRecDepth 100000
set_option maxHeartbeats 4000000
namespace L2
open PySem PySem.Spec PyProof.Rows PySem.W
section
variable {prog : Program} {w : World} {A : Around} {E : Value → Shared → Prop} {s : Shared}
def TupI (h : Heap) (a : Addr) (ns : List Int) : Prop := ∃ its : List Value, IsTup h a its.toArray ∧ IntsAre its ns
abbrev TI2 := Addr × List Int
def t0 : TI2 := (0, [])
def ltT (ts : List TI2) (i j : Nat) : Bool := HT.lexLt (ts.getD i t0).2 (ts.getD j t0).2
end
section
variable {X : Cx}
end
end L2

set_option Elab.async false
set_option linter.all false
set_option maxRecDepth 100000
set_option maxHeartbeats 4000000
namespace L2
open PySem PySem.Spec PyProof.Rows PySem.W
section
variable {prog : Program} {w : World} {A : Around} {E : Value → Shared → Prop} {s : Shared} {x : Str}
def TupW (x : Str) (h : Heap) (a : Addr) (ns : List Int) : Prop := ∃ (tk : Tok) (its : List Value), IsTup h a (Value.str x tk :: its).toArray ∧ IntsAre its ns
end
section
variable {X : Cx}
end

def Itrs (lo c : Int) (n : Nat) : It := ⟨fun i _ => i < n, fun i H x H' => H' = H ∧ x = .int (lo + i * c), fun i _ => n ≤ i⟩
section
variable {X : Cx} {tg : Expr}
def iRng3 (ta : TA) : TI := fun σ H R => ta σ H fun vs H1 => ∃ j c : Int, vs = [.int 0, .int j, .int c] ∧ (-(2 ^ 61) ≤ j ∧ j < 2 ^ 61 ∧ 1 ≤ c ∧ c < 2 ^ 20) ∧ ∀ n : Nat, (∀ i : Nat, i < n → (i : Int) * c < j) → (n : Int) ≤ max j 0 → R (Itrs 0 c n) H1
end
end L2

set_option linter.all false
namespace Lf
open PySem
theorem up_add {n k m : Int} (hm : 0 < m) (h : k % m = 0) : up (k + n) m = k + up n m := by
  obtain ⟨a, b⟩ := up_bounds (n := n) hm
  obtain ⟨c, d⟩ := up_bounds (n := k + n) hm
  refine mod_unique hm up_mod ?_ (by omega) (by omega)
  rw [Int.add_emod, h, up_mod]
  simp
def Pw (m : Int) : Prop := m = 1 ∨ m = 2 ∨ m = 4 ∨ m = 8
theorem up_one {m : Int} (h : 1 ≤ m) : up 1 m = m := by
  obtain ⟨a, b⟩ := up_bounds (n := 1) (m := m) (by omega)
  exact mod_unique (by omega) up_mod (Int.emod_self) (by omega) (by omega)
theorem cho_eq {rs : List (Int × Int)} : choRm rs = (maxL 1 (rs.map (·.2)) + up (maxL 0 (rs.map (·.1))) (maxL 1 (rs.map (·.2))), maxL 1 (rs.map (·.2))) := by
  have h := maxL_d (d := 1) (rs.map (·.2))
  show (up (up 1 (maxL 1 (rs.map (·.2))) + maxL 0 (rs.map (·.1))) (maxL 1 (rs.map (·.2))), _) = _
  rw [up_one h, up_add (by omega) (Int.emod_self)]
end Lf

set_option linter.all false
namespace Lf
def hgo : Nat → Nat → List Bool → List (Nat × Nat)
  | p, b, [] => if b < p then [(b, p)] else []
  | p, b, true :: r => (if b < p then [(b, p)] else []) ++ hgo (p + 1) (p + 1) r
  | p, b, false :: r => hgo (p + 1) b r
def holes (l : List Bool) : List (Nat × Nat) := hgo 0 0 l
def idleFrom : Nat → List Bool → List Nat
  | _, [] => []
  | p, true :: r => idleFrom (p + 1) r
  | p, false :: r => p :: idleFrom (p + 1) r
def jstep (acc : List (Nat × Nat)) (t : Nat) : List (Nat × Nat) :=
  match acc.getLast? with
  | some h => if h.2 = t then acc.dropLast ++ [(h.1, t + 1)] else acc ++ [(t, t + 1)]
  | none => acc ++ [(t, t + 1)]
def joined (l : List Nat) : List (Nat × Nat) := l.foldl jstep []
theorem idleFrom_filter : ∀ (l : List Bool) (p : Nat), idleFrom p l = ((List.range' p l.length).filter fun i => !(l[i - p]?.getD true))
  | [], p => rfl
  | b :: r, p => by
    have ih := idleFrom_filter r (p + 1)
    have e : ((List.range' (p + 1) r.length).filter fun i => !((b :: r)[i - p]?.getD true)) = (List.range' (p + 1) r.length).filter fun i => !(r[i - (p + 1)]?.getD true) := by
      refine List.filter_congr fun i hi => ?_
      have h1 := (List.mem_range'_1.mp hi).1
      have : i - p = (i - (p + 1)) + 1 := by omega
      rw [this]
      rfl
    rw [List.length_cons, List.range'_succ, List.filter_cons, e, ← ih]
    cases b <;> simp [idleFrom]
def overlay (l : List Bool) (p : Nat) (bs : List Bool) : List Bool := l.mapIdx fun i b => b || (decide (p ≤ i) && bs[i - p]?.getD false)
theorem overlay_len (l : List Bool) (p : Nat) (bs : List Bool) : (overlay l p bs).length = l.length := by simp [overlay]
theorem overlay_nil (l : List Bool) (p : Nat) : overlay l p [] = l := by
  refine List.ext_getElem? fun i => ?_
  simp [overlay, List.getElem?_mapIdx]
theorem overlay_get (l : List Bool) (p : Nat) (bs : List Bool) (i : Nat) (h : i < l.length) : (overlay l p bs)[i]?.getD false = (l[i]?.getD false || (decide (p ≤ i) && bs[i - p]?.getD false)) := by
  rw [overlay, List.getElem?_mapIdx, List.getElem?_eq_getElem h]
  rfl
theorem overlay_at (l : List Bool) (p : Nat) (bs : List Bool) (i : Nat) : (overlay l p bs)[i]? = l[i]?.map fun b => b || (decide (p ≤ i) && bs[i - p]?.getD false) := by
  rw [overlay, List.getElem?_mapIdx]
theorem overlay_snoc {l : List Bool} {p : Nat} {bs : List Bool} {b : Bool} (h : p + bs.length < l.length) : overlay l p (bs ++ [b]) = if b = true then (overlay l p bs).set (p + bs.length) true else overlay l p bs := by
  have key : ∀ i, i ≠ p + bs.length → (overlay l p (bs ++ [b]))[i]? = (overlay l p bs)[i]? := fun i hi => by
    rw [overlay_at, overlay_at]
    cases l[i]? with
    | none => rfl
    | some c =>
      by_cases hp : p ≤ i
      · have e : (bs ++ [b])[i - p]?.getD false = bs[i - p]?.getD false := by
          by_cases h1 : i - p < bs.length
          · rw [List.getElem?_append_left h1]
          · rw [List.getElem?_eq_none (by rw [List.length_append, List.length_singleton]; omega), List.getElem?_eq_none (by omega)]
        show some (c || _) = some (c || _)
        rw [e]
      · show some (c || (decide (p ≤ i) && _)) = some (c || (decide (p ≤ i) && _))
        rw [decide_eq_false hp]
        rfl
  have self : (overlay l p (bs ++ [b]))[p + bs.length]? = some ((l[p + bs.length]'h) || b) := by
    rw [overlay_at, List.getElem?_eq_getElem h]
    have e : (bs ++ [b])[p + bs.length - p]?.getD false = b := by
      rw [Nat.add_sub_cancel_left, List.getElem?_append_right (Nat.le_refl _), Nat.sub_self]
      rfl
    show some (_ || (decide (p ≤ p + bs.length) && _)) = _
    rw [e, decide_eq_true (Nat.le_add_right _ _), Bool.true_and]
  have self0 : (overlay l p bs)[p + bs.length]? = some (l[p + bs.length]'h) := by
    rw [overlay_at, List.getElem?_eq_getElem h]
    have e : bs[p + bs.length - p]?.getD false = false := by
      rw [Nat.add_sub_cancel_left, List.getElem?_eq_none (Nat.le_refl _)]
      rfl
    show some (_ || (_ && _)) = _
    rw [e, Bool.and_false, Bool.or_false]
  refine List.ext_getElem? fun i => ?_
  by_cases hi : i = p + bs.length
  · subst hi
    rw [self]
    cases b with
    | true =>
      rw [if_pos rfl, List.getElem?_set_self (by rw [overlay_len]; exact h), Bool.or_true]
    | false => rw [if_neg Bool.false_ne_true, self0, Bool.or_false]
  · rw [key i hi]
    cases b with
    | true => rw [if_pos rfl, List.getElem?_set_ne (fun e => hi e.symm)]
    | false => rw [if_neg Bool.false_ne_true]
mutual
def Kd.fil : Kd → List Bool
  | .num w _ => List.replicate w.toNat true
  | .row k n => (List.replicate n.toNat (overlay (List.replicate (up k.rm.1 k.rm.2).toNat false) 0 k.fil)).flatten
  | .rcd fs => filF (plcs 0 (rmF fs)) fs (List.replicate (rcdRm (rmF fs)).1.toNat false)
  | .cho ks => filK (up 1 (choRm (rmK ks)).2).toNat ks ((List.replicate (choRm (rmK ks)).1.toNat false).set 0 true)
def filF : List Int → List (PySem.Str × Kd) → List Bool → List Bool
  | _, [], l => l
  | [], _ :: _, l => l
  | p :: ps, f :: r, l => filF ps r (overlay l p.toNat f.2.fil)
def filK : Nat → List Kd → List Bool → List Bool
  | _, [], l => l
  | p, k :: r, l => filK p r (overlay l p k.fil)
end
theorem filF_len : ∀ (fs : List (PySem.Str × Kd)) (ps : List Int) (l : List Bool), (filF ps fs l).length = l.length
  | [], _, _ => by simp [filF]
  | _ :: _, [], _ => by simp [filF]
  | f :: r, p :: ps, l => by show (filF ps r _).length = _; rw [filF_len r, overlay_len]
theorem filK_len : ∀ (ks : List Kd) (p : Nat) (l : List Bool), (filK p ks l).length = l.length
  | [], _, _ => by simp [filK]
  | k :: r, p, l => by show (filK p r _).length = _; rw [filK_len r, overlay_len]
theorem Kd.fil_len : ∀ {kd : Kd}, kd.Ok → kd.fil.length = kd.rm.1.toNat
  | .num w m, _ => by show (List.replicate _ _).length = _; rw [List.length_replicate]; rfl
  | .row k n, h => by
    obtain ⟨hk, h0, h1⟩ := h
    obtain ⟨a, b, c, d⟩ := k.bd hk
    obtain ⟨u1, u2⟩ := up_bounds (n := k.rm.1) (m := k.rm.2) (by omega)
    show (List.replicate n.toNat (overlay (List.replicate (up k.rm.1 k.rm.2).toNat false) 0 k.fil)).flatten.length = (n * up k.rm.1 k.rm.2).toNat
    rw [List.length_flatten, List.map_replicate, List.sum_replicate_nat, overlay_len, List.length_replicate, Int.toNat_mul h0 (by omega)]
  | .rcd fs, h => by show (filF _ _ _).length = _; rw [filF_len, List.length_replicate]; rfl
  | .cho ks, h => by show (filK _ _ _).length = _; rw [filK_len, List.length_set, List.length_replicate]; rfl
def Kd.bz (kd : Kd) (i : Nat) : Bool := kd.fil[i]?.getD false
def bzF : List Int → List (PySem.Str × Kd) → Nat → Bool
  | _, [], _ => false
  | [], _ :: _, _ => false
  | p :: ps, f :: r, i => (decide (p.toNat ≤ i) && f.2.bz (i - p.toNat)) || bzF ps r i
def bzK : Nat → List Kd → Nat → Bool
  | _, [], _ => false
  | p, k :: r, i => (decide (p ≤ i) && k.bz (i - p)) || bzK p r i
theorem filF_get : ∀ (fs : List (PySem.Str × Kd)) (ps : List Int) (l : List Bool) (i : Nat), i < l.length → (filF ps fs l)[i]?.getD false = (l[i]?.getD false || bzF ps fs i)
  | [], _, _, _, _ => by simp [filF, bzF]
  | _ :: _, [], _, _, _ => by simp [filF, bzF]
  | f :: r, p :: ps, l, i, h => by
    show (filF ps r _)[i]?.getD false = (_ || ((decide (p.toNat ≤ i) && f.2.fil[i - p.toNat]?.getD false) || bzF ps r i))
    rw [filF_get r ps _ i (by rw [overlay_len]; exact h), overlay_get _ _ _ _ h, Bool.or_assoc]
theorem filK_get : ∀ (ks : List Kd) (p : Nat) (l : List Bool) (i : Nat), i < l.length → (filK p ks l)[i]?.getD false = (l[i]?.getD false || bzK p ks i)
  | [], _, _, _, _ => by simp [filK, bzK]
  | k :: r, p, l, i, h => by
    show (filK p r _)[i]?.getD false = (_ || ((decide (p ≤ i) && k.fil[i - p]?.getD false) || bzK p r i))
    rw [filK_get r p _ i (by rw [overlay_len]; exact h), overlay_get _ _ _ _ h, Bool.or_assoc]
theorem Kd.bz_lt {kd : Kd} (h : kd.Ok) {i : Nat} (hb : kd.bz i = true) : i < kd.rm.1.toNat := by
  by_cases hi : i < kd.fil.length
  · rw [kd.fil_len h] at hi; exact hi
  · unfold Kd.bz at hb
    rw [List.getElem?_eq_none (by omega)] at hb
    cases hb
theorem hgo_idle : ∀ (l : List Bool) (p b : Nat), b ≤ p → (hgo p b l).flatMap (fun h => List.range' h.1 (h.2 - h.1)) = List.range' b (p - b) ++ idleFrom p l
  | [], p, b, h => by
    show (if b < p then [(b, p)] else []).flatMap _ = _ ++ []
    by_cases hb : b < p
    · rw [if_pos hb]; simp
    · rw [if_neg hb]
      have : p - b = 0 := by omega
      rw [this]; rfl
  | true :: r, p, b, h => by
    show ((if b < p then [(b, p)] else []) ++ hgo (p + 1) (p + 1) r).flatMap _ = _ ++ idleFrom (p + 1) r
    rw [List.flatMap_append, hgo_idle r (p + 1) (p + 1) (Nat.le_refl _), Nat.sub_self]
    by_cases hb : b < p
    · rw [if_pos hb]; simp
    · rw [if_neg hb]
      have : p - b = 0 := by omega
      rw [this]; rfl
  | false :: r, p, b, h => by
    show (hgo (p + 1) b r).flatMap _ = _ ++ (p :: idleFrom (p + 1) r)
    rw [hgo_idle r (p + 1) b (by omega)]
    have e : p + 1 - b = (p - b) + 1 := by omega
    rw [e, List.range'_concat, List.append_assoc]
    have : b + (p - b) = p := by omega
    simp [this]
theorem holes_idle (l : List Bool) : (holes l).flatMap (fun h => List.range' h.1 (h.2 - h.1)) = idleFrom 0 l := by
  have := hgo_idle l 0 0 (Nat.le_refl _)
  exact this
end Lf

set_option linter.all false
namespace Lf
open PySem
theorem overlay_zero {n : Nat} {l : List Bool} (h : l.length ≤ n) : overlay (List.replicate n false) 0 l = l ++ List.replicate (n - l.length) false := by
  refine List.ext_getElem? fun i => ?_
  rw [overlay_at]
  by_cases hi : i < n
  · rw [List.getElem?_replicate, if_pos hi]
    show some (false || (decide (0 ≤ i) && l[i - 0]?.getD false)) = _
    rw [Nat.sub_zero, decide_eq_true (Nat.zero_le _), Bool.true_and, Bool.false_or]
    by_cases hl : i < l.length
    · rw [List.getElem?_append_left hl, List.getElem?_eq_getElem hl]; rfl
    · rw [List.getElem?_append_right (by omega), List.getElem?_replicate, if_pos (by omega), List.getElem?_eq_none (by omega)]; rfl
  · rw [List.getElem?_replicate, if_neg hi]
    rw [List.getElem?_append_right (by omega), List.getElem?_replicate, if_neg (by omega)]
    rfl
def idleStep (kd : Kd) : List Nat := idleFrom 0 kd.fil ++ List.range' kd.rm.1.toNat ((up kd.rm.1 kd.rm.2).toNat - kd.rm.1.toNat)
theorem plcs_ge : ∀ {rs : List (Int × Int)} {e : Int}, Rms rs → ∀ p ∈ plcs e rs, e ≤ p
  | [], _, _, p, hp => nomatch hp
  | r :: rs, e, h, p, hp => by
    obtain ⟨a, b⟩ := h r List.mem_cons_self
    have u := (up_bounds (n := e) b).1
    have hp' : p ∈ up e r.2 :: plcs (up e r.2 + r.1) rs := hp
    rcases List.mem_cons.mp hp' with rfl | hp'
    · exact u
    · have := plcs_ge (rs := rs) (fun x hx => h x (List.mem_cons_of_mem _ hx)) p hp'
      omega
def rmsF {fs : List (Str × Kd)} (h : okF fs) : Rms (rmF fs) := fun r hr => by
  obtain ⟨a, b, c, d⟩ := bdF fs h r hr
  exact ⟨a, by omega⟩
def idleR : Int → List (Str × Kd) → List Nat
  | _, [] => []
  | e, f :: r => List.range' e.toNat ((up e f.2.rm.2).toNat - e.toNat) ++ ((idleFrom 0 f.2.fil).map ((up e f.2.rm.2).toNat + ·) ++ idleR (up e f.2.rm.2 + f.2.rm.1) r)
theorem idle_filter (kd : Kd) : idleFrom 0 kd.fil = (List.range kd.fil.length).filter fun i => !(kd.bz i) := by
  rw [idleFrom_filter, List.range_eq_range']
  refine List.filter_congr fun i hi => ?_
  have h2 : i < kd.fil.length := by have := (List.mem_range'_1.mp hi).2; omega
  unfold Kd.bz
  rw [Nat.sub_zero, List.getElem?_eq_getElem h2]
  rfl
theorem bzK_any : ∀ {ks : List Kd} {p i : Nat}, bzK p ks i = (decide (p ≤ i) && ks.any fun k => k.bz (i - p))
  | [], p, i => by simp [bzK]
  | k :: r, p, i => by
    show ((decide (p ≤ i) && k.bz (i - p)) || bzK p r i) = _
    rw [bzK_any, List.any_cons, ← Bool.and_or_distrib_left]
end Lf

set_option linter.all false
namespace Lf
open PySem
theorem bool_eq {a b : Bool} (h : a = true ↔ b = true) : a = b := by cases a <;> cases b <;> simp at h <;> rfl
theorem flat_get : ∀ (n : Nat) (s : List Bool) (i : Nat), ((List.replicate n s).flatten)[i]?.getD false = true ↔ ∃ j, j < n ∧ j * s.length ≤ i ∧ s[i - j * s.length]?.getD false = true
  | 0, s, i => by
    constructor
    · intro h; simp at h
    · rintro ⟨j, hj, _⟩; omega
  | n + 1, s, i => by
    rw [List.replicate_succ, List.flatten_cons]
    by_cases hi : i < s.length
    · rw [List.getElem?_append_left hi]
      constructor
      · intro h; exact ⟨0, by omega, by omega, by simpa using h⟩
      · rintro ⟨j, hj, h1, h2⟩
        cases j with
        | zero => simpa using h2
        | succ j =>
          exfalso
          rw [Nat.succ_mul] at h1
          omega
    · rw [List.getElem?_append_right (by omega), flat_get n s]
      constructor
      · rintro ⟨j, hj, h1, h2⟩
        refine ⟨j + 1, by omega, by rw [Nat.succ_mul]; omega, ?_⟩
        rw [Nat.succ_mul]
        have : i - (j * s.length + s.length) = i - s.length - j * s.length := by omega
        rw [this]; exact h2
      · rintro ⟨j, hj, h1, h2⟩
        cases j with
        | zero =>
          exfalso
          rw [Nat.zero_mul, Nat.sub_zero, List.getElem?_eq_none (by omega)] at h2
          cases h2
        | succ j =>
          rw [Nat.succ_mul] at h1 h2
          refine ⟨j, by omega, by omega, ?_⟩
          have : i - s.length - j * s.length = i - (j * s.length + s.length) := by omega
          rw [this]; exact h2
theorem bz_row {kd : Kd} {n : Int} (h : kd.Ok) (i : Nat) : (Kd.row kd n).bz i = true ↔ ∃ j, j < n.toNat ∧ j * (up kd.rm.1 kd.rm.2).toNat ≤ i ∧ kd.bz (i - j * (up kd.rm.1 kd.rm.2).toNat) = true := by
  obtain ⟨a, b, c, d⟩ := kd.bd h
  obtain ⟨u1, u2⟩ := up_bounds (n := kd.rm.1) (m := kd.rm.2) (by omega)
  have hl := kd.fil_len h
  show ((List.replicate n.toNat (overlay (List.replicate (up kd.rm.1 kd.rm.2).toNat false) 0 kd.fil)).flatten)[i]?.getD false = true ↔ _
  rw [flat_get, overlay_len, List.length_replicate, overlay_zero (by omega)]
  have key : ∀ r, (kd.fil ++ List.replicate ((up kd.rm.1 kd.rm.2).toNat - kd.fil.length) false)[r]?.getD false = kd.bz r := fun r => by
    unfold Kd.bz
    by_cases hr : r < kd.fil.length
    · rw [List.getElem?_append_left hr]
    · rw [List.getElem?_append_right (by omega), List.getElem?_eq_none (l := kd.fil) (by omega), List.getElem?_replicate]
      split <;> rfl
  constructor
  · rintro ⟨j, h1, h2, h3⟩; rw [key] at h3; exact ⟨j, h1, h2, h3⟩
  · rintro ⟨j, h1, h2, h3⟩; exact ⟨j, h1, h2, by rw [key]; exact h3⟩
def pbz (x : Kd × Nat) (i : Nat) : Bool := decide (x.2 ≤ i) && x.1.bz (i - x.2)
def pileBz (pl : List (Kd × Nat)) (i : Nat) : Bool := pl.any fun x => pbz x i
def rowParts (k : Kd) (n : Nat) (s p : Nat) : List (Kd × Nat) := (List.range n).map fun j => (k, p + j * s)
def rcdParts (p : Nat) : List Int → List (Str × Kd) → List (Kd × Nat)
  | _, [] => []
  | [], _ :: _ => []
  | q :: ps, f :: r => (f.2, p + q.toNat) :: rcdParts p ps r
def choParts (p : Nat) (ks : List Kd) : List (Kd × Nat) := ks.map fun k => (k, p)
mutual
def Kd.wt : Kd → Nat
  | .num _ _ => 1
  | .row k n => 1 + n.toNat * k.wt
  | .rcd fs => 1 + wtF fs
  | .cho ks => 1 + wtK ks
def wtF : List (Str × Kd) → Nat
  | [] => 0
  | f :: r => f.2.wt + wtF r
def wtK : List Kd → Nat
  | [] => 0
  | k :: r => k.wt + wtK r
end
def pileWt (pl : List (Kd × Nat)) : Nat := (pl.map fun x => x.1.wt).sum
end Lf

set_option linter.all false
namespace Lf
inductive Vd where
  | num (n : Int)
  | row (vs : List Vd)
  | rcd (vs : List Vd)
  | cho (k : Nat) (v : Vd)
def numB : Nat → Int → List Int
  | 0, _ => []
  | w + 1, n => n % 256 :: numB w (n / 256)
theorem numB_len : ∀ (w : Nat) (n : Int), (numB w n).length = w
  | 0, _ => rfl
  | w + 1, n => by show (numB w _).length + 1 = _; rw [numB_len w]
theorem numB_succ : ∀ (w : Nat) (n : Int), numB (w + 1) n = numB w n ++ [n / 256 ^ w % 256]
  | 0, n => by show [n % 256] = [n / 1 % 256]; rw [Int.ediv_one]
  | w + 1, n => by
    show n % 256 :: numB (w + 1) (n / 256) = n % 256 :: numB w (n / 256) ++ _
    rw [numB_succ w (n / 256), Int.ediv_ediv_of_nonneg (by decide)]
    have e : (256 : Int) * 256 ^ w = 256 ^ (w + 1) := by rw [Int.pow_succ, Int.mul_comm]
    rw [e]
    rfl
def lay (l : List Int) (p : Nat) (some : List Int) : List Int := l.mapIdx fun i b => if p ≤ i ∧ i < p + some.length then some.getD (i - p) 0 else b
theorem lay_len (l : List Int) (p : Nat) (some : List Int) : (lay l p some).length = l.length := by simp [lay]
theorem lay_at (l : List Int) (p : Nat) (s : List Int) (i : Nat) : (lay l p s)[i]? = l[i]?.map fun b => if p ≤ i ∧ i < p + s.length then s.getD (i - p) 0 else b := by
  rw [lay, List.getElem?_mapIdx]
theorem lay_nil (l : List Int) (p : Nat) : lay l p [] = l := by
  refine List.ext_getElem? fun i => ?_
  rw [lay_at]
  cases l[i]? with
  | none => rfl
  | some c =>
    show some (if p ≤ i ∧ i < p + 0 then _ else c) = some c
    rw [if_neg (by omega)]
theorem lay_snoc {l : List Int} {p : Nat} {s : List Int} {b : Int} (h : p + s.length < l.length) : lay l p (s ++ [b]) = (lay l p s).set (p + s.length) b := by
  refine List.ext_getElem? fun i => ?_
  by_cases hi : i = p + s.length
  · subst hi
    rw [List.getElem?_set_self (by rw [lay_len]; exact h), lay_at, List.getElem?_eq_getElem h]
    show some (if p ≤ p + s.length ∧ p + s.length < p + (s ++ [b]).length then (s ++ [b]).getD (p + s.length - p) 0 else _) = some b
    rw [if_pos ⟨by omega, by rw [List.length_append]; show _ < p + (s.length + 1); omega⟩, Nat.add_sub_cancel_left, List.getD_eq_getElem?_getD, List.getElem?_append_right (Nat.le_refl _), Nat.sub_self]
    rfl
  · rw [List.getElem?_set_ne (fun e => hi e.symm), lay_at, lay_at]
    cases l[i]? with
    | none => rfl
    | some c =>
      show some (if _ then _ else c) = some (if _ then _ else c)
      by_cases hp : p ≤ i ∧ i < p + s.length
      · rw [if_pos hp, if_pos ⟨hp.1, by rw [List.length_append]; show i < p + (s.length + 1); omega⟩, List.getD_eq_getElem?_getD, List.getD_eq_getElem?_getD, List.getElem?_append_left (by omega)]
      · rw [if_neg hp, if_neg (by rw [List.length_append]; show ¬ (p ≤ i ∧ i < p + (s.length + 1)); omega)]
def layRow (f : Vd → List Int) (step : Nat) : Nat → List Vd → List Int → List Int
  | _, [], l => l
  | j, v :: r, l => layRow f step (j + 1) r (lay l (j * step) (f v))
mutual
def Kd.byt : Kd → Vd → List Int
  | .num w _, .num n => numB w.toNat n
  | .row k n, .row vs => layRow k.byt (up k.rm.1 k.rm.2).toNat 0 vs (List.replicate (n * up k.rm.1 k.rm.2).toNat 0)
  | .rcd fs, .rcd vs => bytF (plcs 0 (rmF fs)) fs vs (List.replicate (rcdRm (rmF fs)).1.toNat 0)
  | .cho ks, .cho k v => lay ((List.replicate (choRm (rmK ks)).1.toNat (0 : Int)).set 0 (k : Int)) (up 1 (choRm (rmK ks)).2).toNat (bytK ks k v)
  | _, _ => []
def bytF : List Int → List (PySem.Str × Kd) → List Vd → List Int → List Int
  | p :: ps, f :: r, v :: vs, l => bytF ps r vs (lay l p.toNat (f.2.byt v))
  | _, _, _, l => l
def bytK : List Kd → Nat → Vd → List Int
  | [], _, _ => []
  | k :: _, 0, v => k.byt v
  | _ :: r, j + 1, v => bytK r j v
end
mutual
def Kd.Val : Kd → Vd → Prop
  | .num w _, .num n => 0 ≤ n ∧ n < 256 ^ w.toNat
  | .row k n, .row vs => (vs.length : Int) = n ∧ ∀ v ∈ vs, k.Val v
  | .rcd fs, .rcd vs => valF fs vs
  | .cho ks, .cho k v => valK ks k v
  | _, _ => False
def valF : List (PySem.Str × Kd) → List Vd → Prop
  | [], [] => True
  | f :: r, v :: vs => f.2.Val v ∧ valF r vs
  | _, _ => False
def valK : List Kd → Nat → Vd → Prop
  | [], _, _ => False
  | k :: _, 0, v => k.Val v
  | _ :: r, j + 1, v => valK r j v
end
theorem layRow_len (f : Vd → List Int) (step : Nat) : ∀ (vs : List Vd) (j : Nat) (l : List Int), (layRow f step j vs l).length = l.length
  | [], _, _ => rfl
  | v :: r, j, l => by show (layRow f step (j + 1) r _).length = _; rw [layRow_len f step r, lay_len]
theorem bytF_len : ∀ (fs : List (PySem.Str × Kd)) (ps : List Int) (vs : List Vd) (l : List Int), (bytF ps fs vs l).length = l.length
  | [], _, _, _ => by simp [bytF]
  | _ :: _, [], _, _ => by simp [bytF]
  | _ :: _, _ :: _, [], _ => by simp [bytF]
  | f :: r, p :: ps, v :: vs, l => by simp only [bytF]; rw [bytF_len r, lay_len]
theorem Kd.byt_len : ∀ {kd : Kd} {v : Vd}, kd.Val v → (kd.byt v).length = kd.rm.1.toNat
  | .num w m, .num n, _ => by simp only [Kd.byt]; rw [numB_len]; rfl
  | .row k n, .row vs, _ => by simp only [Kd.byt]; rw [layRow_len, List.length_replicate]; rfl
  | .rcd fs, .rcd vs, _ => by simp only [Kd.byt]; rw [bytF_len, List.length_replicate]; rfl
  | .cho ks, .cho k v, _ => by simp only [Kd.byt]; rw [lay_len, List.length_set, List.length_replicate]; rfl
theorem getD_lt {l : List Int} {i : Nat} (h : l.getD i 0 ≠ 0) : i < l.length := by
  by_cases c : i < l.length
  · exact c
  · rw [List.getD_eq_getElem?_getD, List.getElem?_eq_none (by omega)] at h
    exact absurd rfl h
theorem zeros_get (n i : Nat) : (List.replicate n (0 : Int)).getD i 0 = 0 := by
  rw [List.getD_eq_getElem?_getD, List.getElem?_replicate]
  split <;> rfl
theorem lay_nz {l s : List Int} {p i : Nat} (h : (lay l p s).getD i 0 ≠ 0) : (p ≤ i ∧ s.getD (i - p) 0 ≠ 0) ∨ l.getD i 0 ≠ 0 := by
  have hi := getD_lt h
  rw [lay_len] at hi
  rw [List.getD_eq_getElem?_getD, lay_at, List.getElem?_eq_getElem hi] at h
  have h' : (if p ≤ i ∧ i < p + s.length then s.getD (i - p) 0 else l[i]) ≠ 0 := h
  by_cases c : p ≤ i ∧ i < p + s.length
  · rw [if_pos c] at h'
    exact .inl ⟨c.1, h'⟩
  · rw [if_neg c] at h'
    refine .inr ?_
    rw [List.getD_eq_getElem?_getD, List.getElem?_eq_getElem hi]
    exact h'
theorem layRow_nz (f : Vd → List Int) (step : Nat) : ∀ (vs : List Vd) (j : Nat) (l : List Int) (i : Nat), (layRow f step j vs l).getD i 0 ≠ 0 → l.getD i 0 ≠ 0 ∨ ∃ t v, vs[t]? = some v ∧ (j + t) * step ≤ i ∧ (f v).getD (i - (j + t) * step) 0 ≠ 0
  | [], _, _, _, h => .inl h
  | v :: r, j, l, i, h => by
    rcases layRow_nz f step r (j + 1) _ i h with a | ⟨t, u, a, b, c⟩
    · rcases lay_nz a with ⟨b, c⟩ | b
      · exact .inr ⟨0, v, rfl, b, c⟩
      · exact .inl b
    · have e : j + 1 + t = j + (t + 1) := by omega
      rw [e] at b c
      exact .inr ⟨t + 1, u, a, b, c⟩
mutual
theorem Kd.byt_nz : ∀ (kd : Kd) (v : Vd) (i : Nat), kd.Ok → kd.Val v → (kd.byt v).getD i 0 ≠ 0 → kd.bz i = true
  | .num w m, .num n, i, h, hv, hz => by
    have hi := getD_lt hz
    rw [Kd.byt_len hv] at hi
    have hi : i < w.toNat := hi
    unfold Kd.bz
    show (List.replicate w.toNat true)[i]?.getD false = true
    rw [List.getElem?_replicate, if_pos hi]
    rfl
  | .row k n, .row vs, i, h, hv, hz => by
    simp only [Kd.byt] at hz
    obtain ⟨v1, v2⟩ := (show (vs.length : Int) = n ∧ ∀ v ∈ vs, k.Val v from by simpa only [Kd.Val] using hv)
    rcases layRow_nz _ _ _ _ _ _ hz with a | ⟨t, u, a, b, c⟩
    · exact absurd (zeros_get _ _) a
    · rw [Nat.zero_add] at b c
      have ht := (List.getElem?_eq_some_iff.mp a).1
      exact (bz_row h.1 i).mpr ⟨t, by omega, b, Kd.byt_nz k u _ h.1 (v2 u (List.mem_of_getElem? a)) c⟩
  | .rcd fs, .rcd vs, i, h, hv, hz => by
    have hi := getD_lt hz
    rw [Kd.byt_len hv] at hi
    have hi : i < (rcdRm (rmF fs)).1.toNat := hi
    have hv' : valF fs vs := by simpa only [Kd.Val] using hv
    simp only [Kd.byt] at hz
    unfold Kd.bz
    show (filF (plcs 0 (rmF fs)) fs (List.replicate (rcdRm (rmF fs)).1.toNat false))[i]?.getD false = true
    rw [filF_get _ _ _ _ (by rw [List.length_replicate]; exact hi)]
    rcases bytF_nz fs (plcs 0 (rmF fs)) vs _ i h.1 hv' hz with a | a
    · exact absurd (zeros_get _ _) a
    · rw [a, Bool.or_true]
  | .cho ks, .cho k v, i, h, hv, hz => by
    have hi := getD_lt hz
    rw [Kd.byt_len hv] at hi
    have hi : i < (choRm (rmK ks)).1.toNat := hi
    have hv' : valK ks k v := by simpa only [Kd.Val] using hv
    simp only [Kd.byt] at hz
    unfold Kd.bz
    show (filK (up 1 (choRm (rmK ks)).2).toNat ks ((List.replicate (choRm (rmK ks)).1.toNat false).set 0 true))[i]?.getD false = true
    rw [filK_get _ _ _ _ (by rw [List.length_set, List.length_replicate]; exact hi)]
    rcases lay_nz hz with ⟨a, b⟩ | a
    · rw [bzK_any, decide_eq_true a, bytK_nz ks k v _ h.1 hv' b]
      exact Bool.or_true _
    · by_cases c : i = 0
      · subst c
        rw [List.getElem?_set_self (by rw [List.length_replicate]; exact hi)]
        rfl
      · rw [List.getD_eq_getElem?_getD, List.getElem?_set_ne (fun e => c e.symm), ← List.getD_eq_getElem?_getD] at a
        exact absurd (zeros_get _ _) a
  | .num _ _, .row _, _, _, hv, _ | .num _ _, .rcd _, _, _, hv, _ | .num _ _, .cho _ _, _, _, hv, _ => by simp only [Kd.Val] at hv
  | .row _ _, .num _, _, _, hv, _ | .row _ _, .rcd _, _, _, hv, _ | .row _ _, .cho _ _, _, _, hv, _ => by simp only [Kd.Val] at hv
  | .rcd _, .num _, _, _, hv, _ | .rcd _, .row _, _, _, hv, _ | .rcd _, .cho _ _, _, _, hv, _ => by simp only [Kd.Val] at hv
  | .cho _, .num _, _, _, hv, _ | .cho _, .row _, _, _, hv, _ | .cho _, .rcd _, _, _, hv, _ => by simp only [Kd.Val] at hv
theorem bytF_nz : ∀ (fs : List (PySem.Str × Kd)) (ps : List Int) (vs : List Vd) (l : List Int) (i : Nat), okF fs → valF fs vs → (bytF ps fs vs l).getD i 0 ≠ 0 → l.getD i 0 ≠ 0 ∨ bzF ps fs i = true
  | [], ps, vs, l, i, _, _, h => by simp only [bytF] at h; exact .inl h
  | f :: r, [], vs, l, i, _, _, h => by simp only [bytF] at h; exact .inl h
  | f :: r, p :: ps, [], l, i, _, hv, h => by simp only [valF] at hv
  | f :: r, p :: ps, v :: vs, l, i, ho, hv, h => by
    simp only [bytF] at h
    simp only [valF] at hv
    rcases bytF_nz r ps vs _ i ho.2 hv.2 h with a | a
    · rcases lay_nz a with ⟨b, c⟩ | b
      · right
        show ((decide (p.toNat ≤ i) && f.2.bz (i - p.toNat)) || bzF ps r i) = true
        rw [decide_eq_true b, Kd.byt_nz f.2 v _ ho.1 hv.1 c]
        rfl
      · exact .inl b
    · right
      show ((decide (p.toNat ≤ i) && f.2.bz (i - p.toNat)) || bzF ps r i) = true
      rw [a, Bool.or_true]
theorem bytK_nz : ∀ (ks : List Kd) (k : Nat) (v : Vd) (i : Nat), okK ks → valK ks k v → (bytK ks k v).getD i 0 ≠ 0 → (ks.any fun k => k.bz i) = true
  | [], k, v, i, _, hv, _ => by simp only [valK] at hv
  | a :: r, 0, v, i, ho, hv, h => by
    simp only [bytK] at h
    simp only [valK] at hv
    rw [List.any_cons, Kd.byt_nz a v i ho.1 hv h]
    rfl
  | a :: r, j + 1, v, i, ho, hv, h => by
    simp only [bytK] at h
    simp only [valK] at hv
    rw [List.any_cons, bytK_nz r j v i ho.2 hv h, Bool.or_true]
end
end Lf

set_option linter.all false
namespace Lf
theorem lay_get {l s : List Int} {p i : Nat} (hi : i < l.length) : (lay l p s).getD i 0 = if p ≤ i ∧ i < p + s.length then s.getD (i - p) 0 else l.getD i 0 := by
  rw [List.getD_eq_getElem?_getD, lay_at, List.getElem?_eq_getElem hi]
  show (if p ≤ i ∧ i < p + s.length then s.getD (i - p) 0 else l[i]) = _
  split
  · rfl
  · rw [List.getD_eq_getElem?_getD, List.getElem?_eq_getElem hi]
    rfl
theorem layRow_keep (f : Vd → List Int) (step : Nat) : ∀ (vs : List Vd) (j : Nat) (l : List Int) (i : Nat), i < j * step → (layRow f step j vs l).getD i 0 = l.getD i 0
  | [], _, _, _, _ => rfl
  | v :: r, j, l, i, h => by
    have h' : i < (j + 1) * step := Nat.lt_of_lt_of_le h (Nat.mul_le_mul_right _ (Nat.le_succ _))
    show (layRow f step (j + 1) r _).getD i 0 = _
    rw [layRow_keep f step r (j + 1) _ i h']
    by_cases c : i < l.length
    · rw [lay_get c, if_neg (by omega)]
    · rw [List.getD_eq_getElem?_getD, List.getD_eq_getElem?_getD, List.getElem?_eq_none (by rw [lay_len]; omega), List.getElem?_eq_none (by omega)]
theorem layRow_get (f : Vd → List Int) (step : Nat) : ∀ (vs : List Vd) (j : Nat) (l : List Int) (i t : Nat) (v : Vd), (∀ u ∈ vs, (f u).length ≤ step) → vs[t]? = some v → (j + t) * step ≤ i → i < (j + t) * step + (f v).length → i < l.length → (layRow f step j vs l).getD i 0 = (f v).getD (i - (j + t) * step) 0
  | [], _, _, _, _, _, _, h, _, _, _ => by simp at h
  | u :: r, j, l, i, 0, v, hs, h, h1, h2, h3 => by
    have e : u = v := by simpa using h
    subst e
    have hl := hs u List.mem_cons_self
    rw [Nat.add_zero] at h1 h2 ⊢
    show (layRow f step (j + 1) r _).getD i 0 = _
    rw [layRow_keep f step r (j + 1) _ i (by rw [Nat.add_mul, Nat.one_mul]; omega), lay_get h3, if_pos ⟨h1, h2⟩]
  | u :: r, j, l, i, t + 1, v, hs, h, h1, h2, h3 => by
    have e : j + (t + 1) = j + 1 + t := by omega
    rw [e] at h1 h2 ⊢
    exact layRow_get f step r (j + 1) _ i t v (fun w hw => hs w (List.mem_cons_of_mem _ hw)) (by simpa using h) h1 h2 (by rw [lay_len]; exact h3)
theorem numB_full : ∀ (w i : Nat), i < w → (numB w (256 ^ w - 1)).getD i 0 = 255
  | w + 1, i, h => by
    have hp : (0 : Int) < 256 ^ w := Int.pow_pos (by decide)
    have e : (256 : Int) ^ (w + 1) = 256 * 256 ^ w := by rw [Int.pow_succ, Int.mul_comm]
    have e1 : ((256 : Int) ^ (w + 1) - 1) % 256 = 255 := by rw [e]; omega
    have e2 : ((256 : Int) ^ (w + 1) - 1) / 256 = 256 ^ w - 1 := by rw [e]; omega
    show ((256 ^ (w + 1) - 1) % 256 :: numB w ((256 ^ (w + 1) - 1) / 256)).getD i 0 = 255
    rw [e1, e2]
    cases i with
    | zero => rfl
    | succ i => exact numB_full w i (by omega)
mutual
def Kd.ful : Kd → List Vd
  | .num w _ => [.num (256 ^ w.toNat - 1)]
  | .row k n => k.ful.map fun v => .row (List.replicate n.toNat v)
  | .rcd fs => (List.range ((fulF fs).map List.length |>.foldr max 0)).map fun t => .rcd ((fulF fs).map fun some => some.getD (t % some.length) (.num 0))
  | .cho ks => fulK 0 ks
def fulF : List (PySem.Str × Kd) → List (List Vd)
  | [] => []
  | f :: r => f.2.ful :: fulF r
def fulK : Nat → List Kd → List Vd
  | _, [] => []
  | j, k :: r => (k.ful.map fun v => .cho j v) ++ fulK (j + 1) r
end
mutual
def Kd.Two : Kd → Prop
  | .num _ _ => True
  | .row k _ => k.Two
  | .rcd fs => fs ≠ [] ∧ twoF fs
  | .cho ks => 2 ≤ ks.length ∧ twoK ks
def twoF : List (PySem.Str × Kd) → Prop
  | [] => True
  | f :: r => f.2.Two ∧ twoF r
def twoK : List Kd → Prop
  | [] => True
  | k :: r => k.Two ∧ twoK r
end
def mxl (ls : List (List Vd)) : Nat := (ls.map List.length).foldr max 0
theorem mxl_ge : ∀ {ls : List (List Vd)} {l : List Vd}, l ∈ ls → l.length ≤ mxl ls
  | a :: r, l, h => by
    show l.length ≤ max a.length (mxl r)
    rcases List.mem_cons.mp h with e | e
    · rw [e]; exact Nat.le_max_left _ _
    · exact Nat.le_trans (mxl_ge e) (Nat.le_max_right _ _)
def nth (t : Nat) (l : List Vd) : Vd := l.getD (t % l.length) (.num 0)
theorem nth_mem {t : Nat} {l : List Vd} (h : l ≠ []) : nth t l ∈ l := by
  have hp : 0 < l.length := List.length_pos_iff.mpr h
  have hl : t % l.length < l.length := Nat.mod_lt _ hp
  unfold nth
  rw [List.getD_eq_getElem?_getD, List.getElem?_eq_getElem hl]
  exact List.getElem_mem _
theorem ful_rcd (fs : List (PySem.Str × Kd)) : (Kd.rcd fs).ful = (List.range (mxl (fulF fs))).map fun t => .rcd ((fulF fs).map (nth t)) := by
  simp only [Kd.ful]
  rfl
mutual
theorem Kd.ful_ok : ∀ (kd : Kd), kd.Ok → kd.Two → kd.ful ≠ [] ∧ ∀ v ∈ kd.ful, kd.Val v
  | .num w m, _, _ => by
    simp only [Kd.ful]
    refine ⟨by simp, fun v hv => ?_⟩
    rw [List.mem_singleton.mp hv]
    have hp : (0 : Int) < 256 ^ w.toNat := Int.pow_pos (by decide)
    simp only [Kd.Val]
    omega
  | .row k n, h, ht => by
    simp only [Kd.Two] at ht
    obtain ⟨a, b⟩ := Kd.ful_ok k h.1 ht
    simp only [Kd.ful]
    refine ⟨fun z => a (List.map_eq_nil_iff.mp z), fun v hv => ?_⟩
    obtain ⟨u, hu, rfl⟩ := List.mem_map.mp hv
    simp only [Kd.Val]
    refine ⟨by rw [List.length_replicate]; have := h.2.1; omega, fun x hx => ?_⟩
    rw [List.eq_of_mem_replicate hx]
    exact b u hu
  | .rcd fs, h, ht => by
    simp only [Kd.Two] at ht
    obtain ⟨a, b⟩ := fulF_ok fs h.1 ht.2
    rw [ful_rcd]
    refine ⟨fun z => ?_, fun v hv => ?_⟩
    · have z' := List.range_eq_nil.mp (List.map_eq_nil_iff.mp z)
      cases fs with
      | nil => exact ht.1 rfl
      | cons f r =>
        have h1 := mxl_ge (ls := fulF (f :: r)) (l := f.2.ful) (by simp only [fulF]; exact List.mem_cons_self)
        have h2 := List.length_pos_iff.mpr (a f.2.ful (by simp only [fulF]; exact List.mem_cons_self))
        omega
    · obtain ⟨t, _, rfl⟩ := List.mem_map.mp hv
      simp only [Kd.Val]
      exact b t
  | .cho ks, h, ht => by
    simp only [Kd.Two] at ht
    obtain ⟨a, b⟩ := fulK_ok ks 0 h.1 ht.2
    simp only [Kd.ful]
    refine ⟨fun z => ?_, fun v hv => ?_⟩
    · have := a (by intro z; rw [z] at ht; exact absurd ht.1 (by decide))
      exact this z
    · obtain ⟨j, u, rfl, hj⟩ := b v hv
      simp only [Kd.Val]
      rw [Nat.zero_add]
      exact hj
theorem fulF_ok : ∀ (fs : List (PySem.Str × Kd)), okF fs → twoF fs → (∀ l ∈ fulF fs, l ≠ []) ∧ ∀ t, valF fs ((fulF fs).map (nth t))
  | [], _, _ => ⟨fun l hl => by simp [fulF] at hl, fun t => by simp [fulF, valF]⟩
  | f :: r, h, ht => by
    simp only [twoF] at ht
    obtain ⟨a, b⟩ := Kd.ful_ok f.2 h.1 ht.1
    obtain ⟨c, d⟩ := fulF_ok r h.2 ht.2
    refine ⟨fun l hl => ?_, fun t => ?_⟩
    · simp only [fulF] at hl
      rcases List.mem_cons.mp hl with e | e
      · rw [e]; exact a
      · exact c l e
    · simp only [fulF, List.map_cons, valF]
      exact ⟨b _ (nth_mem a), d t⟩
theorem fulK_ok : ∀ (ks : List Kd) (j : Nat), okK ks → twoK ks → (ks ≠ [] → fulK j ks ≠ []) ∧ ∀ v ∈ fulK j ks, ∃ q u, v = .cho (j + q) u ∧ valK ks q u
  | [], j, _, _ => ⟨fun z => absurd rfl z, fun v hv => by simp [fulK] at hv⟩
  | k :: r, j, h, ht => by
    simp only [twoK] at ht
    obtain ⟨a, b⟩ := Kd.ful_ok k h.1 ht.1
    obtain ⟨c, d⟩ := fulK_ok r (j + 1) h.2 ht.2
    refine ⟨fun _ z => ?_, fun v hv => ?_⟩
    · simp only [fulK] at z
      exact a (List.map_eq_nil_iff.mp (List.append_eq_nil_iff.mp z).1)
    · simp only [fulK] at hv
      rcases List.mem_append.mp hv with e | e
      · obtain ⟨u, hu, rfl⟩ := List.mem_map.mp e
        exact ⟨0, u, rfl, by simp only [valK]; exact b u hu⟩
      · obtain ⟨q, u, rfl, hq⟩ := d v e
        exact ⟨q + 1, u, by rw [Nat.add_assoc, Nat.add_comm 1 q], by simp only [valK]; exact hq⟩
end
end Lf

set_option linter.all false
namespace Lf
theorem bytF_keep : ∀ (fs : List (PySem.Str × Kd)) (ps : List Int) (vs : List Vd) (l : List Int) (i : Nat), (∀ p ∈ ps, i < p.toNat) → (bytF ps fs vs l).getD i 0 = l.getD i 0
  | [], ps, vs, l, i, _ => by simp only [bytF]
  | f :: r, [], vs, l, i, _ => by simp only [bytF]
  | f :: r, p :: ps, [], l, i, _ => by simp only [bytF]
  | f :: r, p :: ps, v :: vs, l, i, h => by
    simp only [bytF]
    rw [bytF_keep r ps vs _ i fun q hq => h q (List.mem_cons_of_mem _ hq)]
    have hp := h p List.mem_cons_self
    by_cases c : i < l.length
    · rw [lay_get c, if_neg (by omega)]
    · rw [List.getD_eq_getElem?_getD, List.getD_eq_getElem?_getD, List.getElem?_eq_none (by rw [lay_len]; omega), List.getElem?_eq_none (by omega)]
theorem fulK_mem : ∀ {ks : List Kd} {j q : Nat} {k : Kd} {v : Vd}, ks[q]? = some k → v ∈ k.ful → Vd.cho (j + q) v ∈ fulK j ks
  | [], _, _, _, _, h, _ => by simp at h
  | a :: r, j, 0, k, v, h, hv => by
    have e : a = k := by simpa using h
    subst e
    simp only [fulK]
    exact List.mem_append.mpr (.inl (List.mem_map.mpr ⟨v, hv, rfl⟩))
  | a :: r, j, q + 1, k, v, h, hv => by
    simp only [fulK]
    have e : j + (q + 1) = j + 1 + q := by omega
    rw [e]
    exact List.mem_append.mpr (.inr (fulK_mem (by simpa using h) hv))
theorem bytK_at : ∀ {ks : List Kd} {q : Nat} {k : Kd} (v : Vd), ks[q]? = some k → bytK ks q v = k.byt v
  | [], _, _, _, h => by simp at h
  | a :: r, 0, k, v, h => by
    have e : a = k := by simpa using h
    subst e
    simp only [bytK]
  | a :: r, q + 1, k, v, h => by
    simp only [bytK]
    exact bytK_at v (by simpa using h)
theorem okK_at' : ∀ {ks : List Kd} {q : Nat} {k : Kd}, okK ks → ks[q]? = some k → k.Ok
  | [], _, _, _, h => by simp at h
  | a :: r, 0, k, o, h => by
    have e : a = k := by simpa using h
    subst e
    exact o.1
  | a :: r, q + 1, k, o, h => okK_at' o.2 (by simpa using h)
theorem twoK_at : ∀ {ks : List Kd} {q : Nat} {k : Kd}, twoK ks → ks[q]? = some k → k.Two
  | [], _, _, _, h => by simp at h
  | a :: r, 0, k, o, h => by
    have e : a = k := by simpa using h
    subst e
    simp only [twoK] at o
    exact o.1
  | a :: r, q + 1, k, o, h => by
    simp only [twoK] at o
    exact twoK_at o.2 (by simpa using h)
mutual
theorem Kd.ful_nz : ∀ (kd : Kd) (i : Nat), kd.Ok → kd.Two → kd.bz i = true → ∃ v ∈ kd.ful, (kd.byt v).getD i 0 ≠ 0
  | .num w m, i, h, _, hb => by
    have hi : i < w.toNat := Kd.bz_lt h hb
    refine ⟨.num (256 ^ w.toNat - 1), by simp only [Kd.ful]; exact List.mem_singleton.mpr rfl, ?_⟩
    simp only [Kd.byt]
    rw [numB_full _ _ hi]
    decide
  | .row k n, i, h, ht, hb => by
    simp only [Kd.Two] at ht
    have hi := Kd.bz_lt h hb
    obtain ⟨j, j1, j2, j3⟩ := (bz_row h.1 i).mp hb
    obtain ⟨u, hu, hz⟩ := Kd.ful_nz k _ h.1 ht j3
    have hv := (Kd.ful_ok k h.1 ht).2 u hu
    have hlen := Kd.byt_len hv
    have hlt := getD_lt hz
    obtain ⟨a, b, c, d⟩ := k.bd h.1
    obtain ⟨u1, u2⟩ := up_bounds (n := k.rm.1) (m := k.rm.2) (by omega)
    refine ⟨.row (List.replicate n.toNat u), by simp only [Kd.ful]; exact List.mem_map.mpr ⟨u, hu, rfl⟩, ?_⟩
    simp only [Kd.byt]
    rw [layRow_get k.byt (up k.rm.1 k.rm.2).toNat (List.replicate n.toNat u) 0 _ i j u (fun x hx => by rw [List.eq_of_mem_replicate hx, hlen]; omega) (by rw [List.getElem?_replicate, if_pos j1]) (by rw [Nat.zero_add]; exact j2) (by rw [Nat.zero_add]; omega) (by rw [List.length_replicate]; exact hi), Nat.zero_add]
    exact hz
  | .rcd fs, i, h, ht, hb => by
    simp only [Kd.Two] at ht
    have hi := Kd.bz_lt h hb
    have hi : i < (rcdRm (rmF fs)).1.toNat := hi
    unfold Kd.bz at hb
    have hb : (filF (plcs 0 (rmF fs)) fs (List.replicate (rcdRm (rmF fs)).1.toNat false))[i]?.getD false = true := hb
    rw [filF_get _ _ _ _ (by rw [List.length_replicate]; exact hi)] at hb
    have hr : (List.replicate (rcdRm (rmF fs)).1.toNat false)[i]?.getD false = false := by rw [List.getElem?_replicate, if_pos hi]; rfl
    rw [hr, Bool.false_or] at hb
    obtain ⟨t, ht2, hz⟩ := fulF_nz fs 0 i h.1 ht.2 (Int.le_refl _) hb
    refine ⟨.rcd ((fulF fs).map (nth t)), by rw [ful_rcd]; exact List.mem_map.mpr ⟨t, List.mem_range.mpr ht2, rfl⟩, ?_⟩
    simp only [Kd.byt]
    exact hz _ (by rw [List.length_replicate]; exact hi)
  | .cho ks, i, h, ht, hb => by
    simp only [Kd.Two] at ht
    have hi := Kd.bz_lt h hb
    have hi : i < (choRm (rmK ks)).1.toNat := hi
    unfold Kd.bz at hb
    have hb : (filK (up 1 (choRm (rmK ks)).2).toNat ks ((List.replicate (choRm (rmK ks)).1.toNat false).set 0 true))[i]?.getD false = true := hb
    rw [filK_get _ _ _ _ (by rw [List.length_set, List.length_replicate]; exact hi)] at hb
    have hm := mx_bd (bdK ks h.1)
    obtain ⟨v1, v2⟩ := up_bounds (n := 1) (m := (choRm (rmK ks)).2) (by show 0 < maxL 1 ((rmK ks).map (·.2)); omega)
    by_cases c : i = 0
    · subst c
      obtain ⟨k, ek⟩ : ∃ k, ks[1]? = some k := ⟨ks[1]'(by omega), List.getElem?_eq_getElem (by omega)⟩
      obtain ⟨f1, f2⟩ := Kd.ful_ok k (okK_at' h.1 ek) (twoK_at ht.2 ek)
      obtain ⟨v, hv⟩ := List.exists_mem_of_ne_nil _ f1
      refine ⟨.cho 1 v, by simp only [Kd.ful]; exact fulK_mem (j := 0) (q := 1) ek hv, ?_⟩
      simp only [Kd.byt]
      rw [lay_get (by rw [List.length_set, List.length_replicate]; exact hi), if_neg (by omega), List.getD_eq_getElem?_getD, List.getElem?_set_self (by rw [List.length_replicate]; exact hi)]
      decide
    · have hr : ((List.replicate (choRm (rmK ks)).1.toNat false).set 0 true)[i]?.getD false = false := by rw [List.getElem?_set_ne (fun e => c e.symm), List.getElem?_replicate, if_pos hi]; rfl
      rw [hr, Bool.false_or, bzK_any, Bool.and_eq_true, decide_eq_true_eq] at hb
      obtain ⟨q, k, v, ek, hv, hz⟩ := fulK_nz ks (i - (up 1 (choRm (rmK ks)).2).toNat) h.1 ht.2 hb.2
      have hlt := getD_lt hz
      refine ⟨.cho q v, by simp only [Kd.ful]; have := fulK_mem (j := 0) ek hv; rwa [Nat.zero_add] at this, ?_⟩
      simp only [Kd.byt]
      rw [bytK_at v ek, lay_get (by rw [List.length_set, List.length_replicate]; exact hi), if_pos ⟨hb.1, by omega⟩]
      exact hz
theorem fulF_nz : ∀ (fs : List (PySem.Str × Kd)) (e : Int) (i : Nat), okF fs → twoF fs → 0 ≤ e → bzF (plcs e (rmF fs)) fs i = true → ∃ t, t < mxl (fulF fs) ∧ ∀ l : List Int, i < l.length → (bytF (plcs e (rmF fs)) fs ((fulF fs).map (nth t)) l).getD i 0 ≠ 0
  | [], _, _, _, _, _, h => by simp [bzF] at h
  | f :: r, e, i, h, ht, he, hb => by
    simp only [twoF] at ht
    obtain ⟨a, b, c, d⟩ := f.2.bd h.1
    obtain ⟨u1, u2⟩ := up_bounds (n := e) (m := f.2.rm.2) (by omega)
    have hrest := rmsF h.2
    have hb : ((decide ((up e f.2.rm.2).toNat ≤ i) && f.2.bz (i - (up e f.2.rm.2).toNat)) || bzF (plcs (up e f.2.rm.2 + f.2.rm.1) (rmF r)) r i) = true := hb
    by_cases c1 : bzF (plcs (up e f.2.rm.2 + f.2.rm.1) (rmF r)) r i = true
    · obtain ⟨t, t1, t2⟩ := fulF_nz r _ i h.2 ht.2 (by omega) c1
      refine ⟨t, Nat.lt_of_lt_of_le t1 (by simp only [fulF]; exact Nat.le_max_right _ _), fun l hl => ?_⟩
      simp only [fulF, List.map_cons]
      show (bytF (up e f.2.rm.2 :: plcs (up e f.2.rm.2 + f.2.rm.1) (rmF r)) (f :: r) _ l).getD i 0 ≠ 0
      simp only [bytF]
      exact t2 _ (by rw [lay_len]; exact hl)
    · have c1' := Bool.eq_false_iff.mpr c1
      rw [c1', Bool.or_false, Bool.and_eq_true, decide_eq_true_eq] at hb
      obtain ⟨v, hv, hz⟩ := Kd.ful_nz f.2 _ h.1 ht.1 hb.2
      obtain ⟨t, et⟩ := List.getElem?_of_mem hv
      have htl := (List.getElem?_eq_some_iff.mp et).1
      have hbl := Kd.bz_lt h.1 hb.2
      have hnth : nth t f.2.ful = v := by
        unfold nth
        rw [Nat.mod_eq_of_lt htl, List.getD_eq_getElem?_getD, et]
        rfl
      have hlt := getD_lt hz
      refine ⟨t, Nat.lt_of_lt_of_le htl (by simp only [fulF]; exact Nat.le_max_left _ _), fun l hl => ?_⟩
      simp only [fulF, List.map_cons]
      show (bytF (up e f.2.rm.2 :: plcs (up e f.2.rm.2 + f.2.rm.1) (rmF r)) (f :: r) _ l).getD i 0 ≠ 0
      simp only [bytF]
      rw [hnth, bytF_keep r _ _ _ i (fun p hp => by have := plcs_ge hrest p hp; omega), lay_get hl, if_pos ⟨hb.1, by omega⟩]
      exact hz
theorem fulK_nz : ∀ (ks : List Kd) (i : Nat), okK ks → twoK ks → (ks.any fun k => k.bz i) = true → ∃ (q : Nat) (k : Kd) (v : Vd), ks[q]? = some k ∧ v ∈ k.ful ∧ (k.byt v).getD i 0 ≠ 0
  | [], _, _, _, h => by simp at h
  | a :: r, i, h, ht, hb => by
    simp only [twoK] at ht
    rw [List.any_cons, Bool.or_eq_true] at hb
    rcases hb with hb | hb
    · obtain ⟨v, hv, hz⟩ := Kd.ful_nz a i h.1 ht.1 hb
      exact ⟨0, a, v, rfl, hv, hz⟩
    · obtain ⟨q, k, v, ek, hv, hz⟩ := fulK_nz r i h.2 ht.2 hb
      exact ⟨q + 1, k, v, by simpa using ek, hv, hz⟩
end
end Lf

set_option linter.all false
namespace Lf
def dblC : List Kd → List Kd
  | [k] => [k, k]
  | l => l
mutual
def Kd.dbl : Kd → Kd
  | .num w m => .num w m
  | .row k n => .row k.dbl n
  | .rcd fs => .rcd (dblF fs)
  | .cho ks => .cho (dblC (dblK ks))
def dblF : List (PySem.Str × Kd) → List (PySem.Str × Kd)
  | [] => []
  | f :: r => (f.1, f.2.dbl) :: dblF r
def dblK : List Kd → List Kd
  | [] => []
  | k :: r => k.dbl :: dblK r
end
theorem dblK_len : ∀ ks : List Kd, (dblK ks).length = ks.length
  | [] => rfl
  | k :: r => by simp [dblK, dblK_len r]
theorem dblF_len : ∀ fs : List (PySem.Str × Kd), (dblF fs).length = fs.length
  | [] => rfl
  | k :: r => by simp [dblF, dblF_len r]
theorem dblF_names : ∀ fs : List (PySem.Str × Kd), (dblF fs).map (·.1) = fs.map (·.1)
  | [] => rfl
  | k :: r => by simp [dblF, dblF_names r]
theorem dblC_cho (l : List Kd) : choRm (rmK (dblC l)) = choRm (rmK l) := by
  match l with
  | [] => rfl
  | [k] =>
    show choRm [k.rm, k.rm] = choRm [k.rm]
    have e : ∀ d a : Int, maxL d [a, a] = maxL d [a] := fun d a => by show max a (max a d) = max a d; omega
    unfold choRm
    simp only [List.map_cons, List.map_nil, e]
  | _ :: _ :: _ => rfl
theorem dblC_deep (l : List Kd) : deepK (dblC l) = deepK l := by
  match l with
  | [] => rfl
  | [k] => show max k.deep (max k.deep 0) = max k.deep 0; omega
  | _ :: _ :: _ => rfl
mutual
theorem Kd.dbl_rm : ∀ kd : Kd, kd.dbl.rm = kd.rm
  | .num w m => by simp only [Kd.dbl]
  | .row k n => by
    simp only [Kd.dbl]
    show (n * up k.dbl.rm.1 k.dbl.rm.2, k.dbl.rm.2) = _
    rw [Kd.dbl_rm k]
    rfl
  | .rcd fs => by
    simp only [Kd.dbl]
    show rcdRm (rmF (dblF fs)) = _
    rw [dblF_rm fs]
    rfl
  | .cho ks => by
    simp only [Kd.dbl]
    show choRm (rmK (dblC (dblK ks))) = _
    rw [dblC_cho, dblK_rm ks]
    rfl
theorem dblF_rm : ∀ fs : List (PySem.Str × Kd), rmF (dblF fs) = rmF fs
  | [] => rfl
  | f :: r => by
    show f.2.dbl.rm :: rmF (dblF r) = f.2.rm :: rmF r
    rw [Kd.dbl_rm f.2, dblF_rm r]
theorem dblK_rm : ∀ ks : List Kd, rmK (dblK ks) = rmK ks
  | [] => rfl
  | k :: r => by
    show k.dbl.rm :: rmK (dblK r) = k.rm :: rmK r
    rw [Kd.dbl_rm k, dblK_rm r]
end
mutual
theorem Kd.dbl_deep : ∀ kd : Kd, kd.dbl.deep = kd.deep
  | .num w m => by simp only [Kd.dbl]
  | .row k n => by
    simp only [Kd.dbl]
    show k.dbl.deep + 1 = k.deep + 1
    rw [Kd.dbl_deep k]
  | .rcd fs => by
    simp only [Kd.dbl]
    show deepF (dblF fs) + 1 = deepF fs + 1
    rw [dblF_deep fs]
  | .cho ks => by
    simp only [Kd.dbl]
    show deepK (dblC (dblK ks)) + 1 = deepK ks + 1
    rw [dblC_deep, dblK_deep ks]
theorem dblF_deep : ∀ fs : List (PySem.Str × Kd), deepF (dblF fs) = deepF fs
  | [] => rfl
  | f :: r => by
    show max f.2.dbl.deep (deepF (dblF r)) = max f.2.deep (deepF r)
    rw [Kd.dbl_deep f.2, dblF_deep r]
theorem dblK_deep : ∀ ks : List Kd, deepK (dblK ks) = deepK ks
  | [] => rfl
  | k :: r => by
    show max k.dbl.deep (deepK (dblK r)) = max k.deep (deepK r)
    rw [Kd.dbl_deep k, dblK_deep r]
end
theorem dblF_at : ∀ {fs : List (PySem.Str × Kd)} {i : Nat} {f : PySem.Str × Kd}, fs[i]? = some f → (dblF fs)[i]? = some (f.1, f.2.dbl)
  | [], _, _, h => by simp at h
  | g :: r, 0, f, h => by simp at h; subst h; rfl
  | g :: r, i + 1, f, h => by simpa [dblF] using dblF_at (fs := r) (i := i) (by simpa using h)
theorem dblK_at : ∀ {ks : List Kd} {i : Nat} {k : Kd}, ks[i]? = some k → (dblK ks)[i]? = some k.dbl
  | [], _, _, h => by simp at h
  | g :: r, 0, f, h => by simp at h; subst h; rfl
  | g :: r, i + 1, f, h => by simpa [dblK] using dblK_at (ks := r) (i := i) (by simpa using h)
theorem fulK_len (M : Nat) : ∀ (ks : List Kd) (j : Nat), (∀ k ∈ ks, k.ful.length ≤ M) → (fulK j ks).length ≤ ks.length * M
  | [], _, _ => by simp [fulK]
  | k :: r, j, h => by
    simp only [fulK, List.length_append, List.length_map, List.length_cons]
    have a := h k List.mem_cons_self
    have b := fulK_len M r (j + 1) fun x hx => h x (List.mem_cons_of_mem _ hx)
    rw [Nat.add_mul]
    omega
theorem mxl_le {M : Nat} : ∀ {ls : List (List Vd)}, (∀ l ∈ ls, l.length ≤ M) → mxl ls ≤ M
  | [], _ => Nat.zero_le _
  | l :: r, h => by
    show max l.length (mxl r) ≤ M
    have a := h l List.mem_cons_self
    have b := mxl_le (ls := r) fun x hx => h x (List.mem_cons_of_mem _ hx)
    omega
theorem fulF_at : ∀ {fs : List (PySem.Str × Kd)} {i : Nat} {f : PySem.Str × Kd}, fs[i]? = some f → (fulF fs)[i]? = some f.2.ful
  | [], _, _, h => by simp at h
  | g :: r, 0, f, h => by simp at h; subst h; rfl
  | g :: r, i + 1, f, h => by simpa [fulF] using fulF_at (fs := r) (i := i) (by simpa using h)
theorem fulF_len : ∀ fs : List (PySem.Str × Kd), (fulF fs).length = fs.length
  | [] => rfl
  | g :: r => by simp [fulF, fulF_len r]
theorem fulK_snoc : ∀ (ks : List Kd) (k : Kd) (j : Nat), fulK j (ks ++ [k]) = fulK j ks ++ k.ful.map (fun v => .cho (j + ks.length) v)
  | [], k, j => by simp [fulK]
  | g :: r, k, j => by
    show (g.ful.map fun v => Vd.cho j v) ++ fulK (j + 1) (r ++ [k]) = ((g.ful.map fun v => Vd.cho j v) ++ fulK (j + 1) r) ++ _
    rw [fulK_snoc r k (j + 1), List.append_assoc, List.length_cons, show j + 1 + r.length = j + (r.length + 1) by omega]
end Lf

set_option Elab.async false
set_option linter.all false
set_option maxRecDepth 100000
set_option maxHeartbeats 4000000
namespace L2
open PySem PySem.Spec PyProof.Rows
section
variable {X : Cx} {pins : List (Addr × Obj)} {σ : St} {H : Hp} {s : Shared} {a : Addr}
theorem Inv.other {u u' : HO} (I : Inv X pins σ H s) (e : H a = some u) (n1 : ∀ y, u ≠ .own y) (n2 : ∀ xs, u ≠ .tup xs) (n3 : ∀ ps, u ≠ .tbl ps) (n4 : ∀ o v, X.H₀ a ≠ some (.frz o v)) (hok : ObjOk X.prog X.w (upd H a u') s.heap a u') : Inv X pins σ (upd H a u') s := by
  have ne : ∀ {b : Addr}, H b = none → b ≠ a := fun h z => by rw [z, e] at h; cases h
  refine ⟨I.ok, I.os, I.bare, ⟨I.base.keep, I.base.slot, fun b o h1 h2 h3 => ?_, I.base.there, fun b xs h => ?_, fun b o v h => ?_, fun b ps h => ?_⟩, I.loc, I.cell, ?_, fun x c h => ?_, fun p hp => ?_, fun b v h => ?_, I.len⟩
  · have := I.base.free b o h1 h2 h3
    rw [upd_ne (ne this)]; exact this
  · have := I.base.tups b xs h
    rw [upd_ne (fun z => by rw [z, e] at this; exact n2 _ (Option.some.inj this))]; exact this
  · have := I.base.frzs b o v h
    rw [upd_ne (fun z => n4 o v (by rw [← z]; exact h))]; exact this
  · obtain ⟨m, q⟩ := I.base.tbls b ps h
    exact ⟨m, by rw [upd_ne (fun z => by rw [z, e] at q; exact n3 _ (Option.some.inj q))]; exact q⟩
  · rw [upd_ne (ne I.free)]; exact I.free
  · rw [upd_ne (ne (I.freeC x c h))]; exact I.freeC x c h
  · obtain ⟨p1, p2, p3⟩ := I.pin p hp
    exact ⟨p1, by rw [upd_ne (ne p2)]; exact p2, p3⟩
  · by_cases hb : b = a
    · subst hb
      rw [upd_same] at h
      cases h
      exact hok
    · rw [upd_ne hb] at h
      refine (I.hok b v h).stay (fun _ _ _ q => q) (fun c q => ?_) fun c xs q => ?_
      · rw [upd_ne (fun z => by rw [z, e] at q; exact n1 _ (Option.some.inj q))]; exact q
      · rw [upd_ne (fun z => by rw [z, e] at q; exact n2 _ (Option.some.inj q))]; exact q
theorem dk_upd {P : Program} {w : World} {H H' : Hp} {h : Heap} {a : Addr} {kvs : List (Key × V)} (x : ObjOk P w H h a (.dK kvs)) : ObjOk P w H' h a (.dK kvs) := x
theorem Inv.freeze {kvs : List (Key × V)} (I : Inv X pins σ H s) (e : H a = some (.dK kvs)) : ∃ o, Inv X pins σ (upd H a (.frz o (.dK kvs))) s := by
  have x := I.hok a _ e
  obtain ⟨_, _, vs, r, o, es, ep, h1, h2⟩ := id x
  refine ⟨o, I.other e (fun _ z => by cases z) (fun _ z => by cases z) (fun _ z => by cases z) (fun o v z => ?_) ⟨h1, dk_upd x⟩⟩
  have := I.base.frzs a o v z
  rw [e] at this; cases this
theorem Inv.thaw {o : Obj} {kvs : List (Key × V)} (I : Inv X pins σ H s) (e : H a = some (.frz o (.dK kvs))) (n : ∀ o v, X.H₀ a ≠ some (.frz o v)) : Inv X pins σ (upd H a (.dK kvs)) s :=
  I.other e (fun _ z => by cases z) (fun _ z => by cases z) (fun _ z => by cases z) n (dk_upd (I.hok a _ e).2)
end
def tFrz (H0 : Hp) (t : TE) : TE := fun σ H Q => ∃ a kvs, H a = some (.dK kvs) ∧ (∀ o v, H0 a ≠ some (.frz o v)) ∧ ∀ o, t σ (upd H a (.frz o (.dK kvs))) fun v H' => H' a = some (.frz o (.dK kvs)) ∧ Q v (upd H' a (.dK kvs))
theorem pe_frz {X : Cx} {e : Expr} {t : TE} (h : PE X e t) : PE X e (tFrz X.H₀ t) := by
  intro pins s σ H Q I ⟨a, kvs, ha, hn, q⟩
  obtain ⟨o, I1⟩ := I.freeze ha
  refine thn (h pins s σ _ _ I1 (q o)) fun u s1 ⟨v, H1, I2, r, e1, q1⟩ => ⟨v, _, I2.thaw e1 hn, r, q1⟩
def sFrz (H0 : Hp) (t : TS) : TS := fun D σ H => ∃ a kvs, H a = some (.dK kvs) ∧ (∀ o v, H0 a ≠ some (.frz o v)) ∧ ∀ o,
  t ⟨fun σ' H' => H' a = some (.frz o (.dK kvs)) ∧ D.nx σ' (upd H' a (.dK kvs)), fun v H' => H' a = some (.frz o (.dK kvs)) ∧ D.rt v (upd H' a (.dK kvs)), fun σ' H' => H' a = some (.frz o (.dK kvs)) ∧ D.bk σ' (upd H' a (.dK kvs)), fun σ' H' => H' a = some (.frz o (.dK kvs)) ∧ D.ct σ' (upd H' a (.dK kvs))⟩ σ (upd H a (.frz o (.dK kvs)))
def Itd (a : Addr) (o : Obj) (kvs : List (Key × V)) : It :=
  ⟨fun i H => H a = some (.frz o (.dK kvs)) ∧ i < kvs.length, fun i H x H' => H' = H ∧ ∃ kv, kvs[i]? = some kv ∧ x = kV kv.1, fun i H => H a = some (.frz o (.dK kvs)) ∧ kvs.length ≤ i⟩
theorem is_kV {P : Program} {w : World} {k : Key} {u : Value} (h : (mixKind P w).is k u = true) : RelV (kV k) u := by
  cases k with
  | inl i => exact Value.isInt_shape (k := i) h
  | inr x => exact Value.isStrOf_shape (x := x) h
theorem KV.at' {kvs : List (Key × V)} {vs : List (Key × Value)} (r : KV kvs vs) : ∀ {i : Nat} {kv : Key × V}, kvs[i]? = some kv → ∃ u, vs[i]? = some (kv.1, u) := by
  induction r with
  | nil => intro i kv h; simp at h
  | @cons p q ps qs hq t ih =>
    intro i kv h
    cases i with
    | zero => simp at h; subst h; exact ⟨q.2, by simp [hq.1]⟩
    | succ i => obtain ⟨u, e⟩ := ih (i := i) (by simpa using h); exact ⟨u, by simpa using e⟩
theorem frz_dict {X : Cx} {pins : List (Addr × Obj)} {σ : St} {H : Hp} {s : Shared} {a : Addr} {o : Obj} {kvs : List (Key × V)} {es : Array DictEntry} {ep : Nat} (I : Inv X pins σ H s) (e : H a = some (.frz o (.dK kvs))) (hd : o.data = .dict es ep) :
    (a == sysModules) = false ∧ ∃ vs, KV kvs vs ∧ s.heap.DictAt (mixKind X.prog X.w) a vs ep := by
  obtain ⟨h0, _, y, vs, r, o', es', ep', h1, h2, h3, h4⟩ := (show ObjOk X.prog X.w H s.heap a (.frz o (.dK kvs)) from I.hok a _ e)
  rw [h0] at h1
  cases h1
  rw [hd] at h3
  cases h3
  exact ⟨y, vs, r, o, es, h0, h2, hd, h4⟩
theorem turn_keys {P : Program} {w : World} {K : PySem.W.Frag} {tg : Expr} (a it : Addr) (hne : a ≠ it) (o : Obj) (kvs : List (Key × V)) (es : Array DictEntry) (ep : Nat) (hd : o.data = .dict es ep) : Turn P w K tg (Itd a o kvs) [it] it (fun i h => h.IsKeyIter it a i kvs.length ep) where
  mem := by simp
  obj := fun i h st b hb => by
    have e : b = it := by simpa using hb
    subst e
    obtain ⟨o, e, c, d⟩ := st
    exact ⟨o, e, fun v z => by rw [d] at z; cases z⟩
  keep := fun i h h' st k => st.at fun o e => k it (by simp) o e
  item := by
    intro X hP hw hK hc i pins s σ H E I hf st hg
    subst hP hw hK
    obtain ⟨ha, hi⟩ := hg
    obtain ⟨y, vs, r, dd⟩ := frz_dict I ha hd
    obtain ⟨f0, f1, f2, f3, f4, f5⟩ := hf it (by simp)
    have hl : kvs.length = vs.length := r.length
    obtain ⟨u, hu⟩ := r.at' (List.getElem?_eq_getElem hi)
    rw [hl] at st
    refine wpAny_pyNext_dict_item st dd hu fun key h' hk st' sb => ?_
    have I1 : Inv X pins σ H { s with heap := h' } := I.turned (t' := s.toks) (fun b o hb e => (sb.2 b hb).trans e) f0 f1 f3 f4 f5
    rw [← hl] at st'
    obtain ⟨o', e, c, d⟩ := id st'
    exact ⟨key, rfl, go_of (s := { s with heap := h' }) e c d (by decide) ⟨kV kvs[i].1, H, I1, is_kV hk, ⟨rfl, _, List.getElem?_eq_getElem hi, rfl⟩, st', fun b hb => (hf b hb).1⟩⟩
  done := by
    intro X hP hw hK hc i pins s σ H E I hf st hg
    subst hP hw hK
    obtain ⟨ha, hi⟩ := hg
    obtain ⟨y, vs, r, dd⟩ := frz_dict I ha hd
    obtain ⟨f0, f1, f2, f3, f4, f5⟩ := hf it (by simp)
    have hl : kvs.length = vs.length := r.length
    rw [hl] at st
    exact wpAny_pyNext_dict_end (I.ok.hd hc) st dd (by simp; omega) fun h' eb => ⟨rfl, I.turned (t' := s.toks) (fun b o hb e => eb b o hb e) f0 f1 f3 f4 f5⟩
  self := fun _ _ _ _ _ st h => wpAny_pyIter_keyiter st h
def iKeys (tl : TE) : TI := fun σ H R => tl σ H fun x H1 => ∃ a o kvs, x = .ref a ∧ H1 a = some (.frz o (.dK kvs)) ∧ R (Itd a o kvs) H1
theorem pi_keys {X : Cx} {tg l : Expr} {tl : TE} (hl : PE X l tl) : PI X tg l (iKeys tl) := by
  intro pins s σ H R I h
  refine thn (hl pins s σ H _ I h) fun v s1 ⟨x, H1, I1, r1, q1⟩ => ?_
  obtain ⟨a, o, kvs, e, ha, q⟩ := q1
  subst e
  cases r1
  obtain ⟨h0, _, y, vs, r, o', es, ep, h1, h2, h3, h4⟩ := (show ObjOk X.prog X.w H1 s1.heap a (.frz o (.dK kvs)) from I1.hok a _ ha)
  rw [h0] at h1
  cases h1
  have hl : kvs.length = vs.length := r.length
  refine wpAny_pyIter_dict y (⟨o, es, h0, h2, h3, h4⟩ : s1.heap.DictAt (mixKind X.prog X.w) a vs ep) ?_
  refine ⟨s1.heap.objs.size, [s1.heap.objs.size], _, _, H1, rfl, I1.kept (t' := s1.toks) fun b o e => Heap.get?_push_of_some _ e, turn_keys a _ (Nat.ne_of_lt (Heap.lt_size h0)) o kvs es ep h3, ⟨_, Heap.get?_push_size _ rfl, rfl, by rw [hl]; rfl⟩, fun b hb => ?_, q⟩
  have e : b = s1.heap.objs.size := by simpa using hb
  subst e
  exact I1.fpOk (Nat.le_refl _) (I1.hok.fresh (Nat.le_refl _))
theorem comp_keys {a : Addr} {o : Obj} {kvs : List (Key × V)} {g : TG} {tc : TT} {te : TE} {σ' : St} {H1 : Hp} {Fin : List V → Hp → Prop} (Pv : Nat → List V → Hp → Prop) (hz : kvs.length ≤ 1000000) (h0 : Pv 0 [] H1) (hk : ∀ i acc H, i ≤ kvs.length → Pv i acc H → H a = some (.frz o (.dK kvs)) ∧ acc.length ≤ i)
    (hs : ∀ i kv acc H, kvs[i]? = some kv → Pv i acc H → g (kV kv.1) σ' H fun σ2 H2 => tc σ2 H2 fun b H3 => if b = true then te σ2 H3 fun y H4 => Pv (i + 1) (acc ++ [y]) H4 else Pv (i + 1) acc H3) (hd : ∀ acc H, Pv kvs.length acc H → Fin acc H) :
    ∃ W : Nat → Nat → List V → Hp → Prop, (∃ m, W 0 m [] H1) ∧ ∀ i m acc H, W i m acc H → ((Itd a o kvs).stop i H ∧ acc.length ≤ sizeLine ∧ Fin acc H) ∨
      ((Itd a o kvs).go i H ∧ acc.length < sizeLine ∧ ∃ N : List V → Hp → Prop, (∀ acc' H', N acc' H' → ∃ m', m' < m ∧ W (i + 1) m' acc' H') ∧ ∀ v H', (Itd a o kvs).yld i H v H' → g v σ' H' fun σ2 H2 => tc σ2 H2 fun b H3 => if b = true then te σ2 H3 fun y H4 => N (acc ++ [y]) H4 else N acc H3) := by
  have zl : (1000000 : Nat) < sizeLine := by rw [sizeLine_eq]; decide
  refine ⟨fun i m acc H => m = kvs.length - i ∧ i ≤ kvs.length ∧ Pv i acc H, ⟨kvs.length, by simp, Nat.zero_le _, h0⟩, ?_⟩
  rintro i m acc H ⟨rfl, hi, p⟩
  obtain ⟨q, al⟩ := hk i acc H hi p
  by_cases hlt : i < kvs.length
  · refine .inr ⟨⟨q, hlt⟩, by omega, fun acc' H' => Pv (i + 1) acc' H', fun acc' H' p' => ⟨kvs.length - (i + 1), by omega, rfl, hlt, p'⟩, fun x H' y => ?_⟩
    obtain ⟨e, kv, y1, y2⟩ := y
    subst e y2
    exact hs i kv acc _ y1 p
  · have e : i = kvs.length := by omega
    subst e
    exact .inl ⟨⟨q, Nat.le_refl _⟩, by omega, hd acc H p⟩
section
variable {X : Cx}
theorem call_lenDk : CallR X (.builtin "len") (fun xs H Q => ∃ a kvs, xs = [V.ref a] ∧ H a = some (.dK kvs) ∧ Q (.int kvs.length) H) := by
  intro pins s σ H xs us Q I r h
  obtain ⟨a, kvs, rfl, ha, q⟩ := h
  obtain ⟨u, rfl, ru⟩ := vals1 r
  cases ru
  exact d_len I (.inl ha) fun t s' I' => ⟨.int kvs.length, H, I', ⟨t, rfl⟩, q⟩
theorem int_bit_length_int (a : Int) (t : Tok) {prog : Program} {w : World} {A : Around} {E : Value → Shared → Prop} {s : Shared} {Q : Value → Shared → Prop} (h : ∀ t', Q (.int (Builtin.Int.intBits a) t') { s with toks := s.toks + 1 }) :
    wpAny (model prog w) A (call (.builtin "int.bit_length") [.int a t]) Q E s := by
  refine wpAny_call_entry F.slot_int_bit_length (typeIs_int s a t) F.entry_int_bit_length ?_ (F.args_int_bit_length_1 _)
  unfold Builtin.«int.bit_length»
  obtain ⟨hp, g, d, tk, os⟩ := s
  wp_walk
  exact ⟨_, rfl, h _⟩
def rBits : V → List V → Hp → VK → Prop := fun x vs H Q => ∃ i : Int, x = .int i ∧ vs = [] ∧ Q (.int (Builtin.Int.intBits i)) H
theorem mt_bit_length : MtR X "int.bit_length" rBits := by
  intro pins s σ H x vs v us Q I rx rv h
  obtain ⟨i, rfl, rfl, q⟩ := h
  obtain ⟨t, rfl⟩ := rx
  cases rv
  exact int_bit_length_int i t fun t' => ⟨.int _, H, I.tok _, ⟨_, rfl⟩, q⟩
end
end L2

set_option Elab.async false
set_option linter.all false
set_option maxRecDepth 100000
set_option maxHeartbeats 4000000
namespace L2
open PySem PySem.Spec PyProof.Rows
theorem list_no_keys : typeLookup (.type "list") "keys" = pure none := by rw [typeLookup_type, builtinLookup_eq_fast]; kernel_rfl
theorem entry_dict_update_loop : entryFor table "dict.update.loop" = some Builtin.«dict.update.loop» := entryFor_of_tree (by kernel_rfl)
theorem plain_dict_update_loop : plainId "dict.update.loop" = true := by decide +kernel
section
variable {prog : Program} {w : World} {A : Around} {E : Value → Shared → Prop} {s : Shared}
theorem list_keys_none {a : Addr} {xs : Array Value} {k : Nat} {Q : Option Value → Shared → Prop} (hx : s.heap.get? a = some { cls := .type "list", data := .seq xs k }) (hA : A.handled = none)
    (h : ∀ h' tk, (∀ b o, s.heap.get? b = some o → h'.get? b = some o) → Q none { s with heap := h', toks := tk }) : wpAny (model prog w) A (getAttr? (.ref a) "keys") Q E s := by
  obtain ⟨hp, g, d, tk, os⟩ := s
  have hT : ∀ tk', (⟨hp, g, d, tk', os⟩ : Shared).TypeIs (.ref a) "list" := fun _ => ⟨_, hx, rfl⟩
  have f1 := sub_AttributeError
  have f3 := F.slot_list_getattribute.lookup
  have f4 := F.slot_list_getattribute.bind (.ref a)
  have f5 := am_list_getattr_none
  have hname : (["__module__", "__name__", "__qualname__", "__doc__", "__annotations__"] : List Str).contains "keys" = false := by decide
  have hsz : ("keys" : Str).length + 100 ≤ sizeLine := by size_fits
  unfold getAttr? getAttrBy? getAttrBy
  repeat (any_goals (first | assumption | exact hT _ | ((with_reducible show wpAny _ _ (call (Value.builtin "list.__getattribute__") _ _) _ _ _); refine call_meets F.slot_list_getattribute (hT _) am_entry_list_getattribute (F.args_list_getattribute_2 _ _) (meets_getattribute_miss_list a xs k #[] "keys" _ list_no_keys hname hsz) ⟨hx, hA, fun h' tk' e hx' => ?_⟩) | wp_step))
  obtain ⟨t', u', he⟩ := hx'.there
  show wpAny _ _ (getattributeRaised _ _ _ _ _ _ _) _ _ _
  unfold getattributeRaised
  repeat (any_goals (first | assumption | wp_step))
  exact h _ _ hx'.of.keeps
end
section
variable {prog : Program} {w : World} {A : Around} {R : Result → Shared → Prop}
def PairsAt (P : Program) (w : World) (h : Heap) (I d : Addr) (items : Array Value) (ps : List (Key × Value)) : Prop :=
  ∀ (j : Nat) (p : Key × Value), ps[j]? = some p → ∃ (T : Addr) (kv : Value) (n : Nat) (o : Obj), items[j]? = some (Value.ref T) ∧ T ≠ I ∧ T ≠ d ∧ (mixKind P w).is p.1 kv = true ∧ h.get? T = some o ∧ o.cls = .type "tuple" ∧ o.data = .seq #[kv, p.2] n
theorem PairsAt.keep {P : Program} {w : World} {h h' : Heap} {I d : Addr} {items : Array Value} {ps : List (Key × Value)} (x : PairsAt P w h I d items ps) (k : ∀ b o, b ≠ I → b ≠ d → h.get? b = some o → h'.get? b = some o) : PairsAt P w h' I d items ps := fun j p hp => by
  obtain ⟨T, kv, n, o, a1, a2, a3, a4, a5, a6⟩ := x j p hp
  exact ⟨T, kv, n, o, a1, a2, a3, a4, k T o a2 a3 a5, a6⟩
theorem dict_loop (hh : A.in1.handled = none) (l I d : Addr) (hId : I ≠ d) (hlI : l ≠ I) (hld : l ≠ d) (items : Array Value) (ps : List (Key × Value)) (hps : ps.length = items.size) (hsz : ps.length ≤ sizeLine) (res : Value) :
    ∀ (k i : Nat) (s : Shared), items.size - i = k → i ≤ items.size → s.heap.IsListIter I l i → s.heap.IsList l items → s.heap.DictOf (mixKind prog w) d (merged [] (ps.take i)) → PairsAt prog w s.heap I d items ps →
      (∀ h' tk, (∀ b o, b ≠ I → b ≠ d → s.heap.get? b = some o → h'.get? b = some o) → h'.DictOf (mixKind prog w) d (merged [] ps) → R (.ok (.ret res)) { s with heap := h', toks := tk }) →
      codeAny (model prog w) A (.builtin "dict.update.loop" ⟨[.ref d, .ref I, rawInt i, res], []⟩) R s := by
  intro k
  induction k with
  | zero =>
    intro i s hk hi hit hl hd hP hR
    have hin : i = items.size := by omega
    subst hin
    refine codeAny_builtin entry_dict_update_loop ?_
    rw [Around.under_plainId plain_dict_update_loop _]
    show wpAny _ A.in1 (pyNext (.ref I) >>= _) _ _ s
    refine wpAny_bind (wpAny_pyNext_list_end hh hit hl (by simp) fun h' eb => ?_)
    show wpAny _ A.in1 (Builtin.Dict.addKeywords d [] >>= fun _ => ret res) _ _ _
    refine wpAny_bind (wpAny_pure (wpAny_pure ?_))
    refine hR h' s.toks (fun b o hb _ e => eb b o hb e) ?_
    rw [← hps, List.take_length] at hd
    exact hd.extBut eb (Ne.symm hId)
  | succ k ih =>
    intro i s hk hi hit hl hd hP hR
    have hlt : i < items.size := by omega
    have hpi : i < ps.length := by omega
    have hp := List.getElem?_eq_getElem hpi
    generalize ps[i] = p at hp
    obtain ⟨T, kv, n, o, a1, a2, a3, a4, a5, a6, a7⟩ := hP i p hp
    refine codeAny_builtin entry_dict_update_loop ?_
    rw [Around.under_plainId plain_dict_update_loop _]
    show wpAny _ A.in1 (pyNext (.ref I) >>= _) _ _ s
    refine wpAny_bind (wpAny_pyNext_list_item hit hl a1 fun h' hit' sb => ?_)
    have a5' : h'.get? T = some o := (sb.2 T a2).trans a5
    refine wpAny_bind (wpAny_holding ?_)
    refine wpAny_bind (wpAny_tryCatch ?_)
    unfold Builtin.Dict.pairItems
    refine wpAny_bind (wpAny_typeOf (show Shared.TypeIs { s with heap := h' } (.ref T) "tuple" from ⟨o, a5', a6⟩) ?_)
    simp only [show (Value.type "tuple" == Value.type "list") = false by decide, show (Value.type "tuple" == Value.type "tuple") = true by decide, Bool.false_or, if_true]
    refine wpAny_bind (wpAny_seqItems a5' a7 (wpAny_pure ?_))
    show wpAny _ _ (holding [kv, p.2] (dictSet d kv p.2)) _ _ _
    refine wpAny_holding ?_
    have hd' : h'.DictOf (mixKind prog w) d (merged [] (ps.take i)) := hd.sameBut sb (Ne.symm hId)
    have hml : (merged [] (ps.take i)).length ≤ sizeLine := by
      have := merged_length_le ([] : List (Key × Value)) (ps.take i)
      rw [List.length_take] at this
      simp at this
      omega
    refine wpAny_dictSet_pairs (s := { s with heap := h' }) a4 hd' (fun h2 hd2 sb2 => ?_) hml
    have hk2 : ∀ b o, b ≠ I → b ≠ d → s.heap.get? b = some o → h2.get? b = some o := fun b o hb1 hb2 e => (sb2.2 b hb2).trans ((sb.2 b hb1).trans e)
    refine wpAny_pure ⟨plainId_quiet plain_dict_update_loop _, ?_⟩
    have e1 : rawInt ((i : Int) + 1) = rawInt ((i + 1 : Nat) : Int) := by simp
    rw [e1]
    refine ih (i + 1) _ (by omega) hlt ?_ ?_ ?_ (hP.keep hk2) fun h3 tk hk3 hd3 => hR h3 tk (fun b o b1 b2 e => hk3 b o b1 b2 (hk2 b o b1 b2 e)) hd3
    · exact hit'.at fun o e => (sb2.2 I hId).trans e
    · obtain ⟨ol, h1, h2, h3⟩ := hl
      exact ⟨ol, hk2 l ol hlI hld h1, h2, h3⟩
    · show h2.DictOf (mixKind prog w) d (merged [] (ps.take (i + 1)))
      rw [merged_take_succ [] ps i p hp]
      exact hd2
end
section
variable {prog : Program} {w : World} {A : Around} {E : Value → Shared → Prop} {s : Shared}
theorem call_dict_pairs {l : Addr} {xs : Array Value} {c : Nat} {ps : List (Key × Value)} {Q : Value → Shared → Prop} (hh : A.handled = none) (hl : s.heap.get? l = some { cls := .type "list", data := .seq xs c }) (hps : ps.length = xs.size) (hsz : ps.length ≤ sizeLine)
    (hP : ∀ (j : Nat) (p : Key × Value), ps[j]? = some p → ∃ (T : Addr) (kv : Value) (n : Nat) (o : Obj), xs[j]? = some (Value.ref T) ∧ (mixKind prog w).is p.1 kv = true ∧ s.heap.get? T = some o ∧ o.cls = .type "tuple" ∧ o.data = .seq #[kv, p.2] n)
    (h : ∀ h' tk, (∀ b o, s.heap.get? b = some o → h'.get? b = some o) → h'.DictOf (mixKind prog w) s.heap.objs.size (merged [] ps) → Q (.ref s.heap.objs.size) { s with heap := h', toks := tk }) :
    wpAny (model prog w) A (call (.type "dict") [.ref l]) Q E s := by
  have lt : ∀ {b : Addr} {o : Obj}, s.heap.get? b = some o → b < s.heap.objs.size := fun e => Heap.lt_size e
  refine callType_codes (Q₁ := fun obj s₁ => obj = .ref s.heap.objs.size ∧ s₁ = { s with heap := s.heap.push { cls := .type "dict", data := .dict #[] } }) F.kt_called_dict (F.kt_typeCall_dict_1 _) F.entry_dict_init (kt_code_dict_new _ ⟨rfl, rfl⟩) ?_
  rintro obj s₁ ⟨rfl, rfl⟩
  have hnew : (s.heap.push { cls := .type "dict", data := .dict #[] }).DictOf (mixKind prog w) s.heap.objs.size [] := Heap.DictOf.new s.heap
  have hl' : (s.heap.push { cls := .type "dict", data := .dict #[] }).get? l = some { cls := .type "list", data := .seq xs c } := Heap.get?_push_of_some _ hl
  refine ⟨hnew.typeIs, F.args_dict_init_2 _ _, ?_⟩
  unfold Builtin.«dict.__init__»
  refine wpAny_bind ?_
  unfold Builtin.Dict.selfAndRest
  refine wpAny_bind (wpAny_notOrdered_dict hnew.typeIs ?_)
  show wpAny _ _ (pure (s.heap.objs.size, [Value.ref l])) _ _ _
  refine wpAny_pure ?_
  show wpAny _ _ (Builtin.Dict.updateFrom "dict.__init__" s.heap.objs.size (.ref l) [] .none) _ _ _
  unfold Builtin.Dict.updateFrom
  refine wpAny_bind (wpAny_typeOf (show Shared.TypeIs { s with heap := s.heap.push { cls := .type "dict", data := .dict #[] } } (.ref l) "list" from ⟨_, hl', rfl⟩) ?_)
  rw [if_pos (by decide)]
  refine wpAny_bind (list_keys_none (s := { s with heap := s.heap.push { cls := .type "dict", data := .dict #[] } }) hl' hh fun h1 tk1 k1 => ?_)
  rw [if_pos (show (none : Option Value).isNone = true from rfl)]
  refine wpAny_bind (wpAny_rule ?_)
  have hl1 : h1.get? l = some { cls := .type "list", data := .seq xs c } := k1 _ _ hl'
  have hsz1 : s.heap.objs.size < h1.objs.size := Heap.lt_size (k1 _ _ (Heap.get?_push_size _ rfl))
  refine wpAny_bind (wpAny_pyIter_list (s := { s with heap := h1, toks := tk1 }) ⟨_, hl1, rfl, c, rfl⟩ ?_)
  have k2 : ∀ b o, h1.get? b = some o → (h1.push { cls := .type "list_iterator", data := .fields #[.ref l, .int 0 0] }).get? b = some o := fun b o e => Heap.get?_push_of_some _ e
  have hlS := lt hl
  refine wpAny_pure ⟨plainId_quiet plain_dict_update_loop _, dict_loop (A := A.in1) hh l h1.objs.size s.heap.objs.size (Nat.ne_of_gt hsz1) (Nat.ne_of_lt (Nat.lt_trans hlS hsz1)) (Nat.ne_of_lt hlS) xs ps hps hsz .none xs.size 0 _ (by omega) (Nat.zero_le _) ⟨_, Heap.get?_push_size _ rfl, rfl, rfl⟩ ⟨_, k2 _ _ hl1, rfl, c, rfl⟩ ?_ (fun j p hp => ?_) fun h3 tk3 k3 hd3 => ?_⟩
  · obtain ⟨o, es, ep, ho, r⟩ := hnew
    exact ⟨o, es, ep, k2 _ _ (k1 _ _ ho), r⟩
  · obtain ⟨T, kv, n, o, a1, a2, a3, a4⟩ := hP j p hp
    have hT := lt a3
    exact ⟨T, kv, n, o, a1, Nat.ne_of_lt (Nat.lt_trans hT hsz1), Nat.ne_of_lt hT, a2, k2 _ _ (k1 _ _ (Heap.get?_push_of_some _ a3)), a4⟩
  · exact ⟨rfl, h h3 tk3 (fun b o e => k3 b o (Nat.ne_of_lt (Nat.lt_trans (lt e) hsz1)) (Nat.ne_of_lt (lt e)) (k2 _ _ (k1 _ _ (Heap.get?_push_of_some _ e)))) hd3⟩
end
section
variable {X : Cx}
theorem pairs_vals {P : Program} {w : World} {H : Hp} {h : Heap} (ok : HOk P w H h) : ∀ {ys : List V} {its : List Value} {kvs : List (Key × V)}, Vals ys its → kvs.length = ys.length → (∀ (j : Nat) (kv : Key × V), kvs[j]? = some kv → ∃ T : Addr, ys[j]? = some (.ref T) ∧ H T = some (.tup [kV kv.1, kv.2])) →
    ∃ ps : List (Key × Value), KV kvs ps ∧ ∀ (j : Nat) (p : Key × Value), ps[j]? = some p → ∃ (T : Addr) (kv : Value) (n : Nat) (o : Obj), its[j]? = some (Value.ref T) ∧ (mixKind P w).is p.1 kv = true ∧ h.get? T = some o ∧ o.cls = .type "tuple" ∧ o.data = .seq #[kv, p.2] n
  | _, _, [], .nil, _, _ => ⟨[], .nil, fun j p h => by simp at h⟩
  | _, _, _ :: _, .nil, e, _ => by simp at e
  | _, _, [], .cons _ _, e, _ => by simp at e
  | _, _, kv :: kvs, .cons r t, e, hh => by
    obtain ⟨ps, k, q⟩ := pairs_vals ok t (kvs := kvs) (by simpa using e) fun j x hx => by
      obtain ⟨T, a, b⟩ := hh (j + 1) x (by simpa using hx)
      exact ⟨T, by simpa using a, b⟩
    obtain ⟨T, a, b⟩ := hh 0 kv (by simp)
    simp at a
    subst a
    cases r
    obtain ⟨_, its2, vv, o, ho, hc, n, hd⟩ := (show ObjOk P w H h T (.tup [kV kv.1, kv.2]) from ok T _ b)
    cases vv with
    | cons r1 vv =>
      cases vv with
      | cons r2 vv =>
        cases vv
        rename_i u1 u2
        refine ⟨(kv.1, u2) :: ps, .cons ⟨rfl, r2⟩ k, fun j p hp => ?_⟩
        cases j with
        | zero =>
          simp at hp
          subst hp
          exact ⟨T, u1, n, o, by simp, kV_is r1, ho, hc, hd⟩
        | succ j =>
          obtain ⟨T', kv', n', o', z⟩ := q j p (by simpa using hp)
          exact ⟨T', kv', n', o', by simpa using z.1, z.2⟩
theorem call_dictP (hc : X.calm = true) : CallR X (.type "dict") (fun xs H Q => ∃ (l : Addr) (ys : List V) (kvs : List (Key × V)), xs = [V.ref l] ∧ H l = some (.lst ys) ∧ kvs.length = ys.length ∧ (kvs.map (·.1)).Nodup ∧
    (∀ (j : Nat) (kv : Key × V), kvs[j]? = some kv → ∃ T : Addr, ys[j]? = some (.ref T) ∧ H T = some (.tup [kV kv.1, kv.2])) ∧ ∀ p, H p = none → Q (.ref p) (upd H p (.dK kvs))) := by
  intro pins s σ H xs us Q I r h
  obtain ⟨l, ys, kvs, rfl, hl, hlen, hnd, hT, q⟩ := h
  obtain ⟨u, rfl, ru⟩ := vals1 r
  cases ru
  obtain ⟨z, its, n, rv, e⟩ := (show ObjOk X.prog X.w H s.heap l (.lst ys) from I.hok l _ hl)
  obtain ⟨ps, k, hP⟩ := pairs_vals I.hok rv hlen hT
  have hkl : kvs.length = ps.length := k.length
  have hil : ys.length = its.length := rv.length
  have hnd' : (ps.map (·.1)).Nodup := by rw [← KV.keys k]; exact hnd
  refine call_dict_pairs (I.ok.hd hc) e (ps := ps) (by simp; omega) (by omega) (fun j p hp => by simpa using hP j p hp) fun h' tk hk hd => ?_
  rw [merged_nil_of_nodup ps hnd'] at hd
  exact ⟨.ref s.heap.objs.size, _, I.laid (a := s.heap.objs.size) (o := .dK kvs) (t' := tk) (fun b q hq => hk b q hq) (Nat.le_refl _) (dk_new (by omega) (beq_eq_false_iff_ne.mpr (Ne.symm (Nat.ne_of_lt I.big))) k hd), rfl, q _ (I.hok.fresh (Nat.le_refl _))⟩
end
end L2

set_option Elab.async false
set_option linter.all false
set_option maxRecDepth 100000
set_option maxHeartbeats 4000000
namespace L2
open PySem PySem.W PySem.Spec PyProof.Rows PySem.Calls
def allF (h : Heap) : Frag := (List.range h.objs.size).filterMap fun a => (h.get? a).map fun o => (a, o)
theorem lookup_mem {α β : Type} [BEq α] [LawfulBEq α] {a : α} {b : β} : ∀ {l : List (α × β)}, l.lookup a = some b → (a, b) ∈ l
  | [], h => by simp at h
  | (c, d) :: r, h => by
    by_cases e : a = c
    · subst e; simp at h; subst h; exact List.mem_cons_self
    · rw [List.lookup_cons, beq_eq_false_iff_ne.mpr e] at h
      exact List.mem_cons_of_mem _ (lookup_mem h)
theorem allF_in (h : Heap) : (allF h).In h := fun a o e => by
  obtain ⟨b, _, hb⟩ := List.mem_filterMap.mp (lookup_mem e)
  obtain ⟨o', h1, h2⟩ := Option.map_eq_some_iff.mp hb
  cases h2
  exact h1
def exHook {α : Type} (f : Frag → α) (v : α) : Hook where
  α := α
  obs := fun s => f (allF s.heap)
  val := fun _ => v
  says := fun _ h => ∃ K : Frag, K.In h ∧ f K = v
  of := fun _ s e => ⟨allF s.heap, allF_in _, e⟩
  keeps := fun _ _ _ e g => by
    obtain ⟨K, k, e⟩ := e
    exact ⟨K, fun a o q => g _ _ (k a o q), e⟩
theorem boot_size : ∀ w : World, ((boot_heap w.params).isNs mainGlobals && (Array.mk [] : Array GenState).size == 0, (boot_heap w.params).objs.size, (boot_heap w.params).nsMap mainGlobals "__annotations__") = (true, 11, some (.ref 6)) := fun w => by kernel_rfl
noncomputable def onceSeen (tr : (String → Option Builtin) → Program → World → Nat → Option Value → Nat → Shared → Thread → Option Shared) (tb : String → Option Builtin) (im : List Stmt → List Str) {β : Type} (os : List Str → Shared → β) (p : Program) (N : Nat) {α : Type} (Yf : Frag → α) (w : World) (o : OsState) : Option (Bool × β × α) :=
  (tr tb p w 11 (some (.ref 6)) N ⟨boot_heap w.params, Array.mk [], boot_drawn, boot_toks, o⟩ (topStub p)).map fun s₁ =>
    (staticsOk (im p.main.body) (boot_heap w.params) s₁.heap && namesBound p s₁.heap && gensDone s₁ && laidKept (boot_heap w.params) s₁.heap, os (im p.main.body) s₁, Yf (allF s₁.heap))
theorem left_once {p q : Program} {loose : List Str} {Xt : Shared → Bool} {α : Type} {Yf : Frag → α} {v : α} {N : Nat} {g0 : Bool} (hN : Nat.ble 600 N = true) (e : opening p = plainProg p.main.scope.names) (f : ∀ s, fenceModules? p s = some s)
    (all : ∀ w : World, onceSeen topRun treeTable importedModules (fun m s => openSeen q loose m Xt g0 s) p N Yf w = fun _ => some (true, openGood q loose, v)) :
    LeftO p q loose Xt (exHook Yf v).obs (exHook Yf v).val N g0 := fun w => by
  obtain ⟨⟨h, gs, d, k, os⟩, e1, e'⟩ := Option.map_eq_some_iff.mp (boot_open e hN f w)
  obtain ⟨rfl, rfl, rfl, rfl⟩ : h = boot_heap w.params ∧ gs = Array.mk [] ∧ d = boot_drawn ∧ k = boot_toks := by simpa using e'
  obtain ⟨z1, z2, z3⟩ : _ ∧ _ ∧ _ := by simpa only [Prod.mk.injEq] using boot_size w
  obtain ⟨s₁, r, r2⟩ := Option.map_eq_some_iff.mp (congrFun (all w) os)
  obtain ⟨l1, l2, l3⟩ : _ ∧ _ ∧ _ := by simpa only [Prod.mk.injEq] using r2
  have t : topFrom treeTable p w N ⟨boot_heap w.params, Array.mk [], boot_drawn, boot_toks, os⟩ = some s₁ := by
    unfold topFrom
    dsimp only
    rw [z1, z2, z3]
    show (topRun treeTable p w 11 (some (.ref 6)) N _ (topStub p)).bind _ = _
    rw [r]
    show (match staticsOk (importedModules p.main.body) (boot_heap w.params) s₁.heap && namesBound p s₁.heap && gensDone s₁ && laidKept (boot_heap w.params) s₁.heap with | true => _ | false => _) = _
    rw [l1]
  unfold openEnds
  rw [e1]
  show (topFrom treeTable p w N _).map _ = _
  rw [t]
  exact congrArg some (Prod.ext l2 l3)
theorem walk_ex {l : PySem.W.OpenLaw} {n k : Nat} {q : Program} {loose : List Str} {XP : (Str → Option Value) → Heap → Prop} {α : Type} {f : Frag → α} {v : α} {d : DefRec} {CX : CXT} {sp : PySem.W.Frag → Sp} {x : Str}
    (hn : l.most = some n) (hn2 : n ≤ sizeLine) (hdf : d.params.defaults = []) (hr : Room k callerA)
    (F : ∀ (w : World) (K : Frag) (mg : Str → Option Value) (fa : Addr) (h : Heap), f K = v → K.In h → h.Ns mainGlobals mg → mg d.name = some (.ref fa) →
      ∃ fd : FuncData, (∀ (s : Shared) (u : Value), BindsTo s fd ⟨[u], []⟩ [(x, u)]) ∧
        ∀ base : Heap, K.In base → base.Ns mainGlobals mg → FnOk l.prog w K mg base CX k fa fd [x] (sp K))
    (hsp : ∀ (K : PySem.W.Frag) (H : Hp) (a : Addr) (ns : List Int), ns.length ≤ n → Only H → SqL K H a (ns.map V.int) → sp K [.ref a] H (fun v _ => v = .bl true) fun _ _ _ => False)
    (hCX : ∀ (H : Hp) (s : Shared) (e : Value) (s' : Shared), CX [] H s (fun _ _ _ => False) e s' → False) :
    PySem.W.WalkO q loose XP (exHook f v).says l.row.toRowW d [] (fun f vs => PySem.call f vs) := by
  refine Att.attach_call hn hdf fun w s₀ s₁ mg mb fa o pm cd doc a vs ns G Y ho hd hcd hmg hobj hints hlen hg => ?_
  obtain ⟨K, KX, hK⟩ := Y
  obtain ⟨fd, hb, hF⟩ := F w K mg fa _ hK KX G.T.g hmg
  exact law_call KX G.T.g G.T.b G.T.builtins G.T.nolimit hg hobj hints (Nat.le_trans hlen hn2) hr hF hb (fun H hO hS => hsp K H a ns hlen hO hS) fun H e s' => hCX H s₁ e s'
def topOf (p : Program) (i : Nat) : Stmt := p.main.body.getD i (.Pass ⟨0, 0, 0, 0⟩)
def defName (s : Stmt) : Str := match s with
  | .FunctionDef n .. => n
  | .Assign [.Name n _] _ _ => n
  | _ => ⟨#[]⟩
abbrev FO := Option ((Str × Str × Arguments × FuncBody × Scope) × (Addr × List (Str × Addr) × Value × Addr) × Bool)
def obsDef (K : Frag) (n : Str) : FO := match nsIn K mainGlobals n with
  | some (some (.ref f)) => (match K.lookup f with
    | some ⟨_, _, .func fd, _⟩ => some ((fd.name, fd.qualname, fd.params, fd.body, fd.scope), (fd.globals, fd.closure, fd.defaults, fd.builtins), codeIn K fd.code n)
    | _ => none)
  | _ => none
def expDef (s : Stmt) : FO := some ((defName s, defName s, defArgs s, .stmts (defBody s), defScope s), (mainGlobals, [], .none, builtinsNs), true)
def obsNo (K : Frag) (n : Str) : Bool := match nsIn K mainGlobals n with
  | some none => true
  | _ => false
def obsVal (K : Frag) (n : Str) : Option V := match nsIn K mainGlobals n with
  | some (some v) => absV v
  | _ => none
def obsTup (K : Frag) (n : Str) : Option (List (Option V)) := match nsIn K mainGlobals n with
  | some (some (.ref a)) => (match K.lookup a with
    | some ⟨.type "tuple", _, .seq xs _, _⟩ => some (xs.toList.map absV)
    | _ => none)
  | _ => none
theorem obsDef_ex {K : Frag} {s : Stmt} (h : obsDef K (defName s) = expDef s) : ∃ f fd, nsIn K mainGlobals (defName s) = some (some (.ref f)) ∧ Fun K (defName s) (defName s) s f fd := by
  unfold obsDef at h
  cases e : nsIn K mainGlobals (defName s) with
  | none => rw [e] at h; cases h
  | some o =>
    cases o with
    | none => rw [e] at h; cases h
    | some v =>
      cases v with
      | ref f =>
        rw [e] at h
        dsimp only at h
        cases e2 : K.lookup f with
        | none => rw [e2] at h; cases h
        | some ob =>
          obtain ⟨oc, od, da, sl⟩ := ob
          rw [e2] at h
          cases da with
          | func fd =>
            obtain ⟨nm, qn, pa, bo, sc, gl, cl, df, kw, dc, pm, an, cd, ct, bl⟩ := fd
            simp only [expDef, Option.some.injEq, Prod.mk.injEq] at h
            obtain ⟨⟨rfl, rfl, rfl, rfl, rfl⟩, ⟨rfl, rfl, rfl, rfl⟩, h3⟩ := h
            refine ⟨f, _, rfl, ⟨oc, od, kw, dc, pm, an, cd, ct, sl, rfl, e2, h3⟩, ?_⟩
            unfold keepIn
            dsimp only
            rw [e2]
          | _ => cases h
      | _ => rw [e] at h; cases h
theorem obsNo_ex {K : Frag} {n : Str} (h : obsNo K n = true) : nsIn K mainGlobals n = some none := by
  unfold obsNo at h
  split at h
  · assumption
  · cases h
theorem absV_rel : ∀ {v : Value} {x : V}, absV v = some x → RelV x v
  | .none, x, h => by cases h; rfl
  | .bool b, x, h => by cases h; rfl
  | .int i t, x, h => by cases h; exact ⟨t, rfl⟩
  | .str i t, x, h => by cases h; exact ⟨t, rfl⟩
  | .bytes i t, x, h => by cases h; exact ⟨t, rfl⟩
  | .float i t, x, h => by cases h; exact ⟨t, rfl⟩
  | .ref a, x, h => by cases h; rfl
  | .type n, x, h => by cases h; rfl
  | .builtin _, x, h => by cases h
theorem obsVal_ex {K : Frag} {n : Str} {x : V} (h : obsVal K n = some x) : ∃ v, nsIn K mainGlobals n = some (some v) ∧ RelV x v := by
  unfold obsVal at h
  split at h
  · exact ⟨_, by assumption, absV_rel h⟩
  · cases h
section
variable {K : Frag} {x qual : Str} {st : Stmt} {f : Addr} {fd : FuncData} {p1 p2 p3 p4 p5 p6 : Str}
abbrev BA (x qual : Str) (st : Stmt) (us : List Value) (r : List (Str × Value)) : Prop := ∀ (kV doc pm : Value) (an : Option Addr) (cdv ct : Value), bindArgs (PySem.W.fnOf x qual (defArgs st) (defBody st) (defScope st) .none kV doc pm an cdv ct) ⟨us, []⟩ = pure r
theorem binds1 (F : Fun K x qual st f fd) (h : ∀ a, BA x qual st [a] [(p1, a)]) : Binds K fd [p1] [] := F.binds fun _ _ _ _ _ _ us hl => by
  match us, hl with
  | [a], _ => exact h a _ _ _ _ _ _
theorem binds2 (F : Fun K x qual st f fd) (h : ∀ a b, BA x qual st [a, b] [(p1, a), (p2, b)]) : Binds K fd [p1, p2] [] := F.binds fun _ _ _ _ _ _ us hl => by
  match us, hl with
  | [a, b], _ => exact h a b _ _ _ _ _ _
theorem binds3 (F : Fun K x qual st f fd) (h : ∀ a b c, BA x qual st [a, b, c] [(p1, a), (p2, b), (p3, c)]) : Binds K fd [p1, p2, p3] [] := F.binds fun _ _ _ _ _ _ us hl => by
  match us, hl with
  | [a, b, c], _ => exact h a b c _ _ _ _ _ _
end
def bltNs : List Str := [⟨#[105, 115, 105, 110, 115, 116, 97, 110, 99, 101]⟩, ⟨#[105, 110, 116]⟩, ⟨#[98, 111, 111, 108]⟩, ⟨#[108, 105, 115, 116]⟩, ⟨#[108, 101, 110]⟩, ⟨#[115, 116, 114]⟩, ⟨#[116, 117, 112, 108, 101]⟩, ⟨#[97, 108, 108]⟩, ⟨#[100, 105, 99, 116]⟩, ⟨#[109, 97, 120]⟩, ⟨#[109, 105, 110]⟩, ⟨#[114, 97, 110, 103, 101]⟩, ⟨#[122, 105, 112]⟩, ⟨#[101, 110, 117, 109, 101, 114, 97, 116, 101]⟩, ⟨#[115, 111, 114, 116, 101, 100]⟩, ⟨#[115, 117, 109]⟩, ⟨#[114, 101, 118, 101, 114, 115, 101, 100]⟩]
theorem no_of {K : Frag} (h : bltNs.map (obsNo K) = List.replicate 17 true) {n : Str} (i : Nat) (hi : i < 17) (e : bltNs[i]? = some n) : nsIn K mainGlobals n = some none := by
  refine obsNo_ex ?_
  have := congrArg (fun l => l[i]?) h
  simp only [List.getElem?_map, e, Option.map_some, List.getElem?_replicate, hi, if_true, Option.some.injEq] at this
  exact this
end L2

set_option maxHeartbeats 4000000
namespace Lf
open PySem L2
def top (i : Nat) : Stmt := PySem.Challenge.pw_laidfields_k09_whole_idle_bytes_are_noug.main.body.getD i (.Pass ⟨0, 0, 0, 0⟩)
abbrev s_is_whole : Stmt := top 1
abbrev s_rounded_up : Stmt := top 2
abbrev s_room_of : Stmt := top 3
abbrev s_rooms_of : Stmt := top 4
abbrev s_greatest_multiple : Stmt := top 5
abbrev s_step_of : Stmt := top 6
abbrev s_room_of_row : Stmt := top 7
abbrev s_room_of_record : Stmt := top 8
abbrev s_places_behind : Stmt := top 9
abbrev s_room_of_choice : Stmt := top 10
abbrev s_chosen_at : Stmt := top 11
abbrev s_places_in_order : Stmt := top 13
abbrev s_holes_of : Stmt := top 14
abbrev s_filled_bytes : Stmt := top 15
abbrev s_filled_step : Stmt := top 16
abbrev s_filled_record : Stmt := top 17
abbrev s_filled_choice : Stmt := top 18
abbrev s_fill : Stmt := top 19
abbrev s_is_value : Stmt := top 26
abbrev s_is_row_value : Stmt := top 27
abbrev s_is_record_value : Stmt := top 28
abbrev s_is_choice_value : Stmt := top 29
abbrev s_bytes_of : Stmt := top 30
abbrev s_laid_bytes : Stmt := top 31
abbrev s_number_bytes : Stmt := top 32
abbrev s_lay : Stmt := top 33
abbrev s_law_cell_at : Stmt := top 35
abbrev s_law_stir : Stmt := top 36
abbrev s_law_deck : Stmt := top 37
abbrev s_law_next : Stmt := top 38
abbrev s_law_names : Stmt := top 39
abbrev s_law_kind : Stmt := top 40
abbrev s_law_up : Stmt := top 41
abbrev s_law_room : Stmt := top 42
abbrev s_law_bounded : Stmt := top 43
abbrev s_law_twofold : Stmt := top 44
abbrev s_law_full : Stmt := top 45
abbrev s_law : Stmt := top 46
theorem sc_is_whole : FnScope ["thing"] ["thing"] (defScope s_is_whole) := ⟨rfl, rfl, rfl, by decide +kernel, rfl, by decide +kernel, by decide +kernel⟩
theorem sc_rounded_up : FnScope ["number", "m"] ["number", "m"] (defScope s_rounded_up) := ⟨rfl, rfl, rfl, by decide +kernel, rfl, by decide +kernel, by decide +kernel⟩
theorem sc_room_of : FnScope ["kind"] ["kind"] (defScope s_room_of) := ⟨rfl, rfl, rfl, by decide +kernel, rfl, by decide +kernel, by decide +kernel⟩
theorem sc_rooms_of : FnScope ["kinds"] ["kinds"] (defScope s_rooms_of) := ⟨rfl, rfl, rfl, by decide +kernel, rfl, by decide +kernel, by decide +kernel⟩
theorem sc_greatest_multiple : FnScope ["rooms"] ["rooms"] (defScope s_greatest_multiple) := ⟨rfl, rfl, rfl, by decide +kernel, rfl, by decide +kernel, by decide +kernel⟩
theorem sc_step_of : FnScope ["room"] ["room"] (defScope s_step_of) := ⟨rfl, rfl, rfl, by decide +kernel, rfl, by decide +kernel, by decide +kernel⟩
theorem sc_room_of_row : FnScope ["kind", "n", "room"] ["kind", "n"] (defScope s_room_of_row) := ⟨rfl, rfl, rfl, by decide +kernel, rfl, by decide +kernel, by decide +kernel⟩
theorem sc_room_of_record : FnScope ["kinds", "rooms", "multiple", "ends"] ["kinds"] (defScope s_room_of_record) := ⟨rfl, rfl, rfl, by decide +kernel, rfl, by decide +kernel, by decide +kernel⟩
theorem sc_places_behind : FnScope ["rooms", "places", "end", "room", "place"] ["rooms"] (defScope s_places_behind) := ⟨rfl, rfl, rfl, by decide +kernel, rfl, by decide +kernel, by decide +kernel⟩
theorem sc_room_of_choice : FnScope ["kinds", "rooms", "multiple", "greatest"] ["kinds"] (defScope s_room_of_choice) := ⟨rfl, rfl, rfl, by decide +kernel, rfl, by decide +kernel, by decide +kernel⟩
theorem sc_chosen_at : FnScope ["multiple"] ["multiple"] (defScope s_chosen_at) := ⟨rfl, rfl, rfl, by decide +kernel, rfl, by decide +kernel, by decide +kernel⟩
theorem sc_places_in_order : FnScope ["fields", "places"] ["fields"] (defScope s_places_in_order) := ⟨rfl, rfl, rfl, by decide +kernel, rfl, by decide +kernel, by decide +kernel⟩
theorem sc_holes_of : FnScope ["kind", "filled", "holes", "begin", "place", "is_filled"] ["kind"] (defScope s_holes_of) := ⟨rfl, rfl, rfl, by decide +kernel, rfl, by decide +kernel, by decide +kernel⟩
theorem sc_filled_bytes : FnScope ["kind"] ["kind"] (defScope s_filled_bytes) := ⟨rfl, rfl, rfl, by decide +kernel, rfl, by decide +kernel, by decide +kernel⟩
theorem sc_filled_step : FnScope ["kind", "filled"] ["kind"] (defScope s_filled_step) := ⟨rfl, rfl, rfl, by decide +kernel, rfl, by decide +kernel, by decide +kernel⟩
theorem sc_filled_record : FnScope ["kind", "filled", "field", "placed"] ["kind"] (defScope s_filled_record) := ⟨rfl, rfl, rfl, by decide +kernel, rfl, by decide +kernel, by decide +kernel⟩
theorem sc_filled_choice : FnScope ["kind", "room", "filled", "inner"] ["kind"] (defScope s_filled_choice) := ⟨rfl, rfl, rfl, by decide +kernel, rfl, by decide +kernel, by decide +kernel⟩
theorem sc_fill : FnScope ["filled", "place", "kind", "k", "is_filled"] ["filled", "place", "kind"] (defScope s_fill) := ⟨rfl, rfl, rfl, by decide +kernel, rfl, by decide +kernel, by decide +kernel⟩
theorem sc_is_value : FnScope ["kind", "thing"] ["kind", "thing"] (defScope s_is_value) := ⟨rfl, rfl, rfl, by decide +kernel, rfl, by decide +kernel, by decide +kernel⟩
theorem sc_is_row_value : FnScope ["kind", "n", "thing"] ["kind", "n", "thing"] (defScope s_is_row_value) := ⟨rfl, rfl, rfl, by decide +kernel, rfl, by decide +kernel, by decide +kernel⟩
theorem sc_is_record_value : FnScope ["fields", "thing"] ["fields", "thing"] (defScope s_is_record_value) := ⟨rfl, rfl, rfl, by decide +kernel, rfl, by decide +kernel, by decide +kernel⟩
theorem sc_is_choice_value : FnScope ["kinds", "thing"] ["kinds", "thing"] (defScope s_is_choice_value) := ⟨rfl, rfl, rfl, by decide +kernel, rfl, by decide +kernel, by decide +kernel⟩
theorem sc_bytes_of : FnScope ["kind", "thing"] ["kind", "thing"] (defScope s_bytes_of) := ⟨rfl, rfl, rfl, by decide +kernel, rfl, by decide +kernel, by decide +kernel⟩
theorem sc_laid_bytes : FnScope ["kind", "value", "laid", "step", "k", "each", "field", "placed"] ["kind", "value"] (defScope s_laid_bytes) := ⟨rfl, rfl, rfl, by decide +kernel, rfl, by decide +kernel, by decide +kernel⟩
theorem sc_number_bytes : FnScope ["w", "value", "some", "rest", "k"] ["w", "value"] (defScope s_number_bytes) := ⟨rfl, rfl, rfl, by decide +kernel, rfl, by decide +kernel, by decide +kernel⟩
theorem sc_lay : FnScope ["laid", "place", "some", "k", "byte"] ["laid", "place", "some"] (defScope s_lay) := ⟨rfl, rfl, rfl, by decide +kernel, rfl, by decide +kernel, by decide +kernel⟩
theorem sc_law_cell_at : FnScope ["script", "k"] ["script", "k"] (defScope s_law_cell_at) := ⟨rfl, rfl, rfl, by decide +kernel, rfl, by decide +kernel, by decide +kernel⟩
theorem sc_law_stir : FnScope ["cell", "k", "one"] ["cell", "k"] (defScope s_law_stir) := ⟨rfl, rfl, rfl, by decide +kernel, rfl, by decide +kernel, by decide +kernel⟩
theorem sc_law_deck : FnScope ["cell", "many", "found", "digits", "k", "number"] ["cell", "many"] (defScope s_law_deck) := ⟨rfl, rfl, rfl, by decide +kernel, rfl, by decide +kernel, by decide +kernel⟩
theorem sc_law_next : FnScope ["deck"] ["deck"] (defScope s_law_next) := ⟨rfl, rfl, rfl, by decide +kernel, rfl, by decide +kernel, by decide +kernel⟩
theorem sc_law_names : FnScope ["deck", "many", "start", "names", "k", "letter"] ["deck", "many"] (defScope s_law_names) := ⟨rfl, rfl, rfl, by decide +kernel, rfl, by decide +kernel, by decide +kernel⟩
theorem sc_law_kind : FnScope ["deck", "deep", "way", "kinds"] ["deck", "deep"] (defScope s_law_kind) := ⟨rfl, rfl, rfl, by decide +kernel, rfl, by decide +kernel, by decide +kernel⟩
theorem sc_law_up : FnScope ["number", "m"] ["number", "m"] (defScope s_law_up) := ⟨rfl, rfl, rfl, by decide +kernel, rfl, by decide +kernel, by decide +kernel⟩
theorem sc_law_room : FnScope ["kind", "room", "m", "parts", "sizes", "end", "other"] ["kind"] (defScope s_law_room) := ⟨rfl, rfl, rfl, by decide +kernel, rfl, by decide +kernel, by decide +kernel⟩
theorem sc_law_bounded : FnScope ["deck", "deep", "most", "kind"] ["deck", "deep", "most"] (defScope s_law_bounded) := ⟨rfl, rfl, rfl, by decide +kernel, rfl, by decide +kernel, by decide +kernel⟩
theorem sc_law_twofold : FnScope ["kind", "kinds"] ["kind"] (defScope s_law_twofold) := ⟨rfl, rfl, rfl, by decide +kernel, rfl, by decide +kernel, by decide +kernel⟩
theorem sc_law_full : FnScope ["kind", "greatest", "k", "found", "parts", "many"] ["kind"] (defScope s_law_full) := ⟨rfl, rfl, rfl, by decide +kernel, rfl, by decide +kernel, by decide +kernel⟩
theorem sc_law : FnScope ["script", "k", "kind", "rows", "room", "idle", "low", "high", "at", "met"] ["script"] (defScope s_law) := ⟨rfl, rfl, rfl, by decide +kernel, rfl, by decide +kernel, by decide +kernel⟩

def rdt (r : Int × Int) : Dt := .tup [.int r.1, .int r.2]
theorem rooms_at {H : Hp} {rs : List (Int × Int)} {vs : List V} {i : Nat} {x : V} (h : IsDs H (rs.map rdt) vs) (e : vs[i]? = some x) : ∃ r p, rs[i]? = some r ∧ x = .ref p ∧ H p = some (.tup [.int r.1, .int r.2]) := by
  obtain ⟨d, a, b⟩ := h.get e
  rw [List.getElem?_map] at a
  cases q : rs[i]? with
  | none => rw [q] at a; cases a
  | some r =>
    rw [q] at a
    cases a
    obtain ⟨p, ws, e1, e2, v1, r1, e3, e4, v2, r2, e5, e6, e7⟩ := b
    cases e4
    cases e6
    cases e7
    subst e5
    subst e3
    exact ⟨r, p, rfl, e1, e2⟩
theorem take_snoc {α : Type} {l : List α} {i : Nat} {x : α} (h : l[i]? = some x) : l.take (i + 1) = l.take i ++ [x] := by
  rw [List.take_succ, h]
  rfl
theorem bnd12 {n : Nat} (h : n ≤ 12) : bnd n < 2 ^ 150 := Int.lt_of_le_of_lt (bnd_mono h) (by decide)
def spRU : Sp := fun vs H Q _ => ∃ n m : Int, vs = [.int n, .int m] ∧ 0 ≤ n ∧ n < 2 ^ 200 ∧ 0 < m ∧ m < 2 ^ 200 ∧ Q (.int (up n m)) H
def spSO : Sp := fun vs H Q _ => ∃ (p : Addr) (n m : Int), vs = [.ref p] ∧ H p = some (.tup [.int n, .int m]) ∧ 0 ≤ n ∧ n < 2 ^ 200 ∧ 0 < m ∧ m < 2 ^ 200 ∧ Q (.int (up n m)) H
def spCA : Sp := fun vs H Q _ => ∃ m : Int, vs = [.int m] ∧ 0 < m ∧ m < 2 ^ 200 ∧ Q (.int (up 1 m)) H
def spGM : Sp := fun vs H Q _ => ∃ (a : Addr) (ws : List V) (rs : List (Int × Int)), vs = [.ref a] ∧ H a = some (.lst ws) ∧ IsDs H (rs.map rdt) ws ∧ rs.length ≤ 10 ∧ (∀ r ∈ rs, 1 ≤ r.2) ∧
  ∀ H', Same H H' → Q (.int (maxL 1 (rs.map (·.2)))) H'
def spPB : Sp := fun vs H Q _ => ∃ (a : Addr) (ws : List V) (rs : List (Int × Int)), vs = [.ref a] ∧ H a = some (.lst ws) ∧ IsDs H (rs.map rdt) ws ∧ rs.length ≤ 10 ∧ (∀ r ∈ rs, Bd (2 ^ 150) r) ∧
  ∀ l H', Same H H' → H' l = some (.lst ((plcs 0 rs).map V.int)) → Q (.ref l) H'
def spRO (n : Nat) : Sp := fun vs H Q _ => ∃ (kd : Kd) (v : V), vs = [v] ∧ IsD H kd.dt v ∧ kd.Ok ∧ kd.deep ≤ n ∧ n ≤ 12 ∧ ∀ p H', Same H H' → H' p = some (.tup [.int kd.rm.1, .int kd.rm.2]) → Q (.ref p) H'
def spRS (n : Nat) : Sp := fun vs H Q _ => ∃ (a : Addr) (ws : List V) (ks : List Kd), vs = [.ref a] ∧ H a = some (.lst ws) ∧ IsDs H (dtK ks) ws ∧ okK ks ∧ deepK ks ≤ n ∧ ks.length ≤ 10 ∧ n ≤ 12 ∧
  ∀ l zs H', Same H H' → H' l = some (.lst zs) → IsDs H' ((rmK ks).map rdt) zs → Q (.ref l) H'
def spRR (n : Nat) : Sp := fun vs H Q _ => ∃ (kd : Kd) (v : V) (m : Int), vs = [v, .int m] ∧ IsD H kd.dt v ∧ kd.Ok ∧ kd.deep ≤ n ∧ n ≤ 12 ∧ 0 ≤ m ∧ m ≤ 100 ∧ ∀ p H', Same H H' → H' p = some (.tup [.int (m * up kd.rm.1 kd.rm.2), .int kd.rm.2]) → Q (.ref p) H'
def spRL (f : List (Int × Int) → Int × Int) (n : Nat) : Sp := fun vs H Q _ => ∃ (a : Addr) (ws : List V) (ks : List Kd), vs = [.ref a] ∧ H a = some (.lst ws) ∧ IsDs H (dtK ks) ws ∧ okK ks ∧ deepK ks ≤ n ∧ ks.length ≤ 10 ∧ n ≤ 12 ∧
  ∀ p H', Same H H' → H' p = some (.tup [.int (f (rmK ks)).1, .int (f (rmK ks)).2]) → Q (.ref p) H'
section
variable {P : Program} {w : World} {K : PySem.W.Frag} {mg : Str → Option Value} {base : Heap} {f g fRU fGM fPB fRS fRO fRR fRC fRH fSO fCA : Addr} {fd gd dRU dGM dPB dRS dRO dRR dRC dRH dSO dCA : FuncData} {n j : Nat}
theorem ok_ru (F : Fun K "rounded_up" "rounded_up" s_rounded_up f fd) : FnOk P w K mg base CX0 1 f fd ["number", "m"] spRU := by
  refine F.ok sc_rounded_up (fun vs H Q E h => ?_) (fun cdv A outer s H vs Q E hr h => ?_)
  · obtain ⟨n, m, rfl, _⟩ := h
    rfl
  obtain ⟨n, m, rfl, h0, h1, h2, h3, q⟩ := h
  refine ⟨_, pss_one (ps_ret (pe_op op_mulB (pe_op op_fdivB (pe_op op_sub (pe_op op_add (pv 0) (pv 1)) pe_int) (pv 1)) (pv 1))), ?_⟩
  have d0 : 0 ≤ (n + m - 1) / m := Int.ediv_nonneg (by omega) (by omega)
  have d1 : (n + m - 1) / m ≤ n + m - 1 := Int.ediv_le_self m (by omega)
  refine ⟨_, rfl, _, rfl, _, _, rfl, rfl, _, _, rfl, rfl, _, rfl, _, _, rfl, rfl, ⟨h2, by omega⟩, _, rfl, _, _, rfl, rfl, ⟨?_, ?_⟩, q⟩
  · generalize (n + m - 1) / m = z at d0 d1
    omega
  · omega
theorem ok_so (F : Fun K "step_of" "step_of" s_step_of f fd) (GRU : FnOk P w K mg base CX0 1 fRU dRU ["number", "m"] spRU) (bRU : Binds K dRU ["number", "m"] []) (kRU : PySem.W.keepIn K (.ref fRU) = true) (mRU : mg "rounded_up" = some (.ref fRU)) :
    FnOk P w K mg base CX0 2 f fd ["room"] spSO := by
  refine F.ok sc_step_of (fun vs H Q E h => ?_) (fun cdv A outer s H vs Q E hr h => ?_)
  · obtain ⟨p, n, m, rfl, _⟩ := h
    rfl
  obtain ⟨p, n, m, rfl, hp, h0, h1, h2, h3, q⟩ := h
  refine ⟨_, pss_one (ps_ret (pe_call GRU (hr.mono (by omega)) rfl mRU kRU bRU .nil pass0 (pa_cons (pe_ix ix_tup (pv 0) pe_int (fun _ _ => rfl)) (pa_cons (pe_ix ix_tup (pv 0) pe_int (fun _ _ => rfl)) pa_nil)))), ?_⟩
  exact ⟨_, rfl, p, _, _, _, rfl, rfl, SqT.of hp, rfl, _, rfl, p, _, _, _, rfl, rfl, SqT.of hp, rfl, n, m, rfl, h0, h1, h2, h3, q⟩
theorem ok_ca (F : Fun K "chosen_at" "chosen_at" s_chosen_at f fd) (GRU : FnOk P w K mg base CX0 1 fRU dRU ["number", "m"] spRU) (bRU : Binds K dRU ["number", "m"] []) (kRU : PySem.W.keepIn K (.ref fRU) = true) (mRU : mg "rounded_up" = some (.ref fRU)) :
    FnOk P w K mg base CX0 2 f fd ["multiple"] spCA := by
  refine F.ok sc_chosen_at (fun vs H Q E h => ?_) (fun cdv A outer s H vs Q E hr h => ?_)
  · obtain ⟨m, rfl, _⟩ := h
    rfl
  obtain ⟨m, rfl, h2, h3, q⟩ := h
  refine ⟨_, pss_one (ps_ret (pe_call GRU (hr.mono (by omega)) rfl mRU kRU bRU .nil pass0 (pa_cons pe_int (pa_cons (pv 0) pa_nil)))), ?_⟩
  exact ⟨_, rfl, 1, m, rfl, by decide, by decide, h2, h3, q⟩
theorem ok_gm (F : Fun K "greatest_multiple" "greatest_multiple" s_greatest_multiple f fd) (m_max : mg "max" = none) : FnOk P w K mg base CX0 1 f fd ["rooms"] spGM := by
  refine F.ok sc_greatest_multiple (fun vs H Q E h => ?_) (fun cdv A outer s H vs Q E hr h => ?_)
  · obtain ⟨a, ws, rs, rfl, _⟩ := h
    rfl
  obtain ⟨a, ws, rs, rfl, ha, hd, hl, h1, q⟩ := h
  have hlw : ws.length = rs.length := by rw [hd.len, List.length_map]
  refine ⟨_, (pss_one (ps_ret (pe_callBK (call_maxD rfl) rfl m_max bt_max (pa_cons (pe_comp (dsc := defScope s_greatest_multiple) (N := ["rooms"]) (tgs := ["room"]) (outs := []) (N' := ["room"]) ⟨rfl, by decide +kernel, by decide +kernel, by decide +kernel, rfl, by decide +kernel, by decide +kernel, by decide +kernel⟩ (pi_list (pv 0)) (fun _ _ _ _ _ => (pg_name (i := 0) (show (["room"] : List Str).Nodup by decide +kernel) rfl (Or.inl rfl) (.inr rfl))) (tgt_name (by decide)) (fun _ _ _ _ _ => pcs_nil) (fun _ _ _ _ _ => (pe_ix (ix_tupK K) (pv 0) pe_int (fun _ _ => rfl)))) pa_nil) (pk_cons pe_int pk_nil)))), ?_⟩
  refine ⟨_, rfl, a, rfl, ⟨_, SqL.of ha⟩, ?_⟩
  refine comp_list (xs := ws) (fun i acc H' => Same H H' ∧ acc = (rs.take i).map fun r => V.int r.2) (by omega) ⟨Same.refl _, rfl⟩ (fun i acc H' hi ⟨e, ea⟩ => ⟨SqL.of (e _ _ ha), by rw [ea, List.length_map, List.length_take]; omega⟩) (fun i x acc H' hx ⟨e, ea⟩ => ?_) (fun acc H' ⟨e, ea⟩ l hn => ?_)
  · obtain ⟨r, p, er, rfl, hp⟩ := rooms_at hd hx
    refine nameYes ?_
    refine ⟨_, rfl, p, _, _, _, rfl, rfl, SqT.of (e _ _ hp), rfl, e, ?_⟩
    rw [ea, take_snoc er, List.map_append]
    rfl
  · rw [hlw, List.take_length] at ea
    refine ⟨l, rs.map (·.2), 1, rfl, rfl, SqL.of (by rw [upd_same, ea, List.map_map]; rfl), fun en => ?_, fun M hM hle => ?_⟩
    · rw [en] at q
      exact q _ (e.trans (same_new hn _))
    · obtain ⟨r, hr', rfl⟩ := List.mem_map.mp hM
      rw [maxL_is (d := 1) hM (h1 r hr') hle]
      exact q _ (e.trans (same_new hn _))
theorem ok_pb (F : Fun K "places_behind" "places_behind" s_places_behind f fd) (GRU : FnOk P w K mg base CX0 1 fRU dRU ["number", "m"] spRU) (bRU : Binds K dRU ["number", "m"] []) (kRU : PySem.W.keepIn K (.ref fRU) = true) (mRU : mg "rounded_up" = some (.ref fRU)) :
    FnOk P w K mg base CX0 2 f fd ["rooms"] spPB := by
  refine F.ok sc_places_behind (fun vs H Q E h => ?_) (fun cdv A outer s H vs Q E hr h => ?_)
  · obtain ⟨a, ws, rs, rfl, _⟩ := h
    rfl
  obtain ⟨a, ws, rs, rfl, ha, hd, hl, h1, q⟩ := h
  have hlw : ws.length = rs.length := by rw [hd.len, List.length_map]
  refine ⟨_, (pss_cons (ps_set (i := 1) sc_places_behind.nd rfl (Or.inl rfl) (pe_lst pa_nil))
    (pss_cons (ps_set (i := 2) sc_places_behind.nd rfl (Or.inl rfl) pe_int)
    (pss_cons (ps_for PassesOwn.never rfl (pi_list (pv 0)) (pg_name (i := 3) sc_places_behind.nd rfl (Or.inl rfl)) (pss_cons (ps_set (i := 4) sc_places_behind.nd rfl (Or.inl rfl) (pe_call GRU (hr.mono (by omega)) rfl mRU kRU bRU .nil pass0 (pa_cons (pv 2) (pa_cons (pe_ix ix_tup (pv 3) pe_int (fun _ _ => rfl)) pa_nil))))
    (pss_cons (ps_expr (pe_bm PySem.F.plainAttrs_list PySem.F.slot_list_append PySem.F.type_list_append mt_append (pv 1) (pa_cons (pv 4) pa_nil)))
    (pss_one (ps_set (i := 2) sc_places_behind.nd rfl (Or.inl rfl) (pe_op op_add (pv 4) (pe_ix ix_tup (pv 3) pe_int (fun _ _ => rfl))))))))
    (pss_one (ps_ret (pv 1)))))), ?_⟩
  refine ⟨lists3 0 (by decide), fun l0 n0 => ?_⟩
  have k0 : ∀ (o : HO) (H' : Hp), Same H H' → Same H (upd H' l0 o) := fun o H' e b u hb => by rw [upd_ne (ne_of_none hb n0)]; exact e b u hb
  refine ⟨_, rfl, a, rfl, ⟨_, SqL.of ((same_new n0 _) _ _ ha)⟩, ?_⟩
  refine for_list (xs := ws) (fun i σ H' => ∃ y3 y4, σ = [some (.ref a), some (.ref l0), some (.int (lastEnd 0 (rs.take i))), y3, y4] ∧ Same H H' ∧ H' l0 = some (.lst ((plcs 0 (rs.take i)).map V.int))) ⟨_, _, rfl, same_new n0 _, upd_same⟩
    (fun i σ H' _ ⟨y3, y4, es, e, e0⟩ => SqL.of (e _ _ ha)) (fun i x σ H' hx ⟨y3, y4, es, e, e0⟩ => ?_) (fun σ H' ⟨y3, y4, es, e, e0⟩ => ?_)
  · subst es
    obtain ⟨r, p, er, rfl, hp⟩ := rooms_at hd hx
    obtain ⟨b0, b1, b2, b3⟩ := h1 r (List.mem_of_getElem? er)
    have bt : ∀ s ∈ rs.take i, Bd (2 ^ 150) s := fun s hs => h1 s (List.mem_of_mem_take hs)
    obtain ⟨c0, c1⟩ := lastEnd_le (e := 0) (by omega) bt
    have c2 : ((rs.take i).length : Int) * (2 ^ 150 + 8) ≤ 10 * (2 ^ 150 + 8) := Int.mul_le_mul_of_nonneg_right (by rw [List.length_take]; omega) (by decide)
    refine ⟨_, rfl, _, rfl, p, _, _, _, rfl, rfl, SqT.of (e _ _ hp), rfl, _, _, rfl, c0, by omega, by omega, by omega, ?_⟩
    refine ⟨_, rfl, .inl ⟨rfl, _, SqL.of e0⟩, _, rfl, l0, _, _, rfl, rfl, e0, ?_, ?_⟩
    · rw [List.length_map, plcs_length, List.length_take]
      exact small1000 (by omega)
    refine ⟨_, rfl, _, rfl, p, _, _, _, rfl, rfl, SqT.of ((k0 _ _ e) _ _ hp), rfl, _, _, rfl, rfl, ?_⟩
    refine ⟨some (.ref p), some (.int (up (lastEnd 0 (rs.take i)) r.2)), ?_, k0 _ _ e, ?_⟩
    · rw [take_snoc er, lastEnd_snoc]
      rfl
    · rw [upd_same, take_snoc er, plcs_snoc, List.map_append]
      rfl
  · rw [hlw, List.take_length] at es e0
    subst es
    exact ⟨_, rfl, q l0 H' e e0⟩

theorem kinds_at {H : Hp} {x : V} : ∀ {ks : List Kd} {ws : List V} {i : Nat}, IsDs H (dtK ks) ws → ws[i]? = some x → ∃ k, ks[i]? = some k ∧ IsD H k.dt x
  | [], _, _, h, e => by cases (show _ = [] from h); simp at e
  | k :: r, _, 0, ⟨u, vr, h1, h2, h3⟩, e => by subst h1; simp at e; subst e; exact ⟨k, rfl, h2⟩
  | k :: r, _, i + 1, ⟨u, vr, h1, h2, h3⟩, e => by subst h1; obtain ⟨d', a, b⟩ := kinds_at (i := i) h3 (by simpa using e); exact ⟨d', by simpa using a, b⟩
theorem ok_at : ∀ {ks : List Kd} {i : Nat} {k : Kd}, okK ks → ks[i]? = some k → k.Ok ∧ k.deep ≤ deepK ks
  | [], _, _, _, e => by simp at e
  | k' :: r, 0, k, h, e => by simp at e; subst e; exact ⟨h.1, Nat.le_max_left _ _⟩
  | k' :: r, i + 1, k, h, e => by obtain ⟨a, b⟩ := ok_at (i := i) h.2 (by simpa using e); exact ⟨a, Nat.le_trans b (Nat.le_max_right _ _)⟩
theorem rmK_at : ∀ {ks : List Kd} {i : Nat} {k : Kd}, ks[i]? = some k → (rmK ks)[i]? = some k.rm
  | [], _, _, e => by simp at e
  | k' :: r, 0, k, e => by simp at e; subst e; rfl
  | k' :: r, i + 1, k, e => by show (rmK r)[i]? = _; exact rmK_at (by simpa using e)
theorem dtK_len : ∀ (ks : List Kd), (dtK ks).length = ks.length
  | [] => rfl
  | k :: r => by show (dtK r).length + 1 = _; rw [dtK_len r]; rfl
theorem bdK12 {ks : List Kd} (h : okK ks) (hd : deepK ks ≤ n) (hn : n ≤ 12) : ∀ r ∈ rmK ks, Bd (2 ^ 150) r := fun r hr => (bdK ks h r hr).mono (Int.le_of_lt (bnd12 (Nat.le_trans hd hn)))
theorem bd12 {k : Kd} (h : k.Ok) (hd : k.deep ≤ n) (hn : n ≤ 12) : Bd (2 ^ 150) k.rm := (Kd.bd k h).mono (Int.le_of_lt (bnd12 (Nat.le_trans hd hn)))
theorem ok_rs (F : Fun K "rooms_of" "rooms_of" s_rooms_of f fd) (GRO : FnOk P w K mg base CX0 j fRO dRO ["kind"] (spRO n)) (bRO : Binds K dRO ["kind"] []) (kRO : PySem.W.keepIn K (.ref fRO) = true) (mRO : mg "room_of" = some (.ref fRO)) :
    FnOk P w K mg base CX0 (j + 1) f fd ["kinds"] (spRS n) := by
  refine F.ok sc_rooms_of (fun vs H Q E h => ?_) (fun cdv A outer s H vs Q E hr h => ?_)
  · obtain ⟨a, ws, ks, rfl, _⟩ := h
    rfl
  obtain ⟨a, ws, ks, rfl, ha, hd, hk, hdp, hl, hn, q⟩ := h
  have hlw : ws.length = ks.length := by rw [hd.len, dtK_len]
  refine ⟨_, (pss_one (ps_ret (pe_comp (dsc := defScope s_rooms_of) (N := ["kinds"]) (tgs := ["kind"]) (outs := []) (N' := ["kind"]) ⟨rfl, by decide +kernel, by decide +kernel, by decide +kernel, rfl, by decide +kernel, by decide +kernel, by decide +kernel⟩ (pi_list (pv 0)) (fun _ _ _ _ _ => (pg_name (i := 0) (show (["kind"] : List Str).Nodup by decide +kernel) rfl (Or.inl rfl) (.inr rfl))) (tgt_name (by decide)) (fun _ _ _ _ _ => pcs_nil) (fun _ _ _ _ _ => (pe_call GRO hr rfl mRO kRO bRO .nil pass0 (pa_cons (pv 0) pa_nil)))))), ?_⟩
  refine ⟨_, rfl, a, rfl, ⟨_, SqL.of ha⟩, ?_⟩
  refine comp_list (xs := ws) (fun i acc H' => Same H H' ∧ IsDs H' (((rmK ks).take i).map rdt) acc) (by omega) ⟨Same.refl _, rfl⟩ (fun i acc H' hi ⟨e, ea⟩ => ⟨SqL.of (e _ _ ha), by rw [ea.len, List.length_map, List.length_take]; omega⟩) (fun i x acc H' hx ⟨e, ea⟩ => ?_) (fun acc H' ⟨e, ea⟩ l hn' => ?_)
  · obtain ⟨k, ek, hkx⟩ := kinds_at hd hx
    obtain ⟨ok, dk⟩ := ok_at hk ek
    refine nameYes ?_
    refine ⟨_, rfl, k, x, rfl, hkx.same e, ok, by omega, hn, fun p H'' e2 hp => ⟨e.trans e2, ?_⟩⟩
    rw [take_snoc (rmK_at ek), List.map_append]
    exact (ea.same e2).snoc (show IsD H'' (rdt k.rm) (.ref p) from ⟨p, _, rfl, hp, _, _, rfl, rfl, _, _, rfl, rfl, rfl⟩)
  · rw [hlw, ← lenK, List.take_length] at ea
    exact q l acc _ (e.trans (same_new hn' _)) upd_same (ea.same (same_new hn' _))
theorem ok_rr (F : Fun K "room_of_row" "room_of_row" s_room_of_row f fd) (GRO : FnOk P w K mg base CX0 j fRO dRO ["kind"] (spRO n)) (bRO : Binds K dRO ["kind"] []) (kRO : PySem.W.keepIn K (.ref fRO) = true) (mRO : mg "room_of" = some (.ref fRO))
    (GSO : FnOk P w K mg base CX0 2 fSO dSO ["room"] spSO) (bSO : Binds K dSO ["room"] []) (kSO : PySem.W.keepIn K (.ref fSO) = true) (mSO : mg "step_of" = some (.ref fSO)) (hj : 2 ≤ j) :
    FnOk P w K mg base CX0 (j + 1) f fd ["kind", "n"] (spRR n) := by
  refine F.ok sc_room_of_row (fun vs H Q E h => ?_) (fun cdv A outer s H vs Q E hr h => ?_)
  · obtain ⟨kd, v, m, rfl, _⟩ := h
    rfl
  obtain ⟨kd, v, m, rfl, hv, hk, hdp, hn, h0, h1, q⟩ := h
  obtain ⟨b0, b1, b2, b3⟩ := bd12 hk hdp hn
  obtain ⟨u1, u2⟩ := up_bounds (n := kd.rm.1) (m := kd.rm.2) (by omega)
  refine ⟨_, (pss_cons (ps_set (i := 2) sc_room_of_row.nd rfl (Or.inl rfl) (pe_call GRO hr rfl mRO kRO bRO .nil pass0 (pa_cons (pv 0) pa_nil)))
    (pss_one (ps_ret (pe_tup (pa_cons (pe_op op_mulB (pv 1) (pe_call GSO (hr.mono hj) rfl mSO kSO bSO .nil pass0 (pa_cons (pv 2) pa_nil))) (pa_cons (pe_ix ix_tup (pv 2) pe_int (fun _ _ => rfl)) pa_nil)))))), ?_⟩
  refine ⟨_, rfl, kd, v, rfl, hv, hk, hdp, hn, fun p H1 e1 hp => ?_⟩
  refine ⟨_, rfl, _, rfl, p, _, _, rfl, hp, b0, by omega, by omega, by omega, _, _, rfl, rfl, ⟨by omega, by omega⟩, _, rfl, p, _, _, _, rfl, rfl, SqT.of hp, rfl, lists3 2 (by decide), fun p2 n2 => ?_⟩
  exact q p2 _ (e1.trans (same_new n2 _)) upd_same
theorem ok_rc (F : Fun K "room_of_record" "room_of_record" s_room_of_record f fd) (GRS : FnOk P w K mg base CX0 j fRS dRS ["kinds"] (spRS n)) (bRS : Binds K dRS ["kinds"] []) (kRS : PySem.W.keepIn K (.ref fRS) = true) (mRS : mg "rooms_of" = some (.ref fRS))
    (GGM : FnOk P w K mg base CX0 1 fGM dGM ["rooms"] spGM) (bGM : Binds K dGM ["rooms"] []) (kGM : PySem.W.keepIn K (.ref fGM) = true) (mGM : mg "greatest_multiple" = some (.ref fGM))
    (GPB : FnOk P w K mg base CX0 2 fPB dPB ["rooms"] spPB) (bPB : Binds K dPB ["rooms"] []) (kPB : PySem.W.keepIn K (.ref fPB) = true) (mPB : mg "places_behind" = some (.ref fPB))
    (GRU : FnOk P w K mg base CX0 1 fRU dRU ["number", "m"] spRU) (bRU : Binds K dRU ["number", "m"] []) (kRU : PySem.W.keepIn K (.ref fRU) = true) (mRU : mg "rounded_up" = some (.ref fRU)) (m_max : mg "max" = none) (m_zip : mg "zip" = none) (hj : 2 ≤ j) :
    FnOk P w K mg base CX0 (j + 1) f fd ["kinds"] (spRL rcdRm n) := by
  refine F.ok sc_room_of_record (fun vs H Q E h => ?_) (fun cdv A outer s H vs Q E hr h => ?_)
  · obtain ⟨a, ws, ks, rfl, _⟩ := h
    rfl
  obtain ⟨a, ws, ks, rfl, ha, hd, hk, hdp, hl, hn, q⟩ := h
  have hb := bdK12 hk hdp hn
  generalize hrs : rmK ks = rs at hb q
  have hlr : rs.length ≤ 10 := by rw [← hrs, lenK]; exact hl
  refine ⟨_, (pss_cons (ps_set (i := 1) sc_room_of_record.nd rfl (Or.inl rfl) (pe_call GRS hr rfl mRS kRS bRS .nil pass0 (pa_cons (pv 0) pa_nil)))
    (pss_cons (ps_set (i := 2) sc_room_of_record.nd rfl (Or.inl rfl) (pe_call GGM (hr.mono (by omega)) rfl mGM kGM bGM .nil pass0 (pa_cons (pv 1) pa_nil)))
    (pss_cons (ps_setC (i := 3) sc_room_of_record.nd rfl rfl (dsc := defScope s_room_of_record) (N := ["kinds", "rooms", "multiple", "ends"]) (tgs := ["place", "room"]) (outs := []) (N' := ["place", "room"]) ⟨rfl, by decide +kernel, by decide +kernel, by decide +kernel, rfl, by decide +kernel, by decide +kernel, by decide +kernel⟩ (pi_zip (t1 := false) (t2 := false) rfl m_zip (pa_cons (pe_call GPB (hr.mono (by omega)) rfl mPB kPB bPB .nil pass0 (pa_cons (pv 1) pa_nil)) (pa_cons (pv 1) pa_nil))) (fun _ _ _ _ _ => (pg_tupK K (n := 2) rfl rfl (pgs_cons (pg_name (i := 0) (show (["place", "room"] : List Str).Nodup by decide +kernel) rfl (Or.inl rfl) (.inr rfl)) (pgs_cons (pg_name (i := 1) (show (["place", "room"] : List Str).Nodup by decide +kernel) rfl (Or.inl rfl) (.inr rfl)) pgs_nil)))) (tgt_tup (tgts_name (by decide) (tgts_name (by decide) tgts_nil tmono_nil) (tmono_name tmono_nil))) (fun _ _ _ _ _ => pcs_nil) (fun _ _ _ _ _ => (pe_op op_add (pv 0) (pe_ix (ix_tupK K) (pv 1) pe_int (fun _ _ => rfl)))))
    (pss_one (ps_ret (pe_tup (pa_cons (pe_call GRU (hr.mono (by omega)) rfl mRU kRU bRU .nil pass0 (pa_cons (pe_callBK (call_maxD rfl) rfl m_max bt_max (pa_cons (pv 3) pa_nil) (pk_cons pe_int pk_nil)) (pa_cons (pv 2) pa_nil))) (pa_cons (pv 2) pa_nil)))))))), ?_⟩
  refine ⟨_, rfl, a, ws, ks, rfl, ha, hd, hk, hdp, hl, hn, fun l zs H1 e1 hz hzs => ?_⟩
  rw [hrs] at hzs
  refine ⟨_, rfl, l, zs, rs, rfl, hz, hzs, hlr, fun r hr => (hb r hr).2.2.1, fun H2 e2 => ?_⟩
  have hz2 := e2 _ _ hz
  have hzs2 := hzs.same e2
  refine ⟨_, rfl, l, zs, rs, rfl, hz2, hzs2, hlr, hb, fun l2 H3 e3 hp => ?_⟩
  have hz3 := e3 _ _ hz2
  have hzs3 := hzs2.same e3
  have hlz : zs.length = rs.length := by rw [hzs.len, List.length_map]
  have hlp : ((plcs 0 rs).map V.int).length = rs.length := by rw [List.length_map, plcs_length]
  have hle : (ends 0 rs).length = rs.length := by rw [ends_zip, List.length_map, List.length_zip, plcs_length]; omega
  obtain ⟨c0, c1⟩ := lastEnd_le (e := 0) (by omega) hb
  have c2 : (rs.length : Int) * (2 ^ 150 + 8) ≤ 10 * (2 ^ 150 + 8) := Int.mul_le_mul_of_nonneg_right (by omega) (by decide)
  obtain ⟨x0, x1⟩ := mx_bd hb
  refine ⟨_, rfl, l2, l, rfl, ⟨_, SqL.of hp⟩, ⟨_, SqL.of hz3⟩, ?_⟩
  refine comp_zip (t1 := false) (t2 := false) (xs := (plcs 0 rs).map V.int) (ys := zs) (fun i acc H' => Same H3 H' ∧ acc = ((ends 0 rs).take i).map V.int) (by omega) (by omega) ⟨Same.refl _, rfl⟩
    (fun i acc H' hi ⟨e, ea⟩ => ⟨SqL.of (e _ _ hp), SqL.of (e _ _ hz3), by rw [ea, List.length_map, List.length_take]; omega⟩) (fun i x y p acc H' hx hy ⟨e, ea⟩ hpn => ?_) (fun acc H' ⟨e, ea⟩ l3 hn3 => ?_)
  · obtain ⟨r, p2, er, rfl, hp2⟩ := rooms_at hzs3 hy
    rw [List.getElem?_map] at hx
    cases ep : (plcs 0 rs)[i]? with
    | none => rw [ep] at hx; cases hx
    | some pl =>
      rw [ep] at hx
      cases hx
      have en : Same H3 (upd H' p (.tup [.int pl, .ref p2])) := e.trans (same_new hpn _)
      refine ⟨p, _, rfl, SqT.of upd_same, rfl, _, _, rfl, _, _, rfl, rfl, ?_⟩
      refine yesT ?_
      refine ⟨_, rfl, _, rfl, p2, _, _, _, rfl, rfl, SqT.of (en _ _ hp2), rfl, _, _, rfl, rfl, en, ?_⟩
      have ee : (ends 0 rs)[i]? = some (pl + r.1) := by
        rw [ends_zip, List.getElem?_map, (List.getElem?_zip_eq_some (z := (pl, r))).mpr ⟨ep, er⟩]
        rfl
      rw [ea, take_snoc ee, List.map_append]
      rfl
  · rw [hlp, ← hle, List.take_length] at ea
    have e3' : Same H (upd H' l3 (.lst acc)) := ((e1.trans e2).trans (e3.trans e)).trans (same_new hn3 _)
    have fin : ∀ (z : Int), z = lastEnd 0 rs → ∀ {D : VK}, (∀ p H'', Same H H'' → H'' p = some (.tup [.int (rcdRm rs).1, .int (rcdRm rs).2]) → D (.ref p) H'') →
        ∃ n m : Int, [V.int z, V.int (maxL 1 (rs.map (·.2)))] ++ [] = [.int n, .int m] ∧ 0 ≤ n ∧ n < 2 ^ 200 ∧ 0 < m ∧ m < 2 ^ 200 ∧ (∃ v, ([some (V.ref a), some (.ref l), some (.int (maxL 1 (rs.map (·.2)))), some (.ref l3)] : St)[2]? = some (some v) ∧ ([V.int (up n m), v] : List V).length ≤ sizeLine ∧
          ∀ p, (upd H' l3 (.lst acc)) p = none → D (.ref p) (upd (upd H' l3 (.lst acc)) p (.tup [.int (up n m), v]))) := fun z ez D hD => by
      subst ez
      exact ⟨_, _, rfl, c0, by omega, by omega, by omega, _, rfl, lists3 2 (by decide), fun p hp => hD p _ (e3'.trans (same_new hp _)) upd_same⟩
    refine ⟨_, rfl, l3, ends 0 rs, 0, rfl, rfl, SqL.of (by rw [upd_same, ea]), fun en => ?_, fun M hM hle => ?_⟩
    · have : rs = [] := by
        cases rs with
        | nil => rfl
        | cons r t => cases en
      refine ⟨_, rfl, ?_⟩
      exact fin 0 (by rw [this]; rfl) q
    · have hne : rs ≠ [] := fun z => by rw [z] at hM; cases hM
      obtain ⟨t1, t2⟩ := ends_max (e := 0) (fun r hr => ⟨(hb r hr).1, by have := (hb r hr).2.2.1; omega⟩) hne
      refine ⟨_, rfl, ?_⟩
      exact fin M (Int.le_antisymm (t2 M hM) (hle _ t1)) q
theorem ok_rh (F : Fun K "room_of_choice" "room_of_choice" s_room_of_choice f fd) (GRS : FnOk P w K mg base CX0 j fRS dRS ["kinds"] (spRS n)) (bRS : Binds K dRS ["kinds"] []) (kRS : PySem.W.keepIn K (.ref fRS) = true) (mRS : mg "rooms_of" = some (.ref fRS))
    (GGM : FnOk P w K mg base CX0 1 fGM dGM ["rooms"] spGM) (bGM : Binds K dGM ["rooms"] []) (kGM : PySem.W.keepIn K (.ref fGM) = true) (mGM : mg "greatest_multiple" = some (.ref fGM))
    (GCA : FnOk P w K mg base CX0 2 fCA dCA ["multiple"] spCA) (bCA : Binds K dCA ["multiple"] []) (kCA : PySem.W.keepIn K (.ref fCA) = true) (mCA : mg "chosen_at" = some (.ref fCA))
    (GRU : FnOk P w K mg base CX0 1 fRU dRU ["number", "m"] spRU) (bRU : Binds K dRU ["number", "m"] []) (kRU : PySem.W.keepIn K (.ref fRU) = true) (mRU : mg "rounded_up" = some (.ref fRU)) (m_max : mg "max" = none) (hj : 2 ≤ j) :
    FnOk P w K mg base CX0 (j + 1) f fd ["kinds"] (spRL choRm n) := by
  refine F.ok sc_room_of_choice (fun vs H Q E h => ?_) (fun cdv A outer s H vs Q E hr h => ?_)
  · obtain ⟨a, ws, ks, rfl, _⟩ := h
    rfl
  obtain ⟨a, ws, ks, rfl, ha, hd, hk, hdp, hl, hn, q⟩ := h
  have hb := bdK12 hk hdp hn
  generalize hrs : rmK ks = rs at hb q
  have hlr : rs.length ≤ 10 := by rw [← hrs, lenK]; exact hl
  refine ⟨_, (pss_cons (ps_set (i := 1) sc_room_of_choice.nd rfl (Or.inl rfl) (pe_call GRS hr rfl mRS kRS bRS .nil pass0 (pa_cons (pv 0) pa_nil)))
    (pss_cons (ps_set (i := 2) sc_room_of_choice.nd rfl (Or.inl rfl) (pe_call GGM (hr.mono (by omega)) rfl mGM kGM bGM .nil pass0 (pa_cons (pv 1) pa_nil)))
    (pss_cons (ps_set (i := 3) sc_room_of_choice.nd rfl (Or.inl rfl) (pe_callBK (call_maxD rfl) rfl m_max bt_max (pa_cons (pe_comp (dsc := defScope s_room_of_choice) (N := ["kinds", "rooms", "multiple", "greatest"]) (tgs := ["room"]) (outs := []) (N' := ["room"]) ⟨rfl, by decide +kernel, by decide +kernel, by decide +kernel, rfl, by decide +kernel, by decide +kernel, by decide +kernel⟩ (pi_list (pv 1)) (fun _ _ _ _ _ => (pg_name (i := 0) (show (["room"] : List Str).Nodup by decide +kernel) rfl (Or.inl rfl) (.inr rfl))) (tgt_name (by decide)) (fun _ _ _ _ _ => pcs_nil) (fun _ _ _ _ _ => (pe_ix (ix_tupK K) (pv 0) pe_int (fun _ _ => rfl)))) pa_nil) (pk_cons pe_int pk_nil)))
    (pss_one (ps_ret (pe_tup (pa_cons (pe_call GRU (hr.mono (by omega)) rfl mRU kRU bRU .nil pass0 (pa_cons (pe_op op_add (pe_call GCA (hr.mono (by omega)) rfl mCA kCA bCA .nil pass0 (pa_cons (pv 2) pa_nil)) (pv 3)) (pa_cons (pv 2) pa_nil))) (pa_cons (pv 2) pa_nil)))))))), ?_⟩
  refine ⟨_, rfl, a, ws, ks, rfl, ha, hd, hk, hdp, hl, hn, fun l zs H1 e1 hz hzs => ?_⟩
  rw [hrs] at hzs
  refine ⟨_, rfl, l, zs, rs, rfl, hz, hzs, hlr, fun r hr => (hb r hr).2.2.1, fun H2 e2 => ?_⟩
  have hz2 := e2 _ _ hz
  have hzs2 := hzs.same e2
  have hlz : zs.length = rs.length := by rw [hzs.len, List.length_map]
  obtain ⟨x0, x1⟩ := mx_bd hb
  obtain ⟨u1, u2⟩ := up_bounds (n := 1) (m := maxL 1 (rs.map (·.2))) (by omega)
  have y0 : 0 ≤ maxL 0 (rs.map (·.1)) := maxL_d _
  have y1 : maxL 0 (rs.map (·.1)) ≤ 2 ^ 150 := maxL_le (by decide) fun z hz => by obtain ⟨r, hr, rfl⟩ := List.mem_map.mp hz; exact (hb r hr).2.1
  refine ⟨_, rfl, l, rfl, ⟨_, SqL.of hz2⟩, ?_⟩
  refine comp_list (xs := zs) (fun i acc H' => Same H2 H' ∧ acc = (rs.take i).map fun r => V.int r.1) (by omega) ⟨Same.refl _, rfl⟩ (fun i acc H' hi ⟨e, ea⟩ => ⟨SqL.of (e _ _ hz2), by rw [ea, List.length_map, List.length_take]; omega⟩) (fun i x acc H' hx ⟨e, ea⟩ => ?_) (fun acc H' ⟨e, ea⟩ l3 hn3 => ?_)
  · obtain ⟨r, p, er, rfl, hp⟩ := rooms_at hzs2 hx
    refine nameYes ?_
    refine ⟨_, rfl, p, _, _, _, rfl, rfl, SqT.of (e _ _ hp), rfl, e, ?_⟩
    rw [ea, take_snoc er, List.map_append]
    rfl
  · rw [hlz, List.take_length] at ea
    have e3' : Same H (upd H' l3 (.lst acc)) := (e1.trans e2).trans (e.trans (same_new hn3 _))
    have key : ∀ M, M = maxL 0 (rs.map (·.1)) → ∃ v, ([some (V.ref a), some (.ref l), some (.int (maxL 1 (rs.map (·.2)))), some (.int M)] : St)[2]? = some (some v) ∧ ∃ m : Int, [v] ++ [] = [.int m] ∧ 0 < m ∧ m < 2 ^ 200 ∧
        ∃ v, ([some (V.ref a), some (.ref l), some (.int (maxL 1 (rs.map (·.2)))), some (.int M)] : St)[3]? = some (some v) ∧ ∃ i j, V.int (up 1 m) = .int i ∧ v = .int j ∧ ∃ v, ([some (V.ref a), some (.ref l), some (.int (maxL 1 (rs.map (·.2)))), some (.int M)] : St)[2]? = some (some v) ∧
          ∃ n m : Int, [V.int (i + j), v] ++ [] = [.int n, .int m] ∧ 0 ≤ n ∧ n < 2 ^ 200 ∧ 0 < m ∧ m < 2 ^ 200 ∧ ∃ v, ([some (V.ref a), some (.ref l), some (.int (maxL 1 (rs.map (·.2)))), some (.int M)] : St)[2]? = some (some v) ∧ ([V.int (up n m), v] : List V).length ≤ sizeLine ∧
            ∀ p, (upd H' l3 (.lst acc)) p = none → Q (.ref p) (upd (upd H' l3 (.lst acc)) p (.tup [.int (up n m), v])) := fun M eM => by
      subst eM
      exact ⟨_, rfl, _, rfl, by omega, by omega, _, rfl, _, _, rfl, rfl, _, rfl, _, _, rfl, by omega, by omega, by omega, by omega, _, rfl, lists3 2 (by decide), fun p hp => q p _ (e3'.trans (same_new hp _)) upd_same⟩
    refine ⟨l3, rs.map (·.1), 0, rfl, rfl, SqL.of (by rw [upd_same, ea, List.map_map]; rfl), fun en => ?_, fun M hM hle => ?_⟩
    · exact key 0 (by rw [en]; rfl)
    · obtain ⟨r, hr', rfl⟩ := List.mem_map.mp hM
      exact key _ (maxL_is hM (hb r hr').1 hle)
theorem fields_at {H : Hp} {x : V} : ∀ {fs : List (Str × Kd)} {ws : List V} {i : Nat}, IsDs H (dtF fs) ws → ws[i]? = some x → ∃ f p v, fs[i]? = some f ∧ x = .ref p ∧ H p = some (.tup [.str f.1, v]) ∧ IsD H f.2.dt v
  | [], _, _, h, e => by cases (show _ = [] from h); simp at e
  | k :: r, _, 0, ⟨u, vr, h1, h2, h3⟩, e => by
    subst h1
    simp at e
    subst e
    obtain ⟨p, ys, e1, e2, v1, r1, e3, e4, v2, r2, e5, e6, e7⟩ := h2
    cases e4
    cases e7
    subst e5
    subst e3
    exact ⟨k, p, v2, rfl, e1, e2, e6⟩
  | k :: r, _, i + 1, ⟨u, vr, h1, h2, h3⟩, e => by subst h1; obtain ⟨f, p, v, a, b⟩ := fields_at (i := i) h3 (by simpa using e); exact ⟨f, p, v, by simpa using a, b⟩
theorem dtF_len : ∀ (fs : List (Str × Kd)), (dtF fs).length = fs.length
  | [] => rfl
  | k :: r => by show (dtF r).length + 1 = _; rw [dtF_len r]; rfl
theorem dtK_snoc : ∀ (ks : List Kd) (k : Kd), dtK (ks ++ [k]) = dtK ks ++ [k.dt]
  | [], _ => rfl
  | a :: r, k => by show a.dt :: dtK (r ++ [k]) = _; rw [dtK_snoc r]; rfl
theorem okF_map : ∀ {fs : List (Str × Kd)}, okF fs → okK (fs.map (·.2))
  | [], _ => trivial
  | f :: r, h => ⟨h.1, okF_map h.2⟩
theorem deepF_map : ∀ (fs : List (Str × Kd)), deepK (fs.map (·.2)) = deepF fs
  | [] => rfl
  | f :: r => by show max f.2.deep (deepK (r.map (·.2))) = _; rw [deepF_map r]; rfl
theorem rmF_map : ∀ (fs : List (Str × Kd)), rmK (fs.map (·.2)) = rmF fs
  | [] => rfl
  | f :: r => by show f.2.rm :: rmK (r.map (·.2)) = _; rw [rmF_map r]; rfl
theorem ok_ro (F : Fun K "room_of" "room_of" s_room_of f fd) (GRR : FnOk P w K mg base CX0 j fRR dRR ["kind", "n"] (spRR n)) (bRR : Binds K dRR ["kind", "n"] []) (kRR : PySem.W.keepIn K (.ref fRR) = true) (mRR : mg "room_of_row" = some (.ref fRR))
    (GRC : FnOk P w K mg base CX0 j fRC dRC ["kinds"] (spRL rcdRm n)) (bRC : Binds K dRC ["kinds"] []) (kRC : PySem.W.keepIn K (.ref fRC) = true) (mRC : mg "room_of_record" = some (.ref fRC))
    (GRH : FnOk P w K mg base CX0 j fRH dRH ["kinds"] (spRL choRm n)) (bRH : Binds K dRH ["kinds"] []) (kRH : PySem.W.keepIn K (.ref fRH) = true) (mRH : mg "room_of_choice" = some (.ref fRH)) :
    FnOk P w K mg base CX0 (j + 1) f fd ["kind"] (spRO (n + 1)) := by
  refine F.ok sc_room_of (fun vs H Q E h => ?_) (fun cdv A outer s H vs Q E hr h => ?_)
  · obtain ⟨kd, v, rfl, _⟩ := h
    rfl
  obtain ⟨kd, v, rfl, hv, hk, hdp, hn, q⟩ := h
  refine ⟨_, (pss_cons (ps_if (pt_cmpR op_eq (pe_ix ix_tup (pv 0) pe_int (fun _ _ => rfl)) pe_str (nomark _)) (pss_one (ps_ret (pe_tup (pa_cons (pe_ix ix_tup (pv 0) pe_int (fun _ _ => rfl)) (pa_cons (pe_ix ix_tup (pv 0) pe_int (fun _ _ => rfl)) pa_nil))))) pss_nil)
    (pss_cons (ps_if (pt_cmpR op_eq (pe_ix ix_tup (pv 0) pe_int (fun _ _ => rfl)) pe_str (nomark _)) (pss_one (ps_ret (pe_call GRR hr rfl mRR kRR bRR .nil pass0 (pa_cons (pe_ix ix_tup (pv 0) pe_int (fun _ _ => rfl)) (pa_cons (pe_ix ix_tup (pv 0) pe_int (fun _ _ => rfl)) pa_nil))))) pss_nil)
    (pss_cons (ps_if (pt_cmpR op_eq (pe_ix ix_tup (pv 0) pe_int (fun _ _ => rfl)) pe_str (nomark _)) (pss_one (ps_ret (pe_call GRC hr rfl mRC kRC bRC .nil pass0 (pa_cons (pe_comp (dsc := defScope s_room_of) (N := ["kind"]) (tgs := ["field"]) (outs := []) (N' := ["field"]) ⟨rfl, by decide +kernel, by decide +kernel, by decide +kernel, rfl, by decide +kernel, by decide +kernel, by decide +kernel⟩ (pi_list (pe_ix ix_tup (pv 0) pe_int (fun _ _ => rfl))) (fun _ _ _ _ _ => (pg_name (i := 0) (show (["field"] : List Str).Nodup by decide +kernel) rfl (Or.inl rfl) (.inr rfl))) (tgt_name (by decide)) (fun _ _ _ _ _ => pcs_nil) (fun _ _ _ _ _ => (pe_ix (ix_tupK K) (pv 0) pe_int (fun _ _ => rfl)))) pa_nil)))) pss_nil)
    (pss_one (ps_ret (pe_call GRH hr rfl mRH kRH bRH .nil pass0 (pa_cons (pe_ix ix_tup (pv 0) pe_int (fun _ _ => rfl)) pa_nil))))))), ?_⟩
  have n1 : ∀ {x y : Str}, (x == y) = false → ¬ (V.str x = V.str y) := fun h => str_ne h
  cases kd with
  | num wd m =>
    obtain ⟨p, ys, rfl, hp, v1, r1, rfl, rfl, v2, r2, rfl, rfl, v3, r3, rfl, rfl, rfl⟩ := hv
    refine ⟨_, rfl, p, _, _, _, rfl, rfl, SqT.of hp, rfl, rfl, _, rfl, iteDT rfl ?_⟩
    exact ⟨_, rfl, p, _, _, _, rfl, rfl, SqT.of hp, rfl, _, rfl, p, _, _, _, rfl, rfl, SqT.of hp, rfl, lists3 2 (by decide), fun p2 n2 => q p2 _ (same_new n2 _) upd_same⟩
  | row k m =>
    obtain ⟨p, ys, rfl, hp, v1, r1, rfl, rfl, v2, r2, rfl, hv2, v3, r3, rfl, rfl, rfl⟩ := hv
    refine ⟨_, rfl, p, _, _, _, rfl, rfl, SqT.of hp, rfl, rfl, _, rfl, iteND (n1 (by decide +kernel)) ?_⟩
    refine ⟨_, rfl, p, _, _, _, rfl, rfl, SqT.of hp, rfl, rfl, _, rfl, iteDT rfl ?_⟩
    have hdp' : k.deep + 1 ≤ n + 1 := hdp
    exact ⟨_, rfl, p, _, _, _, rfl, rfl, SqT.of hp, rfl, _, rfl, p, _, _, _, rfl, rfl, SqT.of hp, rfl, k, v2, m, rfl, hv2, hk.1, by omega, by omega, hk.2.1, hk.2.2, q⟩
  | rcd fs =>
    obtain ⟨p, ys, rfl, hp, v1, r1, rfl, rfl, v2, r2, rfl, ⟨l, zs, rfl, hl, hzs⟩, rfl⟩ := hv
    refine ⟨_, rfl, p, _, _, _, rfl, rfl, SqT.of hp, rfl, rfl, _, rfl, iteND (n1 (by decide +kernel)) ?_⟩
    refine ⟨_, rfl, p, _, _, _, rfl, rfl, SqT.of hp, rfl, rfl, _, rfl, iteND (n1 (by decide +kernel)) ?_⟩
    refine ⟨_, rfl, p, _, _, _, rfl, rfl, SqT.of hp, rfl, rfl, _, rfl, iteDT rfl ?_⟩
    have hdp' : deepF fs + 1 ≤ n + 1 := hdp
    have hlz : zs.length = fs.length := by rw [hzs.len, dtF_len]
    have hlf := hk.2
    refine ⟨_, rfl, p, _, _, _, rfl, rfl, SqT.of hp, rfl, l, rfl, ⟨_, SqL.of hl⟩, ?_⟩
    refine comp_list (xs := zs) (fun i acc H' => Same H H' ∧ IsDs H' (dtK ((fs.take i).map (·.2))) acc) (by omega) ⟨Same.refl _, rfl⟩ (fun i acc H' hi ⟨e, ea⟩ => ⟨SqL.of (e _ _ hl), by rw [ea.len, dtK_len, List.length_map, List.length_take]; omega⟩) (fun i x acc H' hx ⟨e, ea⟩ => ?_) (fun acc H' ⟨e, ea⟩ l2 hn2 => ?_)
    · obtain ⟨fl, pf, vf, ef, rfl, hpf, hvf⟩ := fields_at hzs hx
      refine nameYes ?_
      refine ⟨_, rfl, pf, _, _, _, rfl, rfl, SqT.of (e _ _ hpf), rfl, e, ?_⟩
      rw [take_snoc ef, List.map_append, List.map_cons, List.map_nil, dtK_snoc]
      exact ea.snoc (hvf.same e)
    · rw [hlz, List.take_length] at ea
      refine ⟨l2, acc, fs.map (·.2), rfl, upd_same, ea.same (same_new hn2 _), okF_map hk.1, by rw [deepF_map]; omega, by rw [List.length_map]; exact hlf, by omega, fun p2 H2 e2 hp2 => ?_⟩
      rw [rmF_map] at hp2
      exact q p2 H2 ((e.trans (same_new hn2 _)).trans e2) hp2
  | cho ks =>
    obtain ⟨p, ys, rfl, hp, v1, r1, rfl, rfl, v2, r2, rfl, ⟨l, zs, rfl, hl, hzs⟩, rfl⟩ := hv
    refine ⟨_, rfl, p, _, _, _, rfl, rfl, SqT.of hp, rfl, rfl, _, rfl, iteND (n1 (by decide +kernel)) ?_⟩
    refine ⟨_, rfl, p, _, _, _, rfl, rfl, SqT.of hp, rfl, rfl, _, rfl, iteND (n1 (by decide +kernel)) ?_⟩
    refine ⟨_, rfl, p, _, _, _, rfl, rfl, SqT.of hp, rfl, rfl, _, rfl, iteND (n1 (by decide +kernel)) ?_⟩
    have hdp' : deepK ks + 1 ≤ n + 1 := hdp
    exact ⟨_, rfl, p, _, _, _, rfl, rfl, SqT.of hp, rfl, l, zs, ks, rfl, hl, hzs, hk.1, by omega, hk.2, by omega, q⟩
theorem ro_none : FnOk P w K mg base CX0 j f fd ["kind"] (spRO 0) := by
  have no : ∀ vs H Q E, ¬ spRO 0 vs H Q E := fun vs H Q E h => by
    obtain ⟨kd, v, _, _, _, hd, _⟩ := h
    have := Kd.deep_pos kd
    omega
  exact ⟨fun vs H Q E h => absurd h (no vs H Q E), fun A outer s H args us vs Q E _ _ _ _ h => absurd h (no vs H Q E)⟩
end


def ldt (r : Int × Int) : Dt := .lst [.int r.1, .int r.2]
mutual
def Kd.Full : Kd → Prop
  | .num _ _ => True
  | .row k _ => k.Full
  | .rcd fs => fs ≠ [] ∧ fullF fs
  | .cho ks => ks ≠ [] ∧ fullK ks
def fullF : List (Str × Kd) → Prop
  | [] => True
  | f :: r => f.2.Full ∧ fullF r
def fullK : List Kd → Prop
  | [] => True
  | k :: r => k.Full ∧ fullK r
end
theorem fullK_at : ∀ {ks : List Kd} {i : Nat} {k : Kd}, fullK ks → ks[i]? = some k → k.Full
  | [], _, _, _, e => by simp at e
  | k' :: r, 0, k, h, e => by simp at e; subst e; exact h.1
  | k' :: r, i + 1, k, h, e => fullK_at (i := i) h.2 (by simpa using e)
theorem okF_at : ∀ {fs : List (Str × Kd)} {i : Nat} {f : Str × Kd}, okF fs → fs[i]? = some f → f.2.Ok ∧ f.2.deep ≤ deepF fs
  | [], _, _, _, e => by simp at e
  | k' :: r, 0, k, h, e => by simp at e; subst e; exact ⟨h.1, Nat.le_max_left _ _⟩
  | k' :: r, i + 1, k, h, e => by obtain ⟨a, b⟩ := okF_at (i := i) h.2 (by simpa using e); exact ⟨a, Nat.le_trans b (Nat.le_max_right _ _)⟩
theorem rmF_at : ∀ {fs : List (Str × Kd)} {i : Nat} {f : Str × Kd}, fs[i]? = some f → (rmF fs)[i]? = some f.2.rm
  | [], _, _, e => by simp at e
  | k' :: r, 0, k, e => by simp at e; subst e; rfl
  | k' :: r, i + 1, k, e => by show (rmF r)[i]? = _; exact rmF_at (by simpa using e)
theorem bdF12 {fs : List (Str × Kd)} {n : Nat} (h : okF fs) (hd : deepF fs ≤ n) (hn : n ≤ 12) : ∀ r ∈ rmF fs, Bd (2 ^ 150) r := fun r hr => (bdF fs h r hr).mono (Int.le_of_lt (bnd12 (Nat.le_trans hd hn)))

mutual
def Dt.Sm : Dt → Prop
  | .tup ds => ds.length ≤ 1000 ∧ smD ds
  | .lst ds => ds.length ≤ 1000 ∧ smD ds
  | .int _ => True
  | .str _ => True
  | .bl _ => True
def smD : List Dt → Prop
  | [] => True
  | d :: r => d.Sm ∧ smD r
end
mutual
theorem Kd.dt_sm : ∀ k : Kd, k.Ok → k.dt.Sm
  | .num _ _, _ => ⟨by show 3 ≤ 1000; decide, trivial, trivial, trivial, trivial⟩
  | .row k _, h => ⟨by show 3 ≤ 1000; decide, trivial, Kd.dt_sm k h.1, trivial, trivial⟩
  | .rcd fs, h => ⟨by show 2 ≤ 1000; decide, trivial, ⟨by rw [dtF_len]; have := h.2; omega, dtF_sm fs h.1⟩, trivial⟩
  | .cho ks, h => ⟨by show 2 ≤ 1000; decide, trivial, ⟨by rw [dtK_len]; have := h.2; omega, dtK_sm ks h.1⟩, trivial⟩
theorem dtF_sm : ∀ fs : List (Str × Kd), okF fs → smD (dtF fs)
  | [], _ => trivial
  | f :: r, h => ⟨⟨by show 2 ≤ 1000; decide, trivial, Kd.dt_sm f.2 h.1, trivial⟩, dtF_sm r h.2⟩
theorem dtK_sm : ∀ ks : List Kd, okK ks → smD (dtK ks)
  | [], _ => trivial
  | k :: r, h => ⟨Kd.dt_sm k h.1, dtK_sm r h.2⟩
end
def spLC (n : Nat) : Sp := fun vs H Q _ => ∃ (d : Dt) (v : V), vs = [v] ∧ IsD H d v ∧ d.Sm ∧ d.deep ≤ n ∧ ∀ v' H', Same H H' → IsD H' d v' → Q v' H'
def spLS (n : Nat) : Sp := fun vs H Q _ => ∃ (d : Dt) (v u : V), vs = [v, u] ∧ IsD H d v ∧ IsD H d u ∧ d.Sm ∧ d.deep ≤ n ∧ ∀ H', Same H H' → Q (.bl true) H'
section
variable {K : PySem.W.Frag}
def Dt.isB : Dt → Bool
  | .bl _ => true
  | _ => false
def Dt.isT : Dt → Bool
  | .tup _ => true
  | _ => false
def Dt.isL : Dt → Bool
  | .lst _ => true
  | _ => false
def Dt.isS : Dt → Bool
  | .str _ => true
  | _ => false
end
def codes (x : Str) : List Nat := x.cps.toList
theorem codes_len (x : Str) : x.length = (codes x).length := by simp [codes, Str.length]
theorem codes_app (x y : Str) : codes (x ++ y) = codes x ++ codes y := by
  show (x.cps ++ y.cps).toList = _
  rw [Array.toList_append]
  rfl
theorem codes_one (c : Nat) : codes ⟨#[c]⟩ = [c] := rfl
theorem codes_to {x : Str} {k : Int} (h0 : 0 ≤ k) (h1 : k ≤ (codes x).length) : codes (Txt.slice x none (some k)) = (codes x).take k.toNat := by
  have e := beq_iff_eq.mp (PyProof.Rows.slice_closes_toL (x := x) h0 (by rw [codes_len]; exact h1))
  rw [e]
  show (((x.cps.toList.drop 0).take (k - 0).toNat).toArray).toList = _
  simp [codes]
def Low (l : List Nat) : Prop := ∀ c ∈ l, 97 ≤ c ∧ c ≤ 122
def Nm (x : Str) : Prop := 1 ≤ (codes x).length ∧ (codes x).length ≤ 8 ∧ Low (codes x)
abbrev lets : Str := "abcdefghijklmnopqrstuvwxyz"
theorem lets_codes : codes lets = (List.range 26).map (97 + ·) := by decide +kernel
theorem lets_at {r : Int} (h0 : 0 ≤ r) (h1 : r < 26) : atI lets.cps.toList r = some (97 + r.toNat) := by
  have e : ((r.toNat : Nat) : Int) = r := by omega
  have q : atI (codes lets) ((r.toNat : Nat) : Int) = some (97 + r.toNat) := atI_nat (by
    rw [lets_codes, List.getElem?_map, List.getElem?_range (by omega)]
    rfl)
  rw [e] at q
  exact q
theorem len_app (x y : Str) : (x ++ y).length = x.length + y.length := by rw [codes_len, codes_app, List.length_append, codes_len x, codes_len y]
mutual
def Kd.Fit : Kd → Prop
  | .num w m => 1 ≤ w ∧ w ≤ 8 ∧ (m = 1 ∨ m = 2 ∨ m = 4 ∨ m = 8)
  | .row k n => k.Fit ∧ 1 ≤ n ∧ n ≤ 20
  | .rcd fs => fitF fs ∧ 1 ≤ fs.length ∧ fs.length ≤ 8 ∧ (fs.map (·.1)).Nodup
  | .cho ks => fitK ks ∧ 1 ≤ ks.length ∧ ks.length ≤ 6
def fitF : List (Str × Kd) → Prop
  | [] => True
  | f :: r => (Nm f.1 ∧ f.2.Fit) ∧ fitF r
def fitK : List Kd → Prop
  | [] => True
  | k :: r => k.Fit ∧ fitK r
end
mutual
theorem Kd.Fit.ok : ∀ (k : Kd), k.Fit → k.Ok
  | .num w m, h => by
    obtain ⟨a, b, c⟩ := h
    exact ⟨a, b, by omega, by omega⟩
  | .row k n, h => ⟨Kd.Fit.ok k h.1, by have := h.2.1; omega, by have := h.2.2; omega⟩
  | .rcd fs, h => ⟨fitF_ok fs h.1, by have := h.2.2.1; omega⟩
  | .cho ks, h => ⟨fitK_ok ks h.1, by have := h.2.2; omega⟩
theorem fitF_ok : ∀ (fs : List (Str × Kd)), fitF fs → okF fs
  | [], _ => trivial
  | f :: r, h => ⟨Kd.Fit.ok f.2 h.1.2, fitF_ok r h.2⟩
theorem fitK_ok : ∀ (ks : List Kd), fitK ks → okK ks
  | [], _ => trivial
  | k :: r, h => ⟨Kd.Fit.ok k h.1, fitK_ok r h.2⟩
end
mutual
theorem Kd.Fit.full : ∀ (k : Kd), k.Fit → k.Full
  | .num w m, h => trivial
  | .row k n, h => Kd.Fit.full k h.1
  | .rcd fs, h => ⟨(by intro z; rw [z] at h; exact absurd h.2.1 (by decide)), fitF_full fs h.1⟩
  | .cho ks, h => ⟨(by intro z; rw [z] at h; exact absurd h.2.1 (by decide)), fitK_full ks h.1⟩
theorem fitF_full : ∀ (fs : List (Str × Kd)), fitF fs → fullF fs
  | [], _ => trivial
  | f :: r, h => ⟨Kd.Fit.full f.2 h.1.2, fitF_full r h.2⟩
theorem fitK_full : ∀ (ks : List Kd), fitK ks → fullK ks
  | [], _ => trivial
  | k :: r, h => ⟨Kd.Fit.full k h.1, fitK_full r h.2⟩
end
theorem dtF_snoc : ∀ (fs : List (Str × Kd)) (f : Str × Kd), dtF (fs ++ [f]) = dtF fs ++ [.tup [.str f.1, f.2.dt]]
  | [], _ => rfl
  | g :: r, f => by show _ :: dtF (r ++ [f]) = _; rw [dtF_snoc r]; rfl
theorem fitK_snoc : ∀ {ks : List Kd} {k : Kd}, fitK ks → k.Fit → fitK (ks ++ [k])
  | [], _, _, b => ⟨b, trivial⟩
  | g :: r, f, h, b => ⟨h.1, fitK_snoc h.2 b⟩
theorem deepK_snoc : ∀ {ks : List Kd} {k : Kd} {n : Nat}, deepK ks ≤ n → k.deep ≤ n → deepK (ks ++ [k]) ≤ n
  | [], f, n, _, b => by show max f.deep 0 ≤ n; omega
  | g :: r, f, n, h, b => by
    have h' : max g.deep (deepK r) ≤ n := h
    have := deepK_snoc (ks := r) (k := f) (n := n) (by omega) b
    show max g.deep (deepK (r ++ [f])) ≤ n
    omega
theorem num_is {H : Hp} {p t : Addr} {w m : Int} (n : t ≠ p) (h : H t = some (.tup [.str "number", .int w, .int m])) : IsD (hide p H) (Kd.num w m).dt (.ref t) :=
  ⟨t, _, rfl, by rw [hide_ne n]; exact h, _, _, rfl, rfl, _, _, rfl, rfl, _, _, rfl, rfl, rfl⟩
theorem row_is {H : Hp} {p t : Addr} {kd : Kd} {v : V} {m : Int} (n : t ≠ p) (h : H t = some (.tup [.str "row", v, .int m])) (hk : IsD (hide p H) kd.dt v) : IsD (hide p H) (Kd.row kd m).dt (.ref t) :=
  ⟨t, _, rfl, by rw [hide_ne n]; exact h, _, _, rfl, rfl, _, _, rfl, hk, _, _, rfl, rfl, rfl⟩
theorem rcd_is {H : Hp} {p t l : Addr} {fs : List (Str × Kd)} {vs : List V} (n : t ≠ p) (nl : l ≠ p) (h : H t = some (.tup [.str "record", .ref l])) (hl : H l = some (.lst vs)) (hk : IsDs (hide p H) (dtF fs) vs) : IsD (hide p H) (Kd.rcd fs).dt (.ref t) :=
  ⟨t, _, rfl, by rw [hide_ne n]; exact h, _, _, rfl, rfl, _, _, rfl, ⟨l, _, rfl, by rw [hide_ne nl]; exact hl, hk⟩, rfl⟩
theorem cho_is {H : Hp} {p t l : Addr} {ks : List Kd} {vs : List V} (n : t ≠ p) (nl : l ≠ p) (h : H t = some (.tup [.str "choice", .ref l])) (hl : H l = some (.lst vs)) (hk : IsDs (hide p H) (dtK ks) vs) : IsD (hide p H) (Kd.cho ks).dt (.ref t) :=
  ⟨t, _, rfl, by rw [hide_ne n]; exact h, _, _, rfl, rfl, _, _, rfl, ⟨l, _, rfl, by rw [hide_ne nl]; exact hl, hk⟩, rfl⟩
theorem two_in {v : V} {a b B : Int} (h : v ∈ [V.int a, V.int b]) (a0 : 0 ≤ a) (a1 : a < B) (b0 : 0 ≤ b) (b1 : b < B) : ∃ z, v = .int z ∧ 0 ≤ z ∧ z < B := by
  simp only [List.mem_cons, List.not_mem_nil, or_false] at h
  rcases h with rfl | rfl
  · exact ⟨_, rfl, a0, a1⟩
  · exact ⟨_, rfl, b0, b1⟩
theorem four_in {v : V} (h : v ∈ [V.int 1, V.int 2, V.int 4, V.int 8]) : ∃ z, v = .int z ∧ (z = 1 ∨ z = 2 ∨ z = 4 ∨ z = 8) := by
  simp only [List.mem_cons, List.not_mem_nil, or_false] at h
  rcases h with rfl | rfl | rfl | rfl
  · exact ⟨_, rfl, by omega⟩
  · exact ⟨_, rfl, by omega⟩
  · exact ⟨_, rfl, by omega⟩
  · exact ⟨_, rfl, by omega⟩
structure Fx (K : PySem.W.Frag) (mg : Str → Option Value) (nm : Str) (st : Stmt) (ps : List Str) (f : Addr) (fd : FuncData) : Prop where
  F : Fun K nm nm st f fd
  b : Binds K fd ps []
  k : PySem.W.keepIn K (.ref f) = true
  m : mg nm = some (.ref f)
section
variable {P : Program} {w : World} {K : PySem.W.Frag} {mg : Str → Option Value} {base : Heap} {fRU fRO fRS fGM fSO fRR fRC fPB fRH fCA fP fT fLR fLM fLN fLK fLC fLS f : Addr} {dRU dRO dRS dGM dSO dRR dRC dPB dRH dCA dP dT dLR dLM dLN dLK dLC dLS fd : FuncData}
theorem ro_all (xRU : Fx K mg "rounded_up" s_rounded_up ["number", "m"] fRU dRU) (xRO : Fx K mg "room_of" s_room_of ["kind"] fRO dRO) (xRS : Fx K mg "rooms_of" s_rooms_of ["kinds"] fRS dRS) (xGM : Fx K mg "greatest_multiple" s_greatest_multiple ["rooms"] fGM dGM)
    (xSO : Fx K mg "step_of" s_step_of ["room"] fSO dSO) (xRR : Fx K mg "room_of_row" s_room_of_row ["kind", "n"] fRR dRR) (xRC : Fx K mg "room_of_record" s_room_of_record ["kinds"] fRC dRC) (xPB : Fx K mg "places_behind" s_places_behind ["rooms"] fPB dPB)
    (xRH : Fx K mg "room_of_choice" s_room_of_choice ["kinds"] fRH dRH) (xCA : Fx K mg "chosen_at" s_chosen_at ["multiple"] fCA dCA) (m_max : mg "max" = none) (m_zip : mg "zip" = none) :
    ∀ n, FnOk P w K mg base CX0 (2 + 3 * n) fRO dRO ["kind"] (spRO n)
  | 0 => ro_none
  | n + 1 => by
    have ih := ro_all xRU xRO xRS xGM xSO xRR xRC xPB xRH xCA m_max m_zip n
    have GRU : FnOk P w K mg base CX0 1 fRU dRU ["number", "m"] spRU := ok_ru xRU.F
    have GSO : FnOk P w K mg base CX0 2 fSO dSO ["room"] spSO := ok_so xSO.F GRU xRU.b xRU.k xRU.m
    have GCA : FnOk P w K mg base CX0 2 fCA dCA ["multiple"] spCA := ok_ca xCA.F GRU xRU.b xRU.k xRU.m
    have GGM : FnOk P w K mg base CX0 1 fGM dGM ["rooms"] spGM := ok_gm xGM.F m_max
    have GPB : FnOk P w K mg base CX0 2 fPB dPB ["rooms"] spPB := ok_pb xPB.F GRU xRU.b xRU.k xRU.m
    have GRS := ok_rs xRS.F ih xRO.b xRO.k xRO.m
    have GRR := ok_rr xRR.F (ih.mono (Nat.le_succ _)) xRO.b xRO.k xRO.m GSO xSO.b xSO.k xSO.m (by omega)
    have GRC := ok_rc xRC.F GRS xRS.b xRS.k xRS.m GGM xGM.b xGM.k xGM.m GPB xPB.b xPB.k xPB.m GRU xRU.b xRU.k xRU.m m_max m_zip (by omega)
    have GRH := ok_rh xRH.F GRS xRS.b xRS.k xRS.m GGM xGM.b xGM.k xGM.m GCA xCA.b xCA.k xCA.m GRU xRU.b xRU.k xRU.m m_max (by omega)
    exact (ok_ro xRO.F GRR xRR.b xRR.k xRR.m GRC xRC.b xRC.k xRC.m GRH xRH.b xRH.k xRH.m).mono (by omega)
end

def DeckAt (p : Addr) (H : Hp) : Prop := ∃ ns : List Int, H p = some (.lst (ns.map V.int)) ∧ ∀ n ∈ ns, 0 ≤ n ∧ n < 2 ^ 40
theorem DeckAt.same {p : Addr} {H H' : Hp} (h : DeckAt p H) (e : Same H H') : DeckAt p H' := by
  obtain ⟨ns, a, b⟩ := h
  exact ⟨ns, e _ _ a, b⟩
theorem DeckAt.ne {p l : Addr} {H : Hp} (h : DeckAt p H) (hl : H l = none) : l ≠ p := by
  obtain ⟨ns, a, b⟩ := h
  intro e
  rw [e, a] at hl
  cases hl
theorem same_set {H H' : Hp} {l : Addr} (e : Same H H') (hl : H l = none) (o : HO) : Same H (upd H' l o) := fun b u q => by
  rw [upd_ne (ne_of_none q hl)]
  exact e b u q
def spCE (K : PySem.W.Frag) : Sp := fun vs H Q _ => ∃ (a : Addr) (ns : List Int) (k : Int), vs = [.ref a, .int k] ∧ SqL K H a (ns.map V.int) ∧ 0 ≤ k ∧ ∀ c : Int, Q (.int c) H
def spST : Sp := fun vs H Q _ => ∃ c k : Int, vs = [.int c, .int k] ∧ 0 ≤ k ∧ k < 2 ^ 20 ∧ ∀ r : Int, 0 ≤ r → r < 2 ^ 40 → Q (.int r) H
def spDE : Sp := fun vs H Q _ => ∃ c m : Int, vs = [.int c, .int m] ∧ 0 ≤ m ∧ m ≤ 200 ∧ ∀ (p : Addr) (H' : Hp), H p = none → Same H H' → DeckAt p H' → Q (.ref p) H'
def spNX : Sp := fun vs H Q _ => ∃ p : Addr, vs = [.ref p] ∧ DeckAt p H ∧ ∀ (r : Int) (H' : Hp), 0 ≤ r → r < 2 ^ 40 → SameX p H H' → DeckAt p H' → Q (.int r) H'
def spNA : Sp := fun vs H Q _ => ∃ (p : Addr) (many : Int), vs = [.ref p, .int many] ∧ DeckAt p H ∧ 0 ≤ many ∧ many ≤ 12 ∧
  ∀ (l : Addr) (xs : List Str) (H' : Hp), l ≠ p → H l = none → H' l = some (.lst (xs.map V.str)) → xs.length = many.toNat → xs.Nodup → (∀ x ∈ xs, Nm x) → SameX p H H' → DeckAt p H' → Q (.ref l) H'
section
variable {P : Program} {w : World} {K : PySem.W.Frag} {mg : Str → Option Value} {base : Heap} {f fST fNX : Addr} {fd dST dNX : FuncData}
theorem ok_ce (F : Fun K "_law_cell_at" "_law_cell_at" s_law_cell_at f fd) (m_len : mg "len" = none) : FnOk P w K mg base CX0 1 f fd ["script", "k"] (spCE K) := by
  refine F.ok sc_law_cell_at (fun vs H Q E h => ?_) (fun cdv A outer s H vs Q E hr h => ?_)
  · obtain ⟨a, ns, k, rfl, _⟩ := h
    rfl
  obtain ⟨a, ns, k, rfl, hS, h0, q⟩ := h
  refine ⟨_, (pss_cons (ps_if (pt_cmpR op_lt (pv 1) (pe_callB call_len_seq rfl m_len PySem.boot_len (pa_cons (pv 0) pa_nil)) (nomark _)) (pss_one (ps_ret (pe_ix ix_list (pv 0) (pv 1) (fun _ _ => rfl)))) pss_nil)
    (pss_one (ps_ret pe_int))), ?_⟩
  refine ⟨_, rfl, _, rfl, a, _, rfl, .inl hS, _, _, rfl, rfl, _, rfl, ite2 (fun c => ?_) (fun c => q 0)⟩
  obtain ⟨v, hv, hm⟩ := atI_in (xs := ns.map V.int) h0 (of_decide_eq_true c)
  obtain ⟨z, _, rfl⟩ := List.mem_map.mp hm
  exact ⟨_, rfl, _, rfl, a, _, _, _, rfl, rfl, hS, hv, q z⟩
theorem ok_st (F : Fun K "_law_stir" "_law_stir" s_law_stir f fd) : FnOk P w K mg base CX0 1 f fd ["cell", "k"] spST := by
  refine F.ok sc_law_stir (fun vs H Q E h => ?_) (fun cdv A outer s H vs Q E hr h => ?_)
  · obtain ⟨c, k, rfl, _⟩ := h
    rfl
  obtain ⟨c, k, rfl, h0, h1, q⟩ := h
  refine ⟨_, (pss_cons (ps_set (i := 2) sc_law_stir.nd rfl (Or.inl rfl) (pe_op op_mod (pe_op op_mulB (pe_op op_add (pe_op op_add (pe_op op_mod (pv 0) pe_int) (pe_op op_mulB pe_int (pv 1))) pe_int) pe_int) pe_int))
    (pss_cons (ps_set (i := 2) sc_law_stir.nd rfl (Or.inl rfl) (pe_op op_mod (pe_op op_mulB (pv 2) (pv 2)) pe_int))
    (pss_one (ps_ret (pe_op op_fdivB (pe_op op_mod (pe_op op_mulB (pe_op op_add (pv 2) (pe_op op_mulB pe_int (pv 1))) pe_int) pe_int) pe_int))))), ?_⟩
  have a0 : (0 : Int) ≤ c % 2147483629 := Int.emod_nonneg _ (by decide)
  have a1 : c % 2147483629 < 2147483629 := Int.emod_lt_of_pos _ (by decide)
  refine ⟨_, rfl, _, _, rfl, rfl, (by show (0 : Int) < 2147483629; decide), _, rfl, _, _, rfl, rfl, ⟨by decide, by omega⟩, _, _, rfl, rfl, _, _, rfl, rfl, _, _, rfl, rfl, ⟨by omega, by decide⟩, _, _, rfl, rfl, (by show (0 : Int) < 2147483647; decide), ?_⟩
  have b0 : (0 : Int) ≤ (c % 2147483629 + 9973 * k + 5) * 48271 % 2147483647 := Int.emod_nonneg _ (by decide)
  have b1 : (c % 2147483629 + 9973 * k + 5) * 48271 % 2147483647 < 2147483647 := Int.emod_lt_of_pos _ (by decide)
  generalize (c % 2147483629 + 9973 * k + 5) * 48271 % 2147483647 = B at b0 b1 ⊢
  refine ⟨_, rfl, _, rfl, _, _, rfl, rfl, ⟨by omega, by omega⟩, _, _, rfl, rfl, (by show (0 : Int) < 2147483587; decide), ?_⟩
  have c0 : (0 : Int) ≤ B * B % 2147483587 := Int.emod_nonneg _ (by decide)
  have c1 : B * B % 2147483587 < 2147483587 := Int.emod_lt_of_pos _ (by decide)
  generalize B * B % 2147483587 = C at c0 c1 ⊢
  refine ⟨_, rfl, _, rfl, _, _, rfl, rfl, ⟨by decide, by omega⟩, _, _, rfl, rfl, _, _, rfl, rfl, ⟨by omega, by decide⟩, _, _, rfl, rfl, (by show (0 : Int) < 2147483563; decide), _, _, rfl, rfl, ⟨by decide, by decide⟩, ?_⟩
  have d0 : (0 : Int) ≤ (C + 7919 * k) * 16807 % 2147483563 := Int.emod_nonneg _ (by decide)
  have d1 : (C + 7919 * k) * 16807 % 2147483563 < 2147483563 := Int.emod_lt_of_pos _ (by decide)
  generalize (C + 7919 * k) * 16807 % 2147483563 = D at d0 d1 ⊢
  exact q _ (by omega) (by omega)
theorem ok_de (F : Fun K "_law_deck" "_law_deck" s_law_deck f fd) (GST : FnOk P w K mg base CX0 1 fST dST ["cell", "k"] spST) (bST : Binds K dST ["cell", "k"] []) (kST : PySem.W.keepIn K (.ref fST) = true) (mST : mg "_law_stir" = some (.ref fST)) (m_range : mg "range" = none) :
    FnOk P w K mg base CX0 2 f fd ["cell", "many"] spDE := by
  refine F.ok sc_law_deck (fun vs H Q E h => ?_) (fun cdv A outer s H vs Q E hr h => ?_)
  · obtain ⟨c, m, rfl, _⟩ := h
    rfl
  obtain ⟨c, m, rfl, h0, h1, q⟩ := h
  refine ⟨_, (pss_cons (ps_set (i := 2) sc_law_deck.nd rfl (Or.inl rfl) (pe_lst pa_nil))
    (pss_cons (ps_set (i := 3) sc_law_deck.nd rfl (Or.inl rfl) (pv 0))
    (pss_cons (ps_for PassesOwn.never rfl (pi_range1 rfl m_range (pa_cons (pv 1) pa_nil)) (pg_name (i := 4) sc_law_deck.nd rfl (Or.inl rfl)) (pss_cons (ps_set (i := 5) sc_law_deck.nd rfl (Or.inl rfl) (pe_call GST hr rfl mST kST bST .nil pass0 (pa_cons (pv 0) (pa_cons (pv 4) pa_nil))))
    (pss_cons (ps_mid (ps_if (pt_cmpR op_ge (pv 0) (pe_op op_pow pe_int pe_int) (nomark _)) (pss_one (ps_set (i := 5) sc_law_deck.nd rfl (Or.inl rfl) (pe_op op_mod (pv 3) pe_int))) pss_nil))
    (pss_cons (ps_set (i := 3) sc_law_deck.nd rfl (Or.inl rfl) (pe_op op_fdivB (pv 3) pe_int))
    (pss_one (ps_expr (pe_bm PySem.F.plainAttrs_list PySem.F.slot_list_append PySem.F.type_list_append mt_append (pv 2) (pa_cons (pv 5) pa_nil))))))))
    (pss_one (ps_ret (pe_revL (pv 2))))))), ?_⟩
  have cp : CPow 10 18 := ⟨by decide, by decide, by decide⟩
  refine ⟨lists3 0 (by decide), fun l hl => ⟨_, rfl, _, rfl, m, rfl, by omega, by omega, ?_⟩⟩
  refine for_range (n := m.toNat) (fun i σ H' => ∃ (ns : List Int) (d : Int) (x4 x5 : Option V), σ = [some (.int c), some (.int m), some (.ref l), some (.int d), x4, x5] ∧ ns.length = i ∧ (∀ n ∈ ns, 0 ≤ n ∧ n < 2 ^ 40) ∧ Same H H' ∧ H' l = some (.lst (ns.map V.int))) ?_ ?_ ?_
  · exact ⟨[], _, _, _, rfl, rfl, (fun n hn => nomatch hn), same_new hl _, upd_same⟩
  · rintro i σ H1 hi ⟨ns, d, x4, x5, rfl, hln, hns, e1, hl1⟩
    refine ⟨_, rfl, _, rfl, c, _, rfl, by omega, by omega, fun r r0 r1 => ?_⟩
    refine ⟨fun σ' H' => ∃ r : Int, 0 ≤ r ∧ r < 2 ^ 40 ∧ σ' = [some (.int c), some (.int m), some (.ref l), some (.int d), some (.int (0 + (i : Int))), some (.int r)] ∧ H' = H1, ?_, ?_⟩
    · refine ⟨_, rfl, _, _, rfl, rfl, cp, _, _, rfl, rfl, _, rfl, ite2 (fun c2 => ?_) (fun c2 => ⟨r, r0, r1, rfl, rfl⟩)⟩
      have g0 : (0 : Int) ≤ d % 720720 := Int.emod_nonneg _ (by decide)
      have g1 : d % 720720 < 720720 := Int.emod_lt_of_pos _ (by decide)
      exact ⟨_, rfl, _, _, rfl, rfl, (by show (0 : Int) < 720720; decide), _, g0, by omega, rfl, rfl⟩
    · rintro σ' H' ⟨r', r'0, r'1, rfl, rfl⟩
      refine ⟨_, rfl, _, _, rfl, rfl, ⟨by decide, by decide⟩, _, rfl, .inl ⟨rfl, _, SqL.of hl1⟩, _, rfl, l, _, _, rfl, rfl, hl1, by rw [List.length_map]; exact small1000 (by omega), ?_⟩
      refine ⟨ns ++ [r'], _, _, _, rfl, by rw [List.length_append, hln]; rfl, fun n hn => ?_, same_set e1 hl _, by rw [upd_same, List.map_append]; rfl⟩
      rcases List.mem_append.mp hn with hn | hn
      · exact hns n hn
      · rw [List.mem_singleton.mp hn]; exact ⟨r'0, r'1⟩
  · rintro σ H1 ⟨ns, d, x4, x5, rfl, hln, hns, e1, hl1⟩
    refine ⟨_, rfl, l, _, rfl, SqL.of hl1, fun p hp => ?_⟩
    have hpH : H p = none := by
      cases z : H p with
      | none => rfl
      | some o => rw [e1 _ _ z] at hp; cases hp
    exact q p _ hpH (e1.trans (same_new hp _)) ⟨ns.reverse, by rw [upd_same, List.map_reverse], fun n hn => hns n (List.mem_reverse.mp hn)⟩
theorem ok_nx (F : Fun K "_law_next" "_law_next" s_law_next f fd) : FnOk P w K mg base CX0 1 f fd ["deck"] spNX := by
  refine F.ok sc_law_next (fun vs H Q E h => ?_) (fun cdv A outer s H vs Q E hr h => ?_)
  · obtain ⟨p, rfl, _⟩ := h
    rfl
  obtain ⟨p, rfl, ⟨ns, hp, hns⟩, q⟩ := h
  have hu := hr.units0
  refine ⟨_, (pss_cons (ps_if (pt_cmpR (op_eqNil hu) (pv 0) (pe_lst pa_nil) (nomark _)) (pss_one (ps_ret pe_int)) pss_nil)
    (pss_one (ps_ret (pe_bm0 PySem.F.plainAttrs_list PySem.F.slot_list_pop PySem.F.type_list_pop mt_pop (pv 0))))), ?_⟩
  refine ⟨_, rfl, lists3 0 (by decide), fun l2 hn2 => ?_⟩
  have e1 := same_new hn2 (.lst [])
  have hp1 := e1 _ _ hp
  refine ⟨p, l2, _, rfl, rfl, SqL.of hp1, SqL.of upd_same, _, rfl, ite2 (fun c => ?_) (fun c => ?_)⟩
  · exact q 0 _ (by decide) (by decide) (SameX.of e1) ⟨ns, hp1, hns⟩
  · have hne : ns ≠ [] := fun z => by subst z; exact c rfl
    have hy : (ns.map V.int)[(ns.map V.int).length - 1]? = some (.int (ns.getLast hne)) := by
      rw [List.getElem?_map, List.length_map, ← List.getLast?_eq_getElem?, List.getLast?_eq_some_getLast hne]
      rfl
    refine ⟨_, rfl, .inl ⟨rfl, _, SqL.of hp1⟩, p, _, _, rfl, rfl, hp1, hy, ?_⟩
    obtain ⟨g0, g1⟩ := hns _ (List.getLast_mem hne)
    exact q _ _ g0 g1 ((SameX.of e1).trans (SameX.upd _ _ _)) ⟨ns.dropLast, by rw [upd_same, List.map_dropLast], fun n hn => hns n (List.dropLast_subset _ hn)⟩
theorem nm_dk {r k : Int} (h0 : 0 ≤ r) (h1 : r < 8) (k0 : 0 ≤ k) (k1 : k < 26) : Nm (Txt.slice "placeof" none (some r) ++ (⟨#[97 + k.toNat]⟩ : Str)) := by
  have e : codes (Txt.slice "placeof" none (some r)) = (codes "placeof").take r.toNat := codes_to h0 (by show r ≤ 7; omega)
  unfold Nm
  rw [codes_app, e, codes_one]
  have hl : ((codes "placeof").take r.toNat).length ≤ 7 := by rw [List.length_take]; show min _ 7 ≤ 7; omega
  refine ⟨by rw [List.length_append]; show 1 ≤ _ + 1; omega, by rw [List.length_append]; show _ + 1 ≤ 8; omega, fun c hc => ?_⟩
  rcases List.mem_append.mp hc with hc | hc
  · have hm := List.mem_of_mem_take hc
    have : ∀ c ∈ codes "placeof", 97 ≤ c ∧ c ≤ 122 := by decide
    exact this c hm
  · rw [List.mem_singleton.mp hc]; omega
theorem last_dk {a b : Str} {x y : Nat} (h : a ++ (⟨#[x]⟩ : Str) = b ++ (⟨#[y]⟩ : Str)) : x = y := by
  have e := congrArg codes h
  rw [codes_app, codes_app, codes_one, codes_one] at e
  have := congrArg List.getLast? e
  rw [List.getLast?_append, List.getLast?_append] at this
  simpa using this
theorem ok_na (F : Fun K "_law_names" "_law_names" s_law_names f fd) (GNX : FnOk P w K mg base CX0 1 fNX dNX ["deck"] spNX) (bNX : Binds K dNX ["deck"] []) (kNX : PySem.W.keepIn K (.ref fNX) = true) (mNX : mg "_law_next" = some (.ref fNX)) (m_range : mg "range" = none) :
    FnOk P w K mg base CX0 2 f fd ["deck", "many"] spNA := by
  refine F.ok sc_law_names (fun vs H Q E h => ?_) (fun cdv A outer s H vs Q E hr h => ?_)
  · obtain ⟨p, many, rfl, _⟩ := h
    rfl
  obtain ⟨p, many, rfl, hp, hm0, hm1, q⟩ := h
  refine ⟨_, (pss_cons (ps_set (i := 2) sc_law_names.nd rfl (Or.inl rfl) (pe_call GNX hr rfl mNX kNX bNX .nil pass0 (pa_cons (pv 0) pa_nil)))
    (pss_cons (ps_set (i := 3) sc_law_names.nd rfl (Or.inl rfl) (pe_lst pa_nil))
    (pss_cons (ps_for PassesOwn.never rfl (pi_range1 rfl m_range (pa_cons (pv 1) pa_nil)) (pg_name (i := 4) sc_law_names.nd rfl (Or.inl rfl)) (pss_cons (ps_set (i := 5) sc_law_names.nd rfl (Or.inl rfl) (pe_ix ix_str pe_str (pe_op op_mod (pe_op op_add (pv 2) (pv 4)) pe_int) (fun _ _ => rfl)))
    (pss_one (ps_expr (pe_bm PySem.F.plainAttrs_list PySem.F.slot_list_append PySem.F.type_list_append mt_append (pv 3) (pa_cons (pe_op op_add_str (pe_slice sl_str pe_str po_none (po_some (pe_op op_mod (pe_call GNX hr rfl mNX kNX bNX .nil pass0 (pa_cons (pv 0) pa_nil)) pe_int))) (pv 5)) pa_nil))))))
    (pss_one (ps_ret (pv 3)))))), ?_⟩
  have ll : lets.length ≤ sizeLine := by show 26 ≤ sizeLine; exact lists3 26 (by decide)
  refine ⟨_, rfl, p, rfl, hp, fun st H1 st0 st1 e1 hP1 => ?_⟩
  refine ⟨lists3 0 (by decide), fun l hl => ?_⟩
  have hlp : l ≠ p := hP1.ne hl
  have hl0 : H l = none := by
    cases z : H l with
    | none => rfl
    | some o => rw [e1.get hlp z] at hl; cases hl
  refine ⟨_, rfl, many, rfl, by omega, by omega, ?_⟩
  refine for_range (n := many.toNat) (fun i σ' H' => ∃ (xs : List Str) (o4 o5 : Option V), σ' = [some (.ref p), some (.int many), some (.int st), some (.ref l), o4, o5] ∧ xs.length = i ∧ (∀ (j : Nat) (x : Str), xs[j]? = some x → ∃ a : Str, x = a ++ (⟨#[97 + ((st + (0 + (j : Int))) % 26).toNat]⟩ : Str)) ∧ (∀ x ∈ xs, Nm x) ∧ H' l = some (.lst (xs.map V.str)) ∧ SameX p H H' ∧ DeckAt p H') ?_ ?_ ?_
  · exact ⟨[], _, _, rfl, rfl, (fun j x h => by simp at h), (fun x hx => nomatch hx), upd_same, e1.trans (SameX.of (same_new hl _)), hP1.same (same_new hl _)⟩
  · rintro i σ' H2 hi ⟨xs, o4, o5, rfl, hxl, hxs, hnm, hl2, e2, hP2⟩
    have g0 : (0 : Int) ≤ (st + (0 + (i : Int))) % 26 := Int.emod_nonneg _ (by decide)
    have g1 : (st + (0 + (i : Int))) % 26 < 26 := Int.emod_lt_of_pos _ (by decide)
    refine ⟨_, rfl, _, rfl, _, _, rfl, rfl, _, _, rfl, rfl, (by show (0 : Int) < 26; decide), _, _, _, rfl, rfl, ll, lets_at g0 g1, ?_⟩
    refine ⟨_, rfl, .inl ⟨rfl, _, SqL.of hl2⟩, _, rfl, p, rfl, hP2, fun r H3 r0 r1 e3 hP3 => ?_⟩
    have w0 : (0 : Int) ≤ r % 8 := Int.emod_nonneg _ (by decide)
    have w1 : r % 8 < 8 := Int.emod_lt_of_pos _ (by decide)
    have nmk := nm_dk w0 w1 g0 g1
    have hl3 := e3.get hlp hl2
    refine ⟨_, _, rfl, rfl, (by show (0 : Int) < 8; decide), _, rfl, _, rfl, lists3 7 (by decide), _, rfl, _, _, rfl, rfl, ?_, ?_⟩
    · have hz := nmk.2.1
      rw [← codes_len] at hz
      refine lists3 _ (Nat.le_trans ?_ (show 8 ≤ 1000 by decide))
      exact Nat.le_trans (Nat.le_of_eq (len_app _ _).symm) hz
    · refine ⟨l, _, _, rfl, rfl, hl3, by rw [List.length_map]; exact small1000 (by omega), ?_⟩
      refine ⟨xs ++ [Txt.slice "placeof" none (some (r % 8)) ++ (⟨#[97 + ((st + (0 + (i : Int))) % 26).toNat]⟩ : Str)], _, _, rfl, by rw [List.length_append, hxl]; rfl, fun j x hj => ?_, fun x hx => ?_, by rw [upd_same, List.map_append]; rfl, ?_, ?_⟩
      · by_cases hji : j < xs.length
        · rw [List.getElem?_append_left hji] at hj; exact hxs j x hj
        · have hj' : j = xs.length := by
            have := (List.getElem?_eq_some_iff.mp hj).1
            rw [List.length_append] at this
            simp at this
            omega
          subst hj'
          rw [List.getElem?_append_right (Nat.le_refl _), Nat.sub_self] at hj
          cases hj
          rw [hxl]
          exact ⟨_, rfl⟩
      · rcases List.mem_append.mp hx with hx | hx
        · exact hnm x hx
        · rw [List.mem_singleton.mp hx]; exact nmk
      · have e23 := e2.trans e3
        exact fun b o hb => by
          obtain ⟨n1, q1⟩ := hide_some hb
          have := e23 b o hb
          rw [hide_ne n1] at this ⊢
          rw [upd_ne (ne_of_none q1 hl0)]
          exact this
      · obtain ⟨ns, a1, a2⟩ := hP3
        exact ⟨ns, by rw [upd_ne (Ne.symm hlp)]; exact a1, a2⟩
  · rintro σ' H2 ⟨xs, o4, o5, rfl, hxl, hxs, hnm, hl2, e2, hP2⟩
    refine ⟨_, rfl, q l xs H2 hlp hl0 hl2 hxl ?_ hnm e2 hP2⟩
    rw [List.nodup_iff_pairwise_ne, List.pairwise_iff_getElem]
    intro i j hi hj hij heq
    obtain ⟨a, ha⟩ := hxs i _ (List.getElem?_eq_getElem hi)
    obtain ⟨b, hb⟩ := hxs j _ (List.getElem?_eq_getElem hj)
    rw [ha, hb] at heq
    have := last_dk heq
    omega
end

def spKI (n : Nat) : Sp := fun vs H Q _ => ∃ (p : Addr) (d : Int), vs = [.ref p, .int d] ∧ DeckAt p H ∧ 1 ≤ d ∧ d ≤ n ∧
  ∀ (kd : Kd) (v : V) (H' : Hp), SameX p H H' → IsD (hide p H') kd.dt v → kd.Fit → (kd.deep : Int) ≤ d → DeckAt p H' → Q v H'
theorem two_of {v : V} {a b : Int} (h : v ∈ [V.int a, V.int b]) : ∃ z, v = .int z ∧ (z = a ∨ z = b) := by
  simp only [List.mem_cons, List.not_mem_nil, or_false] at h
  rcases h with rfl | rfl
  · exact ⟨_, rfl, .inl rfl⟩
  · exact ⟨_, rfl, .inr rfl⟩
theorem three_of {v : V} {a b c : Int} (h : v ∈ [V.int a, V.int b, V.int c]) : ∃ z, v = .int z ∧ (z = a ∨ z = b ∨ z = c) := by
  simp only [List.mem_cons, List.not_mem_nil, or_false] at h
  rcases h with rfl | rfl | rfl
  · exact ⟨_, rfl, .inl rfl⟩
  · exact ⟨_, rfl, .inr (.inl rfl)⟩
  · exact ⟨_, rfl, .inr (.inr rfl)⟩
theorem pairs_is {H : Hp} : ∀ {xs : List Str} {ks : List Kd} {vs zs : List V}, IsDs H (dtK ks) vs → xs.length = ks.length → zs.length = xs.length → (∀ (j : Nat) (x y : V), (xs.map V.str)[j]? = some x → vs[j]? = some y → ∃ T : Addr, zs[j]? = some (.ref T) ∧ H T = some (.tup [x, y])) → IsDs H (dtF (xs.zip ks)) zs
  | [], [], _, zs, _, _, hz, _ => List.eq_nil_of_length_eq_zero hz
  | x :: xs, k :: ks, vs, zs, ⟨v, vr, e, h1, h2⟩, hl, hz, hp => by
    subst e
    obtain ⟨T, a, b⟩ := hp 0 (.str x) v rfl rfl
    match zs, hz, a with
    | z :: zr, hz, a =>
      cases a
      refine ⟨.ref T, zr, rfl, ⟨T, _, rfl, b, _, _, rfl, rfl, _, _, rfl, h1, rfl⟩, pairs_is h2 (by simpa using hl) (by simpa using hz) fun j x' y' e1 e2 => ?_⟩
      obtain ⟨T', c, d⟩ := hp (j + 1) x' y' (by simpa using e1) (by simpa using e2)
      exact ⟨T', by simpa using c, d⟩
  | [], _ :: _, _, _, _, hl, _, _ => by simp at hl
  | _ :: _, [], _, _, _, hl, _, _ => by simp at hl
theorem zip_fit : ∀ {xs : List Str} {ks : List Kd}, fitK ks → (∀ x ∈ xs, Nm x) → fitF (xs.zip ks)
  | [], _, _, _ => trivial
  | _ :: _, [], _, _ => trivial
  | x :: xs, k :: ks, h, hn => ⟨⟨hn x List.mem_cons_self, h.1⟩, zip_fit h.2 fun y hy => hn y (List.mem_cons_of_mem _ hy)⟩
theorem zip_deep : ∀ {xs : List Str} {ks : List Kd}, deepF (xs.zip ks) ≤ deepK ks
  | [], _ => Nat.zero_le _
  | _ :: _, [] => Nat.zero_le _
  | x :: xs, k :: ks => by
    have := zip_deep (xs := xs) (ks := ks)
    show max k.deep (deepF (xs.zip ks)) ≤ max k.deep (deepK ks)
    omega
theorem zip_fst : ∀ {xs : List Str} {ks : List Kd}, xs.length = ks.length → (xs.zip ks).map (·.1) = xs
  | [], _, _ => rfl
  | x :: xs, [], h => by simp at h
  | x :: xs, k :: ks, h => by show x :: (xs.zip ks).map _ = _; rw [zip_fst (by simpa using h)]
section
variable {P : Program} {w : World} {K : PySem.W.Frag} {mg : Str → Option Value} {base : Heap} {f fNX fNA fKI : Addr} {fd dNX dNA dKI : FuncData} {n j : Nat}
set_option maxHeartbeats 16000000 in
theorem ok_ki (F : Fun K "_law_kind" "_law_kind" s_law_kind f fd) (GNX : FnOk P w K mg base CX0 1 fNX dNX ["deck"] spNX) (bNX : Binds K dNX ["deck"] []) (kNX : PySem.W.keepIn K (.ref fNX) = true) (mNX : mg "_law_next" = some (.ref fNX))
    (GNA : FnOk P w K mg base CX0 2 fNA dNA ["deck", "many"] spNA) (bNA : Binds K dNA ["deck", "many"] []) (kNA : PySem.W.keepIn K (.ref fNA) = true) (mNA : mg "_law_names" = some (.ref fNA))
    (GKI : FnOk P w K mg base CX0 j fKI dKI ["deck", "deep"] (spKI n)) (bKI : Binds K dKI ["deck", "deep"] []) (kKI : PySem.W.keepIn K (.ref fKI) = true) (mKI : mg "_law_kind" = some (.ref fKI))
    (m_range : mg "range" = none) (m_list : mg "list" = none) (m_zip : mg "zip" = none) (m_len : mg "len" = none) (h2 : 2 ≤ j) : FnOk P w K mg base CX0 (j + 1) f fd ["deck", "deep"] (spKI (n + 1)) := by
  refine F.ok sc_law_kind (fun vs H Q E h => ?_) (fun cdv A outer s H vs Q E hr h => ?_)
  · obtain ⟨p, d, rfl, _⟩ := h
    rfl
  obtain ⟨p, d, rfl, hp, hd1, hdn, q⟩ := h
  have h1 : 1 ≤ j := Nat.le_trans (by decide) h2
  refine ⟨_, (pss_cons (ps_set (i := 2) sc_law_kind.nd rfl (Or.inl rfl) (pe_op op_mod (pe_call GNX (hr.mono h1) rfl mNX kNX bNX .nil pass0 (pa_cons (pv 0) pa_nil)) pe_int))
    (pss_cons (ps_if (PW.pt (pw_or (pt_cmpR op_lt (pv 1) pe_int (nomark _)) (pw_or1 (pt_cmpR op_lt (pv 2) pe_int (nomark _))))) (pss_one (ps_ret (pe_tup (pa_cons pe_str (pa_cons (pe_op op_add pe_int (pe_op op_mod (pe_call GNX (hr.mono h1) rfl mNX kNX bNX .nil pass0 (pa_cons (pv 0) pa_nil)) pe_int)) (pa_cons (pe_ix ix_list (pe_lst (pa_cons pe_int (pa_cons pe_int (pa_cons pe_int (pa_cons pe_int pa_nil))))) (pe_op op_mod (pe_call GNX (hr.mono h1) rfl mNX kNX bNX .nil pass0 (pa_cons (pv 0) pa_nil)) pe_int) (fun _ _ => rfl)) pa_nil)))))) pss_nil)
    (pss_cons (ps_if (pt_cmpR op_lt (pv 2) pe_int (nomark _)) (pss_one (ps_ret (pe_tup (pa_cons pe_str (pa_cons (pe_call GKI hr rfl mKI kKI bKI .nil pass0 (pa_cons (pv 0) (pa_cons (pe_op op_sub (pv 1) pe_int) pa_nil))) (pa_cons (pe_op op_add pe_int (pe_op op_mod (pe_call GNX (hr.mono h1) rfl mNX kNX bNX .nil pass0 (pa_cons (pv 0) pa_nil)) (pe_ix ix_list (pe_lst (pa_cons pe_int (pa_cons pe_int pa_nil))) (pe_op op_mod (pe_call GNX (hr.mono h1) rfl mNX kNX bNX .nil pass0 (pa_cons (pv 0) pa_nil)) pe_int) (fun _ _ => rfl)))) pa_nil)))))) pss_nil)
    (pss_cons (ps_setC (i := 3) sc_law_kind.nd rfl rfl (dsc := defScope s_law_kind) (N := ["deck", "deep", "way", "kinds"]) (tgs := ["k"]) (outs := [0, 1]) (N' := ["k", "deck", "deep"]) ⟨rfl, by decide +kernel, by decide +kernel, by decide +kernel, rfl, by decide +kernel, by decide +kernel, by decide +kernel⟩ (pi_range1 rfl m_range (pa_cons (pe_op op_add pe_int (pe_op op_mod (pe_call GNX (hr.mono h1) rfl mNX kNX bNX .nil pass0 (pa_cons (pv 0) pa_nil)) (pe_ix ix_list (pe_lst (pa_cons pe_int (pa_cons pe_int (pa_cons pe_int pa_nil)))) (pe_op op_sub (pv 2) pe_int) (fun _ _ => rfl)))) pa_nil)) (fun _ _ _ _ _ => (pg_name (i := 0) (show (["k", "deck", "deep"] : List Str).Nodup by decide +kernel) rfl (Or.inl rfl) (.inr rfl))) (tgt_name (by decide)) (fun _ _ _ _ _ => pcs_nil) (fun _ _ _ _ _ => (pe_call GKI hr rfl mKI kKI bKI .nil pass0 (pa_cons (pv 1) (pa_cons (pe_op op_sub (pv 2) pe_int) pa_nil)))))
    (pss_cons (ps_if (pt_cmpR op_lt (pv 2) pe_int (nomark _)) (pss_one (ps_ret (pe_tup (pa_cons pe_str (pa_cons (pe_listZip (t1 := false) (t2 := false) rfl rfl m_list rfl m_zip (pa_cons (pe_call GNA (hr.mono h2) rfl mNA kNA bNA .nil pass0 (pa_cons (pv 0) (pa_cons (pe_callB call_len_seq rfl m_len PySem.boot_len (pa_cons (pv 3) pa_nil)) pa_nil))) (pa_cons (pv 3) pa_nil))) pa_nil))))) pss_nil)
    (pss_one (ps_ret (pe_tup (pa_cons pe_str (pa_cons (pv 3) pa_nil)))))))))), ?_⟩
  refine ⟨_, rfl, p, rfl, hp, fun w0 H1 w00 w01 e1 hP1 => ⟨_, _, rfl, rfl, (by show (0 : Int) < 8; decide), ?_⟩⟩
  have y0 : (0 : Int) ≤ w0 % 8 := Int.emod_nonneg _ (by decide)
  have y1 : w0 % 8 < 8 := Int.emod_lt_of_pos _ (by decide)
  refine ⟨_, rfl, _, _, rfl, rfl, _, rfl, ite2 (fun c => iteT ?_) (fun c => ⟨_, rfl, _, _, rfl, rfl, _, rfl, ite2 (fun c2 => ?_) (fun c2 => ?_)⟩)⟩
  · refine ⟨_, rfl, p, rfl, hP1, fun r2 H2 r20 r21 e2 hP2 => ⟨_, _, rfl, rfl, (by show (0 : Int) < 8; decide), _, _, rfl, rfl, lists3 4 (by decide), fun s0 hs0 => ⟨_, rfl, p, rfl, hP2.same (same_new hs0 _), fun r3 H3 r30 r31 e3 hP3 => ?_⟩⟩⟩
    have a0 : (0 : Int) ≤ r2 % 8 := Int.emod_nonneg _ (by decide)
    have a1 : r2 % 8 < 8 := Int.emod_lt_of_pos _ (by decide)
    have b0 : (0 : Int) ≤ r3 % 4 := Int.emod_nonneg _ (by decide)
    have b1 : r3 % 4 < 4 := Int.emod_lt_of_pos _ (by decide)
    obtain ⟨v, hv, hvm⟩ := atI_in (xs := [V.int 1, V.int 2, V.int 4, V.int 8]) b0 b1
    obtain ⟨m, rfl, hm⟩ := four_in hvm
    refine ⟨_, _, rfl, rfl, (by show (0 : Int) < 4; decide), s0, _, _, _, rfl, rfl, SqL.of (e3.get (hP2.ne hs0) upd_same), hv, lists3 3 (by decide), fun t ht => ?_⟩
    exact q (.num (1 + r2 % 8) m) (.ref t) _ ((((e1.trans e2).trans (SameX.of (same_new hs0 _))).trans e3).trans (SameX.of (same_new ht _))) (num_is (hP3.ne ht) upd_same) ⟨by omega, by omega, hm⟩ (by show ((1 : Nat) : Int) ≤ d; omega) (hP3.same (same_new ht _))
  · refine ⟨_, rfl, p, rfl, hP1, fun r2 H2 r20 r21 e2 hP2 => ⟨_, _, rfl, rfl, (by show (0 : Int) < 8; decide), _, _, rfl, rfl, lists3 4 (by decide), fun s0 hs0 => ⟨_, rfl, p, rfl, hP2.same (same_new hs0 _), fun r3 H3 r30 r31 e3 hP3 => ?_⟩⟩⟩
    have a0 : (0 : Int) ≤ r2 % 8 := Int.emod_nonneg _ (by decide)
    have a1 : r2 % 8 < 8 := Int.emod_lt_of_pos _ (by decide)
    have b0 : (0 : Int) ≤ r3 % 4 := Int.emod_nonneg _ (by decide)
    have b1 : r3 % 4 < 4 := Int.emod_lt_of_pos _ (by decide)
    obtain ⟨v, hv, hvm⟩ := atI_in (xs := [V.int 1, V.int 2, V.int 4, V.int 8]) b0 b1
    obtain ⟨m, rfl, hm⟩ := four_in hvm
    refine ⟨_, _, rfl, rfl, (by show (0 : Int) < 4; decide), s0, _, _, _, rfl, rfl, SqL.of (e3.get (hP2.ne hs0) upd_same), hv, lists3 3 (by decide), fun t ht => ?_⟩
    exact q (.num (1 + r2 % 8) m) (.ref t) _ ((((e1.trans e2).trans (SameX.of (same_new hs0 _))).trans e3).trans (SameX.of (same_new ht _))) (num_is (hP3.ne ht) upd_same) ⟨by omega, by omega, hm⟩ (by show ((1 : Nat) : Int) ≤ d; omega) (hP3.same (same_new ht _))
  have hd2 : ¬ d < 2 := fun z => c (decide_eq_true z)
  have hw3 : ¬ (w0 % 8) < 3 := fun z => c2 (decide_eq_true z)
  refine ⟨_, rfl, _, _, rfl, rfl, _, rfl, ite2 (fun c3 => ?_) (fun c3 => ?_)⟩
  · -- a row
    refine ⟨_, rfl, _, rfl, _, _, rfl, rfl, p, d - 1, rfl, hP1, by omega, by omega, fun kd v H2 e2 hD hF hdp hP2 => ?_⟩
    refine ⟨_, rfl, p, rfl, hP2, fun r3 H3 r30 r31 e3 hP3 => ⟨lists3 2 (by decide), fun s0 hs0 => ⟨_, rfl, p, rfl, hP3.same (same_new hs0 _), fun r4 H4 r40 r41 e4 hP4 => ?_⟩⟩⟩
    have b0 : (0 : Int) ≤ r4 % 2 := Int.emod_nonneg _ (by decide)
    have b1 : r4 % 2 < 2 := Int.emod_lt_of_pos _ (by decide)
    obtain ⟨vz, hv, hvm⟩ := atI_in (xs := [V.int 4, V.int 20]) b0 b1
    obtain ⟨z, rfl, hz⟩ := two_of hvm
    have z0 : 0 < z := by omega
    have g0 : (0 : Int) ≤ r3 % z := Int.emod_nonneg _ (by omega)
    have g1 : r3 % z < z := Int.emod_lt_of_pos _ z0
    refine ⟨_, _, rfl, rfl, (by show (0 : Int) < 2; decide), s0, _, _, _, rfl, rfl, SqL.of (e4.get (hP3.ne hs0) upd_same), hv, _, _, rfl, rfl, z0, _, _, rfl, rfl, lists3 3 (by decide), fun t ht => ?_⟩
    have eR : SameX p H2 (upd H4 t (.tup [.str "row", v, .int (1 + r3 % z)])) := ((e3.trans (SameX.of (same_new hs0 _))).trans e4).trans (SameX.of (same_new ht _))
    refine q (.row kd (1 + r3 % z)) (.ref t) _ ((e1.trans e2).trans eR) (row_is (hP4.ne ht) upd_same (hD.same eR)) ⟨hF, by omega, by omega⟩ ?_ (hP4.same (same_new ht _))
    show ((kd.deep + 1 : Nat) : Int) ≤ d
    omega
  have hw5 : ¬ (w0 % 8) < 5 := fun z => c3 (decide_eq_true z)
  refine ⟨_, rfl, p, rfl, hP1, fun r2 H2 r20 r21 e2 hP2 => ⟨lists3 3 (by decide), fun s0 hs0 => ?_⟩⟩
  obtain ⟨vz, hv, hvm⟩ := atI_in (xs := [V.int 4, V.int 8, V.int 6]) (i := (w0 % 8) - 5) (by omega) (by show (w0 % 8) - 5 < 3; omega)
  have hzw : ∀ _ : Unit, ((w0 % 8) < 7 → ∃ z, vz = .int z ∧ 4 ≤ z ∧ z ≤ 8) ∧ (¬ (w0 % 8) < 7 → vz = .int 6) := by
    refine fun _ => ⟨fun _ => ?_, fun c => ?_⟩
    · obtain ⟨z, rfl, hz⟩ := three_of hvm
      exact ⟨z, rfl, by omega, by omega⟩
    · have e7 : (w0 % 8) - 5 = 2 := by omega
      rw [e7] at hv
      cases hv
      rfl
  obtain ⟨z, rfl, hz⟩ := three_of hvm
  have z0 : 0 < z := by omega
  have g0 : (0 : Int) ≤ r2 % z := Int.emod_nonneg _ (by omega)
  have g1 : r2 % z < z := Int.emod_lt_of_pos _ z0
  refine ⟨_, rfl, _, _, rfl, rfl, s0, _, _, _, rfl, rfl, SqL.of upd_same, hv, _, _, rfl, rfl, z0, _, _, rfl, rfl, 1 + r2 % z, rfl, by omega, by omega, ?_⟩
  have e12 : SameX p H (upd H2 s0 (.lst [.int 4, .int 8, .int 6])) := (e1.trans e2).trans (SameX.of (same_new hs0 _))
  refine comp_range (n := (1 + r2 % z).toNat) (fun i acc H' => ∃ ks : List Kd, ks.length = i ∧ IsDs (hide p H') (dtK ks) acc ∧ fitK ks ∧ deepK ks ≤ (d - 1).toNat ∧ SameX p H H' ∧ DeckAt p H') (by omega) ⟨[], rfl, rfl, trivial, Nat.zero_le _, e12, hP2.same (same_new hs0 _)⟩ (fun i acc H' hi ⟨ks, ef, eD, _⟩ => ?_) (fun i acc H' hi ⟨ks, ef, eD, eF, edp, eS, eP⟩ => ?_) (fun acc H' ⟨ks, ef, eD, eF, edp, eS, eP⟩ l2 hn2 => ?_)
  · rw [eD.len, dtK_len]
    omega
  · refine nameYes ?_
    refine ⟨_, rfl, _, rfl, _, _, rfl, rfl, p, d - 1, rfl, eP, by omega, by omega, fun kd v H6 e6 hD hF hdp hP6 => ?_⟩
    refine ⟨ks ++ [kd], by rw [List.length_append, ef]; rfl, ?_, fitK_snoc eF hF, deepK_snoc edp (by omega), eS.trans e6, hP6⟩
    rw [dtK_snoc]
    exact (eD.same e6).snoc hD
  have hl2 : l2 ≠ p := eP.ne hn2
  have eP2 := eP.same (same_new hn2 (.lst acc))
  have e3 : SameX p H (upd H' l2 (.lst acc)) := eS.trans (SameX.of (same_new hn2 _))
  have eD2 : IsDs (hide p (upd H' l2 (.lst acc))) (dtK ks) acc := eD.same (SameX.of (same_new hn2 _))
  have hl22 : (upd H' l2 (.lst acc)) l2 = some (.lst acc) := upd_same
  have hal : acc.length = ks.length := by rw [eD.len, dtK_len]
  generalize upd H' l2 (.lst acc) = H3 at eP2 e3 eD2 hl22
  refine ⟨_, rfl, _, _, rfl, rfl, _, rfl, ite2 (fun c4 => ?_) (fun c4 => ?_)⟩
  · -- a record
    have hw7 : (w0 % 8) < 7 := of_decide_eq_true c4
    obtain ⟨z', ez, hz4, hz8⟩ := (hzw ()).1 hw7
    cases ez
    refine ⟨_, rfl, _, rfl, l2, _, rfl, .inl (SqL.of hl22), p, _, rfl, eP2, by omega, by omega, fun ln xs H6 hlp hl0 hl hxl hnd hnm e6 hP6 => ?_⟩
    have hl26 := e6.get hl2 hl22
    have hxk : xs.length = ks.length := by omega
    refine ⟨_, rfl, ln, l2, _, _, rfl, SqL.of hl, SqL.of hl26, by rw [List.length_map]; omega, fun lz zs H7 e7 hz0 hz hzl hpr => ⟨lists3 2 (by decide), fun t ht => ?_⟩⟩
    rw [List.length_map] at hzl
    have hP7 := hP6.same e7
    have hlzp : lz ≠ p := hP6.ne hz0
    have htp : t ≠ p := hP7.ne ht
    have e8 : Same H7 (upd H7 t (.tup [.str "record", .ref lz])) := same_new ht _
    have hfs : IsDs (hide p H7) (dtF (xs.zip ks)) zs := by
      refine pairs_is ((eD2.same e6).same (SameX.of e7)) hxk hzl fun j x y e1 e2 => ?_
      obtain ⟨T, a, b⟩ := hpr j x y e1 e2
      refine ⟨T, a, ?_⟩
      obtain ⟨ns, a1, _⟩ := hP7
      rw [hide_ne (fun e => by rw [e, a1] at b; cases b)]
      exact b
    have hlf : (xs.zip ks).length = ks.length := by rw [List.length_zip]; omega
    refine q (.rcd (xs.zip ks)) (.ref t) _ ((e3.trans e6).trans (SameX.of (e7.trans e8))) (rcd_is htp hlzp upd_same (e8 _ _ hz) (hfs.same (SameX.of e8))) ⟨zip_fit eF hnm, by omega, by omega, by rw [zip_fst hxk]; exact hnd⟩ ?_ (hP7.same e8)
    have := zip_deep (xs := xs) (ks := ks)
    show ((deepF (xs.zip ks) + 1 : Nat) : Int) ≤ d
    omega
  · -- a choice
    have hw7 : ¬ (w0 % 8) < 7 := fun z => c4 (decide_eq_true z)
    have ez := (hzw ()).2 hw7
    cases ez
    refine ⟨_, rfl, lists3 2 (by decide), fun t ht => ?_⟩
    have e8 : Same H3 (upd H3 t (.tup [.str "choice", .ref l2])) := same_new ht _
    refine q (.cho ks) (.ref t) _ (e3.trans (SameX.of e8)) (cho_is (eP2.ne ht) hl2 upd_same (e8 _ _ hl22) (eD2.same (SameX.of e8))) ⟨eF, by omega, by omega⟩ ?_ (eP2.same e8)
    show ((deepK ks + 1 : Nat) : Int) ≤ d
    omega
theorem ki_none : FnOk P w K mg base CX0 j f fd ["deck", "deep"] (spKI 0) := by
  have no : ∀ vs H Q E, ¬ spKI 0 vs H Q E := fun vs H Q E h => by
    obtain ⟨p, d, _, _, h1, h2, _⟩ := h
    have : d ≤ 0 := h2
    omega
  exact ⟨fun vs H Q E h => absurd h (no vs H Q E), fun A outer s H args us vs Q E _ _ _ _ h => absurd h (no vs H Q E)⟩
end

def spRM (n : Nat) : Sp := fun vs H Q _ => ∃ (kd : Kd) (v : V), vs = [v] ∧ IsD H kd.dt v ∧ kd.Ok ∧ kd.Full ∧ kd.deep ≤ n ∧ n ≤ 12 ∧ ∀ p H', Same H H' → H' p = some (.tup [.int kd.rm.1, .int kd.rm.2]) → Q (.ref p) H'
def spBO : Sp := fun vs H Q _ => ∃ (p : Addr) (d m : Int), vs = [.ref p, .int d, .int m] ∧ DeckAt p H ∧ 1 ≤ d ∧ d ≤ 5 ∧ 8 ≤ m ∧
  ∀ (kd : Kd) (v : V) (H' : Hp), SameX p H H' → IsD (hide p H') kd.dt v → kd.Fit → (kd.deep : Int) ≤ d → kd.rm.1 ≤ m → DeckAt p H' → Q v H'
def spFI : Sp := fun vs H Q _ => ∃ (p : Addr) (most d m : Int), vs = [.ref p, .int most, .int d, .int m] ∧ DeckAt p H ∧ 1 ≤ d ∧ d ≤ 5 ∧ 8 ≤ m ∧ 1 ≤ most ∧ most ≤ 8 ∧
  ∀ (fs : List (Str × Kd)) (v : V) (H' : Hp), SameX p H H' → IsD (hide p H') (.lst (dtF fs)) v → fitF fs → (deepF fs : Int) ≤ d → (∀ f ∈ fs, f.2.rm.1 ≤ m) → 1 ≤ fs.length → (fs.length : Int) ≤ most → (fs.map (·.1)).Nodup → DeckAt p H' → Q v H'
theorem rmK_map : ∀ fs : List (Str × Kd), rmK (fs.map (·.2)) = rmF fs
  | [] => rfl
  | f :: r => by show _ :: rmK (r.map _) = _ :: _; rw [rmK_map r]
theorem okK_map : ∀ {fs : List (Str × Kd)}, okF fs → okK (fs.map (·.2))
  | [], _ => trivial
  | f :: r, h => ⟨h.1, okK_map h.2⟩
theorem fullK_map : ∀ {fs : List (Str × Kd)}, fullF fs → fullK (fs.map (·.2))
  | [], _ => trivial
  | f :: r, h => ⟨h.1, fullK_map h.2⟩
theorem deepK_map : ∀ fs : List (Str × Kd), deepK (fs.map (·.2)) = deepF fs
  | [] => rfl
  | f :: r => by show max _ (deepK (r.map _)) = max _ _; rw [deepK_map r]
theorem dtK_take_snoc {ks : List Kd} {i : Nat} {k : Kd} (h : ks[i]? = some k) : dtK (ks.take (i + 1)) = dtK (ks.take i) ++ [k.dt] := by
  rw [take_snoc h, dtK_snoc]
section
variable {P : Program} {w : World} {K : PySem.W.Frag} {mg : Str → Option Value} {base : Heap} {f fNX fNA fKI fUP fRM fBO : Addr} {fd dNX dNA dKI dUP dRM dBO : FuncData} {n j j2 : Nat}
theorem ok_up (F : Fun K "_law_up" "_law_up" s_law_up f fd) : FnOk P w K mg base CX0 1 f fd ["number", "m"] spRU := by
  refine F.ok sc_law_up (fun vs H Q E h => ?_) (fun cdv A outer s H vs Q E hr h => ?_)
  · obtain ⟨n, m, rfl, _⟩ := h
    rfl
  obtain ⟨n, m, rfl, h0, h1, h2, h3, q⟩ := h
  refine ⟨_, pss_one (ps_ret (pe_op op_mulB (pe_op op_fdivB (pe_op op_sub (pe_op op_add (pv 0) (pv 1)) pe_int) (pv 1)) (pv 1))), ?_⟩
  have d0 : 0 ≤ (n + m - 1) / m := Int.ediv_nonneg (by omega) (by omega)
  have d1 : (n + m - 1) / m ≤ n + m - 1 := Int.ediv_le_self m (by omega)
  refine ⟨_, rfl, _, rfl, _, _, rfl, rfl, _, _, rfl, rfl, _, rfl, _, _, rfl, rfl, ⟨h2, by omega⟩, _, rfl, _, _, rfl, rfl, ⟨?_, ?_⟩, q⟩
  · generalize (n + m - 1) / m = z at d0 d1
    omega
  · omega
set_option maxHeartbeats 16000000 in
theorem ok_rm (F : Fun K "_law_room" "_law_room" s_law_room f fd) (GRM : FnOk P w K mg base CX0 j fRM dRM ["kind"] (spRM n)) (bRM : Binds K dRM ["kind"] []) (kRM : PySem.W.keepIn K (.ref fRM) = true) (mRM : mg "_law_room" = some (.ref fRM))
    (GUP : FnOk P w K mg base CX0 1 fUP dUP ["number", "m"] spRU) (bUP : Binds K dUP ["number", "m"] []) (kUP : PySem.W.keepIn K (.ref fUP) = true) (mUP : mg "_law_up" = some (.ref fUP)) (m_max : mg "max" = none) (hj : 1 ≤ j) :
    FnOk P w K mg base CX0 (j + 1) f fd ["kind"] (spRM (n + 1)) := by
  refine F.ok sc_law_room (fun vs H Q E h => ?_) (fun cdv A outer s H vs Q E hr h => ?_)
  · obtain ⟨kd, v, rfl, _⟩ := h
    rfl
  obtain ⟨kd, v, rfl, hv, hk, hf, hdp, hn, q⟩ := h
  have n1 : ∀ {x y : Str}, (x == y) = false → ¬ (V.str x = V.str y) := fun h => str_ne h
  refine ⟨_, (pss_cons (ps_if (pt_cmpR op_eq (pe_ix ix_tup (pv 0) pe_int (fun _ _ => rfl)) pe_str (nomark _)) (pss_one (ps_ret (pe_tup (pa_cons (pe_ix ix_tup (pv 0) pe_int (fun _ _ => rfl)) (pa_cons (pe_ix ix_tup (pv 0) pe_int (fun _ _ => rfl)) pa_nil))))) pss_nil)
    (pss_cons (ps_if (pt_cmpR op_eq (pe_ix ix_tup (pv 0) pe_int (fun _ _ => rfl)) pe_str (nomark _)) (pss_cons (ps_asg (pe_call GRM hr rfl mRM kRM bRM .nil pass0 (pa_cons (pe_ix ix_tup (pv 0) pe_int (fun _ _ => rfl)) pa_nil)) (pg_tup rfl (pgs_cons (pg_name (i := 1) sc_law_room.nd rfl (Or.inl rfl)) (pgs_cons (pg_name (i := 2) sc_law_room.nd rfl (Or.inl rfl)) pgs_nil))))
    (pss_one (ps_ret (pe_tup (pa_cons (pe_op op_mulB (pe_ix ix_tup (pv 0) pe_int (fun _ _ => rfl)) (pe_call GUP (hr.mono hj) rfl mUP kUP bUP .nil pass0 (pa_cons (pv 1) (pa_cons (pv 2) pa_nil)))) (pa_cons (pv 2) pa_nil)))))) pss_nil)
    (pss_cons (ps_set (i := 3) sc_law_room.nd rfl (Or.inl rfl) (pe_ix ix_tup (pv 0) pe_int (fun _ _ => rfl)))
    (pss_cons (ps_mid (ps_if (pt_cmpR op_eq (pe_ix ix_tup (pv 0) pe_int (fun _ _ => rfl)) pe_str (nomark _)) (pss_one (ps_setC (i := 3) sc_law_room.nd rfl rfl (dsc := defScope s_law_room) (N := ["kind", "room", "m", "parts", "sizes", "end", "other"]) (tgs := ["name", "part"]) (outs := []) (N' := ["name", "part"]) ⟨rfl, by decide +kernel, by decide +kernel, by decide +kernel, rfl, by decide +kernel, by decide +kernel, by decide +kernel⟩ (pi_list (pe_ix ix_tup (pv 0) pe_int (fun _ _ => rfl))) (fun _ _ _ _ _ => (pg_tupK K (n := 2) rfl rfl (pgs_cons (pg_name (i := 0) (show (["name", "part"] : List Str).Nodup by decide +kernel) rfl (Or.inl rfl) (.inr rfl)) (pgs_cons (pg_name (i := 1) (show (["name", "part"] : List Str).Nodup by decide +kernel) rfl (Or.inl rfl) (.inr rfl)) pgs_nil)))) (tgt_tup (tgts_name (by decide) (tgts_name (by decide) tgts_nil tmono_nil) (tmono_name tmono_nil))) (fun _ _ _ _ _ => pcs_nil) (fun _ _ _ _ _ => (pv 1)))) pss_nil))
    (pss_cons (ps_setC (i := 4) sc_law_room.nd rfl rfl (dsc := defScope s_law_room) (N := ["kind", "room", "m", "parts", "sizes", "end", "other"]) (tgs := ["part"]) (outs := []) (N' := ["part"]) ⟨rfl, by decide +kernel, by decide +kernel, by decide +kernel, rfl, by decide +kernel, by decide +kernel, by decide +kernel⟩ (pi_list (pv 3)) (fun _ _ _ _ _ => (pg_name (i := 0) (show (["part"] : List Str).Nodup by decide +kernel) rfl (Or.inl rfl) (.inr rfl))) (tgt_name (by decide)) (fun _ _ _ _ _ => pcs_nil) (fun _ _ _ _ _ => (pe_call GRM hr rfl mRM kRM bRM .nil pass0 (pa_cons (pv 0) pa_nil))))
    (pss_cons (ps_set (i := 2) sc_law_room.nd rfl (Or.inl rfl) (pe_callB (call_maxL rfl) rfl m_max bt_max (pa_cons (pe_comp (dsc := defScope s_law_room) (N := ["kind", "room", "m", "parts", "sizes", "end", "other"]) (tgs := ["size"]) (outs := []) (N' := ["size"]) ⟨rfl, by decide +kernel, by decide +kernel, by decide +kernel, rfl, by decide +kernel, by decide +kernel, by decide +kernel⟩ (pi_list (pv 4)) (fun _ _ _ _ _ => (pg_name (i := 0) (show (["size"] : List Str).Nodup by decide +kernel) rfl (Or.inl rfl) (.inr rfl))) (tgt_name (by decide)) (fun _ _ _ _ _ => pcs_nil) (fun _ _ _ _ _ => (pe_ix (ix_tupK K) (pv 0) pe_int (fun _ _ => rfl)))) pa_nil)))
    (pss_cons (ps_if (pt_cmpR op_eq (pe_ix ix_tup (pv 0) pe_int (fun _ _ => rfl)) pe_str (nomark _)) (pss_one (ps_ret (pe_tup (pa_cons (pe_call GUP (hr.mono hj) rfl mUP kUP bUP .nil pass0 (pa_cons (pe_op op_add (pv 2) (pe_callB (call_maxL rfl) rfl m_max bt_max (pa_cons (pe_comp (dsc := defScope s_law_room) (N := ["kind", "room", "m", "parts", "sizes", "end", "other"]) (tgs := ["size"]) (outs := []) (N' := ["size"]) ⟨rfl, by decide +kernel, by decide +kernel, by decide +kernel, rfl, by decide +kernel, by decide +kernel, by decide +kernel⟩ (pi_list (pv 4)) (fun _ _ _ _ _ => (pg_name (i := 0) (show (["size"] : List Str).Nodup by decide +kernel) rfl (Or.inl rfl) (.inr rfl))) (tgt_name (by decide)) (fun _ _ _ _ _ => pcs_nil) (fun _ _ _ _ _ => (pe_ix (ix_tupK K) (pv 0) pe_int (fun _ _ => rfl)))) pa_nil))) (pa_cons (pv 2) pa_nil))) (pa_cons (pv 2) pa_nil))))) pss_nil)
    (pss_cons (ps_set (i := 5) sc_law_room.nd rfl (Or.inl rfl) pe_int)
    (pss_cons (ps_for PassesOwn.never rfl (pi_list (pv 4)) (pg_tup rfl (pgs_cons (pg_name (i := 1) sc_law_room.nd rfl (Or.inl rfl)) (pgs_cons (pg_name (i := 6) sc_law_room.nd rfl (Or.inl rfl)) pgs_nil))) (pss_one (ps_set (i := 5) sc_law_room.nd rfl (Or.inl rfl) (pe_op op_add (pe_call GUP (hr.mono hj) rfl mUP kUP bUP .nil pass0 (pa_cons (pv 5) (pa_cons (pv 6) pa_nil))) (pv 1)))))
    (pss_one (ps_ret (pe_tup (pa_cons (pe_call GUP (hr.mono hj) rfl mUP kUP bUP .nil pass0 (pa_cons (pv 5) (pa_cons (pv 2) pa_nil))) (pa_cons (pv 2) pa_nil)))))))))))))), ?_⟩
  cases kd with
  | num wd m =>
    obtain ⟨p, ys, rfl, hp, v1, r1, rfl, rfl, v2, r2, rfl, rfl, v3, r3, rfl, rfl, rfl⟩ := hv
    refine ⟨_, rfl, p, _, _, _, rfl, rfl, SqT.of hp, rfl, rfl, _, rfl, iteDT rfl ?_⟩
    exact ⟨_, rfl, p, _, _, _, rfl, rfl, SqT.of hp, rfl, _, rfl, p, _, _, _, rfl, rfl, SqT.of hp, rfl, lists3 2 (by decide), fun p2 n2 => q p2 _ (same_new n2 _) upd_same⟩
  | row k m =>
    obtain ⟨p, ys, rfl, hp, v1, r1, rfl, rfl, v2, r2, rfl, hv2, v3, r3, rfl, rfl, rfl⟩ := hv
    have hdp' : k.deep + 1 ≤ n + 1 := hdp
    obtain ⟨b0, b1, b2, b3⟩ := bd12 (n := n) hk.1 (by omega) (by omega)
    obtain ⟨u1, u2⟩ := up_bounds (n := k.rm.1) (m := k.rm.2) (by omega)
    have hm := hk.2
    refine ⟨_, rfl, p, _, _, _, rfl, rfl, SqT.of hp, rfl, rfl, _, rfl, iteND (n1 (by decide +kernel)) ?_⟩
    refine ⟨_, rfl, p, _, _, _, rfl, rfl, SqT.of hp, rfl, rfl, _, rfl, iteDT rfl ?_⟩
    refine ⟨_, rfl, p, _, _, _, rfl, rfl, SqT.of hp, rfl, k, v2, rfl, hv2, hk.1, hf, by omega, by omega, fun l H1 e1 hl => ?_⟩
    refine ⟨l, _, rfl, SqT.of hl, rfl, _, _, rfl, _, _, rfl, rfl, ?_⟩
    refine ⟨_, rfl, p, _, _, _, rfl, rfl, SqT.of (e1 _ _ hp), rfl, _, rfl, _, rfl, _, _, rfl, b0, by omega, by omega, by omega, _, _, rfl, rfl, ⟨by omega, by omega⟩, _, rfl, lists3 2 (by decide), fun p2 n2 => ?_⟩
    exact q p2 _ (e1.trans (same_new n2 _)) upd_same
  | rcd fs =>
    obtain ⟨p, ys, rfl, hp, v1, r1, rfl, rfl, v2, r2, rfl, ⟨l, zs, rfl, hl, hzs⟩, rfl⟩ := hv
    refine ⟨_, rfl, p, _, _, _, rfl, rfl, SqT.of hp, rfl, rfl, _, rfl, iteND (n1 (by decide +kernel)) ?_⟩
    refine ⟨_, rfl, p, _, _, _, rfl, rfl, SqT.of hp, rfl, rfl, _, rfl, iteND (n1 (by decide +kernel)) ?_⟩
    have hdp' : deepF fs + 1 ≤ n + 1 := hdp
    have hlz : zs.length = fs.length := by rw [hzs.len, dtF_len]
    have hlf := hk.2
    refine ⟨_, rfl, p, _, _, _, rfl, rfl, SqT.of hp, rfl, ?_⟩
    have hlm : (fs.map (·.2)).length = fs.length := List.length_map _
    refine ⟨fun σ H' => ∃ lp ws, σ = [some (.ref p), none, none, some (.ref lp), none, none, none] ∧ Same H H' ∧ H' lp = some (.lst ws) ∧ IsDs H' (dtK (fs.map (·.2))) ws, ?_, ?_⟩
    · refine ⟨_, rfl, p, _, _, _, rfl, rfl, SqT.of hp, rfl, rfl, _, rfl, iteDT rfl ?_⟩
      refine ⟨_, rfl, p, _, _, _, rfl, rfl, SqT.of hp, rfl, l, rfl, ⟨_, SqL.of hl⟩, ?_⟩
      refine comp_list (xs := zs) (fun i acc H' => Same H H' ∧ IsDs H' (dtK ((fs.map (·.2)).take i)) acc) (by omega) ⟨Same.refl _, rfl⟩ (fun i acc H' hi ⟨e, ea⟩ => ⟨SqL.of (e _ _ hl), by rw [ea.len, dtK_len, List.length_take]; omega⟩) (fun i x acc H' hx ⟨e, ea⟩ => ?_) (fun acc H' ⟨e, ea⟩ lp hlp => ?_)
      · obtain ⟨g, t, v, eg, rfl, ht, hv⟩ := fields_at hzs hx
        refine ⟨t, _, rfl, SqT.of (e _ _ ht), rfl, _, _, rfl, _, _, rfl, rfl, ?_⟩
        refine yesT ?_
        refine ⟨_, rfl, e, ?_⟩
        rw [dtK_take_snoc (k := g.2) (by rw [List.getElem?_map, eg]; rfl)]
        exact ea.snoc (hv.same e)
      · rw [hlz, ← hlm, List.take_length] at ea
        exact ⟨lp, acc, rfl, e.trans (same_new hlp _), upd_same, ea.same (same_new hlp _)⟩
    rintro σ1 H1 ⟨lp, ws, rfl, e1, hlp, hws⟩
    have hok : okK (fs.map (·.2)) := okK_map hk.1
    have hfu : fullK (fs.map (·.2)) := fullK_map hf.2
    have hdk : deepK (fs.map (·.2)) ≤ n := by rw [deepK_map]; omega
    have hks : fs.map (·.2) ≠ [] := fun z => hf.1 (List.map_eq_nil_iff.mp z)
    have hrm : (Kd.rcd fs).rm = rcdRm (rmK (fs.map (·.2))) := by rw [rmK_map]; rfl
    have hkl : (fs.map (·.2)).length ≤ 10 := by omega
    rw [hrm] at q
    clear hrm hlm
    generalize fs.map (·.2) = ks at hws hok hfu hdk hks q hkl
    have hlw : ws.length = ks.length := by rw [hws.len, dtK_len]
    have hlr : (rmK ks).length = ks.length := lenK ks
    have hb := bdK12 (n := n) hok (by omega) (by omega)
    have hne : rmK ks ≠ [] := fun z => hks (List.eq_nil_of_length_eq_zero (by rw [← hlr, z]; rfl))
    obtain ⟨x0, x1⟩ := mx_bd hb
    refine ⟨_, rfl, lp, rfl, ⟨_, SqL.of hlp⟩, ?_⟩
    refine comp_list (xs := ws) (fun i acc H' => Same H1 H' ∧ IsDs H' (((rmK ks).take i).map rdt) acc) (by omega) ⟨Same.refl _, rfl⟩ (fun i acc H' hi ⟨e, ea⟩ => ⟨SqL.of (e _ _ hlp), by rw [ea.len, List.length_map, List.length_take]; omega⟩) (fun i x acc H' hx ⟨e, ea⟩ => ?_) (fun acc H2 ⟨e2, ea⟩ ls hls => ?_)
    · obtain ⟨k, ek, hkx⟩ := kinds_at hws hx
      obtain ⟨ok1, ok2⟩ := ok_at hok ek
      refine nameYes ?_
      refine ⟨_, rfl, k, x, rfl, hkx.same e, ok1, fullK_at hfu ek, by omega, by omega, fun t H3 e3 ht => ⟨e.trans e3, ?_⟩⟩
      rw [take_snoc (rmK_at ek), List.map_append]
      exact IsDs.snoc (d := rdt k.rm) ⟨t, _, rfl, ht, _, _, rfl, rfl, _, _, rfl, rfl, rfl⟩ (ea.same e3)
    rw [hlw, ← hlr, List.take_length] at ea
    have e3 : Same H1 (upd H2 ls (.lst acc)) := e2.trans (same_new hls _)
    have hls3 : (upd H2 ls (.lst acc)) ls = some (.lst acc) := upd_same
    have ea3 : IsDs (upd H2 ls (.lst acc)) ((rmK ks).map rdt) acc := ea.same (same_new hls _)
    have hla : acc.length = (rmK ks).length := by rw [ea.len, List.length_map]
    generalize upd H2 ls (.lst acc) = H3 at e3 hls3 ea3
    refine ⟨_, rfl, ls, rfl, ⟨_, SqL.of hls3⟩, ?_⟩
    refine comp_list (xs := acc) (fun i acc' H' => Same H3 H' ∧ acc' = ((rmK ks).take i).map fun r => V.int r.2) (by omega) ⟨Same.refl _, rfl⟩ (fun i acc' H' hi ⟨e, ea'⟩ => ⟨SqL.of (e _ _ hls3), by rw [ea', List.length_map, List.length_take]; omega⟩) (fun i x acc' H' hx ⟨e, ea'⟩ => ?_) (fun acc' H4 ⟨e4, ea'⟩ l4 hn4 => ?_)
    · obtain ⟨r, pr, er, rfl, hpr⟩ := rooms_at ea3 hx
      refine nameYes ?_
      refine ⟨_, rfl, pr, _, _, _, rfl, rfl, SqT.of (e _ _ hpr), rfl, e, ?_⟩
      rw [ea', take_snoc er, List.map_append]
      rfl
    rw [hla, List.take_length] at ea'
    refine ⟨l4, (rmK ks).map (·.2), rfl, SqL.of (by rw [upd_same, ea', List.map_map]; rfl), fun z => hne (List.map_eq_nil_iff.mp z), fun M hM hle => ?_⟩
    obtain ⟨rM, hrM, eM⟩ := List.mem_map.mp hM
    rw [maxL_is (d := 1) hM (by rw [← eM]; exact (hb rM hrM).2.2.1) hle]
    have e5 : Same H3 (upd H4 l4 (.lst acc')) := e4.trans (same_new hn4 _)
    generalize upd H4 l4 (.lst acc') = H5 at e5
    clear hM hle eM hrM
    have e15 := (e1.trans e3).trans e5
    refine ⟨_, rfl, p, _, _, _, rfl, rfl, SqT.of (e15 _ _ hp), rfl, rfl, _, rfl, iteND (n1 (by decide +kernel)) ?_⟩
    have hls5 := e5 _ _ hls3
    have ea5 := ea3.same e5
    refine ⟨_, rfl, ls, rfl, ⟨_, SqL.of hls5⟩, ?_⟩
    refine for_list (xs := acc) (fun i σ H' => ∃ y1 y6, σ = [some (.ref p), y1, some (.int (maxL 1 ((rmK ks).map (·.2)))), some (.ref lp), some (.ref ls), some (.int (lastEnd 0 ((rmK ks).take i))), y6] ∧ H' = H5) ⟨_, _, rfl, rfl⟩ (fun i σ H' _ ⟨y1, y6, es, e⟩ => by rw [e]; exact SqL.of hls5) (fun i x σ H' hx ⟨y1, y6, es, e⟩ => ?_) (fun σ H' ⟨y1, y6, es, e⟩ => ?_)
    · subst es
      subst e
      obtain ⟨r, pr, er, rfl, hpr⟩ := rooms_at ea5 hx
      obtain ⟨b0, b1, b2, b3⟩ := hb r (List.mem_of_getElem? er)
      have bt : ∀ s ∈ (rmK ks).take i, Bd (2 ^ 150) s := fun s hs => hb s (List.mem_of_mem_take hs)
      obtain ⟨c0, c1⟩ := lastEnd_le (e := 0) (by omega) bt
      have c2 : (((rmK ks).take i).length : Int) * (2 ^ 150 + 8) ≤ 10 * (2 ^ 150 + 8) := Int.mul_le_mul_of_nonneg_right (by rw [List.length_take]; omega) (by decide)
      refine ⟨pr, _, rfl, SqT.of hpr, rfl, _, _, rfl, _, _, rfl, rfl, ?_⟩
      refine ⟨_, rfl, _, rfl, _, _, rfl, c0, by omega, by omega, by omega, _, rfl, _, _, rfl, rfl, ?_⟩
      refine ⟨some (.int r.1), some (.int r.2), ?_, rfl⟩
      rw [take_snoc er, lastEnd_snoc]
      rfl
    · rw [hla, List.take_length] at es
      subst es
      subst e
      obtain ⟨c0, c1⟩ := lastEnd_le (e := 0) (by omega) hb
      have c2 : ((rmK ks).length : Int) * (2 ^ 150 + 8) ≤ 10 * (2 ^ 150 + 8) := Int.mul_le_mul_of_nonneg_right (by omega) (by decide)
      refine ⟨_, rfl, _, rfl, _, _, rfl, c0, by omega, by omega, by omega, _, rfl, lists3 2 (by decide), fun p2 n2 => ?_⟩
      exact q p2 _ (e15.trans (same_new n2 _)) upd_same
  | cho ks =>
    obtain ⟨p, ys, rfl, hp, v1, r1, rfl, rfl, v2, r2, rfl, ⟨lp, ws, rfl, hlp0, hws0⟩, rfl⟩ := hv
    refine ⟨_, rfl, p, _, _, _, rfl, rfl, SqT.of hp, rfl, rfl, _, rfl, iteND (n1 (by decide +kernel)) ?_⟩
    refine ⟨_, rfl, p, _, _, _, rfl, rfl, SqT.of hp, rfl, rfl, _, rfl, iteND (n1 (by decide +kernel)) ?_⟩
    have hdp' : deepK ks + 1 ≤ n + 1 := hdp
    refine ⟨_, rfl, p, _, _, _, rfl, rfl, SqT.of hp, rfl, ?_⟩
    refine ⟨fun σ H' => σ = [some (.ref p), none, none, some (.ref lp), none, none, none] ∧ H' = H, ?_, ?_⟩
    · exact ⟨_, rfl, p, _, _, _, rfl, rfl, SqT.of hp, rfl, rfl, _, rfl, iteND (n1 (by decide +kernel)) ⟨rfl, rfl⟩⟩
    rintro σ1 H1 ⟨rfl, rfl⟩
    have hlp := hlp0
    have hws := hws0
    have hok : okK ks := hk.1
    have hfu : fullK ks := hf.2
    have hdk : deepK ks ≤ n := by omega
    have hks : ks ≠ [] := hf.1
    have hkl : ks.length ≤ 10 := hk.2
    have hrm : (Kd.cho ks).rm = (up (maxL 1 ((rmK ks).map (·.2)) + maxL 0 ((rmK ks).map (·.1))) (maxL 1 ((rmK ks).map (·.2))), maxL 1 ((rmK ks).map (·.2))) := by
      show choRm (rmK ks) = _
      have h := maxL_d (d := 1) ((rmK ks).map (·.2))
      show (up (up 1 (maxL 1 ((rmK ks).map (·.2))) + maxL 0 ((rmK ks).map (·.1))) (maxL 1 ((rmK ks).map (·.2))), _) = _
      rw [up_one h]
    rw [hrm] at q
    have hlw : ws.length = ks.length := by rw [hws.len, dtK_len]
    have hlr : (rmK ks).length = ks.length := lenK ks
    have hb := bdK12 (n := n) hok (by omega) (by omega)
    have hne : rmK ks ≠ [] := fun z => hks (List.eq_nil_of_length_eq_zero (by rw [← hlr, z]; rfl))
    obtain ⟨x0, x1⟩ := mx_bd hb
    refine ⟨_, rfl, lp, rfl, ⟨_, SqL.of hlp⟩, ?_⟩
    refine comp_list (xs := ws) (fun i acc H' => Same H1 H' ∧ IsDs H' (((rmK ks).take i).map rdt) acc) (by omega) ⟨Same.refl _, rfl⟩ (fun i acc H' hi ⟨e, ea⟩ => ⟨SqL.of (e _ _ hlp), by rw [ea.len, List.length_map, List.length_take]; omega⟩) (fun i x acc H' hx ⟨e, ea⟩ => ?_) (fun acc H2 ⟨e2, ea⟩ ls hls => ?_)
    · obtain ⟨k, ek, hkx⟩ := kinds_at hws hx
      obtain ⟨ok1, ok2⟩ := ok_at hok ek
      refine nameYes ?_
      refine ⟨_, rfl, k, x, rfl, hkx.same e, ok1, fullK_at hfu ek, by omega, by omega, fun t H3 e3 ht => ⟨e.trans e3, ?_⟩⟩
      rw [take_snoc (rmK_at ek), List.map_append]
      exact IsDs.snoc (d := rdt k.rm) ⟨t, _, rfl, ht, _, _, rfl, rfl, _, _, rfl, rfl, rfl⟩ (ea.same e3)
    rw [hlw, ← hlr, List.take_length] at ea
    have e3 : Same H1 (upd H2 ls (.lst acc)) := e2.trans (same_new hls _)
    have hls3 : (upd H2 ls (.lst acc)) ls = some (.lst acc) := upd_same
    have ea3 : IsDs (upd H2 ls (.lst acc)) ((rmK ks).map rdt) acc := ea.same (same_new hls _)
    have hla : acc.length = (rmK ks).length := by rw [ea.len, List.length_map]
    generalize upd H2 ls (.lst acc) = H3 at e3 hls3 ea3
    refine ⟨_, rfl, ls, rfl, ⟨_, SqL.of hls3⟩, ?_⟩
    refine comp_list (xs := acc) (fun i acc' H' => Same H3 H' ∧ acc' = ((rmK ks).take i).map fun r => V.int r.2) (by omega) ⟨Same.refl _, rfl⟩ (fun i acc' H' hi ⟨e, ea'⟩ => ⟨SqL.of (e _ _ hls3), by rw [ea', List.length_map, List.length_take]; omega⟩) (fun i x acc' H' hx ⟨e, ea'⟩ => ?_) (fun acc' H4 ⟨e4, ea'⟩ l4 hn4 => ?_)
    · obtain ⟨r, pr, er, rfl, hpr⟩ := rooms_at ea3 hx
      refine nameYes ?_
      refine ⟨_, rfl, pr, _, _, _, rfl, rfl, SqT.of (e _ _ hpr), rfl, e, ?_⟩
      rw [ea', take_snoc er, List.map_append]
      rfl
    rw [hla, List.take_length] at ea'
    refine ⟨l4, (rmK ks).map (·.2), rfl, SqL.of (by rw [upd_same, ea', List.map_map]; rfl), fun z => hne (List.map_eq_nil_iff.mp z), fun M hM hle => ?_⟩
    obtain ⟨rM, hrM, eM⟩ := List.mem_map.mp hM
    rw [maxL_is (d := 1) hM (by rw [← eM]; exact (hb rM hrM).2.2.1) hle]
    have e5 : Same H3 (upd H4 l4 (.lst acc')) := e4.trans (same_new hn4 _)
    generalize upd H4 l4 (.lst acc') = H5 at e5
    clear hM hle eM hrM
    have e15 := e3.trans e5
    refine ⟨_, rfl, p, _, _, _, rfl, rfl, SqT.of (e15 _ _ hp), rfl, rfl, _, rfl, iteDT rfl ?_⟩
    have hls5 := e5 _ _ hls3
    have ea5 := ea3.same e5
    refine ⟨_, rfl, _, rfl, ls, rfl, ⟨_, SqL.of hls5⟩, ?_⟩
    refine comp_list (xs := acc) (fun i acc' H' => Same H5 H' ∧ acc' = ((rmK ks).take i).map fun r => V.int r.1) (by omega) ⟨Same.refl _, rfl⟩ (fun i acc' H' hi ⟨e, ea'⟩ => ⟨SqL.of (e _ _ hls5), by rw [ea', List.length_map, List.length_take]; omega⟩) (fun i x acc' H' hx ⟨e, ea'⟩ => ?_) (fun acc'' H6 ⟨e6, ea'⟩ l6 hn6 => ?_)
    · obtain ⟨r, pr, er, rfl, hpr⟩ := rooms_at ea5 hx
      refine nameYes ?_
      refine ⟨_, rfl, pr, _, _, _, rfl, rfl, SqT.of (e _ _ hpr), rfl, e, ?_⟩
      rw [ea', take_snoc er, List.map_append]
      rfl
    rw [hla, List.take_length] at ea'
    refine ⟨l6, (rmK ks).map (·.1), rfl, SqL.of (by rw [upd_same, ea', List.map_map]; rfl), fun z => hne (List.map_eq_nil_iff.mp z), fun M hM hle => ?_⟩
    obtain ⟨rM, hrM, eM⟩ := List.mem_map.mp hM
    rw [maxL_is (d := 0) hM (by rw [← eM]; exact (hb rM hrM).1) hle]
    have g0 : 0 ≤ maxL 0 ((rmK ks).map (·.1)) := maxL_d _
    have g1 : maxL 0 ((rmK ks).map (·.1)) ≤ 2 ^ 150 := maxL_le (by decide) fun z hz => by obtain ⟨r, hr', rfl⟩ := List.mem_map.mp hz; exact (hb r hr').2.1
    refine ⟨_, _, rfl, rfl, _, rfl, _, _, rfl, by omega, by omega, by omega, by omega, _, rfl, lists3 2 (by decide), fun p2 n2 => ?_⟩
    exact q p2 _ (((e15.trans e6).trans (same_new hn6 _)).trans (same_new n2 _)) upd_same
theorem rm_none : FnOk P w K mg base CX0 j f fd ["kind"] (spRM 0) := by
  have no : ∀ vs H Q E, ¬ spRM 0 vs H Q E := fun vs H Q E h => by
    obtain ⟨kd, v, _, _, _, _, hd, _⟩ := h
    have := kd.deep_pos
    omega
  exact ⟨fun vs H Q E h => absurd h (no vs H Q E), fun A outer s H args us vs Q E _ _ _ _ h => absurd h (no vs H Q E)⟩
theorem ok_bo (F : Fun K "_law_bounded" "_law_bounded" s_law_bounded f fd) (GKI : FnOk P w K mg base CX0 j fKI dKI ["deck", "deep"] (spKI 5)) (bKI : Binds K dKI ["deck", "deep"] []) (kKI : PySem.W.keepIn K (.ref fKI) = true) (mKI : mg "_law_kind" = some (.ref fKI))
    (GRM : FnOk P w K mg base CX0 j2 fRM dRM ["kind"] (spRM 5)) (bRM : Binds K dRM ["kind"] []) (kRM : PySem.W.keepIn K (.ref fRM) = true) (mRM : mg "_law_room" = some (.ref fRM))
    (GNX : FnOk P w K mg base CX0 1 fNX dNX ["deck"] spNX) (bNX : Binds K dNX ["deck"] []) (kNX : PySem.W.keepIn K (.ref fNX) = true) (mNX : mg "_law_next" = some (.ref fNX)) (h1 : j ≤ 19) (h2 : j2 ≤ 19) : FnOk P w K mg base CX0 20 f fd ["deck", "deep", "most"] spBO := by
  refine F.ok sc_law_bounded (fun vs H Q E h => ?_) (fun cdv A outer s H vs Q E hr h => ?_)
  · obtain ⟨p, d, m, rfl, _⟩ := h
    rfl
  obtain ⟨p, d, m, rfl, hp, hd1, hd5, hm8, q⟩ := h
  have h3 : 1 ≤ 19 := by decide
  refine ⟨_, (pss_cons (ps_set (i := 3) sc_law_bounded.nd rfl (Or.inl rfl) (pe_call GKI (hr.mono h1) rfl mKI kKI bKI .nil pass0 (pa_cons (pv 0) (pa_cons (pv 1) pa_nil))))
    (pss_cons (ps_if (pt_cmpR op_gt (pe_ix ix_tup (pe_call GRM (hr.mono h2) rfl mRM kRM bRM .nil pass0 (pa_cons (pv 3) pa_nil)) pe_int (fun _ _ => rfl)) (pv 2) (nomark _)) (pss_one (ps_ret (pe_tup (pa_cons pe_str (pa_cons (pe_op op_add pe_int (pe_op op_mod (pe_call GNX (hr.mono h3) rfl mNX kNX bNX .nil pass0 (pa_cons (pv 0) pa_nil)) pe_int)) (pa_cons pe_int pa_nil)))))) pss_nil)
    (pss_one (ps_ret (pv 3))))), ?_⟩
  refine ⟨_, rfl, _, rfl, p, d, rfl, hp, hd1, hd5, fun kd v H1 e1 hD hF hdp hP1 => ?_⟩
  refine ⟨_, rfl, kd, v, rfl, hD.same (hide_sub _ _), hF.ok, hF.full, by omega, by decide, fun x H2 e2 hx => ⟨x, _, _, _, rfl, rfl, SqT.of hx, rfl, _, rfl, _, _, rfl, rfl, _, rfl, ite2 (fun c => ?_) (fun c => ⟨_, rfl, ?_⟩)⟩⟩
  · refine ⟨_, rfl, p, rfl, hP1.same e2, fun r H3 r0 r1 e3 hP3 => ⟨_, _, rfl, rfl, (by show (0 : Int) < 8; decide), _, _, rfl, rfl, lists3 3 (by decide), fun t ht => ?_⟩⟩
    have a0 : (0 : Int) ≤ r % 8 := Int.emod_nonneg _ (by decide)
    have a1 : r % 8 < 8 := Int.emod_lt_of_pos _ (by decide)
    exact q (.num (1 + r % 8) 8) (.ref t) _ (((e1.trans (SameX.of e2)).trans e3).trans (SameX.of (same_new ht _))) (num_is (hP3.ne ht) upd_same) ⟨by omega, by omega, by omega⟩ (by show ((1 : Nat) : Int) ≤ d; omega) (by show 1 + r % 8 ≤ m; omega) (hP3.same (same_new ht _))
  · have hc : ¬ kd.rm.1 > m := fun z => c (decide_eq_true z)
    exact q kd v H2 (e1.trans (SameX.of e2)) (hD.same (SameX.of e2)) hF hdp (by omega) (hP1.same e2)
end

def poD (fs : List (Str × Kd)) : List Dt := (fs.zip (plcs 0 (rmF fs))).map fun x => Dt.tup [.str x.1.1, .int x.2]
def spPO (n : Nat) : Sp := fun vs H Q _ => ∃ (a : Addr) (ws : List V) (fs : List (Str × Kd)), vs = [.ref a] ∧ H a = some (.lst ws) ∧ IsDs H (dtF fs) ws ∧ okF fs ∧ deepF fs ≤ n ∧ fs.length ≤ 10 ∧ n ≤ 12 ∧
  ∀ l zs H', Same H H' → H l = none → H' l = some (.lst zs) → IsDs H' (poD fs) zs → Q (.ref l) H'
section
variable {P : Program} {w : World} {K : PySem.W.Frag} {mg : Str → Option Value} {base : Heap} {f fPB fRS : Addr} {fd dPB dRS : FuncData} {n j : Nat}
theorem ok_po (F : Fun K "places_in_order" "places_in_order" s_places_in_order f fd) (GPB : FnOk P w K mg base CX0 2 fPB dPB ["rooms"] spPB) (bPB : Binds K dPB ["rooms"] []) (kPB : PySem.W.keepIn K (.ref fPB) = true) (mPB : mg "places_behind" = some (.ref fPB))
    (GRS : FnOk P w K mg base CX0 j fRS dRS ["kinds"] (spRS n)) (bRS : Binds K dRS ["kinds"] []) (kRS : PySem.W.keepIn K (.ref fRS) = true) (mRS : mg "rooms_of" = some (.ref fRS)) (m_zip : mg "zip" = none) (h1 : 2 ≤ j) : FnOk P w K mg base CX0 (j + 1) f fd ["fields"] (spPO n) := by
  refine F.ok sc_places_in_order (fun vs H Q E h => ?_) (fun cdv A outer s H vs Q E hr h => ?_)
  · obtain ⟨a, ws, fs, rfl, _⟩ := h
    rfl
  obtain ⟨a, ws, fs, rfl, ha, hws, hok, hdp, hlf, hn, q⟩ := h
  have hlw : ws.length = fs.length := by rw [hws.len, dtF_len]
  have hlm : (fs.map (·.2)).length = fs.length := List.length_map _
  refine ⟨_, (pss_cons (ps_set (i := 1) sc_places_in_order.nd rfl (Or.inl rfl) (pe_call GPB (hr.mono h1) rfl mPB kPB bPB .nil pass0 (pa_cons (pe_call GRS hr rfl mRS kRS bRS .nil pass0 (pa_cons (pe_comp (dsc := defScope s_places_in_order) (N := ["fields", "places"]) (tgs := ["field"]) (outs := []) (N' := ["field"]) ⟨rfl, by decide +kernel, by decide +kernel, by decide +kernel, rfl, by decide +kernel, by decide +kernel, by decide +kernel⟩ (pi_list (pv 0)) (fun _ _ _ _ _ => (pg_name (i := 0) (show (["field"] : List Str).Nodup by decide +kernel) rfl (Or.inl rfl) (.inr rfl))) (tgt_name (by decide)) (fun _ _ _ _ _ => pcs_nil) (fun _ _ _ _ _ => (pe_ix (ix_tupK K) (pv 0) pe_int (fun _ _ => rfl)))) pa_nil)) pa_nil)))
    (pss_one (ps_ret (pe_comp (dsc := defScope s_places_in_order) (N := ["fields", "places"]) (tgs := ["field", "place"]) (outs := []) (N' := ["field", "place"]) ⟨rfl, by decide +kernel, by decide +kernel, by decide +kernel, rfl, by decide +kernel, by decide +kernel, by decide +kernel⟩ (pi_zip (t1 := false) (t2 := false) rfl m_zip (pa_cons (pv 0) (pa_cons (pv 1) pa_nil))) (fun _ _ _ _ _ => (pg_tupK K (n := 2) rfl rfl (pgs_cons (pg_name (i := 0) (show (["field", "place"] : List Str).Nodup by decide +kernel) rfl (Or.inl rfl) (.inr rfl)) (pgs_cons (pg_name (i := 1) (show (["field", "place"] : List Str).Nodup by decide +kernel) rfl (Or.inl rfl) (.inr rfl)) pgs_nil)))) (tgt_tup (tgts_name (by decide) (tgts_name (by decide) tgts_nil tmono_nil) (tmono_name tmono_nil))) (fun _ _ _ _ _ => pcs_nil) (fun _ _ _ _ _ => (pe_tup (pa_cons (pe_ix (ix_tupK K) (pv 0) pe_int (fun _ _ => rfl)) (pa_cons (pv 1) pa_nil)))))))), ?_⟩
  refine ⟨_, rfl, a, rfl, ⟨_, SqL.of ha⟩, ?_⟩
  refine comp_list (xs := ws) (fun i acc H' => Same H H' ∧ IsDs H' (dtK ((fs.map (·.2)).take i)) acc) (by omega) ⟨Same.refl _, rfl⟩ (fun i acc H' hi ⟨e, ea⟩ => ⟨SqL.of (e _ _ ha), by rw [ea.len, dtK_len, List.length_take]; omega⟩) (fun i x acc H' hx ⟨e, ea⟩ => ?_) (fun acc H1 ⟨e1, ea⟩ l1 hn1 => ?_)
  · obtain ⟨g, t, v, eg, rfl, ht, hv⟩ := fields_at hws hx
    refine nameYes ?_
    refine ⟨_, rfl, t, _, _, _, rfl, rfl, SqT.of (e _ _ ht), atI_nat (j := 1) rfl, e, ?_⟩
    rw [dtK_take_snoc (k := g.2) (by rw [List.getElem?_map, eg]; rfl)]
    exact ea.snoc (hv.same e)
  rw [hlw, ← hlm, List.take_length] at ea
  have e2 : Same H (upd H1 l1 (.lst acc)) := e1.trans (same_new hn1 _)
  refine ⟨l1, acc, fs.map (·.2), rfl, upd_same, ea.same (same_new hn1 _), okK_map hok, by rw [deepK_map]; exact hdp, by omega, hn, fun l2 zs H2 e3 hl2 hzs => ?_⟩
  rw [rmK_map] at hzs
  refine ⟨l2, zs, rmF fs, rfl, hl2, hzs, by rw [lenF]; omega, bdF12 hok hdp hn, fun lp H3 e4 hlp => ?_⟩
  have e5 := (e2.trans e3).trans e4
  have hpl : ((plcs 0 (rmF fs)).map V.int).length = fs.length := by rw [List.length_map, plcs_length, lenF]
  refine ⟨_, rfl, _, rfl, a, lp, rfl, ⟨_, SqL.of (e5 _ _ ha)⟩, ⟨_, SqL.of hlp⟩, ?_⟩
  refine comp_zip (t1 := false) (t2 := false) (xs := ws) (ys := (plcs 0 (rmF fs)).map V.int) (fun i acc H' => Same H3 H' ∧ IsDs H' ((poD fs).take i) acc) (by omega) (by omega) ⟨Same.refl _, rfl⟩ (fun i acc H' hi ⟨e, ea⟩ => ⟨SqL.of (e _ _ (e5 _ _ ha)), SqL.of (e _ _ hlp), by rw [ea.len, List.length_take]; omega⟩) (fun i x y pz acc H' hx hy ⟨e, ea⟩ hpn => ?_) (fun acc H' ⟨e, ea⟩ l hn => ?_)
  · obtain ⟨g, t, v, eg, rfl, ht, hv⟩ := fields_at hws hx
    rw [List.getElem?_map] at hy
    cases hz : (plcs 0 (rmF fs))[i]? with
    | none => rw [hz] at hy; cases hy
    | some z =>
      rw [hz] at hy
      cases hy
      have en := e.trans (same_new hpn (.tup [.ref t, .int z]))
      refine ⟨pz, _, rfl, SqT.of upd_same, rfl, _, _, rfl, _, _, rfl, rfl, ?_⟩
      refine yesT ?_
      refine ⟨_, rfl, t, _, _, _, rfl, rfl, SqT.of (en _ _ (e5 _ _ ht)), atI_nat (j := 0) rfl, _, rfl, lists3 2 (by decide), fun t2 ht2 => ⟨en.trans (same_new ht2 _), ?_⟩⟩
      have ep : (poD fs)[i]? = some (.tup [.str g.1, .int z]) := by
        unfold poD
        rw [List.getElem?_map, (List.getElem?_zip_eq_some (z := (g, z))).mpr ⟨eg, hz⟩]
        rfl
      rw [take_snoc ep]
      exact IsDs.snoc (d := .tup [.str g.1, .int z]) ⟨t2, _, rfl, upd_same, _, _, rfl, rfl, _, _, rfl, rfl, rfl⟩ ((ea.same (same_new hpn _)).same (same_new ht2 _))
  · have hpo : (poD fs).length = fs.length := by
      unfold poD
      rw [List.length_map, List.length_zip, plcs_length, lenF]
      omega
    rw [hlw, ← hpo, List.take_length] at ea
    have hl0 : H l = none := by
      cases z : H l with
      | none => rfl
      | some o => rw [e _ _ (e5 _ _ z)] at hn; cases hn
    exact q l acc _ ((e5.trans e).trans (same_new hn _)) hl0 upd_same (ea.same (same_new hn _))
end

section
variable {P : Program} {w : World} {K : PySem.W.Frag} {mg : Str → Option Value} {base : Heap} {fNX fNA fKI fRM fUP fAL fCP : Addr} {dNX dNA dKI dRM dUP dAL dCP : FuncData}
theorem ki_all (xKI : Fx K mg "_law_kind" s_law_kind ["deck", "deep"] fKI dKI) (xNX : Fx K mg "_law_next" s_law_next ["deck"] fNX dNX) (xNA : Fx K mg "_law_names" s_law_names ["deck", "many"] fNA dNA) (m_range : mg "range" = none) (m_list : mg "list" = none) (m_zip : mg "zip" = none) (m_len : mg "len" = none) :
    ∀ n, FnOk P w K mg base CX0 (2 + n) fKI dKI ["deck", "deep"] (spKI n)
  | 0 => ki_none
  | n + 1 => (ok_ki xKI.F (ok_nx xNX.F) xNX.b xNX.k xNX.m (ok_na xNA.F (ok_nx xNX.F) xNX.b xNX.k xNX.m m_range) xNA.b xNA.k xNA.m (ki_all xKI xNX xNA m_range m_list m_zip m_len n) xKI.b xKI.k xKI.m m_range m_list m_zip m_len (by omega)).mono (by omega)
theorem rm_all (xRM : Fx K mg "_law_room" s_law_room ["kind"] fRM dRM) (xUP : Fx K mg "_law_up" s_law_up ["number", "m"] fUP dUP) (m_max : mg "max" = none) : ∀ n, FnOk P w K mg base CX0 (1 + n) fRM dRM ["kind"] (spRM n)
  | 0 => rm_none
  | n + 1 => (ok_rm xRM.F (rm_all xRM xUP m_max n) xRM.b xRM.k xRM.m (ok_up xUP.F) xUP.b xUP.k xUP.m m_max (by omega)).mono (by omega)
end

mutual
def Kd.Po : Kd → Prop
  | .num _ _ => True
  | .row k n => k.Po ∧ 1 ≤ n
  | .rcd fs => poF fs
  | .cho ks => poK ks
def poF : List (Str × Kd) → Prop
  | [] => True
  | f :: r => f.2.Po ∧ poF r
def poK : List Kd → Prop
  | [] => True
  | k :: r => k.Po ∧ poK r
end
mutual
theorem Kd.Fit.po : ∀ (k : Kd), k.Fit → k.Po
  | .num _ _, _ => trivial
  | .row k _, h => ⟨Kd.Fit.po k h.1, h.2.1⟩
  | .rcd fs, h => fitF_po fs h.1
  | .cho ks, h => fitK_po ks h.1
theorem fitF_po : ∀ (fs : List (Str × Kd)), fitF fs → poF fs
  | [], _ => trivial
  | f :: r, h => ⟨Kd.Fit.po f.2 h.1.2, fitF_po r h.2⟩
theorem fitK_po : ∀ (ks : List Kd), fitK ks → poK ks
  | [], _ => trivial
  | k :: r, h => ⟨Kd.Fit.po k h.1, fitK_po r h.2⟩
end
theorem poF_at : ∀ {fs : List (Str × Kd)} {i : Nat} {f : Str × Kd}, poF fs → fs[i]? = some f → f.2.Po
  | [], _, _, _, e => by simp at e
  | k' :: r, 0, k, h, e => by simp at e; subst e; exact h.1
  | k' :: r, i + 1, k, h, e => poF_at (i := i) h.2 (by simpa using e)
theorem poK_at : ∀ {ks : List Kd} {i : Nat} {k : Kd}, poK ks → ks[i]? = some k → k.Po
  | [], _, _, _, e => by simp at e
  | k' :: r, 0, k, h, e => by simp at e; subst e; exact h.1
  | k' :: r, i + 1, k, h, e => poK_at (i := i) h.2 (by simpa using e)
theorem lastEnd_at : ∀ {rs : List (Int × Int)} {e : Int} {i : Nat} {r : Int × Int} {p : Int}, Rms rs → rs[i]? = some r → (plcs e rs)[i]? = some p → p + r.1 ≤ lastEnd e rs ∧ e ≤ p
  | [], _, _, _, _, _, h, _ => by simp at h
  | s :: rs, e, 0, r, p, hR, h, hp => by
    simp at h
    subst h
    have hp' : up e s.2 = p := by have : (up e s.2 :: plcs (up e s.2 + s.1) rs)[0]? = some p := hp; simpa using this
    obtain ⟨a, b⟩ := hR s List.mem_cons_self
    have g := lastEnd_ge (rs := rs) (e := up e s.2 + s.1) fun x hx => hR x (List.mem_cons_of_mem _ hx)
    have u := (up_bounds (n := e) b).1
    show p + s.1 ≤ lastEnd (up e s.2 + s.1) rs ∧ _
    omega
  | s :: rs, e, i + 1, r, p, hR, h, hp => by
    obtain ⟨a, b⟩ := hR s List.mem_cons_self
    have hp' : (plcs (up e s.2 + s.1) rs)[i]? = some p := by have : (up e s.2 :: plcs (up e s.2 + s.1) rs)[i + 1]? = some p := hp; simpa using this
    obtain ⟨x, y⟩ := lastEnd_at (rs := rs) (i := i) (fun x hx => hR x (List.mem_cons_of_mem _ hx)) (by simpa using h) hp'
    have u := (up_bounds (n := e) b).1
    exact ⟨x, by omega⟩
theorem filF_snoc : ∀ {ps : List Int} {fs : List (Str × Kd)} {p : Int} {f : Str × Kd} {l : List Bool}, ps.length = fs.length → filF (ps ++ [p]) (fs ++ [f]) l = overlay (filF ps fs l) p.toNat f.2.fil
  | [], [], _, _, _, _ => by simp [filF]
  | q :: ps, g :: fs, p, f, l, h => by
    show filF (ps ++ [p]) (fs ++ [f]) _ = overlay (filF ps fs _) _ _
    exact filF_snoc (by simpa using h)
  | [], _ :: _, _, _, _, h => by simp at h
  | _ :: _, [], _, _, _, h => by simp at h
theorem filK_snoc : ∀ {ks : List Kd} {k : Kd} {p : Nat} {l : List Bool}, filK p (ks ++ [k]) l = overlay (filK p ks l) p k.fil
  | [], _, _, _ => by simp [filK]
  | g :: ks, k, p, l => by
    show filK p (ks ++ [k]) _ = overlay (filK p ks _) _ _
    exact filK_snoc
def spFB (n : Nat) : Sp := fun vs H Q _ => ∃ (kd : Kd) (v : V), vs = [v] ∧ IsD H kd.dt v ∧ kd.Ok ∧ kd.Po ∧ kd.deep ≤ n ∧ n ≤ 12 ∧ kd.rm.1 ≤ 100000 ∧ ∀ l H', Same H H' → H l = none → H' l = some (.lst (kd.fil.map V.bl)) → Q (.ref l) H'
def spFS (n : Nat) : Sp := fun vs H Q _ => ∃ (kd : Kd) (v : V), vs = [v] ∧ IsD H kd.dt v ∧ kd.Ok ∧ kd.Po ∧ kd.deep ≤ n ∧ n ≤ 12 ∧ up kd.rm.1 kd.rm.2 ≤ 100000 ∧ ∀ l H', Same H H' → H l = none → H' l = some (.lst ((overlay (List.replicate (up kd.rm.1 kd.rm.2).toNat false) 0 kd.fil).map V.bl)) → Q (.ref l) H'
def spFL (n : Nat) : Sp := fun vs H Q _ => ∃ (a : Addr) (bs : List Bool) (p : Int) (kd : Kd) (v : V), vs = [.ref a, .int p, v] ∧ H a = some (.lst (bs.map V.bl)) ∧ IsD (hide a H) kd.dt v ∧ kd.Ok ∧ kd.Po ∧ kd.deep ≤ n ∧ n ≤ 12 ∧ kd.rm.1 ≤ 100000 ∧ 0 ≤ p ∧ p + kd.rm.1 ≤ (bs.length : Int) ∧
  ∀ H', SameX a H H' → H' a = some (.lst ((overlay bs p.toNat kd.fil).map V.bl)) → Q .non H'
def hoD (hs : List (Nat × Nat)) : List Dt := hs.map fun h => Dt.tup [.int (h.1 : Int), .int (h.2 : Int)]
def spHO (n : Nat) : Sp := fun vs H Q _ => ∃ (kd : Kd) (v : V), vs = [v] ∧ IsD H kd.dt v ∧ kd.Ok ∧ kd.Po ∧ kd.deep ≤ n ∧ n ≤ 12 ∧ kd.rm.1 ≤ 100000 ∧ ∀ l zs H', Same H H' → H l = none → H' l = some (.lst zs) → IsDs (hide l H') (hoD (holes kd.fil)) zs → Q (.ref l) H'
theorem rep_flat {α : Type} (v : α) : ∀ n, (List.replicate n [v]).flatten = List.replicate n v
  | 0 => rfl
  | n + 1 => by show v :: (List.replicate n [v]).flatten = _; rw [rep_flat v n]; rfl
theorem size5 {n : Nat} (h : n ≤ 100000) : n ≤ sizeLine := by rw [sizeLine_eq]; omega
theorem ixN_in {n : Nat} {i : Int} (h0 : 0 ≤ i) (h1 : i < n) : ixN n i = some i.toNat := by
  unfold ixN
  rw [if_pos h0, if_pos h1]
theorem fresh_of {H H' : Hp} {l : Addr} (e : Same H H') (h : H' l = none) : H l = none := by
  cases z : H l with
  | none => rfl
  | some o => rw [e _ _ z] at h; cases h
theorem hide_of {H H' : Hp} {l : Addr} {d : Dt} {v : V} (hd : IsD H d v) (hl : H l = none) (e : Same H H') : IsD (hide l H') d v := by
  refine hd.same fun b o q => ?_
  rw [hide_ne (ne_of_none q hl)]
  exact e _ _ q
section
variable {P : Program} {w : World} {K : PySem.W.Frag} {mg : Str → Option Value} {base : Heap} {f fFB fFS fFR fFC fFL fSO fRO fPO fCA : Addr} {fd dFB dFS dFR dFC dFL dSO dRO dPO dCA : FuncData} {n j jR jP : Nat}
theorem ok_fl (F : Fun K "fill" "fill" s_fill f fd) (GFB : FnOk P w K mg base CX0 j fFB dFB ["kind"] (spFB n)) (bFB : Binds K dFB ["kind"] []) (kFB : PySem.W.keepIn K (.ref fFB) = true) (mFB : mg "filled_bytes" = some (.ref fFB)) (m_enumerate : mg "enumerate" = none) : FnOk P w K mg base CX0 (j + 1) f fd ["filled", "place", "kind"] (spFL n) := by
  refine F.ok sc_fill (fun vs H Q E h => ?_) (fun cdv A outer s H vs Q E hr h => ?_)
  · obtain ⟨a, bs, p, kd, v, rfl, _⟩ := h
    rfl
  obtain ⟨a, bs, p, kd, v, rfl, ha, hv, hok, hpo, hdp, hn, hrm, hp0, hpb, q⟩ := h
  have hfl := kd.fil_len hok
  have hb := kd.bd hok
  refine ⟨_, (pss_one (ps_for PassesOwn.never rfl (pi_enum rfl m_enumerate (pa_cons (pe_call GFB hr rfl mFB kFB bFB .nil pass0 (pa_cons (pv 2) pa_nil)) pa_nil)) (pg_tup rfl (pgs_cons (pg_name (i := 3) sc_fill.nd rfl (Or.inl rfl)) (pgs_cons (pg_name (i := 4) sc_fill.nd rfl (Or.inl rfl)) pgs_nil))) (pss_one (ps_if (pt_val (pv 4)) (pss_one (ps_asg pe_bl (pg_sub (pv 0) (pe_op op_add (pv 1) (pv 3)) set_list))) pss_nil)))), ?_⟩
  refine ⟨_, rfl, kd, v, rfl, hv.same (hide_sub _ _), hok, hpo, hdp, hn, hrm, fun l H1 e1 hl0 hl => ?_⟩
  have hla : l ≠ a := fun z => by rw [z, ha] at hl0; cases hl0
  refine ⟨l, rfl, ⟨_, SqL.of hl⟩, ?_⟩
  refine for_enum (xs := kd.fil.map V.bl) (fun i σ H' => ∃ x3 x4, σ = [some (.ref a), some (.int p), some v, x3, x4] ∧ SameX a H H' ∧ H' l = some (.lst (kd.fil.map V.bl)) ∧ H' a = some (.lst ((overlay bs p.toNat (kd.fil.take i)).map V.bl))) ⟨_, _, rfl, SameX.of e1, hl, by rw [List.take_zero, overlay_nil]; exact e1 _ _ ha⟩
    (fun i σ H' _ ⟨x3, x4, es, e, hl', ha'⟩ => SqL.of hl') (fun i x pt σ H' hx ⟨x3, x4, es, e, hl', ha'⟩ hpn => ?_) (fun σ H' ⟨x3, x4, es, e, hl', ha'⟩ => ?_)
  · subst es
    rw [List.getElem?_map] at hx
    cases hb' : kd.fil[i]? with
    | none => rw [hb'] at hx; cases hx
    | some b =>
      rw [hb'] at hx
      cases hx
      have hi : i < kd.fil.length := (List.getElem?_eq_some_iff.mp hb').1
      have s1 := same_new hpn (.tup [.int (i : Int), .bl b])
      have hpa : pt ≠ a := fun z => by rw [z, ha'] at hpn; cases hpn
      have htl : (kd.fil.take i).length = i := by rw [List.length_take]; omega
      have hlt : p.toNat + (kd.fil.take i).length < bs.length := by omega
      have hov := overlay_snoc (l := bs) (p := p.toNat) (bs := kd.fil.take i) (b := b) hlt
      rw [← take_snoc hb', htl] at hov
      refine ⟨pt, _, rfl, SqT.of upd_same, rfl, _, _, rfl, _, _, rfl, rfl, ?_⟩
      refine ⟨_, rfl, b, rfl, ?_⟩
      cases b with
      | true =>
        rw [if_pos rfl] at hov
        refine iteT ⟨_, rfl, _, rfl, _, rfl, _, _, rfl, rfl, a, _, _, p.toNat + i, rfl, rfl, s1 _ _ ha', ?_, ?_⟩
        · rw [List.length_map, overlay_len]
          have h3 : (p + (i : Int)).toNat = p.toNat + i := by omega
          rw [← h3]
          exact ixN_in (by omega) (by omega)
        · refine ⟨_, _, rfl, (e.trans (SameX.of s1)).trans (SameX.upd _ _ _), ?_, ?_⟩
          · rw [upd_ne hla]; exact s1 _ _ hl'
          · rw [upd_same, hov, List.map_set]
      | false =>
        rw [if_neg Bool.false_ne_true] at hov
        refine iteF ⟨_, _, rfl, e.trans (SameX.of s1), s1 _ _ hl', ?_⟩
        rw [hov]
        exact s1 _ _ ha'
  · rw [List.length_map, List.take_length] at ha'
    exact q H' e ha'
theorem ok_fs (F : Fun K "filled_step" "filled_step" s_filled_step f fd) (GSO : FnOk P w K mg base CX0 2 fSO dSO ["room"] spSO) (bSO : Binds K dSO ["room"] []) (kSO : PySem.W.keepIn K (.ref fSO) = true) (mSO : mg "step_of" = some (.ref fSO))
    (GRO : FnOk P w K mg base CX0 jR fRO dRO ["kind"] (spRO n)) (bRO : Binds K dRO ["kind"] []) (kRO : PySem.W.keepIn K (.ref fRO) = true) (mRO : mg "room_of" = some (.ref fRO))
    (GFL : FnOk P w K mg base CX0 j fFL dFL ["filled", "place", "kind"] (spFL n)) (bFL : Binds K dFL ["filled", "place", "kind"] []) (kFL : PySem.W.keepIn K (.ref fFL) = true) (mFL : mg "fill" = some (.ref fFL)) (h2 : 2 ≤ j) (hRO : jR ≤ j) : FnOk P w K mg base CX0 (j + 1) f fd ["kind"] (spFS n) := by
  refine F.ok sc_filled_step (fun vs H Q E h => ?_) (fun cdv A outer s H vs Q E hr h => ?_)
  · obtain ⟨kd, v, rfl, _⟩ := h
    rfl
  obtain ⟨kd, v, rfl, hv, hok, hpo, hdp, hn, hrm, q⟩ := h
  obtain ⟨b0, b1, b2, b3⟩ := kd.bd hok
  obtain ⟨u1, u2⟩ := up_bounds (n := kd.rm.1) (m := kd.rm.2) (by omega)
  refine ⟨_, (pss_cons (ps_set (i := 1) sc_filled_step.nd rfl (Or.inl rfl) (pe_op op_rep (pe_lst (pa_cons pe_bl pa_nil)) (pe_call GSO (hr.mono h2) rfl mSO kSO bSO .nil pass0 (pa_cons (pe_call GRO (hr.mono hRO) rfl mRO kRO bRO .nil pass0 (pa_cons (pv 0) pa_nil)) pa_nil))))
    (pss_cons (ps_expr (pe_call GFL hr rfl mFL kFL bFL .nil pass0 (pa_cons (pv 1) (pa_cons pe_int (pa_cons (pv 0) pa_nil)))))
    (pss_one (ps_ret (pv 1))))), ?_⟩
  refine ⟨lists3 1 (by decide), fun l0 hl0 => ⟨_, rfl, kd, v, rfl, hv.same (same_new hl0 _), hok, hdp, hn, fun x H1 e1 hx => ⟨x, _, _, rfl, hx, b0, by omega, by omega, by omega, ?_⟩⟩⟩
  have e01 : Same H H1 := (same_new hl0 _).trans e1
  refine ⟨l0, _, [.bl false], rfl, rfl, e1 _ _ upd_same, by omega, by omega, size5 (by show 1 * _ ≤ 100000; omega), fun l hl => ?_⟩
  have hrep : (List.replicate (up kd.rm.1 kd.rm.2).toNat [V.bl false]).flatten = (List.replicate (up kd.rm.1 kd.rm.2).toNat false).map V.bl := by rw [rep_flat, List.map_replicate]
  rw [hrep]
  have hlH := fresh_of e01 hl
  have e02 := e01.trans (same_new hl (.lst ((List.replicate (up kd.rm.1 kd.rm.2).toNat false).map V.bl)))
  refine ⟨_, rfl, _, rfl, l, _, 0, kd, v, rfl, upd_same, hide_of hv hlH e02, hok, hpo, hdp, hn, by omega, by decide, by rw [List.length_replicate]; omega, fun H2 e2 hl2 => ?_⟩
  refine ⟨_, rfl, q l H2 (fun b o hb => ?_) hlH hl2⟩
  exact e2.get (ne_of_none hb hlH) (e02 _ _ hb)
theorem ok_fr (F : Fun K "filled_record" "filled_record" s_filled_record f fd) (GRO : FnOk P w K mg base CX0 jR fRO dRO ["kind"] (spRO (n + 1))) (bRO : Binds K dRO ["kind"] []) (kRO : PySem.W.keepIn K (.ref fRO) = true) (mRO : mg "room_of" = some (.ref fRO))
    (GPO : FnOk P w K mg base CX0 jP fPO dPO ["fields"] (spPO n)) (bPO : Binds K dPO ["fields"] []) (kPO : PySem.W.keepIn K (.ref fPO) = true) (mPO : mg "places_in_order" = some (.ref fPO))
    (GFL : FnOk P w K mg base CX0 j fFL dFL ["filled", "place", "kind"] (spFL n)) (bFL : Binds K dFL ["filled", "place", "kind"] []) (kFL : PySem.W.keepIn K (.ref fFL) = true) (mFL : mg "fill" = some (.ref fFL)) (m_zip : mg "zip" = none) (hRO : jR ≤ j) (hPO : jP ≤ j) :
    FnOk P w K mg base CX0 (j + 1) f fd ["kind"] (fun vs H Q E => (∃ (fs : List (Str × Kd)) (v : V), vs = [v] ∧ IsD H (Kd.rcd fs).dt v ∧ (Kd.rcd fs).Ok ∧ (Kd.rcd fs).Po ∧ (Kd.rcd fs).deep ≤ n + 1 ∧ n + 1 ≤ 12 ∧ (Kd.rcd fs).rm.1 ≤ 100000 ∧ ∀ l H', Same H H' → H l = none → H' l = some (.lst ((Kd.rcd fs).fil.map V.bl)) → Q (.ref l) H')) := by
  refine F.ok sc_filled_record (fun vs H Q E h => ?_) (fun cdv A outer s H vs Q E hr h => ?_)
  · obtain ⟨fs, v, rfl, _⟩ := h
    rfl
  obtain ⟨fs, v, rfl, hv, hok, hpo, hdp, hn, hrm, q⟩ := h
  have hdp' : deepF fs + 1 ≤ n + 1 := hdp
  have hbd := bdF12 (n := n) hok.1 (by omega) (by omega)
  have hR : Rms (rmF fs) := rmsF hok.1
  have hle : lastEnd 0 (rmF fs) ≤ (Kd.rcd fs).rm.1 := (up_bounds (by have := (mx_bd hbd).1; omega)).1
  have h0 : 0 ≤ (Kd.rcd fs).rm.1 := ((Kd.rcd fs).bd hok).1
  have hlf := hok.2
  obtain ⟨p, ys, rfl, hp, v1, r1, rfl, rfl, v2, r2, rfl, ⟨lw, ws, rfl, hlw, hws⟩, rfl⟩ := id hv
  have hlws : ws.length = fs.length := by rw [hws.len, dtF_len]
  refine ⟨_, (pss_cons (ps_set (i := 1) sc_filled_record.nd rfl (Or.inl rfl) (pe_op op_rep (pe_lst (pa_cons pe_bl pa_nil)) (pe_ix ix_tup (pe_call GRO (hr.mono hRO) rfl mRO kRO bRO .nil pass0 (pa_cons (pv 0) pa_nil)) pe_int (fun _ _ => rfl))))
    (pss_cons (ps_for PassesOwn.never rfl (pi_zip (t1 := false) (t2 := false) rfl m_zip (pa_cons (pe_ix ix_tup (pv 0) pe_int (fun _ _ => rfl)) (pa_cons (pe_call GPO (hr.mono hPO) rfl mPO kPO bPO .nil pass0 (pa_cons (pe_ix ix_tup (pv 0) pe_int (fun _ _ => rfl)) pa_nil)) pa_nil))) (pg_tup rfl (pgs_cons (pg_name (i := 2) sc_filled_record.nd rfl (Or.inl rfl)) (pgs_cons (pg_name (i := 3) sc_filled_record.nd rfl (Or.inl rfl)) pgs_nil))) (pss_one (ps_expr (pe_call GFL hr rfl mFL kFL bFL .nil pass0 (pa_cons (pv 1) (pa_cons (pe_ix ix_tup (pv 3) pe_int (fun _ _ => rfl)) (pa_cons (pe_ix ix_tup (pv 2) pe_int (fun _ _ => rfl)) pa_nil)))))))
    (pss_one (ps_ret (pv 1))))), ?_⟩
  refine ⟨lists3 1 (by decide), fun l0 hl0 => ⟨_, rfl, _, _, rfl, hv.same (same_new hl0 _), hok, hdp, hn, fun x H1 e1 hx => ⟨x, _, _, _, rfl, rfl, SqT.of hx, rfl, ?_⟩⟩⟩
  have e01 : Same H H1 := (same_new hl0 _).trans e1
  refine ⟨l0, _, [.bl false], rfl, rfl, e1 _ _ upd_same, by omega, by omega, size5 (by show 1 * _ ≤ 100000; omega), fun l hl => ?_⟩
  have hrep : (List.replicate (Kd.rcd fs).rm.1.toNat [V.bl false]).flatten = (List.replicate (Kd.rcd fs).rm.1.toNat false).map V.bl := by rw [rep_flat, List.map_replicate]
  rw [hrep]
  have hlH := fresh_of e01 hl
  have e02 := e01.trans (same_new hl (.lst ((List.replicate (Kd.rcd fs).rm.1.toNat false).map V.bl)))
  have hl2 : (upd H1 l (.lst ((List.replicate (Kd.rcd fs).rm.1.toNat false).map V.bl))) l = some (.lst ((List.replicate (Kd.rcd fs).rm.1.toNat false).map V.bl)) := upd_same
  generalize upd H1 l (.lst ((List.replicate (Kd.rcd fs).rm.1.toNat false).map V.bl)) = H2 at e02 hl2
  refine ⟨_, rfl, p, _, _, _, rfl, rfl, SqT.of (e02 _ _ hp), rfl, _, rfl, p, _, _, _, rfl, rfl, SqT.of (e02 _ _ hp), rfl, lw, ws, fs, rfl, e02 _ _ hlw, hws.same e02, hok.1, by omega, by omega, by omega, fun lp zp H3 e3 hlp0 hlp hzp => ?_⟩
  have e03 := e02.trans e3
  have hlz : zp.length = fs.length := by
    rw [hzp.len]
    unfold poD
    rw [List.length_map, List.length_zip, plcs_length, lenF]
    omega
  refine ⟨lw, lp, rfl, ⟨_, SqL.of (e03 _ _ hlw)⟩, ⟨_, SqL.of hlp⟩, ?_⟩
  have hl3 := e3 _ _ hl2
  have hlpl : lp ≠ l := fun z => by rw [z, hl2] at hlp0; cases hlp0
  have hlwl : lw ≠ l := ne_of_none hlw hlH
  refine for_zip (t1 := false) (t2 := false) (xs := ws) (ys := zp) (fun i σ H' => ∃ x2 x3, σ = [some (.ref p), some (.ref l), x2, x3] ∧ SameX l H3 H' ∧ H' l = some (.lst ((filF ((plcs 0 (rmF fs)).take i) (fs.take i) (List.replicate (Kd.rcd fs).rm.1.toNat false)).map V.bl))) (by omega) ⟨_, _, rfl, SameX.of (Same.refl _), by rw [List.take_zero, List.take_zero]; exact hl3⟩
    (fun i σ H' _ ⟨x2, x3, es, e, hl'⟩ => ⟨SqL.of (e.get hlwl (e03 _ _ hlw)), SqL.of (e.get hlpl hlp)⟩) (fun i x y pt σ H' hx hy ⟨x2, x3, es, e, hl'⟩ hpn => ?_) (fun σ H' ⟨x2, x3, es, e, hl'⟩ => ?_)
  · subst es
    obtain ⟨g, t, vg, eg, rfl, ht, hvg⟩ := fields_at hws hx
    obtain ⟨og, dg⟩ := okF_at hok.1 eg
    have hrg := rmF_at eg
    have hi : i < fs.length := (List.getElem?_eq_some_iff.mp eg).1
    have hpi : i < (plcs 0 (rmF fs)).length := by rw [plcs_length, lenF]; exact hi
    have hpl := List.getElem?_eq_getElem hpi
    generalize (plcs 0 (rmF fs))[i] = z at hpl
    obtain ⟨le1, le2⟩ := lastEnd_at hR hrg hpl
    have ep : (poD fs)[i]? = some (.tup [.str g.1, .int z]) := by
      unfold poD
      rw [List.getElem?_map, (List.getElem?_zip_eq_some (z := (g, z))).mpr ⟨eg, hpl⟩]
      rfl
    obtain ⟨dd, ed, hdy⟩ := hzp.get hy
    rw [ep] at ed
    cases ed
    obtain ⟨ty, us, rfl, hty, a1, b1, rfl, rfl, a2, b2, rfl, rfl, rfl⟩ := hdy
    have s1 := same_new hpn (.tup [.ref t, .ref ty])
    have htl : t ≠ l := ne_of_none ht hlH
    have htyl : ty ≠ l := fun z => by rw [z, hl3] at hty; cases hty
    have hptl : pt ≠ l := fun z => by rw [z, hl'] at hpn; cases hpn
    have ht' := s1 _ _ (e.get htl (e03 _ _ ht))
    have hty' := s1 _ _ (e.get htyl hty)
    refine ⟨pt, _, rfl, SqT.of upd_same, rfl, _, _, rfl, _, _, rfl, rfl, ?_⟩
    have hvl : IsD (hide l (upd H' pt (.tup [.ref t, .ref ty]))) g.2.dt vg := ((hide_of hvg hlH e03).same e).same (SameX.of s1)
    refine ⟨_, rfl, _, rfl, ty, _, _, _, rfl, rfl, SqT.of hty', rfl, _, rfl, t, _, _, _, rfl, rfl, SqT.of ht', rfl, l, _, z, g.2, vg, rfl, s1 _ _ hl', hvl, og, poF_at hpo eg, by omega, by omega, ?_, le2, ?_, fun H4 e4 hl4 => ?_⟩
    · have : g.2.rm.1 ≤ lastEnd 0 (rmF fs) := by omega
      omega
    · rw [filF_len, List.length_replicate]
      omega
    · refine ⟨_, _, rfl, (e.trans (SameX.of s1)).trans e4, ?_⟩
      rw [hl4, take_snoc eg, take_snoc hpl, filF_snoc (by rw [List.length_take, List.length_take, plcs_length, lenF])]
  · subst es
    rw [hlws, List.take_of_length_le (by rw [plcs_length, lenF]; exact Nat.le_refl _), List.take_length] at hl'
    refine ⟨_, rfl, q l H' (fun b o hb => e.get (ne_of_none hb hlH) (e03 _ _ hb)) hlH hl'⟩
theorem ok_fc (F : Fun K "filled_choice" "filled_choice" s_filled_choice f fd) (GRO : FnOk P w K mg base CX0 jR fRO dRO ["kind"] (spRO (n + 1))) (bRO : Binds K dRO ["kind"] []) (kRO : PySem.W.keepIn K (.ref fRO) = true) (mRO : mg "room_of" = some (.ref fRO))
    (GCA : FnOk P w K mg base CX0 2 fCA dCA ["multiple"] spCA) (bCA : Binds K dCA ["multiple"] []) (kCA : PySem.W.keepIn K (.ref fCA) = true) (mCA : mg "chosen_at" = some (.ref fCA))
    (GFL : FnOk P w K mg base CX0 j fFL dFL ["filled", "place", "kind"] (spFL n)) (bFL : Binds K dFL ["filled", "place", "kind"] []) (kFL : PySem.W.keepIn K (.ref fFL) = true) (mFL : mg "fill" = some (.ref fFL)) (hRO : jR ≤ j) (h2 : 2 ≤ j) :
    FnOk P w K mg base CX0 (j + 1) f fd ["kind"] (fun vs H Q E => (∃ (ks : List Kd) (v : V), vs = [v] ∧ IsD H (Kd.cho ks).dt v ∧ (Kd.cho ks).Ok ∧ (Kd.cho ks).Po ∧ (Kd.cho ks).deep ≤ n + 1 ∧ n + 1 ≤ 12 ∧ (Kd.cho ks).rm.1 ≤ 100000 ∧ ∀ l H', Same H H' → H l = none → H' l = some (.lst ((Kd.cho ks).fil.map V.bl)) → Q (.ref l) H')) := by
  refine F.ok sc_filled_choice (fun vs H Q E h => ?_) (fun cdv A outer s H vs Q E hr h => ?_)
  · obtain ⟨ks, v, rfl, _⟩ := h
    rfl
  obtain ⟨ks, v, rfl, hv, hok, hpo, hdp, hn, hrm, q⟩ := h
  have hdp' : deepK ks + 1 ≤ n + 1 := hdp
  have hbd := bdK12 (n := n) hok.1 (by omega) (by omega)
  obtain ⟨m1, m2⟩ := mx_bd hbd
  have hrm2 : (Kd.cho ks).rm.2 = maxL 1 ((rmK ks).map (·.2)) := rfl
  have hrm1 : (Kd.cho ks).rm.1 = maxL 1 ((rmK ks).map (·.2)) + up (maxL 0 ((rmK ks).map (·.1))) (maxL 1 ((rmK ks).map (·.2))) := by
    show (choRm (rmK ks)).1 = _
    rw [cho_eq]
  have g0 : 0 ≤ maxL 0 ((rmK ks).map (·.1)) := maxL_d _
  obtain ⟨u1, u2⟩ := up_bounds (n := maxL 0 ((rmK ks).map (·.1))) (m := maxL 1 ((rmK ks).map (·.2))) (by omega)
  have hu1 : up 1 (Kd.cho ks).rm.2 = (Kd.cho ks).rm.2 := up_one (by rw [hrm2]; exact m1)
  obtain ⟨p, ys, rfl, hp, v1, r1, rfl, rfl, v2, r2, rfl, ⟨lw, ws, rfl, hlw, hws⟩, rfl⟩ := id hv
  have hlws : ws.length = ks.length := by rw [hws.len, dtK_len]
  refine ⟨_, (pss_cons (ps_set (i := 1) sc_filled_choice.nd rfl (Or.inl rfl) (pe_call GRO (hr.mono hRO) rfl mRO kRO bRO .nil pass0 (pa_cons (pv 0) pa_nil)))
    (pss_cons (ps_set (i := 2) sc_filled_choice.nd rfl (Or.inl rfl) (pe_op op_rep (pe_lst (pa_cons pe_bl pa_nil)) (pe_ix ix_tup (pv 1) pe_int (fun _ _ => rfl))))
    (pss_cons (ps_asg pe_bl (pg_sub (pv 2) pe_int set_list))
    (pss_cons (ps_for PassesOwn.never rfl (pi_list (pe_ix ix_tup (pv 0) pe_int (fun _ _ => rfl))) (pg_name (i := 3) sc_filled_choice.nd rfl (Or.inl rfl)) (pss_one (ps_expr (pe_call GFL hr rfl mFL kFL bFL .nil pass0 (pa_cons (pv 2) (pa_cons (pe_call GCA (hr.mono h2) rfl mCA kCA bCA .nil pass0 (pa_cons (pe_ix ix_tup (pv 1) pe_int (fun _ _ => rfl)) pa_nil)) (pa_cons (pv 3) pa_nil)))))))
    (pss_one (ps_ret (pv 2))))))), ?_⟩
  refine ⟨_, rfl, _, _, rfl, hv, hok, hdp, hn, fun x H1 e1 hx => ?_⟩
  refine ⟨lists3 1 (by decide), fun l0 hl0 => ?_⟩
  have s0 := same_new hl0 (.lst [.bl false])
  refine ⟨_, rfl, x, _, _, _, rfl, rfl, SqT.of (s0 _ _ hx), rfl, l0, _, [.bl false], rfl, rfl, upd_same, by omega, by omega, size5 (by show 1 * _ ≤ 100000; omega), fun l hl => ?_⟩
  have hrep : (List.replicate (Kd.cho ks).rm.1.toNat [V.bl false]).flatten = (List.replicate (Kd.cho ks).rm.1.toNat false).map V.bl := by rw [rep_flat, List.map_replicate]
  rw [hrep]
  have e01 : Same H (upd H1 l0 (.lst [.bl false])) := e1.trans s0
  have hlH := fresh_of e01 hl
  have hlx : x ≠ l := ne_of_none (s0 _ _ hx) hl
  refine ⟨_, rfl, l, _, _, 0, rfl, rfl, upd_same, ?_, ?_⟩
  · rw [List.length_map, List.length_replicate]
    exact ixN_in (i := 0) (by decide) (by omega)
  have e02 : Same H (upd (upd (upd H1 l0 (.lst [.bl false])) l (.lst ((List.replicate (Kd.cho ks).rm.1.toNat false).map V.bl))) l (.lst (((List.replicate (Kd.cho ks).rm.1.toNat false).map V.bl).set 0 (.bl true)))) := same_set (same_set e01 hlH _) hlH _
  have hl2 : (upd (upd (upd H1 l0 (.lst [.bl false])) l (.lst ((List.replicate (Kd.cho ks).rm.1.toNat false).map V.bl))) l (.lst (((List.replicate (Kd.cho ks).rm.1.toNat false).map V.bl).set 0 (.bl true)))) l = some (.lst (((List.replicate (Kd.cho ks).rm.1.toNat false).set 0 true).map V.bl)) := by rw [upd_same, List.map_set]
  have hx2 : (upd (upd (upd H1 l0 (.lst [.bl false])) l (.lst ((List.replicate (Kd.cho ks).rm.1.toNat false).map V.bl))) l (.lst (((List.replicate (Kd.cho ks).rm.1.toNat false).map V.bl).set 0 (.bl true)))) x = some (.tup [.int (Kd.cho ks).rm.1, .int (Kd.cho ks).rm.2]) := by rw [upd_ne hlx, upd_ne hlx]; exact s0 _ _ hx
  generalize upd (upd (upd H1 l0 (.lst [.bl false])) l (.lst ((List.replicate (Kd.cho ks).rm.1.toNat false).map V.bl))) l (.lst (((List.replicate (Kd.cho ks).rm.1.toNat false).map V.bl).set 0 (.bl true))) = H2 at e02 hl2 hx2
  have hlwl : lw ≠ l := ne_of_none hlw hlH
  refine ⟨_, rfl, p, _, _, _, rfl, rfl, SqT.of (e02 _ _ hp), rfl, lw, rfl, ⟨_, SqL.of (e02 _ _ hlw)⟩, ?_⟩
  refine for_list (xs := ws) (fun i σ H' => ∃ x3, σ = [some (.ref p), some (.ref x), some (.ref l), x3] ∧ SameX l H2 H' ∧ H' l = some (.lst ((filK (up 1 (Kd.cho ks).rm.2).toNat (ks.take i) ((List.replicate (Kd.cho ks).rm.1.toNat false).set 0 true)).map V.bl))) ⟨_, rfl, SameX.of (Same.refl _), by rw [List.take_zero]; exact hl2⟩
    (fun i σ H' _ ⟨x3, es, e, hl'⟩ => SqL.of (e.get hlwl (e02 _ _ hlw))) (fun i y σ H' hy ⟨x3, es, e, hl'⟩ => ?_) (fun σ H' ⟨x3, es, e, hl'⟩ => ?_)
  · subst es
    obtain ⟨k, ek, hvk⟩ := kinds_at hws hy
    obtain ⟨ok1, ok2⟩ := ok_at hok.1 ek
    have hx' := e.get hlx hx2
    have hrk : k.rm.1 ≤ maxL 0 ((rmK ks).map (·.1)) := maxL_ge (List.mem_map_of_mem (f := fun r : Int × Int => r.1) (List.mem_of_getElem? (rmK_at ek)))
    have hrk0 := (k.bd ok1).1
    refine ⟨_, rfl, _, rfl, x, _, _, _, rfl, rfl, SqT.of hx', rfl, (Kd.cho ks).rm.2, rfl, by omega, by omega, _, rfl, l, _, up 1 (Kd.cho ks).rm.2, k, y, rfl, hl', (hide_of hvk hlH e02).same e, ok1, poK_at hpo ek, by omega, by omega, by omega, by omega, ?_, fun H4 e4 hl4 => ?_⟩
    · rw [filK_len, List.length_set, List.length_replicate]
      omega
    · refine ⟨_, rfl, e.trans e4, ?_⟩
      rw [hl4, take_snoc ek, filK_snoc]
  · subst es
    rw [hlws, List.take_length] at hl'
    exact ⟨_, rfl, q l H' (fun b o hb => e.get (ne_of_none hb hlH) (e02 _ _ hb)) hlH hl'⟩
set_option maxHeartbeats 8000000 in
theorem ok_fb (F : Fun K "filled_bytes" "filled_bytes" s_filled_bytes f fd) (GFS : FnOk P w K mg base CX0 j fFS dFS ["kind"] (spFS n)) (bFS : Binds K dFS ["kind"] []) (kFS : PySem.W.keepIn K (.ref fFS) = true) (mFS : mg "filled_step" = some (.ref fFS))
    (GFR : FnOk P w K mg base CX0 j fFR dFR ["kind"] (fun vs H Q E => (∃ (fs : List (Str × Kd)) (v : V), vs = [v] ∧ IsD H (Kd.rcd fs).dt v ∧ (Kd.rcd fs).Ok ∧ (Kd.rcd fs).Po ∧ (Kd.rcd fs).deep ≤ n + 1 ∧ n + 1 ≤ 12 ∧ (Kd.rcd fs).rm.1 ≤ 100000 ∧ ∀ l H', Same H H' → H l = none → H' l = some (.lst ((Kd.rcd fs).fil.map V.bl)) → Q (.ref l) H'))) (bFR : Binds K dFR ["kind"] []) (kFR : PySem.W.keepIn K (.ref fFR) = true) (mFR : mg "filled_record" = some (.ref fFR))
    (GFC : FnOk P w K mg base CX0 j fFC dFC ["kind"] (fun vs H Q E => (∃ (ks : List Kd) (v : V), vs = [v] ∧ IsD H (Kd.cho ks).dt v ∧ (Kd.cho ks).Ok ∧ (Kd.cho ks).Po ∧ (Kd.cho ks).deep ≤ n + 1 ∧ n + 1 ≤ 12 ∧ (Kd.cho ks).rm.1 ≤ 100000 ∧ ∀ l H', Same H H' → H l = none → H' l = some (.lst ((Kd.cho ks).fil.map V.bl)) → Q (.ref l) H'))) (bFC : Binds K dFC ["kind"] []) (kFC : PySem.W.keepIn K (.ref fFC) = true) (mFC : mg "filled_choice" = some (.ref fFC)) :
    FnOk P w K mg base CX0 (j + 1) f fd ["kind"] (spFB (n + 1)) := by
  refine F.ok sc_filled_bytes (fun vs H Q E h => ?_) (fun cdv A outer s H vs Q E hr h => ?_)
  · obtain ⟨kd, v, rfl, _⟩ := h
    rfl
  obtain ⟨kd, v, rfl, hv, hok, hpo, hdp, hn, hrm, q⟩ := h
  have n1 : ∀ {x y : Str}, (x == y) = false → ¬ (V.str x = V.str y) := fun h => str_ne h
  refine ⟨_, (pss_cons (ps_if (pt_cmpR op_eq (pe_ix ix_tup (pv 0) pe_int (fun _ _ => rfl)) pe_str (nomark _)) (pss_one (ps_ret (pe_op op_rep (pe_lst (pa_cons pe_bl pa_nil)) (pe_ix ix_tup (pv 0) pe_int (fun _ _ => rfl))))) pss_nil)
    (pss_cons (ps_if (pt_cmpR op_eq (pe_ix ix_tup (pv 0) pe_int (fun _ _ => rfl)) pe_str (nomark _)) (pss_one (ps_ret (pe_op op_rep (pe_call GFS hr rfl mFS kFS bFS .nil pass0 (pa_cons (pe_ix ix_tup (pv 0) pe_int (fun _ _ => rfl)) pa_nil)) (pe_ix ix_tup (pv 0) pe_int (fun _ _ => rfl))))) pss_nil)
    (pss_cons (ps_if (pt_cmpR op_eq (pe_ix ix_tup (pv 0) pe_int (fun _ _ => rfl)) pe_str (nomark _)) (pss_one (ps_ret (pe_call GFR hr rfl mFR kFR bFR .nil pass0 (pa_cons (pv 0) pa_nil)))) pss_nil)
    (pss_one (ps_ret (pe_call GFC hr rfl mFC kFC bFC .nil pass0 (pa_cons (pv 0) pa_nil))))))), ?_⟩
  cases kd with
  | num wd m =>
    obtain ⟨p, ys, rfl, hp, v1, r1, rfl, rfl, v2, r2, rfl, rfl, v3, r3, rfl, rfl, rfl⟩ := hv
    refine ⟨_, rfl, p, _, _, _, rfl, rfl, SqT.of hp, rfl, rfl, _, rfl, iteDT rfl ?_⟩
    obtain ⟨a1, a2, _⟩ := hok
    refine ⟨lists3 1 (by decide), fun l0 hl0 => ?_⟩
    have s0 := same_new hl0 (.lst [.bl true])
    refine ⟨_, rfl, p, _, _, _, rfl, rfl, SqT.of (s0 _ _ hp), rfl, l0, _, [.bl true], rfl, rfl, upd_same, by omega, by omega, size5 (by show 1 * _ ≤ 100000; omega), fun l hl => ?_⟩
    refine q l _ (s0.trans (same_new hl _)) (fresh_of s0 hl) ?_
    rw [upd_same, rep_flat]
    show _ = some (HO.lst ((List.replicate wd.toNat true).map V.bl))
    rw [List.map_replicate]
  | row k m =>
    obtain ⟨p, ys, rfl, hp, v1, r1, rfl, rfl, v2, r2, rfl, hv2, v3, r3, rfl, rfl, rfl⟩ := hv
    have hdp' : k.deep + 1 ≤ n + 1 := hdp
    obtain ⟨b0, b1, b2, b3⟩ := k.bd hok.1
    obtain ⟨u1, u2⟩ := up_bounds (n := k.rm.1) (m := k.rm.2) (by omega)
    have hm1 := hpo.2
    have hm := hok.2
    have hrm' : m * up k.rm.1 k.rm.2 ≤ 100000 := hrm
    have hup : up k.rm.1 k.rm.2 ≤ 100000 := by
      have : 1 * up k.rm.1 k.rm.2 ≤ m * up k.rm.1 k.rm.2 := Int.mul_le_mul_of_nonneg_right hm1 (by omega)
      omega
    refine ⟨_, rfl, p, _, _, _, rfl, rfl, SqT.of hp, rfl, rfl, _, rfl, iteND (n1 (by decide +kernel)) ?_⟩
    refine ⟨_, rfl, p, _, _, _, rfl, rfl, SqT.of hp, rfl, rfl, _, rfl, iteDT rfl ?_⟩
    refine ⟨_, rfl, p, _, _, _, rfl, rfl, SqT.of hp, rfl, k, v2, rfl, hv2, hok.1, hpo.1, by omega, by omega, hup, fun l1 H1 e1 hl10 hl1 => ?_⟩
    refine ⟨_, rfl, p, _, _, _, rfl, rfl, SqT.of (e1 _ _ hp), rfl, l1, _, _, rfl, rfl, hl1, by omega, by omega, size5 ?_, fun l hl => ?_⟩
    · rw [List.length_map, overlay_len, List.length_replicate]
      have e : ((up k.rm.1 k.rm.2).toNat * m.toNat : Nat) = (m * up k.rm.1 k.rm.2).toNat := by rw [Nat.mul_comm, Int.toNat_mul (by omega) (by omega)]
      rw [e]
      omega
    · refine q l _ (e1.trans (same_new hl _)) (fresh_of e1 hl) ?_
      rw [upd_same]
      show _ = some (HO.lst ((List.replicate m.toNat (overlay (List.replicate (up k.rm.1 k.rm.2).toNat false) 0 k.fil)).flatten.map V.bl))
      rw [List.map_flatten, List.map_replicate]
  | rcd fs =>
    obtain ⟨p, ys, rfl, hp, v1, r1, rfl, rfl, v2, r2, rfl, hv2, rfl⟩ := id hv
    refine ⟨_, rfl, p, _, _, _, rfl, rfl, SqT.of hp, rfl, rfl, _, rfl, iteND (n1 (by decide +kernel)) ?_⟩
    refine ⟨_, rfl, p, _, _, _, rfl, rfl, SqT.of hp, rfl, rfl, _, rfl, iteND (n1 (by decide +kernel)) ?_⟩
    refine ⟨_, rfl, p, _, _, _, rfl, rfl, SqT.of hp, rfl, rfl, _, rfl, iteDT rfl ?_⟩
    exact ⟨_, rfl, fs, _, rfl, hv, hok, hpo, hdp, hn, hrm, q⟩
  | cho ks =>
    obtain ⟨p, ys, rfl, hp, v1, r1, rfl, rfl, v2, r2, rfl, hv2, rfl⟩ := id hv
    refine ⟨_, rfl, p, _, _, _, rfl, rfl, SqT.of hp, rfl, rfl, _, rfl, iteND (n1 (by decide +kernel)) ?_⟩
    refine ⟨_, rfl, p, _, _, _, rfl, rfl, SqT.of hp, rfl, rfl, _, rfl, iteND (n1 (by decide +kernel)) ?_⟩
    refine ⟨_, rfl, p, _, _, _, rfl, rfl, SqT.of hp, rfl, rfl, _, rfl, iteND (n1 (by decide +kernel)) ?_⟩
    exact ⟨_, rfl, ks, _, rfl, hv, hok, hpo, hdp, hn, hrm, q⟩
theorem fb_none : FnOk P w K mg base CX0 j f fd ["kind"] (spFB 0) := by
  have no : ∀ vs H Q E, ¬ spFB 0 vs H Q E := fun vs H Q E h => by
    obtain ⟨kd, v, _, _, _, _, hd, _⟩ := h
    have := kd.deep_pos
    omega
  exact ⟨fun vs H Q E h => absurd h (no vs H Q E), fun A outer s H args us vs Q E _ _ _ _ h => absurd h (no vs H Q E)⟩
theorem hole_at {H : Hp} {t l : Addr} {a b : Nat} (h : H t = some (.tup [.int (a : Int), .int (b : Int)])) (n : t ≠ l) : IsD (hide l H) (.tup [.int (a : Int), .int (b : Int)]) (.ref t) :=
  ⟨t, _, rfl, by rw [hide_ne n]; exact h, _, _, rfl, rfl, _, _, rfl, rfl, rfl⟩
theorem hoD_snoc (hs : List (Nat × Nat)) (a b : Nat) : hoD (hs ++ [(a, b)]) = hoD hs ++ [.tup [.int (a : Int), .int (b : Int)]] := by
  unfold hoD
  rw [List.map_append]
  rfl
set_option maxHeartbeats 8000000 in
theorem ok_ho (F : Fun K "holes_of" "holes_of" s_holes_of f fd) (GFB : FnOk P w K mg base CX0 j fFB dFB ["kind"] (spFB n)) (bFB : Binds K dFB ["kind"] []) (kFB : PySem.W.keepIn K (.ref fFB) = true) (mFB : mg "filled_bytes" = some (.ref fFB)) (m_enumerate : mg "enumerate" = none) (m_len : mg "len" = none) : FnOk P w K mg base CX0 (j + 1) f fd ["kind"] (spHO n) := by
  refine F.ok sc_holes_of (fun vs H Q E h => ?_) (fun cdv A outer s H vs Q E hr h => ?_)
  · obtain ⟨kd, v, rfl, _⟩ := h
    rfl
  obtain ⟨kd, v, rfl, hv, hok, hpo, hdp, hn, hrm, q⟩ := h
  have hfl := kd.fil_len hok
  have hb := kd.bd hok
  refine ⟨_, (pss_cons (ps_set (i := 1) sc_holes_of.nd rfl (Or.inl rfl) (pe_call GFB hr rfl mFB kFB bFB .nil pass0 (pa_cons (pv 0) pa_nil)))
    (pss_cons (ps_set (i := 2) sc_holes_of.nd rfl (Or.inl rfl) (pe_lst pa_nil))
    (pss_cons (ps_set (i := 3) sc_holes_of.nd rfl (Or.inl rfl) pe_int)
    (pss_cons (ps_for PassesOwn.never rfl (pi_enum rfl m_enumerate (pa_cons (pv 1) pa_nil)) (pg_tup rfl (pgs_cons (pg_name (i := 4) sc_holes_of.nd rfl (Or.inl rfl)) (pgs_cons (pg_name (i := 5) sc_holes_of.nd rfl (Or.inl rfl)) pgs_nil))) (pss_one (ps_if (pt_val (pv 5)) (pss_cons (ps_mid (ps_if (pt_cmpR op_lt (pv 3) (pv 4) (nomark _)) (pss_one (ps_expr (pe_bm PySem.F.plainAttrs_list PySem.F.slot_list_append PySem.F.type_list_append mt_append (pv 2) (pa_cons (pe_tup (pa_cons (pv 3) (pa_cons (pv 4) pa_nil))) pa_nil)))) pss_nil))
    (pss_one (ps_set (i := 3) sc_holes_of.nd rfl (Or.inl rfl) (pe_op op_add (pv 4) pe_int)))) pss_nil)))
    (pss_cons (ps_mid (ps_if (pt_cmpR op_lt (pv 3) (pe_callB call_len_seq rfl m_len PySem.boot_len (pa_cons (pv 1) pa_nil)) (nomark _)) (pss_one (ps_expr (pe_bm PySem.F.plainAttrs_list PySem.F.slot_list_append PySem.F.type_list_append mt_append (pv 2) (pa_cons (pe_tup (pa_cons (pv 3) (pa_cons (pe_callB call_len_seq rfl m_len PySem.boot_len (pa_cons (pv 1) pa_nil)) pa_nil))) pa_nil)))) pss_nil))
    (pss_one (ps_ret (pv 2)))))))), ?_⟩
  refine ⟨_, rfl, kd, v, rfl, hv, hok, hpo, hdp, hn, hrm, fun lf H1 e1 hlf0 hlf => ⟨lists3 0 (by decide), fun lh hlh => ?_⟩⟩
  have hlhH := fresh_of e1 hlh
  have hlfh : lf ≠ lh := ne_of_none hlf hlh
  refine ⟨_, rfl, lf, rfl, ⟨_, SqL.of ((same_new hlh _) _ _ hlf)⟩, ?_⟩
  have hbs : kd.fil.length ≤ 100000 := by omega
  generalize hL : kd.fil = L at hlf hbs
  refine for_enum (xs := L.map V.bl) (fun i σ H' => ∃ (b : Nat) (zs : List V) (acc : List (Nat × Nat)) (x4 x5 : Option V), σ = [some v, some (.ref lf), some (.ref lh), some (.int (b : Int)), x4, x5] ∧ Same H H' ∧ H' lf = some (.lst (L.map V.bl)) ∧ H' lh = some (.lst zs) ∧ IsDs (hide lh H') (hoD acc) zs ∧ b ≤ i ∧ acc.length ≤ i ∧ acc ++ hgo i b (L.drop i) = holes L)
    ⟨0, [], [], _, _, rfl, e1.trans (same_new hlh _), (same_new hlh _) _ _ hlf, upd_same, rfl, Nat.le_refl _, Nat.le_refl _, rfl⟩
    (fun i σ H' _ ⟨b, zs, acc, x4, x5, es, e, hf', _⟩ => SqL.of hf') (fun i x pt σ H' hx ⟨b, zs, acc, x4, x5, es, e, hf', hh', hD, hbi, hai, hg⟩ hpn => ?_) (fun σ H' ⟨b, zs, acc, x4, x5, es, e, hf', hh', hD, hbi, hai, hg⟩ => ?_)
  · subst es
    rw [List.getElem?_map] at hx
    cases hbx : L[i]? with
    | none => rw [hbx] at hx; cases hx
    | some c =>
      rw [hbx] at hx
      cases hx
      have hi : i < L.length := (List.getElem?_eq_some_iff.mp hbx).1
      have hdr : L.drop i = c :: L.drop (i + 1) := by
        rw [List.drop_eq_getElem_cons hi]
        have := List.getElem?_eq_getElem hi
        rw [hbx] at this
        cases this
        rfl
      rw [hdr] at hg
      have s1 := same_new hpn (.tup [.int (i : Int), .bl c])
      have hzl : zs.length = acc.length := by rw [hD.len]; unfold hoD; rw [List.length_map]
      refine ⟨pt, _, rfl, SqT.of upd_same, rfl, _, _, rfl, _, _, rfl, rfl, ?_⟩
      refine ⟨_, rfl, c, rfl, ?_⟩
      cases c with
      | false => exact iteF ⟨b, zs, acc, _, _, rfl, e.trans s1, s1 _ _ hf', s1 _ _ hh', hD.same (SameX.of s1), by omega, by omega, hg⟩
      | true =>
        refine iteT ⟨fun σ' H'' => ∃ (zs : List V) (acc : List (Nat × Nat)), σ' = [some v, some (.ref lf), some (.ref lh), some (.int (b : Int)), some (.int (i : Int)), some (.bl true)] ∧ Same H H'' ∧ H'' lf = some (.lst (L.map V.bl)) ∧ H'' lh = some (.lst zs) ∧ IsDs (hide lh H'') (hoD acc) zs ∧ acc.length ≤ i + 1 ∧ acc ++ hgo (i + 1) (i + 1) (L.drop (i + 1)) = holes L, ?_, ?_⟩
        · refine ⟨_, rfl, _, rfl, _, _, rfl, rfl, _, rfl, ite2 (fun c => ?_) (fun c => ?_)⟩
          · have hlt : b < i := by have := of_decide_eq_true c; omega
            refine ⟨_, rfl, .inl ⟨rfl, _, SqL.of (s1 _ _ hh')⟩, _, rfl, _, rfl, lists3 2 (by decide), fun t ht => ?_⟩
            have s2 := same_new ht (.tup [.int (b : Int), .int (i : Int)])
            have htl : t ≠ lh := fun z => by rw [z, s1 _ _ hh'] at ht; cases ht
            refine ⟨lh, _, _, rfl, rfl, s2 _ _ (s1 _ _ hh'), Nat.lt_of_le_of_lt (show zs.length ≤ 100000 by omega) (by rw [sizeLine_eq]; decide), ?_⟩
            refine ⟨zs ++ [.ref t], acc ++ [(b, i)], rfl, same_set ((e.trans s1).trans s2) hlhH _, ?_, upd_same, ?_, by rw [List.length_append]; exact Nat.succ_le_succ hai, ?_⟩
            · rw [upd_ne hlfh]; exact s2 _ _ (s1 _ _ hf')
            · rw [hoD_snoc]
              exact IsDs.snoc (hole_at (by rw [upd_ne htl]; exact upd_same) htl) (((hD.same (SameX.of s1)).same (SameX.of s2)).same (SameX.upd _ _ _))
            · rw [← hg, List.append_assoc]
              show _ = acc ++ ((if b < i then [(b, i)] else []) ++ hgo (i + 1) (i + 1) (L.drop (i + 1)))
              rw [if_pos hlt]
          · have hlt : ¬ b < i := fun z => c (decide_eq_true (by omega))
            refine ⟨zs, acc, rfl, e.trans s1, s1 _ _ hf', s1 _ _ hh', hD.same (SameX.of s1), by omega, ?_⟩
            rw [← hg]
            show _ = acc ++ ((if b < i then [(b, i)] else []) ++ hgo (i + 1) (i + 1) (L.drop (i + 1)))
            rw [if_neg hlt]
            rfl
        · rintro σ' H2 ⟨zs', acc', rfl, e2, hf2, hh2, hD2, ha2, hg2⟩
          exact ⟨_, rfl, _, _, rfl, rfl, i + 1, zs', acc', _, _, rfl, e2, hf2, hh2, hD2, Nat.le_refl _, ha2, hg2⟩
  · subst es
    rw [List.length_map] at hbi hai hg
    rw [List.drop_length] at hg
    have hg' : acc ++ (if b < L.length then [(b, L.length)] else []) = holes L := hg
    have hzl : zs.length = acc.length := by rw [hD.len]; unfold hoD; rw [List.length_map]
    refine ⟨fun σ' H'' => ∃ zs : List V, σ' = [some v, some (.ref lf), some (.ref lh), some (.int (b : Int)), x4, x5] ∧ Same H H'' ∧ H'' lh = some (.lst zs) ∧ IsDs (hide lh H'') (hoD (holes L)) zs, ?_, ?_⟩
    · refine ⟨_, rfl, _, rfl, lf, _, rfl, .inl (SqL.of hf'), _, _, rfl, rfl, _, rfl, ite2 (fun c => ?_) (fun c => ?_)⟩
      · have hlt : b < L.length := by have := of_decide_eq_true c; rw [List.length_map] at this; omega
        rw [if_pos hlt] at hg'
        refine ⟨_, rfl, .inl ⟨rfl, _, SqL.of hh'⟩, _, rfl, _, rfl, lf, _, rfl, .inl (SqL.of hf'), lists3 2 (by decide), fun t ht => ?_⟩
        rw [List.length_map]
        have s2 := same_new ht (.tup [.int (b : Int), .int (L.length : Int)])
        have htl : t ≠ lh := fun z => by rw [z, hh'] at ht; cases ht
        refine ⟨lh, _, _, rfl, rfl, s2 _ _ hh', Nat.lt_of_le_of_lt (show zs.length ≤ 100000 by omega) (by rw [sizeLine_eq]; decide), ?_⟩
        refine ⟨zs ++ [.ref t], rfl, same_set (e.trans s2) hlhH _, upd_same, ?_⟩
        rw [← hg', hoD_snoc]
        exact IsDs.snoc (hole_at (by rw [upd_ne htl]; exact upd_same) htl) ((hD.same (SameX.of s2)).same (SameX.upd _ _ _))
      · have hlt : ¬ b < L.length := fun z => c (decide_eq_true (by rw [List.length_map]; omega))
        rw [if_neg hlt, List.append_nil] at hg'
        exact ⟨zs, rfl, e, hh', by rw [← hg']; exact hD⟩
    · rintro σ' H2 ⟨zs', rfl, e2, hh2, hD2⟩
      refine ⟨_, rfl, q lh zs' H2 e2 hlhH hh2 ?_⟩
      rw [hL]
      exact hD2
end

section
variable {P : Program} {w : World} {K : PySem.W.Frag} {mg : Str → Option Value} {base : Heap} {fFB fFS fFR fFC fFL fSO fRO fPO fCA : Addr} {dFB dFS dFR dFC dFL dSO dRO dPO dCA : FuncData}
theorem fb_all (xFB : Fx K mg "filled_bytes" s_filled_bytes ["kind"] fFB dFB) (xFS : Fx K mg "filled_step" s_filled_step ["kind"] fFS dFS) (xFR : Fx K mg "filled_record" s_filled_record ["kind"] fFR dFR) (xFC : Fx K mg "filled_choice" s_filled_choice ["kind"] fFC dFC) (xFL : Fx K mg "fill" s_fill ["filled", "place", "kind"] fFL dFL)
    (xSO : Fx K mg "step_of" s_step_of ["room"] fSO dSO) (xRO : Fx K mg "room_of" s_room_of ["kind"] fRO dRO) (xPO : Fx K mg "places_in_order" s_places_in_order ["fields"] fPO dPO) (xCA : Fx K mg "chosen_at" s_chosen_at ["multiple"] fCA dCA)
    (GSO : FnOk P w K mg base CX0 2 fSO dSO ["room"] spSO) (GCA : FnOk P w K mg base CX0 2 fCA dCA ["multiple"] spCA) (GRO : ∀ n, FnOk P w K mg base CX0 (2 + 3 * n) fRO dRO ["kind"] (spRO n)) (GPO : ∀ n, FnOk P w K mg base CX0 (4 + 3 * n) fPO dPO ["fields"] (spPO n))
    (m_zip : mg "zip" = none) (m_enumerate : mg "enumerate" = none) : ∀ n, FnOk P w K mg base CX0 (6 + 3 * n) fFB dFB ["kind"] (spFB n)
  | 0 => fb_none
  | n + 1 =>
    have GFL := ok_fl xFL.F (fb_all xFB xFS xFR xFC xFL xSO xRO xPO xCA GSO GCA GRO GPO m_zip m_enumerate n) xFB.b xFB.k xFB.m m_enumerate
    (ok_fb xFB.F (ok_fs xFS.F GSO xSO.b xSO.k xSO.m (GRO n) xRO.b xRO.k xRO.m GFL xFL.b xFL.k xFL.m (by omega) (by omega)) xFS.b xFS.k xFS.m
      (ok_fr xFR.F (GRO (n + 1)) xRO.b xRO.k xRO.m (GPO n) xPO.b xPO.k xPO.m GFL xFL.b xFL.k xFL.m m_zip (by omega) (by omega)) xFR.b xFR.k xFR.m
      (ok_fc xFC.F (GRO (n + 1)) xRO.b xRO.k xRO.m GCA xCA.b xCA.k xCA.m GFL xFL.b xFL.k xFL.m (by omega) (by omega)) xFC.b xFC.k xFC.m).mono (by omega)
end

structure VConsts (mg : Str → Option Value) : Prop where
  many : ∃ t, mg "HOW_MANY_BYTES" = some (.int 256 t)
  bits : ∃ t, mg "BITS_OF_A_BYTE" = some (.int 8 t)
theorem ixN_in2 {n : Nat} {k : Int} (h0 : 0 ≤ k) (h1 : k < n) : ixN n k = some k.toNat := by
  unfold ixN
  rw [if_pos h0, if_pos h1]
def spNB : Sp := fun vs H Q _ => ∃ w n : Int, vs = [.int w, .int n] ∧ 0 ≤ w ∧ w ≤ 100 ∧ ∀ l H', Same H H' → H l = none → H' l = some (.lst ((numB w.toNat n).map V.int)) → Q (.ref l) H'
def spLAY : Sp := fun vs H Q _ => ∃ (a b : Addr) (p : Int) (xs ys : List Int), vs = [.ref a, .int p, .ref b] ∧ a ≠ b ∧ H a = some (.lst (xs.map V.int)) ∧ H b = some (.lst (ys.map V.int)) ∧ 0 ≤ p ∧ p + (ys.length : Int) ≤ (xs.length : Int) ∧
  ∀ H', SameX a H H' → H' a = some (.lst ((lay xs p.toNat ys).map V.int)) → Q .non H'
section
variable {P : Program} {w : World} {K : PySem.W.Frag} {mg : Str → Option Value} {base : Heap} {f : Addr} {fd : FuncData}
theorem ok_nb (F : Fun K "number_bytes" "number_bytes" s_number_bytes f fd) (C : VConsts mg) (m_range : mg "range" = none) : FnOk P w K mg base CX0 1 f fd ["w", "value"] spNB := by
  refine F.ok sc_number_bytes (fun vs H Q E h => ?_) (fun cdv A outer s H vs Q E hr h => ?_)
  · obtain ⟨w, n, rfl, _⟩ := h
    rfl
  obtain ⟨w, n, rfl, hw0, hw1, q⟩ := h
  obtain ⟨tk, hC⟩ := C.many
  refine ⟨_, (pss_cons (ps_set (i := 2) sc_number_bytes.nd rfl (Or.inl rfl) (pe_lst pa_nil))
    (pss_cons (ps_set (i := 3) sc_number_bytes.nd rfl (Or.inl rfl) (pv 1))
    (pss_cons (ps_for PassesOwn.never rfl (pi_range1 rfl m_range (pa_cons (pv 0) pa_nil)) (pg_name (i := 4) sc_number_bytes.nd rfl (Or.inl rfl)) (pss_cons (ps_expr (pe_bm PySem.F.plainAttrs_list PySem.F.slot_list_append PySem.F.type_list_append mt_append (pv 2) (pa_cons (pe_op op_mod (pv 3) (pe_glob (v := .int 256) rfl hC ⟨tk, rfl⟩)) pa_nil)))
    (pss_one (ps_set (i := 3) sc_number_bytes.nd rfl (Or.inl rfl) (pe_op op_fdivB (pv 3) (pe_glob (v := .int 256) rfl hC ⟨tk, rfl⟩))))))
    (pss_one (ps_ret (pv 2)))))), ?_⟩
  refine ⟨lists3 0 (by decide), fun l hl => ?_⟩
  have s0 := same_new hl (.lst [])
  refine ⟨_, rfl, _, rfl, _, rfl, by omega, by omega, ?_⟩
  refine for_range (fun i σ H' => ∃ x4, σ = [some (.int w), some (.int n), some (.ref l), some (.int (n / 256 ^ i)), x4] ∧ Same H H' ∧ H' l = some (.lst ((numB i n).map V.int))) ⟨_, by rw [Int.pow_zero, Int.ediv_one]; rfl, s0, upd_same⟩ (fun i σ H' hi ⟨x4, es, e, hl'⟩ => ?_) (fun σ H' ⟨x4, es, e, hl'⟩ => ?_)
  · subst es
    refine ⟨_, rfl, .inl ⟨rfl, _, SqL.of hl'⟩, _, rfl, _, _, rfl, rfl, (by show (0 : Int) < 256; decide), l, _, _, rfl, rfl, hl', small1000 (by rw [List.length_map, numB_len]; omega), ?_⟩
    refine ⟨_, rfl, _, _, rfl, rfl, ⟨by decide, by decide⟩, some (.int (0 + (i : Int))), ?_, same_set e hl _, ?_⟩
    · have e2 : n / 256 ^ i / 256 = n / 256 ^ (i + 1) := by rw [Int.ediv_ediv_of_nonneg (Int.pow_nonneg (by decide)), Int.pow_succ]
      rw [← e2]
      rfl
    · rw [upd_same, numB_succ, List.map_append]
      rfl
  · subst es
    exact ⟨_, rfl, q l H' e hl hl'⟩
theorem ok_lay (F : Fun K "lay" "lay" s_lay f fd) (m_enumerate : mg "enumerate" = none) : FnOk P w K mg base CX0 1 f fd ["laid", "place", "some"] spLAY := by
  refine F.ok sc_lay (fun vs H Q E h => ?_) (fun cdv A outer s H vs Q E hr h => ?_)
  · obtain ⟨a, b, p, xs, ys, rfl, _⟩ := h
    rfl
  obtain ⟨a, b, p, xs, ys, rfl, hab, ha, hb, hp0, hp1, q⟩ := h
  refine ⟨_, (pss_one (ps_for PassesOwn.never rfl (pi_enum rfl m_enumerate (pa_cons (pv 2) pa_nil)) (pg_tup rfl (pgs_cons (pg_name (i := 3) sc_lay.nd rfl (Or.inl rfl)) (pgs_cons (pg_name (i := 4) sc_lay.nd rfl (Or.inl rfl)) pgs_nil))) (pss_one (ps_asg (pv 4) (pg_sub (pv 0) (pe_op op_add (pv 1) (pv 3)) set_list))))), ?_⟩
  refine ⟨_, rfl, b, rfl, ⟨_, SqL.of hb⟩, ?_⟩
  refine for_enum (xs := ys.map V.int) (fun i σ H' => ∃ x3 x4, σ = [some (.ref a), some (.int p), some (.ref b), x3, x4] ∧ SameX a H H' ∧ H' a = some (.lst ((lay xs p.toNat (ys.take i)).map V.int))) ⟨_, _, rfl, SameX.of (Same.refl _), by rw [List.take_zero, lay_nil]; exact ha⟩
    (fun i σ H' _ ⟨x3, x4, es, e, ha'⟩ => SqL.of (e.get hab.symm hb)) (fun i x pt σ H' hx ⟨x3, x4, es, e, ha'⟩ hpn => ?_) (fun σ H' ⟨x3, x4, es, e, ha'⟩ => ?_)
  · subst es
    rw [List.getElem?_map] at hx
    cases hb' : ys[i]? with
    | none => rw [hb'] at hx; cases hx
    | some y =>
      rw [hb'] at hx
      cases hx
      have hi : i < ys.length := (List.getElem?_eq_some_iff.mp hb').1
      have s1 := same_new hpn (.tup [.int (i : Int), .int y])
      have htl : (ys.take i).length = i := by rw [List.length_take]; omega
      have hov := lay_snoc (l := xs) (p := p.toNat) (s := ys.take i) (b := y) (by omega)
      rw [← take_snoc hb', htl] at hov
      refine ⟨pt, _, rfl, SqT.of upd_same, rfl, _, _, rfl, _, _, rfl, rfl, ?_⟩
      refine ⟨_, rfl, _, rfl, _, rfl, _, rfl, _, _, rfl, rfl, a, _, _, p.toNat + i, rfl, rfl, s1 _ _ ha', ?_, ?_⟩
      · rw [List.length_map, lay_len]
        have h3 : (p + (i : Int)).toNat = p.toNat + i := by omega
        rw [← h3]
        exact ixN_in2 (by omega) (by omega)
      · refine ⟨_, _, rfl, (e.trans (SameX.of s1)).trans (SameX.upd _ _ _), ?_⟩
        rw [upd_same, hov, List.map_set]
  · rw [List.length_map, List.take_length] at ha'
    exact q H' e ha'
end

def all2 (g : Vd → V → Prop) : List Vd → List V → Prop
  | [], xs => xs = []
  | v :: vs, xs => ∃ x xr, xs = x :: xr ∧ g v x ∧ all2 g vs xr
theorem all2.imp {g h : Vd → V → Prop} (i : ∀ v x, g v x → h v x) : ∀ {vs : List Vd} {xs : List V}, all2 g vs xs → all2 h vs xs
  | [], _, e => e
  | _ :: _, _, ⟨x, xr, e, a, b⟩ => ⟨x, xr, e, i _ _ a, all2.imp i b⟩
theorem all2.len {g : Vd → V → Prop} : ∀ {vs : List Vd} {xs : List V}, all2 g vs xs → xs.length = vs.length
  | [], _, e => by rw [show _ = [] from e]; rfl
  | _ :: _, _, ⟨x, xr, e, a, b⟩ => by rw [e, List.length_cons, List.length_cons, all2.len b]
theorem all2.get {g : Vd → V → Prop} : ∀ {vs : List Vd} {xs : List V} {i : Nat} {x : V}, all2 g vs xs → xs[i]? = some x → ∃ v, vs[i]? = some v ∧ g v x
  | [], _, _, _, e, h => by rw [show _ = [] from e] at h; simp at h
  | v :: vs, _, 0, x, ⟨y, yr, e, a, b⟩, h => by rw [e] at h; cases (Option.some.inj h); exact ⟨v, rfl, a⟩
  | v :: vs, _, i + 1, x, ⟨y, yr, e, a, b⟩, h => by
    rw [e] at h
    obtain ⟨u, hu, hg⟩ := all2.get (i := i) b (by simpa using h)
    exact ⟨u, by simpa using hu, hg⟩
mutual
def IsV (H : Hp) : Kd → Vd → V → Prop
  | .num _ _, .num n, v => v = .int n
  | .row k _, .row vs, v => ∃ a ws, v = .ref a ∧ H a = some (.lst ws) ∧ all2 (IsV H k) vs ws
  | .rcd fs, .rcd vs, v => ∃ a kvs, v = .ref a ∧ H a = some (.dK kvs) ∧ kvs.length = fs.length ∧ (∀ kv ∈ kvs, ∃ x, kv.1 = Sum.inr x) ∧ IsVf H fs vs kvs
  | .cho ks, .cho j x, v => ∃ a u, v = .ref a ∧ H a = some (.tup [.int (j : Int), u]) ∧ IsVk H ks j x u
  | _, _, _ => False
def IsVf (H : Hp) : List (Str × Kd) → List Vd → List (Key × V) → Prop
  | [], [], _ => True
  | f :: r, v :: vs, kvs => (∃ x, valV kvs (Sum.inr f.1) = some x ∧ IsV H f.2 v x) ∧ IsVf H r vs kvs
  | _, _, _ => False
def IsVk (H : Hp) : List Kd → Nat → Vd → V → Prop
  | [], _, _, _ => False
  | k :: _, 0, v, u => IsV H k v u
  | _ :: r, j + 1, v, u => IsVk H r j v u
end
mutual
theorem IsV.same {H H' : Hp} (e : Same H H') : ∀ (kd : Kd) (vd : Vd) (v : V), IsV H kd vd v → IsV H' kd vd v
  | .num _ _, .num n, v, h => by simpa only [IsV] using h
  | .row k _, .row vs, v, h => by
    simp only [IsV] at h ⊢
    obtain ⟨a, ws, h1, h2, h3⟩ := h
    exact ⟨a, ws, h1, e _ _ h2, h3.imp fun x y z => IsV.same e k x y z⟩
  | .rcd fs, .rcd vs, v, h => by
    simp only [IsV] at h ⊢
    obtain ⟨a, kvs, h1, h2, h3, h4, h5⟩ := h
    exact ⟨a, kvs, h1, e _ _ h2, h3, h4, IsVf.same e fs vs kvs h5⟩
  | .cho ks, .cho j x, v, h => by
    simp only [IsV] at h ⊢
    obtain ⟨a, u, h1, h2, h3⟩ := h
    exact ⟨a, u, h1, e _ _ h2, IsVk.same e ks j x u h3⟩
  | .num _ _, .row _, _, h | .num _ _, .rcd _, _, h | .num _ _, .cho _ _, _, h => by simp only [IsV] at h
  | .row _ _, .num _, _, h | .row _ _, .rcd _, _, h | .row _ _, .cho _ _, _, h => by simp only [IsV] at h
  | .rcd _, .num _, _, h | .rcd _, .row _, _, h | .rcd _, .cho _ _, _, h => by simp only [IsV] at h
  | .cho _, .num _, _, h | .cho _, .row _, _, h | .cho _, .rcd _, _, h => by simp only [IsV] at h
theorem IsVf.same {H H' : Hp} (e : Same H H') : ∀ (fs : List (Str × Kd)) (vs : List Vd) (kvs : List (Key × V)), IsVf H fs vs kvs → IsVf H' fs vs kvs
  | [], [], kvs, h => by simp only [IsVf]
  | f :: r, v :: vs, kvs, h => by
    simp only [IsVf] at h ⊢
    obtain ⟨⟨x, h1, h2⟩, h3⟩ := h
    exact ⟨⟨x, h1, IsV.same e f.2 v x h2⟩, IsVf.same e r vs kvs h3⟩
  | [], _ :: _, _, h => by simp only [IsVf] at h
  | _ :: _, [], _, h => by simp only [IsVf] at h
theorem IsVk.same {H H' : Hp} (e : Same H H') : ∀ (ks : List Kd) (j : Nat) (v : Vd) (u : V), IsVk H ks j v u → IsVk H' ks j v u
  | [], _, _, _, h => by simp only [IsVk] at h
  | k :: _, 0, v, u, h => by simp only [IsVk] at h ⊢; exact IsV.same e k v u h
  | _ :: r, j + 1, v, u, h => by simp only [IsVk] at h ⊢; exact IsVk.same e r j v u h
end
theorem IsVf.at {H : Hp} {kvs : List (Key × V)} : ∀ {fs : List (Str × Kd)} {vs : List Vd} {i : Nat} {f : Str × Kd}, IsVf H fs vs kvs → fs[i]? = some f → ∃ v x, vs[i]? = some v ∧ valV kvs (Sum.inr f.1) = some x ∧ IsV H f.2 v x
  | [], _, _, _, _, e => by simp at e
  | g :: r, [], _, _, h, _ => by simp only [IsVf] at h
  | g :: r, v :: vs, 0, f, h, e => by
    simp only [IsVf] at h
    simp at e
    subst e
    obtain ⟨⟨x, h1, h2⟩, _⟩ := h
    exact ⟨v, x, by simp, h1, h2⟩
  | g :: r, v :: vs, i + 1, f, h, e => by
    simp only [IsVf] at h
    obtain ⟨v', x, a, b⟩ := IsVf.at (i := i) h.2 (by simpa using e)
    exact ⟨v', x, by simpa using a, b⟩
theorem IsVk.at {H : Hp} : ∀ {ks : List Kd} {j : Nat} {v : Vd} {u : V}, IsVk H ks j v u → ∃ k, ks[j]? = some k ∧ IsV H k v u
  | [], _, _, _, h => by simp only [IsVk] at h
  | k :: _, 0, v, u, h => by simp only [IsVk] at h; exact ⟨k, by simp, h⟩
  | _ :: r, j + 1, v, u, h => by simp only [IsVk] at h; obtain ⟨k, a, b⟩ := IsVk.at h; exact ⟨k, by simpa using a, b⟩
theorem valF_at : ∀ {fs : List (Str × Kd)} {vs : List Vd} {i : Nat} {f : Str × Kd} {v : Vd}, valF fs vs → fs[i]? = some f → vs[i]? = some v → f.2.Val v
  | [], _, _, _, _, _, e, _ => by simp at e
  | g :: r, [], _, _, _, h, _, _ => by simp only [valF] at h
  | g :: r, v :: vs, 0, f, w, h, e, e' => by simp only [valF] at h; simp at e e'; subst e e'; exact h.1
  | g :: r, v :: vs, i + 1, f, w, h, e, e' => by simp only [valF] at h; exact valF_at (i := i) h.2 (by simpa using e) (by simpa using e')
theorem valF_len : ∀ {fs : List (Str × Kd)} {vs : List Vd}, valF fs vs → vs.length = fs.length
  | [], [], _ => rfl
  | _ :: _, [], h => by simp only [valF] at h
  | [], _ :: _, h => by simp only [valF] at h
  | f :: r, v :: vs, h => by simp only [valF] at h; simp [valF_len h.2]
theorem valK_at : ∀ {ks : List Kd} {j : Nat} {k : Kd} {v : Vd}, valK ks j v → ks[j]? = some k → k.Val v
  | [], _, _, _, h, _ => by simp only [valK] at h
  | k' :: _, 0, k, v, h, e => by simp only [valK] at h; simp at e; subst e; exact h
  | _ :: r, j + 1, k, v, h, e => by simp only [valK] at h; exact valK_at (j := j) h (by simpa using e)
theorem layRow_snoc (g : Vd → List Int) (step : Nat) : ∀ (vs : List Vd) (v : Vd) (j : Nat) (l : List Int), layRow g step j (vs ++ [v]) l = lay (layRow g step j vs l) ((j + vs.length) * step) (g v)
  | [], v, j, l => by simp [layRow]
  | u :: vs, v, j, l => by
    show layRow g step (j + 1) (vs ++ [v]) _ = lay (layRow g step (j + 1) vs _) _ _
    rw [layRow_snoc g step vs v (j + 1), List.length_cons, show j + 1 + vs.length = j + (vs.length + 1) by omega]
theorem bytF_snoc : ∀ {ps : List Int} {fs : List (Str × Kd)} {vs : List Vd} {p : Int} {f : Str × Kd} {v : Vd} {l : List Int}, ps.length = fs.length → vs.length = fs.length → bytF (ps ++ [p]) (fs ++ [f]) (vs ++ [v]) l = lay (bytF ps fs vs l) p.toNat (f.2.byt v)
  | [], [], [], _, _, _, _, _, _ => by simp [bytF]
  | q :: ps, g :: fs, u :: vs, p, f, v, l, h, h' => by
    show bytF (ps ++ [p]) (fs ++ [f]) (vs ++ [v]) _ = lay (bytF ps fs vs _) _ _
    exact bytF_snoc (by simpa using h) (by simpa using h')
  | [], _ :: _, _, _, _, _, _, h, _ => by simp at h
  | _ :: _, [], _, _, _, _, _, h, _ => by simp at h
  | _, [], _ :: _, _, _, _, _, _, h => by simp at h
  | _, _ :: _, [], _, _, _, _, _, h => by simp at h

def spLB (n : Nat) : Sp := fun vs H Q _ => ∃ (kd : Kd) (vd : Vd) (v u : V), vs = [v, u] ∧ IsD H kd.dt v ∧ IsV H kd vd u ∧ kd.Ok ∧ kd.Po ∧ kd.Val vd ∧ kd.deep ≤ n ∧ n ≤ 12 ∧ kd.rm.1 ≤ 100000 ∧
  ∀ l H', Same H H' → H l = none → H' l = some (.lst ((kd.byt vd).map V.int)) → Q (.ref l) H'
theorem IsV.same' {H H' : Hp} {kd : Kd} {vd : Vd} {v : V} (h : IsV H kd vd v) (e : Same H H') : IsV H' kd vd v := IsV.same e kd vd v h
section
variable {P : Program} {w : World} {K : PySem.W.Frag} {mg : Str → Option Value} {base : Heap} {f fNB fRO fSO fPI fCA fLAY fLB : Addr} {fd dNB dRO dSO dPI dCA dLAY dLB : FuncData} {n j jR jP : Nat}
theorem lb_none : FnOk P w K mg base CX0 j f fd ["kind", "value"] (spLB 0) := by
  have no : ∀ vs H Q E, ¬ spLB 0 vs H Q E := fun vs H Q E h => by
    obtain ⟨kd, _, _, _, _, _, _, _, _, _, hd, _⟩ := h
    have := kd.deep_pos
    omega
  exact ⟨fun vs H Q E h => absurd h (no vs H Q E), fun A outer s H args us vs Q E _ _ _ _ h => absurd h (no vs H Q E)⟩
set_option maxHeartbeats 16000000 in
theorem ok_lb (F : Fun K "laid_bytes" "laid_bytes" s_laid_bytes f fd) (GNB : FnOk P w K mg base CX0 1 fNB dNB ["w", "value"] spNB) (bNB : Binds K dNB ["w", "value"] []) (kNB : PySem.W.keepIn K (.ref fNB) = true) (mNB : mg "number_bytes" = some (.ref fNB))
    (GRO : FnOk P w K mg base CX0 jR fRO dRO ["kind"] (spRO (n + 1))) (bRO : Binds K dRO ["kind"] []) (kRO : PySem.W.keepIn K (.ref fRO) = true) (mRO : mg "room_of" = some (.ref fRO))
    (GSO : FnOk P w K mg base CX0 2 fSO dSO ["room"] spSO) (bSO : Binds K dSO ["room"] []) (kSO : PySem.W.keepIn K (.ref fSO) = true) (mSO : mg "step_of" = some (.ref fSO))
    (GPI : FnOk P w K mg base CX0 jP fPI dPI ["fields"] (spPO n)) (bPI : Binds K dPI ["fields"] []) (kPI : PySem.W.keepIn K (.ref fPI) = true) (mPI : mg "places_in_order" = some (.ref fPI))
    (GCA : FnOk P w K mg base CX0 2 fCA dCA ["multiple"] spCA) (bCA : Binds K dCA ["multiple"] []) (kCA : PySem.W.keepIn K (.ref fCA) = true) (mCA : mg "chosen_at" = some (.ref fCA))
    (GLAY : FnOk P w K mg base CX0 1 fLAY dLAY ["laid", "place", "some"] spLAY) (bLAY : Binds K dLAY ["laid", "place", "some"] []) (kLAY : PySem.W.keepIn K (.ref fLAY) = true) (mLAY : mg "lay" = some (.ref fLAY))
    (GLB : FnOk P w K mg base CX0 j fLB dLB ["kind", "value"] (spLB n)) (bLB : Binds K dLB ["kind", "value"] []) (kLB : PySem.W.keepIn K (.ref fLB) = true) (mLB : mg "laid_bytes" = some (.ref fLB))
    (m_zip : mg "zip" = none) (m_enumerate : mg "enumerate" = none) (h2 : 2 ≤ j) (hR : jR ≤ j) (hP : jP ≤ j) : FnOk P w K mg base CX0 (j + 1) f fd ["kind", "value"] (spLB (n + 1)) := by
  refine F.ok sc_laid_bytes (fun vs H Q E h => ?_) (fun cdv A outer s H vs Q E hr h => ?_)
  · obtain ⟨kd, vd, v, u, rfl, _⟩ := h
    rfl
  obtain ⟨kd, vd, v, u, rfl, hv, hu, hok, hpo, hval, hdp, hn, hrm, q⟩ := h
  have n1 : ∀ {x y : Str}, (x == y) = false → ¬ (V.str x = V.str y) := fun h => str_ne h
  refine ⟨_, (pss_cons (ps_if (pt_cmpR op_eq (pe_ix ix_tup (pv 0) pe_int (fun _ _ => rfl)) pe_str (nomark _)) (pss_one (ps_ret (pe_call GNB (hr.mono (by omega)) rfl mNB kNB bNB .nil pass0 (pa_cons (pe_ix ix_tup (pv 0) pe_int (fun _ _ => rfl)) (pa_cons (pv 1) pa_nil))))) pss_nil)
    (pss_cons (ps_set (i := 2) sc_laid_bytes.nd rfl (Or.inl rfl) (pe_op op_rep (pe_lst (pa_cons pe_int pa_nil)) (pe_ix ix_tup (pe_call GRO (hr.mono (by omega)) rfl mRO kRO bRO .nil pass0 (pa_cons (pv 0) pa_nil)) pe_int (fun _ _ => rfl))))
    (pss_cons (ps_if (pt_cmpR op_eq (pe_ix ix_tup (pv 0) pe_int (fun _ _ => rfl)) pe_str (nomark _)) (pss_cons (ps_set (i := 3) sc_laid_bytes.nd rfl (Or.inl rfl) (pe_call GSO (hr.mono (by omega)) rfl mSO kSO bSO .nil pass0 (pa_cons (pe_call GRO (hr.mono (by omega)) rfl mRO kRO bRO .nil pass0 (pa_cons (pe_ix ix_tup (pv 0) pe_int (fun _ _ => rfl)) pa_nil)) pa_nil)))
    (pss_one (ps_for PassesOwn.never rfl (pi_enum rfl m_enumerate (pa_cons (pv 1) pa_nil)) (pg_tup rfl (pgs_cons (pg_name (i := 4) sc_laid_bytes.nd rfl (Or.inl rfl)) (pgs_cons (pg_name (i := 5) sc_laid_bytes.nd rfl (Or.inl rfl)) pgs_nil))) (pss_one (ps_expr (pe_call GLAY (hr.mono (by omega)) rfl mLAY kLAY bLAY .nil pass0 (pa_cons (pv 2) (pa_cons (pe_op op_mulB (pv 4) (pv 3)) (pa_cons (pe_call GLB (hr.mono (by omega)) rfl mLB kLB bLB .nil pass0 (pa_cons (pe_ix ix_tup (pv 0) pe_int (fun _ _ => rfl)) (pa_cons (pv 5) pa_nil))) pa_nil))))))))) (pss_one (ps_if (pt_cmpR op_eq (pe_ix ix_tup (pv 0) pe_int (fun _ _ => rfl)) pe_str (nomark _)) (pss_one (ps_for PassesOwn.never rfl (pi_zip (t1 := false) (t2 := false) rfl m_zip (pa_cons (pe_ix ix_tup (pv 0) pe_int (fun _ _ => rfl)) (pa_cons (pe_call GPI (hr.mono (by omega)) rfl mPI kPI bPI .nil pass0 (pa_cons (pe_ix ix_tup (pv 0) pe_int (fun _ _ => rfl)) pa_nil)) pa_nil))) (pg_tup rfl (pgs_cons (pg_name (i := 6) sc_laid_bytes.nd rfl (Or.inl rfl)) (pgs_cons (pg_name (i := 7) sc_laid_bytes.nd rfl (Or.inl rfl)) pgs_nil))) (pss_one (ps_expr (pe_call GLAY (hr.mono (by omega)) rfl mLAY kLAY bLAY .nil pass0 (pa_cons (pv 2) (pa_cons (pe_ix ix_tup (pv 7) pe_int (fun _ _ => rfl)) (pa_cons (pe_call GLB (hr.mono (by omega)) rfl mLB kLB bLB .nil pass0 (pa_cons (pe_ix ix_tup (pv 6) pe_int (fun _ _ => rfl)) (pa_cons (pe_dget (hu_of hr) (pv 1) (pe_ix ix_tup (pv 6) pe_int (fun _ _ => rfl)) (fun _ _ => rfl)) pa_nil))) pa_nil)))))))) (pss_cons (ps_asg (pe_ix ix_tup (pv 1) pe_int (fun _ _ => rfl)) (pg_sub (pv 2) pe_int set_list))
    (pss_one (ps_expr (pe_call GLAY (hr.mono (by omega)) rfl mLAY kLAY bLAY .nil pass0 (pa_cons (pv 2) (pa_cons (pe_call GCA (hr.mono (by omega)) rfl mCA kCA bCA .nil pass0 (pa_cons (pe_ix ix_tup (pe_call GRO (hr.mono (by omega)) rfl mRO kRO bRO .nil pass0 (pa_cons (pv 0) pa_nil)) pe_int (fun _ _ => rfl)) pa_nil)) (pa_cons (pe_call GLB (hr.mono (by omega)) rfl mLB kLB bLB .nil pass0 (pa_cons (pe_ix ix_list (pe_ix ix_tup (pv 0) pe_int (fun _ _ => rfl)) (pe_ix ix_tup (pv 1) pe_int (fun _ _ => rfl)) (fun _ _ => rfl)) (pa_cons (pe_ix ix_tup (pv 1) pe_int (fun _ _ => rfl)) pa_nil))) pa_nil))))))))))
    (pss_one (ps_ret (pv 2)))))), ?_⟩
  cases kd with
  | num wd m =>
    cases vd with
    | num nn =>
      simp only [IsV] at hu
      subst hu
      obtain ⟨p, ys, rfl, hp, v1, r1, rfl, rfl, v2, r2, rfl, rfl, v3, r3, rfl, rfl, rfl⟩ := hv
      obtain ⟨a1, a2, _⟩ := hok
      refine ⟨_, rfl, p, _, _, _, rfl, rfl, SqT.of hp, rfl, rfl, _, rfl, iteDT rfl ?_⟩
      exact ⟨_, rfl, p, _, _, _, rfl, rfl, SqT.of hp, rfl, _, rfl, wd, nn, rfl, by omega, by omega, fun l H' e hl hl' => q l H' e hl (by rw [hl']; rfl)⟩
    | _ => simp only [IsV] at hu
  | row k m =>
    cases vd with
    | row vds =>
      simp only [IsV] at hu
      obtain ⟨av, ws, rfl, hav, hws⟩ := hu
      obtain ⟨p, ys, rfl, hp, v1, r1, rfl, rfl, v2, r2, rfl, hv2, v3, r3, rfl, rfl, rfl⟩ := id hv
      have hdp' : k.deep + 1 ≤ n + 1 := hdp
      obtain ⟨b0, b1, b2, b3⟩ := k.bd hok.1
      obtain ⟨u1, u2⟩ := up_bounds (n := k.rm.1) (m := k.rm.2) (by omega)
      have hm1 := hpo.2
      have hm := hok.2
      have hrm' : m * up k.rm.1 k.rm.2 ≤ 100000 := hrm
      have hrme : (Kd.row k m).rm.1 = m * up k.rm.1 k.rm.2 := rfl
      have hup : up k.rm.1 k.rm.2 ≤ 100000 := by
        have : 1 * up k.rm.1 k.rm.2 ≤ m * up k.rm.1 k.rm.2 := Int.mul_le_mul_of_nonneg_right hm1 (by omega)
        omega
      have hmp : 0 ≤ m * up k.rm.1 k.rm.2 := Int.mul_nonneg (by omega) (by omega)
      obtain ⟨hvl, hvv⟩ := (show (vds.length : Int) = m ∧ ∀ v ∈ vds, k.Val v by simpa only [Kd.Val] using hval)
      have hwl := hws.len
      refine ⟨_, rfl, p, _, _, _, rfl, rfl, SqT.of hp, rfl, rfl, _, rfl, iteND (n1 (by decide +kernel)) ?_⟩
      refine ⟨lists3 1 (by decide), fun l0 hl0 => ⟨_, rfl, _, _, rfl, hv.same (same_new hl0 _), hok, hdp, hn, fun x H1 e1 hx => ⟨x, _, _, _, rfl, rfl, SqT.of hx, rfl, ?_⟩⟩⟩
      have e01 : Same H H1 := (same_new hl0 _).trans e1
      refine ⟨l0, _, [.int 0], rfl, rfl, e1 _ _ upd_same, by omega, by omega, size5 (by show 1 * _ ≤ 100000; omega), fun l hl => ?_⟩
      have hrep : (List.replicate (Kd.row k m).rm.1.toNat [V.int 0]).flatten = (List.replicate (m * up k.rm.1 k.rm.2).toNat (0 : Int)).map V.int := by rw [rep_flat, List.map_replicate]; rfl
      rw [hrep]
      have hlH := fresh_of e01 hl
      have e02 := e01.trans (same_new hl (.lst ((List.replicate (m * up k.rm.1 k.rm.2).toNat (0 : Int)).map V.int)))
      have hl2 : (upd H1 l (.lst ((List.replicate (m * up k.rm.1 k.rm.2).toNat (0 : Int)).map V.int))) l = some (.lst ((List.replicate (m * up k.rm.1 k.rm.2).toNat (0 : Int)).map V.int)) := upd_same
      generalize upd H1 l (.lst ((List.replicate (m * up k.rm.1 k.rm.2).toNat (0 : Int)).map V.int)) = H2 at e02 hl2
      refine ⟨_, rfl, p, _, _, _, rfl, rfl, SqT.of (e02 _ _ hp), rfl, rfl, _, rfl, iteDT rfl ?_⟩
      refine ⟨_, rfl, p, _, _, _, rfl, rfl, SqT.of (e02 _ _ hp), rfl, k, v2, rfl, hv2.same e02, hok.1, by omega, by omega, fun x2 H3 e3 hx2 => ?_⟩
      refine ⟨x2, _, _, rfl, hx2, b0, by omega, by omega, by omega, ?_⟩
      have e03 := e02.trans e3
      have hl3 := e3 _ _ hl2
      have hal : av ≠ l := ne_of_none hav hlH
      refine ⟨_, rfl, av, rfl, ⟨_, SqL.of (e03 _ _ hav)⟩, ?_⟩
      refine for_enum (xs := ws) (fun i σ H' => ∃ x4 x5 x6 x7, σ = [some (.ref p), some (.ref av), some (.ref l), some (.int (up k.rm.1 k.rm.2)), x4, x5, x6, x7] ∧ SameX l H3 H' ∧ H' l = some (.lst ((layRow k.byt (up k.rm.1 k.rm.2).toNat 0 (vds.take i) (List.replicate (m * up k.rm.1 k.rm.2).toNat 0)).map V.int))) ⟨_, _, _, _, rfl, SameX.of (Same.refl _), by rw [List.take_zero]; exact hl3⟩
        (fun i σ H' _ ⟨x4, x5, x6, x7, es, e, hl'⟩ => SqL.of (e.get hal (e03 _ _ hav))) (fun i x pt σ H' hx ⟨x4, x5, x6, x7, es, e, hl'⟩ hpn => ?_) (fun σ H' ⟨x4, x5, x6, x7, es, e, hl'⟩ => ?_)
      · subst es
        obtain ⟨vd, hvd, hxv⟩ := hws.get hx
        have hi : i < vds.length := (List.getElem?_eq_some_iff.mp hvd).1
        have s1 := same_new hpn (.tup [.int (i : Int), x])
        have eH : Same H (upd H' pt (.tup [.int (i : Int), x])) := fun b o hb => s1 _ _ (e.get (ne_of_none hb hlH) (e03 _ _ hb))
        refine ⟨pt, _, rfl, SqT.of upd_same, rfl, _, _, rfl, _, _, rfl, rfl, ?_⟩
        have hkv := hvv vd (List.mem_of_getElem? hvd)
        have hbl := k.byt_len hkv
        have hmi : (i : Int) * up k.rm.1 k.rm.2 + up k.rm.1 k.rm.2 ≤ m * up k.rm.1 k.rm.2 := by
          have : ((i : Int) + 1) * up k.rm.1 k.rm.2 ≤ m * up k.rm.1 k.rm.2 := Int.mul_le_mul_of_nonneg_right (by omega) (by omega)
          rw [Int.add_mul] at this
          omega
        have hip : 0 ≤ (i : Int) * up k.rm.1 k.rm.2 := Int.mul_nonneg (by omega) (by omega)
        refine ⟨_, rfl, _, rfl, _, rfl, _, _, rfl, rfl, ⟨by omega, by omega⟩, _, rfl, p, _, _, _, rfl, rfl, SqT.of (eH _ _ hp), rfl, _, rfl, k, vd, v2, x, rfl, hv2.same eH, hxv.same' eH, hok.1, hpo.1, hkv, by omega, by omega, by omega, fun lb H5 e5 hlb0 hlb => ?_⟩
        have hlbl : l ≠ lb := ne_of_none (s1 _ _ hl') hlb0
        refine ⟨l, lb, _, _, _, rfl, hlbl, e5 _ _ (s1 _ _ hl'), hlb, hip, ?_, fun H6 e6 hl6 => ?_⟩
        · rw [hbl, layRow_len, List.length_replicate]
          omega
        · refine ⟨_, _, _, _, rfl, (e.trans (SameX.of (s1.trans e5))).trans e6, ?_⟩
          have htl : (vds.take i).length = i := by rw [List.length_take]; omega
          have hti : ((i : Int) * up k.rm.1 k.rm.2).toNat = (0 + (vds.take i).length) * (up k.rm.1 k.rm.2).toNat := by rw [htl, Int.toNat_mul (by omega) (by omega)]; simp
          rw [hl6, take_snoc hvd, layRow_snoc, hti]
      · subst es
        rw [hwl, List.take_length] at hl'
        refine ⟨_, rfl, q l H' (fun b o hb => e.get (ne_of_none hb hlH) (e03 _ _ hb)) hlH ?_⟩
        simp only [Kd.byt]
        exact hl'
    | _ => simp only [IsV] at hu
  | rcd fs =>
    cases vd with
    | rcd vds =>
      simp only [IsV] at hu
      obtain ⟨av, kvs, rfl, hav, hkl, hks, hvf⟩ := hu
      have hvF : valF fs vds := by simpa only [Kd.Val] using hval
      have hvl := valF_len hvF
      have hdp' : deepF fs + 1 ≤ n + 1 := hdp
      have hbd := bdF12 (n := n) hok.1 (by omega) (by omega)
      have hRm : Rms (rmF fs) := rmsF hok.1
      have hle : lastEnd 0 (rmF fs) ≤ (Kd.rcd fs).rm.1 := (up_bounds (by have := (mx_bd hbd).1; omega)).1
      have h0 : 0 ≤ (Kd.rcd fs).rm.1 := ((Kd.rcd fs).bd hok).1
      have hlf := hok.2
      obtain ⟨p, ys, rfl, hp, v1, r1, rfl, rfl, v2, r2, rfl, ⟨lw, ws, rfl, hlw, hws⟩, rfl⟩ := id hv
      have hlws : ws.length = fs.length := by rw [hws.len, dtF_len]
      refine ⟨_, rfl, p, _, _, _, rfl, rfl, SqT.of hp, rfl, rfl, _, rfl, iteND (n1 (by decide +kernel)) ?_⟩
      refine ⟨lists3 1 (by decide), fun l0 hl0 => ⟨_, rfl, _, _, rfl, hv.same (same_new hl0 _), hok, hdp, hn, fun x H1 e1 hx => ⟨x, _, _, _, rfl, rfl, SqT.of hx, rfl, ?_⟩⟩⟩
      have e01 : Same H H1 := (same_new hl0 _).trans e1
      refine ⟨l0, _, [.int 0], rfl, rfl, e1 _ _ upd_same, by omega, by omega, size5 (by show 1 * _ ≤ 100000; omega), fun l hl => ?_⟩
      have hrep : (List.replicate (Kd.rcd fs).rm.1.toNat [V.int 0]).flatten = (List.replicate (Kd.rcd fs).rm.1.toNat (0 : Int)).map V.int := by rw [rep_flat, List.map_replicate]
      rw [hrep]
      have hlH := fresh_of e01 hl
      have e02 := e01.trans (same_new hl (.lst ((List.replicate (Kd.rcd fs).rm.1.toNat (0 : Int)).map V.int)))
      have hl2 : (upd H1 l (.lst ((List.replicate (Kd.rcd fs).rm.1.toNat (0 : Int)).map V.int))) l = some (.lst ((List.replicate (Kd.rcd fs).rm.1.toNat (0 : Int)).map V.int)) := upd_same
      generalize upd H1 l (.lst ((List.replicate (Kd.rcd fs).rm.1.toNat (0 : Int)).map V.int)) = H2 at e02 hl2
      refine ⟨_, rfl, p, _, _, _, rfl, rfl, SqT.of (e02 _ _ hp), rfl, rfl, _, rfl, iteND (n1 (by decide +kernel)) ?_⟩
      refine ⟨_, rfl, p, _, _, _, rfl, rfl, SqT.of (e02 _ _ hp), rfl, rfl, _, rfl, iteDT rfl ?_⟩
      refine ⟨_, rfl, p, _, _, _, rfl, rfl, SqT.of (e02 _ _ hp), rfl, _, rfl, p, _, _, _, rfl, rfl, SqT.of (e02 _ _ hp), rfl, lw, ws, fs, rfl, e02 _ _ hlw, hws.same e02, hok.1, by omega, by omega, by omega, fun lp zp H3 e3 hlp0 hlp hzp => ?_⟩
      have e03 := e02.trans e3
      have hlz : zp.length = fs.length := by
        rw [hzp.len]
        unfold poD
        rw [List.length_map, List.length_zip, plcs_length, lenF]
        omega
      refine ⟨lw, lp, rfl, ⟨_, SqL.of (e03 _ _ hlw)⟩, ⟨_, SqL.of hlp⟩, ?_⟩
      have hl3 := e3 _ _ hl2
      have hlpl : lp ≠ l := fun z => by rw [z, hl2] at hlp0; cases hlp0
      have hlwl : lw ≠ l := ne_of_none hlw hlH
      refine for_zip (t1 := false) (t2 := false) (xs := ws) (ys := zp) (fun i σ H' => ∃ x3 x4 x5 x6 x7, σ = [some (.ref p), some (.ref av), some (.ref l), x3, x4, x5, x6, x7] ∧ SameX l H3 H' ∧ H' l = some (.lst ((bytF ((plcs 0 (rmF fs)).take i) (fs.take i) (vds.take i) (List.replicate (Kd.rcd fs).rm.1.toNat 0)).map V.int))) (by omega) ⟨_, _, _, _, _, rfl, SameX.of (Same.refl _), by rw [List.take_zero, List.take_zero]; exact hl3⟩
        (fun i σ H' _ ⟨x3, x4, x5, x6, x7, es, e, hl'⟩ => ⟨SqL.of (e.get hlwl (e03 _ _ hlw)), SqL.of (e.get hlpl hlp)⟩) (fun i x y pt σ H' hx hy ⟨x3, x4, x5, x6, x7, es, e, hl'⟩ hpn => ?_) (fun σ H' ⟨x3, x4, x5, x6, x7, es, e, hl'⟩ => ?_)
      · subst es
        obtain ⟨g, t, vg, eg, rfl, ht, hvg⟩ := fields_at hws hx
        obtain ⟨og, dg⟩ := okF_at hok.1 eg
        have hrg := rmF_at eg
        have hi : i < fs.length := (List.getElem?_eq_some_iff.mp eg).1
        have hpi : i < (plcs 0 (rmF fs)).length := by rw [plcs_length, lenF]; exact hi
        have hpl := List.getElem?_eq_getElem hpi
        generalize (plcs 0 (rmF fs))[i] = z at hpl
        obtain ⟨le1, le2⟩ := lastEnd_at hRm hrg hpl
        have ep : (poD fs)[i]? = some (.tup [.str g.1, .int z]) := by
          unfold poD
          rw [List.getElem?_map, (List.getElem?_zip_eq_some (z := (g, z))).mpr ⟨eg, hpl⟩]
          rfl
        obtain ⟨dd, ed, hdy⟩ := hzp.get hy
        rw [ep] at ed
        cases ed
        obtain ⟨ty, us, rfl, hty, a1, b1, rfl, rfl, a2, b2, rfl, rfl, rfl⟩ := hdy
        obtain ⟨vd, xv, hvd, hget, hxv⟩ := hvf.at eg
        have hkv := valF_at hvF eg hvd
        have hbl := g.2.byt_len hkv
        have s1 := same_new hpn (.tup [.ref t, .ref ty])
        have eH : Same H (upd H' pt (.tup [.ref t, .ref ty])) := fun b o hb => s1 _ _ (e.get (ne_of_none hb hlH) (e03 _ _ hb))
        have htyl : ty ≠ l := fun z => by rw [z, hl3] at hty; cases hty
        have hty' := s1 _ _ (e.get htyl hty)
        refine ⟨pt, _, rfl, SqT.of upd_same, rfl, _, _, rfl, _, _, rfl, rfl, ?_⟩
        have hgr : 0 ≤ g.2.rm.1 := (g.2.bd og).1
        refine ⟨_, rfl, _, rfl, ty, _, _, _, rfl, rfl, SqT.of hty', rfl, _, rfl, t, _, _, _, rfl, rfl, SqT.of (eH _ _ ht), rfl, _, rfl, _, rfl, t, _, _, _, rfl, rfl, SqT.of (eH _ _ ht), rfl, av, xv, rfl, ?_, ?_⟩
        · rw [← hget]
          exact DGet.k (k := Sum.inr g.1) (eH _ _ hav)
        · refine ⟨g.2, vd, vg, xv, rfl, hvg.same eH, hxv.same' eH, og, poF_at hpo eg, hkv, by omega, by omega, by omega, fun lb H5 e5 hlb0 hlb => ?_⟩
          have hlbl : l ≠ lb := ne_of_none (s1 _ _ hl') hlb0
          refine ⟨l, lb, _, _, _, rfl, hlbl, e5 _ _ (s1 _ _ hl'), hlb, le2, ?_, fun H6 e6 hl6 => ?_⟩
          · rw [hbl, bytF_len, List.length_replicate]
            omega
          · refine ⟨_, _, _, _, _, rfl, (e.trans (SameX.of (s1.trans e5))).trans e6, ?_⟩
            rw [hl6, take_snoc eg, take_snoc hpl, take_snoc hvd, bytF_snoc (by rw [List.length_take, List.length_take, plcs_length, lenF]) (by rw [List.length_take, List.length_take, hvl])]
      · subst es
        rw [hlws, List.take_of_length_le (by rw [plcs_length, lenF]; exact Nat.le_refl _), List.take_length, ← hvl, List.take_length] at hl'
        refine ⟨_, rfl, q l H' (fun b o hb => e.get (ne_of_none hb hlH) (e03 _ _ hb)) hlH ?_⟩
        simp only [Kd.byt]
        exact hl'
    | _ => simp only [IsV] at hu
  | cho ks =>
    cases vd with
    | cho jj vv =>
      simp only [IsV] at hu
      obtain ⟨av, xv, rfl, hav, hvk⟩ := hu
      have hvK : valK ks jj vv := by simpa only [Kd.Val] using hval
      obtain ⟨k, ek, hxv⟩ := hvk.at
      have hkv := valK_at hvK ek
      have hbl := k.byt_len hkv
      have hdp' : deepK ks + 1 ≤ n + 1 := hdp
      have hbd := bdK12 (n := n) hok.1 (by omega) (by omega)
      obtain ⟨m1, m2⟩ := mx_bd hbd
      have hrm2 : (Kd.cho ks).rm.2 = maxL 1 ((rmK ks).map (·.2)) := rfl
      have hrm1 : (Kd.cho ks).rm.1 = maxL 1 ((rmK ks).map (·.2)) + up (maxL 0 ((rmK ks).map (·.1))) (maxL 1 ((rmK ks).map (·.2))) := by
        show (choRm (rmK ks)).1 = _
        rw [cho_eq]
      have g0 : 0 ≤ maxL 0 ((rmK ks).map (·.1)) := maxL_d _
      obtain ⟨u1, u2⟩ := up_bounds (n := maxL 0 ((rmK ks).map (·.1))) (m := maxL 1 ((rmK ks).map (·.2))) (by omega)
      have hu1 : up 1 (Kd.cho ks).rm.2 = (Kd.cho ks).rm.2 := up_one (by rw [hrm2]; exact m1)
      obtain ⟨p, ys, rfl, hp, v1, r1, rfl, rfl, v2, r2, rfl, ⟨lw, ws, rfl, hlw, hws⟩, rfl⟩ := id hv
      have hlws : ws.length = ks.length := by rw [hws.len, dtK_len]
      have hjl : jj < ks.length := (List.getElem?_eq_some_iff.mp ek).1
      have hwj : ws[jj]? = some (ws[jj]'(by omega)) := List.getElem?_eq_getElem (by omega)
      generalize ws[jj]'(by omega) = y at hwj
      obtain ⟨k', ek', hvk'⟩ := kinds_at hws hwj
      rw [ek] at ek'
      cases ek'
      obtain ⟨ok1, ok2⟩ := ok_at hok.1 ek
      have hrk : k.rm.1 ≤ maxL 0 ((rmK ks).map (·.1)) := maxL_ge (List.mem_map_of_mem (f := fun r : Int × Int => r.1) (List.mem_of_getElem? (rmK_at ek)))
      have hrk0 := (k.bd ok1).1
      refine ⟨_, rfl, p, _, _, _, rfl, rfl, SqT.of hp, rfl, rfl, _, rfl, iteND (n1 (by decide +kernel)) ?_⟩
      refine ⟨lists3 1 (by decide), fun l0 hl0 => ⟨_, rfl, _, _, rfl, hv.same (same_new hl0 _), hok, hdp, hn, fun x H1 e1 hx => ⟨x, _, _, _, rfl, rfl, SqT.of hx, rfl, ?_⟩⟩⟩
      have e01 : Same H H1 := (same_new hl0 _).trans e1
      refine ⟨l0, _, [.int 0], rfl, rfl, e1 _ _ upd_same, by omega, by omega, size5 (by show 1 * _ ≤ 100000; omega), fun l hl => ?_⟩
      have hrep : (List.replicate (Kd.cho ks).rm.1.toNat [V.int 0]).flatten = (List.replicate (Kd.cho ks).rm.1.toNat (0 : Int)).map V.int := by rw [rep_flat, List.map_replicate]
      rw [hrep]
      have hlH := fresh_of e01 hl
      have e02 := e01.trans (same_new hl (.lst ((List.replicate (Kd.cho ks).rm.1.toNat (0 : Int)).map V.int)))
      have hl2 : (upd H1 l (.lst ((List.replicate (Kd.cho ks).rm.1.toNat (0 : Int)).map V.int))) l = some (.lst ((List.replicate (Kd.cho ks).rm.1.toNat (0 : Int)).map V.int)) := upd_same
      generalize upd H1 l (.lst ((List.replicate (Kd.cho ks).rm.1.toNat (0 : Int)).map V.int)) = H2 at e02 hl2
      refine ⟨_, rfl, p, _, _, _, rfl, rfl, SqT.of (e02 _ _ hp), rfl, rfl, _, rfl, iteND (n1 (by decide +kernel)) ?_⟩
      refine ⟨_, rfl, p, _, _, _, rfl, rfl, SqT.of (e02 _ _ hp), rfl, rfl, _, rfl, iteND (n1 (by decide +kernel)) ?_⟩
      refine ⟨_, rfl, av, _, _, _, rfl, rfl, SqT.of (e02 _ _ hav), rfl, _, rfl, l, _, _, 0, rfl, rfl, hl2, ?_, ?_⟩
      · rw [List.length_map, List.length_replicate]
        exact ixN_in (i := 0) (by decide) (by omega)
      have e03 : Same H (upd H2 l (.lst (((List.replicate (Kd.cho ks).rm.1.toNat (0 : Int)).map V.int).set 0 (.int (jj : Int))))) := fun b o hb => by rw [upd_ne (ne_of_none hb hlH)]; exact e02 _ _ hb
      have hl3 : (upd H2 l (.lst (((List.replicate (Kd.cho ks).rm.1.toNat (0 : Int)).map V.int).set 0 (.int (jj : Int))))) l = some (.lst (((List.replicate (Kd.cho ks).rm.1.toNat (0 : Int)).set 0 (jj : Int)).map V.int)) := by rw [upd_same, List.map_set]
      generalize upd H2 l (.lst (((List.replicate (Kd.cho ks).rm.1.toNat (0 : Int)).map V.int).set 0 (.int (jj : Int)))) = H3 at e03 hl3
      refine ⟨_, rfl, _, rfl, _, _, rfl, hv.same e03, hok, hdp, hn, fun x2 H4 e4 hx2 => ⟨x2, _, _, _, rfl, rfl, SqT.of hx2, rfl, (Kd.cho ks).rm.2, rfl, by omega, by omega, ?_⟩⟩
      have e04 := e03.trans e4
      have hl4 := e4 _ _ hl3
      refine ⟨_, rfl, p, _, _, _, rfl, rfl, SqT.of (e04 _ _ hp), rfl, _, rfl, av, _, _, _, rfl, rfl, SqT.of (e04 _ _ hav), rfl, lw, _, _, y, rfl, rfl, SqL.of (e04 _ _ hlw), atI_nat hwj, ?_⟩
      refine ⟨_, rfl, av, _, _, _, rfl, rfl, SqT.of (e04 _ _ hav), rfl, k, vv, y, xv, rfl, hvk'.same e04, hxv.same' e04, ok1, poK_at hpo ek, hkv, by omega, by omega, by omega, fun lb H5 e5 hlb0 hlb => ?_⟩
      have hlbl : l ≠ lb := ne_of_none hl4 hlb0
      refine ⟨l, lb, _, _, _, rfl, hlbl, e5 _ _ hl4, hlb, by omega, ?_, fun H6 e6 hl6 => ?_⟩
      · rw [hbl, List.length_set, List.length_replicate]
        omega
      · refine ⟨_, rfl, q l H6 (fun b o hb => e6.get (ne_of_none hb hlH) (e5 _ _ (e04 _ _ hb))) hlH ?_⟩
        simp only [Kd.byt]
        rw [hl6, bytK_at vv ek]
        rfl
    | _ => simp only [IsV] at hu
end

def spIW1 : Sp := fun vs H Q _ => ∃ i : Int, vs = [.int i] ∧ Q (.bl true) H
def spIV (n : Nat) : Sp := fun vs H Q _ => ∃ (kd : Kd) (vd : Vd) (v u : V), vs = [v, u] ∧ IsD H kd.dt v ∧ IsV H kd vd u ∧ kd.Ok ∧ kd.Val vd ∧ kd.deep ≤ n ∧ n ≤ 12 ∧ ∀ H', Same H H' → Q (.bl true) H'
def spIRV (n : Nat) : Sp := fun vs H Q _ => ∃ (k : Kd) (m : Int) (vds : List Vd) (v u : V), vs = [v, .int m, u] ∧ IsD H k.dt v ∧ IsV H (.row k m) (.row vds) u ∧ (Kd.row k m).Ok ∧ (Kd.row k m).Val (.row vds) ∧ k.deep ≤ n ∧ n ≤ 12 ∧ ∀ H', Same H H' → Q (.bl true) H'
def spIDV (n : Nat) : Sp := fun vs H Q _ => ∃ (fs : List (Str × Kd)) (vds : List Vd) (v u : V), vs = [v, u] ∧ IsD H (.lst (dtF fs)) v ∧ IsV H (.rcd fs) (.rcd vds) u ∧ okF fs ∧ valF fs vds ∧ fs.length ≤ 100 ∧ deepF fs ≤ n ∧ n ≤ 12 ∧ ∀ H', Same H H' → Q (.bl true) H'
def spICV (n : Nat) : Sp := fun vs H Q _ => ∃ (ks : List Kd) (jj : Nat) (vd : Vd) (v u : V), vs = [v, u] ∧ IsD H (.lst (dtK ks)) v ∧ IsV H (.cho ks) (.cho jj vd) u ∧ okK ks ∧ valK ks jj vd ∧ deepK ks ≤ n ∧ n ≤ 12 ∧ ∀ H', Same H H' → Q (.bl true) H'
theorem iteNe {x y : V} {A B : Prop} (h : x = y) (hB : B) : if (!decide (x = y)) = true then A else B := by
  rw [decide_eq_true h]
  exact iteF hB
theorem bits_le {i w : Int} (h0 : 0 ≤ i) (hw : 0 ≤ w) (h : i < 256 ^ w.toNat) : ((Builtin.Int.intBits i : Nat) : Int) ≤ 8 * w := by
  have e : (256 : Int) ^ w.toNat = ((2 ^ (8 * w.toNat) : Nat) : Int) := by
    rw [Nat.pow_mul]
    simp
  rw [e] at h
  have : Builtin.Int.intBits i ≤ 8 * w.toNat := intBits_le_iff.mpr (by omega)
  omega
section
variable {P : Program} {w : World} {K : PySem.W.Frag} {mg : Str → Option Value} {base : Heap} {f fIW fIV fIRV fIDV fICV : Addr} {fd dIW dIV dIRV dIDV dICV : FuncData} {n j : Nat}
theorem ok_iw1 (F : Fun K "is_whole" "is_whole" s_is_whole f fd) (m_isinstance : mg "isinstance" = none) (m_int : mg "int" = none) (m_bool : mg "bool" = none) : FnOk P w K mg base CX0 1 f fd ["thing"] spIW1 := by
  refine F.ok sc_is_whole (fun vs H Q E h => ?_) (fun cdv A outer s H vs Q E hr h => ?_)
  · obtain ⟨i, rfl, _⟩ := h
    rfl
  obtain ⟨i, rfl, q⟩ := h
  refine ⟨_, (pss_one (ps_ret (pe_and (pe_callB call_isinst rfl m_isinstance bt_isinstance (pa_cons (pv 0) (pa_cons (pe_bltn (v := .ty "int") rfl m_int bt_int rfl) pa_nil))) (pe_one (pe_not (pe_callB call_isinst rfl m_isinstance bt_isinstance (pa_cons (pv 0) (pa_cons (pe_bltn (v := .ty "bool") rfl m_bool bt_bool rfl) pa_nil)))))))), ?_⟩
  refine ⟨_, rfl, _, _, _, _, rfl, .int _, kit_self _, _, rfl, iteT ?_⟩
  exact ⟨_, rfl, _, _, _, _, rfl, .int _, kit_int_bool, _, rfl, q⟩
theorem ok_irv (F : Fun K "is_row_value" "is_row_value" s_is_row_value f fd) (GIV : FnOk P w K mg base CX0 j fIV dIV ["kind", "thing"] (spIV n)) (bIV : Binds K dIV ["kind", "thing"] []) (kIV : PySem.W.keepIn K (.ref fIV) = true) (mIV : mg "is_value" = some (.ref fIV))
    (m_isinstance : mg "isinstance" = none) (m_list : mg "list" = none) (m_len : mg "len" = none) (m_all : mg "all" = none) : FnOk P w K mg base CX0 (j + 1) f fd ["kind", "n", "thing"] (spIRV n) := by
  refine F.ok sc_is_row_value (fun vs H Q E h => ?_) (fun cdv A outer s H vs Q E hr h => ?_)
  · obtain ⟨k, m, vds, v, u, rfl, _⟩ := h
    rfl
  obtain ⟨k, m, vds, v, u, rfl, hv, hu, hok, hval, hdp, hn, q⟩ := h
  simp only [IsV] at hu
  obtain ⟨av, ws, rfl, hav, hws⟩ := hu
  obtain ⟨hvl, hvv⟩ := (show (vds.length : Int) = m ∧ ∀ v ∈ vds, k.Val v by simpa only [Kd.Val] using hval)
  have hwl := hws.len
  have hm := hok.2
  refine ⟨_, (pss_cons (ps_if (PW.pt (pw_or (pt_not (pt_val (pe_callB call_isinst rfl m_isinstance bt_isinstance (pa_cons (pv 2) (pa_cons (pe_bltn (v := .ty "list") rfl m_list bt_list rfl) pa_nil))))) (pw_or1 (pt_cmpR op_ne (pe_callB call_len_seq rfl m_len PySem.boot_len (pa_cons (pv 2) pa_nil)) (pv 1) (nomark _))))) (pss_one (ps_ret pe_bl)) pss_nil)
    (pss_one (ps_ret (pe_callB (call_allL rfl) rfl m_all bt_all (pa_cons (pe_comp (dsc := defScope s_is_row_value) (N := ["kind", "n", "thing"]) (tgs := ["each"]) (outs := [0]) (N' := ["each", "kind"]) ⟨rfl, by decide +kernel, by decide +kernel, by decide +kernel, rfl, by decide +kernel, by decide +kernel, by decide +kernel⟩ (pi_list (pv 2)) (fun _ _ _ _ _ => (pg_name (i := 0) (show (["each", "kind"] : List Str).Nodup by decide +kernel) rfl (Or.inl rfl) (.inr rfl))) (tgt_name (by decide)) (fun _ _ _ _ _ => pcs_nil) (fun _ _ _ _ _ => (pe_call GIV hr rfl mIV kIV bIV .nil pass0 (pa_cons (pv 1) (pa_cons (pv 0) pa_nil))))) pa_nil))))), ?_⟩
  refine ⟨_, rfl, _, _, _, _, rfl, .lst hav, kit_self _, _, rfl, iteF ⟨_, rfl, av, _, rfl, .inl (SqL.of hav), _, rfl, rfl, _, rfl, iteNe (by rw [hwl, ← hvl]) ?_⟩⟩
  refine ⟨_, rfl, av, rfl, ⟨_, SqL.of hav⟩, ?_⟩
  refine comp_list (xs := ws) (fun i acc H' => Same H H' ∧ acc = (List.replicate i true).map V.bl) (by omega) ⟨Same.refl _, rfl⟩ (fun i acc H' hi ⟨e, ea⟩ => ⟨SqL.of (e _ _ hav), by rw [ea, List.length_map, List.length_replicate]; exact Nat.le_refl _⟩) (fun i x acc H' hx ⟨e, ea⟩ => ?_) (fun acc H' ⟨e, ea⟩ l hl => ?_)
  · obtain ⟨vd, hvd, hxv⟩ := hws.get hx
    refine nameYes ?_
    refine ⟨_, rfl, _, rfl, k, vd, v, x, rfl, hv.same e, hxv.same' e, hok.1, hvv vd (List.mem_of_getElem? hvd), hdp, hn, fun H2 e2 => ⟨e.trans e2, ?_⟩⟩
    rw [ea, List.replicate_succ', List.map_append]
    rfl
  · refine ⟨l, _, rfl, SqL.of (by rw [upd_same, ea]), ?_⟩
    have := q _ (e.trans (same_new hl (.lst acc)))
    rw [show (List.replicate ws.length true).all id = true by simp]
    exact this
theorem ok_icv (F : Fun K "is_choice_value" "is_choice_value" s_is_choice_value f fd) (GIV : FnOk P w K mg base CX0 j fIV dIV ["kind", "thing"] (spIV n)) (bIV : Binds K dIV ["kind", "thing"] []) (kIV : PySem.W.keepIn K (.ref fIV) = true) (mIV : mg "is_value" = some (.ref fIV))
    (GIW : FnOk P w K mg base CX0 1 fIW dIW ["thing"] spIW1) (bIW : Binds K dIW ["thing"] []) (kIW : PySem.W.keepIn K (.ref fIW) = true) (mIW : mg "is_whole" = some (.ref fIW))
    (m_isinstance : mg "isinstance" = none) (m_tuple : mg "tuple" = none) (m_len : mg "len" = none) (h1 : 1 ≤ j) : FnOk P w K mg base CX0 (j + 1) f fd ["kinds", "thing"] (spICV n) := by
  refine F.ok sc_is_choice_value (fun vs H Q E h => ?_) (fun cdv A outer s H vs Q E hr h => ?_)
  · obtain ⟨ks, jj, vd, v, u, rfl, _⟩ := h
    rfl
  obtain ⟨ks, jj, vd, v, u, rfl, ⟨lw, ws, rfl, hlw, hws⟩, hu, hok, hval, hdp, hn, q⟩ := h
  simp only [IsV] at hu
  obtain ⟨av, xv, rfl, hav, hvk⟩ := hu
  obtain ⟨k, ek, hxv⟩ := hvk.at
  have hkv := valK_at hval ek
  have hlws : ws.length = ks.length := by rw [hws.len, dtK_len]
  have hjl : jj < ks.length := (List.getElem?_eq_some_iff.mp ek).1
  have hwj : ws[jj]? = some (ws[jj]'(by omega)) := List.getElem?_eq_getElem (by omega)
  generalize ws[jj]'(by omega) = y at hwj
  obtain ⟨k', ek', hvk'⟩ := kinds_at hws hwj
  rw [ek] at ek'
  cases ek'
  obtain ⟨ok1, ok2⟩ := ok_at hok ek
  refine ⟨_, (pss_cons (ps_if (PW.pt (pw_or (pt_not (pt_val (pe_callB call_isinst rfl m_isinstance bt_isinstance (pa_cons (pv 1) (pa_cons (pe_bltn (v := .ty "tuple") rfl m_tuple bt_tuple rfl) pa_nil))))) (pw_or1 (pt_cmpR op_ne (pe_callB call_len_seq rfl m_len PySem.boot_len (pa_cons (pv 1) pa_nil)) pe_int (nomark _))))) (pss_one (ps_ret pe_bl)) pss_nil)
    (pss_cons (ps_if (PW.pt (pw_or (pt_not (pt_val (pe_call GIW (hr.mono h1) rfl mIW kIW bIW .nil pass0 (pa_cons (pe_ix ix_tup (pv 1) pe_int (fun _ _ => rfl)) pa_nil)))) (pw_or1 (pt_not (pt_chain op_le op_lt pe_int (pe_ix ix_tup (pv 1) pe_int (fun _ _ => rfl)) (pe_callB call_len_seq rfl m_len PySem.boot_len (pa_cons (pv 0) pa_nil))))))) (pss_one (ps_ret pe_bl)) pss_nil)
    (pss_one (ps_ret (pe_call GIV hr rfl mIV kIV bIV .nil pass0 (pa_cons (pe_ix ix_list (pv 0) (pe_ix ix_tup (pv 1) pe_int (fun _ _ => rfl)) (fun _ _ => rfl)) (pa_cons (pe_ix ix_tup (pv 1) pe_int (fun _ _ => rfl)) pa_nil))))))), ?_⟩
  refine ⟨_, rfl, _, _, _, _, rfl, .tup hav, kit_self _, _, rfl, iteF ⟨_, rfl, av, _, rfl, .inr (SqT.of hav), rfl, _, rfl, iteNe rfl ?_⟩⟩
  refine ⟨_, rfl, av, _, _, _, rfl, rfl, SqT.of hav, rfl, _, rfl, _, rfl, iteF ?_⟩
  refine ⟨_, rfl, av, _, _, _, rfl, rfl, SqT.of hav, rfl, _, _, rfl, rfl, _, rfl, iteDT (by omega) ⟨_, rfl, lw, _, rfl, .inl (SqL.of hlw), _, _, rfl, rfl, _, rfl, ?_⟩⟩
  rw [decide_eq_true (show (jj : Int) < (ws.length : Int) by omega)]
  refine iteF ?_
  refine ⟨_, rfl, _, rfl, av, _, _, _, rfl, rfl, SqT.of hav, rfl, lw, _, _, y, rfl, rfl, SqL.of hlw, atI_nat hwj, ?_⟩
  exact ⟨_, rfl, av, _, _, _, rfl, rfl, SqT.of hav, rfl, k, vd, y, xv, rfl, hvk', hxv, ok1, hkv, by omega, hn, q⟩
set_option maxHeartbeats 8000000 in
theorem ok_idv (F : Fun K "is_record_value" "is_record_value" s_is_record_value f fd) (GIV : FnOk P w K mg base CX0 j fIV dIV ["kind", "thing"] (spIV n)) (bIV : Binds K dIV ["kind", "thing"] []) (kIV : PySem.W.keepIn K (.ref fIV) = true) (mIV : mg "is_value" = some (.ref fIV))
    (m_isinstance : mg "isinstance" = none) (m_dict : mg "dict" = none) (m_str : mg "str" = none) (m_len : mg "len" = none) (m_all : mg "all" = none) : FnOk P w K mg base CX0 (j + 1) f fd ["fields", "thing"] (spIDV n) := by
  refine F.ok sc_is_record_value (fun vs H Q E h => ?_) (fun cdv A outer s H vs Q E hr h => ?_)
  · obtain ⟨fs, vds, v, u, rfl, _⟩ := h
    rfl
  obtain ⟨fs, vds, v, u, rfl, ⟨lw, ws, rfl, hlw, hws⟩, hu, hok, hval, hfl, hdp, hn, q⟩ := h
  simp only [IsV] at hu
  obtain ⟨av, kvs, rfl, hav, hkl, hks, hvf⟩ := hu
  have hlws : ws.length = fs.length := by rw [hws.len, dtF_len]
  refine ⟨_, (pss_cons (ps_if (PW.pt (pw_or (pt_not (pt_val (pe_callB call_isinst rfl m_isinstance bt_isinstance (pa_cons (pv 1) (pa_cons (pe_bltn (v := .ty "dict") rfl m_dict bt_dict rfl) pa_nil))))) (pw_or1 (pt_cmpR op_ne (pe_callB call_lenDk rfl m_len PySem.boot_len (pa_cons (pv 1) pa_nil)) (pe_callB call_len_seq rfl m_len PySem.boot_len (pa_cons (pv 0) pa_nil)) (nomark _))))) (pss_one (ps_ret pe_bl)) pss_nil)
    (pss_cons (ps_if (pt_not (pt_val (pe_callB (call_allL rfl) rfl m_all bt_all (pa_cons (pe_frz (pe_comp (dsc := defScope s_is_record_value) (N := ["fields", "thing"]) (tgs := ["key"]) (outs := []) (N' := ["key"]) ⟨rfl, by decide +kernel, by decide +kernel, by decide +kernel, rfl, by decide +kernel, by decide +kernel, by decide +kernel⟩ (pi_keys (pv 1)) (fun _ _ _ _ _ => (pg_name (i := 0) (show (["key"] : List Str).Nodup by decide +kernel) rfl (Or.inl rfl) (.inr rfl))) (tgt_name (by decide)) (fun _ _ _ _ _ => pcs_nil) (fun _ _ _ _ _ => (pe_callB (call_isinstK K) rfl m_isinstance bt_isinstance (pa_cons (pv 0) (pa_cons (pe_bltn (v := .ty "str") rfl m_str bt_str rfl) pa_nil)))))) pa_nil)))) (pss_one (ps_ret pe_bl)) pss_nil)
    (pss_one (ps_ret (pe_callB (call_allL rfl) rfl m_all bt_all (pa_cons (pe_comp (dsc := defScope s_is_record_value) (N := ["fields", "thing"]) (tgs := ["field"]) (outs := [1]) (N' := ["field", "thing"]) ⟨rfl, by decide +kernel, by decide +kernel, by decide +kernel, rfl, by decide +kernel, by decide +kernel, by decide +kernel⟩ (pi_list (pv 0)) (fun _ _ _ _ _ => (pg_name (i := 0) (show (["field", "thing"] : List Str).Nodup by decide +kernel) rfl (Or.inl rfl) (.inr rfl))) (tgt_name (by decide)) (fun _ _ _ _ _ => pcs_nil) (fun _ _ _ _ _ => (pe_and (pe_cmp (pc_din (hu_of hr) (pe_ix (ix_tupK K) (pv 0) pe_int (fun _ _ => rfl)) (pv 1)) (by with_unfolding_all rfl)) (pe_one (pe_call GIV hr rfl mIV kIV bIV .nil pass0 (pa_cons (pe_ix (ix_tupK K) (pv 0) pe_int (fun _ _ => rfl)) (pa_cons (pe_dget (hu_of hr) (pv 1) (pe_ix (ix_tupK K) (pv 0) pe_int (fun _ _ => rfl)) (fun _ _ => rfl)) pa_nil))))))) pa_nil)))))), ?_⟩
  refine ⟨_, rfl, _, _, _, _, rfl, .dK hav, kit_self _, _, rfl, iteF ⟨_, rfl, av, _, rfl, hav, _, rfl, lw, _, rfl, .inl (SqL.of hlw), rfl, _, rfl, iteNe (by rw [hlws, hkl]) ?_⟩⟩
  refine ⟨av, kvs, hav, fun o v z => (by rw [show (cxOf CX0 P w K mg base _ _ _ f cdv A outer s H E).nox.H₀ = H from rfl] at z; rw [hav] at z; cases z), fun o => ?_⟩
  refine ⟨_, rfl, av, o, kvs, rfl, upd_same, ?_⟩
  refine comp_keys (fun i acc H' => H' = upd H av (.frz o (.dK kvs)) ∧ acc = (List.replicate i true).map V.bl) (by omega) ⟨rfl, rfl⟩ (fun i acc H' hi ⟨e, ea⟩ => ⟨by rw [e, upd_same], by rw [ea, List.length_map, List.length_replicate]; exact Nat.le_refl _⟩) (fun i kv acc H' hx ⟨e, ea⟩ => ?_) (fun acc H' ⟨e, ea⟩ l hl => ?_)
  · obtain ⟨x, hx2⟩ := hks kv (List.mem_of_getElem? hx)
    refine nameYes ?_
    rw [hx2]
    refine ⟨_, rfl, _, _, _, _, rfl, .str _, kit_self _, e, ?_⟩
    rw [ea, List.replicate_succ', List.map_append]
    rfl
  · subst e
    have hla : av ≠ l := fun z => by rw [← z, upd_same] at hl; cases hl
    have hlH : H l = none := by rw [upd_ne (Ne.symm hla)] at hl; exact hl
    refine ⟨by rw [upd_ne hla, upd_same], l, _, rfl, SqL.of (by rw [upd_ne (Ne.symm hla), upd_same, ea]), _, rfl, ?_⟩
    rw [show (List.replicate kvs.length true).all id = true by simp]
    refine iteF ?_
    have eH : Same H (upd (upd (upd H av (.frz o (.dK kvs))) l (.lst acc)) av (.dK kvs)) := fun b ob hb => by
      by_cases hba : b = av
      · subst hba; rw [upd_same, ← hav]; exact hb
      · rw [upd_ne hba, upd_ne (ne_of_none hb hlH), upd_ne hba]; exact hb
    generalize upd (upd (upd H av (.frz o (.dK kvs))) l (.lst acc)) av (.dK kvs) = H1 at eH
    refine ⟨_, rfl, lw, rfl, ⟨_, SqL.of (eH _ _ hlw)⟩, ?_⟩
    refine comp_list (xs := ws) (fun i acc H' => Same H H' ∧ acc = (List.replicate i true).map V.bl) (by omega) ⟨eH, rfl⟩ (fun i acc H' hi ⟨e, ea⟩ => ⟨SqL.of (e _ _ hlw), by rw [ea, List.length_map, List.length_replicate]; exact Nat.le_refl _⟩) (fun i x acc H' hx ⟨e, ea⟩ => ?_) (fun acc H' ⟨e, ea⟩ l hl => ?_)
    · obtain ⟨g, t, vg, eg, rfl, ht, hvg⟩ := fields_at hws hx
      obtain ⟨og, dg⟩ := okF_at hok eg
      obtain ⟨vd, xv, hvd, hget, hxv⟩ := hvf.at eg
      have hD : DGet H' av (.str g.1) (some xv) := by rw [← hget]; exact DGet.k (k := Sum.inr g.1) (e _ _ hav)
      refine nameYes ?_
      refine ⟨_, rfl, t, _, _, _, rfl, rfl, SqT.of (e _ _ ht), rfl, _, rfl, av, _, rfl, hD, _, rfl, iteT ?_⟩
      refine ⟨_, rfl, t, _, _, _, rfl, rfl, SqT.of (e _ _ ht), rfl, _, rfl, _, rfl, t, _, _, _, rfl, rfl, SqT.of (e _ _ ht), rfl, av, xv, rfl, hD, ?_⟩
      refine ⟨g.2, vd, vg, xv, rfl, hvg.same e, hxv.same' e, og, valF_at hval eg hvd, by omega, hn, fun H2 e2 => ⟨e.trans e2, ?_⟩⟩
      rw [ea, List.replicate_succ', List.map_append]
      rfl
    · refine ⟨l, _, rfl, SqL.of (by rw [upd_same, ea]), ?_⟩
      have := q _ (e.trans (same_new hl (.lst acc)))
      rw [show (List.replicate ws.length true).all id = true by simp]
      exact this
theorem ok_iv (F : Fun K "is_value" "is_value" s_is_value f fd) (C : VConsts mg) (GIW : FnOk P w K mg base CX0 1 fIW dIW ["thing"] spIW1) (bIW : Binds K dIW ["thing"] []) (kIW : PySem.W.keepIn K (.ref fIW) = true) (mIW : mg "is_whole" = some (.ref fIW))
    (GIRV : FnOk P w K mg base CX0 j fIRV dIRV ["kind", "n", "thing"] (spIRV n)) (bIRV : Binds K dIRV ["kind", "n", "thing"] []) (kIRV : PySem.W.keepIn K (.ref fIRV) = true) (mIRV : mg "is_row_value" = some (.ref fIRV))
    (GIDV : FnOk P w K mg base CX0 j fIDV dIDV ["fields", "thing"] (spIDV n)) (bIDV : Binds K dIDV ["fields", "thing"] []) (kIDV : PySem.W.keepIn K (.ref fIDV) = true) (mIDV : mg "is_record_value" = some (.ref fIDV))
    (GICV : FnOk P w K mg base CX0 j fICV dICV ["kinds", "thing"] (spICV n)) (bICV : Binds K dICV ["kinds", "thing"] []) (kICV : PySem.W.keepIn K (.ref fICV) = true) (mICV : mg "is_choice_value" = some (.ref fICV)) (h1 : 1 ≤ j) :
    FnOk P w K mg base CX0 (j + 1) f fd ["kind", "thing"] (spIV (n + 1)) := by
  refine F.ok sc_is_value (fun vs H Q E h => ?_) (fun cdv A outer s H vs Q E hr h => ?_)
  · obtain ⟨kd, vd, v, u, rfl, _⟩ := h
    rfl
  obtain ⟨kd, vd, v, u, rfl, hv, hu, hok, hval, hdp, hn, q⟩ := h
  have n1 : ∀ {x y : Str}, (x == y) = false → ¬ (V.str x = V.str y) := fun h => str_ne h
  obtain ⟨tk, hC⟩ := C.bits
  refine ⟨_, (pss_cons (ps_if (pt_cmpR op_eq (pe_ix ix_tup (pv 0) pe_int (fun _ _ => rfl)) pe_str (nomark _)) (pss_one (ps_ret (pe_and (pe_call GIW (hr.mono h1) rfl mIW kIW bIW .nil pass0 (pa_cons (pv 1) pa_nil)) (pe_and (pe_cmpR op_ge (pv 1) pe_int (nomark _)) (pe_one (pe_cmpR op_le (pe_bm0 PySem.F.plainAttrs_int PySem.F.slot_int_bit_length PySem.F.type_int_bit_length mt_bit_length (pv 1)) (pe_op op_mulB (pe_glob (v := .int 8) rfl hC ⟨tk, rfl⟩) (pe_ix ix_tup (pv 0) pe_int (fun _ _ => rfl))) (nomark _))))))) pss_nil)
    (pss_cons (ps_if (pt_cmpR op_eq (pe_ix ix_tup (pv 0) pe_int (fun _ _ => rfl)) pe_str (nomark _)) (pss_one (ps_ret (pe_call GIRV hr rfl mIRV kIRV bIRV .nil pass0 (pa_cons (pe_ix ix_tup (pv 0) pe_int (fun _ _ => rfl)) (pa_cons (pe_ix ix_tup (pv 0) pe_int (fun _ _ => rfl)) (pa_cons (pv 1) pa_nil)))))) pss_nil)
    (pss_cons (ps_if (pt_cmpR op_eq (pe_ix ix_tup (pv 0) pe_int (fun _ _ => rfl)) pe_str (nomark _)) (pss_one (ps_ret (pe_call GIDV hr rfl mIDV kIDV bIDV .nil pass0 (pa_cons (pe_ix ix_tup (pv 0) pe_int (fun _ _ => rfl)) (pa_cons (pv 1) pa_nil))))) pss_nil)
    (pss_one (ps_ret (pe_call GICV hr rfl mICV kICV bICV .nil pass0 (pa_cons (pe_ix ix_tup (pv 0) pe_int (fun _ _ => rfl)) (pa_cons (pv 1) pa_nil)))))))), ?_⟩
  cases kd with
  | num wd m =>
    cases vd with
    | num nn =>
      simp only [IsV] at hu
      subst hu
      obtain ⟨p, ys, rfl, hp, v1, r1, rfl, rfl, v2, r2, rfl, rfl, v3, r3, rfl, rfl, rfl⟩ := hv
      obtain ⟨a1, a2, _⟩ := hok
      obtain ⟨b1, b2⟩ := (show 0 ≤ nn ∧ nn < 256 ^ wd.toNat by simpa only [Kd.Val] using hval)
      refine ⟨_, rfl, p, _, _, _, rfl, rfl, SqT.of hp, rfl, rfl, _, rfl, iteDT rfl ?_⟩
      refine ⟨_, rfl, nn, rfl, _, rfl, iteT ⟨_, rfl, _, _, rfl, rfl, _, rfl, iteDT b1 ?_⟩⟩
      refine ⟨_, rfl, rfl, nn, rfl, rfl, _, rfl, p, _, _, _, rfl, rfl, SqT.of hp, rfl, _, _, rfl, rfl, ⟨by omega, by omega⟩, _, _, rfl, rfl, ?_⟩
      show Q (.bl (decide (((Builtin.Int.intBits nn : Nat) : Int) ≤ 8 * wd))) H
      rw [decide_eq_true (bits_le b1 (by omega) b2)]
      exact q H (Same.refl _)
    | _ => simp only [IsV] at hu
  | row k m =>
    cases vd with
    | row vds =>
      obtain ⟨p, ys, rfl, hp, v1, r1, rfl, rfl, v2, r2, rfl, hv2, v3, r3, rfl, rfl, rfl⟩ := hv
      have hdp' : k.deep + 1 ≤ n + 1 := hdp
      refine ⟨_, rfl, p, _, _, _, rfl, rfl, SqT.of hp, rfl, rfl, _, rfl, iteND (n1 (by decide +kernel)) ?_⟩
      refine ⟨_, rfl, p, _, _, _, rfl, rfl, SqT.of hp, rfl, rfl, _, rfl, iteDT rfl ?_⟩
      exact ⟨_, rfl, p, _, _, _, rfl, rfl, SqT.of hp, rfl, _, rfl, p, _, _, _, rfl, rfl, SqT.of hp, rfl, _, rfl, k, m, vds, v2, u, rfl, hv2, hu, hok, hval, by omega, by omega, q⟩
    | _ => simp only [IsV] at hu
  | rcd fs =>
    cases vd with
    | rcd vds =>
      obtain ⟨p, ys, rfl, hp, v1, r1, rfl, rfl, v2, r2, rfl, hv2, rfl⟩ := hv
      have hdp' : deepF fs + 1 ≤ n + 1 := hdp
      have hl := hok.2
      refine ⟨_, rfl, p, _, _, _, rfl, rfl, SqT.of hp, rfl, rfl, _, rfl, iteND (n1 (by decide +kernel)) ?_⟩
      refine ⟨_, rfl, p, _, _, _, rfl, rfl, SqT.of hp, rfl, rfl, _, rfl, iteND (n1 (by decide +kernel)) ?_⟩
      refine ⟨_, rfl, p, _, _, _, rfl, rfl, SqT.of hp, rfl, rfl, _, rfl, iteDT rfl ?_⟩
      exact ⟨_, rfl, p, _, _, _, rfl, rfl, SqT.of hp, rfl, _, rfl, fs, vds, v2, u, rfl, hv2, hu, hok.1, by simpa only [Kd.Val] using hval, by omega, by omega, by omega, q⟩
    | _ => simp only [IsV] at hu
  | cho ks =>
    cases vd with
    | cho jj vv =>
      obtain ⟨p, ys, rfl, hp, v1, r1, rfl, rfl, v2, r2, rfl, hv2, rfl⟩ := hv
      have hdp' : deepK ks + 1 ≤ n + 1 := hdp
      refine ⟨_, rfl, p, _, _, _, rfl, rfl, SqT.of hp, rfl, rfl, _, rfl, iteND (n1 (by decide +kernel)) ?_⟩
      refine ⟨_, rfl, p, _, _, _, rfl, rfl, SqT.of hp, rfl, rfl, _, rfl, iteND (n1 (by decide +kernel)) ?_⟩
      refine ⟨_, rfl, p, _, _, _, rfl, rfl, SqT.of hp, rfl, rfl, _, rfl, iteND (n1 (by decide +kernel)) ?_⟩
      exact ⟨_, rfl, p, _, _, _, rfl, rfl, SqT.of hp, rfl, _, rfl, ks, jj, vv, v2, u, rfl, hv2, hu, hok.1, by simpa only [Kd.Val] using hval, by omega, by omega, q⟩
    | _ => simp only [IsV] at hu
end

theorem ps_no {X : Cx} {st : Stmt} : PS X st (fun _ _ _ => False) := fun _ _ _ _ _ _ h => h.elim
section
variable {P : Program} {w : World} {K : PySem.W.Frag} {mg : Str → Option Value} {base : Heap} {f fIW fIV fIRV fIDV fICV fNB fLAY fLB fRO fSO fPO fCA fBY : Addr} {fd dIW dIV dIRV dIDV dICV dNB dLAY dLB dRO dSO dPO dCA dBY : FuncData} {n j jI : Nat}
theorem iv_none : FnOk P w K mg base CX0 j f fd ["kind", "thing"] (spIV 0) := by
  have no : ∀ vs H Q E, ¬ spIV 0 vs H Q E := fun vs H Q E h => by
    obtain ⟨kd, _, _, _, _, _, _, _, _, hd, _⟩ := h
    have := kd.deep_pos
    omega
  exact ⟨fun vs H Q E h => absurd h (no vs H Q E), fun A outer s H args us vs Q E _ _ _ _ h => absurd h (no vs H Q E)⟩
theorem iv_all (xIV : Fx K mg "is_value" s_is_value ["kind", "thing"] fIV dIV) (xIW : Fx K mg "is_whole" s_is_whole ["thing"] fIW dIW) (xIRV : Fx K mg "is_row_value" s_is_row_value ["kind", "n", "thing"] fIRV dIRV) (xIDV : Fx K mg "is_record_value" s_is_record_value ["fields", "thing"] fIDV dIDV)
    (xICV : Fx K mg "is_choice_value" s_is_choice_value ["kinds", "thing"] fICV dICV) (C : VConsts mg) (m_isinstance : mg "isinstance" = none) (m_int : mg "int" = none) (m_bool : mg "bool" = none) (m_list : mg "list" = none) (m_tuple : mg "tuple" = none) (m_dict : mg "dict" = none) (m_str : mg "str" = none) (m_len : mg "len" = none) (m_all : mg "all" = none) :
    ∀ n, FnOk P w K mg base CX0 (1 + 2 * n) fIV dIV ["kind", "thing"] (spIV n)
  | 0 => iv_none
  | n + 1 =>
    have G := iv_all xIV xIW xIRV xIDV xICV C m_isinstance m_int m_bool m_list m_tuple m_dict m_str m_len m_all n
    have GIW := ok_iw1 xIW.F m_isinstance m_int m_bool
    (ok_iv xIV.F C GIW xIW.b xIW.k xIW.m (ok_irv xIRV.F G xIV.b xIV.k xIV.m m_isinstance m_list m_len m_all) xIRV.b xIRV.k xIRV.m (ok_idv xIDV.F G xIV.b xIV.k xIV.m m_isinstance m_dict m_str m_len m_all) xIDV.b xIDV.k xIDV.m
      (ok_icv xICV.F G xIV.b xIV.k xIV.m GIW xIW.b xIW.k xIW.m m_isinstance m_tuple m_len (by omega)) xICV.b xICV.k xICV.m (by omega)).mono (by omega)
theorem lb_all (xLB : Fx K mg "laid_bytes" s_laid_bytes ["kind", "value"] fLB dLB) (xNB : Fx K mg "number_bytes" s_number_bytes ["w", "value"] fNB dNB) (xLAY : Fx K mg "lay" s_lay ["laid", "place", "some"] fLAY dLAY) (xRO : Fx K mg "room_of" s_room_of ["kind"] fRO dRO) (xSO : Fx K mg "step_of" s_step_of ["room"] fSO dSO)
    (xPO : Fx K mg "places_in_order" s_places_in_order ["fields"] fPO dPO) (xCA : Fx K mg "chosen_at" s_chosen_at ["multiple"] fCA dCA) (C : VConsts mg) (GSO : FnOk P w K mg base CX0 2 fSO dSO ["room"] spSO) (GCA : FnOk P w K mg base CX0 2 fCA dCA ["multiple"] spCA)
    (GRO : ∀ n, FnOk P w K mg base CX0 (2 + 3 * n) fRO dRO ["kind"] (spRO n)) (GPO : ∀ n, FnOk P w K mg base CX0 (4 + 3 * n) fPO dPO ["fields"] (spPO n)) (m_zip : mg "zip" = none) (m_enumerate : mg "enumerate" = none) (m_range : mg "range" = none) : ∀ n, FnOk P w K mg base CX0 (6 + 3 * n) fLB dLB ["kind", "value"] (spLB n)
  | 0 => lb_none
  | n + 1 =>
    (ok_lb xLB.F (ok_nb xNB.F C m_range) xNB.b xNB.k xNB.m (GRO (n + 1)) xRO.b xRO.k xRO.m GSO xSO.b xSO.k xSO.m (GPO n) xPO.b xPO.k xPO.m GCA xCA.b xCA.k xCA.m (ok_lay xLAY.F m_enumerate) xLAY.b xLAY.k xLAY.m
      (lb_all xLB xNB xLAY xRO xSO xPO xCA C GSO GCA GRO GPO m_zip m_enumerate m_range n) xLB.b xLB.k xLB.m m_zip m_enumerate (by omega) (by omega) (by omega)).mono (by omega)
theorem ok_by (F : Fun K "bytes_of" "bytes_of" s_bytes_of f fd) (GIV : FnOk P w K mg base CX0 jI fIV dIV ["kind", "thing"] (spIV n)) (bIV : Binds K dIV ["kind", "thing"] []) (kIV : PySem.W.keepIn K (.ref fIV) = true) (mIV : mg "is_value" = some (.ref fIV))
    (GLB : FnOk P w K mg base CX0 j fLB dLB ["kind", "value"] (spLB n)) (bLB : Binds K dLB ["kind", "value"] []) (kLB : PySem.W.keepIn K (.ref fLB) = true) (mLB : mg "laid_bytes" = some (.ref fLB)) (hj : jI ≤ j) : FnOk P w K mg base CX0 (j + 1) f fd ["kind", "thing"] (spLB n) := by
  refine F.ok sc_bytes_of (fun vs H Q E h => ?_) (fun cdv A outer s H vs Q E hr h => ?_)
  · obtain ⟨kd, vd, v, u, rfl, _⟩ := h
    rfl
  obtain ⟨kd, vd, v, u, rfl, hv, hu, hok, hpo, hval, hdp, hn, hrm, q⟩ := h
  refine ⟨_, (pss_cons (ps_if (pt_not (pt_val (pe_call GIV (hr.mono hj) rfl mIV kIV bIV .nil pass0 (pa_cons (pv 0) (pa_cons (pv 1) pa_nil))))) (pss_one ps_no) pss_nil)
    (pss_one (ps_ret (pe_call GLB hr rfl mLB kLB bLB .nil pass0 (pa_cons (pv 0) (pa_cons (pv 1) pa_nil)))))), ?_⟩
  refine ⟨_, rfl, _, rfl, kd, vd, v, u, rfl, hv, hu, hok, hval, hdp, hn, fun H1 e1 => ⟨_, rfl, iteF ?_⟩⟩
  exact ⟨_, rfl, _, rfl, kd, vd, v, u, rfl, hv.same e1, hu.same' e1, hok, hpo, hval, hdp, hn, hrm, fun l H2 e2 hl hl2 => q l H2 (e1.trans e2) (fresh_of e1 hl) hl2⟩
end

theorem pi_listK {X : Cx} {tg l : Expr} {tl : TE} (K : PySem.W.Frag) (hl : PE X l tl) (h : X.K = K := by rfl) : PI X tg l (iList K tl) := by
  subst h
  exact pi_list hl
theorem pe_compIn {X : Cx} {tg elt iter : Expr} {ifs : List Expr} {dsc0 scope0 scope : Scope} {tgs N0 N N' : List Str} {outs : List Nat} {wi : TI} {g : TG} {tc : TT} {te : TE} {pos : Pos} {cl0 : List (Str × Addr)} {C0 : Addr} {s0 : Shared} {H0 : Hp} {ex0 : List Addr}
    (hf : ∀ y ∈ scope0.names, y.2 = .free → dsc0.names.lookup y.1 = some .cell) (S : CompScope (cellAll scope0) scope N tgs outs N') (hi : PI (cxComp2 X N0 scope0 cl0 C0 s0 H0 ex0) tg iter wi) (hg : ∀ cl C s H ex, PG (cxComp (cxComp2 X N0 scope0 cl0 C0 s0 H0 ex0) N' scope cl C s H ex) tg g) (hgt : Tgt tgs.length g) (hcs : ∀ cl C s H ex, PCs (cxComp (cxComp2 X N0 scope0 cl0 C0 s0 H0 ex0) N' scope cl C s H ex) ifs tc)
    (he : ∀ cl C s H ex, PE (cxComp (cxComp2 X N0 scope0 cl0 C0 s0 H0 ex0) N' scope cl C s H ex) elt te) (hN0 : N0 = N := by rfl) (hsc : X.env.scope = dsc0 := by rfl) (hk : dsc0.kind = .function := by rfl) (hc : X.calm = true := by rfl) (hs : ∀ x, foldedSetIterable iter (cxComp2 X N0 scope0 cl0 C0 s0 H0 ex0).env x = pure x := by intro _; rfl) :
    PE (cxComp2 X N0 scope0 cl0 C0 s0 H0 ex0) (.ListComp elt [⟨tg, iter, ifs, 0⟩] scope pos) (tComp tgs.length outs wi g tc te) :=
  pe_comp S hi hg hgt hcs he hN0 (relabel_all hsc hk hf) hc hs

mutual
theorem Kd.dbl_fit : ∀ (k : Kd), k.Fit → k.dbl.Fit
  | .num w m, h => by simp only [Kd.dbl]; exact h
  | .row k n, h => by simp only [Kd.dbl]; exact ⟨Kd.dbl_fit k h.1, h.2⟩
  | .rcd fs, h => by simp only [Kd.dbl]; exact ⟨dblF_fit fs h.1, by rw [dblF_len]; exact h.2.1, by rw [dblF_len]; exact h.2.2.1, by rw [dblF_names]; exact h.2.2.2⟩
  | .cho ks, h => by
    simp only [Kd.dbl]
    have a := dblK_fit ks h.1
    have l := dblK_len ks
    obtain ⟨_, h1, h2⟩ := h
    revert a l
    generalize dblK ks = ls
    intro a l
    match ls, a, l with
    | [], a, l => exact absurd (show 0 = ks.length from l) (by omega)
    | [k], a, l => exact ⟨⟨a.1, a⟩, by show 1 ≤ 2; decide, by show 2 ≤ 6; decide⟩
    | x :: y :: r, a, l => exact ⟨a, by show 1 ≤ (x :: y :: r).length; omega, by show (x :: y :: r).length ≤ 6; omega⟩
theorem dblF_fit : ∀ (fs : List (Str × Kd)), fitF fs → fitF (dblF fs)
  | [], _ => trivial
  | f :: r, h => ⟨⟨h.1.1, Kd.dbl_fit f.2 h.1.2⟩, dblF_fit r h.2⟩
theorem dblK_fit : ∀ (ks : List Kd), fitK ks → fitK (dblK ks)
  | [], _ => trivial
  | k :: r, h => ⟨Kd.dbl_fit k h.1, dblK_fit r h.2⟩
end
mutual
theorem Kd.dbl_two : ∀ (k : Kd), k.Fit → k.dbl.Two
  | .num w m, h => by simp only [Kd.dbl, Kd.Two]
  | .row k n, h => by simp only [Kd.dbl, Kd.Two]; exact Kd.dbl_two k h.1
  | .rcd fs, h => by
    simp only [Kd.dbl, Kd.Two]
    refine ⟨fun z => ?_, dblF_two fs h.1⟩
    have := dblF_len fs
    rw [z] at this
    have h1 := h.2.1
    simp at this
    omega
  | .cho ks, h => by
    simp only [Kd.dbl, Kd.Two]
    have a := dblK_two ks h.1
    have l := dblK_len ks
    obtain ⟨_, h1, h2⟩ := h
    revert a l
    generalize dblK ks = ls
    intro a l
    match ls, a, l with
    | [], a, l => exact absurd (show 0 = ks.length from l) (by omega)
    | [k], a, l =>
      simp only [twoK] at a
      exact ⟨by show 2 ≤ 2; decide, by show twoK [k, k]; simp only [twoK]; exact ⟨a.1, a.1, trivial⟩⟩
    | x :: y :: r, a, l => exact ⟨by show 2 ≤ r.length + 1 + 1; omega, a⟩
theorem dblF_two : ∀ (fs : List (Str × Kd)), fitF fs → twoF (dblF fs)
  | [], _ => by simp only [dblF, twoF]
  | f :: r, h => by simp only [dblF, twoF]; exact ⟨Kd.dbl_two f.2 h.1.2, dblF_two r h.2⟩
theorem dblK_two : ∀ (ks : List Kd), fitK ks → twoK (dblK ks)
  | [], _ => by simp only [dblK, twoK]
  | k :: r, h => by simp only [dblK, twoK]; exact ⟨Kd.dbl_two k h.1, dblK_two r h.2⟩
end
theorem fitF_at' : ∀ {fs : List (Str × Kd)} {i : Nat} {f : Str × Kd}, fitF fs → fs[i]? = some f → f.2.Fit
  | [], _, _, _, e => by simp at e
  | k' :: r, 0, k, h, e => by simp at e; subst e; exact h.1.2
  | k' :: r, i + 1, k, h, e => fitF_at' (i := i) h.2 (by simpa using e)
theorem fitK_at' : ∀ {ks : List Kd} {i : Nat} {k : Kd}, fitK ks → ks[i]? = some k → k.Fit
  | [], _, _, _, e => by simp at e
  | k' :: r, 0, k, h, e => by simp at e; subst e; exact h.1
  | k' :: r, i + 1, k, h, e => fitK_at' (i := i) h.2 (by simpa using e)
def spTW (n : Nat) : Sp := fun vs H Q _ => ∃ (kd : Kd) (v : V), vs = [v] ∧ IsD H kd.dt v ∧ kd.Fit ∧ kd.deep ≤ n ∧ n ≤ 12 ∧ ∀ v' H', Same H H' → IsD H' kd.dbl.dt v' → Q v' H'
section
variable {P : Program} {w : World} {K : PySem.W.Frag} {mg : Str → Option Value} {base : Heap} {f fTW : Addr} {fd dTW : FuncData} {n j : Nat}
set_option maxHeartbeats 8000000 in
theorem ok_tw (F : Fun K "_law_twofold" "_law_twofold" s_law_twofold f fd) (GTW : FnOk P w K mg base CX0 j fTW dTW ["kind"] (spTW n)) (bTW : Binds K dTW ["kind"] []) (kTW : PySem.W.keepIn K (.ref fTW) = true) (mTW : mg "_law_twofold" = some (.ref fTW)) (m_int : mg "int" = none) (m_len : mg "len" = none) :
    FnOk P w K mg base CX0 (j + 1) f fd ["kind"] (spTW (n + 1)) := by
  refine F.ok sc_law_twofold (fun vs H Q E h => ?_) (fun cdv A outer s H vs Q E hr h => ?_)
  · obtain ⟨kd, v, rfl, _⟩ := h
    rfl
  obtain ⟨kd, v, rfl, hv, hfit, hdp, hn, q⟩ := h
  have n1 : ∀ {x y : Str}, (x == y) = false → ¬ (V.str x = V.str y) := fun h => str_ne h
  refine ⟨_, (pss_cons (ps_if (pt_cmpR op_eq (pe_ix ix_tup (pv 0) pe_int (fun _ _ => rfl)) pe_str (nomark _)) (pss_one (ps_ret (pe_tup (pa_cons pe_str (pa_cons (pe_call GTW hr rfl mTW kTW bTW .nil pass0 (pa_cons (pe_ix ix_tup (pv 0) pe_int (fun _ _ => rfl)) pa_nil)) (pa_cons (pe_ix ix_tup (pv 0) pe_int (fun _ _ => rfl)) pa_nil)))))) pss_nil)
    (pss_cons (ps_if (pt_cmpR op_eq (pe_ix ix_tup (pv 0) pe_int (fun _ _ => rfl)) pe_str (nomark _)) (pss_one (ps_ret (pe_tup (pa_cons pe_str (pa_cons (pe_comp (dsc := defScope s_law_twofold) (N := ["kind", "kinds"]) (tgs := ["name", "part"]) (outs := []) (N' := ["name", "part"]) ⟨rfl, by decide +kernel, by decide +kernel, by decide +kernel, rfl, by decide +kernel, by decide +kernel, by decide +kernel⟩ (pi_list (pe_ix ix_tup (pv 0) pe_int (fun _ _ => rfl))) (fun _ _ _ _ _ => (pg_tupK K (n := 2) rfl rfl (pgs_cons (pg_name (i := 0) (show (["name", "part"] : List Str).Nodup by decide +kernel) rfl (Or.inl rfl) (.inr rfl)) (pgs_cons (pg_name (i := 1) (show (["name", "part"] : List Str).Nodup by decide +kernel) rfl (Or.inl rfl) (.inr rfl)) pgs_nil)))) (tgt_tup (tgts_name (by decide) (tgts_name (by decide) tgts_nil tmono_nil) (tmono_name tmono_nil))) (fun _ _ _ _ _ => pcs_nil) (fun _ _ _ _ _ => (pe_tup (pa_cons (pv 0) (pa_cons (pe_call GTW hr rfl mTW kTW bTW .nil pass0 (pa_cons (pv 1) pa_nil)) pa_nil))))) pa_nil))))) pss_nil)
    (pss_cons (ps_if (pt_cmpR op_eq (pe_ix ix_tup (pv 0) pe_int (fun _ _ => rfl)) pe_str (nomark _)) (pss_cons (ps_setC (i := 1) sc_law_twofold.nd rfl rfl (dsc := defScope s_law_twofold) (N := ["kind", "kinds"]) (tgs := ["part"]) (outs := []) (N' := ["part"]) ⟨rfl, by decide +kernel, by decide +kernel, by decide +kernel, rfl, by decide +kernel, by decide +kernel, by decide +kernel⟩ (pi_list (pe_ix ix_tup (pv 0) pe_int (fun _ _ => rfl))) (fun _ _ _ _ _ => (pg_name (i := 0) (show (["part"] : List Str).Nodup by decide +kernel) rfl (Or.inl rfl) (.inr rfl))) (tgt_name (by decide)) (fun _ _ _ _ _ => pcs_nil) (fun _ _ _ _ _ => (pe_call GTW hr rfl mTW kTW bTW .nil pass0 (pa_cons (pv 0) pa_nil))))
    (pss_one (ps_ret (pe_tup (pa_cons pe_str (pa_cons (pe_op op_cat (pv 1) (pe_op op_rep (pv 1) (pe_callTy call_int1 rfl m_int bt_int (pa_cons (pe_cmpR op_eq (pe_callB call_len_seq rfl m_len PySem.boot_len (pa_cons (pv 1) pa_nil)) pe_int (nomark _)) pa_nil)))) pa_nil)))))) pss_nil)
    (pss_one (ps_ret (pv 0)))))), ?_⟩
  cases kd with
  | num wd m =>
    obtain ⟨p, ys, rfl, hp, v1, r1, rfl, rfl, v2, r2, rfl, rfl, v3, r3, rfl, rfl, rfl⟩ := id hv
    refine ⟨_, rfl, p, _, _, _, rfl, rfl, SqT.of hp, rfl, rfl, _, rfl, iteND (n1 (by decide +kernel)) ?_⟩
    refine ⟨_, rfl, p, _, _, _, rfl, rfl, SqT.of hp, rfl, rfl, _, rfl, iteND (n1 (by decide +kernel)) ?_⟩
    refine ⟨_, rfl, p, _, _, _, rfl, rfl, SqT.of hp, rfl, rfl, _, rfl, iteND (n1 (by decide +kernel)) ?_⟩
    exact ⟨_, rfl, q _ _ (Same.refl _) (by simp only [Kd.dbl]; exact hv)⟩
  | row k m =>
    obtain ⟨p, ys, rfl, hp, v1, r1, rfl, rfl, v2, r2, rfl, hv2, v3, r3, rfl, rfl, rfl⟩ := id hv
    have hdp' : k.deep + 1 ≤ n + 1 := hdp
    refine ⟨_, rfl, p, _, _, _, rfl, rfl, SqT.of hp, rfl, rfl, _, rfl, iteDT rfl ?_⟩
    refine ⟨_, rfl, p, _, _, _, rfl, rfl, SqT.of hp, rfl, k, v2, rfl, hv2, hfit.1, by omega, by omega, fun v' H1 e1 hv' => ?_⟩
    refine ⟨_, rfl, p, _, _, _, rfl, rfl, SqT.of (e1 _ _ hp), rfl, lists3 3 (by decide), fun t ht => ?_⟩
    refine q _ _ (e1.trans (same_new ht _)) ?_
    simp only [Kd.dbl]
    exact ⟨t, _, rfl, upd_same, _, _, rfl, rfl, _, _, rfl, hv'.same (same_new ht _), _, _, rfl, rfl, rfl⟩
  | rcd fs =>
    obtain ⟨p, ys, rfl, hp, v1, r1, rfl, rfl, v2, r2, rfl, ⟨lw, ws, rfl, hlw, hws⟩, rfl⟩ := id hv
    have hdp' : deepF fs + 1 ≤ n + 1 := hdp
    have hlws : ws.length = fs.length := by rw [hws.len, dtF_len]
    have hfl := hfit.2.2.1
    refine ⟨_, rfl, p, _, _, _, rfl, rfl, SqT.of hp, rfl, rfl, _, rfl, iteND (n1 (by decide +kernel)) ?_⟩
    refine ⟨_, rfl, p, _, _, _, rfl, rfl, SqT.of hp, rfl, rfl, _, rfl, iteDT rfl ?_⟩
    refine ⟨_, rfl, p, _, _, _, rfl, rfl, SqT.of hp, rfl, lw, rfl, ⟨_, SqL.of hlw⟩, ?_⟩
    refine comp_list (xs := ws) (fun i acc H' => Same H H' ∧ IsDs H' (dtF ((dblF fs).take i)) acc) (by omega) ⟨Same.refl _, by rw [List.take_zero]; rfl⟩ (fun i acc H' hi ⟨e, ea⟩ => ⟨SqL.of (e _ _ hlw), by rw [ea.len, dtF_len, List.length_take]; omega⟩) (fun i x acc H' hx ⟨e, ea⟩ => ?_) (fun acc H' ⟨e, ea⟩ l hl => ?_)
    · obtain ⟨g, t, vg, eg, rfl, ht, hvg⟩ := fields_at hws hx
      have hdg : g.2.deep ≤ deepF fs := (okF_at (fs := fs) (Kd.Fit.ok _ hfit).1 eg).2
      refine ⟨t, _, rfl, SqT.of (e _ _ ht), rfl, _, _, rfl, _, _, rfl, rfl, ?_⟩
      refine yesT ?_
      refine ⟨_, rfl, _, rfl, g.2, vg, rfl, hvg.same e, fitF_at' hfit.1 eg, by omega, by omega, fun v' H2 e2 hv' => ⟨lists3 2 (by decide), fun t2 ht2 => ⟨(e.trans e2).trans (same_new ht2 _), ?_⟩⟩⟩
      rw [take_snoc (dblF_at eg), dtF_snoc]
      exact ((ea.same e2).same (same_new ht2 _)).snoc (show IsD _ (Dt.tup [.str g.1, g.2.dbl.dt]) (.ref t2) from ⟨t2, _, rfl, upd_same, _, _, rfl, rfl, _, _, rfl, hv'.same (same_new ht2 _), rfl⟩)
    · rw [hlws, ← dblF_len fs, List.take_length] at ea
      refine ⟨lists3 2 (by decide), fun t ht => ?_⟩
      refine q _ _ ((e.trans (same_new hl _)).trans (same_new ht _)) ?_
      simp only [Kd.dbl]
      exact ⟨t, _, rfl, upd_same, _, _, rfl, rfl, _, _, rfl, ⟨l, acc, rfl, same_new ht _ _ _ upd_same, (ea.same (same_new hl _)).same (same_new ht _)⟩, rfl⟩
  | cho ks =>
    obtain ⟨p, ys, rfl, hp, v1, r1, rfl, rfl, v2, r2, rfl, ⟨lw, ws, rfl, hlw, hws⟩, rfl⟩ := id hv
    have hdp' : deepK ks + 1 ≤ n + 1 := hdp
    have hlws : ws.length = ks.length := by rw [hws.len, dtK_len]
    have hfl := hfit.2.2
    refine ⟨_, rfl, p, _, _, _, rfl, rfl, SqT.of hp, rfl, rfl, _, rfl, iteND (n1 (by decide +kernel)) ?_⟩
    refine ⟨_, rfl, p, _, _, _, rfl, rfl, SqT.of hp, rfl, rfl, _, rfl, iteND (n1 (by decide +kernel)) ?_⟩
    refine ⟨_, rfl, p, _, _, _, rfl, rfl, SqT.of hp, rfl, rfl, _, rfl, iteDT rfl ?_⟩
    refine ⟨_, rfl, p, _, _, _, rfl, rfl, SqT.of hp, rfl, lw, rfl, ⟨_, SqL.of hlw⟩, ?_⟩
    refine comp_list (xs := ws) (fun i acc H' => Same H H' ∧ IsDs H' (dtK ((dblK ks).take i)) acc) (by omega) ⟨Same.refl _, by rw [List.take_zero]; rfl⟩ (fun i acc H' hi ⟨e, ea⟩ => ⟨SqL.of (e _ _ hlw), by rw [ea.len, dtK_len, List.length_take]; omega⟩) (fun i x acc H' hx ⟨e, ea⟩ => ?_) (fun acc H' ⟨e, ea⟩ l hl => ?_)
    · obtain ⟨k, ek, hkx⟩ := kinds_at hws hx
      have hdk : k.deep ≤ deepK ks := (ok_at (ks := ks) (Kd.Fit.ok _ hfit).1 ek).2
      refine nameYes ?_
      refine ⟨_, rfl, k, x, rfl, hkx.same e, fitK_at' hfit.1 ek, by omega, by omega, fun v' H2 e2 hv' => ⟨e.trans e2, ?_⟩⟩
      rw [dtK_take_snoc (dblK_at ek)]
      exact (ea.same e2).snoc hv'
    · rw [hlws, ← dblK_len ks, List.take_length] at ea
      have hal : acc.length = ks.length := by rw [ea.len, dtK_len, dblK_len]
      have e2 := e.trans (same_new hl (.lst acc))
      have ea2 := ea.same (same_new hl (.lst acc))
      have hl2 : (upd H' l (.lst acc)) l = some (.lst acc) := upd_same
      generalize upd H' l (.lst acc) = H2 at e2 ea2 hl2
      refine ⟨_, rfl, _, rfl, _, rfl, l, _, rfl, .inl (SqL.of hl2), rfl, ?_⟩
      refine .inr ⟨_, rfl, ?_⟩
      refine ⟨l, _, acc, rfl, rfl, hl2, ?_⟩
      have fin : ∀ (b : Bool) (zs : List V), b = decide (V.int (acc.length : Int) = V.int 1) → zs = acc ++ (List.replicate (if b = true then (1 : Int) else 0).toNat acc).flatten → IsDs H2 (dtK (dblC (dblK ks))) zs := fun b zs hb hz => by
        match hd : dblK ks, ea2 with
        | [], ea2 =>
          have : (dblK ks).length = 0 := by rw [hd]; rfl
          rw [dblK_len] at this
          have := hfit.2.1
          omega
        | [k], ea2 =>
          have h1 : acc.length = 1 := by rw [hal, ← dblK_len ks, hd]; rfl
          have hb' : b = true := by rw [hb, h1]; decide
          rw [hz, hb', if_pos rfl]
          match acc, h1, ea2 with
          | [a], _, ea2 =>
            obtain ⟨a', ar, ez, x1, x2⟩ := ea2
            cases ez
            exact ⟨a, [a], rfl, x1, a, [], rfl, x1, rfl⟩
        | x :: y :: r, ea2 =>
          have h1 : acc.length = r.length + 2 := by rw [hal, ← dblK_len ks, hd]; rfl
          have hb' : b = false := by
            rw [hb]
            refine decide_eq_false fun z => ?_
            have z' : ((acc.length : Nat) : Int) = 1 := by injection z
            omega
          rw [hz, hb', if_neg Bool.false_ne_true]
          show IsDs H2 (dtK (x :: y :: r)) (acc ++ [])
          rw [List.append_nil]
          exact ea2
      have hb1 : ∀ b : Bool, (-2 ^ 63 : Int) ≤ (if b = true then 1 else 0) ∧ (if b = true then (1 : Int) else 0) < 2 ^ 63 ∧ (if b = true then (1 : Int) else 0).toNat ≤ 1 := fun b => by cases b <;> decide
      generalize hb : decide (V.int (acc.length : Int) = V.int 1) = b at fin ⊢
      obtain ⟨g1, g2, g3⟩ := hb1 b
      have hsz : acc.length * (if b = true then (1 : Int) else 0).toNat ≤ 10 := by
        have := Nat.mul_le_mul (show acc.length ≤ 6 by omega) g3
        omega
      refine ⟨g1, g2, size5 (by omega), fun l2 hl2n => ?_⟩
      have hfl2 : ((List.replicate (if b = true then (1 : Int) else 0).toNat acc).flatten).length ≤ 10 := by
        rw [List.length_flatten, List.map_replicate, List.sum_replicate_nat, Nat.mul_comm]
        exact hsz
      refine ⟨l, l2, _, _, rfl, rfl, same_new hl2n _ _ _ hl2, upd_same, size5 (by omega), fun l3 hl3 => ⟨lists3 2 (by decide), fun t ht => ?_⟩⟩
      refine q _ _ (((e2.trans (same_new hl2n _)).trans (same_new hl3 _)).trans (same_new ht _)) ?_
      simp only [Kd.dbl]
      exact ⟨t, _, rfl, upd_same, _, _, rfl, rfl, _, _, rfl, ⟨l3, _, rfl, same_new ht _ _ _ upd_same, (((fin b _ rfl rfl).same (same_new hl2n _)).same (same_new hl3 _)).same (same_new ht _)⟩, rfl⟩
theorem tw_none : FnOk P w K mg base CX0 j f fd ["kind"] (spTW 0) := by
  have no : ∀ vs H Q E, ¬ spTW 0 vs H Q E := fun vs H Q E h => by
    obtain ⟨kd, _, _, _, _, hd, _⟩ := h
    have := kd.deep_pos
    omega
  exact ⟨fun vs H Q E h => absurd h (no vs H Q E), fun A outer s H args us vs Q E _ _ _ _ h => absurd h (no vs H Q E)⟩
theorem tw_all (xTW : Fx K mg "_law_twofold" s_law_twofold ["kind"] fTW dTW) (m_int : mg "int" = none) (m_len : mg "len" = none) : ∀ n, FnOk P w K mg base CX0 n fTW dTW ["kind"] (spTW n)
  | 0 => tw_none
  | n + 1 => ok_tw xTW.F (tw_all xTW m_int m_len n) xTW.b xTW.k xTW.m m_int m_len
end

def newH (H H' : Hp) : Hp := fun b => match H b with | none => H' b | some _ => none
theorem newH_of {H H' : Hp} {b : Addr} {o : HO} (h : H b = none) (h' : H' b = some o) : newH H H' b = some o := by unfold newH; rw [h]; exact h'
theorem newH_some {H H' : Hp} {b : Addr} {o : HO} (h : newH H H' b = some o) : H b = none ∧ H' b = some o := by
  unfold newH at h
  cases e : H b with
  | none => rw [e] at h; exact ⟨rfl, h⟩
  | some u => rw [e] at h; cases h
theorem newH_sub (H H' : Hp) : Same (newH H H') H' := fun b o h => (newH_some h).2
theorem newH_same {H H' H2 : Hp} (e : Same H' H2) : Same (newH H H') (newH H H2) := fun b o h => newH_of (newH_some h).1 (e _ _ (newH_some h).2)
theorem newH_old {H0 H H' : Hp} (e : Same H0 H) : Same (newH H H') (newH H0 H') := fun b o h => newH_of (fresh_of e (newH_some h).1) (newH_some h).2
def allP {α : Type} (g : α → V → Prop) : List α → List V → Prop
  | [], xs => xs = []
  | v :: vs, xs => ∃ x xr, xs = x :: xr ∧ g v x ∧ allP g vs xr
theorem allP.imp {α : Type} {g h : α → V → Prop} (i : ∀ v x, g v x → h v x) : ∀ {vs : List α} {xs : List V}, allP g vs xs → allP h vs xs
  | [], _, e => e
  | _ :: _, _, ⟨x, xr, e, a, b⟩ => ⟨x, xr, e, i _ _ a, allP.imp i b⟩
theorem allP.len {α : Type} {g : α → V → Prop} : ∀ {vs : List α} {xs : List V}, allP g vs xs → xs.length = vs.length
  | [], _, e => by rw [show _ = [] from e]; rfl
  | _ :: _, _, ⟨x, xr, e, a, b⟩ => by rw [e, List.length_cons, List.length_cons, allP.len b]
theorem allP.get {α : Type} {g : α → V → Prop} : ∀ {vs : List α} {xs : List V} {i : Nat} {x : V}, allP g vs xs → xs[i]? = some x → ∃ v, vs[i]? = some v ∧ g v x
  | [], _, _, _, e, h => by rw [show _ = [] from e] at h; simp at h
  | v :: vs, _, 0, x, ⟨y, yr, e, a, b⟩, h => by rw [e] at h; cases (Option.some.inj h); exact ⟨v, rfl, a⟩
  | v :: vs, _, i + 1, x, ⟨y, yr, e, a, b⟩, h => by
    rw [e] at h
    obtain ⟨u, hu, hg⟩ := allP.get (i := i) b (by simpa using h)
    exact ⟨u, by simpa using hu, hg⟩
theorem allP.snoc {α : Type} {g : α → V → Prop} {v : α} {x : V} (hg : g v x) : ∀ {vs : List α} {xs : List V}, allP g vs xs → allP g (vs ++ [v]) (xs ++ [x])
  | [], _, e => by rw [show _ = [] from e]; exact ⟨x, [], rfl, hg, rfl⟩
  | _ :: _, _, ⟨y, yr, e, a, b⟩ => by rw [e]; exact ⟨y, yr ++ [x], rfl, a, allP.snoc hg b⟩
theorem all2_P {g : Vd → V → Prop} : ∀ {vs : List Vd} {xs : List V}, all2 g vs xs ↔ allP g vs xs
  | [], _ => Iff.rfl
  | v :: vs, xs => by
    constructor
    · rintro ⟨x, xr, e, a, b⟩
      exact ⟨x, xr, e, a, all2_P.mp b⟩
    · rintro ⟨x, xr, e, a, b⟩
      exact ⟨x, xr, e, a, all2_P.mpr b⟩
theorem allP.app {α : Type} {g : α → V → Prop} {us : List α} {ys : List V} (hu : allP g us ys) : ∀ {vs : List α} {xs : List V}, allP g vs xs → allP g (vs ++ us) (xs ++ ys)
  | [], _, e => by rw [show _ = [] from e]; exact hu
  | _ :: _, _, ⟨y, yr, e, a, b⟩ => by rw [e]; exact ⟨y, yr ++ ys, rfl, a, allP.app hu b⟩
theorem allP.rep {α : Type} {g : α → V → Prop} {v : α} {x : V} (hg : g v x) : ∀ n : Nat, allP g (List.replicate n v) (List.replicate n x)
  | 0 => rfl
  | n + 1 => ⟨x, List.replicate n x, rfl, hg, allP.rep hg n⟩
theorem allP.at {α : Type} {g : α → V → Prop} : ∀ {vs : List α} {xs : List V} {i : Nat} {v : α}, allP g vs xs → vs[i]? = some v → ∃ x, xs[i]? = some x ∧ g v x
  | [], _, _, _, e, h => by simp at h
  | v :: vs, _, 0, w, ⟨y, yr, e, a, b⟩, h => by rw [e]; cases (Option.some.inj h); exact ⟨y, rfl, a⟩
  | v :: vs, _, i + 1, w, ⟨y, yr, e, a, b⟩, h => by
    rw [e]
    obtain ⟨u, hu, hg⟩ := allP.at (i := i) b (by simpa using h)
    exact ⟨u, by simpa using hu, hg⟩
theorem valV_nodup : ∀ {kvs : List (Key × V)} {j : Nat} {kv : Key × V}, (kvs.map (·.1)).Nodup → kvs[j]? = some kv → valV kvs kv.1 = some kv.2
  | [], _, _, _, h => by simp at h
  | p :: r, 0, kv, _, h => by cases (Option.some.inj h); exact valV_pos rfl
  | p :: r, j + 1, kv, hn, h => by
    have h' : r[j]? = some kv := by simpa using h
    have hn' := List.nodup_cons.mp hn
    have hne : ¬ p.1 = kv.1 := fun z => hn'.1 (by show p.1 ∈ _; rw [z]; exact List.mem_map_of_mem (f := fun x : Key × V => x.1) (List.mem_of_getElem? h'))
    rw [valV_neg hne]
    exact valV_nodup hn'.2 h'
theorem IsVf.mk {H : Hp} {kvs : List (Key × V)} : ∀ {fs : List (Str × Kd)} {vs : List Vd}, vs.length = fs.length → (∀ (j : Nat) (f : Str × Kd) (v : Vd), fs[j]? = some f → vs[j]? = some v → ∃ x, valV kvs (Sum.inr f.1) = some x ∧ IsV H f.2 v x) → IsVf H fs vs kvs
  | [], [], _, _ => by simp only [IsVf]
  | [], _ :: _, h, _ => by simp at h
  | _ :: _, [], h, _ => by simp at h
  | f :: r, v :: vs, h, g => by
    simp only [IsVf]
    exact ⟨g 0 f v rfl rfl, IsVf.mk (by simpa using h) fun j f' v' a b => g (j + 1) f' v' (by simpa using a) (by simpa using b)⟩
theorem pairs_kvs {H : Hp} {g : Str × Kd → V → Prop} : ∀ {fs : List (Str × Kd)} {ys : List V}, allP (fun f x => ∃ (T : Addr) (y : V), x = .ref T ∧ H T = some (.tup [.str f.1, y]) ∧ g f y) fs ys →
    ∃ kvs : List (Key × V), kvs.length = ys.length ∧ kvs.map (·.1) = fs.map (fun f => (Sum.inr f.1 : Key)) ∧ (∀ (j : Nat) (kv : Key × V), kvs[j]? = some kv → ∃ T : Addr, ys[j]? = some (.ref T) ∧ H T = some (.tup [kV kv.1, kv.2])) ∧ ∀ (j : Nat) (f : Str × Kd), fs[j]? = some f → ∃ kv, kvs[j]? = some kv ∧ kv.1 = Sum.inr f.1 ∧ g f kv.2
  | [], _, e => by
    rw [show _ = [] from e]
    exact ⟨[], rfl, rfl, fun j kv h => by simp at h, fun j f h => by simp at h⟩
  | f :: r, _, ⟨x, xr, e, ⟨T, y, e1, e2, e3⟩, b⟩ => by
    obtain ⟨kvs, a1, a2, a3, a4⟩ := pairs_kvs b
    rw [e]
    refine ⟨(Sum.inr f.1, y) :: kvs, by simp [a1], by simp [a2], fun j kv h => ?_, fun j f' h => ?_⟩
    · cases j with
      | zero => simp at h; subst h; exact ⟨T, by simp [e1], e2⟩
      | succ j => obtain ⟨T', b1, b2⟩ := a3 j kv (by simpa using h); exact ⟨T', by simpa using b1, b2⟩
    · cases j with
      | zero => simp at h; subst h; exact ⟨_, rfl, rfl, e3⟩
      | succ j => obtain ⟨kv, b1, b2⟩ := a4 j f' (by simpa using h); exact ⟨kv, by simpa using b1, b2⟩

mutual
theorem Kd.ful_len : ∀ (k : Kd), k.Fit → k.ful.length ≤ 6 ^ k.deep
  | .num w m, h => by simp only [Kd.ful]; show 1 ≤ 6 ^ 1; decide
  | .row k n, h => by
    simp only [Kd.ful, List.length_map]
    have a := Kd.ful_len k h.1
    show k.ful.length ≤ 6 ^ (k.deep + 1)
    have b : 6 ^ k.deep ≤ 6 ^ (k.deep + 1) := Nat.pow_le_pow_right (by decide) (Nat.le_succ _)
    omega
  | .rcd fs, h => by
    rw [ful_rcd, List.length_map, List.length_range]
    have a := mxl_le (fulF_le fs h.1)
    show mxl (fulF fs) ≤ 6 ^ (deepF fs + 1)
    have b : 6 ^ deepF fs ≤ 6 ^ (deepF fs + 1) := Nat.pow_le_pow_right (by decide) (Nat.le_succ _)
    omega
  | .cho ks, h => by
    simp only [Kd.ful]
    have a := fulK_len (6 ^ deepK ks) ks 0 (fulK_le ks h.1)
    show (fulK 0 ks).length ≤ 6 ^ (deepK ks + 1)
    have b : ks.length * 6 ^ deepK ks ≤ 6 * 6 ^ deepK ks := Nat.mul_le_mul_right _ h.2.2
    rw [Nat.pow_succ]
    omega
theorem fulF_le : ∀ (fs : List (Str × Kd)), fitF fs → ∀ l ∈ fulF fs, l.length ≤ 6 ^ deepF fs
  | [], _, l, hl => by simp [fulF] at hl
  | f :: r, h, l, hl => by
    simp only [fulF, List.mem_cons] at hl
    rcases hl with rfl | hl
    · exact Nat.le_trans (Kd.ful_len f.2 h.1.2) (Nat.pow_le_pow_right (by decide) (Nat.le_max_left _ _))
    · exact Nat.le_trans (fulF_le r h.2 l hl) (Nat.pow_le_pow_right (by decide) (Nat.le_max_right _ _))
theorem fulK_le : ∀ (ks : List Kd), fitK ks → ∀ k ∈ ks, k.ful.length ≤ 6 ^ deepK ks
  | [], _, l, hl => by simp at hl
  | f :: r, h, l, hl => by
    rcases List.mem_cons.mp hl with e | hl
    · rw [e]
      exact Nat.le_trans (Kd.ful_len f h.1) (Nat.pow_le_pow_right (by decide) (Nat.le_max_left _ _))
    · exact Nat.le_trans (fulK_le r h.2 l hl) (Nat.pow_le_pow_right (by decide) (Nat.le_max_right _ _))
end
theorem six5 {d n : Nat} (h : d ≤ n) (hn : n ≤ 5) : 6 ^ d ≤ 7776 := Nat.le_trans (Nat.pow_le_pow_right (by decide) (Nat.le_trans h hn)) (by decide)
theorem twoF_at' : ∀ {fs : List (Str × Kd)} {i : Nat} {f : Str × Kd}, twoF fs → fs[i]? = some f → f.2.Two
  | [], _, _, _, e => by simp at e
  | k' :: r, 0, k, h, e => by simp only [twoF] at h; simp at e; subst e; exact h.1
  | k' :: r, i + 1, k, h, e => by simp only [twoF] at h; exact twoF_at' (i := i) h.2 (by simpa using e)
theorem IsVk.mk {H : Hp} {v : Vd} {u : V} : ∀ {ks : List Kd} {j : Nat} {k : Kd}, ks[j]? = some k → IsV H k v u → IsVk H ks j v u
  | [], _, _, e, _ => by simp at e
  | k' :: r, 0, k, e, h => by simp at e; subst e; simp only [IsVk]; exact h
  | k' :: r, j + 1, k, e, h => by simp only [IsVk]; exact IsVk.mk (j := j) (by simpa using e) h
theorem take_map_snoc {α β : Type} {f : α → β} {l : List α} {i : Nat} {x : α} (h : l[i]? = some x) : (l.take (i + 1)).map f = (l.take i).map f ++ [f x] := by rw [take_snoc h, List.map_append]; rfl
def isPt (H H' : Hp) (f : Str × Kd) (x : V) : Prop := ∃ (t l : Addr) (zs : List V), x = .ref t ∧ H' t = some (.tup [.str f.1, .ref l]) ∧ H' l = some (.lst zs) ∧ allP (IsV (newH H H') f.2) f.2.ful zs
theorem isPt.same {H H' H2 : Hp} {f : Str × Kd} {x : V} (e : Same H' H2) (h : isPt H H' f x) : isPt H H2 f x := by
  obtain ⟨t, l, zs, a, b, c, d⟩ := h
  exact ⟨t, l, zs, a, e _ _ b, e _ _ c, d.imp fun v x h => h.same' (newH_same e)⟩
def spFU (n : Nat) : Sp := fun vs H Q _ => ∃ (kd : Kd) (v : V), vs = [v] ∧ IsD H kd.dt v ∧ kd.Fit ∧ kd.Two ∧ kd.deep ≤ n ∧ n ≤ 5 ∧
  ∀ l ws H', Same H H' → H l = none → H' l = some (.lst ws) → allP (IsV (newH H H') kd) kd.ful ws → Q (.ref l) H'
section
variable {P : Program} {w : World} {K : PySem.W.Frag} {mg : Str → Option Value} {base : Heap} {f fFU : Addr} {fd dFU : FuncData} {n j : Nat}
set_option maxHeartbeats 16000000 in
theorem ok_fu (F : Fun K "_law_full" "_law_full" s_law_full f fd) (GFU : FnOk P w K mg base CX0 j fFU dFU ["kind"] (spFU n)) (bFU : Binds K dFU ["kind"] []) (kFU : PySem.W.keepIn K (.ref fFU) = true) (mFU : mg "_law_full" = some (.ref fFU))
    (m_range : mg "range" = none) (m_len : mg "len" = none) (m_max : mg "max" = none) (m_dict : mg "dict" = none) : FnOk P w K mg base CX0 (j + 1) f fd ["kind"] (spFU (n + 1)) := by
  refine F.ok sc_law_full (fun vs H Q E h => ?_) (fun cdv A outer s H vs Q E hr h => ?_)
  · obtain ⟨kd, v, rfl, _⟩ := h
    rfl
  obtain ⟨kd, v, rfl, hv, hfit, htwo, hdp, hn, q⟩ := h
  have n1 : ∀ {x y : Str}, (x == y) = false → ¬ (V.str x = V.str y) := fun h => str_ne h
  have hful := Kd.ful_len kd hfit
  have hf6 := six5 hdp hn
  refine ⟨_, (pss_cons (ps_if (pt_cmpR op_eq (pe_ix ix_tup (pv 0) pe_int (fun _ _ => rfl)) pe_str (nomark _)) (pss_cons (ps_set (i := 1) sc_law_full.nd rfl (Or.inl rfl) pe_int)
    (pss_cons (ps_for PassesOwn.never rfl (pi_range1 rfl m_range (pa_cons (pe_ix ix_tup (pv 0) pe_int (fun _ _ => rfl)) pa_nil)) (pg_name (i := 2) sc_law_full.nd rfl (Or.inr rfl)) (pss_one (ps_set (i := 1) sc_law_full.nd rfl (Or.inl rfl) (pe_op op_mulB pe_int (pv 1)))))
    (pss_one (ps_ret (pe_lst (pa_cons (pe_op op_sub (pv 1) pe_int) pa_nil)))))) pss_nil)
    (pss_cons (ps_if (pt_cmpR op_eq (pe_ix ix_tup (pv 0) pe_int (fun _ _ => rfl)) pe_str (nomark _)) (pss_one (ps_ret (pe_comp (dsc := defScope s_law_full) (N := ["kind", "greatest", "k", "found", "parts", "many"]) (tgs := ["one"]) (outs := [0]) (N' := ["one", "kind"]) ⟨rfl, by decide +kernel, by decide +kernel, by decide +kernel, rfl, by decide +kernel, by decide +kernel, by decide +kernel⟩ (pi_list (pe_call GFU hr rfl mFU kFU bFU .nil pass0 (pa_cons (pe_ix ix_tup (pv 0) pe_int (fun _ _ => rfl)) pa_nil))) (fun _ _ _ _ _ => (pg_name (i := 0) (show (["one", "kind"] : List Str).Nodup by decide +kernel) rfl (Or.inl rfl) (.inr rfl))) (tgt_name (by decide)) (fun _ _ _ _ _ => pcs_nil) (fun _ _ _ _ _ => (pe_op op_rep (pe_lst (pa_cons (pv 0) pa_nil)) (pe_ix (ix_tupK K) (pv 1) pe_int (fun _ _ => rfl))))))) pss_nil)
    (pss_cons (ps_if (pt_cmpR op_eq (pe_ix ix_tup (pv 0) pe_int (fun _ _ => rfl)) pe_str (nomark _)) (pss_cons (ps_set (i := 3) sc_law_full.nd rfl (Or.inl rfl) (pe_lst pa_nil))
    (pss_cons (ps_for PassesOwn.never rfl (pi_range1 rfl m_range (pa_cons (pe_callB call_len_seq rfl m_len PySem.boot_len (pa_cons (pe_ix ix_tup (pv 0) pe_int (fun _ _ => rfl)) pa_nil)) pa_nil)) (pg_name (i := 2) sc_law_full.nd rfl (Or.inr rfl)) (pss_one (ps_expr (pe_bm PySem.F.plainAttrs_list PySem.F.slot_list_extend PySem.F.type_list_extend mt_extend (pv 3) (pa_cons (pe_comp (dsc := defScope s_law_full) (N := ["kind", "greatest", "k", "found", "parts", "many"]) (tgs := ["one"]) (outs := [2]) (N' := ["one", "k"]) ⟨rfl, by decide +kernel, by decide +kernel, by decide +kernel, rfl, by decide +kernel, by decide +kernel, by decide +kernel⟩ (pi_list (pe_call GFU hr rfl mFU kFU bFU .nil pass0 (pa_cons (pe_ix ix_list (pe_ix ix_tup (pv 0) pe_int (fun _ _ => rfl)) (pv 2) (fun _ _ => rfl)) pa_nil))) (fun _ _ _ _ _ => (pg_name (i := 0) (show (["one", "k"] : List Str).Nodup by decide +kernel) rfl (Or.inl rfl) (.inr rfl))) (tgt_name (by decide)) (fun _ _ _ _ _ => pcs_nil) (fun _ _ _ _ _ => (pe_tup (pa_cons (pv 1) (pa_cons (pv 0) pa_nil))))) pa_nil)))))
    (pss_one (ps_ret (pv 3))))) pss_nil)
    (pss_cons (ps_set (i := 4) sc_law_full.nd rfl (Or.inr rfl) (pe_comp (dsc := defScope s_law_full) (N := ["kind", "greatest", "k", "found", "parts", "many"]) (tgs := ["name", "part"]) (outs := []) (N' := ["name", "part"]) ⟨rfl, by decide +kernel, by decide +kernel, by decide +kernel, rfl, by decide +kernel, by decide +kernel, by decide +kernel⟩ (pi_list (pe_ix ix_tup (pv 0) pe_int (fun _ _ => rfl))) (fun _ _ _ _ _ => (pg_tupK K (n := 2) rfl rfl (pgs_cons (pg_name (i := 0) (show (["name", "part"] : List Str).Nodup by decide +kernel) rfl (Or.inl rfl) (.inr rfl)) (pgs_cons (pg_name (i := 1) (show (["name", "part"] : List Str).Nodup by decide +kernel) rfl (Or.inl rfl) (.inr rfl)) pgs_nil)))) (tgt_tup (tgts_name (by decide) (tgts_name (by decide) tgts_nil tmono_nil) (tmono_name tmono_nil))) (fun _ _ _ _ _ => pcs_nil) (fun _ _ _ _ _ => (pe_tup (pa_cons (pv 0) (pa_cons (pe_call GFU hr rfl mFU kFU bFU .nil pass0 (pa_cons (pv 1) pa_nil)) pa_nil))))))
    (pss_cons (ps_set (i := 5) sc_law_full.nd rfl (Or.inl rfl) (pe_callB (call_maxL rfl) rfl m_max bt_max (pa_cons (pe_comp (dsc := defScope s_law_full) (N := ["kind", "greatest", "k", "found", "parts", "many"]) (tgs := ["name", "some"]) (outs := []) (N' := ["name", "some"]) ⟨rfl, by decide +kernel, by decide +kernel, by decide +kernel, rfl, by decide +kernel, by decide +kernel, by decide +kernel⟩ (pi_list (pv 4)) (fun _ _ _ _ _ => (pg_tupK K (n := 2) rfl rfl (pgs_cons (pg_name (i := 0) (show (["name", "some"] : List Str).Nodup by decide +kernel) rfl (Or.inl rfl) (.inr rfl)) (pgs_cons (pg_name (i := 1) (show (["name", "some"] : List Str).Nodup by decide +kernel) rfl (Or.inl rfl) (.inr rfl)) pgs_nil)))) (tgt_tup (tgts_name (by decide) (tgts_name (by decide) tgts_nil tmono_nil) (tmono_name tmono_nil))) (fun _ _ _ _ _ => pcs_nil) (fun _ _ _ _ _ => (pe_callB (call_lenK K) rfl m_len PySem.boot_len (pa_cons (pv 1) pa_nil)))) pa_nil)))
    (pss_one (ps_ret (pe_comp2 (dsc := defScope s_law_full) (N := ["kind", "greatest", "k", "found", "parts", "many"]) (tgs := ["k"]) (outs := [4]) (N' := ["k", "parts"]) ⟨rfl, by decide +kernel, by decide +kernel, by decide +kernel, rfl, by decide +kernel, by decide +kernel, by decide +kernel⟩ (pi_range1 rfl m_range (pa_cons (pv 5) pa_nil)) (fun _ _ _ _ _ => (pg_name (i := 0) (show (["k", "parts"] : List Str).Nodup by decide +kernel) rfl (Or.inr rfl) (.inl rfl))) (tgt_name (by decide)) (fun _ _ _ _ _ => pcs_nil) (fun _ _ _ _ _ => (pe_callTy (call_dictP rfl) rfl m_dict bt_dict (pa_cons (pe_compIn (dsc0 := defScope s_law_full) (N := ["k", "parts"]) (tgs := ["name", "some"]) (outs := [0]) (N' := ["name", "some", "k"]) (by decide +kernel) ⟨rfl, by decide +kernel, by decide +kernel, by decide +kernel, rfl, by decide +kernel, by decide +kernel, by decide +kernel⟩ (pi_listK K (pv 1)) (fun _ _ _ _ _ => (pg_tupK K (n := 2) rfl rfl (pgs_cons (pg_name (i := 0) (show (["name", "some", "k"] : List Str).Nodup by decide +kernel) rfl (Or.inl rfl) (.inr rfl)) (pgs_cons (pg_name (i := 1) (show (["name", "some", "k"] : List Str).Nodup by decide +kernel) rfl (Or.inl rfl) (.inr rfl)) pgs_nil)))) (tgt_tup (tgts_name (by decide) (tgts_name (by decide) tgts_nil tmono_nil) (tmono_name tmono_nil))) (fun _ _ _ _ _ => pcs_nil) (fun _ _ _ _ _ => (pe_tup (pa_cons (pv 0) (pa_cons (pe_ix (ix_listK K) (pv 1) (pe_op op_mod (pv 2) (pe_callB (call_lenK K) rfl m_len PySem.boot_len (pa_cons (pv 1) pa_nil))) (fun _ _ => rfl)) pa_nil))))) pa_nil))))))))))), ?_⟩
  cases kd with
  | num wd m =>
    obtain ⟨p, ys, rfl, hp, v1, r1, rfl, rfl, v2, r2, rfl, rfl, v3, r3, rfl, rfl, rfl⟩ := id hv
    obtain ⟨a1, a2, _⟩ := hfit
    refine ⟨_, rfl, p, _, _, _, rfl, rfl, SqT.of hp, rfl, rfl, _, rfl, iteDT rfl ?_⟩
    refine ⟨_, rfl, p, _, _, _, rfl, rfl, SqT.of hp, rfl, wd, rfl, by omega, by omega, ?_⟩
    refine for_range (fun i σ H' => ∃ x2, σ = [some (.ref p), some (.int (256 ^ i)), x2, none, none, none] ∧ H' = H) ⟨_, rfl, rfl⟩ (fun i σ H' hi ⟨x2, es, e⟩ => ?_) (fun σ H' ⟨x2, es, e⟩ => ?_)
    · subst es e
      have hp1 : (256 : Int) ^ i ≤ 256 ^ 8 := by
        have := Nat.pow_le_pow_right (n := 256) (by decide) (show i ≤ 8 by omega)
        exact_mod_cast this
      have hp0 : (0 : Int) ≤ 256 ^ i := Int.pow_nonneg (by decide)
      refine ⟨_, rfl, _, _, rfl, rfl, ⟨by decide, by omega⟩, some (.int (0 + (i : Int))), ?_, rfl⟩
      rw [Int.pow_succ, Int.mul_comm]
      rfl
    · subst es e
      refine ⟨_, rfl, _, _, rfl, rfl, lists3 1 (by decide), fun l hl => ?_⟩
      refine q l _ _ (same_new hl _) hl upd_same ?_
      simp only [Kd.ful]
      exact ⟨_, _, rfl, by simp only [IsV], rfl⟩
  | row k m =>
    obtain ⟨p, ys, rfl, hp, v1, r1, rfl, rfl, v2, r2, rfl, hv2, v3, r3, rfl, rfl, rfl⟩ := id hv
    have hdp' : k.deep + 1 ≤ n + 1 := hdp
    have hm := hfit.2
    refine ⟨_, rfl, p, _, _, _, rfl, rfl, SqT.of hp, rfl, rfl, _, rfl, iteND (n1 (by decide +kernel)) ?_⟩
    refine ⟨_, rfl, p, _, _, _, rfl, rfl, SqT.of hp, rfl, rfl, _, rfl, iteDT rfl ?_⟩
    refine ⟨_, rfl, p, _, _, _, rfl, rfl, SqT.of hp, rfl, k, v2, rfl, hv2, hfit.1, by simpa only [Kd.Two] using htwo, by omega, by omega, fun l ws H1 e1 hl0 hl hws => ?_⟩
    refine ⟨l, rfl, ⟨_, SqL.of hl⟩, ?_⟩
    have hwl := hws.len
    have hkl := Kd.ful_len k hfit.1
    have hk6 := six5 (d := k.deep) (n := n) (by omega) (by omega)
    refine comp_list (xs := ws) (fun i acc H' => Same H1 H' ∧ acc.length = i ∧ allP (IsV (newH H H') (.row k m)) ((k.ful.take i).map fun v => .row (List.replicate m.toNat v)) acc) (by omega) ⟨Same.refl _, rfl, rfl⟩ (fun i acc H' hi ⟨e, ea, _⟩ => ⟨SqL.of (e _ _ hl), by omega⟩) (fun i x acc H' hx ⟨e, ea, eb⟩ => ?_) (fun acc H' ⟨e, ea, eb⟩ lr hlr => ?_)
    · obtain ⟨vd, hvd, hxv⟩ := hws.get hx
      refine nameYes ?_
      refine ⟨_, rfl, lists3 1 (by decide), fun l0 hl0' => ?_⟩
      have s0 := same_new hl0' (.lst [x])
      refine ⟨_, rfl, p, _, _, _, rfl, rfl, SqT.of (s0 _ _ (e _ _ (e1 _ _ hp))), rfl, l0, m, [x], rfl, rfl, upd_same, by omega, by omega, size5 (by show 1 * _ ≤ 100000; omega), fun l3 hl3 => ?_⟩
      have s1 := same_new hl3 (.lst ((List.replicate m.toNat [x]).flatten))
      refine ⟨(e.trans s0).trans s1, by rw [List.length_append, ea]; rfl, ?_⟩
      rw [take_map_snoc hvd]
      have hl3H : H l3 = none := fresh_of e1 (fresh_of e (fresh_of s0 hl3))
      refine allP.snoc ?_ (eb.imp fun v x h => h.same' (newH_same (s0.trans s1)))
      simp only [IsV]
      refine ⟨l3, List.replicate m.toNat x, rfl, newH_of hl3H (by rw [upd_same, rep_flat]), ?_⟩
      exact all2_P.mpr (allP.rep (hxv.same' (newH_same ((e.trans s0).trans s1))) _)
    · rw [hwl, List.take_length] at eb
      refine q lr _ _ ((e1.trans e).trans (same_new hlr _)) (fresh_of e1 (fresh_of e hlr)) upd_same ?_
      simp only [Kd.ful]
      exact eb.imp fun v x h => h.same' (newH_same (same_new hlr _))
  | cho ks =>
    obtain ⟨p, ys, rfl, hp, v1, r1, rfl, rfl, v2, r2, rfl, ⟨lw, ws, rfl, hlw, hws⟩, rfl⟩ := id hv
    have hdp' : deepK ks + 1 ≤ n + 1 := hdp
    have hlws : ws.length = ks.length := by rw [hws.len, dtK_len]
    have hfl := hfit.2.2
    refine ⟨_, rfl, p, _, _, _, rfl, rfl, SqT.of hp, rfl, rfl, _, rfl, iteND (n1 (by decide +kernel)) ?_⟩
    refine ⟨_, rfl, p, _, _, _, rfl, rfl, SqT.of hp, rfl, rfl, _, rfl, iteND (n1 (by decide +kernel)) ?_⟩
    refine ⟨_, rfl, p, _, _, _, rfl, rfl, SqT.of hp, rfl, rfl, _, rfl, iteDT rfl ?_⟩
    refine ⟨lists3 0 (by decide), fun lf hlf => ?_⟩
    have s0 := same_new hlf (.lst [])
    refine ⟨_, rfl, p, _, _, _, rfl, rfl, SqT.of (s0 _ _ hp), rfl, lw, _, rfl, .inl (SqL.of (s0 _ _ hlw)), _, rfl, by omega, by omega, ?_⟩
    have hfK : (fulK 0 ks).length ≤ 7776 := by
      have : (Kd.cho ks).ful = fulK 0 ks := by simp only [Kd.ful]
      rw [← this]
      omega
    refine for_range (fun i σ H' => ∃ x2 acc, σ = [some (.ref p), none, x2, some (.ref lf), none, none] ∧ Same H H' ∧ H' lf = some (.lst acc) ∧ allP (IsV (hide lf (newH H H')) (.cho ks)) (fulK 0 (ks.take i)) acc) ⟨_, _, rfl, s0, upd_same, by rw [List.take_zero]; simp only [fulK]; rfl⟩ (fun i σ H' hi ⟨x2, acc, es, e, hl', eb⟩ => ?_) (fun σ H' ⟨x2, acc, es, e, hl', eb⟩ => ?_)
    · subst es
      have hik : i < ks.length := by omega
      have ek := List.getElem?_eq_getElem hik
      generalize ks[i] = k at ek
      have hwi : ws[i]? = some (ws[i]'(by omega)) := List.getElem?_eq_getElem (by omega)
      generalize ws[i]'(by omega) = y at hwi
      obtain ⟨k', ek', hvk'⟩ := kinds_at hws hwi
      rw [ek] at ek'
      cases ek'
      have hdk : k.deep ≤ deepK ks := (ok_at (ks := ks) (Kd.Fit.ok _ hfit).1 ek).2
      refine ⟨_, rfl, .inl ⟨rfl, _, SqL.of hl'⟩, ?_⟩
      refine ⟨_, rfl, p, _, _, _, rfl, rfl, SqT.of (e _ _ hp), rfl, _, rfl, lw, _, _, y, rfl, rfl, SqL.of (e _ _ hlw), ?_, ?_⟩
      · rw [Int.zero_add]
        exact atI_nat hwi
      refine ⟨k, y, rfl, hvk'.same e, fitK_at' hfit.1 ek, twoK_at (by have := htwo; simp only [Kd.Two] at this; exact this.2) ek, by omega, by omega, fun l2 ws2 H2 e2 hl20 hl2 hws2 => ?_⟩
      have hwl2 := hws2.len
      have hkl := Kd.ful_len k (fitK_at' hfit.1 ek)
      have hk6 := six5 (d := k.deep) (n := n) (by omega) (by omega)
      refine ⟨l2, rfl, ⟨_, SqL.of hl2⟩, ?_⟩
      have hlf2 := e2 _ _ hl'
      refine comp_list (xs := ws2) (fun c acc2 H3 => Same H2 H3 ∧ acc2.length = c ∧ allP (IsV (hide lf (newH H H3)) (.cho ks)) ((k.ful.take c).map fun v => .cho i v) acc2) (by omega) ⟨Same.refl _, rfl, rfl⟩ (fun c acc2 H3 _ ⟨e3, ea, _⟩ => ⟨SqL.of (e3 _ _ hl2), by omega⟩) (fun c x acc2 H3 hx ⟨e3, ea, eb3⟩ => ?_) (fun acc2 H3 ⟨e3, ea, eb3⟩ lr hlr => ?_)
      · obtain ⟨vd, hvd, hxv⟩ := hws2.get hx
        refine nameYes ?_
        refine ⟨_, rfl, _, rfl, lists3 2 (by decide), fun t ht => ?_⟩
        have s3 := same_new ht (.tup [.int (0 + (i : Int)), x])
        refine ⟨e3.trans s3, by rw [List.length_append, ea]; rfl, ?_⟩
        rw [take_map_snoc hvd]
        refine allP.snoc ?_ (eb3.imp fun v x h => h.same' (hide_same (newH_same s3)))
        have htH : H t = none := fresh_of (e.trans e2) (fresh_of e3 ht)
        have htl : t ≠ lf := fun z => by rw [z, e3 _ _ hlf2] at ht; cases ht
        simp only [IsV]
        refine ⟨t, x, rfl, ?_, IsVk.mk ek ?_⟩
        · rw [hide_ne htl, newH_of htH upd_same, Int.zero_add]
        · refine hxv.same' fun b o hb => ?_
          have hbl : b ≠ lf := fun z => by rw [z] at hb; have := (newH_some hb).1; rw [hl'] at this; cases this
          rw [hide_ne hbl]
          exact newH_of (fresh_of e (newH_some hb).1) (s3 _ _ (e3 _ _ (newH_some hb).2))
      · rw [hwl2, List.take_length] at eb3
        have s4 := same_new hlr (.lst acc2)
        have hacc : acc.length + acc2.length ≤ 7776 := by
          have h1 := eb.len
          have h2 := eb3.len
          have h3 : (fulK 0 (ks.take (i + 1))).length ≤ (fulK 0 ks).length := by
            have : ks = ks.take (i + 1) ++ ks.drop (i + 1) := (List.take_append_drop _ _).symm
            have e4 : ∀ (as bs : List Kd) (j : Nat), (fulK j as).length ≤ (fulK j (as ++ bs)).length := by
              intro as
              induction as with
              | nil => intro bs j; simp [fulK]
              | cons a as ih => intro bs j; simp only [List.cons_append, fulK, List.length_append]; have := ih bs (j + 1); omega
            have := e4 (ks.take (i + 1)) (ks.drop (i + 1)) 0
            rwa [List.take_append_drop] at this
          rw [take_snoc ek, fulK_snoc, List.length_append, List.length_map] at h3
          rw [List.length_map] at h2
          omega
        refine ⟨lf, lr, acc, acc2, rfl, rfl, s4 _ _ (e3 _ _ hlf2), upd_same, size5 (by omega), ?_⟩
        refine ⟨_, _, rfl, fun b o hb => ?_, upd_same, ?_⟩
        · rw [upd_ne (ne_of_none hb hlf)]
          exact s4 _ _ (e3 _ _ (e2 _ _ (e _ _ hb)))
        · rw [take_snoc ek, fulK_snoc]
          have hli : (ks.take i).length = i := by rw [List.length_take]; omega
          rw [hli, Nat.zero_add]
          have up1 : ∀ {Hx : Hp}, Same Hx (upd H3 lr (.lst acc2)) → Same (hide lf (newH H Hx)) (hide lf (newH H (upd (upd H3 lr (.lst acc2)) lf (.lst (acc ++ acc2))))) := fun {Hx} ex b o hb => by
            by_cases hbl : b = lf
            · rw [hbl] at hb; unfold hide at hb; rw [if_pos rfl] at hb; cases hb
            · rw [hide_ne hbl] at hb ⊢
              exact newH_of (newH_some hb).1 (by rw [upd_ne hbl]; exact ex _ _ (newH_some hb).2)
          exact allP.app (eb3.imp fun v x h => h.same' (up1 s4)) (eb.imp fun v x h => h.same' (up1 ((e2.trans e3).trans s4)))
    · subst es
      rw [show ((ws.length : Int)).toNat = ks.length by omega, List.take_length] at eb
      refine ⟨_, rfl, q lf _ _ e hlf hl' ?_⟩
      simp only [Kd.ful]
      exact eb.imp fun v x h => h.same' (hide_sub _ _)
  | rcd fs =>
    obtain ⟨p, ys, rfl, hp, v1, r1, rfl, rfl, v2, r2, rfl, ⟨lw, ws, rfl, hlw, hws⟩, rfl⟩ := id hv
    have hdp' : deepF fs + 1 ≤ n + 1 := hdp
    have hlws : ws.length = fs.length := by rw [hws.len, dtF_len]
    have hfl := hfit.2.2.1
    have hf1 := hfit.2.1
    have htwo' : fs ≠ [] ∧ twoF fs := by simpa only [Kd.Two] using htwo
    refine ⟨_, rfl, p, _, _, _, rfl, rfl, SqT.of hp, rfl, rfl, _, rfl, iteND (n1 (by decide +kernel)) ?_⟩
    refine ⟨_, rfl, p, _, _, _, rfl, rfl, SqT.of hp, rfl, rfl, _, rfl, iteND (n1 (by decide +kernel)) ?_⟩
    refine ⟨_, rfl, p, _, _, _, rfl, rfl, SqT.of hp, rfl, rfl, _, rfl, iteND (n1 (by decide +kernel)) ?_⟩
    refine ⟨_, rfl, p, _, _, _, rfl, rfl, SqT.of hp, rfl, lw, rfl, ⟨_, SqL.of hlw⟩, ?_⟩
    refine comp_list (xs := ws) (fun i acc H' => Same H H' ∧ acc.length = i ∧ allP (isPt H H') (fs.take i) acc) (by omega) ⟨Same.refl _, rfl, by rw [List.take_zero]; rfl⟩ (fun i acc H' _ ⟨e, ea, _⟩ => ⟨SqL.of (e _ _ hlw), by omega⟩) (fun i x acc H' hx ⟨e, ea, eb⟩ => ?_) (fun acc H' ⟨e, ea, eb⟩ lp hlp => ?_)
    · obtain ⟨g, t, vg, eg, rfl, ht, hvg⟩ := fields_at hws hx
      have hdg : g.2.deep ≤ deepF fs := (okF_at (fs := fs) (Kd.Fit.ok _ hfit).1 eg).2
      refine ⟨t, _, rfl, SqT.of (e _ _ ht), rfl, _, _, rfl, _, _, rfl, rfl, ?_⟩
      refine yesT ?_
      refine ⟨_, rfl, _, rfl, g.2, vg, rfl, hvg.same e, fitF_at' hfit.1 eg, twoF_at' htwo'.2 eg, by omega, by omega, fun l2 ws2 H2 e2 hl20 hl2 hws2 => ⟨lists3 2 (by decide), fun t2 ht2 => ?_⟩⟩
      have s2 := same_new ht2 (.tup [.str g.1, .ref l2])
      refine ⟨(e.trans e2).trans s2, by rw [List.length_append, ea]; rfl, ?_⟩
      rw [take_snoc eg]
      exact allP.snoc ⟨t2, l2, ws2, rfl, upd_same, s2 _ _ hl2, hws2.imp fun v x h => (h.same' (newH_old e)).same' (newH_same s2)⟩ (eb.imp fun f x h => isPt.same (e2.trans s2) h)
    rw [hlws, List.take_length] at eb
    have e1 := e.trans (same_new hlp (.lst acc))
    have hparts : allP (isPt H (upd H' lp (.lst acc))) fs acc := eb.imp fun f x h => isPt.same (same_new hlp _) h
    have hlp1 : (upd H' lp (.lst acc)) lp = some (.lst acc) := upd_same
    generalize upd H' lp (.lst acc) = H1 at e1 hparts hlp1
    have hal := hparts.len
    refine ⟨_, rfl, lp, rfl, ⟨_, SqL.of hlp1⟩, ?_⟩
    refine comp_list (xs := acc) (fun i acc2 H2 => Same H1 H2 ∧ acc2.length = i ∧ acc2 = (((fulF fs).take i).map fun l => V.int (l.length : Int))) (by omega) ⟨Same.refl _, rfl, by rw [List.take_zero]; rfl⟩ (fun i acc2 H2 _ ⟨e2, ea2, _⟩ => ⟨SqL.of (e2 _ _ hlp1), by omega⟩) (fun i x acc2 H2 hx ⟨e2, ea2, eb2⟩ => ?_) (fun acc2 H2 ⟨e2, ea2, eb2⟩ lm hlm => ?_)
    · obtain ⟨g, eg, t, l, zs, rfl, ht, hl, hz⟩ := hparts.get hx
      refine ⟨t, _, rfl, SqT.of (e2 _ _ ht), rfl, _, _, rfl, _, _, rfl, rfl, ?_⟩
      refine yesT ?_
      refine ⟨_, rfl, l, zs, rfl, .inl (SqL.of (e2 _ _ hl)), e2, by rw [List.length_append, ea2]; rfl, ?_⟩
      rw [take_map_snoc (fulF_at eg), eb2, hz.len]
    have hfn := fulF_len fs
    rw [hal, ← hfn, List.take_length] at eb2
    have s2 := same_new hlm (.lst acc2)
    have hne : fulF fs ≠ [] := fun z => by rw [z] at hfn; simp at hfn; omega
    refine ⟨lm, (fulF fs).map fun l => (l.length : Int), rfl, SqL.of (by rw [upd_same, eb2, List.map_map]; rfl), fun z => hne (List.map_eq_nil_iff.mp z), fun M hM hMx => ?_⟩
    have hMe : M = (mxl (fulF fs) : Int) := by
      obtain ⟨l, hl1, hl2⟩ := List.mem_map.mp hM
      have a1 := mxl_ge hl1
      have a2 : mxl (fulF fs) ≤ M.toNat := mxl_le fun l' h' => by
        have := hMx _ (List.mem_map_of_mem (f := fun l : List Vd => (l.length : Int)) h')
        omega
      omega
    subst hMe
    have hmx : mxl (fulF fs) ≤ 7776 := Nat.le_trans (mxl_le (fulF_le fs hfit.1)) (six5 (d := deepF fs) (n := n) (by omega) (by omega))
    have e3 := e2.trans s2
    generalize upd H2 lm (.lst acc2) = H3 at e3
    refine ⟨_, rfl, _, rfl, by omega, by omega, ?_⟩
    refine comp_range (n := mxl (fulF fs)) (fun i acc3 H4 => Same H3 H4 ∧ acc3.length = i ∧ allP (IsV (newH H H4) (.rcd fs)) ((List.range i).map fun t => .rcd ((fulF fs).map (nth t))) acc3) (by omega) ⟨Same.refl _, rfl, rfl⟩ (fun i acc3 H4 _ ⟨_, ea3, _⟩ => by omega) (fun i acc3 H4 hi ⟨e4, ea3, eb3⟩ => ?_) (fun acc3 H4 ⟨e4, ea3, eb3⟩ lr hlr => ?_)
    · refine nameYes ?_
      have e14 := e3.trans e4
      refine ⟨_, rfl, lp, rfl, ⟨_, SqL.of (e14 _ _ hlp1)⟩, ?_⟩
      refine comp_list (xs := acc) (fun c acc4 H5 => Same H4 H5 ∧ acc4.length = c ∧ allP (fun f x => ∃ (T : Addr) (y : V), x = .ref T ∧ H5 T = some (.tup [.str f.1, y]) ∧ IsV (newH H H5) f.2 (nth i f.2.ful) y) (fs.take c) acc4) (by omega) ⟨Same.refl _, rfl, by rw [List.take_zero]; rfl⟩ (fun c acc4 H5 _ ⟨e5, ea4, _⟩ => ⟨SqL.of (e5 _ _ (e14 _ _ hlp1)), by omega⟩) (fun c x acc4 H5 hx ⟨e5, ea4, eb4⟩ => ?_) (fun acc4 H5 ⟨e5, ea4, eb4⟩ l4 hl4 => ?_)
      · obtain ⟨g, eg, t, l, zs, rfl, ht, hl, hz⟩ := hparts.get hx
        have e15 := e14.trans e5
        have hzl := hz.len
        have hgn : g.2.ful ≠ [] := (Kd.ful_ok g.2 (Kd.Fit.ok _ (fitF_at' hfit.1 eg)) (twoF_at' htwo'.2 eg)).1
        have hgp : 0 < g.2.ful.length := List.length_pos_iff.mpr hgn
        have hnt : g.2.ful[i % g.2.ful.length]? = some (nth i g.2.ful) := by
          unfold nth
          rw [List.getD_eq_getElem?_getD, List.getElem?_eq_getElem (Nat.mod_lt _ hgp)]
          rfl
        obtain ⟨y, hy, hyv⟩ := hz.at hnt
        have hmi : (0 + (i : Int)) % (zs.length : Int) = ((i % zs.length : Nat) : Int) := by rw [Int.zero_add]; exact (Int.natCast_emod i zs.length).symm
        refine ⟨t, _, rfl, SqT.of (e15 _ _ ht), rfl, _, _, rfl, _, _, rfl, rfl, ?_⟩
        refine yesT ?_
        refine ⟨_, rfl, _, rfl, _, rfl, _, rfl, l, zs, rfl, .inl (SqL.of (e15 _ _ hl)), _, _, rfl, rfl, by omega, l, _, _, y, rfl, rfl, SqL.of (e15 _ _ hl), by rw [hmi, hzl]; exact atI_nat hy, lists3 2 (by decide), fun T hT => ?_⟩
        have s5 := same_new hT (.tup [.str g.1, y])
        refine ⟨e5.trans s5, by rw [List.length_append, ea4]; rfl, ?_⟩
        rw [take_snoc eg]
        refine allP.snoc ⟨T, y, rfl, upd_same, hyv.same' (newH_same (e15.trans s5))⟩ (eb4.imp fun f x ⟨T', y', a, b, c⟩ => ⟨T', y', a, s5 _ _ b, c.same' (newH_same s5)⟩)
      · rw [hal, List.take_length] at eb4
        have s6 := same_new hl4 (.lst acc4)
        have eb5 : allP (fun f x => ∃ (T : Addr) (y : V), x = .ref T ∧ (upd H5 l4 (.lst acc4)) T = some (.tup [.str f.1, y]) ∧ IsV (newH H (upd H5 l4 (.lst acc4))) f.2 (nth i f.2.ful) y) fs acc4 := eb4.imp fun f x ⟨T', y', a, b, c⟩ => ⟨T', y', a, s6 _ _ b, c.same' (newH_same s6)⟩
        have e16 := (e14.trans e5).trans s6
        have e46 := e5.trans s6
        have hl46 : (upd H5 l4 (.lst acc4)) l4 = some (.lst acc4) := upd_same
        generalize upd H5 l4 (.lst acc4) = H6 at eb5 e16 e46 hl46
        obtain ⟨kvs, k1, k2, k3, k4⟩ := pairs_kvs (H := H6) (g := fun f y => IsV (newH H H6) f.2 (nth i f.2.ful) y) eb5
        have hnd : (kvs.map (·.1)).Nodup := by
          rw [k2]
          have := hfit.2.2.2
          unfold List.Nodup at this ⊢
          rw [List.pairwise_map] at this ⊢
          exact this.imp fun hne z => hne (Sum.inr.inj z)
        refine ⟨l4, acc4, kvs, rfl, hl46, k1, hnd, k3, fun pd hpd => ?_⟩
        have s7 := same_new hpd (.dK kvs)
        refine ⟨(e4.trans e46).trans s7, by rw [List.length_append, ea3]; rfl, ?_⟩
        rw [List.range_succ, List.map_append]
        refine allP.snoc ?_ (eb3.imp fun v x h => h.same' (newH_same (e46.trans s7)))
        have hpdH : H pd = none := fresh_of (e1.trans e16) hpd
        have hkl : kvs.length = fs.length := by rw [k1, eb5.len]
        simp only [IsV]
        refine ⟨pd, kvs, rfl, newH_of hpdH upd_same, hkl, fun kv hkv => ?_, IsVf.mk (by rw [List.length_map, fulF_len]) fun jf f v ef ev => ?_⟩
        · have : kv.1 ∈ kvs.map (·.1) := List.mem_map_of_mem (f := fun x : Key × V => x.1) hkv
          rw [k2] at this
          obtain ⟨f, _, hf⟩ := List.mem_map.mp this
          exact ⟨f.1, hf.symm⟩
        · obtain ⟨kv, b1, b2, b3⟩ := k4 jf f ef
          have hv1 := valV_nodup hnd b1
          rw [b2] at hv1
          rw [List.getElem?_map, fulF_at ef] at ev
          cases ev
          exact ⟨kv.2, hv1, b3.same' (newH_same s7)⟩
    · refine q lr _ _ ((e1.trans (e3.trans e4)).trans (same_new hlr _)) (fresh_of (e1.trans (e3.trans e4)) hlr) upd_same ?_
      rw [ful_rcd]
      exact eb3.imp fun v x h => h.same' (newH_same (same_new hlr _))
theorem fu_none : FnOk P w K mg base CX0 j f fd ["kind"] (spFU 0) := by
  have no : ∀ vs H Q E, ¬ spFU 0 vs H Q E := fun vs H Q E h => by
    obtain ⟨kd, _, _, _, _, _, hd, _⟩ := h
    have := kd.deep_pos
    omega
  exact ⟨fun vs H Q E h => absurd h (no vs H Q E), fun A outer s H args us vs Q E _ _ _ _ h => absurd h (no vs H Q E)⟩
theorem fu_all (xFU : Fx K mg "_law_full" s_law_full ["kind"] fFU dFU) (m_range : mg "range" = none) (m_len : mg "len" = none) (m_max : mg "max" = none) (m_dict : mg "dict" = none) : ∀ n, FnOk P w K mg base CX0 n fFU dFU ["kind"] (spFU n)
  | 0 => fu_none
  | n + 1 => ok_fu xFU.F (fu_all xFU m_range m_len m_max m_dict n) xFU.b xFU.k xFU.m m_range m_len m_max m_dict
end

def natV (l : List Nat) : List V := l.map fun (n : Nat) => V.int (n : Int)
theorem natV_len (l : List Nat) : (natV l).length = l.length := List.length_map _
theorem natV_range (a b : Nat) : rangeV (a : Int) (b : Int) = natV (List.range' a (b - a)) := by
  unfold rangeV natV
  rw [List.range'_eq_map_range, List.map_map]
  have : ((b : Int) - (a : Int)).toNat = b - a := by omega
  rw [this]
  refine List.map_congr_left fun k _ => ?_
  show V.int _ = V.int _
  congr 1
theorem natV_append (a b : List Nat) : natV (a ++ b) = natV a ++ natV b := List.map_append
theorem inV_nat (i : Nat) : ∀ l : List Nat, inV (.int (i : Int)) (natV l) = l.contains i
  | [] => rfl
  | x :: l => by
    have ih := inV_nat i l
    show ((x : Int) == (i : Int) || inV (.int (i : Int)) (natV l)) = _
    rw [ih, List.contains_cons]
    congr 1
    apply bool_eq
    simp
    omega
theorem flat_nat : ∀ l : List Nat, (natV l).all flatV = true
  | [] => rfl
  | x :: l => flat_nat l
theorem sql_same {K : PySem.W.Frag} {H H' : Hp} {a : Addr} {xs : List V} (h : SqL K H a xs) (e : Same H H') : SqL K H' a xs := by
  rcases h with (h | ⟨o, h⟩) | h
  · exact .inl (.inl (e _ _ h))
  · exact .inl (.inr ⟨o, e _ _ h⟩)
  · exact .inr h

theorem hgo_bd : ∀ (l : List Bool) (p b : Nat), b ≤ p → ∀ h ∈ hgo p b l, h.1 ≤ h.2 ∧ h.2 ≤ p + l.length
  | [], p, b, hb, h, hm => by
    unfold hgo at hm
    split at hm
    · simp at hm; subst hm; simp; exact hb
    · simp at hm
  | true :: r, p, b, hb, h, hm => by
    unfold hgo at hm
    rcases List.mem_append.mp hm with hm | hm
    · split at hm
      · simp at hm; subst hm; simp; omega
      · simp at hm
    · have := hgo_bd r (p + 1) (p + 1) (Nat.le_refl _) h hm
      simp only [List.length_cons]
      omega
  | false :: r, p, b, hb, h, hm => by
    unfold hgo at hm
    have := hgo_bd r (p + 1) b (by omega) h hm
    simp only [List.length_cons]
    omega
def spread (hs : List (Nat × Nat)) : List Nat := hs.flatMap fun h => List.range' h.1 (h.2 - h.1)
theorem spread_snoc {hs : List (Nat × Nat)} {i : Nat} {h : Nat × Nat} (e : hs[i]? = some h) : spread (hs.take (i + 1)) = spread (hs.take i) ++ List.range' h.1 (h.2 - h.1) := by
  unfold spread
  rw [take_snoc e, List.flatMap_append]
  simp
theorem spread_le (hs : List (Nat × Nat)) (i : Nat) : (spread (hs.take i)).length ≤ (spread hs).length := by
  have : spread hs = spread (hs.take i) ++ spread (hs.drop i) := by
    unfold spread
    rw [← List.flatMap_append, List.take_append_drop]
  rw [this, List.length_append]
  omega
def isRow (kd : Kd) (H : Hp) (v : Vd) (x : V) : Prop := ∃ l : Addr, x = .ref l ∧ H l = some (.lst ((kd.byt v).map V.int))
theorem isRow.same {kd : Kd} {H H' : Hp} {v : Vd} {x : V} (e : Same H H') (h : isRow kd H v x) : isRow kd H' v x := by
  obtain ⟨l, a, b⟩ := h
  exact ⟨l, a, e _ _ b⟩
theorem idle_has {kd : Kd} (h : kd.Ok) {i : Nat} (hi : i < kd.rm.1.toNat) : (spread (holes kd.fil)).contains i = !(kd.bz i) := by
  have e : spread (holes kd.fil) = idleFrom 0 kd.fil := holes_idle kd.fil
  have hl := kd.fil_len h
  rw [e, idle_filter]
  apply bool_eq
  rw [List.contains_iff_mem, List.mem_filter, List.mem_range]
  constructor
  · exact fun z => z.2
  · exact fun z => ⟨by omega, z⟩
theorem all_zero {kd : Kd} (h : kd.Ok) (h2 : kd.Two) (i : Nat) : (kd.ful.all fun v => decide ((kd.byt v).getD i 0 = 0)) = !(kd.bz i) := by
  apply bool_eq
  rw [List.all_eq_true]
  constructor
  · intro z
    cases hb : kd.bz i with
    | false => rfl
    | true =>
      obtain ⟨v, hv, hne⟩ := Kd.ful_nz kd i h h2 hb
      exact absurd (of_decide_eq_true (z v hv)) hne
  · intro z v hv
    refine decide_eq_true ?_
    by_cases hne : (kd.byt v).getD i 0 = 0
    · exact hne
    · have := Kd.byt_nz kd v i h ((Kd.ful_ok kd h h2).2 v hv) hne
      rw [this] at z
      cases z
def spLaw (K : PySem.W.Frag) : Sp := fun vs H Q _ => ∃ (a : Addr) (ns : List Int), vs = [.ref a] ∧ SqL K H a (ns.map V.int) ∧ ns.length ≤ 63 ∧ ∀ H', Q (.bl true) H'
section
variable {P : Program} {w : World} {K : PySem.W.Frag} {mg : Str → Option Value} {base : Heap} {f fCE fDE fBO fTW fFU fRM fHO fBY : Addr} {fd dCE dDE dBO dTW dFU dRM dHO dBY : FuncData}
set_option maxHeartbeats 16000000 in
theorem ok_law (F : Fun K "law" "law" s_law f fd) (xCE : Fx K mg "_law_cell_at" s_law_cell_at ["script", "k"] fCE dCE) (xDE : Fx K mg "_law_deck" s_law_deck ["cell", "many"] fDE dDE) (xBO : Fx K mg "_law_bounded" s_law_bounded ["deck", "deep", "most"] fBO dBO) (xTW : Fx K mg "_law_twofold" s_law_twofold ["kind"] fTW dTW) (xFU : Fx K mg "_law_full" s_law_full ["kind"] fFU dFU) (xRM : Fx K mg "_law_room" s_law_room ["kind"] fRM dRM) (xHO : Fx K mg "holes_of" s_holes_of ["kind"] fHO dHO) (xBY : Fx K mg "bytes_of" s_bytes_of ["kind", "thing"] fBY dBY)
    (GCE : FnOk P w K mg base CX0 1 fCE dCE ["script", "k"] (spCE K)) (GDE : FnOk P w K mg base CX0 2 fDE dDE ["cell", "many"] spDE) (GBO : FnOk P w K mg base CX0 20 fBO dBO ["deck", "deep", "most"] spBO) (GTW : FnOk P w K mg base CX0 4 fTW dTW ["kind"] (spTW 4)) (GFU : FnOk P w K mg base CX0 4 fFU dFU ["kind"] (spFU 4)) (GRM : FnOk P w K mg base CX0 6 fRM dRM ["kind"] (spRM 5)) (GHO : FnOk P w K mg base CX0 22 fHO dHO ["kind"] (spHO 5)) (GBY : FnOk P w K mg base CX0 22 fBY dBY ["kind", "thing"] (spLB 4))
    (m_max : mg "max" = none) (m_min : mg "min" = none) (m_range : mg "range" = none) (m_len : mg "len" = none) (m_list : mg "list" = none) : FnOk P w K mg base CX0 30 f fd ["script"] (spLaw K) := by
  refine F.ok sc_law (fun vs H Q E h => ?_) (fun cdv A outer s H vs Q E hr h => ?_)
  · obtain ⟨a, ns, rfl, _⟩ := h
    rfl
  obtain ⟨a, ns, rfl, hS, h63, q⟩ := h
  have bCE := xCE.b
  have kCE := xCE.k
  have mCE := xCE.m
  have bDE := xDE.b
  have kDE := xDE.k
  have mDE := xDE.m
  have bBO := xBO.b
  have kBO := xBO.k
  have mBO := xBO.m
  have bTW := xTW.b
  have kTW := xTW.k
  have mTW := xTW.m
  have bFU := xFU.b
  have kFU := xFU.k
  have mFU := xFU.m
  have bRM := xRM.b
  have kRM := xRM.k
  have mRM := xRM.m
  have bHO := xHO.b
  have kHO := xHO.k
  have mHO := xHO.m
  have bBY := xBY.b
  have kBY := xBY.k
  have mBY := xBY.m
  have h1 : 1 ≤ 29 := by decide
  have h2 : 2 ≤ 29 := by decide
  have h4 : 4 ≤ 29 := by decide
  have h6 : 6 ≤ 29 := by decide
  have h20 : 20 ≤ 29 := by decide
  have h22 : 22 ≤ 29 := by decide
  refine ⟨_, (pss_cons (ps_for PassesOwn.never rfl (pi_range1 rfl m_range (pa_cons (pe_callB (call_max2 rfl) rfl m_max bt_max (pa_cons pe_int (pa_cons (pe_callB (call_min2 rfl) rfl m_min bt_min (pa_cons (pe_callB call_len_seq rfl m_len PySem.boot_len (pa_cons (pv 0) pa_nil)) (pa_cons pe_int pa_nil))) pa_nil))) pa_nil)) (pg_name (i := 1) sc_law.nd rfl (Or.inl rfl)) (pss_cons (ps_set (i := 2) sc_law.nd rfl (Or.inr rfl) (pe_call GTW (hr.mono h4) rfl mTW kTW bTW .nil pass0 (pa_cons (pe_call GBO (hr.mono h20) rfl mBO kBO bBO .nil pass0 (pa_cons (pe_call GDE (hr.mono h2) rfl mDE kDE bDE .nil pass0 (pa_cons (pe_call GCE (hr.mono h1) rfl mCE kCE bCE .nil pass0 (pa_cons (pv 0) (pa_cons (pv 1) pa_nil))) (pa_cons pe_int pa_nil))) (pa_cons pe_int (pa_cons pe_int pa_nil)))) pa_nil)))
    (pss_cons (ps_setC (i := 3) sc_law.nd rfl rfl (dsc := defScope s_law) (N := ["script", "k", "kind", "rows", "room", "idle", "low", "high", "at", "met"]) (tgs := ["value"]) (outs := [2]) (N' := ["value", "kind"]) ⟨rfl, by decide +kernel, by decide +kernel, by decide +kernel, rfl, by decide +kernel, by decide +kernel, by decide +kernel⟩ (pi_list (pe_call GFU (hr.mono h4) rfl mFU kFU bFU .nil pass0 (pa_cons (pv 2) pa_nil))) (fun _ _ _ _ _ => (pg_name (i := 0) (show (["value", "kind"] : List Str).Nodup by decide +kernel) rfl (Or.inl rfl) (.inr rfl))) (tgt_name (by decide)) (fun _ _ _ _ _ => pcs_nil) (fun _ _ _ _ _ => (pe_call GBY (hr.mono h22) rfl mBY kBY bBY .nil pass0 (pa_cons (pv 1) (pa_cons (pv 0) pa_nil)))))
    (pss_cons (ps_set (i := 4) sc_law.nd rfl (Or.inr rfl) (pe_ix ix_tup (pe_call GRM (hr.mono h6) rfl mRM kRM bRM .nil pass0 (pa_cons (pv 2) pa_nil)) pe_int (fun _ _ => rfl)))
    (pss_cons (ps_set (i := 5) sc_law.nd rfl (Or.inl rfl) (pe_lst pa_nil))
    (pss_cons (ps_for PassesOwn.never rfl (pi_list (pe_call GHO (hr.mono h22) rfl mHO kHO bHO .nil pass0 (pa_cons (pv 2) pa_nil))) (pg_tup rfl (pgs_cons (pg_name (i := 6) sc_law.nd rfl (Or.inl rfl)) (pgs_cons (pg_name (i := 7) sc_law.nd rfl (Or.inl rfl)) pgs_nil))) (pss_one (ps_expr (pe_bm PySem.F.plainAttrs_list PySem.F.slot_list_extend PySem.F.type_list_extend mt_extend (pv 5) (pa_cons (pe_listRange rfl rfl m_list rfl m_range (pa_cons (pv 6) (pa_cons (pv 7) pa_nil))) pa_nil)))))
    (pss_cons (ps_if (pt_cmpR (op_neNil (Nat.lt_of_le_of_lt (Nat.le_add_right _ 64) hr.units)) (pe_comp (dsc := defScope s_law) (N := ["script", "k", "kind", "rows", "room", "idle", "low", "high", "at", "met"]) (tgs := ["row"]) (outs := [4]) (N' := ["row", "room"]) ⟨rfl, by decide +kernel, by decide +kernel, by decide +kernel, rfl, by decide +kernel, by decide +kernel, by decide +kernel⟩ (pi_list (pv 3)) (fun _ _ _ _ _ => (pg_name (i := 0) (show (["row", "room"] : List Str).Nodup by decide +kernel) rfl (Or.inl rfl) (.inr rfl))) (tgt_name (by decide)) (fun _ _ _ _ _ => (pcs_one (pt_cmpR op_ne (pe_callB (call_lenK K) rfl m_len PySem.boot_len (pa_cons (pv 0) pa_nil)) (pv 1) (nomark _)))) (fun _ _ _ _ _ => (pv 0))) (pe_lst pa_nil) (nomark _)) (pss_one (ps_ret pe_bl)) pss_nil)
    (pss_one (ps_for PassesOwn.never rfl (pi_range1 rfl m_range (pa_cons (pv 4) pa_nil)) (pg_name (i := 8) sc_law.nd rfl (Or.inr rfl)) (pss_cons (ps_setC (i := 9) sc_law.nd rfl rfl (dsc := defScope s_law) (N := ["script", "k", "kind", "rows", "room", "idle", "low", "high", "at", "met"]) (tgs := ["row"]) (outs := [8]) (N' := ["row", "at"]) ⟨rfl, by decide +kernel, by decide +kernel, by decide +kernel, rfl, by decide +kernel, by decide +kernel, by decide +kernel⟩ (pi_list (pv 3)) (fun _ _ _ _ _ => (pg_name (i := 0) (show (["row", "at"] : List Str).Nodup by decide +kernel) rfl (Or.inl rfl) (.inr rfl))) (tgt_name (by decide)) (fun _ _ _ _ _ => (pcs_one (pt_cmpR op_ne (pe_ix (ix_listK K) (pv 0) (pv 1) (fun _ _ => rfl)) pe_int (nomark _)))) (fun _ _ _ _ _ => (pv 0)))
    (pss_one (ps_if (pt_cmpR op_ne (pe_cmpR (op_eqNil (Nat.lt_of_le_of_lt (Nat.le_add_right _ 64) hr.units)) (pv 9) (pe_lst pa_nil) (nomark _)) (pe_cmpR op_in_seq (pv 8) (pv 5) (by with_unfolding_all rfl)) (nomark _)) (pss_one (ps_ret pe_bl)) pss_nil))))))))))))
    (pss_one (ps_ret pe_bl))), ?_⟩
  have hl : (ns.map V.int).length = ns.length := List.length_map _
  refine ⟨_, rfl, a, _, rfl, .inl hS, _, _, rfl, _, _, rfl, _, rfl, ?_, ?_, ?_⟩
  · rw [hl]; split <;> (try split) <;> omega
  · rw [hl]; split <;> (try split) <;> omega
  refine for_range (fun i σ H => ∃ x1 x2 x3 x4 x5 x6 x7 x8 x9, σ = [some (.ref a), x1, x2, x3, x4, x5, x6, x7, x8, x9] ∧ SqL K H a (ns.map V.int)) ⟨_, _, _, _, _, _, _, _, _, rfl, hS⟩ (fun i σ H hi hP => ?_) (fun σ H hP => ?_)
  · obtain ⟨x1, x2, x3, x4, x5, x6, x7, x8, x9, rfl, hS⟩ := hP
    refine ⟨_, rfl, _, rfl, a, ns, _, rfl, hS, by omega, fun cell => ⟨cell, 90, rfl, by decide, by decide, fun p H1 hp e1 hP1 => ?_⟩⟩
    refine ⟨p, 4, 120, rfl, hP1, by decide, by decide, by decide, fun kd0 v0 H2 e2 hD hF0 hdp0 hrm0 hP2 => ?_⟩
    have hv0 : IsD H2 kd0.dt v0 := hD.same (hide_sub _ _)
    have hS2 : SqL K H2 a (ns.map V.int) := seq_x hS hp ((SameX.of e1).trans e2)
    refine ⟨kd0, v0, rfl, hv0, hF0, by omega, by decide, fun v H3 e3 hv3 => ?_⟩
    have hF := Kd.dbl_fit kd0 hF0
    have hT2 := Kd.dbl_two kd0 hF0
    have hdp : kd0.dbl.deep ≤ 4 := by rw [Kd.dbl_deep]; omega
    have hrm : kd0.dbl.rm.1 ≤ 120 := by rw [Kd.dbl_rm]; exact hrm0
    have hS3 := sql_same hS2 e3
    clear hv0 hD hF0 hdp0 hrm0
    generalize kd0.dbl = kd at hv3 hF hT2 hdp hrm
    have hok := Kd.Fit.ok kd hF
    have hfu := Kd.Fit.full kd hF
    have hpo := Kd.Fit.po kd hF
    have hbd := kd.bd hok
    have hrm0 : 0 ≤ kd.rm.1 := hbd.1
    have hlen := kd.fil_len hok
    have hfn := Kd.ful_len kd hF
    have hf6 := six5 (d := kd.deep) (n := 4) hdp (by decide)
    have hvals := (Kd.ful_ok kd hok hT2).2
    refine ⟨_, rfl, kd, v, rfl, hv3, hF, hT2, hdp, by decide, fun lv vv H4 e4 hlv0 hlv hvv => ?_⟩
    have hv4 := hv3.same e4
    have hS4 := sql_same hS3 e4
    have hvl := hvv.len
    refine ⟨lv, rfl, ⟨_, SqL.of hlv⟩, ?_⟩
    refine comp_list (xs := vv) (fun c acc H' => Same H4 H' ∧ acc.length = c ∧ allP (isRow kd H') (kd.ful.take c) acc) (by omega) ⟨Same.refl _, rfl, by rw [List.take_zero]; rfl⟩ (fun c acc H' _ ⟨e, ea, _⟩ => ⟨SqL.of (e _ _ hlv), by omega⟩) (fun c x acc H' hx ⟨e, ea, eb⟩ => ?_) (fun acc H' ⟨e, ea, eb⟩ lr hlr => ?_)
    · obtain ⟨vd, hvd, hxv⟩ := hvv.get hx
      refine nameYes ?_
      refine ⟨_, rfl, _, rfl, kd, vd, v, x, rfl, hv4.same e, (hxv.same' (newH_sub _ _)).same' e, hok, hpo, hvals vd (List.mem_of_getElem? hvd), hdp, by decide, by omega, fun l2 H5 e5 hl20 hl2 => ⟨e.trans e5, by rw [List.length_append, ea]; rfl, ?_⟩⟩
      rw [take_snoc hvd]
      exact allP.snoc ⟨l2, rfl, hl2⟩ (eb.imp fun v x h => h.same e5)
    rw [hvl, List.take_length] at eb
    have e5 := e.trans (same_new hlr (.lst acc))
    have hrows : allP (isRow kd (upd H' lr (.lst acc))) kd.ful acc := eb.imp fun v x h => h.same (same_new hlr _)
    have hlr5 : (upd H' lr (.lst acc)) lr = some (.lst acc) := upd_same
    generalize upd H' lr (.lst acc) = H5 at e5 hrows hlr5
    have hv5 := hv4.same e5
    have hS5 := sql_same hS4 e5
    have hal := hrows.len
    refine ⟨_, rfl, kd, v, rfl, hv5, hok, hfu, by omega, by decide, fun rp H6 e6 hrp => ⟨rp, _, _, _, rfl, rfl, SqT.of hrp, rfl, ?_⟩⟩
    have hv6 := hv5.same e6
    have hS6 := sql_same hS5 e6
    have hrows6 : allP (isRow kd H6) kd.ful acc := hrows.imp fun v x h => h.same e6
    have hlr6 := e6 _ _ hlr5
    refine ⟨lists3 0 (by decide), fun li hli => ?_⟩
    have s7 := same_new hli (.lst [])
    refine ⟨_, rfl, kd, v, rfl, hv6.same s7, hok, hpo, by omega, by decide, by omega, fun lh zs H7 e7 hlh0 hlh hzs => ?_⟩
    have e67 := s7.trans e7
    have hli7 : H7 li = some (.lst (natV (spread ((holes kd.fil).take 0)))) := e7 _ _ upd_same
    have hlhl : lh ≠ li := fun z => by rw [z, upd_same] at hlh0; cases hlh0
    have hzl : zs.length = (holes kd.fil).length := by rw [hzs.len]; unfold hoD; rw [List.length_map]
    have hsp : (spread (holes kd.fil)).length ≤ 120 := by
      have e : spread (holes kd.fil) = idleFrom 0 kd.fil := holes_idle kd.fil
      rw [e, idle_filter]
      have := List.length_filter_le (fun i => !(kd.bz i)) (List.range kd.fil.length)
      rw [List.length_range] at this
      omega
    refine ⟨lh, rfl, ⟨_, SqL.of hlh⟩, ?_⟩
    refine for_list (xs := zs) (fun c σ H' => ∃ x6 x7, σ = [some (.ref a), some (.int (0 + (i : Int))), some v, some (.ref lr), some (.int kd.rm.1), some (.ref li), x6, x7, x8, x9] ∧ SameX li H7 H' ∧ H' li = some (.lst (natV (spread ((holes kd.fil).take c))))) ⟨_, _, rfl, SameX.of (Same.refl _), hli7⟩
      (fun c σ H' _ ⟨x6, x7, es, e, hl'⟩ => SqL.of (e.get hlhl hlh)) (fun c x σ H' hx ⟨x6, x7, es, e, hl'⟩ => ?_) (fun σ H' ⟨x6, x7, es, e, hl'⟩ => ?_)
    · subst es
      obtain ⟨d, ed, hdx⟩ := hzs.get hx
      have hc : c < (holes kd.fil).length := by have := (List.getElem?_eq_some_iff.mp hx).1; omega
      have eh := List.getElem?_eq_getElem hc
      generalize (holes kd.fil)[c] = hh at eh
      have ed' : (hoD (holes kd.fil))[c]? = some (.tup [.int (hh.1 : Int), .int (hh.2 : Int)]) := by unfold hoD; rw [List.getElem?_map, eh]; rfl
      rw [ed'] at ed
      cases ed
      obtain ⟨t, us, rfl, ht, a1, b1, rfl, rfl, a2, b2, rfl, rfl, rfl⟩ := hdx
      have ht7 : H7 t = some (.tup [.int (hh.1 : Int), .int (hh.2 : Int)]) := hide_sub _ _ _ _ ht
      have htl : t ≠ li := fun z => by rw [z, hli7] at ht7; cases ht7
      obtain ⟨q1, q2⟩ := hgo_bd kd.fil 0 0 (Nat.le_refl _) hh (List.mem_of_getElem? eh)
      refine ⟨t, _, rfl, SqT.of (e.get htl ht7), rfl, _, _, rfl, _, _, rfl, rfl, ?_⟩
      refine ⟨_, rfl, .inl ⟨rfl, _, SqL.of hl'⟩, ?_⟩
      refine ⟨_, rfl, _, rfl, _, _, rfl, by omega, by omega, by omega, by omega, fun l3 hl3 => ?_⟩
      have s8 := same_new hl3 (.lst (rangeV (hh.1 : Int) (hh.2 : Int)))
      have hl3l : l3 ≠ li := fun z => by rw [z, hl'] at hl3; cases hl3
      have hsz := spread_le (holes kd.fil) (c + 1)
      rw [spread_snoc eh, List.length_append] at hsz
      refine ⟨li, l3, _, _, rfl, rfl, s8 _ _ hl', upd_same, ?_, ?_⟩
      · rw [natV_range, natV_len, natV_len]
        exact size5 (by omega)
      · refine ⟨_, _, rfl, (e.trans (SameX.of s8)).trans (SameX.upd _ _ _), ?_⟩
        rw [upd_same, natV_range, spread_snoc eh, natV_append]
    subst es
    rw [hzl, List.take_length] at hl'
    have e6' : Same H6 H' := fun b o hb => e.get (ne_of_none hb hli) (e67 _ _ hb)
    have hS8 := sql_same hS6 e6'
    have hrows8 : allP (isRow kd H') kd.ful acc := hrows6.imp fun v x h => h.same e6'
    have hlr8 := e6' _ _ hlr6
    clear e hrows6 hrows
    have hbl : ∀ v ∈ kd.ful, (kd.byt v).length = kd.rm.1.toNat := fun v hv => kd.byt_len (hvals v hv)
    refine ⟨_, rfl, lr, rfl, ⟨_, SqL.of hlr8⟩, ?_⟩
    refine comp_list (xs := acc) (fun c acc2 H8 => Same H' H8 ∧ acc2 = []) (by omega) ⟨Same.refl _, rfl⟩ (fun c acc2 H8 _ ⟨e8, ea8⟩ => ⟨SqL.of (e8 _ _ hlr8), by rw [ea8]; exact Nat.zero_le _⟩) (fun c x acc2 H8 hx ⟨e8, ea8⟩ => ?_) (fun acc2 H8 ⟨e8, ea8⟩ l8 hl8 => ?_)
    · obtain ⟨vd, hvd, l, rfl, hlx⟩ := hrows8.get hx
      refine ⟨_, rfl, l, _, rfl, .inl (SqL.of (e8 _ _ hlx)), _, rfl, rfl, _, rfl, iteNe ?_ ⟨e8, ea8⟩⟩
      rw [List.length_map, hbl vd (List.mem_of_getElem? hvd), Int.toNat_of_nonneg hbd.1]
    subst ea8
    have s9 := same_new hl8 (.lst [])
    refine ⟨lists3 0 (by decide), fun l9 hl9 => ⟨l8, l9, _, rfl, rfl, SqL.of (same_new hl9 _ _ _ upd_same), SqL.of upd_same, _, rfl, iteF ?_⟩⟩
    have e9 := (e8.trans s9).trans (same_new hl9 (.lst []))
    generalize upd (upd H8 l8 (.lst [])) l9 (.lst []) = H9 at e9
    refine ⟨_, rfl, _, rfl, by omega, by omega, ?_⟩
    refine for_range (fun c σ H10 => ∃ x1 x2 x6 x7 x8 x9, σ = [some (.ref a), x1, x2, some (.ref lr), some (.int kd.rm.1), some (.ref li), x6, x7, x8, x9] ∧ Same H9 H10) ⟨_, _, _, _, _, _, rfl, Same.refl _⟩ (fun c σ H10 hc ⟨x1, x2, x6, x7, x8, x9, es, e10⟩ => ?_) (fun σ H10 ⟨x1, x2, x6, x7, x8, x9, es, e10⟩ => ?_)
    · subst es
      have e90 := e9.trans e10
      have hc' : c < kd.rm.1.toNat := hc
      refine ⟨_, rfl, lr, rfl, ⟨_, SqL.of (e90 _ _ hlr8)⟩, ?_⟩
      refine comp_list (xs := acc) (fun d acc2 H11 => Same H10 H11 ∧ acc2.length ≤ d ∧ acc2.isEmpty = (kd.ful.take d).all fun v => decide ((kd.byt v).getD c 0 = 0)) (by omega) ⟨Same.refl _, Nat.le_refl _, rfl⟩ (fun d acc2 H11 _ ⟨e11, ea11, _⟩ => ⟨SqL.of (e11 _ _ (e90 _ _ hlr8)), ea11⟩) (fun d x acc2 H11 hx ⟨e11, ea11, eb11⟩ => ?_) (fun acc2 H11 ⟨e11, ea11, eb11⟩ lm hlm => ?_)
      · obtain ⟨vd, hvd, l, rfl, hlx⟩ := hrows8.get hx
        have hll := hbl vd (List.mem_of_getElem? hvd)
        have hge : (kd.byt vd)[c]? = some ((kd.byt vd).getD c 0) := by rw [List.getD_eq_getElem?_getD, List.getElem?_eq_getElem (by omega)]; rfl
        have hat : atI ((kd.byt vd).map V.int) (0 + (c : Int)) = some (.int ((kd.byt vd).getD c 0)) := by
          rw [Int.zero_add]
          exact atI_nat (by rw [List.getElem?_map, hge]; rfl)
        have ts : (kd.ful.take (d + 1)).all (fun v => decide ((kd.byt v).getD c 0 = 0)) = ((kd.ful.take d).all (fun v => decide ((kd.byt v).getD c 0 = 0)) && decide ((kd.byt vd).getD c 0 = 0)) := by rw [take_snoc hvd, List.all_append]; simp
        refine ⟨_, rfl, _, rfl, l, _, _, _, rfl, rfl, SqL.of (e11 _ _ (e90 _ _ hlx)), hat, rfl, _, rfl, ?_⟩
        by_cases hz : (kd.byt vd).getD c 0 = 0
        · refine iteNe (by rw [hz]) ⟨e11, Nat.le_succ_of_le ea11, ?_⟩
          rw [ts, eb11, decide_eq_true hz, Bool.and_true]
        · have hne : ¬ (V.int ((kd.byt vd).getD c 0) = V.int 0) := fun z => hz (by injection z)
          rw [decide_eq_false hne]
          refine iteT ⟨_, rfl, e11, by rw [List.length_append]; exact Nat.succ_le_succ ea11, ?_⟩
          rw [ts, decide_eq_false hz, Bool.and_false]
          simp
      · rw [hal, List.take_length, all_zero hok hT2] at eb11
        have s11 := same_new hlm (.lst acc2)
        refine ⟨_, rfl, lists3 0 (by decide), fun l0 hl0 => ⟨lm, l0, _, rfl, rfl, SqL.of (same_new hl0 _ _ _ upd_same), SqL.of upd_same, ?_⟩⟩
        have s12 := same_new hl0 (.lst [])
        have hli12 := s12 _ _ (s11 _ _ (e11 _ _ (e90 _ _ hl')))
        refine ⟨_, rfl, _, rfl, li, _, rfl, .inl (SqL.of hli12), rfl, flat_nat _, rfl, _, rfl, iteNe ?_ ?_⟩
        · rw [eb11]
          show V.bl _ = V.bl (inV (.int (0 + (c : Int))) (natV (spread (holes kd.fil))))
          rw [Int.zero_add, inV_nat, idle_has hok hc']
        · exact ⟨_, _, _, _, _, _, rfl, ((e10.trans e11).trans s11).trans s12⟩
    · subst es
      exact ⟨_, _, _, _, _, _, _, _, _, rfl, sql_same hS8 (e9.trans e10)⟩
  · exact q H
end

theorem mkTw : Nat.ble 1 PySem.Challenge.pw_laidfields_k09_whole_idle_bytes_are_noug.main.body.length = true := by k_qdec
def asgV (s : Stmt) : Option V := match s with
  | .Assign _ (.Constant (.int i) _ _) _ => some (.int i)
  | .Assign _ (.Constant (.str x) _ _) _ => some (.str x)
  | _ => none
def litV (e : Expr) : Option V := match e with
  | .Constant (.int i) _ _ => some (.int i)
  | _ => none
def asgT (s : Stmt) : Option (List (Option V)) := match s with
  | .Assign _ (.Tuple es _ _) _ => some (es.map litV)
  | _ => none
def seenF (p : Program) (K : PySem.W.Frag) : List FO × List Bool × List (Option V) × List (Option (List (Option V))) := ([1, 2, 3, 4, 5, 6, 7, 8, 9, 10, 11, 13, 14, 15, 16, 17, 18, 19, 26, 27, 28, 29, 30, 31, 32, 33, 35, 36, 37, 38, 39, 40, 41, 42, 43, 44, 45, 46].map fun i => obsDef K (defName (topOf p i)), bltNs.map (obsNo K), [24, 25].map fun i => obsVal K (defName (topOf p i)), [].map fun i => obsTup K (defName (topOf p i)))
def seenV (p : Program) : List FO × List Bool × List (Option V) × List (Option (List (Option V))) := ([1, 2, 3, 4, 5, 6, 7, 8, 9, 10, 11, 13, 14, 15, 16, 17, 18, 19, 26, 27, 28, 29, 30, 31, 32, 33, 35, 36, 37, 38, 39, 40, 41, 42, 43, 44, 45, 46].map fun i => expDef (topOf p i), List.replicate 17 true, [24, 25].map fun i => asgV (topOf p i), [].map fun i => asgT (topOf p i))
theorem once_top : ∀ w : World, onceSeen PySem.W.topRun treeTable importedModules (fun m s => PySem.W.openSeen (PySem.W.view PySem.Challenge.pw_laidfields_k09_whole_idle_bytes_are_noug [1, 2, 3, 4, 5, 6, 7, 8, 9, 10, 11, 13, 14, 15, 16, 17, 18, 19, 21, 22, 24, 25, 26, 27, 28, 29, 30, 31, 32, 33, 35, 36, 37, 38, 39, 40, 41, 42, 43, 44, 45, 46]) [] m (fun s => PySem.W.xlAt (PySem.W.view PySem.Challenge.pw_laidfields_k09_whole_idle_bytes_are_noug [1, 2, 3, 4, 5, 6, 7, 8, 9, 10, 11, 13, 14, 15, 16, 17, 18, 19, 21, 22, 24, 25, 26, 27, 28, 29, 30, 31, 32, 33, 35, 36, 37, 38, 39, 40, 41, 42, 43, 44, 45, 46]) [] s && PySem.W.recOk [] s) true s) PySem.Challenge.pw_laidfields_k09_whole_idle_bytes_are_noug 3292 (seenF PySem.Challenge.pw_laidfields_k09_whole_idle_bytes_are_noug) w = fun _ => some (true, PySem.W.openGood (PySem.W.view PySem.Challenge.pw_laidfields_k09_whole_idle_bytes_are_noug [1, 2, 3, 4, 5, 6, 7, 8, 9, 10, 11, 13, 14, 15, 16, 17, 18, 19, 21, 22, 24, 25, 26, 27, 28, 29, 30, 31, 32, 33, 35, 36, 37, 38, 39, 40, 41, 42, 43, 44, 45, 46]) [], seenV PySem.Challenge.pw_laidfields_k09_whole_idle_bytes_are_noug) := by
  have _ := mkTw
  rw [PySem.W.Fast.te17414468076985358654, PySem.W.Fast.te14082659384304107361, PySem.W.Fast.te14364793385576792824, PySem.W.Fast.te5923862056798008813, PySem.W.Fast.te4187177175401517315]
  exact fun w => by kernel_rfl
theorem left_top : PySem.W.LeftO PySem.Challenge.pw_laidfields_k09_whole_idle_bytes_are_noug (PySem.W.view PySem.Challenge.pw_laidfields_k09_whole_idle_bytes_are_noug [1, 2, 3, 4, 5, 6, 7, 8, 9, 10, 11, 13, 14, 15, 16, 17, 18, 19, 21, 22, 24, 25, 26, 27, 28, 29, 30, 31, 32, 33, 35, 36, 37, 38, 39, 40, 41, 42, 43, 44, 45, 46]) [] (fun s => PySem.W.xlAt (PySem.W.view PySem.Challenge.pw_laidfields_k09_whole_idle_bytes_are_noug [1, 2, 3, 4, 5, 6, 7, 8, 9, 10, 11, 13, 14, 15, 16, 17, 18, 19, 21, 22, 24, 25, 26, 27, 28, 29, 30, 31, 32, 33, 35, 36, 37, 38, 39, 40, 41, 42, 43, 44, 45, 46]) [] s && PySem.W.recOk [] s) (exHook (seenF PySem.Challenge.pw_laidfields_k09_whole_idle_bytes_are_noug) (seenV PySem.Challenge.pw_laidfields_k09_whole_idle_bytes_are_noug)).obs (exHook (seenF PySem.Challenge.pw_laidfields_k09_whole_idle_bytes_are_noug) (seenV PySem.Challenge.pw_laidfields_k09_whole_idle_bytes_are_noug)).val 3292 true := left_once (by decide) (by kernel_rfl) (fun s => by kernel_rfl) once_top
theorem mem_map_eq {α : Type} {f g : Nat → α} : ∀ {l : List Nat}, l.map f = l.map g → ∀ i, i ∈ l → f i = g i := fun h i hi => List.map_inj_left.mp h i hi
theorem binds_law {K : PySem.W.Frag} {f : Addr} {fd : FuncData} (F : Fun K "law" "law" s_law f fd) (s : Shared) (v : Value) : BindsTo s fd ⟨[v], []⟩ [("script", v)] := by
  obtain ⟨oc, od, kV, doc, pm, an, cdv, ct, osl, rfl, _⟩ := F.ex
  exact .of_eq rfl
theorem all_mk {l : PySem.W.OpenLaw} {w : World} {K : PySem.W.Frag} {mg : Str → Option Value} {fa : Addr} {h : Heap} (hK : seenF PySem.Challenge.pw_laidfields_k09_whole_idle_bytes_are_noug K = seenV PySem.Challenge.pw_laidfields_k09_whole_idle_bytes_are_noug) (X : K.In h) (G : h.Ns mainGlobals mg) (hfa : mg "law" = some (.ref fa)) :
    ∃ fd : FuncData, (∀ (s : Shared) (v : Value), BindsTo s fd ⟨[v], []⟩ [("script", v)]) ∧ ∀ base : Heap, K.In base → base.Ns mainGlobals mg → FnOk l.prog w K mg base CX0 30 fa fd ["script"] (spLaw K) := by
  have hd := mem_map_eq (f := fun i => obsDef K (defName (topOf PySem.Challenge.pw_laidfields_k09_whole_idle_bytes_are_noug i))) (g := fun i => expDef (topOf PySem.Challenge.pw_laidfields_k09_whole_idle_bytes_are_noug i)) (l := [1, 2, 3, 4, 5, 6, 7, 8, 9, 10, 11, 13, 14, 15, 16, 17, 18, 19, 26, 27, 28, 29, 30, 31, 32, 33, 35, 36, 37, 38, 39, 40, 41, 42, 43, 44, 45, 46]) (congrArg (fun x => x.1) hK)
  have hn : bltNs.map (obsNo K) = List.replicate 17 true := congrArg (fun x => x.2.1) hK
  have hc := mem_map_eq (f := fun i => obsVal K (defName (topOf PySem.Challenge.pw_laidfields_k09_whole_idle_bytes_are_noug i))) (g := fun i => asgV (topOf PySem.Challenge.pw_laidfields_k09_whole_idle_bytes_are_noug i)) (l := [24, 25]) (congrArg (fun x => x.2.2.1) hK)
  obtain ⟨f1, d1, a1, F1⟩ := obsDef_ex (hd 1 (by decide))
  have x_is_whole : Fx K mg "is_whole" s_is_whole ["thing"] f1 d1 := ⟨F1, binds1 F1 (fun _ _ _ _ _ _ _ => rfl), F1.kp, PySem.W.mg_of X G a1⟩
  obtain ⟨f2, d2, a2, F2⟩ := obsDef_ex (hd 2 (by decide))
  have x_rounded_up : Fx K mg "rounded_up" s_rounded_up ["number", "m"] f2 d2 := ⟨F2, binds2 F2 (fun _ _ _ _ _ _ _ _ => rfl), F2.kp, PySem.W.mg_of X G a2⟩
  obtain ⟨f3, d3, a3, F3⟩ := obsDef_ex (hd 3 (by decide))
  have x_room_of : Fx K mg "room_of" s_room_of ["kind"] f3 d3 := ⟨F3, binds1 F3 (fun _ _ _ _ _ _ _ => rfl), F3.kp, PySem.W.mg_of X G a3⟩
  obtain ⟨f4, d4, a4, F4⟩ := obsDef_ex (hd 4 (by decide))
  have x_rooms_of : Fx K mg "rooms_of" s_rooms_of ["kinds"] f4 d4 := ⟨F4, binds1 F4 (fun _ _ _ _ _ _ _ => rfl), F4.kp, PySem.W.mg_of X G a4⟩
  obtain ⟨f5, d5, a5, F5⟩ := obsDef_ex (hd 5 (by decide))
  have x_greatest_multiple : Fx K mg "greatest_multiple" s_greatest_multiple ["rooms"] f5 d5 := ⟨F5, binds1 F5 (fun _ _ _ _ _ _ _ => rfl), F5.kp, PySem.W.mg_of X G a5⟩
  obtain ⟨f6, d6, a6, F6⟩ := obsDef_ex (hd 6 (by decide))
  have x_step_of : Fx K mg "step_of" s_step_of ["room"] f6 d6 := ⟨F6, binds1 F6 (fun _ _ _ _ _ _ _ => rfl), F6.kp, PySem.W.mg_of X G a6⟩
  obtain ⟨f7, d7, a7, F7⟩ := obsDef_ex (hd 7 (by decide))
  have x_room_of_row : Fx K mg "room_of_row" s_room_of_row ["kind", "n"] f7 d7 := ⟨F7, binds2 F7 (fun _ _ _ _ _ _ _ _ => rfl), F7.kp, PySem.W.mg_of X G a7⟩
  obtain ⟨f8, d8, a8, F8⟩ := obsDef_ex (hd 8 (by decide))
  have x_room_of_record : Fx K mg "room_of_record" s_room_of_record ["kinds"] f8 d8 := ⟨F8, binds1 F8 (fun _ _ _ _ _ _ _ => rfl), F8.kp, PySem.W.mg_of X G a8⟩
  obtain ⟨f9, d9, a9, F9⟩ := obsDef_ex (hd 9 (by decide))
  have x_places_behind : Fx K mg "places_behind" s_places_behind ["rooms"] f9 d9 := ⟨F9, binds1 F9 (fun _ _ _ _ _ _ _ => rfl), F9.kp, PySem.W.mg_of X G a9⟩
  obtain ⟨f10, d10, a10, F10⟩ := obsDef_ex (hd 10 (by decide))
  have x_room_of_choice : Fx K mg "room_of_choice" s_room_of_choice ["kinds"] f10 d10 := ⟨F10, binds1 F10 (fun _ _ _ _ _ _ _ => rfl), F10.kp, PySem.W.mg_of X G a10⟩
  obtain ⟨f11, d11, a11, F11⟩ := obsDef_ex (hd 11 (by decide))
  have x_chosen_at : Fx K mg "chosen_at" s_chosen_at ["multiple"] f11 d11 := ⟨F11, binds1 F11 (fun _ _ _ _ _ _ _ => rfl), F11.kp, PySem.W.mg_of X G a11⟩
  obtain ⟨f13, d13, a13, F13⟩ := obsDef_ex (hd 13 (by decide))
  have x_places_in_order : Fx K mg "places_in_order" s_places_in_order ["fields"] f13 d13 := ⟨F13, binds1 F13 (fun _ _ _ _ _ _ _ => rfl), F13.kp, PySem.W.mg_of X G a13⟩
  obtain ⟨f14, d14, a14, F14⟩ := obsDef_ex (hd 14 (by decide))
  have x_holes_of : Fx K mg "holes_of" s_holes_of ["kind"] f14 d14 := ⟨F14, binds1 F14 (fun _ _ _ _ _ _ _ => rfl), F14.kp, PySem.W.mg_of X G a14⟩
  obtain ⟨f15, d15, a15, F15⟩ := obsDef_ex (hd 15 (by decide))
  have x_filled_bytes : Fx K mg "filled_bytes" s_filled_bytes ["kind"] f15 d15 := ⟨F15, binds1 F15 (fun _ _ _ _ _ _ _ => rfl), F15.kp, PySem.W.mg_of X G a15⟩
  obtain ⟨f16, d16, a16, F16⟩ := obsDef_ex (hd 16 (by decide))
  have x_filled_step : Fx K mg "filled_step" s_filled_step ["kind"] f16 d16 := ⟨F16, binds1 F16 (fun _ _ _ _ _ _ _ => rfl), F16.kp, PySem.W.mg_of X G a16⟩
  obtain ⟨f17, d17, a17, F17⟩ := obsDef_ex (hd 17 (by decide))
  have x_filled_record : Fx K mg "filled_record" s_filled_record ["kind"] f17 d17 := ⟨F17, binds1 F17 (fun _ _ _ _ _ _ _ => rfl), F17.kp, PySem.W.mg_of X G a17⟩
  obtain ⟨f18, d18, a18, F18⟩ := obsDef_ex (hd 18 (by decide))
  have x_filled_choice : Fx K mg "filled_choice" s_filled_choice ["kind"] f18 d18 := ⟨F18, binds1 F18 (fun _ _ _ _ _ _ _ => rfl), F18.kp, PySem.W.mg_of X G a18⟩
  obtain ⟨f19, d19, a19, F19⟩ := obsDef_ex (hd 19 (by decide))
  have x_fill : Fx K mg "fill" s_fill ["filled", "place", "kind"] f19 d19 := ⟨F19, binds3 F19 (fun _ _ _ _ _ _ _ _ _ => rfl), F19.kp, PySem.W.mg_of X G a19⟩
  obtain ⟨f26, d26, a26, F26⟩ := obsDef_ex (hd 26 (by decide))
  have x_is_value : Fx K mg "is_value" s_is_value ["kind", "thing"] f26 d26 := ⟨F26, binds2 F26 (fun _ _ _ _ _ _ _ _ => rfl), F26.kp, PySem.W.mg_of X G a26⟩
  obtain ⟨f27, d27, a27, F27⟩ := obsDef_ex (hd 27 (by decide))
  have x_is_row_value : Fx K mg "is_row_value" s_is_row_value ["kind", "n", "thing"] f27 d27 := ⟨F27, binds3 F27 (fun _ _ _ _ _ _ _ _ _ => rfl), F27.kp, PySem.W.mg_of X G a27⟩
  obtain ⟨f28, d28, a28, F28⟩ := obsDef_ex (hd 28 (by decide))
  have x_is_record_value : Fx K mg "is_record_value" s_is_record_value ["fields", "thing"] f28 d28 := ⟨F28, binds2 F28 (fun _ _ _ _ _ _ _ _ => rfl), F28.kp, PySem.W.mg_of X G a28⟩
  obtain ⟨f29, d29, a29, F29⟩ := obsDef_ex (hd 29 (by decide))
  have x_is_choice_value : Fx K mg "is_choice_value" s_is_choice_value ["kinds", "thing"] f29 d29 := ⟨F29, binds2 F29 (fun _ _ _ _ _ _ _ _ => rfl), F29.kp, PySem.W.mg_of X G a29⟩
  obtain ⟨f30, d30, a30, F30⟩ := obsDef_ex (hd 30 (by decide))
  have x_bytes_of : Fx K mg "bytes_of" s_bytes_of ["kind", "thing"] f30 d30 := ⟨F30, binds2 F30 (fun _ _ _ _ _ _ _ _ => rfl), F30.kp, PySem.W.mg_of X G a30⟩
  obtain ⟨f31, d31, a31, F31⟩ := obsDef_ex (hd 31 (by decide))
  have x_laid_bytes : Fx K mg "laid_bytes" s_laid_bytes ["kind", "value"] f31 d31 := ⟨F31, binds2 F31 (fun _ _ _ _ _ _ _ _ => rfl), F31.kp, PySem.W.mg_of X G a31⟩
  obtain ⟨f32, d32, a32, F32⟩ := obsDef_ex (hd 32 (by decide))
  have x_number_bytes : Fx K mg "number_bytes" s_number_bytes ["w", "value"] f32 d32 := ⟨F32, binds2 F32 (fun _ _ _ _ _ _ _ _ => rfl), F32.kp, PySem.W.mg_of X G a32⟩
  obtain ⟨f33, d33, a33, F33⟩ := obsDef_ex (hd 33 (by decide))
  have x_lay : Fx K mg "lay" s_lay ["laid", "place", "some"] f33 d33 := ⟨F33, binds3 F33 (fun _ _ _ _ _ _ _ _ _ => rfl), F33.kp, PySem.W.mg_of X G a33⟩
  obtain ⟨f35, d35, a35, F35⟩ := obsDef_ex (hd 35 (by decide))
  have x__law_cell_at : Fx K mg "_law_cell_at" s_law_cell_at ["script", "k"] f35 d35 := ⟨F35, binds2 F35 (fun _ _ _ _ _ _ _ _ => rfl), F35.kp, PySem.W.mg_of X G a35⟩
  obtain ⟨f36, d36, a36, F36⟩ := obsDef_ex (hd 36 (by decide))
  have x__law_stir : Fx K mg "_law_stir" s_law_stir ["cell", "k"] f36 d36 := ⟨F36, binds2 F36 (fun _ _ _ _ _ _ _ _ => rfl), F36.kp, PySem.W.mg_of X G a36⟩
  obtain ⟨f37, d37, a37, F37⟩ := obsDef_ex (hd 37 (by decide))
  have x__law_deck : Fx K mg "_law_deck" s_law_deck ["cell", "many"] f37 d37 := ⟨F37, binds2 F37 (fun _ _ _ _ _ _ _ _ => rfl), F37.kp, PySem.W.mg_of X G a37⟩
  obtain ⟨f38, d38, a38, F38⟩ := obsDef_ex (hd 38 (by decide))
  have x__law_next : Fx K mg "_law_next" s_law_next ["deck"] f38 d38 := ⟨F38, binds1 F38 (fun _ _ _ _ _ _ _ => rfl), F38.kp, PySem.W.mg_of X G a38⟩
  obtain ⟨f39, d39, a39, F39⟩ := obsDef_ex (hd 39 (by decide))
  have x__law_names : Fx K mg "_law_names" s_law_names ["deck", "many"] f39 d39 := ⟨F39, binds2 F39 (fun _ _ _ _ _ _ _ _ => rfl), F39.kp, PySem.W.mg_of X G a39⟩
  obtain ⟨f40, d40, a40, F40⟩ := obsDef_ex (hd 40 (by decide))
  have x__law_kind : Fx K mg "_law_kind" s_law_kind ["deck", "deep"] f40 d40 := ⟨F40, binds2 F40 (fun _ _ _ _ _ _ _ _ => rfl), F40.kp, PySem.W.mg_of X G a40⟩
  obtain ⟨f41, d41, a41, F41⟩ := obsDef_ex (hd 41 (by decide))
  have x__law_up : Fx K mg "_law_up" s_law_up ["number", "m"] f41 d41 := ⟨F41, binds2 F41 (fun _ _ _ _ _ _ _ _ => rfl), F41.kp, PySem.W.mg_of X G a41⟩
  obtain ⟨f42, d42, a42, F42⟩ := obsDef_ex (hd 42 (by decide))
  have x__law_room : Fx K mg "_law_room" s_law_room ["kind"] f42 d42 := ⟨F42, binds1 F42 (fun _ _ _ _ _ _ _ => rfl), F42.kp, PySem.W.mg_of X G a42⟩
  obtain ⟨f43, d43, a43, F43⟩ := obsDef_ex (hd 43 (by decide))
  have x__law_bounded : Fx K mg "_law_bounded" s_law_bounded ["deck", "deep", "most"] f43 d43 := ⟨F43, binds3 F43 (fun _ _ _ _ _ _ _ _ _ => rfl), F43.kp, PySem.W.mg_of X G a43⟩
  obtain ⟨f44, d44, a44, F44⟩ := obsDef_ex (hd 44 (by decide))
  have x__law_twofold : Fx K mg "_law_twofold" s_law_twofold ["kind"] f44 d44 := ⟨F44, binds1 F44 (fun _ _ _ _ _ _ _ => rfl), F44.kp, PySem.W.mg_of X G a44⟩
  obtain ⟨f45, d45, a45, F45⟩ := obsDef_ex (hd 45 (by decide))
  have x__law_full : Fx K mg "_law_full" s_law_full ["kind"] f45 d45 := ⟨F45, binds1 F45 (fun _ _ _ _ _ _ _ => rfl), F45.kp, PySem.W.mg_of X G a45⟩
  obtain ⟨f46, d46, a46, F46⟩ := obsDef_ex (hd 46 (by decide))
  have x_law : Fx K mg "law" s_law ["script"] f46 d46 := ⟨F46, binds1 F46 (fun _ _ _ _ _ _ _ => rfl), F46.kp, PySem.W.mg_of X G a46⟩
  have m_isinstance : mg "isinstance" = none := PySem.W.mg_none_of X G (no_of hn 0 (by decide) (by rfl))
  have m_int : mg "int" = none := PySem.W.mg_none_of X G (no_of hn 1 (by decide) (by rfl))
  have m_bool : mg "bool" = none := PySem.W.mg_none_of X G (no_of hn 2 (by decide) (by rfl))
  have m_list : mg "list" = none := PySem.W.mg_none_of X G (no_of hn 3 (by decide) (by rfl))
  have m_len : mg "len" = none := PySem.W.mg_none_of X G (no_of hn 4 (by decide) (by rfl))
  have m_str : mg "str" = none := PySem.W.mg_none_of X G (no_of hn 5 (by decide) (by rfl))
  have m_tuple : mg "tuple" = none := PySem.W.mg_none_of X G (no_of hn 6 (by decide) (by rfl))
  have m_all : mg "all" = none := PySem.W.mg_none_of X G (no_of hn 7 (by decide) (by rfl))
  have m_dict : mg "dict" = none := PySem.W.mg_none_of X G (no_of hn 8 (by decide) (by rfl))
  have m_max : mg "max" = none := PySem.W.mg_none_of X G (no_of hn 9 (by decide) (by rfl))
  have m_min : mg "min" = none := PySem.W.mg_none_of X G (no_of hn 10 (by decide) (by rfl))
  have m_range : mg "range" = none := PySem.W.mg_none_of X G (no_of hn 11 (by decide) (by rfl))
  have m_zip : mg "zip" = none := PySem.W.mg_none_of X G (no_of hn 12 (by decide) (by rfl))
  have m_enumerate : mg "enumerate" = none := PySem.W.mg_none_of X G (no_of hn 13 (by decide) (by rfl))
  obtain ⟨_, c_HOW_MANY_BYTES, r_HOW_MANY_BYTES⟩ := obsVal_ex (x := .int 256) (hc 24 (by decide))
  obtain ⟨_, rfl⟩ := r_HOW_MANY_BYTES
  obtain ⟨_, c_BITS_OF_A_BYTE, r_BITS_OF_A_BYTE⟩ := obsVal_ex (x := .int 8) (hc 25 (by decide))
  obtain ⟨_, rfl⟩ := r_BITS_OF_A_BYTE
  have x_vconsts : VConsts mg := ⟨⟨_, PySem.W.mg_of X G c_HOW_MANY_BYTES⟩, ⟨_, PySem.W.mg_of X G c_BITS_OF_A_BYTE⟩⟩
  have e := hfa.symm.trans x_law.m
  cases e
  refine ⟨d46, fun s v => binds_law x_law.F s v, fun base _ _ => ?_⟩
  exact have GRO : ∀ n, FnOk l.prog w K mg base CX0 (2 + 3 * n) _ _ ["kind"] (spRO n) := fun n => ro_all x_rounded_up x_room_of x_rooms_of x_greatest_multiple x_step_of x_room_of_row x_room_of_record x_places_behind x_room_of_choice x_chosen_at m_max m_zip n
    have GPO : ∀ n, FnOk l.prog w K mg base CX0 (4 + 3 * n) _ _ ["fields"] (spPO n) := fun n => (ok_po x_places_in_order.F (ok_pb x_places_behind.F (ok_ru x_rounded_up.F) x_rounded_up.b x_rounded_up.k x_rounded_up.m) x_places_behind.b x_places_behind.k x_places_behind.m (ok_rs x_rooms_of.F (GRO n) x_room_of.b x_room_of.k x_room_of.m) x_rooms_of.b x_rooms_of.k x_rooms_of.m m_zip (by omega)).mono (by omega)
    have GFB : FnOk l.prog w K mg base CX0 21 _ _ ["kind"] (spFB 5) := fb_all x_filled_bytes x_filled_step x_filled_record x_filled_choice x_fill x_step_of x_room_of x_places_in_order x_chosen_at (ok_so x_step_of.F (ok_ru x_rounded_up.F) x_rounded_up.b x_rounded_up.k x_rounded_up.m) (ok_ca x_chosen_at.F (ok_ru x_rounded_up.F) x_rounded_up.b x_rounded_up.k x_rounded_up.m) GRO GPO m_zip m_enumerate 5
    have GSO := ok_so (P := l.prog) (w := w) (base := base) x_step_of.F (ok_ru x_rounded_up.F) x_rounded_up.b x_rounded_up.k x_rounded_up.m
    have GCA := ok_ca (P := l.prog) (w := w) (base := base) x_chosen_at.F (ok_ru x_rounded_up.F) x_rounded_up.b x_rounded_up.k x_rounded_up.m
    have GLB : FnOk l.prog w K mg base CX0 18 _ _ ["kind", "value"] (spLB 4) := lb_all x_laid_bytes x_number_bytes x_lay x_room_of x_step_of x_places_in_order x_chosen_at x_vconsts GSO GCA GRO GPO m_zip m_enumerate m_range 4
    have GIV : FnOk l.prog w K mg base CX0 9 _ _ ["kind", "thing"] (spIV 4) := iv_all x_is_value x_is_whole x_is_row_value x_is_record_value x_is_choice_value x_vconsts m_isinstance m_int m_bool m_list m_tuple m_dict m_str m_len m_all 4
    have GBY : FnOk l.prog w K mg base CX0 22 _ _ ["kind", "thing"] (spLB 4) := (ok_by x_bytes_of.F GIV x_is_value.b x_is_value.k x_is_value.m GLB x_laid_bytes.b x_laid_bytes.k x_laid_bytes.m (by decide)).mono (by decide)
    ok_law x_law.F x__law_cell_at x__law_deck x__law_bounded x__law_twofold x__law_full x__law_room x_holes_of x_bytes_of (ok_ce x__law_cell_at.F m_len) (ok_de x__law_deck.F (ok_st x__law_stir.F) x__law_stir.b x__law_stir.k x__law_stir.m m_range)
    (ok_bo x__law_bounded.F (ki_all x__law_kind x__law_next x__law_names m_range m_list m_zip m_len 5) x__law_kind.b x__law_kind.k x__law_kind.m (rm_all x__law_room x__law_up m_max 5) x__law_room.b x__law_room.k x__law_room.m (ok_nx x__law_next.F) x__law_next.b x__law_next.k x__law_next.m (by decide) (by decide))
    (tw_all x__law_twofold m_int m_len 4) (fu_all x__law_full m_range m_len m_max m_dict 4) (rm_all x__law_room x__law_up m_max 5)
    (ok_ho x_holes_of.F GFB x_filled_bytes.b x_filled_bytes.k x_filled_bytes.m m_enumerate m_len) GBY m_max m_min m_range m_len m_list
def lawRec : DefRec := match s_law with
  | .FunctionDef n a b _ _ _ sc _ _ pos => ⟨n, a, b, sc, pos⟩
  | _ => ⟨⟨#[]⟩, ⟨[], [], none, [], [], none, []⟩, [], defScope s_law, ⟨0, 0, 0, 0⟩⟩
end Lf
open PySem PySem.W PyProof.Rows
set_option maxRecDepth 100000 in
set_option maxHeartbeats 0 in
theorem PySem.Challenge.cw_laidfields_k09_whole_idle_bytes_are_noug_holds : PySem.Challenge.rw_laidfields_k09_whole_idle_bytes_are_noug.Holds := by
  w_on; o_law
  refine holds_open (d := Lf.lawRec) (kwd := []) (XP := XL (PySem.W.view PySem.Challenge.pw_laidfields_k09_whole_idle_bytes_are_noug [1, 2, 3, 4, 5, 6, 7, 8, 9, 10, 11, 13, 14, 15, 16, 17, 18, 19, 21, 22, 24, 25, 26, 27, 28, 29, 30, 31, 32, 33, 35, 36, 37, 38, 39, 40, 41, 42, 43, 44, 45, 46]) []) Lf.left_top (Hook.of (L2.exHook (Lf.seenF PySem.Challenge.pw_laidfields_k09_whole_idle_bytes_are_noug) (Lf.seenV PySem.Challenge.pw_laidfields_k09_whole_idle_bytes_are_noug))) (Hook.keeps (L2.exHook (Lf.seenF PySem.Challenge.pw_laidfields_k09_whole_idle_bytes_are_noug) (Lf.seenV PySem.Challenge.pw_laidfields_k09_whole_idle_bytes_are_noug))) (fun s e => xl_of s (Bool.and_eq_true_iff.mp e).1) XL.keeps (by kernel_rfl) (by kernel_rfl) (by kernel_rfl) (fun s e => recFacts_of (Bool.and_eq_true_iff.mp e).2) (by rfl) (by assumption) (by decide +kernel) ⟨rfl, rfl, rfl, rfl, rfl, by decide +kernel⟩ ?hw ?hc
  case hw => w_witness2
  case hc => exact L2.walk_ex (l := PySem.Challenge.rw_laidfields_k09_whole_idle_bytes_are_noug) (n := 63) (k := 30) (x := "script") (CX := L2.CX0) (sp := Lf.spLaw) rfl (by decide) (by rfl) ⟨rfl, by decide, by decide⟩ (fun w K mg fa h hK X G hfa => Lf.all_mk hK X G hfa) (fun K H a ns hl _ hS => ⟨a, ns, rfl, hS, hl, fun _ => rfl⟩) (fun _ _ _ _ z => z)
#print axioms PySem.Challenge.cw_laidfields_k09_whole_idle_bytes_are_noug_holds
