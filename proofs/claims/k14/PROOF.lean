import PyProof.Rows.All
import Wide.All
import OpenK.AllK
import Wide.FinOn
import PyProof.EqAt
import PyProof.EqKinds
import PyProof.TupleCall
import KE.BitLaws
import PyProof.Rows.SortShellAny
import PyProof.ReprReads
import PyProof.WalksEnum
import KE.KRevSl
import KE.KRegrown
import PyProof.GenCompD
import PyProof.Rows.SumGenA
import PyProof.Rows.ZipGen
import KE.KItemsList
import PyProof.ListRange
import KE.KSortTupUse
import PyProof.WalkInts
import PyProof.Draws
import PyProof.DictCompW
import PyProof.Rows.CompDC
import OpenK.KOwn
import KE.KIsAll
import PyProof.ExcArgsOwn
import PyProof.ExcAttrAll.ValueError
import PySem.Challenge.RW_stretchleast_k14_parts_refused
set_option Elab.async false
set_option linter.all false
set_option maxRecDepth 100000
namespace L2
open PySem PySem.Spec PyProof.Rows

/-- a key: an int or a str -/
abbrev Key := Sum Int Str
def keyIs : Key → Value → Bool
  | .inl k, v => Value.isInt k v
  | .inr x, v => Value.isStrOf x v
def keyH (w : World) : Key → Int
  | .inl k => hashInt k
  | .inr x => hashStr w x
theorem keyIs_shape : ∀ {k : Key} {v : Value}, keyIs k v = true → (∃ i t, k = Sum.inl i ∧ v = Value.int i t) ∨ (∃ x t, k = Sum.inr x ∧ v = Value.str x t)
  | .inl i, v, h => by
    obtain ⟨t, e⟩ := Value.isInt_shape (k := i) (v := v) h
    exact .inl ⟨i, t, rfl, e⟩
  | .inr x, v, h => by
    obtain ⟨t, e⟩ := Value.isStrOf_shape (x := x) (v := v) h
    exact .inr ⟨x, t, rfl, e⟩
theorem key_ll (a b : Int) : decide ((Sum.inl a : Key) = Sum.inl b) = (a == b) := by
  by_cases e : a = b
  · subst e; simp
  · have h : ¬ (Sum.inl a : Key) = Sum.inl b := fun q => e (Sum.inl.inj q)
    rw [decide_eq_false h]
    exact (beq_eq_false_iff_ne.mpr e).symm
theorem key_rr (a b : Str) : decide ((Sum.inr a : Key) = Sum.inr b) = decide (a = b) := by
  by_cases e : a = b
  · subst e; simp
  · have h : ¬ (Sum.inr a : Key) = Sum.inr b := fun q => e (Sum.inr.inj q)
    rw [decide_eq_false h, decide_eq_false e]
theorem key_lr (a : Int) (b : Str) : decide ((Sum.inl a : Key) = Sum.inr b) = false := decide_eq_false (fun q => nomatch q)
theorem key_rl (a : Str) (b : Int) : decide ((Sum.inr a : Key) = Sum.inl b) = false := decide_eq_false (fun q => nomatch q)

def mixKind (prog : Program) (w : World) : PySem.KeyKind prog w Key where
  is := keyIs
  hash := keyH w
  inj := fun v a b ha hb => by
    rcases keyIs_shape ha with ⟨i, t, rfl, rfl⟩ | ⟨x, t, rfl, rfl⟩
    · rcases keyIs_shape hb with ⟨j, u, rfl, e⟩ | ⟨y, u, rfl, e⟩
      · injection e with e1 _; rw [e1]
      · exact nomatch e
    · rcases keyIs_shape hb with ⟨j, u, rfl, e⟩ | ⟨y, u, rfl, e⟩
      · exact nomatch e
      · injection e with e1 _; rw [e1]
  byValue := fun k v h => by
    rcases keyIs_shape h with ⟨i, t, rfl, rfl⟩ | ⟨x, t, rfl, rfl⟩ <;> rfl
  pyHash := fun hv h => by
    rcases keyIs_shape hv with ⟨i, t, rfl, rfl⟩ | ⟨x, t, rfl, rfl⟩
    · exact wpAny_pyHash_int h
    · exact wpAny_pyHash_str h
  eqBool := fun hu hv h => by
    rcases keyIs_shape hu with ⟨i, t, rfl, rfl⟩ | ⟨x, t, rfl, rfl⟩
    · rcases keyIs_shape hv with ⟨j, u, rfl, rfl⟩ | ⟨y, u, rfl, rfl⟩
      · rw [key_ll] at h; exact wpAny_eqBool_int h
      · rw [key_lr] at h; exact SeqAt.EqAt.int_str i t y u _ _ _ _ h
    · rcases keyIs_shape hv with ⟨j, u, rfl, rfl⟩ | ⟨y, u, rfl, rfl⟩
      · rw [key_rl] at h; exact SeqAt.EqAt.str_int x t j u _ _ _ _ h
      · rw [key_rr] at h; exact wpAny_eqBool_str h
  «strs» := fun k x t v h => by
    rcases keyIs_shape h with ⟨i, u, rfl, e⟩ | ⟨y, u, rfl, e⟩
    · exact nomatch e
    · injection e with e1 _
      subst e1
      cases v <;> rfl

end L2

namespace L2
open PySem PySem.Spec PyProof.Rows

/-- a value, without the heap -/
inductive V where
  | non | bl (b : Bool) | int (i : Int) | str (x : Str) | byt (b : Array UInt8) | flt (b : UInt64) | ref (a : Addr) | ty (n : String)
  deriving DecidableEq

def RelV : V → Value → Prop
  | .non, u => u = Value.none
  | .bl b, u => u = Value.bool b
  | .int i, u => ∃ t, u = Value.int i t
  | .str x, u => ∃ t, u = Value.str x t
  | .byt b, u => ∃ t, u = Value.bytes b t
  | .flt b, u => ∃ t, u = Value.float b t
  | .ref a, u => u = Value.ref a
  | .ty n, u => u = Value.type n

abbrev Vals : List V → List Value → Prop := Paired RelV
theorem Vals.length {xs : List V} {us : List Value} (r : Vals xs us) : xs.length = us.length := Paired.length r
theorem Vals.get : ∀ {xs : List V} {us : List Value} {i : Nat} {x : V}, Vals xs us → xs[i]? = some x → ∃ u, us[i]? = some u ∧ RelV x u
  | _, _, _, _, .nil, e => by simp at e
  | _, _, 0, _, .cons r _, e => by simp at e; subst e; exact ⟨_, rfl, r⟩
  | _, _, i + 1, x, .cons _ t, e => by
    obtain ⟨u, h1, h2⟩ := Vals.get (i := i) (x := x) t (by simpa using e)
    exact ⟨u, by simpa using h1, h2⟩
theorem Vals.set {x : V} {u : Value} (r : RelV x u) : ∀ {xs : List V} {us : List Value} (i : Nat), Vals xs us → Vals (xs.set i x) (us.set i u)
  | _, _, _, .nil => .nil
  | _, _, 0, .cons _ t => .cons r t
  | _, _, i + 1, .cons q t => .cons q (Vals.set r i t)
theorem Vals.append : ∀ {xs ys : List V} {us ws : List Value}, Vals xs us → Vals ys ws → Vals (xs ++ ys) (us ++ ws)
  | _, _, _, _, .nil, s => s
  | _, _, _, _, .cons r t, s => .cons r (Vals.append t s)
theorem Vals.take : ∀ {xs : List V} {us : List Value} (n : Nat), Vals xs us → Vals (xs.take n) (us.take n)
  | _, _, 0, _ => .nil
  | _, _, _ + 1, .nil => .nil
  | _, _, n + 1, .cons r t => .cons r (Vals.take n t)
theorem Vals.drop : ∀ {xs : List V} {us : List Value} (n : Nat), Vals xs us → Vals (xs.drop n) (us.drop n)
  | _, _, 0, r => r
  | _, _, _ + 1, .nil => .nil
  | _, _, n + 1, .cons _ t => Vals.drop n t
theorem Vals.none_of : ∀ {xs : List V} {us : List Value} {i : Nat}, Vals xs us → xs[i]? = none → us[i]? = none := fun {xs us i} r e => by
  have h1 := r.length
  have h2 : xs.length ≤ i := List.getElem?_eq_none_iff.mp e
  exact List.getElem?_eq_none_iff.mpr (by omega)

def RelO : Option V → Option Value → Prop
  | some v, some u => RelV v u
  | none, none => True
  | _, _ => False
def KV {κ : Type} : List (κ × V) → List (κ × Value) → Prop := Paired fun (p : κ × V) (q : κ × Value) => p.1 = q.1 ∧ RelV p.2 q.2

/-- a key of a dict (00_mix): an int or a text -/
def kV : Key → V
  | .inl i => .int i
  | .inr x => .str x

/-- what stands at a tracked address -/
inductive HO where
  /-- a list -/
  | lst (xs : List V)
  /-- a tuple (never changes) -/
  | tup (xs : List V)
  /-- a dict whose keys are ints and texts; one whose keys are tuples of ints and texts (the empty one is both) -/
  | dK (kvs : List (Key × V)) | dT (kvs : List (List Key × V))
  /-- a set of ints: its members, its size -/
  | set (S : Int → Bool) (n : Nat)
  /-- an instance of the class at C, its dict at dx, its attributes -/
  | ins (C dx : Addr) (fs : List (Str × V))
  /-- the dict of the instance at x -/
  | own (x : Addr)
  /-- the dict of an exception -/
  | xd (fs : List (Str × V))
  /-- a bound method, f of x -/
  | met (f x : Addr)
  /-- a range object lo, lo + 1, .. below hi -/
  | rng (lo hi : Int)
  /-- a thing that is known to the object (the script; a dict while a loop walks it): read, never written while it is so -/
  | frz (o : Obj) (u : HO)
  /-- a code object's table -/
  | tbl (ps : Array Value)
  /-- any other thing, by what is true of its one object (a def of one's own: SetO a S n := HO.ext fun h => ..) -/
  | ext (φ : Heap → Prop)

abbrev Hp := Addr → Option HO
def upd (H : Hp) (a : Addr) (o : HO) : Hp := fun b => if b = a then some o else H b
theorem upd_same {H : Hp} {a : Addr} {o : HO} : upd H a o a = some o := by unfold upd; rw [if_pos rfl]
theorem upd_ne {H : Hp} {a b : Addr} {o : HO} (h : b ≠ a) : upd H a o b = H b := by unfold upd; rw [if_neg h]
/-- two objects of different content stand apart -/
theorem ne_of {H : Hp} {a b : Addr} {o u : HO} (h : H a = some o) (h' : H b = some u) (d : o ≠ u) : a ≠ b := by
  intro e; subst e; rw [h] at h'; exact d (Option.some.inj h')
theorem ne_of_none {H : Hp} {a b : Addr} {o : HO} (h : H a = some o) (h' : H b = none) : a ≠ b := by
  intro e; subst e; rw [h] at h'; cases h'

section
variable (P : Program) (w : World)
def ObjOk (H : Hp) (h : Heap) (a : Addr) : HO → Prop
  | .lst xs => xs.length ≤ sizeLine ∧ ∃ (its : List Value) (n : Nat), Vals xs its ∧ h.get? a = some { cls := .type "list", data := .seq its.toArray n }
  | .tup xs => xs.length ≤ sizeLine ∧ ∃ its : List Value, Vals xs its ∧ IsTup h a its.toArray
  | .dK kvs => kvs.length ≤ sizeLine ∧ (a == sysModules) = false ∧ ∃ vs, KV kvs vs ∧ h.DictOf (mixKind P w) a vs
  | .dT kvs => kvs.length ≤ sizeLine ∧ (a == sysModules) = false ∧ ∃ xs : List (List Key × Addr × Value),
      Paired (fun (p : List Key × V) (q : List Key × Addr × Value) => p.1 = q.1 ∧ H q.2.1 = some (.tup (p.1.map kV)) ∧ RelV p.2 q.2.2) kvs xs ∧
      ∃ o es ep, h.get? a = some o ∧ o.ExactDict ∧ o.data = .dict es ep ∧ es.toList = xs.map (entryOfKey (tupleKind (mixKind P w))) ∧ (xs.map (·.1)).Nodup
  | .set S n => h.SetOf (intKind P w) a S n
  | .ins C dx fs => H dx = some (.own a) ∧ fs.length ≤ 1000 ∧ dx ≠ a ∧ h.get? a = some (PySem.W.instObj C dx) ∧
      ∃ mA, h.Ns1 dx mA ∧ (∀ f, RelO (fs.lookup f) (mA f)) ∧ PySem.Within mA (fs.map (·.1))
  | .own _ => ∃ o, h.get? a = some o
  | .xd fs => ∃ mA, h.Ns1 a mA ∧ ∀ f, RelO (fs.lookup f) (mA f)
  | .rng lo hi => ∃ t u v, h.get? a = some { cls := .type "range", data := .fields #[.int lo t, .int hi u, .int 1 v] }
  | .frz o u => h.get? a = some o ∧ ObjOk H h a u
  | .tbl ps => h.get? a = some { cls := .none, data := .fields ps } ∧ TriplesOk ps.toList
  | .met f x => h.get? a = some (PySem.W.methodObj (.ref f) (.ref x))
  | .ext φ => φ h ∧ (∃ o, h.get? a = some o) ∧ ∀ h1 h2 : Heap, φ h1 → (∀ o, h1.get? a = some o → h2.get? a = some o) → φ h2
/-- the abstract heap is held -/
def HOk (H : Hp) (h : Heap) : Prop := ∀ a o, H a = some o → ObjOk P w H h a o
end

section
variable {P : Program} {w : World} {H H' : Hp} {h h' : Heap} {a : Addr} {o : HO}
theorem ObjOk.lt (x : ObjOk P w H h a o) : a < h.objs.size := by
  cases o with
  | lst xs => obtain ⟨_, _, _, _, e⟩ := x; exact Heap.lt_size e
  | tup xs => obtain ⟨_, _, _, p⟩ := x; exact p.lt
  | dK kvs => obtain ⟨_, _, _, _, o, _, _, e, _⟩ := x; exact Heap.lt_size e
  | dT kvs => obtain ⟨_, _, _, _, o, _, _, e, _⟩ := x; exact Heap.lt_size e
  | set S n => obtain ⟨o, _, _, _, e, _⟩ := x; exact Heap.lt_size e
  | ins C dx fs => obtain ⟨_, _, _, e, _⟩ := x; exact Heap.lt_size e
  | own y => obtain ⟨_, e⟩ := x; exact Heap.lt_size e
  | xd fs => obtain ⟨_, ⟨_, _, _, e, _⟩, _⟩ := x; exact Heap.lt_size e
  | rng lo hi => obtain ⟨_, _, _, e⟩ := x; exact Heap.lt_size e
  | frz ob u => obtain ⟨e, _⟩ := x; exact Heap.lt_size e
  | tbl ps => exact Heap.lt_size (show h.get? a = some _ from (show _ ∧ _ from x).1)
  | met f y => exact Heap.lt_size (show h.get? a = some _ from x)
  | ext φ => obtain ⟨_, ⟨_, e⟩, _⟩ := x; exact Heap.lt_size e
theorem Paired.mapP {α β : Type} {F G : α → β → Prop} : ∀ {l₁ : List α} {l₂ : List β}, Paired F l₁ l₂ → (∀ a b, F a b → G a b) → Paired G l₁ l₂
  | _, _, .nil, _ => .nil
  | _, _, .cons r t, f => .cons (f _ _ r) (Paired.mapP t f)
/-- what an object's description leans on: its own object, its own dict, the tuples -/
theorem ObjOk.stay (x : ObjOk P w H h a o) (k : ∀ b u, (b = a ∨ H b = some (.own a)) → h.get? b = some u → h'.get? b = some u)
    (ho : ∀ b, H b = some (.own a) → H' b = some (.own a)) (ht : ∀ b xs, H b = some (.tup xs) → H' b = some (.tup xs)) : ObjOk P w H' h' a o := by
  induction o with
  | lst xs => obtain ⟨z, its, n, r, e⟩ := x; exact ⟨z, its, n, r, k _ _ (.inl rfl) e⟩
  | tup xs => obtain ⟨z, its, r, ob, e, c⟩ := x; exact ⟨z, its, r, ob, k _ _ (.inl rfl) e, c⟩
  | dK kvs => obtain ⟨z, y, vs, r, ob, es, ep, e, c⟩ := x; exact ⟨z, y, vs, r, ob, es, ep, k _ _ (.inl rfl) e, c⟩
  | dT kvs =>
    obtain ⟨z, y, xs, r, ob, es, ep, e, c⟩ := x
    exact ⟨z, y, xs, Paired.mapP r fun p q z => ⟨z.1, ht _ _ z.2.1, z.2.2⟩, ob, es, ep, k _ _ (.inl rfl) e, c⟩
  | set S n => obtain ⟨ob, es, ep, t, e, c⟩ := x; exact ⟨ob, es, ep, t, k _ _ (.inl rfl) e, c⟩
  | ins C dx fs =>
    obtain ⟨d, z, ne, e, mA, ⟨od, es, ep, e2, c⟩, r⟩ := x
    exact ⟨ho _ d, z, ne, k _ _ (.inl rfl) e, mA, ⟨od, es, ep, k _ _ (.inr d) e2, c⟩, r⟩
  | own y => obtain ⟨ob, e⟩ := x; exact ⟨ob, k _ _ (.inl rfl) e⟩
  | xd fs => obtain ⟨mA, ⟨od, es, ep, e, c⟩, r⟩ := x; exact ⟨mA, ⟨od, es, ep, k _ _ (.inl rfl) e, c⟩, r⟩
  | rng lo hi => obtain ⟨t, u, v, e⟩ := x; exact ⟨t, u, v, k _ _ (.inl rfl) e⟩
  | frz ob u ih => obtain ⟨e, q⟩ := x; exact ⟨k _ _ (.inl rfl) e, ih q⟩
  | tbl ps =>
    have e : h.get? a = some { cls := .none, data := .fields ps } ∧ TriplesOk ps.toList := x
    show h'.get? a = some { cls := .none, data := .fields ps } ∧ TriplesOk ps.toList
    exact ⟨k a _ (.inl rfl) e.1, e.2⟩
  | met f y =>
    have e : h.get? a = some (PySem.W.methodObj (.ref f) (.ref y)) := x
    show h'.get? a = some (PySem.W.methodObj (.ref f) (.ref y))
    exact k a _ (.inl rfl) e
  | ext φ => obtain ⟨p, ⟨o, e⟩, st⟩ := x; exact ⟨st _ _ p fun o q => k _ _ (.inl rfl) q, ⟨o, k _ _ (.inl rfl) e⟩, st⟩
theorem HOk.lt (x : HOk P w H h) (e : H a = some o) : a < h.objs.size := (x a o e).lt
theorem HOk.fresh (x : HOk P w H h) (e : h.objs.size ≤ a) : H a = none := by
  cases q : H a with
  | none => rfl
  | some u => exact absurd (Nat.lt_of_lt_of_le (x.lt q) e) (Nat.lt_irrefl _)
/-- every object of the heap is kept -/
theorem HOk.kept (x : HOk P w H h) (k : ∀ b u, h.get? b = some u → h'.get? b = some u) : HOk P w H h' := fun a o e =>
  (x a o e).stay (fun b u _ q => k b u q) (fun _ q => q) fun _ _ q => q
/-- a new object is laid and tracked -/
theorem HOk.laid (x : HOk P w H h) (k : ∀ b u, h.get? b = some u → h'.get? b = some u) (hp : h.objs.size ≤ a) (new : ObjOk P w (upd H a o) h' a o) : HOk P w (upd H a o) h' := fun b u e => by
  have hn := x.fresh hp
  by_cases hb : b = a
  · subst hb; rw [upd_same] at e; cases e; exact new
  · rw [upd_ne hb] at e
    exact (x b u e).stay (fun c v _ q => k c v q) (fun c q => by rw [upd_ne (ne_of_none q hn)]; exact q) fun c xs q => by rw [upd_ne (ne_of_none q hn)]; exact q
end

/-- what may be read as u: it is u, or a known u -/
def Rd (H : Hp) (a : Addr) (u : HO) : Prop := H a = some u ∨ ∃ o, H a = some (.frz o u)
theorem Rd.of {H : Hp} {a : Addr} {u : HO} (h : H a = some u) : Rd H a u := .inl h
theorem Rd.ok {P : Program} {w : World} {H : Hp} {h : Heap} {a : Addr} {u : HO} (r : Rd H a u) (x : HOk P w H h) : ObjOk P w H h a u := by
  rcases r with r | ⟨o, r⟩
  · exact x a u r
  · obtain ⟨_, q⟩ := x a _ r
    exact q
/-- what may be written -/
def Mut : Option HO → Prop
  | some (.lst _) => True
  | some (.dK _) => True
  | some (.dT _) => True
  | some (.set _ _) => True
  | some (.ins _ _ _) => True
  | some (.ext _) => True
  | _ => False
section
variable {P : Program} {w : World} {H : Hp} {h h' : Heap} {x e : Addr} {o' : HO}
/-- the object at e is changed: x itself, or the dict of the instance x -/
theorem HOk.write (ok : HOk P w H h) (mu : Mut (H x)) (he : e = x ∨ H e = some (.own x)) (k : ∀ b u, b ≠ e → h.get? b = some u → h'.get? b = some u) (heo : ∃ u, h'.get? e = some u)
    (new : ObjOk P w (upd H x o') h' x o') : HOk P w (upd H x o') h' := fun b u q => by
  have nown : ∀ c y, H c = some (.own y) → c ≠ x := fun c y r z => by subst z; rw [r] at mu; exact mu
  have ntup : ∀ c xs, H c = some (.tup xs) → c ≠ x := fun c xs r z => by subst z; rw [r] at mu; exact mu
  by_cases hb : b = x
  · subst hb; rw [upd_same] at q; cases q; exact new
  · rw [upd_ne hb] at q
    by_cases hbe : b = e
    · have q' : H b = some (.own x) := by
        rcases he with z | z
        · exact absurd (hbe.trans z) hb
        · rw [hbe]; exact z
      rw [q] at q'; cases q'
      obtain ⟨v, hv⟩ := heo
      exact ⟨v, by rw [hbe]; exact hv⟩
    · refine (ok b u q).stay (fun c v hc r => k c v ?_ r) (fun c r => by rw [upd_ne (nown c b r)]; exact r) fun c xs r => by rw [upd_ne (ntup c xs r)]; exact r
      rcases hc with rfl | hc
      · exact hbe
      · rintro rfl
        rcases he with z | z
        · exact nown c b hc z
        · rw [hc] at z; cases z; exact hb rfl
end

structure Un (fs ex : List Addr) (H H' : Hp) (h h' : Heap) : Prop where
  keep : ∀ b o, h.get? b = some o → H b = none → b ∉ fs → b ∉ ex → h'.get? b = some o
  slot : ∀ b o, h.get? b = some o → H b = none → b ∈ fs → b ∉ ex → ∃ sl, h'.get? b = some { o with slots := sl }
  free : ∀ b o, h.get? b = some o → H b = none → b ∉ ex → H' b = none
  there : ∀ b o, h.get? b = some o → b ∉ ex → ∃ o', h'.get? b = some o'
  tups : ∀ b xs, H b = some (.tup xs) → H' b = some (.tup xs)
  frzs : ∀ b o u, H b = some (.frz o u) → H' b = some (.frz o u)
  tbls : ∀ b ps, H b = some (.tbl ps) → ∃ more, H' b = some (.tbl (ps ++ more))
section
variable {fs fs' ex ex' : List Addr} {H H1 H2 : Hp} {h h1 h2 h' : Heap} {a x e : Addr} {o : HO}
theorem Un.any (u : Un fs ex H H1 h h1) {b : Addr} {ob : Obj} (q : h.get? b = some ob) (n : H b = none) (hx : b ∉ ex) : ∃ sl, h1.get? b = some { ob with slots := sl } := by
  by_cases hb : b ∈ fs
  · exact u.slot b ob q n hb hx
  · exact ⟨ob.slots, u.keep b ob q n hb hx⟩
theorem Un.trans (a : Un fs ex H H1 h h1) (b : Un fs ex H1 H2 h1 h2) : Un fs ex H H2 h h2 where
  keep := fun c ob q n hc hx => b.keep c ob (a.keep c ob q n hc hx) (a.free c ob q n hx) hc hx
  slot := fun c ob q n hc hx => by
    obtain ⟨sl, e1⟩ := a.slot c ob q n hc hx
    obtain ⟨sl', e2⟩ := b.slot c _ e1 (a.free c ob q n hx) hc hx
    exact ⟨sl', e2⟩
  free := fun c ob q n hx => by
    obtain ⟨o', e1⟩ := a.there c ob q hx
    exact b.free c o' e1 (a.free c ob q n hx) hx
  there := fun c ob q hx => by
    obtain ⟨o', e1⟩ := a.there c ob q hx
    exact b.there c o' e1 hx
  tups := fun c xs q => b.tups c xs (a.tups c xs q)
  frzs := fun c ob xs q => b.frzs c ob xs (a.frzs c ob xs q)
  tbls := fun c ps q => by
    obtain ⟨m1, e1⟩ := a.tbls c ps q
    obtain ⟨m2, e2⟩ := b.tbls c _ e1
    exact ⟨m1 ++ m2, by rw [e2, Array.append_assoc]⟩
theorem Un.kept (k : ∀ b u, h.get? b = some u → h'.get? b = some u) : Un fs ex H H h h' :=
  ⟨fun b ob q _ _ _ => k b ob q, fun b ob q _ _ _ => ⟨ob.slots, k b ob q⟩, fun _ _ _ n _ => n, fun b ob q _ => ⟨ob, k b ob q⟩, fun _ _ q => q, fun _ _ _ q => q, fun _ ps q => ⟨#[], by rw [q]; simp⟩⟩
theorem Un.refl : Un fs ex H H h h := Un.kept fun _ _ q => q
theorem Un.laid (k : ∀ b u, h.get? b = some u → h'.get? b = some u) (hp : h.objs.size ≤ a) (hn : H a = none) : Un fs ex H (upd H a o) h h' where
  keep := fun b u q _ _ _ => k b u q
  slot := fun b u q _ _ _ => ⟨u.slots, k b u q⟩
  free := fun b u q n _ => by rw [upd_ne (Nat.ne_of_lt (Nat.lt_of_lt_of_le (Heap.lt_size q) hp))]; exact n
  there := fun b u q _ => ⟨u, k b u q⟩
  tups := fun b xs q => by rw [upd_ne (ne_of_none q hn)]; exact q
  frzs := fun b u xs q => by rw [upd_ne (ne_of_none q hn)]; exact q
  tbls := fun b ps q => ⟨#[], by rw [upd_ne (ne_of_none q hn), q]; simp⟩
theorem Un.write (mu : Mut (H x)) (he : e = x ∨ H e = some (.own x)) (k : ∀ b u, b ≠ e → h.get? b = some u → h'.get? b = some u) (heo : ∃ u, h'.get? e = some u) : Un fs ex H (upd H x o) h h' := by
  have hx : ∀ b, H b = none → b ≠ x := fun b n z => by subst z; rw [n] at mu; exact mu
  have hb : ∀ b, H b = none → b ≠ e := fun b n z => by
    subst z
    rcases he with r | r
    · exact hx b n r
    · rw [n] at r; cases r
  have hm : ∀ b u, H b = some u → ¬ Mut (some u) → b ≠ x := fun b u q nm z => by subst z; rw [q] at mu; exact nm mu
  refine ⟨fun b u q n _ _ => k b u (hb b n) q, fun b u q n _ _ => ⟨u.slots, k b u (hb b n) q⟩, fun b u q n _ => by rw [upd_ne (hx b n)]; exact n, fun b u q _ => ?_,
    fun b xs q => by rw [upd_ne (hm b _ q fun z => z)]; exact q, fun b u xs q => by rw [upd_ne (hm b _ q fun z => z)]; exact q, fun b ps q => ⟨#[], by rw [upd_ne (hm b _ q fun z => z), q]; simp⟩⟩
  by_cases hbe : b = e
  · subst hbe; exact heo
  · exact ⟨u, k b u hbe q⟩
theorem Un.mono (u : Un fs ex H H1 h h1) (hs : ∀ b ∈ fs, b ∈ fs') (hx : ∀ b ∈ ex, b ∈ ex') : Un fs' ex' H H1 h h1 :=
  ⟨fun b ob q n hb he => u.keep b ob q n (fun z => hb (hs b z)) fun z => he (hx b z), fun _ _ q n _ he => u.any q n fun z => he (hx _ z), fun b ob q n he => u.free b ob q n fun z => he (hx b z), fun b ob q he => u.there b ob q fun z => he (hx b z), u.tups, u.frzs, u.tbls⟩
end

def trk (h : Heap) (H : Hp) : List Addr := (List.range h.objs.size).filter fun a => (H a).isSome
def hidT (h : Heap) (H : Hp) : Heap := PySem.W.hideAll h (trk h H)
theorem hidT_size (h : Heap) (H : Hp) : (hidT h H).objs.size = h.objs.size := PySem.W.hideAll_size _ _
theorem hidT_get {h : Heap} {H : Hp} {b : Addr} {o : Obj} (e : h.get? b = some o) (n : H b = none) : (hidT h H).get? b = some o :=
  PySem.W.hideAll_get _ e fun hm => by
    have q : (H b).isSome = true := (List.mem_filter.mp hm).2
    rw [n] at q; simp at q
theorem of_hidT {h : Heap} {H : Hp} {b : Addr} {o : Obj} (e : (hidT h H).get? b = some o) : h.get? b = some o ∧ H b = none := by
  have e' : h.get? b = some o := PySem.W.of_hideAll (trk h H) e
  refine ⟨e', ?_⟩
  cases q : H b with
  | none => rfl
  | some x =>
    have hm : b ∈ trk h H := List.mem_filter.mpr ⟨List.mem_range.mpr (Heap.lt_size e'), by simp [q]⟩
    have z : (hidT h H).get? b = none := PySem.W.hideAll_none (trk h H) hm
    rw [z] at e; cases e

def allNews (g h : Heap) (L : Addr) : List (Addr × Obj) := (List.range h.objs.size).filterMap fun a => if a = L ∨ (g.get? a).isSome = true then none else (h.get? a).map fun o => (a, o)
def rest (g h : Heap) (L d : Addr) : List (Addr × Obj) := (allNews g h L).filter fun p => decide (p.1 ≠ d)
end L2

namespace L2
open PySem PySem.Spec PyProof.Rows

/-- the module's facts, over the base: the heap at the law's entry without what is tracked there -/
structure Mod (K : PySem.W.Frag) (mg : Str → Option Value) (base : Heap) : Prop where
  kin : K.In base
  glob : base.Ns mainGlobals mg
  blt : ∃ mb, base.Ns builtinsNs mb ∧ ∀ x : Str, x ≠ "__name__" → mb x = bootBuiltins x
  nolimit : base.NoLimit
  bmod : ∃ bm ob, BMod base mainGlobals mg bm ob

/-- the table of the code object of a def of the module's top -/
def TabOf (P : Program) (K : PySem.W.Frag) (mg : Str → Option Value) (Pt : Addr) : Prop :=
  ∃ d ∈ recsOf P, ∃ (f : Addr) (o : Obj) (fd : FuncData) (c : Addr) (oc : Obj) (vs : Array Value), mg d.name = some (.ref f) ∧ K.lookup f = some o ∧ o.data = .func fd ∧ fd.code = .ref c ∧ K.lookup c = some oc ∧ oc.data = .fields vs ∧ vs.getD 11 .none = .ref Pt
/-- all those tables are tracked -/
def Tabs (P : Program) (K : PySem.W.Frag) (mg : Str → Option Value) (H : Hp) : Prop := ∀ Pt, TabOf P K mg Pt → ∃ ps, H Pt = some (.tbl ps)
theorem Tabs.un {P : Program} {K : PySem.W.Frag} {mg : Str → Option Value} {fs ex : List Addr} {H H' : Hp} {h h' : Heap} (T : Tabs P K mg H) (u : Un fs ex H H' h h') : Tabs P K mg H' := fun Pt t => by
  obtain ⟨ps, e⟩ := T Pt t
  obtain ⟨more, e'⟩ := u.tbls Pt ps e
  exact ⟨_, e'⟩

/-- the context: a def's body (or a comprehension's block) running. base: fixed through the whole law; s₀, H₀: the entry; outer: the frames whose slots others may change (a def's callers); stack: all frames that run;
   ex: iterators that were made ahead of the entry and are walked here (a comprehension's); fn: the names whose cells were made at the entry (a def: all; a comprehension's block: its own); calm: not within an except suite; pn: pins that every state bears; xe: what is wanted of an exception that leaves the code -/
structure Cx where
  prog : Program
  w : World
  K : PySem.W.Frag
  mg : Str → Option Value
  base : Heap
  A : Around
  N : List Str
  s_0 : Shared
  H_0 : Hp
  env : Env
  outer : List Env
  stack : List Env
  ex : List Addr
  fn : Str → Bool
  calm : Bool
  pn : List (Addr × Obj)
  xe : Value → Shared → Prop
/-- the callers' frames -/
def frs (l : List Env) : List Addr := l.filterMap (·.frame)
abbrev Cx.fs (X : Cx) : List Addr := frs X.outer

def Vis (sc : Scope) (x : Str) : Prop := sc.names.lookup x = some .local ∨ sc.names.lookup x = some .cell ∨ sc.names.lookup x = some .free
def Loc (sc : Scope) (x : Str) : Prop := sc.names.lookup x = some .local ∨ sc.names.lookup x = some .cell
def Look (env : Env) (h : Heap) (m : Str → Option Value) (x : Str) (u : Value) : Prop :=
  (env.kindOf x = some .local ∧ m x = some u) ∨ ((env.kindOf x = some .cell ∨ env.kindOf x = some .free) ∧ ∃ c, env.cells.lookup x = some c ∧ h.IsCell c (some u))

structure Cx.Ok (X : Cx) : Prop where
  mod : Mod X.K X.mg X.base
  kind : X.env.scope.kind = .function
  glob : X.env.globals = mainGlobals
  blt : X.env.builtins = builtinsNs
  above : X.s_0.heap.objs.size ≤ X.env.locals
  inj : ∀ x y c, X.env.cells.lookup x = some c → X.env.cells.lookup y = some c → x = y
  has : ∀ x, (X.env.kindOf x = some .cell ∨ X.env.kindOf x = some .free) → ∃ c, X.env.cells.lookup x = some c
  cab : ∀ x c, X.fn x = true → X.env.cells.lookup x = some c → X.s_0.heap.objs.size ≤ c
  hd : X.calm = true → X.A.handled = none
  frames : X.A.frames = some X.stack
  stk : X.stack = X.outer ∨ (X.stack = X.env :: X.outer ∧ X.env.frame = some X.env.locals)
  exf : ∀ b ∈ X.ex, b ≠ X.env.locals ∧ ∀ x c, X.env.cells.lookup x = some c → c ≠ b
  bs : ∀ b o, X.base.get? b = some o → X.s_0.heap.get? b = some o ∧ X.H_0 b = none
  bsz : X.base.objs.size ≤ X.s_0.heap.objs.size
  noex : ∀ b o, X.base.get? b = some o → b ∉ X.ex
  exfs : ∀ b ∈ X.ex, b ∉ X.fs
  funs : X.s_0.heap.FunFrames X.base X.outer
  frf : ∀ b ∈ X.fs, X.H_0 b = none
  tb : Tabs X.prog X.K X.mg X.H_0

/-- all generators are bare, and there are no fewer -/
def BareG (g0 g : Array GenState) : Prop := AllBare g ∧ g0.size ≤ g.size
structure Inv (X : Cx) (pins : List (Addr × Obj)) (σ : List (Option V)) (H : Hp) (s : Shared) : Prop where
  ok : X.Ok
  os : s.os = X.s_0.os
  bare : BareG X.s_0.gens s.gens
  base : Un X.fs X.ex X.H_0 H X.s_0.heap s.heap
  loc : ∃ m, s.heap.Ns X.env.locals m ∧ ∀ (i : Nat) (x : Str) (v : V), X.N[i]? = some x → σ[i]? = some (some v) → Vis X.env.scope x → ∃ u, RelV v u ∧ Look X.env s.heap m x u
  cell : ∀ x c, X.env.cells.lookup x = some c → ∃ v, s.heap.IsCell c v
  free : H X.env.locals = none
  freeC : ∀ x c, X.env.cells.lookup x = some c → H c = none
  pin : ∀ p ∈ X.pn ++ pins, s.heap.get? p.1 = some p.2 ∧ H p.1 = none ∧ p.1 ≠ X.env.locals ∧ p.1 ∉ X.fs ∧ ∀ v, p.2.data ≠ .cell v
  hok : HOk X.prog X.w H s.heap
  len : σ.length = X.N.length

section
variable {X : Cx} {pins : List (Addr × Obj)} {σ : List (Option V)} {H H' : Hp} {s : Shared} {h' : Heap}

theorem Inv.bareS (I : Inv X pins σ H s) : BareG s.gens s.gens := ⟨I.bare.1, Nat.le_refl _⟩
theorem Cx.Ok.nofr (ok : X.Ok) {b : Addr} {o : Obj} (e : X.base.get? b = some o) : b ∉ X.fs := fun hb => by
  have := (ok.funs.mem hb).1
  rw [e] at this; cases this
theorem Inv.bs (I : Inv X pins σ H s) : ∀ b o, X.base.get? b = some o → s.heap.get? b = some o ∧ H b = none := fun b o e =>
  ⟨I.base.keep b o (I.ok.bs b o e).1 (I.ok.bs b o e).2 (I.ok.nofr e) (I.ok.noex b o e), I.base.free b o (I.ok.bs b o e).1 (I.ok.bs b o e).2 (I.ok.noex b o e)⟩
theorem Inv.bk (I : Inv X pins σ H s) : ∀ b o, X.base.get? b = some o → s.heap.get? b = some o := fun b o e => (I.bs b o e).1
theorem Inv.mod (I : Inv X pins σ H s) : Mod X.K X.mg X.base := I.ok.mod
theorem Inv.kIn (I : Inv X pins σ H s) : X.K.In s.heap := I.ok.mod.kin.keeps I.bk
theorem Inv.nolimit (I : Inv X pins σ H s) : s.heap.NoLimit := I.ok.mod.nolimit.keeps I.bk
/-- the frame over the base: for OpenK's rules (K.In X.base is I.mod.kin) -/
theorem Inv.fr (I : Inv X pins σ H s) : ∃ m, Fr X.base X.env.locals s.heap m :=
  let ⟨m, hn, _⟩ := I.loc
  ⟨m, hn, I.bk, Nat.le_trans I.ok.bsz I.ok.above⟩
theorem Inv.lt (I : Inv X pins σ H s) : X.env.locals < s.heap.objs.size := let ⟨_, hn, _⟩ := I.loc; hn.lt
theorem Inv.sz (I : Inv X pins σ H s) : X.s_0.heap.objs.size ≤ s.heap.objs.size := Nat.le_trans I.ok.above (Nat.le_of_lt I.lt)
theorem Inv.nofs (I : Inv X pins σ H s) {a : Addr} (h : s.heap.objs.size ≤ a) : a ∉ X.fs := fun hb => by
  obtain ⟨_, o, ho, _⟩ := I.ok.funs.mem hb
  exact absurd (Nat.lt_of_lt_of_le (Heap.lt_size ho) (Nat.le_trans I.sz h)) (Nat.lt_irrefl _)
theorem Inv.cne (I : Inv X pins σ H s) : ∀ x c, X.env.cells.lookup x = some c → c ≠ X.env.locals := fun x c e z => by
  obtain ⟨v, o, ho, hd⟩ := I.cell x c e
  obtain ⟨m, ⟨o', es, ep, ho', hd', _⟩, _⟩ := I.loc
  rw [z, ho'] at ho; cases ho; rw [hd'] at hd; cases hd
theorem Inv.funs (I : Inv X pins σ H s) : s.heap.FunFrames X.base X.outer := by
  have all : ∀ (l : List Env), (∀ b ∈ frs l, b ∈ X.fs) → X.s_0.heap.FunFrames X.base l → s.heap.FunFrames X.base l := by
    intro l
    induction l with
    | nil => intro _ _; trivial
    | cons env r ih =>
      intro hs hl
      obtain ⟨hk, ⟨L, o, hf, hn, ho, hd⟩, hr⟩ := hl
      have hL : L ∈ X.fs := hs L (by unfold frs; rw [List.filterMap_cons, hf]; exact List.mem_cons_self)
      obtain ⟨sl, e⟩ := I.base.slot L o ho (I.ok.frf L hL) hL fun z => I.ok.exfs L z hL
      exact ⟨hk, ⟨L, _, hf, hn, e, hd⟩, ih (fun b hb => hs b (by unfold frs; rw [List.filterMap_cons, hf]; exact List.mem_cons_of_mem _ hb)) hr⟩
  exact all X.outer (fun _ hb => hb) I.ok.funs

/-- the frames that run, for a call -/
theorem Inv.stack (I : Inv X pins σ H s) : s.heap.FunFrames X.base X.stack := by
  rcases I.ok.stk with e | ⟨e, hf⟩
  · rw [e]; exact I.funs
  · rw [e]
    obtain ⟨m, hn, _⟩ := I.loc
    refine .cons (by rw [I.ok.kind]; decide) hf hn ?_ I.funs
    exact Heap.get?_none_of_le (Nat.le_trans I.ok.bsz I.ok.above)
theorem Inv.stkSub (I : Inv X pins σ H s) : ∀ b ∈ frs X.stack, b ∈ X.env.locals :: X.fs := fun b hb => by
  rcases I.ok.stk with e | ⟨e, hf⟩
  · rw [e] at hb; exact List.mem_cons_of_mem _ hb
  · rw [e] at hb
    unfold frs at hb
    rw [List.filterMap_cons, hf] at hb
    exact hb
theorem Inv.stkFree (I : Inv X pins σ H s) : ∀ b ∈ frs X.stack, H b = none := fun b hb => by
  rcases List.mem_cons.mp (I.stkSub b hb) with e | hb
  · rw [e]; exact I.free
  · obtain ⟨_, o, ho, _⟩ := I.ok.funs.mem hb
    exact I.base.free b o ho (I.ok.frf b hb) fun z => I.ok.exfs b z hb

/-- THE STEP: the untracked objects but the frame and the records at ch are kept (the callers' frames up to slots), the frame's map is kept, the new abstract heap is held -/
theorem Inv.step {g' : Array GenState} {t' : Nat} {d' : Drawn} {ch : List Addr} (I : Inv X pins σ H s)
    (hch : ∀ b ∈ ch, (b ∈ X.ex ∨ X.s_0.heap.objs.size ≤ b) ∧ b ≠ X.env.locals ∧ (∀ x c, X.env.cells.lookup x = some c → c ≠ b) ∧ ∀ p ∈ X.pn ++ pins, p.1 ≠ b)
    (keep : ∀ b o, b ≠ X.env.locals → b ∉ X.fs → b ∉ ch → s.heap.get? b = some o → H b = none → h'.get? b = some o)
    (slot : ∀ b o, b ≠ X.env.locals → b ∈ X.fs → b ∉ ch → s.heap.get? b = some o → H b = none → ∃ sl, h'.get? b = some { o with slots := sl }) (free : ∀ b o, b ∉ ch → s.heap.get? b = some o → H b = none → H' b = none)
    (there : ∀ b o, b ∉ ch → s.heap.get? b = some o → ∃ o', h'.get? b = some o')
    (tups : ∀ b xs, H b = some (.tup xs) → H' b = some (.tup xs)) (frzs : ∀ b o u, H b = some (.frz o u) → H' b = some (.frz o u)) (tbls : ∀ b ps, H b = some (.tbl ps) → ∃ more, H' b = some (.tbl (ps ++ more)))
    (ns : ∀ m, s.heap.Ns X.env.locals m → h'.Ns X.env.locals m) (hok : HOk X.prog X.w H' h') (hg : BareG s.gens g') :
    Inv X pins σ H' { s with heap := h', gens := g', drawn := d', toks := t' } := by
  have neL : ∀ b o, X.s_0.heap.get? b = some o → b ≠ X.env.locals := fun b o e => Nat.ne_of_lt (Nat.lt_of_lt_of_le (Heap.lt_size e) I.ok.above)
  have neC : ∀ b o, X.s_0.heap.get? b = some o → b ∉ X.ex → b ∉ ch := fun b o e hx hb => by
    rcases (hch b hb).1 with z | z
    · exact hx z
    · exact absurd (Nat.lt_of_lt_of_le (Heap.lt_size e) z) (Nat.lt_irrefl _)
  have cellK : ∀ x c, X.env.cells.lookup x = some c → ∀ v, s.heap.IsCell c v → h'.IsCell c v := fun x c e v ⟨o, ho, hd⟩ => by
    have nch : c ∉ ch := fun z => (hch c z).2.2.1 x c e rfl
    by_cases hc : c ∈ X.fs
    · obtain ⟨sl, q⟩ := slot c o (I.cne x c e) hc nch ho (I.freeC x c e)
      exact ⟨_, q, hd⟩
    · exact ⟨o, keep c o (I.cne x c e) hc nch ho (I.freeC x c e), hd⟩
  refine ⟨I.ok, I.os, ⟨hg.1, Nat.le_trans I.bare.2 hg.2⟩, ⟨fun b o e n hb hx => ?_, fun b o e n hb hx => ?_, fun b o e n hx => ?_, fun b o e hx => ?_, fun b xs e => tups b xs (I.base.tups b xs e), fun b o xs e => frzs b o xs (I.base.frzs b o xs e), fun b ps e => ?_⟩, ?_, fun x c e => ?_, ?_, fun x c e => ?_, fun p hp => ?_, hok, I.len⟩
  · exact keep b o (neL b o e) hb (neC b o e hx) (I.base.keep b o e n hb hx) (I.base.free b o e n hx)
  · obtain ⟨sl, e1⟩ := I.base.slot b o e n hb hx
    obtain ⟨sl', e2⟩ := slot b _ (neL b o e) hb (neC b o e hx) e1 (I.base.free b o e n hx)
    exact ⟨sl', e2⟩
  · obtain ⟨o', e1⟩ := I.base.there b o e hx
    exact free b o' (neC b o e hx) e1 (I.base.free b o e n hx)
  · obtain ⟨o', e1⟩ := I.base.there b o e hx
    exact there b o' (neC b o e hx) e1
  · obtain ⟨m1, e1⟩ := I.base.tbls b ps e
    obtain ⟨m2, e2⟩ := tbls b _ e1
    exact ⟨m1 ++ m2, by rw [e2, Array.append_assoc]⟩
  · obtain ⟨m, hn, hl⟩ := I.loc
    refine ⟨m, ns m hn, fun i x v e1 e2 e3 => ?_⟩
    obtain ⟨u, r, l⟩ := hl i x v e1 e2 e3
    refine ⟨u, r, ?_⟩
    rcases l with l | ⟨k, c, e, z⟩
    · exact .inl l
    · exact .inr ⟨k, c, e, cellK x c e _ z⟩
  · obtain ⟨v, z⟩ := I.cell x c e
    exact ⟨v, cellK x c e v z⟩
  · obtain ⟨m, ⟨o, _, _, ho, _⟩, _⟩ := I.loc
    exact free _ o (fun z => (hch _ z).2.1 rfl) ho I.free
  · obtain ⟨v, o, ho, hd⟩ := I.cell x c e
    exact free c o (fun z => (hch c z).2.2.1 x c e rfl) ho (I.freeC x c e)
  · obtain ⟨e, n, ne, nf, d⟩ := I.pin p hp
    have nch : p.1 ∉ ch := fun z => (hch p.1 z).2.2.2 p hp rfl
    exact ⟨keep p.1 p.2 ne nf nch e n, free p.1 p.2 nch e n, ne, nf, d⟩
/-- .. where the frame's own object is kept too -/
theorem Inv.un {t' : Nat} (I : Inv X pins σ H s) (u : Un X.fs [] H H' s.heap h') (hok : HOk X.prog X.w H' h') : Inv X pins σ H' { s with heap := h', toks := t' } := by
  obtain ⟨m, ⟨o, es, ep, ho, r⟩, _⟩ := id I.loc
  obtain ⟨sl, hL⟩ := u.any ho I.free (by simp)
  exact I.step (g' := s.gens) (d' := s.drawn) (ch := []) (fun _ z => nomatch z) (fun b o _ hb _ e n => u.keep b o e n hb (by simp)) (fun b o _ hb _ e n => u.slot b o e n hb (by simp)) (fun b o _ e n => u.free b o e n (by simp)) (fun b o _ e => u.there b o e (by simp)) u.tups u.frzs u.tbls (fun m' hm => by
    obtain ⟨o', es', ep', ho', r'⟩ := hm
    rw [ho] at ho'; cases ho'
    exact ⟨_, es', ep', hL, r'⟩) hok I.bareS
/-- behind a call (or a comprehension's block): the slots of this frame may have changed too, the records at ch may have turned -/
theorem Inv.call {g' : Array GenState} {t' : Nat} {d' : Drawn} {ch : List Addr} (I : Inv X pins σ H s) (u : Un (frs X.stack) ch H H' s.heap h') (hok : HOk X.prog X.w H' h') (hg : BareG s.gens g')
    (hch : ∀ b ∈ ch, (b ∈ X.ex ∨ X.s_0.heap.objs.size ≤ b) ∧ b ≠ X.env.locals ∧ (∀ x c, X.env.cells.lookup x = some c → c ≠ b) ∧ ∀ p ∈ X.pn ++ pins, p.1 ≠ b) :
    Inv X pins σ H' { s with heap := h', gens := g', drawn := d', toks := t' } := by
  obtain ⟨m, ⟨o, es, ep, ho, r⟩, _⟩ := id I.loc
  obtain ⟨sl, hL⟩ := u.any ho I.free fun z => (hch _ z).2.1 rfl
  exact I.step (ch := ch) hch (fun b o hL hb hc e n => u.keep b o e n (fun z => (List.mem_cons.mp (I.stkSub b z)).elim hL hb) hc) (fun b o _ _ hc e n => u.any e n hc) (fun b o hc e n => u.free b o e n hc) (fun b o hc e => u.there b o e hc) u.tups u.frzs u.tbls (fun m' hm => by
    obtain ⟨o', es', ep', ho', r'⟩ := hm
    rw [ho] at ho'; cases ho'
    exact ⟨_, es', ep', hL, r'⟩) hok hg
/-- an untracked record of ours (an iterator) has turned -/
theorem Inv.turned {t' : Nat} {it : Addr} (I : Inv X pins σ H s) (k : ∀ b o, b ≠ it → s.heap.get? b = some o → h'.get? b = some o) (hn : H it = none) (hL : it ≠ X.env.locals)
    (h1 : it ∈ X.ex ∨ X.s_0.heap.objs.size ≤ it) (h2 : ∀ x c, X.env.cells.lookup x = some c → c ≠ it) (h3 : ∀ p ∈ X.pn ++ pins, p.1 ≠ it) : Inv X pins σ H { s with heap := h', toks := t' } := by
  have nit : ∀ b u, H b = some u → b ≠ it := fun b u e z => by rw [z, hn] at e; cases e
  refine I.step (g' := s.gens) (d' := s.drawn) (ch := [it]) (fun b hb => ?_) (fun b o _ _ hc e _ => k b o (fun z => hc (by simp [z])) e) (fun b o _ _ hc e _ => ⟨o.slots, k b o (fun z => hc (by simp [z])) e⟩) (fun _ _ _ _ n => n)
    (fun b o hc e => ⟨o, k b o (fun z => hc (by simp [z])) e⟩) (fun _ _ e => e) (fun _ _ _ e => e) (fun b ps e => ⟨#[], by rw [e]; simp⟩) (fun m hm => ?_) (fun b u e => ?_) I.bareS
  · have e : b = it := by simpa using hb
    subst e
    exact ⟨h1, hL, h2, h3⟩
  · obtain ⟨o, es, ep, ho, r⟩ := hm
    exact ⟨o, es, ep, k _ o (Ne.symm hL) ho, r⟩
  · refine (I.hok b u e).stay (fun c v hc q => k c v ?_ q) (fun _ q => q) fun _ _ q => q
    rcases hc with z | z
    · rw [z]; exact nit b u e
    · exact nit c _ z
theorem Inv.tok (I : Inv X pins σ H s) (t : Nat) : Inv X pins σ H { s with toks := t } := I.un (h' := s.heap) (t' := t) Un.refl I.hok
/-- all objects kept -/
theorem Inv.kept {t' : Nat} (I : Inv X pins σ H s) (k : ∀ b u, s.heap.get? b = some u → h'.get? b = some u) : Inv X pins σ H { s with heap := h', toks := t' } := I.un (Un.kept k) (I.hok.kept k)
/-- a new object laid and tracked -/
theorem Inv.laid {a : Addr} {o : HO} {t' : Nat} (I : Inv X pins σ H s) (k : ∀ b u, s.heap.get? b = some u → h'.get? b = some u) (hp : s.heap.objs.size ≤ a) (new : ObjOk X.prog X.w (upd H a o) h' a o) :
    Inv X pins σ (upd H a o) { s with heap := h', toks := t' } := I.un (Un.laid k hp (I.hok.fresh hp)) (I.hok.laid k hp new)
/-- an object written -/
theorem Inv.write {x e : Addr} {o : HO} {t' : Nat} (I : Inv X pins σ H s) (mu : Mut (H x)) (he : e = x ∨ H e = some (.own x)) (k : ∀ b u, b ≠ e → s.heap.get? b = some u → h'.get? b = some u) (heo : ∃ u, h'.get? e = some u)
    (new : ObjOk X.prog X.w (upd H x o) h' x o) : Inv X pins σ (upd H x o) { s with heap := h', toks := t' } := I.un (Un.write mu he k heo) (I.hok.write mu he k heo new)
/-- forgetting slots, pins -/
theorem Inv.weak {σ' : List (Option V)} (I : Inv X pins σ H s) (hl : σ'.length = σ.length) (w : ∀ (i : Nat) v, σ'[i]? = some (some v) → σ[i]? = some (some v)) : Inv X pins σ' H s :=
  ⟨I.ok, I.os, I.bare, I.base, let ⟨m, hn, hl'⟩ := I.loc; ⟨m, hn, fun i x v e1 e2 e3 => hl' i x v e1 (w i v e2) e3⟩, I.cell, I.free, I.freeC, I.pin, I.hok, hl.trans I.len⟩
theorem Inv.pins_of {pins' : List (Addr × Obj)} (I : Inv X pins σ H s) (h : ∀ p ∈ pins', s.heap.get? p.1 = some p.2 ∧ H p.1 = none ∧ p.1 ≠ X.env.locals ∧ p.1 ∉ X.fs ∧ ∀ v, p.2.data ≠ .cell v) : Inv X pins' σ H s :=
  ⟨I.ok, I.os, I.bare, I.base, I.loc, I.cell, I.free, I.freeC, fun p hp => (List.mem_append.mp hp).elim (fun z => I.pin p (List.mem_append_left _ z)) (h p), I.hok, I.len⟩

theorem nodup_ix {N : List Str} (hN : N.Nodup) {i j : Nat} {x : Str} (a : N[i]? = some x) (b : N[j]? = some x) : i = j := by
  obtain ⟨h1, e1⟩ := List.getElem?_eq_some_iff.mp a
  obtain ⟨h2, e2⟩ := List.getElem?_eq_some_iff.mp b
  exact (List.getElem_inj hN).mp (e1.trans e2.symm)

/-- a name is stored; what changed -/
theorem store_ok2 {M : Model} {A : Around} {E : Value → Shared → Prop} {i : Nat} {x : Str} {v : V} {u : Value} {Q : Unit → Shared → Prop} (I : Inv X pins σ H s) (hN : X.N.Nodup) (hi : X.N[i]? = some x) (hx : Loc X.env.scope x) (r : RelV v u)
    (h : ∀ s', Inv X pins (σ.set i (some v)) H s' → (∃ a, Heap.SameBut a s.heap s'.heap ∧ (a = X.env.locals ∨ X.env.cells.lookup x = some a)) → Q () s') (hf : X.fn x = true ∨ X.env.scope.names.lookup x = some .local := by first | exact .inl rfl | exact .inr rfl | assumption) : wpAny M A (storeName X.env x u) Q E s := by
  obtain ⟨m, hn, hl⟩ := id I.loc
  have hcls : (X.env.scope.kind == .class || (X.env.scope.kind == .module && X.env.locals != X.env.globals)) = false := by rw [I.ok.kind]; rfl
  have hiσ : i < σ.length := by rw [I.len]; exact (List.getElem?_eq_some_iff.mp hi).1
  have cne := I.cne
  have tracked : ∀ {a : Addr} {h' : Heap}, (∃ o, s.heap.get? a = some o ∧ H a = none) → Heap.SameBut a s.heap h' → HOk X.prog X.w H h' := fun {a h'} ha hs b ob e => by
    obtain ⟨_, _, hfree⟩ := ha
    refine (I.hok b ob e).stay (fun c w' hc q => (hs.2 c ?_).trans q) (fun _ q => q) fun _ _ q => q
    rintro rfl
    rcases hc with rfl | hc
    · rw [hfree] at e; cases e
    · rw [hfree] at hc; cases hc
  rcases hx with hk | hk
  · refine wpAny_storeName_local hk hn (fun h' hn' hs => ?_) hcls
    obtain ⟨oL, _, _, hoL, _⟩ := id hn
    refine h _ ⟨I.ok, I.os, I.bare, ⟨fun b o e n hb hx => ?_, fun b o e n hb hx => ?_, I.base.free, fun b o e hx => ?_, I.base.tups, I.base.frzs, I.base.tbls⟩, ⟨_, hn', fun j y v' e1 e2 e3 => ?_⟩, fun y c e => ?_, I.free, I.freeC, fun p hp => ?_, tracked ⟨oL, hoL, I.free⟩ hs, by simpa using I.len⟩ ⟨_, hs, .inl rfl⟩
    · exact (hs.2 b (Nat.ne_of_lt (Nat.lt_of_lt_of_le (Heap.lt_size e) I.ok.above))).trans (I.base.keep b o e n hb hx)
    · obtain ⟨sl, e1⟩ := I.base.slot b o e n hb hx
      exact ⟨sl, (hs.2 b (Nat.ne_of_lt (Nat.lt_of_lt_of_le (Heap.lt_size e) I.ok.above))).trans e1⟩
    · obtain ⟨o', e1⟩ := I.base.there b o e hx
      exact ⟨o', (hs.2 b (Nat.ne_of_lt (Nat.lt_of_lt_of_le (Heap.lt_size e) I.ok.above))).trans e1⟩
    · by_cases hj : j = i
      · subst hj
        rw [hi] at e1; cases e1
        rw [List.getElem?_set_self hiσ] at e2
        cases e2
        exact ⟨u, r, .inl ⟨hk, by simp⟩⟩
      · rw [List.getElem?_set_ne (Ne.symm hj)] at e2
        obtain ⟨u', r', q⟩ := hl j y v' e1 e2 e3
        refine ⟨u', r', ?_⟩
        rcases q with ⟨k, e⟩ | ⟨k, c, e, z⟩
        · refine .inl ⟨k, ?_⟩
          have : y ≠ x := fun e => hj (nodup_ix hN e1 (e ▸ hi))
          simp [this, e]
        · exact .inr ⟨k, c, e, z.sameBut hs (cne y c e)⟩
    · obtain ⟨w', z⟩ := I.cell y c e
      exact ⟨w', z.sameBut hs (cne y c e)⟩
    · obtain ⟨e, n, ne, nf, d⟩ := I.pin p hp
      exact ⟨(hs.2 p.1 ne).trans e, n, ne, nf, d⟩
  · have hfn : X.fn x = true := by
      rcases hf with z | z
      · exact z
      · rw [z] at hk; cases hk
    obtain ⟨c, hc⟩ := I.ok.has x (.inl hk)
    obtain ⟨w', z⟩ := I.cell x c hc
    refine wpAny_storeName_cell I.ok.kind hk hc z (fun h' hc' hs => ?_)
    obtain ⟨oc, hoc, hocd⟩ := id z
    refine h { s with heap := h' } ⟨I.ok, I.os, I.bare, ⟨fun b o e n hb hx => ?_, fun b o e n hb hx => ?_, I.base.free, fun b o e hx => ?_, I.base.tups, I.base.frzs, I.base.tbls⟩, ⟨m, hn.sameBut hs (Ne.symm (cne x c hc)), fun j y v' e1 e2 e3 => ?_⟩, fun y c' e => ?_, I.free, I.freeC, fun p hp => ?_, tracked ⟨oc, hoc, I.freeC x c hc⟩ hs, by simpa using I.len⟩ ⟨c, hs, .inr hc⟩
    · exact (hs.2 b (Nat.ne_of_lt (Nat.lt_of_lt_of_le (Heap.lt_size e) (I.ok.cab x c hfn hc)))).trans (I.base.keep b o e n hb hx)
    · obtain ⟨sl, e1⟩ := I.base.slot b o e n hb hx
      exact ⟨sl, (hs.2 b (Nat.ne_of_lt (Nat.lt_of_lt_of_le (Heap.lt_size e) (I.ok.cab x c hfn hc)))).trans e1⟩
    · obtain ⟨o', e1⟩ := I.base.there b o e hx
      exact ⟨o', (hs.2 b (Nat.ne_of_lt (Nat.lt_of_lt_of_le (Heap.lt_size e) (I.ok.cab x c hfn hc)))).trans e1⟩
    · by_cases hj : j = i
      · subst hj
        rw [hi] at e1; cases e1
        rw [List.getElem?_set_self hiσ] at e2
        cases e2
        exact ⟨u, r, .inr ⟨.inl hk, c, hc, hc'⟩⟩
      · rw [List.getElem?_set_ne (Ne.symm hj)] at e2
        obtain ⟨u', r', q⟩ := hl j y v' e1 e2 e3
        refine ⟨u', r', ?_⟩
        rcases q with q | ⟨k, c', e, z'⟩
        · exact .inl q
        · refine .inr ⟨k, c', e, z'.sameBut hs ?_⟩
          rintro rfl
          exact hj (nodup_ix hN e1 (I.ok.inj _ _ _ e hc ▸ hi))
    · by_cases hcc : c' = c
      · subst hcc; exact ⟨_, hc'⟩
      · obtain ⟨w2, z2⟩ := I.cell y c' e
        exact ⟨w2, z2.sameBut hs hcc⟩
    · obtain ⟨e, n, ne, nf, d⟩ := I.pin p hp
      refine ⟨(hs.2 p.1 ?_).trans e, n, ne, nf, d⟩
      intro q
      rw [q, hoc] at e
      have q' : oc = p.2 := Option.some.inj e
      exact d w' (by rw [← q']; exact hocd)
theorem store_ok {M : Model} {A : Around} {E : Value → Shared → Prop} {i : Nat} {x : Str} {v : V} {u : Value} {Q : Unit → Shared → Prop} (I : Inv X pins σ H s) (hN : X.N.Nodup) (hi : X.N[i]? = some x) (hx : Loc X.env.scope x) (r : RelV v u)
    (h : ∀ s', Inv X pins (σ.set i (some v)) H s' → Q () s') (hf : X.fn x = true ∨ X.env.scope.names.lookup x = some .local := by first | exact .inl rfl | exact .inr rfl | assumption) : wpAny M A (storeName X.env x u) Q E s :=
  store_ok2 I hN hi hx r (fun s' I' _ => h s' I') hf
/-- behind a call or a block, the state as it is -/
theorem Inv.call' {s' : Shared} {ch : List Addr} (I : Inv X pins σ H s) (ho : s'.os = s.os) (u : Un (frs X.stack) ch H H' s.heap s'.heap) (hok : HOk X.prog X.w H' s'.heap) (hg : BareG s.gens s'.gens)
    (hch : ∀ b ∈ ch, (b ∈ X.ex ∨ X.s_0.heap.objs.size ≤ b) ∧ b ≠ X.env.locals ∧ (∀ x c, X.env.cells.lookup x = some c → c ≠ b) ∧ ∀ p ∈ X.pn ++ pins, p.1 ≠ b) : Inv X pins σ H' s' := by
  obtain ⟨h', g', d', t', o'⟩ := s'
  have e : o' = s.os := ho
  subst e
  exact I.call (g' := g') (t' := t') (d' := d') u hok hg hch
end

/-- an exception: its class, its own dict's address (where it has one), the abstract heap behind it -/
abbrev XK := Value → Option Addr → Hp → Prop
abbrev St := List (Option V)
abbrev VK := V → Hp → Prop
/-- an expression's reading; a test's; an argument list's -/
abbrev TE := St → Hp → VK → Prop
abbrev TT := St → Hp → (Bool → Hp → Prop) → Prop
abbrev TA := St → Hp → (List V → Hp → Prop) → Prop
/-- what is wanted behind a statement -/
structure Ends where
  nx : St → Hp → Prop
  rt : VK
  bk : St → Hp → Prop := fun _ _ => False
  ct : St → Hp → Prop := fun _ _ => False
abbrev TS := Ends → St → Hp → Prop

def EP (X : Cx) (pins : List (Addr × Obj)) (σ : St) (Q : VK) (u : Value) (s' : Shared) : Prop := ∃ v H', Inv X pins σ H' s' ∧ RelV v u ∧ Q v H'
def TP (X : Cx) (pins : List (Addr × Obj)) (σ : St) (Q : Bool → Hp → Prop) (b : Bool) (s' : Shared) : Prop := ∃ H', Inv X pins σ H' s' ∧ Q b H'
def AP (X : Cx) (pins : List (Addr × Obj)) (σ : St) (Q : List V → Hp → Prop) (us : List Value) (s' : Shared) : Prop := ∃ vs H', Inv X pins σ H' s' ∧ Vals vs us ∧ Q vs H'
def SP (X : Cx) (pins : List (Addr × Obj)) (D : Ends) (f : Flow) (s' : Shared) : Prop :=
  match f with
  | .next => ∃ σ' H', Inv X pins σ' H' s' ∧ D.nx σ' H'
  | .brk => ∃ σ' H', Inv X pins σ' H' s' ∧ D.bk σ' H'
  | .cont => ∃ σ' H', Inv X pins σ' H' s' ∧ D.ct σ' H'
  | .ret u => ∃ v σ' H', Inv X pins σ' H' s' ∧ RelV v u ∧ D.rt v H'

def PE (X : Cx) (e : Expr) (t : TE) : Prop :=
  ∀ (pins : List (Addr × Obj)) (s : Shared) (σ : St) (H : Hp) (Q : VK), Inv X pins σ H s → t σ H Q → wpAny (model X.prog X.w) X.A (eval e X.env) (EP X pins σ Q) X.xe s
def PT (X : Cx) (e : Expr) (t : TT) : Prop :=
  ∀ (pins : List (Addr × Obj)) (s : Shared) (σ : St) (H : Hp) (Q : Bool → Hp → Prop), Inv X pins σ H s → t σ H Q → wpAny (model X.prog X.w) X.A (isTrue e X.env (eval e X.env)) (TP X pins σ Q) X.xe s
/-- a test whatever its 'whole' is (and, or) -/
def PW (X : Cx) (e : Expr) (t : TT) : Prop :=
  ∀ (whole : Sem Value) (pins : List (Addr × Obj)) (s : Shared) (σ : St) (H : Hp) (Q : Bool → Hp → Prop), Inv X pins σ H s → t σ H Q → wpAny (model X.prog X.w) X.A (isTrue e X.env whole) (TP X pins σ Q) X.xe s
theorem PW.pt {X : Cx} {e : Expr} {t : TT} (h : PW X e t) : PT X e t := h _
/-- an argument list (no star), from the left -/
def PA (X : Cx) (es : List Expr) (t : TA) : Prop :=
  ∀ (pos : Pos) (pins : List (Addr × Obj)) (s : Shared) (σ : St) (H : Hp) (Q : List V → Hp → Prop), Inv X pins σ H s → t σ H Q → wpAny (model X.prog X.w) X.A (spliced (backTo pos (starEach es X.env))) (AP X pins σ Q) X.xe s
def PS (X : Cx) (st : Stmt) (t : TS) : Prop :=
  ∀ (pins : List (Addr × Obj)) (s : Shared) (σ : St) (H : Hp) (D : Ends), Inv X pins σ H s → t D σ H → wpAny (model X.prog X.w) X.A (exec st X.env) (SP X pins D) X.xe s
def PSs (X : Cx) (st : List Stmt) (t : TS) : Prop :=
  ∀ (pins : List (Addr × Obj)) (s : Shared) (σ : St) (H : Hp) (D : Ends), Inv X pins σ H s → t D σ H → wpAny (model X.prog X.w) X.A (execs st X.env) (SP X pins D) X.xe s
/-- weaken the end -/
theorem thn {α : Type} {t : Sem α} {Q Q' : α → Shared → Prop} {M : Model} {A : Around} {E : Value → Shared → Prop} {s : Shared} (h : wpAny M A t Q E s) (hQ : ∀ a s, Q a s → Q' a s) : wpAny M A t Q' E s := wpAny_mono h hQ fun _ _ x => x
end L2

namespace L2
open PySem PySem.Spec PyProof.Rows
section
variable {X : Cx}

def tVar (i : Nat) : TE := fun σ H Q => ∃ v, σ[i]? = some (some v) ∧ Q v H
def tC (v : V) : TE := fun _ H Q => Q v H
theorem pe_var {i : Nat} {x : Str} {pos : Pos} (hN : X.N[i]? = some x) (hv : Vis X.env.scope x) (hd : (x == ("__debug__" : Str)) = false := by decide) (hcd : (x == ("__classdict__" : Str)) = false := by decide) : PE X (.Name x pos) (tVar i) := by
  intro pins s σ H Q I h
  obtain ⟨v, e, h⟩ := h
  obtain ⟨m, hn, hl⟩ := I.loc
  obtain ⟨u, r, l⟩ := hl i x v hN e hv
  have fin : EP X pins σ Q u s := ⟨v, H, I, r, h⟩
  rcases l with ⟨hk, hm⟩ | ⟨hk, c, hc, hcell⟩
  · exact wpAny_Name (wpAny_loadName_local I.ok.kind hk hn hm fin) hd
  · rcases hk with hk | hk
    · exact wpAny_Name (wpAny_loadName_cell I.ok.kind hk hc hcell fin) hd
    · exact wpAny_Name (wpAny_loadName_free I.ok.kind hk hc hcell fin hcd) hd
theorem pe_int {i j pos} : PE X (.Constant (.int i) j pos) (tC (.int i)) := fun _ _ _ H _ I h => wpAny_Constant_int ⟨.int i, H, I.tok _, ⟨_, rfl⟩, h⟩
theorem pe_bl {b j pos} : PE X (.Constant (.bool b) j pos) (tC (.bl b)) := fun _ _ _ H _ I h => Constant_bool ⟨.bl b, H, I, rfl, h⟩
theorem pe_non {j pos} : PE X (.Constant .none j pos) (tC .non) := fun _ _ _ H _ I h => Constant_none ⟨.non, H, I, rfl, h⟩
theorem pe_str {x j pos} : PE X (.Constant (.str x) j pos) (tC (.str x)) := fun _ _ _ H _ I h => Calls.Constant_str ⟨.str x, H, I.tok _, ⟨_, rfl⟩, h⟩

/-- a global name of the def -/
def Gl (X : Cx) (x : Str) : Prop := X.env.kindOf x = some .globalImplicit
theorem ld_glob {E : Value → Shared → Prop} {pins : List (Addr × Obj)} {s : Shared} {σ : St} {H : Hp} {x : Str} {u : Value} {pos : Pos} {Q : Value → Shared → Prop} (I : Inv X pins σ H s) (hg : Gl X x) (hm : X.mg x = some u) (h : Q u s)
    (hd : (x == ("__debug__" : Str)) = false := by decide) : wpAny (model X.prog X.w) X.A (eval (.Name x pos) X.env) Q E s :=
  Calls.Name_function_global I.ok.kind hg (Calls.loadGlobal_global (by rw [I.ok.glob]; exact I.mod.glob.keeps I.bk) hm h) hd
theorem ld_blt {E : Value → Shared → Prop} {pins : List (Addr × Obj)} {s : Shared} {σ : St} {H : Hp} {x : Str} {u : Value} {pos : Pos} {Q : Value → Shared → Prop} (I : Inv X pins σ H s) (hg : Gl X x) (hm : X.mg x = none) (hv : bootBuiltins x = some u) (h : Q u s)
    (hn : x ≠ "__name__" := by decide) (hd : (x == ("__debug__" : Str)) = false := by decide) : wpAny (model X.prog X.w) X.A (eval (.Name x pos) X.env) Q E s := by
  obtain ⟨mb, h1, h2⟩ := I.mod.blt
  exact Calls.Name_function_global I.ok.kind hg (Calls.loadGlobal_builtin (by rw [I.ok.glob]; exact I.mod.glob.keeps I.bk) hm (by rw [I.ok.blt]; exact h1.keeps I.bk) ((h2 x hn).trans hv) h) hd
/-- a module's constant, a class, a function, as a value -/
theorem pe_glob {x : Str} {v : V} {u : Value} {pos : Pos} (hg : Gl X x) (hm : X.mg x = some u) (r : RelV v u) (hd : (x == ("__debug__" : Str)) = false := by decide) : PE X (.Name x pos) (tC v) :=
  fun _ _ _ H _ I h => ld_glob I hg hm ⟨v, H, I, r, h⟩ hd
theorem pe_bltn {x : Str} {v : V} {u : Value} {pos : Pos} (hg : Gl X x) (hm : X.mg x = none) (hv : bootBuiltins x = some u) (r : RelV v u) (hn : x ≠ "__name__" := by decide) (hd : (x == ("__debug__" : Str)) = false := by decide) : PE X (.Name x pos) (tC v) :=
  fun _ _ _ H _ I h => ld_blt I hg hm hv ⟨v, H, I, r, h⟩ hn hd

variable {a b : Expr} {ta tb : TE} {pos : Pos}
/-- a comparison as a value, as a test -/
def tB (t : TE) : TT := fun σ H Q => t σ H fun x H1 => ∃ c, x = .bl c ∧ Q c H1
/-- an expression whose value is a bool, as a test -/
theorem pt_val {e : Expr} {t : TE} (h : PE X e t) (he : ∀ whole, isTrue e X.env whole = (do let v ← whole; standAt e.pos; holding [v] (truthy v)) := by intro _; rfl) : PT X e (tB t) := by
  intro pins s σ H Q I hw
  refine isTrue_plain (thn (h pins s σ H _ I hw) fun v s1 ⟨x, H1, I1, r1, q1⟩ => ?_) (he _)
  obtain ⟨d, rfl, q⟩ := q1
  cases r1
  exact wpAny_truthy_bool ⟨H1, I1, q⟩

variable {tA tB' : TT} {rest : List Expr}
def tAnd (t u : TT) : TT := fun σ H Q => t σ H fun c H1 => if c = true then u σ H1 Q else Q false H1
def tOr (t u : TT) : TT := fun σ H Q => t σ H fun c H1 => if c = true then Q true H1 else u σ H1 Q
def tNot (t : TT) : TT := fun σ H Q => t σ H fun c H1 => Q (!c) H1
theorem pw_and1 (ha : PT X a tA) : PW X (.BoolOp .And [a] pos) tA := by
  intro wh pins s σ H Q I h
  refine isTrue_and (thn (ha pins s σ H Q I h) fun c s1 e => ?_)
  cases c with
  | true => exact isTrue_and_nil e
  | false => exact e
theorem pw_or1 (ha : PT X a tA) : PW X (.BoolOp .Or [a] pos) tA := by
  intro wh pins s σ H Q I h
  refine isTrue_or (thn (ha pins s σ H Q I h) fun c s1 e => ?_)
  cases c with
  | false => exact isTrue_or_nil e
  | true => exact e
theorem pw_and (ha : PT X a tA) (hb : PW X (.BoolOp .And (b :: rest) pos) tB') : PW X (.BoolOp .And (a :: b :: rest) pos) (tAnd tA tB') := by
  intro wh pins s σ H Q I h
  refine isTrue_and (thn (ha pins s σ H _ I h) fun c s1 ⟨H1, I1, q1⟩ => ?_)
  cases c with
  | true => exact hb wh pins s1 σ H1 Q I1 q1
  | false => exact ⟨H1, I1, q1⟩
theorem pw_or (ha : PT X a tA) (hb : PW X (.BoolOp .Or (b :: rest) pos) tB') : PW X (.BoolOp .Or (a :: b :: rest) pos) (tOr tA tB') := by
  intro wh pins s σ H Q I h
  refine isTrue_or (thn (ha pins s σ H _ I h) fun c s1 ⟨H1, I1, q1⟩ => ?_)
  cases c with
  | true => exact ⟨H1, I1, q1⟩
  | false => exact hb wh pins s1 σ H1 Q I1 q1
theorem pt_not (ha : PT X a tA) : PT X (.UnaryOp .Not a pos) (tNot tA) := by
  intro pins s σ H Q I h
  exact isTrue_not (ha pins s σ H (fun c H1 => Q (!c) H1) I h)
/-- .. as values (bools) -/
def tAndV (ta tb : TE) : TE := fun σ H Q => ta σ H fun x H1 => ∃ c, x = .bl c ∧ if c = true then tb σ H1 Q else Q (.bl false) H1
def tNotV (ta : TE) : TE := fun σ H Q => ta σ H fun x H1 => ∃ c, x = .bl c ∧ Q (.bl (!c)) H1
theorem pe_one {op} {t : TE} (h : PE X a t) : PE X (.BoolOp op [a] pos) t := fun pins s σ H Q I hw => BoolOp_one (h pins s σ H Q I hw)
theorem pe_and (ha : PE X a ta) (hb : PE X (.BoolOp .And (b :: rest) pos) tb) : PE X (.BoolOp .And (a :: b :: rest) pos) (tAndV ta tb) := by
  intro pins s σ H Q I h
  refine BoolOp_and (thn (ha pins s σ H _ I h) fun v s1 ⟨x, H1, I1, r1, q1⟩ => ?_)
  obtain ⟨c, rfl, q1⟩ := q1
  cases r1
  refine wpAny_truthy_bool ?_
  cases c with
  | true => exact hb pins s1 σ H1 Q I1 q1
  | false => exact ⟨.bl false, H1, I1, rfl, q1⟩
theorem pe_not (ha : PE X a ta) : PE X (.UnaryOp .Not a pos) (tNotV ta) := by
  intro pins s σ H Q I h
  refine UnaryOp_ (thn (ha pins s σ H _ I h) fun v s1 ⟨x, H1, I1, r1, q1⟩ => ?_)
  obtain ⟨c, rfl, q1⟩ := q1
  cases r1
  exact not_of (wpAny_truthy_bool ⟨.bl (!c), H1, I1, rfl, q1⟩)
/-- a if t else b -/
def tIf (t : TT) (ta tb : TE) : TE := fun σ H Q => t σ H fun c H1 => if c = true then ta σ H1 Q else tb σ H1 Q
theorem pe_ifExp {c : Expr} (hc : PT X c tA) (ha : PE X a ta) (hb : PE X b tb) : PE X (.IfExp c a b pos) (tIf tA ta tb) := by
  intro pins s σ H Q I h
  refine wpAny_IfExp (thn (hc pins s σ H _ I h) fun d s1 ⟨H1, I1, q1⟩ => ?_)
  cases d with
  | true => exact ha pins s1 σ H1 Q I1 q1
  | false => exact hb pins s1 σ H1 Q I1 q1
end
end L2

namespace L2
open PySem PySem.Spec PyProof.Rows

def SqL (K : PySem.W.Frag) (H : Hp) (a : Addr) (xs : List V) : Prop :=
  Rd H a (.lst xs) ∨
    ∃ (o : Obj) (its : Array Value) (n : Nat), K.lookup a = some o ∧ o.cls = .type "list" ∧ o.dict = none ∧ o.data = .seq its n ∧ its.size ≤ sizeLine ∧ Vals xs its.toList
def SqT (K : PySem.W.Frag) (H : Hp) (a : Addr) (xs : List V) : Prop :=
  Rd H a (.tup xs) ∨
    ∃ (o : Obj) (its : Array Value) (n : Nat), K.lookup a = some o ∧ o.cls = .type "tuple" ∧ o.data = .seq its n ∧ its.size ≤ sizeLine ∧ Vals xs its.toList
def absV : Value → Option V
  | .none => some .non
  | .bool b => some (.bl b)
  | .int i _ => some (.int i)
  | .str x _ => some (.str x)
  | .bytes b _ => some (.byt b)
  | .float b _ => some (.flt b)
  | .ref a => some (.ref a)
  | .type n => some (.ty n)
  | _ => none
theorem RelV.abs {x : V} {u : Value} (r : RelV x u) : absV u = some x := by
  cases x with
  | non => cases r; rfl
  | bl _ => cases r; rfl
  | int _ => obtain ⟨t, rfl⟩ := r; rfl
  | str _ => obtain ⟨t, rfl⟩ := r; rfl
  | byt _ => obtain ⟨t, rfl⟩ := r; rfl
  | flt _ => obtain ⟨t, rfl⟩ := r; rfl
  | ref _ => cases r; rfl
  | ty _ => cases r; rfl
theorem RelV.inj {x y : V} {u : Value} (r : RelV x u) (q : RelV y u) : x = y := Option.some.inj (r.abs.symm.trans q.abs)
theorem Vals.inj : ∀ {xs ys : List V} {us : List Value}, Vals xs us → Vals ys us → xs = ys
  | _, _, _, .nil, .nil => rfl
  | _, _, _, .cons r t, .cons r' t' => by rw [r.inj r', Vals.inj t t']
section
variable {X : Cx} {pins : List (Addr × Obj)} {σ : St} {H : Hp} {s : Shared} {a : Addr} {xs ys : List V}
theorem SqL.of {K : PySem.W.Frag} (h : H a = some (.lst xs)) : SqL K H a xs := .inl (.inl h)
theorem SqT.of {K : PySem.W.Frag} (h : H a = some (.tup xs)) : SqT K H a xs := .inl (.inl h)
theorem Inv.list (I : Inv X pins σ H s) (h : SqL X.K H a xs) : ∃ its : List Value, Vals xs its ∧ PlainL s.heap a its.toArray ∧ xs.length ≤ sizeLine := by
  rcases h with h | ⟨o, its, n, hk, hc, hd, hs, hz, r⟩
  · obtain ⟨z, its, n, r, e⟩ := h.ok I.hok
    exact ⟨its, r, ⟨_, n, e, rfl, rfl, rfl⟩, z⟩
  · refine ⟨its.toList, r, ⟨o, n, I.kIn a o hk, hc, hd, by simpa using hs⟩, ?_⟩
    have e := r.length
    simp only [Array.length_toList] at e
    omega
theorem Inv.tuple (I : Inv X pins σ H s) (h : SqT X.K H a xs) : ∃ its : List Value, Vals xs its ∧ IsTup s.heap a its.toArray ∧ xs.length ≤ sizeLine := by
  rcases h with h | ⟨o, its, n, hk, hc, hs, hz, r⟩
  · obtain ⟨z, its, r, p⟩ := h.ok I.hok
    exact ⟨its, r, p, z⟩
  · refine ⟨its.toList, r, ⟨o, I.kIn a o hk, hc, n, by simpa using hs⟩, ?_⟩
    have e := r.length
    simp only [Array.length_toList] at e
    omega
theorem Inv.list_inj (I : Inv X pins σ H s) (h : SqL X.K H a xs) (h' : SqL X.K H a ys) : xs = ys := by
  obtain ⟨its, r, ⟨o, n, e, _, _, d⟩, _⟩ := I.list h
  obtain ⟨its', r', ⟨o', n', e', _, _, d'⟩, _⟩ := I.list h'
  rw [e] at e'; cases e'
  rw [d] at d'
  injection d' with d1 _
  have : its = its' := by simpa using congrArg Array.toList d1
  subst this
  exact r.inj r'
end

abbrev Cx.wish (X : Cx) (E : Value → Shared → Prop) : Cx := { X with xe := E }
/-- no exception leaves -/
abbrev Cx.nox (X : Cx) : Cx := X.wish fun _ _ => False
theorem Cx.Ok.wish {X : Cx} (ok : X.Ok) (E : Value → Shared → Prop) : (X.wish E).Ok :=
  ⟨ok.mod, ok.kind, ok.glob, ok.blt, ok.above, ok.inj, ok.has, ok.cab, ok.hd, ok.frames, ok.stk, ok.exf, ok.bs, ok.bsz, ok.noex, ok.exfs, ok.funs, ok.frf, ok.tb⟩
theorem Cx.Ok.unwish {X : Cx} {E : Value → Shared → Prop} (ok : (X.wish E).Ok) : X.Ok :=
  ⟨ok.mod, ok.kind, ok.glob, ok.blt, ok.above, ok.inj, ok.has, ok.cab, ok.hd, ok.frames, ok.stk, ok.exf, ok.bs, ok.bsz, ok.noex, ok.exfs, ok.funs, ok.frf, ok.tb⟩
section
variable {X : Cx} {pins : List (Addr × Obj)} {σ : St} {H : Hp} {s : Shared} {E : Value → Shared → Prop}
theorem Inv.wish (I : Inv X pins σ H s) (E : Value → Shared → Prop) : Inv (X.wish E) pins σ H s := ⟨I.ok.wish E, I.os, I.bare, I.base, I.loc, I.cell, I.free, I.freeC, I.pin, I.hok, I.len⟩
theorem Inv.unwish (I : Inv (X.wish E) pins σ H s) : Inv X pins σ H s := ⟨I.ok.unwish, I.os, I.bare, I.base, I.loc, I.cell, I.free, I.freeC, I.pin, I.hok, I.len⟩
theorem SP.unwish {D : Ends} {f : Flow} {s' : Shared} (h : SP (X.wish E) pins D f s') : SP X pins D f s' := by
  cases f with
  | next => obtain ⟨σ', H', I, q⟩ := h; exact ⟨σ', H', I.unwish, q⟩
  | brk => obtain ⟨σ', H', I, q⟩ := h; exact ⟨σ', H', I.unwish, q⟩
  | cont => obtain ⟨σ', H', I, q⟩ := h; exact ⟨σ', H', I.unwish, q⟩
  | ret u => obtain ⟨v, σ', H', I, r, q⟩ := h; exact ⟨v, σ', H', I.unwish, r, q⟩
theorem PE.nox {e : Expr} {t : TE} (h : PE X.nox e t) : PE X e t := fun pins s σ H Q I hw =>
  wpAny_mono (h pins s σ H Q (I.wish _) hw) (fun _ _ ⟨v, H', I', r, q⟩ => ⟨v, H', I'.unwish, r, q⟩) fun _ _ z => False.elim z
theorem PT.nox {e : Expr} {t : TT} (h : PT X.nox e t) : PT X e t := fun pins s σ H Q I hw =>
  wpAny_mono (h pins s σ H Q (I.wish _) hw) (fun _ _ ⟨H', I', q⟩ => ⟨H', I'.unwish, q⟩) fun _ _ z => False.elim z
theorem PSs.nox {st : List Stmt} {t : TS} (h : PSs X.nox st t) : PSs X st t := fun pins s σ H D I hw =>
  wpAny_mono (h pins s σ H D (I.wish _) hw) (fun _ _ q => q.unwish) fun _ _ z => False.elim z
end

section
variable {X : Cx} {st : Stmt} {rest : List Stmt} {t u : TS} {e : Expr} {te : TE} {pos : Pos}
def tNext : TS := fun D σ H => D.nx σ H
def tSeq (t u : TS) : TS := fun D σ H => t { D with nx := u D } σ H
theorem pss_nil : PSs X [] tNext := fun _ _ σ H _ I h => wpAny_execs_nil ⟨σ, H, I, h⟩
theorem pss_cons (h1 : PS X st t) (h2 : PSs X rest u) : PSs X (st :: rest) (tSeq t u) := by
  intro pins s σ H D I h
  refine wpAny_execs_cons (thn (h1 pins s σ H { D with nx := u D } I h) fun f s1 q => ?_)
  cases f with
  | next =>
    obtain ⟨σ', H', I', q⟩ := q
    exact h2 pins s1 σ' H' D I' q
  | ret v => exact q
  | brk => exact q
  | cont => exact q
theorem pss_one (h1 : PS X st t) : PSs X [st] t := by
  intro pins s σ H D I h
  refine wpAny_execs_cons (thn (h1 pins s σ H D I h) fun f s1 q => ?_)
  cases f with
  | next => exact wpAny_execs_nil q
  | ret v => exact q
  | brk => exact q
  | cont => exact q
/-- in a def's body nothing is shown -/
theorem Inv.quiet {pins : List (Addr × Obj)} {σ : St} {H : Hp} {s : Shared} (I : Inv X pins σ H s) : interactive X.env = false := by simp [interactive, I.ok.kind]
/-- an expression whose value is dropped -/
def tDrop (te : TE) : TS := fun D σ H => te σ H fun _ H1 => D.nx σ H1
theorem ps_expr (he : PE X e te) (hs : swapsWith e none pos.line X.env = pure false := by rfl) : PS X (.Expr e pos) (tDrop te) := by
  intro pins s σ H D I h
  exact wpAny_Expr_any (thn (he pins s σ H _ I h) fun v s1 ⟨x, H1, I1, r1, q1⟩ => ⟨σ, H1, I1, q1⟩) I.quiet hs
def tRet (te : TE) : TS := fun D σ H => te σ H D.rt
theorem ps_ret (he : PE X e te) : PS X (.Return (some e) pos) (tRet te) := by
  intro pins s σ H D I h
  exact wpAny_Return_some (thn (he pins s σ H _ I h) fun v s1 ⟨x, H1, I1, r1, q1⟩ => ⟨x, σ, H1, I1, r1, q1⟩)
def tIfS (c : TT) (t u : TS) : TS := fun D σ H => c σ H fun b H1 => if b = true then t D σ H1 else u D σ H1
theorem ps_if {c : Expr} {a b : List Stmt} {tc : TT} (hc : PT X c tc) (ha : PSs X a t) (hb : PSs X b u) : PS X (.If c a b pos) (tIfS tc t u) := by
  intro pins s σ H D I h
  refine wpAny_If (thn (hc pins s σ H _ I h) fun d s1 ⟨H1, I1, q1⟩ => ?_)
  cases d with
  | true => exact ha pins s1 σ H1 D I1 q1
  | false => exact hb pins s1 σ H1 D I1 q1
/-- code that the proof never comes to -/
def tNever : TS := fun _ _ _ => False
theorem ps_never : PS X st tNever := fun _ _ _ _ _ _ h => h.elim
end

abbrev TG := V → St → Hp → (St → Hp → Prop) → Prop
abbrev TGs := List V → St → Hp → (St → Hp → Prop) → Prop
def PG (X : Cx) (target : Expr) (t : TG) : Prop :=
  ∀ (pins : List (Addr × Obj)) (s : Shared) (σ : St) (H : Hp) (v : V) (u : Value) (Q : St → Hp → Prop), Inv X pins σ H s → RelV v u → t v σ H Q →
    wpAny (model X.prog X.w) X.A (assign target X.env u) (fun _ s' => ∃ σ' H', Inv X pins σ' H' s' ∧ Q σ' H') X.xe s
/-- several targets, one after another -/
def PGs (X : Cx) (ts : List Expr) (t : TGs) : Prop :=
  ∀ (pins : List (Addr × Obj)) (s : Shared) (σ : St) (H : Hp) (vs : List V) (us : List Value) (Q : St → Hp → Prop), Inv X pins σ H s → Vals vs us → t vs σ H Q →
    wpAny (model X.prog X.w) X.A (assignInOrder ((assignEach ts X.env).map (·.2)) us) (fun _ s' => ∃ σ' H', Inv X pins σ' H' s' ∧ Q σ' H') X.xe s
/-- o[i] = v, by values -/
abbrev TSet := V → V → V → Hp → (Hp → Prop) → Prop
def PSet (X : Cx) (t : TSet) : Prop :=
  ∀ (pins : List (Addr × Obj)) (s : Shared) (σ : St) (H : Hp) (o i v : V) (ov iv u : Value) (Q : Hp → Prop), Inv X pins σ H s → RelV o ov → RelV i iv → RelV v u → t o i v H Q →
    wpAny (model X.prog X.w) X.A (setItem ov iv u) (fun _ s' => ∃ H', Inv X pins σ H' s' ∧ Q H') X.xe s
section
variable {X : Cx} {pos : Pos}
def gName (i : Nat) : TG := fun v σ H Q => Q (σ.set i (some v)) H
theorem pg_name {i : Nat} {x : Str} (hN : X.N.Nodup) (hi : X.N[i]? = some x) (hx : Loc X.env.scope x) (hf : X.fn x = true ∨ X.env.scope.names.lookup x = some .local := by first | exact .inl rfl | exact .inr rfl | assumption) : PG X (.Name x pos) (gName i) := by
  intro pins s σ H v u Q I r h
  exact wpAny_assign_Name (store_ok I hN hi hx r (fun s' I' => ⟨_, H, I', h⟩) hf)
def gNil : TGs := fun vs σ H Q => vs = [] ∧ Q σ H
def gCons (t : TG) (u : TGs) : TGs := fun vs σ H Q => ∃ v r, vs = v :: r ∧ t v σ H fun σ' H' => u r σ' H' Q
theorem pgs_nil : PGs X [] gNil := by
  intro pins s σ H vs us Q I r h
  obtain ⟨e, h⟩ := h
  subst e
  cases r
  exact assignInOrder_nil ⟨σ, H, I, h⟩
theorem pgs_cons {e : Expr} {es : List Expr} {t : TG} {u : TGs} (h1 : PG X e t) (h2 : PGs X es u)
    (hs : (assignEach (e :: es) X.env).map (·.2) = assign e X.env :: (assignEach es X.env).map (·.2) := by rfl) : PGs X (e :: es) (gCons t u) := by
  intro pins s σ H vs us Q I r h
  obtain ⟨v, vr, e1, h⟩ := h
  subst e1
  cases r with
  | cons r rr =>
    rw [hs]
    refine assignInOrder_cons (thn (h1 pins s σ H _ _ _ I r h) fun _ s1 ⟨σ1, H1, I1, q1⟩ => ?_)
    exact h2 pins s1 σ1 H1 _ _ Q I1 rr q1
/-- (a, b, ..) = a tuple of that length -/
def gTup (K : PySem.W.Frag) (n : Nat) (t : TGs) : TG := fun v σ H Q => ∃ a xs, v = .ref a ∧ SqT K H a xs ∧ xs.length = n ∧ t xs σ H Q
theorem pg_tup {es : List Expr} {k : Nat} {t : TGs} {n : Nat} (hc : X.calm = true) (h : PGs X es t)
    (hn : (assignEach es X.env).length = n := by rfl) (hst : (assignEach es X.env).findIdx? (·.1) = none := by rfl) : PG X (.Tuple es k pos) (gTup X.K n t) := by
  intro pins s σ H v u Q I r hw
  obtain ⟨a, xs, e1, hq, hl, hw⟩ := hw
  subst e1
  cases r
  obtain ⟨its, rv, ht, hz⟩ := I.tuple hq
  refine assign_Tuple_tuple (I.ok.hd hc) ht (by simp [hn, ← hl, rv.length]) hst fun h' hx => ?_
  have I1 : Inv X pins σ H { s with heap := h' } := I.kept (t' := s.toks) fun b o e => hx b o (Nat.ne_of_lt (Heap.lt_size e)) e
  exact h pins _ σ H xs _ Q I1 (by simpa using rv) hw
/-- o[i] = .. -/
def gSub (to ti : TE) (t : TSet) : TG := fun v σ H Q => to σ H fun o H1 => ti σ H1 fun i H2 => t o i v H2 fun H3 => Q σ H3
theorem pg_sub {o i : Expr} {to ti : TE} {t : TSet} (ho : PE X o to) (hi : PE X i ti) (hs : PSet X t)
    (ha : ∀ v, assign (.Subscript o i pos) X.env v = (do
      let ov ← holding [v] (eval o X.env)
      let iv ← holding [v, ov] (eval i X.env)
      standAt pos
      holding [v, ov, iv] (setItem ov iv v)
      release [v, ov, iv] []) := by intro _; rfl) : PG X (.Subscript o i pos) (gSub to ti t) := by
  intro pins s σ H v u Q I r h
  rw [ha]
  refine wpAny_bind (wpAny_holding (thn (ho pins s σ H _ I h) fun ov s1 ⟨x, H1, I1, r1, q1⟩ => ?_))
  refine wpAny_bind (wpAny_holding (thn (hi pins s1 σ H1 _ I1 q1) fun iv s2 ⟨y, H2, I2, r2, q2⟩ => ?_))
  refine wpAny_bind (wpAny_standAt (wpAny_bind (wpAny_holding (thn (hs pins s2 σ H2 x y v ov iv u _ I2 r1 r2 r q2) fun _ s3 ⟨H3, I3, q3⟩ => ?_))))
  exact wpAny_release ⟨σ, H3, I3, q3⟩
/-- target = value -/
def tAsg (te : TE) (g : TG) : TS := fun D σ H => te σ H fun x H1 => g x σ H1 D.nx
theorem ps_asg {tg e : Expr} {te : TE} {g : TG} (he : PE X e te) (hg : PG X tg g) (hs : swapsWithSole [tg] e pos.line X.env = pure false := by rfl) (hw : swappedStores [tg] e X.env = pure none := by rfl)
    (h1 : (assignEach [tg] X.env).map (·.2) = [assign tg X.env] := by rfl) : PS X (.Assign [tg] e pos) (tAsg te g) := by
  intro pins s σ H D I h
  refine wpAny_Assign_stores (thn (he pins s σ H _ I h) fun v s1 ⟨x, H1, I1, r1, q1⟩ => ?_) hs hw
  rw [h1]
  exact thn (hg pins s1 σ H1 x v _ I1 r1 q1) fun _ s2 q => q
/-- name = value -/
theorem ps_set {i : Nat} {x : Str} {e : Expr} {te : TE} {pos' : Pos} (hN : X.N.Nodup) (hi : X.N[i]? = some x) (hx : Loc X.env.scope x) (he : PE X e te) (hs : swapsWith e (some (.Name x pos')) pos.line X.env = pure false := by rfl) (hf : X.fn x = true ∨ X.env.scope.names.lookup x = some .local := by first | exact .inl rfl | exact .inr rfl | assumption) :
    PS X (.Assign [.Name x pos'] e pos) (tAsg te (gName i)) := by
  intro pins s σ H D I h
  refine wpAny_Assign_Name (thn (he pins s σ H _ I h) fun v s1 ⟨y, H1, I1, r1, q1⟩ => ?_) hs
  exact store_ok I1 hN hi hx r1 (fun s2 I2 => ⟨_, H1, I2, q1⟩) hf
end

section
variable {X : Cx} {pos : Pos}
/-- the invariant W with its measure -/
def tWhile (c : TT) (tb : TS) : TS := fun D σ H => ∃ W : Nat → St → Hp → Prop, (∃ m, W m σ H) ∧ ∀ m σ H, W m σ H →
  c σ H fun b H1 => if b = true then ∃ N : St → Hp → Prop, (∀ σ' H', N σ' H' → ∃ m', m' < m ∧ W m' σ' H') ∧ tb { D with nx := N, ct := N, bk := D.nx } σ H1 else D.nx σ H1
theorem ps_while {c : Expr} {body : List Stmt} {tc : TT} {tb : TS} (hp : PassesOwn (model X.prog X.w) X.A X.env X.xe) (hc : PT X c tc) (hb : PSs X body tb) : PS X (.While c body [] pos) (tWhile tc tb) := by
  intro pins s σ H D I h
  obtain ⟨W, ⟨m0, w0⟩, turn⟩ := h
  refine wpAny_While (codeAny_whileLoop (fun n s' => ∃ σ' H', Inv X pins σ' H' s' ∧ W n σ' H') ?_ m0 ⟨σ, H, I, w0⟩)
  rintro n s1 ⟨σ1, H1, I1, w1⟩
  refine wpAny_passesOwn hp (thn (hc pins s1 σ1 H1 _ I1 (turn n σ1 H1 w1)) fun b s2 ⟨H2, I2, q2⟩ => ?_)
  cases b with
  | true =>
    obtain ⟨N, hN, q2⟩ := q2
    rw [if_pos rfl]
    refine wpAny_passesOwn hp (thn (hb pins s2 σ1 H2 _ I2 q2) fun f s3 q3 => ?_)
    cases f with
    | next =>
      obtain ⟨σ3, H3, I3, n3⟩ := q3
      obtain ⟨m', hm, w3⟩ := hN σ3 H3 n3
      exact ⟨m', hm, σ3, H3, I3, w3⟩
    | cont =>
      obtain ⟨σ3, H3, I3, n3⟩ := q3
      obtain ⟨m', hm, w3⟩ := hN σ3 H3 n3
      exact ⟨m', hm, σ3, H3, I3, w3⟩
    | brk => exact q3
    | ret v => exact q3
  | false =>
    rw [if_neg Bool.false_ne_true]
    exact wpAny_execs_nil ⟨σ1, H2, I2, q2⟩
end

/-- at turn i: it yields x (the heap may grow), or it stops -/
structure It where
  go : Nat → Hp → Prop
  yld : Nat → Hp → V → Hp → Prop
  stop : Nat → Hp → Prop
/-- the iterator's own objects may turn: they are not the frame's, not pinned, younger than the entry (or a comprehension's own) -/
def FpOk (X : Cx) (pins : List (Addr × Obj)) (H : Hp) (b : Addr) : Prop :=
  H b = none ∧ b ≠ X.env.locals ∧ b ∉ X.fs ∧ (b ∈ X.ex ∨ X.s_0.heap.objs.size ≤ b) ∧ (∀ x c, X.env.cells.lookup x = some c → c ≠ b) ∧ ∀ p ∈ X.pn ++ pins, p.1 ≠ b
theorem Inv.fpOk {X : Cx} {pins : List (Addr × Obj)} {σ : St} {H H' : Hp} {s : Shared} {b : Addr} (I : Inv X pins σ H s) (hb : s.heap.objs.size ≤ b) (hn : H' b = none) : FpOk X pins H' b := by
  refine ⟨hn, Nat.ne_of_gt (Nat.lt_of_lt_of_le I.lt hb), I.nofs hb, .inr (Nat.le_trans I.sz hb), fun x c e z => ?_, fun p hp z => ?_⟩
  · obtain ⟨v, q⟩ := I.cell x c e
    exact absurd (Nat.lt_of_lt_of_le q.lt (by rw [z]; exact hb)) (Nat.lt_irrefl _)
  · exact absurd (Nat.lt_of_lt_of_le (Heap.lt_size (I.pin p hp).1) (by rw [z]; exact hb)) (Nat.lt_irrefl _)
structure Turn (P : Program) (w : World) (K : PySem.W.Frag) (tg : Expr) (J : It) (fp : List Addr) (it : Addr) (tn : Nat → Heap → Prop) : Prop where
  mem : it ∈ fp
  obj : ∀ i h, tn i h → ∀ b ∈ fp, ∃ o, h.get? b = some o ∧ ∀ v, o.data ≠ .cell v
  keep : ∀ i h h', tn i h → (∀ b ∈ fp, ∀ o, h.get? b = some o → h'.get? b = some o) → tn i h'
  item : ∀ (X : Cx), X.prog = P → X.w = w → X.K = K → X.calm = true → ∀ (i : Nat) (pins : List (Addr × Obj)) (s : Shared) (σ : St) (H : Hp) (E : Value → Shared → Prop), Inv X pins σ H s → (∀ b ∈ fp, FpOk X pins H b) → tn i s.heap → J.go i H →
    wpAny (model P w) X.A (pyNext (.ref it)) (fun r s1 => ∃ u, r = some u ∧
      wpAny (model P w) X.A (letOwnedTupleGo tg (.ref it) u) (fun _ s2 => ∃ x H', Inv X pins σ H' s2 ∧ RelV x u ∧ J.yld i H x H' ∧ tn (i + 1) s2.heap ∧ ∀ b ∈ fp, H' b = none) E s1) E s
  done : ∀ (X : Cx), X.prog = P → X.w = w → X.K = K → X.calm = true → ∀ (i : Nat) (pins : List (Addr × Obj)) (s : Shared) (σ : St) (H : Hp) (E : Value → Shared → Prop), Inv X pins σ H s → (∀ b ∈ fp, FpOk X pins H b) → tn i s.heap → J.stop i H →
    wpAny (model P w) X.A (pyNext (.ref it)) (fun r s1 => r = none ∧ Inv X pins σ H s1) E s
  self : ∀ (A : Around) (i : Nat) (s : Shared) (Q : Value → Shared → Prop) (E : Value → Shared → Prop), tn i s.heap → Q (.ref it) s → wpAny (model P w) A (pyIter (.ref it)) Q E s
abbrev TI := St → Hp → (It → Hp → Prop) → Prop
/-- an iterator has come -/
def PIE (X : Cx) (pins : List (Addr × Obj)) (σ : St) (tg : Expr) (R : It → Hp → Prop) (itv : Value) (s2 : Shared) : Prop :=
  ∃ (it : Addr) (fp : List Addr) (tn : Nat → Heap → Prop) (J : It) (H' : Hp), itv = .ref it ∧ Inv X pins σ H' s2 ∧ Turn X.prog X.w X.K tg J fp it tn ∧ tn 0 s2.heap ∧ (∀ b ∈ fp, FpOk X pins H' b) ∧ R J H'
def PI (X : Cx) (tg iter : Expr) (wi : TI) : Prop :=
  ∀ (pins : List (Addr × Obj)) (s : Shared) (σ : St) (H : Hp) (R : It → Hp → Prop), Inv X pins σ H s → wi σ H R →
    wpAny (model X.prog X.w) X.A (eval iter X.env) (fun v s1 => wpAny (model X.prog X.w) X.A (pyIter v) (PIE X pins σ tg R) X.xe s1) X.xe s

/-- the step ahead of the store is nothing for an iterator that keeps no tuple -/
theorem go_of {M : Model} {A : Around} {E : Value → Shared → Prop} {s : Shared} {tg : Expr} {it : Addr} {u : Value} {o : Obj} {n : String} {vs : Array Value} {Q : Unit → Shared → Prop} (ho : s.heap.get? it = some o) (hc : o.cls = .type n) (hd : o.data = .fields vs)
    (hn : ["enumerate", "zip", "dict_itemiterator", "dict_reverseitemiterator", "odict_iterator", "itertools.zip_longest", "itertools.pairwise"].contains n = false) (hQ : Q () s) : wpAny M A (letOwnedTupleGo tg (.ref it) u) Q E s := by
  unfold letOwnedTupleGo
  cases tg <;> first
    | exact wpAny_pure hQ
    | (cases u <;> first
        | exact wpAny_pure hQ
        | (refine wpAny_bind (wpAny_load ho ?_)
           rw [hc, hd]
           show wpAny M A (if (["enumerate", "zip", "dict_itemiterator", "dict_reverseitemiterator", "odict_iterator", "itertools.zip_longest", "itertools.pairwise"].contains n && vs[0]? == some (rawInt _)) = true then _ else _) Q E s
           rw [if_neg (by intro h; rw [hn, Bool.false_and] at h; cases h)]
           exact wpAny_pure hQ))

/-- the list at a, as it stands at each turn (a loop may append to it) -/
def Itl (K : PySem.W.Frag) (a : Addr) : It :=
  ⟨fun i H => ∃ xs x, SqL K H a xs ∧ xs[i]? = some x, fun i H x H' => H' = H ∧ ∀ xs, SqL K H a xs → xs[i]? = some x, fun i H => ∃ xs, SqL K H a xs ∧ xs.length ≤ i⟩
/-- lo, lo + 1, .. (n of them) -/
def Itr (lo : Int) (n : Nat) : It := ⟨fun i _ => i < n, fun i H x H' => H' = H ∧ x = .int (lo + i), fun i _ => n ≤ i⟩
theorem turn_list {P : Program} {w : World} {K : PySem.W.Frag} {tg : Expr} (a it : Addr) : Turn P w K tg (Itl K a) [it] it (fun i h => h.IsListIter it a i) where
  mem := by simp
  obj := fun i h st b hb => by
    have e : b = it := by simpa using hb
    subst e
    obtain ⟨o, e, c, d⟩ := st
    exact ⟨o, e, fun v z => by rw [d] at z; cases z⟩
  keep := fun i h h' st k => st.at fun o e => k it (by simp) o e
  item := by
    intro X hP hw hK hc i pins s σ H E I hf st hg
    subst hP hw hK
    obtain ⟨xs, x, hq, hx⟩ := hg
    obtain ⟨its, rv, p, hz⟩ := I.list hq
    obtain ⟨u, hu, ru⟩ := rv.get hx
    obtain ⟨f0, f1, f2, f3, f4, f5⟩ := hf it (by simp)
    refine wpAny_pyNext_list_item st p.isList (x := u) (by simpa using hu) fun h' st' sb => ?_
    have I1 : Inv X pins σ H { s with heap := h' } := I.turned (t' := s.toks) (fun b o hb e => (sb.2 b hb).trans e) f0 f1 f3 f4 f5
    obtain ⟨o, e, c, d⟩ := id st'
    exact ⟨u, rfl, go_of (s := { s with heap := h' }) e c d (by decide) ⟨x, H, I1, ru, ⟨rfl, fun ys hy => by rw [I.list_inj hy hq]; exact hx⟩, st', fun b hb => (hf b hb).1⟩⟩
  done := by
    intro X hP hw hK hc i pins s σ H E I hf st hg
    subst hP hw hK
    obtain ⟨xs, hq, hx⟩ := hg
    obtain ⟨its, rv, p, hz⟩ := I.list hq
    obtain ⟨f0, f1, f2, f3, f4, f5⟩ := hf it (by simp)
    have hl := rv.length
    exact wpAny_pyNext_list_end (I.ok.hd hc) st p.isList (by simp; omega) fun h' eb => ⟨rfl, I.turned (t' := s.toks) (fun b o hb e => eb b o hb e) f0 f1 f3 f4 f5⟩
  self := fun _ _ _ _ _ st h => wpAny_pyIter_listiter st h
theorem turn_range {P : Program} {w : World} {K : PySem.W.Frag} {tg : Expr} (it : Addr) (lo : Int) (n : Nat) : Turn P w K tg (Itr lo n) [it] it (fun i h => IsRangeIter h it (lo + (i : Nat) * 1) ((n : Int) - (i : Nat)) 1) where
  mem := by simp
  obj := fun i h st b hb => by
    have e : b = it := by simpa using hb
    subst e
    exact ⟨_, st, fun v z => by
      have z' : Data.fields _ = Data.cell v := z
      cases z'⟩
  keep := fun i h h' st k => k it (by simp) _ st
  item := by
    intro X hP hw hK hc i pins s σ H E I hf st hg
    subst hP hw hK
    obtain ⟨f0, f1, f2, f3, f4, f5⟩ := hf it (by simp)
    have W := Walks.range (prog := X.prog) (w := X.w) (I.ok.hd hc) it lo 1 n
    refine W.item i s _ _ hg st fun v h' tk hv st' kk => ?_
    obtain ⟨t, rfl⟩ := hv
    have I1 : Inv X pins σ H { s with heap := h', toks := tk } := I.turned (fun b o hb e => kk b o (by simpa using hb) e) f0 f1 f3 f4 f5
    refine ⟨_, rfl, go_of (s := { s with heap := h', toks := tk }) (n := "range_iterator") st' rfl rfl (by decide) ⟨.int (lo + i), H, I1, ⟨t, ?_⟩, ⟨rfl, rfl⟩, st', fun b hb => (hf b hb).1⟩⟩
    rw [Int.mul_one]
  done := by
    intro X hP hw hK hc i pins s σ H E I hf st hg
    subst hP hw hK
    obtain ⟨f0, f1, f2, f3, f4, f5⟩ := hf it (by simp)
    exact wpAny_pyNext_range_end (I.ok.hd hc) st (by have : n ≤ i := hg; omega) fun h' eb => ⟨rfl, I.turned (t' := s.toks) (fun b o hb e => eb b o hb e) f0 f1 f3 f4 f5⟩
  self := fun _ _ _ _ _ st h => wpAny_pyIter_rangeiter st h
end L2

namespace L2
open PySem PySem.Spec PyProof.Rows
section
variable {X : Cx} {tg : Expr}
def iList (K : PySem.W.Frag) (tl : TE) : TI := fun σ H R => tl σ H fun x H1 => ∃ a, x = .ref a ∧ (∃ xs, SqL K H1 a xs) ∧ R (Itl K a) H1
theorem pi_list {l : Expr} {tl : TE} (hl : PE X l tl) : PI X tg l (iList X.K tl) := by
  intro pins s σ H R I h
  refine thn (hl pins s σ H _ I h) fun v s1 ⟨x, H1, I1, r1, q1⟩ => ?_
  obtain ⟨a, e, ⟨xs, hq⟩, q⟩ := q1
  subst e
  cases r1
  obtain ⟨its, rv, p, hz⟩ := I1.list hq
  refine wpAny_pyIter_list p.isList ?_
  refine ⟨s1.heap.objs.size, [s1.heap.objs.size], _, _, H1, rfl, I1.kept (t' := s1.toks) fun b o e => Heap.get?_push_of_some _ e, turn_list a _, ⟨_, Heap.get?_push_size _ rfl, rfl, rfl⟩, fun b hb => ?_, q⟩
  have e : b = s1.heap.objs.size := by simpa using hb
  subst e
  exact I1.fpOk (Nat.le_refl _) (I1.hok.fresh (Nat.le_refl _))
/-- a range object just made, walked -/
theorem range_it {pins : List (Addr × Obj)} {σ : St} {H : Hp} {s : Shared} {R : It → Hp → Prop} {E : Value → Shared → Prop} {lo hi : Int} {t u v : Tok} {tk : Nat} (I : Inv X pins σ H s) (h1 : -(2 ^ 62) ≤ lo) (h2 : lo < 2 ^ 62) (h3 : -(2 ^ 62) ≤ hi) (h4 : hi < 2 ^ 62)
    (q : R (Itr lo (hi - lo).toNat) H) : wpAny (model X.prog X.w) X.A (pyIter (.ref s.heap.objs.size)) (PIE X pins σ tg R) E { s with heap := s.heap.push { cls := .type "range", data := .fields #[.int lo t, .int hi u, .int 1 v] }, toks := tk } := by
  refine wpAny_pyIter_range (IsRange.new ..) (small_one h1 h2 h3 h4) ?_
  have I1 : Inv X pins σ H { s with heap := s.heap.push { cls := .type "range", data := .fields #[.int lo t, .int hi u, .int 1 v] }, toks := tk } := I.kept fun b o e => Heap.get?_push_of_some _ e
  refine ⟨(s.heap.push { cls := .type "range", data := .fields #[.int lo t, .int hi u, .int 1 v] }).objs.size, [(s.heap.push { cls := .type "range", data := .fields #[.int lo t, .int hi u, .int 1 v] }).objs.size], _, _, H, rfl,
    I1.kept (t' := tk) fun b o e => Heap.get?_push_of_some _ e, turn_range _ lo (hi - lo).toNat, ?_, fun b hb => ?_, q⟩
  · have e1 : lo + ((0 : Nat) : Int) * 1 = lo := by simp
    have e2 : (((hi - lo).toNat : Nat) : Int) - ((0 : Nat) : Int) = Builtin.Range.rangeSize lo hi 1 := by rw [rangeSize_one]; split <;> omega
    show IsRangeIter _ _ (lo + ((0 : Nat) : Int) * 1) ((((hi - lo).toNat : Nat) : Int) - ((0 : Nat) : Int)) 1
    rw [e1, e2]
    exact Heap.get?_push_size _ rfl
  · have e : b = (s.heap.push { cls := .type "range", data := .fields #[.int lo t, .int hi u, .int 1 v] }).objs.size := by simpa using hb
    subst e
    exact I1.fpOk (Nat.le_refl _) (I1.hok.fresh (Nat.le_refl _))
def iRng1 (ta : TA) : TI := fun σ H R => ta σ H fun vs H1 => ∃ j : Int, vs = [.int j] ∧ -(2 ^ 62) ≤ j ∧ j < 2 ^ 62 ∧ R (Itr 0 j.toNat) H1
theorem pi_range1 {a : Expr} {ta : TA} {p pos : Pos} (hg : Gl X "range") (hm : X.mg "range" = none) (ha : PA X [a] ta) (hs : starEach [a] X.env = [(false, eval a X.env)] := by rfl) : PI X tg (.Call (.Name "range" p) [a] [] pos) (iRng1 ta) := by
  intro pins s σ H R I h
  refine Call_ (ld_blt I hg hm boot_range (PyProof.Rows.callWith_type1 (thn (ha pos pins s σ H _ I h) fun us s1 ⟨vs, H1, I1, r1, q1⟩ => ?_) hs rfl))
  obtain ⟨j, e, q1, q2, q⟩ := q1
  subst e
  cases r1 with
  | cons r rr =>
    cases rr
    obtain ⟨t, rfl⟩ := r
    exact call_range_1 (range_it I1 (by omega) (by omega) q1 q2 (by simpa using q))
/-- W: the invariant by the turn and a measure; N: what the body is to reach -/
def tFor (wi : TI) (g : TG) (tb : TS) : TS := fun D σ H => wi σ H fun J H1 => ∃ W : Nat → Nat → St → Hp → Prop, (∃ m, W 0 m σ H1) ∧ ∀ i m σ H, W i m σ H →
  (J.stop i H ∧ D.nx σ H) ∨ (J.go i H ∧ ∃ N : St → Hp → Prop, (∀ σ' H', N σ' H' → ∃ m', m' < m ∧ W (i + 1) m' σ' H') ∧ ∀ x H', J.yld i H x H' → g x σ H' fun σ2 H2 => tb { D with nx := N, ct := N, bk := D.nx } σ2 H2)
/-- the records at fp as they stand -/
def pinsAt (fp : List Addr) (h : Heap) : List (Addr × Obj) := fp.filterMap fun b => (h.get? b).map fun o => (b, o)
theorem mem_pinsAt {fp : List Addr} {h : Heap} {b : Addr} {o : Obj} (hb : b ∈ fp) (e : h.get? b = some o) : (b, o) ∈ pinsAt fp h := List.mem_filterMap.mpr ⟨b, hb, by rw [e]; rfl⟩
theorem of_pinsAt {fp : List Addr} {h : Heap} {p : Addr × Obj} (hp : p ∈ pinsAt fp h) : p.1 ∈ fp ∧ h.get? p.1 = some p.2 := by
  obtain ⟨b, hb, e⟩ := List.mem_filterMap.mp hp
  cases q : h.get? b with
  | none => rw [q] at e; cases e
  | some o =>
    rw [q] at e
    have e' : (b, o) = p := Option.some.inj e
    subst e'
    exact ⟨hb, q⟩
theorem Inv.pinned {pins : List (Addr × Obj)} {σ : St} {H : Hp} {s : Shared} {fp : List Addr} (I : Inv X pins σ H s) (hf : ∀ b ∈ fp, FpOk X pins H b) (ho : ∀ b ∈ fp, ∃ o, s.heap.get? b = some o ∧ ∀ v, o.data ≠ .cell v) : Inv X (pins ++ pinsAt fp s.heap) σ H s :=
  I.pins_of fun p hp => (List.mem_append.mp hp).elim (fun z => I.pin p (List.mem_append_right _ z)) fun z => by
    obtain ⟨hb, e⟩ := of_pinsAt z
    obtain ⟨f0, f1, f2, _⟩ := hf p.1 hb
    obtain ⟨o, e', d⟩ := ho p.1 hb
    rw [e] at e'; cases e'
    exact ⟨e, f0, f1, f2, d⟩
theorem Inv.unpinned {pins pl : List (Addr × Obj)} {σ : St} {H : Hp} {s : Shared} (I : Inv X (pins ++ pl) σ H s) : Inv X pins σ H s := I.pins_of fun p hp => I.pin p (List.mem_append_right _ (List.mem_append_left _ hp))
theorem ps_for {iter : Expr} {body : List Stmt} {wi : TI} {g : TG} {tb : TS} {pos : Pos} (hp : PassesOwn (model X.prog X.w) X.A X.env X.xe) (hc : X.calm = true) (hi : PI X tg iter wi) (hg : PG X tg g) (hb : PSs X body tb)
    (hs : ∀ x, foldedSetIterable iter X.env x = pure x := by intro _; rfl) : PS X (.For tg iter body [] pos) (tFor wi g tb) := by
  intro pins s σ H D I h
  refine wpAny_For (thn (hi pins s σ H _ I h) fun v s1 h1 => thn h1 fun itv s2 h2 => ?_) hs
  obtain ⟨it, fp, tn, J, H2, e, I2, T, st2, f2, W, ⟨m0, w0⟩, turn⟩ := h2
  subst e
  -- what stays true of the iterator's objects through the loop
  have stat : ∀ {H' : Hp}, (∀ b ∈ fp, H' b = none) → ∀ b ∈ fp, FpOk X pins H' b := fun hn b hb => ⟨hn b hb, (f2 b hb).2⟩
  refine codeAny_forLoop_any (fun n s' => ∃ i σ' H', Inv X pins σ' H' s' ∧ tn i s'.heap ∧ (∀ b ∈ fp, H' b = none) ∧ W i n σ' H') ?_ m0 ⟨0, σ, H2, I2, st2, fun b hb => (f2 b hb).1, w0⟩
  rintro n s3 ⟨i, σ3, H3, I3, st3, fr3, w3⟩
  rcases turn i n σ3 H3 w3 with ⟨stop, qn⟩ | ⟨go, N, hN, step⟩
  · refine wpAny_passesOwn hp (thn (T.done X rfl rfl rfl hc i pins s3 σ3 H3 X.xe I3 (stat fr3) st3 stop) fun r s4 ⟨hr, I4⟩ => ?_)
    subst hr
    exact wpAny_execs_nil ⟨σ3, H3, I4, qn⟩
  · refine wpAny_passesOwn hp (thn (T.item X rfl rfl rfl hc i pins s3 σ3 H3 X.xe I3 (stat fr3) st3 go) fun r s4 ⟨u, hr, h4⟩ => ?_)
    subst hr
    refine wpAny_passesOwn hp (thn h4 fun _ s5 ⟨x, H5, I5, r5, y5, st5, fr5⟩ => ?_)
    have I5' := I5.pinned (stat fr5) (T.obj _ _ st5)
    refine wpAny_passesOwn hp (thn (hg _ s5 σ3 H5 x u _ I5' r5 (step x H5 y5)) fun _ s6 ⟨σ6, H6, I6, q6⟩ => ?_)
    refine wpAny_passesOwn hp (thn (hb _ s6 σ6 H6 _ I6 q6) fun f s7 q7 => ?_)
    have again : ∀ {σ7 : St} {H7 : Hp}, Inv X (pins ++ pinsAt fp s5.heap) σ7 H7 s7 → N σ7 H7 → ∃ m, m < n ∧ ∃ i σ' H', Inv X pins σ' H' s7 ∧ tn i s7.heap ∧ (∀ b ∈ fp, H' b = none) ∧ W i m σ' H' := fun {σ7 H7} I7 n7 => by
      obtain ⟨m', hm, w7⟩ := hN σ7 H7 n7
      refine ⟨m', hm, i + 1, σ7, H7, I7.unpinned, T.keep _ _ _ st5 fun b hb o e => (I7.pin (b, o) (List.mem_append_right _ (List.mem_append_right _ (mem_pinsAt hb e)))).1, fun b hb => ?_, w7⟩
      obtain ⟨o, e, d⟩ := T.obj _ _ st5 b hb
      exact (I7.pin (b, o) (List.mem_append_right _ (List.mem_append_right _ (mem_pinsAt hb e)))).2.1
    cases f with
    | next => obtain ⟨σ7, H7, I7, n7⟩ := q7; exact again I7 n7
    | cont => obtain ⟨σ7, H7, I7, n7⟩ := q7; exact again I7 n7
    | brk => obtain ⟨σ7, H7, I7, q7⟩ := q7; exact ⟨σ7, H7, I7.unpinned, q7⟩
    | ret v => obtain ⟨x7, σ7, H7, I7, r7, q7⟩ := q7; exact ⟨x7, σ7, H7, I7.unpinned, r7, q7⟩
end

/-- over a list that the body leaves as it is -/
theorem for_list {K : PySem.W.Frag} {a : Addr} {xs : List V} {g : TG} {tb : TS} {D : Ends} {σ : St} {H : Hp} (Pv : Nat → St → Hp → Prop) (h0 : Pv 0 σ H) (hl : ∀ i σ H, i ≤ xs.length → Pv i σ H → SqL K H a xs)
    (hs : ∀ i x σ H, xs[i]? = some x → Pv i σ H → g x σ H fun σ2 H2 => tb { D with nx := Pv (i + 1), ct := Pv (i + 1), bk := D.nx } σ2 H2) (hd : ∀ σ H, Pv xs.length σ H → D.nx σ H) :
    ∃ W : Nat → Nat → St → Hp → Prop, (∃ m, W 0 m σ H) ∧ ∀ i m σ H, W i m σ H →
      ((Itl K a).stop i H ∧ D.nx σ H) ∨ ((Itl K a).go i H ∧ ∃ N : St → Hp → Prop, (∀ σ' H', N σ' H' → ∃ m', m' < m ∧ W (i + 1) m' σ' H') ∧ ∀ x H', (Itl K a).yld i H x H' → g x σ H' fun σ2 H2 => tb { D with nx := N, ct := N, bk := D.nx } σ2 H2) := by
  refine ⟨fun i m σ H => m = xs.length - i ∧ i ≤ xs.length ∧ Pv i σ H, ⟨xs.length, by simp, Nat.zero_le _, h0⟩, ?_⟩
  rintro i m σ H ⟨rfl, hi, p⟩
  have q := hl i σ H hi p
  by_cases hlt : i < xs.length
  · refine .inr ⟨⟨xs, xs[i], q, by simp [hlt]⟩, Pv (i + 1), fun σ' H' p' => ⟨xs.length - (i + 1), by omega, rfl, hlt, p'⟩, fun x H' y => ?_⟩
    obtain ⟨e, y⟩ := y
    subst e
    exact hs i x σ _ (y xs q) p
  · have e : i = xs.length := by omega
    subst e
    exact .inl ⟨⟨xs, q, Nat.le_refl _⟩, hd σ H p⟩
theorem for_range {lo : Int} {n : Nat} {g : TG} {tb : TS} {D : Ends} {σ : St} {H : Hp} (Pv : Nat → St → Hp → Prop) (h0 : Pv 0 σ H)
    (hs : ∀ i σ H, i < n → Pv i σ H → g (.int (lo + i)) σ H fun σ2 H2 => tb { D with nx := Pv (i + 1), ct := Pv (i + 1), bk := D.nx } σ2 H2) (hd : ∀ σ H, Pv n σ H → D.nx σ H) :
    ∃ W : Nat → Nat → St → Hp → Prop, (∃ m, W 0 m σ H) ∧ ∀ i m σ H, W i m σ H →
      ((Itr lo n).stop i H ∧ D.nx σ H) ∨ ((Itr lo n).go i H ∧ ∃ N : St → Hp → Prop, (∀ σ' H', N σ' H' → ∃ m', m' < m ∧ W (i + 1) m' σ' H') ∧ ∀ x H', (Itr lo n).yld i H x H' → g x σ H' fun σ2 H2 => tb { D with nx := N, ct := N, bk := D.nx } σ2 H2) := by
  refine ⟨fun i m σ H => m = n - i ∧ i ≤ n ∧ Pv i σ H, ⟨n, by simp, Nat.zero_le _, h0⟩, ?_⟩
  rintro i m σ H ⟨rfl, hi, p⟩
  by_cases hlt : i < n
  · refine .inr ⟨hlt, Pv (i + 1), fun σ' H' p' => ⟨n - (i + 1), by omega, rfl, hlt, p'⟩, fun x H' y => ?_⟩
    obtain ⟨e, y⟩ := y
    subst e y
    exact hs i σ _ hlt p
  · have e : i = n := by omega
    subst e
    exact .inl ⟨Nat.le_refl _, hd σ H p⟩
end L2

namespace L2
open PySem PySem.Spec PyProof.Rows

abbrev R2 := V → V → Hp → VK → Prop
/-- a two-place operation on values: f is binaryOp op, inplaceOp op or compareOp op -/
def OpR (X : Cx) (f : Value → Value → Sem Value) (r : R2) : Prop :=
  ∀ (pins : List (Addr × Obj)) (s : Shared) (σ : St) (H : Hp) (x y : V) (v u : Value) (Q : VK), Inv X pins σ H s → RelV x v → RelV y u → r x y H Q →
    wpAny (model X.prog X.w) X.A (f v u) (EP X pins σ Q) X.xe s
/-- a one-place operation -/
def UnR (X : Cx) (f : Value → Sem Value) (r : V → Hp → VK → Prop) : Prop :=
  ∀ (pins : List (Addr × Obj)) (s : Shared) (σ : St) (H : Hp) (x : V) (v : Value) (Q : VK), Inv X pins σ H s → RelV x v → r x H Q →
    wpAny (model X.prog X.w) X.A (f v) (EP X pins σ Q) X.xe s
/-- a call of a value that is known (a builtin, a type) with values -/
def CallR (X : Cx) (f : Value) (r : List V → Hp → VK → Prop) : Prop :=
  ∀ (pins : List (Addr × Obj)) (s : Shared) (σ : St) (H : Hp) (xs : List V) (us : List Value) (Q : VK), Inv X pins σ H s → Vals xs us → r xs H Q →
    wpAny (model X.prog X.w) X.A (call f us) (EP X pins σ Q) X.xe s
/-- a value's truth -/
def TruR (X : Cx) (r : V → Hp → (Bool → Hp → Prop) → Prop) : Prop :=
  ∀ (pins : List (Addr × Obj)) (s : Shared) (σ : St) (H : Hp) (x : V) (v : Value) (Q : Bool → Hp → Prop), Inv X pins σ H s → RelV x v → r x H Q →
    wpAny (model X.prog X.w) X.A (truthy v) (TP X pins σ Q) X.xe s

def tOp (r : R2) (ta tb : TE) : TE := fun σ H Q => ta σ H fun x H1 => tb σ H1 fun y H2 => r x y H2 Q
def tUn (r : V → Hp → VK → Prop) (ta : TE) : TE := fun σ H Q => ta σ H fun x H1 => r x H1 Q
/-- ints in, under C, and a value out -/
def rI (C : Int → Int → Prop) (g : Int → Int → V) : R2 := fun x y H Q => ∃ i j, x = .int i ∧ y = .int j ∧ C i j ∧ Q (g i j) H
def rI0 (g : Int → Int → V) : R2 := fun x y H Q => ∃ i j, x = .int i ∧ y = .int j ∧ Q (g i j) H
def rU (g : Int → V) : V → Hp → VK → Prop := fun x H Q => ∃ i, x = .int i ∧ Q (g i) H

section
variable {X : Cx} {a b c : Expr} {ta tb tc : TE} {pos : Pos}

theorem binT (ha : PE X a ta) (hb : PE X b tb) {pins : List (Addr × Obj)} {s : Shared} {σ : St} {H : Hp} {R : V → V → Hp → Prop} (I : Inv X pins σ H s)
    (h : ta σ H fun x H1 => tb σ H1 fun y H2 => R x y H2) {Q : Value → Shared → Prop} {f : Value → Value → Sem Value}
    (hf : ∀ v u s2 x y H2, Inv X pins σ H2 s2 → RelV x v → RelV y u → R x y H2 → wpAny (model X.prog X.w) X.A (f v u) Q X.xe s2) :
    wpAny (model X.prog X.w) X.A (eval a X.env) (fun v s₁ => wpAny (model X.prog X.w) X.A (eval b X.env) (fun u s₂ => wpAny (model X.prog X.w) X.A (f v u) Q X.xe s₂) X.xe s₁) X.xe s := by
  refine thn (ha pins s σ H _ I h) fun v s1 ⟨x, H1, I1, r1, q1⟩ => ?_
  refine thn (hb pins s1 σ H1 _ I1 q1) fun u s2 ⟨y, H2, I2, r2, q2⟩ => ?_
  exact hf v u s2 x y H2 I2 r1 r2 q2

theorem pe_op {op : Operator} {r : R2} (ho : OpR X (binaryOp op) r) (ha : PE X a ta) (hb : PE X b tb) : PE X (.BinOp a op b pos) (tOp r ta tb) := by
  intro pins s σ H Q I h
  exact wpAny_BinOp (binT ha hb I h fun v u s2 x y H2 I2 rx ry q => ho pins s2 σ H2 x y v u Q I2 rx ry q)
theorem pe_un {op : UnaryOp} {r : V → Hp → VK → Prop} (ho : UnR X (unaryOp op) r) (ha : PE X a ta) : PE X (.UnaryOp op a pos) (tUn r ta) := by
  intro pins s σ H Q I h
  exact UnaryOp_ (thn (ha pins s σ H _ I h) fun v s1 ⟨x, H1, I1, r1, q1⟩ => ho pins s1 σ H1 x v Q I1 r1 q1)
theorem opI {f : Value → Value → Sem Value} {C : Int → Int → Prop} {g : Int → Int → Int}
    (rule : ∀ (i j : Int) (t u : Tok) (s : Shared) (Q : Value → Shared → Prop) (E : Value → Shared → Prop), C i j → Q (.int (g i j) s.toks) { s with toks := s.toks + 1 } → wpAny (model X.prog X.w) X.A (f (.int i t) (.int j u)) Q E s) :
    OpR X f (rI C fun i j => .int (g i j)) := by
  intro pins s σ H x y v u Q I rx ry h
  obtain ⟨i, j, rfl, rfl, hc, q⟩ := h
  obtain ⟨t, rfl⟩ := rx
  obtain ⟨t', rfl⟩ := ry
  exact rule i j t t' s _ _ hc ⟨.int (g i j), H, I.tok _, ⟨_, rfl⟩, q⟩
theorem opI0 {f : Value → Value → Sem Value} {g : Int → Int → Int}
    (rule : ∀ (i j : Int) (t u : Tok) (s : Shared) (Q : Value → Shared → Prop) (E : Value → Shared → Prop), Q (.int (g i j) s.toks) { s with toks := s.toks + 1 } → wpAny (model X.prog X.w) X.A (f (.int i t) (.int j u)) Q E s) :
    OpR X f (rI0 fun i j => .int (g i j)) := by
  intro pins s σ H x y v u Q I rx ry h
  obtain ⟨i, j, rfl, rfl, q⟩ := h
  obtain ⟨t, rfl⟩ := rx
  obtain ⟨t', rfl⟩ := ry
  exact rule i j t t' s _ _ ⟨.int (g i j), H, I.tok _, ⟨_, rfl⟩, q⟩
theorem opB0 {f : Value → Value → Sem Value} {g : Int → Int → Bool}
    (rule : ∀ (i j : Int) (t u : Tok) (s : Shared) (Q : Value → Shared → Prop) (E : Value → Shared → Prop), Q (.bool (g i j)) s → wpAny (model X.prog X.w) X.A (f (.int i t) (.int j u)) Q E s) :
    OpR X f (rI0 fun i j => .bl (g i j)) := by
  intro pins s σ H x y v u Q I rx ry h
  obtain ⟨i, j, rfl, rfl, q⟩ := h
  obtain ⟨t, rfl⟩ := rx
  obtain ⟨t', rfl⟩ := ry
  exact rule i j t t' s _ _ ⟨.bl (g i j), H, I, rfl, q⟩

def CDiv (i j : Int) : Prop := 0 < j ∧ j < 1073741824
def CPow (i j : Int) : Prop := 0 ≤ j ∧ j ≤ 1000000 ∧ i.natAbs < 2 ^ 64
def CMul (i j : Int) : Prop := (-(2 ^ 64) < i ∧ i < 2 ^ 64) ∨ (-(2 ^ 64) < j ∧ j < 2 ^ 64)
theorem CMul.ok {i j : Int} (h : CMul i j) : IntMulOk i j := by
  rcases h with ⟨h1, h2⟩ | ⟨h1, h2⟩
  · exact .of_left (intBits_le_64 h1 h2)
  · exact .of_right (intBits_le_64 h1 h2)
theorem op_add : OpR X (binaryOp .Add) (rI0 fun i j => .int (i + j)) := opI0 fun _ _ _ _ _ _ _ q => add_int q
theorem op_sub : OpR X (binaryOp .Sub) (rI0 fun i j => .int (i - j)) := opI0 fun _ _ _ _ _ _ _ q => sub_int q
theorem op_mul : OpR X (binaryOp .Mult) (rI CMul fun i j => .int (i * j)) := opI fun _ _ _ _ _ _ _ hc q => mul_int q hc.ok
/-- // by a positive divisor -/
theorem op_fdiv : OpR X (binaryOp .FloorDiv) (rI CDiv fun i j => .int (i / j)) := opI fun i j _ _ _ _ _ hc q => by
  have h1 : (0 : Int) < j := hc.1
  have h2 : j < 1073741824 := hc.2
  exact floordiv_int (by omega) (by rw [Int.fdiv_eq_ediv_of_nonneg i (by omega)]; exact q) (.inl (PyProof.noPylong_small (by omega)))
/-- % by a positive divisor of any size -/
theorem op_mod : OpR X (binaryOp .Mod) (rI (fun _ j => 0 < j) fun i j => .int (i % j)) := opI fun i j _ _ _ _ _ hc q => by
  have h1 : (0 : Int) < j := hc
  exact mod_int' (by omega) (by rw [Int.fmod_eq_emod_of_nonneg i (by omega)]; exact q)
theorem op_pow : OpR X (binaryOp .Pow) (rI CPow fun i j => .int (i ^ j.toNat)) := opI fun _ _ _ _ _ _ _ hc q => pow_int_small hc.1 hc.2.1 hc.2.2 q
theorem unI {f : Value → Sem Value} {g : Int → Int}
    (rule : ∀ (i : Int) (t : Tok) (s : Shared) (Q : Value → Shared → Prop) (E : Value → Shared → Prop), Q (.int (g i) s.toks) { s with toks := s.toks + 1 } → wpAny (model X.prog X.w) X.A (f (.int i t)) Q E s) :
    UnR X f (rU fun i => .int (g i)) := by
  intro pins s σ H x v Q I rx h
  obtain ⟨i, rfl, q⟩ := h
  obtain ⟨t, rfl⟩ := rx
  exact rule i t s _ _ ⟨.int (g i), H, I.tok _, ⟨_, rfl⟩, q⟩
theorem un_neg : UnR X (unaryOp .USub) (rU fun i => .int (-i)) := unI fun _ _ _ _ _ q => neg_int q
end

/-- the scalars that == tells apart as data does -/
def scal : V → V → Bool
  | .non, .non => true | .non, .int _ => true | .int _, .non => true | .non, .bl _ => true | .bl _, .non => true | .non, .str _ => true | .str _, .non => true
  | .int _, .int _ => true | .bl _, .bl _ => true | .str _, .str _ => true | .byt _, .byt _ => true
  | .int _, .str _ => true | .str _, .int _ => true | .bl _, .str _ => true | .str _, .bl _ => true
  | _, _ => false
def rEq : R2 := fun x y H Q => scal x y = true ∧ Q (.bl (decide (x = y))) H
def rNe : R2 := fun x y H Q => scal x y = true ∧ Q (.bl (!decide (x = y))) H

theorem dec_int {i j : Int} : decide (V.int i = V.int j) = (i == j) := by
  rw [Bool.eq_iff_iff]
  simp
theorem dec_bl {i j : Bool} : decide (V.bl i = V.bl j) = (i == j) := by
  rw [Bool.eq_iff_iff]
  simp
theorem dec_str {i j : Str} : decide (V.str i = V.str j) = (i == j) := by
  rw [Bool.eq_iff_iff]
  simp
theorem dec_byt {i j : Array UInt8} : decide (V.byt i = V.byt j) = (i.toList == j.toList) := by
  rw [Bool.eq_iff_iff]
  cases i
  cases j
  simp

section
variable {X : Cx} {a b c : Expr} {ta tb tc : TE} {pos : Pos}
theorem fin_bl {pins : List (Addr × Obj)} {σ : St} {H : Hp} {s : Shared} {Q : VK} {k k' : Bool} (I : Inv X pins σ H s) (q : Q (.bl k) H) (e : k = k') : EP X pins σ Q (.bool k') s := by
  subst e
  exact ⟨.bl k, H, I, rfl, q⟩
theorem op_eq : OpR X (compareOp .Eq) rEq := by
  intro pins s σ H x y v u Q I rx ry h
  obtain ⟨hs, q⟩ := h
  cases x with
  | non =>
    cases rx
    cases y with
    | non => cases ry; exact PySem.EqNone.eq_none_none (fin_bl I q (by simp))
    | bl j => cases ry; exact PySem.EqNone.eq_none_bool (fin_bl I q (by simp))
    | int j => obtain ⟨t', rfl⟩ := ry; exact PySem.EqNone.eq_none_int (fin_bl I q (by simp))
    | str j => obtain ⟨t', rfl⟩ := ry; exact PySem.EqNone.eq_none_str (fin_bl I q (by simp))
    | _ => exact absurd (show false = true from hs) Bool.false_ne_true
  | bl i =>
    cases rx
    cases y with
    | non => cases ry; exact PySem.EqNone.eq_bool_none (fin_bl I q (by simp))
    | bl j => cases ry; exact eq_bool (fin_bl I q dec_bl)
    | str j => obtain ⟨t', rfl⟩ := ry; exact PySem.EqMixed.eq_bool_str (fin_bl I q (by simp))
    | _ => exact absurd (show false = true from hs) Bool.false_ne_true
  | int i =>
    obtain ⟨t, rfl⟩ := rx
    cases y with
    | non => cases ry; exact PySem.EqNone.eq_int_none (fin_bl I q (by simp))
    | int j => obtain ⟨t', rfl⟩ := ry; exact eq_int (fin_bl I q dec_int)
    | str j => obtain ⟨t', rfl⟩ := ry; exact PySem.EqMixed.eq_int_str (fin_bl I q (by simp))
    | _ => exact absurd (show false = true from hs) Bool.false_ne_true
  | str i =>
    obtain ⟨t, rfl⟩ := rx
    cases y with
    | non => cases ry; exact PySem.EqNone.eq_str_none (fin_bl I q (by simp))
    | bl j => cases ry; exact PySem.EqMixed.eq_str_bool (fin_bl I q (by simp))
    | int j => obtain ⟨t', rfl⟩ := ry; exact PySem.EqMixed.eq_str_int (fin_bl I q (by simp))
    | str j => obtain ⟨t', rfl⟩ := ry; exact eq_str (fin_bl I q dec_str)
    | _ => exact absurd (show false = true from hs) Bool.false_ne_true
  | byt i =>
    obtain ⟨t, rfl⟩ := rx
    cases y with
    | byt j => obtain ⟨t', rfl⟩ := ry; exact PySem.W.eq_bytes (fin_bl I q dec_byt)
    | _ => exact absurd (show false = true from hs) Bool.false_ne_true
  | _ => cases y <;> exact absurd (show false = true from hs) Bool.false_ne_true
theorem op_ne : OpR X (compareOp .NotEq) rNe := by
  intro pins s σ H x y v u Q I rx ry h
  obtain ⟨hs, q⟩ := h
  cases x with
  | non =>
    cases rx
    cases y with
    | non => cases ry; exact PySem.EqNone.ne_none_none (fin_bl I q (by simp))
    | bl j => cases ry; exact PySem.EqNone.ne_none_bool (fin_bl I q (by simp))
    | int j => obtain ⟨t', rfl⟩ := ry; exact PySem.EqNone.ne_none_int (fin_bl I q (by simp))
    | str j => obtain ⟨t', rfl⟩ := ry; exact PySem.EqNone.ne_none_str (fin_bl I q (by simp))
    | _ => exact absurd (show false = true from hs) Bool.false_ne_true
  | bl i =>
    cases rx
    cases y with
    | non => cases ry; exact PySem.EqNone.ne_bool_none (fin_bl I q (by simp))
    | bl j => cases ry; exact ne_bool (fin_bl I q (congrArg not dec_bl))
    | str j => obtain ⟨t', rfl⟩ := ry; exact PySem.EqMixed.ne_bool_str (fin_bl I q (by simp))
    | _ => exact absurd (show false = true from hs) Bool.false_ne_true
  | int i =>
    obtain ⟨t, rfl⟩ := rx
    cases y with
    | non => cases ry; exact PySem.EqNone.ne_int_none (fin_bl I q (by simp))
    | int j => obtain ⟨t', rfl⟩ := ry; exact ne_int (fin_bl I q (congrArg not dec_int))
    | str j => obtain ⟨t', rfl⟩ := ry; exact PySem.EqMixed.ne_int_str (fin_bl I q (by simp))
    | _ => exact absurd (show false = true from hs) Bool.false_ne_true
  | str i =>
    obtain ⟨t, rfl⟩ := rx
    cases y with
    | non => cases ry; exact PySem.EqNone.ne_str_none (fin_bl I q (by simp))
    | bl j => cases ry; exact PySem.EqMixed.ne_str_bool (fin_bl I q (by simp))
    | int j => obtain ⟨t', rfl⟩ := ry; exact PySem.EqMixed.ne_str_int (fin_bl I q (by simp))
    | str j => obtain ⟨t', rfl⟩ := ry; exact ne_str (fin_bl I q (congrArg not dec_str))
    | _ => exact absurd (show false = true from hs) Bool.false_ne_true
  | byt i =>
    obtain ⟨t, rfl⟩ := rx
    cases y with
    | byt j => obtain ⟨t', rfl⟩ := ry; exact PySem.W.ne_bytes (fin_bl I q (congrArg not dec_byt))
    | _ => exact absurd (show false = true from hs) Bool.false_ne_true
  | _ => cases y <;> exact absurd (show false = true from hs) Bool.false_ne_true

theorem op_lt : OpR X (compareOp .Lt) (rI0 fun i j => .bl (decide (i < j))) := opB0 fun _ _ _ _ _ _ _ q => lt_int q
theorem op_le : OpR X (compareOp .LtE) (rI0 fun i j => .bl (decide (i ≤ j))) := opB0 fun _ _ _ _ _ _ _ q => le_int q
theorem op_gt : OpR X (compareOp .Gt) (rI0 fun i j => .bl (decide (j < i))) := opB0 fun _ _ _ _ _ _ _ q => gt_int q
theorem op_ge : OpR X (compareOp .GtE) (rI0 fun i j => .bl (decide (j ≤ i))) := opB0 fun _ _ _ _ _ _ _ q => ge_int q
/-- two rules for one operation: by cases -/
theorem OpR.or {f : Value → Value → Sem Value} {r r' : R2} (h : OpR X f r) (h' : OpR X f r') : OpR X f (fun x y H Q => r x y H Q ∨ r' x y H Q) := by
  intro pins s σ H x y v u Q I rx ry q
  rcases q with q | q
  · exact h pins s σ H x y v u Q I rx ry q
  · exact h' pins s σ H x y v u Q I rx ry q

theorem nomark (b : Expr) {op : CmpOp} (h : op ≠ .In := by decide) (h2 : op ≠ .NotIn := by decide) : behindInMarks op b = false := by
  have e1 : (op == CmpOp.In) = false := by cases op <;> first | rfl | exact absurd rfl h
  have e2 : (op == CmpOp.NotIn) = false := by cases op <;> first | rfl | exact absurd rfl h2
  cases b <;> simp [behindInMarks, e1, e2]
/-- a comparison as a value; hm: nomark b, or (for in, not in) by with_unfolding_all rfl -/
theorem pe_cmpR {op : CmpOp} {r : R2} (ho : OpR X (compareOp op) r) (ha : PE X a ta) (hb : PE X b tb) (hm : behindInMarks op b = false) : PE X (.Compare a [op] [b] pos) (tOp r ta tb) := by
  intro pins s σ H Q I h
  exact wpAny_Compare1 (binT ha hb I h fun v u s2 x y H2 I2 rx ry q => ho pins s2 σ H2 x y v u Q I2 rx ry q) hm
/-- a reading of a value as a test -/
def tTest (t : TE) : TT := fun σ H Q => t σ H fun x H' => ∃ k, x = .bl k ∧ Q k H'
theorem pt_cmpR {op : CmpOp} {r : R2} (ho : OpR X (compareOp op) r) (ha : PE X a ta) (hb : PE X b tb) (hm : behindInMarks op b = false) : PT X (.Compare a [op] [b] pos) (tTest (tOp r ta tb)) := by
  intro pins s σ H Q I h
  refine wpAny_isTrue_Compare1 (thn (ha pins s σ H _ I h) fun v s1 ⟨x, H1, I1, r1, q1⟩ => thn (hb pins s1 σ H1 _ I1 q1) fun u s2 ⟨y, H2, I2, r2, q2⟩ =>
    thn (ho pins s2 σ H2 x y v u _ I2 r1 r2 q2) fun c s3 ⟨z, H3, I3, r3, k, e, q3⟩ => ?_) hm
  subst e
  cases r3
  exact wpAny_truthy_bool ⟨H3, I3, q3⟩
/-- a value's truth by the abstract heap -/
def TruV (K : PySem.W.Frag) (x : V) (H : Hp) (k : Bool) : Prop :=
  match x with
  | .non => k = false
  | .bl b => k = b
  | .int i => k = (i != 0)
  | .str y => y.length ≤ sizeLine ∧ k = ((y.length : Int) != 0)
  | .byt y => y.size ≤ sizeLine ∧ k = ((y.size : Int) != 0)
  | .ref p => (∃ xs, SqL K H p xs ∧ k = !xs.isEmpty) ∨ (∃ xs, SqT K H p xs ∧ k = !xs.isEmpty) ∨ ∃ kvs, H p = some (.dK kvs) ∧ k = !kvs.isEmpty
  | _ => False
theorem isEmpty_kv {κ : Type} {kvs : List (κ × V)} {vs : List (κ × Value)} (r : KV kvs vs) : (!vs.isEmpty) = !kvs.isEmpty := by
  cases r <;> rfl
theorem isEmpty_of {xs : List V} {its : List Value} (r : Vals xs its) : (!its.toArray.isEmpty) = !xs.isEmpty := by
  cases r <;> simp
theorem line63 : (sizeLine : Nat) < 2 ^ 63 := by rw [sizeLine_eq]; decide
theorem tru_ok : TruR X (fun x H Q => ∃ k, TruV X.K x H k ∧ Q k H) := by
  intro pins s σ H x v Q I rx h
  obtain ⟨k, e, q⟩ := h
  have hl := line63
  have hs : sizeLine = 16777216 := sizeLine_eq
  cases x with
  | non =>
    cases rx
    have e' : k = false := e
    subst e'
    exact truthy_none ⟨H, I, q⟩
  | bl b =>
    cases rx
    have e' : k = b := e
    subst e'
    exact wpAny_truthy_bool ⟨H, I, q⟩
  | int i =>
    obtain ⟨t, rfl⟩ := rx
    have e' : k = (i != 0) := e
    subst e'
    exact PySem.P.truthy_int ⟨H, I, q⟩
  | str y =>
    obtain ⟨t, rfl⟩ := rx
    obtain ⟨hy, e'⟩ : y.length ≤ sizeLine ∧ k = ((y.length : Int) != 0) := e
    subst e'
    exact PySem.P.truthy_str (by omega) ⟨H, I.tok _, q⟩
  | byt y =>
    obtain ⟨t, rfl⟩ := rx
    obtain ⟨hy, e'⟩ : y.size ≤ sizeLine ∧ k = ((y.size : Int) != 0) := e
    subst e'
    exact PySem.W.truthy_bytes (by omega) ⟨H, I.tok _, q⟩
  | ref p =>
    cases rx
    have e' : (∃ xs, SqL X.K H p xs ∧ k = !xs.isEmpty) ∨ (∃ xs, SqT X.K H p xs ∧ k = !xs.isEmpty) ∨ ∃ kvs, H p = some (.dK kvs) ∧ k = !kvs.isEmpty := e
    rcases e' with ⟨xs, hx, e'⟩ | ⟨xs, hx, e'⟩ | ⟨kvs, hx, e'⟩
    · subst e'
      obtain ⟨its, r, pl, hz⟩ := I.list hx
      have hlen := r.length
      exact wpAny_truthy_list pl.isList (by simp only [List.size_toArray]; omega) ⟨H, I.tok _, by rw [isEmpty_of r]; exact q⟩
    · subst e'
      obtain ⟨its, r, pl, hz⟩ := I.tuple hx
      have hlen := r.length
      exact truthy_tuple pl (by simp only [List.size_toArray]; omega) ⟨H, I.tok _, by rw [isEmpty_of r]; exact q⟩
    · subst e'
      obtain ⟨hz, hS, vs, r, m⟩ : kvs.length ≤ sizeLine ∧ (p == sysModules) = false ∧ ∃ vs, KV kvs vs ∧ s.heap.DictOf (mixKind X.prog X.w) p vs := I.hok p _ hx
      have hlen : kvs.length = vs.length := Paired.length r
      exact wpAny_truthy_dict hS m (by omega) ⟨H, I.tok _, by rw [isEmpty_kv r]; exact q⟩
  | _ => exact (show False from e).elim
/-- any expression whose test is its value's truth (a name, a call, a subscript, a field ..: he by fun _ => rfl) -/
theorem pt_truth (ha : PE X a ta) (he : ∀ whole, isTrue a X.env whole = (do let v ← whole; standAt a.pos; holding [v] (truthy v))) :
    PT X a (fun σ H Q => ta σ H fun x H' => ∃ k, TruV X.K x H' k ∧ Q k H') := by
  intro pins s σ H Q I h
  exact isTrue_plain (thn (ha pins s σ H _ I h) fun v s1 ⟨x, H1, I1, r1, q1⟩ => tru_ok pins s1 σ H1 x v Q I1 r1 q1) (he _)

theorem vals1 {x : V} {us : List Value} (r : Vals [x] us) : ∃ u, us = [u] ∧ RelV x u := by
  cases r with
  | cons r1 r2 => cases r2; exact ⟨_, rfl, r1⟩
theorem vals2 {x y : V} {us : List Value} (r : Vals [x, y] us) : ∃ u w', us = [u, w'] ∧ RelV x u ∧ RelV y w' := by
  cases r with
  | cons r1 r2 =>
    cases r2 with
    | cons r3 r4 => cases r4; exact ⟨_, _, rfl, r1, r3⟩
theorem call_min2 (hc : X.calm = true) : CallR X (.builtin "min") (fun xs H Q => ∃ i j, xs = [.int i, .int j] ∧ Q (.int (if j < i then j else i)) H) := by
  intro pins s σ H xs us Q I r h
  obtain ⟨i, j, rfl, q⟩ := h
  obtain ⟨u, w', rfl, ⟨t, rfl⟩, ⟨t', rfl⟩⟩ := vals2 r
  refine min_two_ints (I.ok.hd hc) fun h' tk k => ⟨_, H, I.kept k, ?_, q⟩
  by_cases hj : j < i
  · rw [if_pos hj, if_pos hj]; exact ⟨_, rfl⟩
  · rw [if_neg hj, if_neg hj]; exact ⟨_, rfl⟩
theorem call_int1 : CallR X (.type "int") (fun xs H Q => (∃ i, xs = [.int i] ∧ Q (.int i) H) ∨ ∃ k, xs = [.bl k] ∧ Q (.int (if k then 1 else 0)) H) := by
  intro pins s σ H xs us Q I r h
  rcases h with ⟨i, rfl, q⟩ | ⟨k, rfl, q⟩
  · obtain ⟨u, rfl, t, rfl⟩ := vals1 r
    exact call_int_int ⟨.int i, H, I, ⟨_, rfl⟩, q⟩
  · obtain ⟨u, rfl, r1⟩ := vals1 r
    cases r1
    exact call_int_bool ⟨.int (if k then 1 else 0), H, I.tok _, ⟨_, rfl⟩, q⟩
end
end L2

namespace L2
open PySem PySem.Spec PyProof.Rows

structure ObjM (h : Heap) (x dx C : Addr) (mA : Str → Option Value) : Prop where
  obj : h.get? x = some (PySem.W.instObj C dx)
  ns : h.Ns1 dx mA
  ne : dx ≠ x

theorem lookIn_ns {h : Heap} {dx : Addr} {mA : Str → Option Value} (n : h.Ns1 dx mA) : ∃ od, h.get? dx = some od ∧ ∀ name, PySem.W.lookIn name od = some (mA name) := by
  obtain ⟨o, es, ep, ho, hd, hk, _, hm⟩ := n
  refine ⟨o, ho, fun name => ?_⟩
  have e := hm name
  unfold nsFind findBy at e
  rw [← Array.find?_toList] at e
  unfold PySem.W.lookIn
  rw [hd]
  dsimp only
  split
  · rename_i y q
    rw [q] at e
    exact congrArg some e
  · rename_i q
    rw [q] at e
    have a : es.toList.any (·.refKey) = false := by
      rw [List.any_eq_false]
      intro y hy
      obtain ⟨z, t, hkey⟩ := hk y (Array.mem_toList_iff.mp hy)
      simp [DictEntry.refKey, hkey]
    have a' : ¬ es.toList.any (·.refKey) = true := by rw [a]; exact Bool.false_ne_true
    rw [if_neg a']
    exact congrArg some e

theorem ObjM.look {h : Heap} {x dx C : Addr} {mA : Str → Option Value} (I : ObjM h x dx C mA) : ∃ od, PySem.W.InstAt h x (PySem.W.instObj C dx) C (some od) ∧ ∀ name, PySem.W.lookIn name od = some (mA name) :=
  let ⟨od, ho, hl⟩ := lookIn_ns I.ns
  ⟨od, ⟨I.obj, rfl, rfl, ho⟩, hl⟩

section
variable {prog : Program} {w : World} {A : Around} {E : Value → Shared → Prop} {s : Shared} {K : PySem.W.Frag} {x dx C f : Addr} {mA : Str → Option Value} {name : Str} {v : Value}

theorem get_map {expr : Bool} {Q : Value → Shared → Prop} (X : K.In s.heap) (I : ObjM s.heap x dx C mA) (hg : PySem.W.plainGet K C name = true) (hh : PySem.W.hasDictIn K C = true)
    (ha : PySem.W.findIn K (.ref C) name = some none) (hv : mA name = some v) (hv' : PySem.W.handedIn v = true) (h : Q v { s with toks := s.toks + 1 }) :
    wpAny (model prog w) A (getAttr (.ref x) name expr) Q E s := by
  obtain ⟨od, J, hl⟩ := I.look
  exact PySem.W.get_value X J (PySem.W.plainGet_of hg).1 (PySem.W.findObj_own hh ha rfl (by rw [hl, hv])) hv' h

theorem get_meth {pl : Sem Bool} {Q : Value × List Value → Shared → Prop} (X : K.In s.heap) (I : ObjM s.heap x dx C mA) (hg : PySem.W.plainGet K C name = true)
    (hf : PySem.W.findIn K (.ref C) name = some (some (.ref f))) (ht : PySem.W.isFn K (.ref f) = true) (hv : mA name = none) (h : Q (.ref f, [.ref x]) s) :
    wpAny (model prog w) A (getMethod (.ref x) name pl) Q E s := by
  obtain ⟨od, J, hl⟩ := I.look
  exact PySem.W.method_fn X J (PySem.W.plainGet_of hg).1 (PySem.W.plainGet_of hg).2 hf (beq_iff_eq.mp ht) (by show (PySem.W.lookIn name od).map (·.isSome) = some false; rw [hl, hv]; rfl) h

theorem set_map {ns : List Str} {Q : Unit → Shared → Prop} (X : K.In s.heap) (I : ObjM s.heap x dx C mA)
    (hs : PySem.W.findIn K (.ref C) "__setattr__" = some (some (.builtin "object.__setattr__"))) (hp : PySem.W.plainOver K C = true) (ht : PySem.W.takerIn K C name = some none) (hh : PySem.W.hasDictIn K C = true)
    (hw : PySem.Within mA ns) (hsz : ns.length ≤ sizeLine)
    (h : ∀ h', ObjM h' x dx C (fun y => if y = name then some v else mA y) → Heap.SameBut dx s.heap h' → Q () { s with heap := h', toks := s.toks + 2 }) :
    wpAny (model prog w) A (setAttr (.ref x) name v) Q E s := by
  obtain ⟨od, J, hl⟩ := I.look
  refine PySem.W.set_plain X J hs (PySem.W.osa_open (s := { s with toks := s.toks + 1 }) (r := none) X J hp ht fun b => ?_)
  obtain ⟨cd, hc, hd'⟩ := PySem.W.any_some hh
  have hx : s.heap.get? x = some ⟨.ref C, some dx, .plain, #[]⟩ := I.obj
  refine wpAny_bind (wpAny_pure (wpAny_bind (wpAny_bind (wpAny_loadPart hx (wpAny_bind (PySem.W.Looks.here (s := { s with toks := s.toks + 1 }) (PySem.W.looks_clsIn X hc) ?_))))))
  rw [hd']
  refine wpAny_pure (a := some dx) (wpAny_bind (wpAny_pure (wpAny_bind ?_)))
  refine wpAny_nsSet1 (s := { s with toks := s.toks + 1 }) I.ns fun h' hn2 hs2 => ?_
  obtain ⟨oD, esD, epD, hoD, hdD, hcD⟩ := hn2.count (PySem.Within.cons name v hw)
  refine wpAny_bind (wpAny_lookBehind hoD (by rw [hdD]; exact pastItsLine_dict (Nat.le_trans hcD (by rw [List.length_cons]; omega))) ?_)
  exact wpAny_pure (h _ ⟨(hs2.2 _ (Ne.symm I.ne)).trans I.obj, hn2, I.ne⟩ hs2)

/-- C(..): the dict at the heap's end, the instance behind it; then its __init__ -/
theorem make_map {R : Result → Shared → Prop} {vs : List Value} {kw : List (Str × Value)} (X : K.In s.heap) (hm : PySem.W.makesIn K C = true)
    (hi : PySem.W.findIn K (.ref C) "__init__" = some (some (.ref f))) (hf : PySem.W.typeIn K (.ref f) = some (.type "function"))
    (h : codeAny (model prog w) (A.under (.builtin "type.__call__" ⟨.ref C :: vs, kw⟩)) (.call (.ref f) ⟨.ref (s.heap.objs.size + 1) :: vs, kw⟩) (PySem.W.InitBack (s.heap.objs.size + 1) R)
      { s with heap := (s.heap.push PySem.W.emptyDict).push (PySem.W.instObj C s.heap.objs.size) }) :
    codeAny (model prog w) A (.call (.ref C) ⟨vs, kw⟩) R s := by
  obtain ⟨hh, g, d, t, os⟩ := s
  exact PySem.W.make_core (PySem.W.makes_of X hm) (PySem.W.looks_findIn X hi) (fun self => PySem.W.bind_fn X self hf) (.inl rfl) h
end

def putF (f : Str) (v : V) : List (Str × V) → List (Str × V)
  | [] => [(f, v)]
  | (g, x) :: r => if g = f then (g, v) :: r else (g, x) :: putF f v r
theorem lookup_putF (f g : Str) (v : V) : ∀ fs : List (Str × V), (putF f v fs).lookup g = if g = f then some v else fs.lookup g
  | [] => by
    show List.lookup g [(f, v)] = _
    by_cases h : g = f
    · have hb : (g == f) = true := beq_iff_eq.mpr h
      simp only [List.lookup, hb, if_pos h]
    · have hb : (g == f) = false := beq_eq_false_iff_ne.mpr h
      simp only [List.lookup, hb, if_neg h]
  | (k, x) :: r => by
    have ih := lookup_putF f g v r
    rw [show putF f v ((k, x) :: r) = (if k = f then (k, v) :: r else (k, x) :: putF f v r) from rfl]
    by_cases hk : k = f
    · rw [if_pos hk]
      by_cases h : g = k
      · have hb : (g == k) = true := beq_iff_eq.mpr h
        simp only [List.lookup, hb, if_pos (h.trans hk)]
      · have hb : (g == k) = false := beq_eq_false_iff_ne.mpr h
        simp only [List.lookup, hb, if_neg (fun e : g = f => h (e.trans hk.symm))]
    · rw [if_neg hk]
      by_cases h : g = k
      · have hb : (g == k) = true := beq_iff_eq.mpr h
        simp only [List.lookup, hb, if_neg (fun e : g = f => hk (h.symm.trans e))]
      · have hb : (g == k) = false := beq_eq_false_iff_ne.mpr h
        simp only [List.lookup, hb]
        exact ih
theorem keys_putF (f : Str) (v : V) : ∀ fs : List (Str × V), f ∈ (putF f v fs).map (·.1) ∧ ∀ g, g ∈ fs.map (·.1) → g ∈ (putF f v fs).map (·.1)
  | [] => ⟨by simp [putF], fun g h => by simp at h⟩
  | (k, x) :: r => by
    obtain ⟨i1, i2⟩ := keys_putF f v r
    rw [show putF f v ((k, x) :: r) = (if k = f then (k, v) :: r else (k, x) :: putF f v r) from rfl]
    by_cases hk : k = f
    · rw [if_pos hk]
      subst hk
      exact ⟨by simp, fun g h => by simpa using h⟩
    · rw [if_neg hk]
      refine ⟨?_, fun g h => ?_⟩
      · rw [List.map_cons]
        exact List.mem_cons_of_mem _ i1
      · rw [List.map_cons] at h ⊢
        rcases List.mem_cons.mp h with e | e
        · exact List.mem_cons.mpr (.inl e)
        · exact List.mem_cons_of_mem _ (i2 g e)
theorem length_putF (f : Str) (v : V) : ∀ fs : List (Str × V), (putF f v fs).length ≤ fs.length + 1
  | [] => by simp [putF]
  | (k, x) :: r => by
    have ih := length_putF f v r
    rw [show putF f v ((k, x) :: r) = (if k = f then (k, v) :: r else (k, x) :: putF f v r) from rfl]
    by_cases hk : k = f
    · rw [if_pos hk, List.length_cons, List.length_cons]; omega
    · rw [if_neg hk, List.length_cons, List.length_cons]; omega

theorem RelO.some_of {v : V} {o : Option Value} (r : RelO (some v) o) : ∃ u, o = some u ∧ RelV v u := by
  cases o with
  | none => exact (show False from r).elim
  | some u => exact ⟨u, rfl, r⟩
theorem RelO.none_of {o : Option Value} (r : RelO none o) : o = none := by
  cases o with
  | none => rfl
  | some u => exact (show False from r).elim
theorem handed_of {v : V} {u : Value} (r : RelV v u) : PySem.W.handedIn u = true := by
  cases v with
  | non => cases (show u = Value.none from r); rfl
  | bl b => cases (show u = Value.bool b from r); rfl
  | int i => obtain ⟨t, e⟩ := (show ∃ t, u = Value.int i t from r); cases e; rfl
  | str x => obtain ⟨t, e⟩ := (show ∃ t, u = Value.str x t from r); cases e; rfl
  | byt b => obtain ⟨t, e⟩ := (show ∃ t, u = Value.bytes b t from r); cases e; rfl
  | flt b => obtain ⟨t, e⟩ := (show ∃ t, u = Value.float b t from r); cases e; rfl
  | ref a => cases (show u = Value.ref a from r); rfl
  | ty n => cases (show u = Value.type n from r); rfl

section
variable {P : Program} {w : World} {H H' : Hp} {h h' : Heap} {a C dx : Addr} {fs fs' : List (Str × V)}
theorem ins_get (hok : HOk P w H h) (e : H a = some (.ins C dx fs)) : ∃ mA, ObjM h a dx C mA ∧ (∀ f, RelO (fs.lookup f) (mA f)) ∧ PySem.Within mA (fs.map (·.1)) ∧ fs.length ≤ 1000 ∧ H dx = some (.own a) := by
  obtain ⟨d, z, ne, ob, mA, n, r, q⟩ := (show ObjOk P w H h a (.ins C dx fs) from hok a _ e)
  exact ⟨mA, ⟨ob, n, ne⟩, r, q, z, d⟩
end

structure Cls (K : PySem.W.Frag) (C : Addr) : Prop where
  pg : PySem.W.plainGet K C Str.empty = true
  hd : PySem.W.hasDictIn K C = true
  po : PySem.W.plainOver K C = true
  sa : PySem.W.findIn K (.ref C) "__setattr__" = some (some (.builtin "object.__setattr__"))
theorem Cls.get {K : PySem.W.Frag} {C : Addr} (c : Cls K C) (f : Str) : PySem.W.plainGet K C f = true := c.pg
/-- no class of it has the name -/
def NoAttr (K : PySem.W.Frag) (C : Addr) (f : Str) : Prop := PySem.W.findIn K (.ref C) f = some none
theorem NoAttr.taker {K : PySem.W.Frag} {C : Addr} {f : Str} (n : NoAttr K C f) : PySem.W.takerIn K C f = some none := by
  unfold PySem.W.takerIn
  rw [show PySem.W.findIn K (.ref C) f = some none from n]
  rfl
/-- a constant of the class -/
structure Con (K : PySem.W.Frag) (C : Addr) (f : Str) (v : V) (u : Value) : Prop where
  at_ : PySem.W.findIn K (.ref C) f = some (some u)
  rel : RelV v u
  get : PySem.W.specialIn K u "__get__" = some none
  cp : PySem.W.copiedNames.contains f = false
/-- a method: a plain def of the class or of one above it -/
structure Meth (K : PySem.W.Frag) (C : Addr) (m : Str) (f : Addr) : Prop where
  at_ : PySem.W.findIn K (.ref C) m = some (some (.ref f))
  fn : PySem.W.isFn K (.ref f) = true
  kp : PySem.W.keepIn K (.ref f) = true

section
variable {X : Cx} {pins : List (Addr × Obj)} {σ : St} {H : Hp} {s : Shared} {a C dx : Addr} {fs : List (Str × V)} {f : Str} {v : V} {A : Around} {E : Value → Shared → Prop}

theorem getattr_ok {b : Bool} {Q : Value → Shared → Prop} (I : Inv X pins σ H s) (e : H a = some (.ins C dx fs)) (c : Cls X.K C) (n : NoAttr X.K C f) (l : fs.lookup f = some v)
    (h : ∀ u s', Inv X pins σ H s' → RelV v u → Q u s') : wpAny (model X.prog X.w) A (getAttr (.ref a) f b) Q E s := by
  obtain ⟨mA, O, r, _, _, _⟩ := ins_get I.hok e
  obtain ⟨u, hu, ru⟩ := RelO.some_of (v := v) (o := mA f) (by rw [← l]; exact r f)
  exact get_map I.kIn O (c.get f) c.hd n hu (handed_of ru) (h u _ (I.tok _) ru)

theorem getmeth_ok {m : Str} {g : Addr} {pl : Sem Bool} {Q : Value × List Value → Shared → Prop} (I : Inv X pins σ H s) (e : H a = some (.ins C dx fs)) (c : Cls X.K C) (k : Meth X.K C m g) (l : fs.lookup m = none)
    (h : Q (.ref g, [.ref a]) s) : wpAny (model X.prog X.w) A (getMethod (.ref a) m pl) Q E s := by
  obtain ⟨mA, O, r, _, _, _⟩ := ins_get I.hok e
  have hn : mA m = none := RelO.none_of (by rw [← l]; exact r m)
  exact get_meth I.kIn O (c.get m) k.at_ k.fn hn h

theorem setattr_ok {y : V} {u : Value} {Q : Unit → Shared → Prop} (I : Inv X pins σ H s) (e : H a = some (.ins C dx fs)) (c : Cls X.K C) (n : NoAttr X.K C f) (hl : fs.length < 1000) (ry : RelV y u)
    (h : ∀ s', Inv X pins σ (upd H a (.ins C dx (putF f y fs))) s' → Q () s') : wpAny (model X.prog X.w) A (setAttr (.ref a) f u) Q E s := by
  obtain ⟨mA, O, r, wi, _, ho⟩ := ins_get I.hok e
  have hz : (fs.map (·.1)).length ≤ sizeLine := by rw [List.length_map, sizeLine_eq]; omega
  refine set_map I.kIn O c.sa c.po n.taker c.hd wi hz fun h' O' sb => h _ ?_
  have hd : ∃ o, h'.get? dx = some o := let ⟨o, _, _, e', _⟩ := O'.ns; ⟨o, e'⟩
  refine I.write (x := a) (e := dx) (by rw [e]; exact True.intro) (.inr ho) (fun b q hb z => (sb.2 b hb).trans z) hd ?_
  refine ⟨by rw [upd_ne O.ne]; exact ho, ?_, O.ne, O'.obj, _, O'.ns, fun g => ?_, fun g hg => ?_⟩
  · have := length_putF f y fs; omega
  · show RelO ((putF f y fs).lookup g) (if g = f then some u else mA g)
    rw [lookup_putF]
    by_cases q : g = f
    · rw [if_pos q, if_pos q]; exact ry
    · rw [if_neg q, if_neg q]; exact r g
  · by_cases q : g = f
    · rw [q]; exact (keys_putF f y fs).1
    · refine (keys_putF f y fs).2 g (wi g fun z => hg ?_)
      show (if g = f then some u else mA g) = none
      rw [if_neg q]; exact z

/-- a new instance, tracked, without attributes -/
theorem Inv.made (I : Inv X pins σ H s) : Inv X pins σ (upd (upd H s.heap.objs.size (.own (s.heap.objs.size + 1))) (s.heap.objs.size + 1) (.ins C s.heap.objs.size []))
    { s with heap := (s.heap.push PySem.W.emptyDict).push (PySem.W.instObj C s.heap.objs.size) } := by
  have e1 : (s.heap.push PySem.W.emptyDict).get? s.heap.objs.size = some PySem.W.emptyDict := Heap.get?_push_size s.heap rfl
  have e2 : ((s.heap.push PySem.W.emptyDict).push (PySem.W.instObj C s.heap.objs.size)).get? (s.heap.objs.size + 1) = some (PySem.W.instObj C s.heap.objs.size) := by
    have := Heap.get?_push_size (s.heap.push PySem.W.emptyDict) (o := PySem.W.instObj C s.heap.objs.size) rfl
    rwa [Heap.size_push] at this
  have e3 : (s.heap.push PySem.W.emptyDict).Ns s.heap.objs.size (fun _ => none) := ⟨PySem.W.emptyDict, #[], _, e1, rfl, (fun e he => absurd he (by simp)), fun _ => rfl⟩
  have I1 := I.laid (a := s.heap.objs.size) (o := .own (s.heap.objs.size + 1)) (h' := s.heap.push PySem.W.emptyDict) (t' := s.toks) (fun b u q => Heap.get?_push_of_some _ q) (Nat.le_refl _) ⟨_, e1⟩
  refine I1.laid (a := s.heap.objs.size + 1) (o := .ins C s.heap.objs.size []) (t' := s.toks) (fun b u q => Heap.get?_push_of_some _ q) (Nat.le_of_eq (Heap.size_push _ _)) ?_
  have ne : s.heap.objs.size ≠ s.heap.objs.size + 1 := Nat.ne_of_lt (Nat.lt_succ_self _)
  refine ⟨by rw [upd_ne ne, upd_same], Nat.zero_le _, ne, e2, fun _ => none, (Heap.Ns1.of_empty e3).at fun o q => Heap.get?_push_of_some _ q, fun _ => True.intro, fun y hy => absurd rfl hy⟩

/-- e.f where nothing but the object is asked: through attributeBase (super) and the last hold -/
theorem attr_of {prog : Program} {w : World} {env : Env} {e : Expr} {f : Str} {pos : Pos} {s : Shared} {Q : Value → Shared → Prop} (hb : attributeBase e f env (eval e env) = eval e env)
    (h : wpAny (model prog w) A (eval e env) (fun o s₁ => wpAny (model prog w) A (getAttr o f true) Q E s₁) E s) : wpAny (model prog w) A (eval (.Attribute e f pos) env) Q E s :=
  Attribute_any_ h (by rw [arm_eval_Attribute, hb])
end

/-- e.f, an attribute of the instance -/
def tFld (K : PySem.W.Frag) (ta : TE) (f : Str) : TE := fun σ H Q => ta σ H fun x H1 => ∃ a C dx fs v, x = .ref a ∧ H1 a = some (.ins C dx fs) ∧ Cls K C ∧ NoAttr K C f ∧ fs.lookup f = some v ∧ Q v H1
/-- e.f = value -/
def sFld (K : PySem.W.Frag) (ta tv : TE) (f : Str) : TS := fun D σ H => tv σ H fun y H1 => ta σ H1 fun x H2 => ∃ a C dx fs, x = .ref a ∧ H2 a = some (.ins C dx fs) ∧ Cls K C ∧ NoAttr K C f ∧ fs.length < 1000 ∧
  D.nx σ (upd H2 a (.ins C dx (putF f y fs)))
section
variable {X : Cx} {o e value : Expr} {f : Str} {pos pos' tpos : Pos} {ta tv : TE}
theorem pe_fld (he : PE X e ta) (hb : attributeBase e f X.env (eval e X.env) = eval e X.env) : PE X (.Attribute e f pos) (tFld X.K ta f) := by
  intro pins s σ H Q I h
  refine attr_of hb (thn (he pins s σ H _ I h) fun u s1 ⟨x, H1, I1, rx, a, C, dx, fs, v, ex, ea, c, n, l, q⟩ => ?_)
  subst ex
  obtain rfl : u = Value.ref a := rx
  exact getattr_ok I1 ea c n l fun u' s2 I2 ru => ⟨v, H1, I2, ru, q⟩
theorem ps_fld (ha : PE X o ta) (hv : PE X value tv) (hs : swapsWith value (some (.Attribute o f pos')) pos.line X.env = pure false) : PS X (.Assign [.Attribute o f pos'] value pos) (sFld X.K ta tv f) := by
  intro pins s σ H D I h
  refine plainObj_wpAny_Assign_Attribute (thn (hv pins s σ H _ I h) fun u s1 ⟨y, H1, I1, ry, q⟩ => thn (ha pins s1 σ H1 _ I1 q) fun ov s2 ⟨x, H2, I2, rx, a, C, dx, fs, ex, ea, c, n, l, q2⟩ => ?_) hs
  subst ex
  obtain rfl : ov = Value.ref a := rx
  exact setattr_ok I2 ea c n l ry fun s3 I3 => ⟨σ, _, I3, q2⟩
end

section
variable {X : Cx} {pins : List (Addr × Obj)} {σ : St} {H : Hp} {s : Shared} {A : Around} {E : Value → Shared → Prop} {Q : Value → Shared → Prop} {c : Value} {b : Bool}
/-- the type of a value, as the fragment's deciders take it; for an instance its class -/
inductive TyOf (K : PySem.W.Frag) (H : Hp) : V → Value → Prop where
  | non : TyOf K H .non (.type "NoneType")
  | bl (x : Bool) : TyOf K H (.bl x) (.type "bool")
  | int (i : Int) : TyOf K H (.int i) (.type "int")
  | str (x : Str) : TyOf K H (.str x) (.type "str")
  | flt (x : UInt64) : TyOf K H (.flt x) (.type "float")
  | lst {a : Addr} {xs : List V} (e : H a = some (.lst xs)) : TyOf K H (.ref a) (.type "list")
  | frz {a : Addr} {o : Obj} {xs : List V} (e : H a = some (.frz o (.lst xs))) : TyOf K H (.ref a) (.type "list")
  | tup {a : Addr} {xs : List V} (e : H a = some (.tup xs)) : TyOf K H (.ref a) (.type "tuple")
  | dK {a : Addr} {kvs : List (Key × V)} (e : H a = some (.dK kvs)) : TyOf K H (.ref a) (.type "dict")
  | dT {a : Addr} {kvs : List (List Key × V)} (e : H a = some (.dT kvs)) : TyOf K H (.ref a) (.type "dict")
  | ins {a C dx : Addr} {fs : List (Str × V)} (e : H a = some (.ins C dx fs)) (cl : Cls K C) (ha : PySem.W.findIn K (.ref C) "__class__" = some (some (.builtin "object.__class__")))
      (hn : PySem.W.specialIn K (.builtin "object.__class__") "__get__" = some (some (.builtin "getset_descriptor.__get__"))) (htk : PySem.W.takesIn K (.builtin "object.__class__") = some true)
      (hm : PySem.W.mroIn K C (.type "object") = some true) : TyOf K H (.ref a) (.ref C)
/-- isinstance(x, c) for one class c, a built-in or an own one: kitOne's answer -/
theorem isinst_ok {x : V} {u t : Value} (I : Inv X pins σ H s) (rx : RelV x u) (ty : TyOf X.K H x t) (e : PySem.W.kitOne X.K t c = some b) (h : ∀ tk, Q (.bool b) { s with toks := tk }) :
    wpAny (model X.prog X.w) A (call (.builtin "isinstance") [u, c]) Q E s := by
  cases ty with
  | non => cases (show u = Value.none from rx); exact PySem.W.kia_one PySem.W.kitx_none I.kIn True.intro e (fun z => nomatch z) h
  | bl y => cases (show u = Value.bool y from rx); exact PySem.W.kia_one PySem.W.kitx_bool I.kIn True.intro e (fun z => nomatch z) h
  | int i => obtain ⟨t, q⟩ := (show ∃ t, u = Value.int i t from rx); cases q; exact PySem.W.kia_one PySem.W.kitx_int I.kIn True.intro e (fun z => nomatch z) h
  | str y => obtain ⟨t, q⟩ := (show ∃ t, u = Value.str y t from rx); cases q; exact PySem.W.kia_one PySem.W.kitx_str I.kIn True.intro e (fun z => nomatch z) h
  | flt y => obtain ⟨t, q⟩ := (show ∃ t, u = Value.float y t from rx); cases q; exact PySem.W.kia_one PySem.W.kitx_float I.kIn True.intro e (fun z => nomatch z) h
  | @lst a xs ea =>
    cases (show u = Value.ref a from rx)
    obtain ⟨_, _, n, _, h1⟩ := (show ObjOk X.prog X.w H s.heap a (.lst xs) from I.hok a _ ea)
    exact PySem.W.kia_one PySem.W.kitx_list I.kIn ⟨_, h1, rfl⟩ e (fun z => nomatch z) h
  | @frz a ob xs ea =>
    cases (show u = Value.ref a from rx)
    obtain ⟨_, _, _, n, _, h1⟩ := (show ObjOk X.prog X.w H s.heap a (.frz ob (.lst xs)) from I.hok a _ ea)
    exact PySem.W.kia_one PySem.W.kitx_list I.kIn ⟨_, h1, rfl⟩ e (fun z => nomatch z) h
  | @tup a xs ea =>
    cases (show u = Value.ref a from rx)
    obtain ⟨_, _, _, p⟩ := (show ObjOk X.prog X.w H s.heap a (.tup xs) from I.hok a _ ea)
    obtain ⟨o, h1, h2, _⟩ := p
    exact PySem.W.kia_one PySem.W.kitx_tuple I.kIn ⟨o, h1, h2⟩ e (fun z => nomatch z) h
  | @dK a kvs ea =>
    cases (show u = Value.ref a from rx)
    obtain ⟨_, _, vs, _, p⟩ := (show ObjOk X.prog X.w H s.heap a (.dK kvs) from I.hok a _ ea)
    obtain ⟨o, es, ep, h1, h2, _⟩ := p
    exact PySem.W.kia_one PySem.W.kitx_dict I.kIn ⟨o, h1, h2.1⟩ e (fun z => nomatch z) h
  | @dT a kvs ea =>
    cases (show u = Value.ref a from rx)
    obtain ⟨_, _, xs, _, o, es, ep, h1, h2, _⟩ := (show ObjOk X.prog X.w H s.heap a (.dT kvs) from I.hok a _ ea)
    exact PySem.W.kia_one PySem.W.kitx_dict I.kIn ⟨o, h1, h2.1⟩ e (fun z => nomatch z) h
  | @ins a C dx fs ea cl ha hn htk hm =>
    cases (show u = Value.ref a from rx)
    obtain ⟨mA, O, _⟩ := ins_get I.hok ea
    obtain ⟨od, J, _⟩ := O.look
    exact PySem.W.kia_one (PySem.W.kitx_own (cl.get _) cl.hd ha hn htk hm) I.kIn J e (fun z => nomatch z) h
end
end L2

namespace L2
open PySem PySem.Spec PyProof.Rows

structure Room (k : Nat) (A : Around) : Prop where
  hd : A.handled = none
  dp : A.depth + 3 * k + 5 < recursionLimit
  un : A.units + 16 * k + 200 < cLine
  gd : A.guards = some []
theorem Room.mono {j k : Nat} {A : Around} (r : Room k A) (h : j ≤ k) : Room j A := ⟨r.hd, by have := r.dp; omega, by have := r.un; omega, r.gd⟩
theorem Room.deeper {k : Nat} {A : Around} (r : Room (k + 1) A) (env : Env) : Room k (A.deeper env) :=
  ⟨r.hd, by have := r.dp; show A.depth + 1 + 3 * k + 5 < _; omega, by have := r.un; show A.units + 3 + 16 * k + 200 < _; omega, r.gd⟩
theorem Room.in1 {k : Nat} {A : Around} (r : Room (k + 1) A) : Room k A.in1 :=
  ⟨r.hd, by have := r.dp; show A.depth + 3 * k + 5 < _; omega, by have := r.un; show A.units + 1 + 16 * k + 200 < _; omega, r.gd⟩
theorem make_depth {A : Around} {C : Addr} {us : List Value} {kw : List (Str × Value)} : (A.under (.builtin "type.__call__" ⟨.ref C :: us, kw⟩)).depth = A.depth + 1 := by
  first | rfl | simp [Around.under, Code.weight, Code.isCreation, Code.isGuard, Code.isCaller, Code.frames, Code.isFrame, guardIds]
theorem make_units {A : Around} {C : Addr} {us : List Value} {kw : List (Str × Value)} : (A.under (.builtin "type.__call__" ⟨.ref C :: us, kw⟩)).units = A.units + 1 := by
  first | rfl | simp [Around.under, Code.cUnits, Code.frames, Code.isFrame]
theorem Room.make {k : Nat} {A : Around} (r : Room (k + 1) A) (C : Addr) (us : List Value) (kw : List (Str × Value)) : Room k (A.under (.builtin "type.__call__" ⟨.ref C :: us, kw⟩)) :=
  ⟨r.hd, by have := r.dp; rw [make_depth]; omega, by have := r.un; rw [make_units]; omega, (by first | exact r.gd | simpa [Around.under, Code.isGuard, guardIds] using r.gd)⟩
theorem Room.depth {k : Nat} {A : Around} (r : Room k A) : A.depth < recursionLimit := by have := r.dp; omega
theorem Room.units {k : Nat} {A : Around} (r : Room k A) : A.units + 64 < cLine := by have := r.un; omega
def tNil : TA := fun _ H Q => Q [] H
def tCons (ta : TE) (tr : TA) : TA := fun σ H Q => ta σ H fun x H1 => tr σ H1 fun xs H2 => Q (x :: xs) H2
section
variable {X : Cx} {e : Expr} {es : List Expr} {te : TE} {t : TA} {pos : Pos}
theorem pa_nil : PA X [] tNil := fun _ _ _ _ H Q I h => Calls.spliced_nil ⟨[], H, I, .nil, h⟩
theorem pa_cons (ha : PE X e te) (hr : PA X es t) (hs : starEach (e :: es) X.env = (false, eval e X.env) :: starEach es X.env := by rfl) : PA X (e :: es) (tCons te t) := by
  intro pos pins s σ H Q I h
  rw [hs]
  show wpAny _ _ (spliced ((false, eval e X.env) :: backTo pos (starEach es X.env))) _ _ s
  refine Calls.spliced_cons (thn (ha pins s σ H _ I h) fun u s1 ⟨x, H1, I1, r1, q1⟩ => ?_)
  exact thn (hr pos pins s1 σ H1 _ I1 q1) fun us s2 ⟨xs, H2, I2, r2, q2⟩ => ⟨x :: xs, H2, I2, .cons r1 r2, q2⟩

/-- a tuple, a list of written items -/
def tTup (t : TA) : TE := fun σ H Q => t σ H fun xs H1 => xs.length ≤ sizeLine ∧ ∀ p, H1 p = none → Q (.ref p) (upd H1 p (.tup xs))
def tLst (t : TA) : TE := fun σ H Q => t σ H fun xs H1 => xs.length ≤ sizeLine ∧ ∀ p, H1 p = none → Q (.ref p) (upd H1 p (.lst xs))
theorem pe_tup {x1} (h : PA X es t) : PE X (.Tuple es x1 pos) (tTup t) := by
  intro pins s σ H Q I hq
  refine wpAny_Tuple_spliced (thn (h pos pins s σ H _ I hq) fun us s1 ⟨xs, H1, I1, r, z, q⟩ => ⟨by rw [← r.length]; exact z, ?_⟩)
  have hf : H1 s1.heap.objs.size = none := I1.hok.fresh (Nat.le_refl _)
  refine ⟨.ref s1.heap.objs.size, upd H1 s1.heap.objs.size (.tup xs), I1.laid (t' := s1.toks) (fun b u e => Heap.get?_push_of_some _ e) (Nat.le_refl _) ?_, rfl, q _ hf⟩
  exact ⟨z, us, r, ⟨_, Heap.get?_push_size _ rfl, rfl, _, rfl⟩⟩
theorem pe_lst (h : PA X es t) : PE X (.List es pos) (tLst t) := by
  intro pins s σ H Q I hq
  refine wpAny_List_spliced (thn (h pos pins s σ H _ I hq) fun us s1 ⟨xs, H1, I1, r, z, q⟩ => ⟨by rw [← r.length]; exact z, ?_⟩)
  have hf : H1 s1.heap.objs.size = none := I1.hok.fresh (Nat.le_refl _)
  refine ⟨.ref s1.heap.objs.size, upd H1 s1.heap.objs.size (.lst xs), I1.laid (t' := s1.toks) (fun b u e => Heap.get?_push_of_some _ e) (Nat.le_refl _) ?_, rfl, q _ hf⟩
  exact ⟨z, us, 0, r, Heap.get?_push_size _ rfl⟩
end

/-- a def's promise: the bound arguments in the parameters' order, the heap, the wanted end, the wanted exception -/
abbrev Sp := List V → Hp → VK → XK → Prop
/-- how an exception lies behind a call (file 08 gives it): the callers' frames, abstract heap and state ahead of the call, the wish, the exception, the state -/
abbrev CXT := List Env → Hp → Shared → XK → Value → Shared → Prop

/-- the state at a call -/
structure Env0 (P : Program) (w : World) (K : PySem.W.Frag) (mg : Str → Option Value) (base : Heap) (A : Around) (outer : List Env) (s : Shared) (H : Hp) : Prop where
  frames : A.frames = some outer
  mod : Mod K mg base
  bs : ∀ b o, base.get? b = some o → s.heap.get? b = some o ∧ H b = none
  bsz : base.objs.size ≤ s.heap.objs.size
  funs : s.heap.FunFrames base outer
  frf : ∀ b ∈ frs outer, H b = none
  hok : HOk P w H s.heap
  bare : AllBare s.gens
  tb : Tabs P K mg H
/-- a call's end -/
def CE (outer : List Env) (P : Program) (w : World) (H : Hp) (s : Shared) (Q : VK) (u : Value) (s' : Shared) : Prop :=
  ∃ v H', s'.os = s.os ∧ BareG s.gens s'.gens ∧ Un (frs outer) [] H H' s.heap s'.heap ∧ HOk P w H' s'.heap ∧ RelV v u ∧ Q v H'
def CR (CX : CXT) (outer : List Env) (P : Program) (w : World) (H : Hp) (s : Shared) (Q : VK) (E : XK) (r : Result) (s' : Shared) : Prop :=
  match r with
  | .ok (.ret u) => CE outer P w H s Q u s'
  | .ok _ => False
  | .error e => CX outer H s E e s'
structure FnOk (P : Program) (w : World) (K : PySem.W.Frag) (mg : Str → Option Value) (base : Heap) (CX : CXT) (k : Nat) (f : Addr) (fd : FuncData) (ps : List Str) (sp : Sp) : Prop where
  len : ∀ vs H Q E, sp vs H Q E → vs.length = ps.length
  run : ∀ (A : Around) (outer : List Env) (s : Shared) (H : Hp) (args : Args) (us : List Value) (vs : List V) (Q : VK) (E : XK), Room k A → Env0 P w K mg base A outer s H → BindsTo s fd args (ps.zip us) → Vals vs us → sp vs H Q E →
    codeAny (model P w) A (.call (.ref f) args) (CR CX outer P w H s Q E) s
theorem FnOk.mono {P : Program} {w : World} {K : PySem.W.Frag} {mg : Str → Option Value} {base : Heap} {CX : CXT} {j k : Nat} {f : Addr} {fd : FuncData} {ps : List Str} {sp : Sp} (F : FnOk P w K mg base CX j f fd ps sp) (h : j ≤ k) :
    FnOk P w K mg base CX k f fd ps sp := ⟨F.len, fun A outer s H args us vs Q E hr => F.run A outer s H args us vs Q E (hr.mono h)⟩
/-- a weaker promise -/
theorem FnOk.imp {P : Program} {w : World} {K : PySem.W.Frag} {mg : Str → Option Value} {base : Heap} {CX : CXT} {k : Nat} {f : Addr} {fd : FuncData} {ps : List Str} {sp sp' : Sp} (F : FnOk P w K mg base CX k f fd ps sp)
    (h : ∀ vs H Q E, sp' vs H Q E → sp vs H Q E) : FnOk P w K mg base CX k f fd ps sp' :=
  ⟨fun vs H Q E q => F.len vs H Q E (h _ _ _ _ q), fun A outer s H args us vs Q E hr he hb hv hs => F.run A outer s H args us vs Q E hr he hb hv (h _ _ _ _ hs)⟩

theorem Env0.make {P : Program} {w : World} {K : PySem.W.Frag} {mg : Str → Option Value} {base : Heap} {A : Around} {outer : List Env} {s : Shared} {H : Hp} (e : Env0 P w K mg base A outer s H) (C : Addr) (us : List Value) (kw : List (Str × Value)) :
    Env0 P w K mg base (A.under (.builtin "type.__call__" ⟨.ref C :: us, kw⟩)) outer s H := ⟨by first | exact e.frames | (simpa [Around.under, Code.envs, Code.isFrame, pushEnvs] using e.frames), e.mod, e.bs, e.bsz, e.funs, e.frf, e.hok, e.bare, e.tb⟩
theorem Env0.in1 {P : Program} {w : World} {K : PySem.W.Frag} {mg : Str → Option Value} {base : Heap} {A : Around} {outer : List Env} {s : Shared} {H : Hp} (e : Env0 P w K mg base A outer s H) :
    Env0 P w K mg base A.in1 outer s H := ⟨e.frames, e.mod, e.bs, e.bsz, e.funs, e.frf, e.hok, e.bare, e.tb⟩

section
variable {X : Cx} {pins : List (Addr × Obj)} {σ : St} {H : Hp} {s s' : Shared}
/-- from a body: what a callee wants -/
theorem Inv.env0 (I : Inv X pins σ H s) : Env0 X.prog X.w X.K X.mg X.base X.A X.stack s H :=
  ⟨I.ok.frames, I.ok.mod, I.bs, Nat.le_trans I.ok.bsz I.sz, I.stack, I.stkFree, I.hok, I.bare.1, I.ok.tb.un I.base⟩
/-- behind a call -/
theorem Inv.after {Q : VK} {u : Value} (I : Inv X pins σ H s) (h : CE X.stack X.prog X.w H s Q u s') : EP X pins σ Q u s' := by
  obtain ⟨v, H', os, bare, un, hok, r, q⟩ := h
  obtain ⟨hh, g, d, t, os'⟩ := s'
  obtain rfl : os' = s.os := os
  exact ⟨v, H', I.call (h' := hh) (g' := g) (d' := d) (t' := t) (ch := []) un hok bare (fun b z => absurd z (by simp)), r, q⟩
end

/-- f(..): the written arguments, then the defaults dvs; E: what is wanted of an exception -/
def tCall (sp : Sp) (dvs : List V) (E : XK) (t : TA) : TE := fun σ H Q => t σ H fun vs H1 => sp (vs ++ dvs) H1 Q E
/-- o.m(..) of an instance of the class at C -/
def tMeth (C : Addr) (m : Str) (sp : Sp) (dvs : List V) (E : XK) (ta : TE) (t : TA) : TE := fun σ H Q => ta σ H fun x H1 => ∃ a dx fs, x = .ref a ∧ H1 a = some (.ins C dx fs) ∧ fs.lookup m = none ∧
  t σ H1 fun vs H2 => sp (x :: (vs ++ dvs)) H2 Q E
/-- C(..): a new instance and its dict, then __init__ -/
def tMake (C : Addr) (sp : Sp) (dvs : List V) (E : XK) (t : TA) : TE := fun σ H Q => t σ H fun vs H1 => ∀ x dx, H1 x = none → H1 dx = none → dx ≠ x →
  sp (.ref x :: (vs ++ dvs)) (upd (upd H1 dx (.own x)) x (.ins C dx [])) (fun v H2 => v = .non ∧ Q (.ref x) H2) E

/-- how the parameters are bound: us the positional arguments, kw the keywords' values by name, ds the defaults that fill up -/
def Binds (K : PySem.W.Frag) (fd : FuncData) (ps : List Str) (ds : List Value) : Prop :=
  ∀ (s : Shared) (us : List Value), K.In s.heap → (us ++ ds).length = ps.length → BindsTo s fd ⟨us, []⟩ (ps.zip (us ++ ds))
/-- every parameter is given -/
theorem Binds.all {K : PySem.W.Frag} {fd : FuncData} {ps : List Str} (h : ∀ us : List Value, us.length = ps.length → bindArgs fd ⟨us, []⟩ = pure (ps.zip us)) : Binds K fd ps [] := fun s us _ hl => by
  rw [List.append_nil] at hl ⊢
  exact .of_eq (h us hl)

/-- an exception of a callee reaches what this body wants of exceptions -/
def Passes (CX : CXT) (X : Cx) (E : XK) : Prop := ∀ (pins : List (Addr × Obj)) (σ : St) (H : Hp) (s : Shared) (e : Value) (s' : Shared), Inv X pins σ H s → CX X.stack H s E e s' → X.xe e s'

section
variable {X : Cx} {CX : CXT} {k : Nat} {f C : Addr} {fd : FuncData} {ps : List Str} {sp : Sp} {dvs : List V} {ds : List Value} {E : XK} {x m : Str} {p pos apos : Pos} {e o : Expr} {es : List Expr} {ta : TE} {t : TA}

/-- the callee runs -/
theorem run_fn {pins : List (Addr × Obj)} {σ : St} {H : Hp} {s : Shared} {Q : VK} {us : List Value} {vs : List V} (F : FnOk X.prog X.w X.K X.mg X.base CX k f fd ps sp) (hr : Room k X.A) (hb : Binds X.K fd ps ds) (hd : Vals dvs ds) (hx : Passes CX X E)
    (I : Inv X pins σ H s) (r : Vals vs us) (h : sp (vs ++ dvs) H Q E) : wpAny (model X.prog X.w) X.A (call (.ref f) us) (EP X pins σ Q) X.xe s := by
  have r2 : Vals (vs ++ dvs) (us ++ ds) := r.append hd
  have hl : (us ++ ds).length = ps.length := by rw [← r2.length]; exact F.len _ _ _ _ h
  refine wpAny_call (codeAny_mono (F.run X.A X.stack s H ⟨us, []⟩ (us ++ ds) (vs ++ dvs) Q E hr I.env0 (hb s us I.kIn hl) r2 h) fun r s' hq => ?_)
  cases r with
  | error e => exact hx pins σ H s e s' I hq
  | ok fl =>
    cases fl with
    | ret u => exact I.after hq
    | next => exact False.elim hq
    | brk => exact False.elim hq
    | cont => exact False.elim hq

theorem pe_call (F : FnOk X.prog X.w X.K X.mg X.base CX k f fd ps sp) (hr : Room k X.A) (hg : Gl X x) (hm : X.mg x = some (.ref f)) (hk : PySem.W.keepIn X.K (.ref f) = true) (hb : Binds X.K fd ps ds) (hd : Vals dvs ds) (hx : Passes CX X E)
    (ha : PA X (e :: es) t) (hdb : (x == ("__debug__" : Str)) = false := by decide) (he : starEach (e :: es) X.env = (false, eval e X.env) :: starEach es X.env := by rfl) (hpl : (backTo pos (starEach es X.env)).any (·.1) = false := by rfl) :
    PE X (.Call (.Name x p) (e :: es) [] pos) (tCall sp dvs E t) := by
  intro pins s σ H Q I h
  refine wpAny_Call_Name_kw (ld_glob I hg hm ?_ hdb)
  refine PySem.W.callWith_K (h₀ := X.base) I.ok.mod.kin hk (thn (ha pos pins s σ H _ I h) fun us s1 ⟨vs, H1, I1, r, q⟩ => ⟨I1.kIn, ?_⟩) he hpl
  exact run_fn F hr hb hd hx I1 r q
/-- o.m(e, ..) -/
theorem pe_meth {pl : Sem Bool} (he : PE X o ta) (c : Cls X.K C) (hm : Meth X.K C m f) (F : FnOk X.prog X.w X.K X.mg X.base CX k f fd ps sp) (hr : Room k X.A) (hb : Binds X.K fd ps ds) (hd : Vals dvs ds) (hx : Passes CX X E) (ha : PA X (e :: es) t)
    (hst : starEach (e :: es) X.env = (false, eval e X.env) :: starEach es X.env := by rfl) (hpl : (backTo pos (starEach es X.env)).any (·.1) = false := by rfl)
    (ht : eval (.Call (.Attribute o m apos) (e :: es) [] pos) X.env = (do
      let ov ← eval o X.env
      standAt apos.atName
      let (f, first) ← holding [ov] (getMethod ov m pl)
      callWith pos f first (backTo pos (starEach (e :: es) X.env)) (backToKw pos (keywordEach [] X.env))) := by rfl) :
    PE X (.Call (.Attribute o m apos) (e :: es) [] pos) (tMeth C m sp dvs E ta t) := by
  intro pins s σ H Q I h
  refine PySem.W.methodCall_KW (pl := pl) (thn (he pins s σ H _ I h) fun u s1 ⟨x, H1, I1, rx, a, dx, fs, ex, ea, l, q⟩ => ?_) ht
  subst ex
  obtain rfl : u = Value.ref a := rx
  refine getmeth_ok I1 ea c hm l ?_
  refine PySem.W.callWith_K (first := [.ref a]) (h₀ := X.base) I.ok.mod.kin hm.kp (thn (ha pos pins s1 σ H1 _ I1 q) fun us s2 ⟨vs, H2, I2, r, q2⟩ => ⟨I2.kIn, ?_⟩) hst hpl
  exact run_fn (us := .ref a :: us) (vs := .ref a :: vs) F hr hb hd hx I2 (.cons rfl r) q2
/-- what a class must have to be made -/
structure Mk (K : PySem.W.Frag) (C f : Addr) : Prop where
  makes : PySem.W.makesIn K C = true
  init : PySem.W.findIn K (.ref C) "__init__" = some (some (.ref f))
  fn : PySem.W.isFn K (.ref f) = true
  kp : PySem.W.keepIn K (.ref C) = true

theorem run_make {pins : List (Addr × Obj)} {σ : St} {H : Hp} {s : Shared} {Q : VK} {us : List Value} {vs : List V} (M : Mk X.K C f) (F : FnOk X.prog X.w X.K X.mg X.base CX k f fd ps sp) (hr : Room (k + 1) X.A) (hb : Binds X.K fd ps ds) (hd : Vals dvs ds)
    (hx : Passes CX X E) (I : Inv X pins σ H s) (r : Vals vs us)
    (h : ∀ x dx, H x = none → H dx = none → dx ≠ x → sp (.ref x :: (vs ++ dvs)) (upd (upd H dx (.own x)) x (.ins C dx [])) (fun v H2 => v = .non ∧ Q (.ref x) H2) E) :
    wpAny (model X.prog X.w) X.A (call (.ref C) us) (EP X pins σ Q) X.xe s := by
  have hq := h (s.heap.objs.size + 1) s.heap.objs.size (I.hok.fresh (Nat.le_succ _)) (I.hok.fresh (Nat.le_refl _)) (Nat.ne_of_lt (Nat.lt_succ_self _))
  have I2 := Inv.made (C := C) I
  have r2 : Vals (V.ref (s.heap.objs.size + 1) :: (vs ++ dvs)) (Value.ref (s.heap.objs.size + 1) :: (us ++ ds)) := .cons rfl (r.append hd)
  have hl : (Value.ref (s.heap.objs.size + 1) :: us ++ ds).length = ps.length := by
    have e := r2.length
    rw [F.len _ _ _ _ hq] at e
    exact e.symm
  refine wpAny_call (make_map (f := f) I.kIn M.makes M.init (beq_iff_eq.mp M.fn) (codeAny_mono (F.run _ X.stack _ _ ⟨Value.ref (s.heap.objs.size + 1) :: us, []⟩ (Value.ref (s.heap.objs.size + 1) :: (us ++ ds)) _ _ E (hr.make C us [])
    (I2.env0.make C us []) (hb _ (Value.ref (s.heap.objs.size + 1) :: us) I2.kIn hl) r2 hq) fun r s' hq' => ?_))
  cases r with
  | error e => exact hx pins σ _ _ e s' I2 hq'
  | ok fl =>
    cases fl with
    | ret u =>
      obtain ⟨v, H', I3, rv, ev, q3⟩ := I2.after hq'
      subst ev
      exact ⟨rv, ⟨V.ref (s.heap.objs.size + 1), H', I3, rfl, q3⟩⟩
    | next => exact False.elim hq'
    | brk => exact False.elim hq'
    | cont => exact False.elim hq'
theorem pe_make (M : Mk X.K C f) (F : FnOk X.prog X.w X.K X.mg X.base CX k f fd ps sp) (hr : Room (k + 1) X.A) (hg : Gl X x) (hm : X.mg x = some (.ref C)) (hb : Binds X.K fd ps ds) (hd : Vals dvs ds) (hx : Passes CX X E)
    (ha : PA X (e :: es) t) (hdb : (x == ("__debug__" : Str)) = false := by decide) (he : starEach (e :: es) X.env = (false, eval e X.env) :: starEach es X.env := by rfl) (hpl : (backTo pos (starEach es X.env)).any (·.1) = false := by rfl) :
    PE X (.Call (.Name x p) (e :: es) [] pos) (tMake C sp dvs E t) := by
  intro pins s σ H Q I h
  refine wpAny_Call_Name_kw (ld_glob I hg hm ?_ hdb)
  refine PySem.W.callWith_K (h₀ := X.base) I.ok.mod.kin M.kp (thn (ha pos pins s σ H _ I h) fun us s1 ⟨vs, H1, I1, r, q⟩ => ⟨I1.kIn, ?_⟩) he hpl
  exact run_make M F hr hb hd hx I1 r q
end

section
variable {X : Cx} {CX : CXT} {k : Nat} {f C : Addr} {fd : FuncData} {ps ks : List Str} {sp : Sp} {E : XK} {x m : Str} {p pos apos kpos : Pos} {e o : Expr} {es : List Expr} {kws : List Keyword} {te ta : TE} {t tk : TA} {nm : Option Str}
/-- how a call with keywords binds: g puts the positional values us and the keywords' values ws (names ks) in the parameters' order, defaults among them -/
structure KBinds (K : PySem.W.Frag) (fd : FuncData) (ps ks : List Str) (g : List Value → List Value → List Value) (gV : List V → List V → List V) : Prop where
  to : ∀ (s : Shared) (us ws : List Value), K.In s.heap → (g us ws).length = ps.length → BindsTo s fd ⟨us, ks.zip ws⟩ (ps.zip (g us ws))
  rel : ∀ {vs : List V} {us : List Value} {zs : List V} {ws : List Value}, Vals vs us → Vals zs ws → Vals (gV vs zs) (g us ws)
variable {g : List Value → List Value → List Value} {gV : List V → List V → List V}
end

/-- names: the parameters first -/
structure FnScope (N P : List Str) (sc : Scope) : Prop where
  kind : sc.kind = .function
  co : sc.isCoroutine = false
  gen : sc.isGenerator = false
  nd : N.Nodup
  pre : N.take P.length = P
  par : ∀ x ∈ P, sc.names.lookup x = some .local ∨ sc.names.lookup x = some .cell
  nofree : ∀ y ∈ sc.names, y.2 ≠ .free

theorem bindL_out {kindOf : Str → Option NameKind} {x : Str} : ∀ {binds : List (Str × Value)} {m : Str → Option Value}, (∀ v, (x, v) ∉ binds) → bindL kindOf binds m x = m x
  | [], _, _ => rfl
  | (n, v) :: r, m, h => by
    unfold bindL
    rw [bindL_out fun w hw => h w (List.mem_cons_of_mem _ hw)]
    split
    · have : x ≠ n := by rintro rfl; exact h v List.mem_cons_self
      simp [this]
    · rfl
theorem bindC_out {kindOf : Str → Option NameKind} {x : Str} : ∀ {binds : List (Str × Value)} {m : Str → Option Value}, (∀ v, (x, v) ∉ binds) → bindC kindOf binds m x = m x
  | [], _, _ => rfl
  | (n, v) :: r, m, h => by
    unfold bindC
    rw [bindC_out fun w hw => h w (List.mem_cons_of_mem _ hw)]
    split
    · rfl
    · have : x ≠ n := by rintro rfl; exact h v List.mem_cons_self
      simp [this]
theorem bindL_get {kindOf : Str → Option NameKind} {x : Str} {v : Value} : ∀ {P : List Str} {vs : List Value} {i : Nat} {m : Str → Option Value}, P.Nodup → P[i]? = some x → vs[i]? = some v → kindOf x = some .local →
    bindL kindOf (P.zip vs) m x = some v
  | [], _, _, _, _, h, _, _ => by simp at h
  | _ :: _, [], _, _, _, _, h, _ => by simp at h
  | p :: P, w :: vs, 0, m, nd, h1, h2, hk => by
    simp at h1 h2; subst h1; subst h2
    show bindL kindOf ((p, w) :: P.zip vs) m p = _
    unfold bindL
    rw [bindL_out fun v hv => (List.nodup_cons.mp nd).1 (List.of_mem_zip hv).1, if_pos hk]
    simp
  | p :: P, w :: vs, i + 1, m, nd, h1, h2, hk => by
    show bindL kindOf ((p, w) :: P.zip vs) m x = _
    unfold bindL
    exact bindL_get (i := i) (List.nodup_cons.mp nd).2 (by simpa using h1) (by simpa using h2) hk
theorem bindC_get {kindOf : Str → Option NameKind} {x : Str} {v : Value} : ∀ {P : List Str} {vs : List Value} {i : Nat} {m : Str → Option Value}, P.Nodup → P[i]? = some x → vs[i]? = some v → kindOf x ≠ some .local →
    bindC kindOf (P.zip vs) m x = some v
  | [], _, _, _, _, h, _, _ => by simp at h
  | _ :: _, [], _, _, _, _, h, _ => by simp at h
  | p :: P, w :: vs, 0, m, nd, h1, h2, hk => by
    simp at h1 h2; subst h1; subst h2
    show bindC kindOf ((p, w) :: P.zip vs) m p = _
    unfold bindC
    rw [bindC_out fun v hv => (List.nodup_cons.mp nd).1 (List.of_mem_zip hv).1, if_neg hk]
    simp
  | p :: P, w :: vs, i + 1, m, nd, h1, h2, hk => by
    show bindC kindOf ((p, w) :: P.zip vs) m x = _
    unfold bindC
    exact bindC_get (i := i) (List.nodup_cons.mp nd).2 (by simpa using h1) (by simpa using h2) hk

/-- the names' values at the entry -/
def start (N : List Str) (vs : List V) : St := vs.map some ++ List.replicate (N.length - vs.length) none

/-- the context of a def's body, at its entry; an exception leaves the frame, then lies as CX says -/
def cxOf (CX : CXT) (P : Program) (w : World) (K : PySem.W.Frag) (mg : Str → Option Value) (base : Heap) (N : List Str) (qual : Str) (scope : Scope) (f : Addr) (cd : Value) (A : Around) (outer : List Env) (s : Shared) (H : Hp) (E : XK) : Cx where
  prog := P
  w := w
  K := K
  mg := mg
  base := base
  A := A.deeper (envOfC qual scope s.heap.objs.size f cd)
  N := N
  s_0 := s
  H_0 := H
  env := envOfC qual scope s.heap.objs.size f cd
  outer := outer
  stack := envOfC qual scope s.heap.objs.size f cd :: outer
  ex := []
  calm := true
  fn := fun _ => true
  pn := []
  xe := fun e s' => wpAny (model P w) (A.deeper (envOfC qual scope s.heap.objs.size f cd)) (leaving (envOfC qual scope s.heap.objs.size f cd) e) (fun _ s'' => CX outer H s E e s'') (fun e' s'' => CX outer H s E e' s'') s'

theorem cell_has {sc : Scope} {n : Nat} {x : Str} (h : sc.names.lookup x = some .cell) : ∃ c, (cellsFrom n sc.names []).lookup x = some c := by
  have q := PySem.W.cellsFrom_some sc.names n [] (.inl h)
  exact Option.isSome_iff_exists.mp q

theorem inv_start {CX : CXT} {P : Program} {w : World} {K : PySem.W.Frag} {mg : Str → Option Value} {base : Heap} {N ps : List Str} {qual : Str} {scope : Scope} {f : Addr} {cd : Value} {A : Around} {outer : List Env} {s s1 : Shared} {H : Hp} {E : XK} {us : List Value} {vs : List V}
    (S : FnScope N ps scope) (hd : A.handled = none) (e0 : Env0 P w K mg base A outer s H) (hl : vs.length = ps.length) (r : Vals vs us)
    (x : InCallC s s.heap.objs.size (bindL (envOfC qual scope s.heap.objs.size f cd).kindOf (ps.zip us) fun _ => none) (cellsFrom (s.heap.objs.size + 1) scope.names []) (bindC (envOfC qual scope s.heap.objs.size f cd).kindOf (ps.zip us) fun _ => none) s1) :
    Inv (cxOf CX P w K mg base N qual scope f cd A outer s H E) [] (start N vs) H s1 := by
  have hpl : ps.length ≤ N.length := by have := congrArg List.length S.pre; rw [List.length_take] at this; omega
  obtain ⟨h1, tk, rfl, hk⟩ := x.done
  have noA : ∀ b : Addr, b ∉ (cxOf CX P w K mg base N qual scope f cd A outer s H E).ex := fun b z => absurd (show b ∈ ([] : List Addr) from z) (by simp)
  refine ⟨⟨e0.mod, S.kind, rfl, rfl, Nat.le_refl _, fun y z c h1 h2 => ?_, fun y hy => ?_, fun y c _ h => ?_, fun _ => hd, Around.frames_deeper e0.frames, .inr ⟨rfl, rfl⟩, fun b z => absurd z (noA b), e0.bs, e0.bsz, fun b _ _ => noA b, fun b z => absurd z (noA b), e0.funs, e0.frf, e0.tb⟩,
    rfl, ⟨e0.bare, Nat.le_refl _⟩, Un.kept hk, ⟨_, x.toInCall.ns, fun i y v h1 h2 h3 => ?_⟩, fun y c h => ⟨_, x.cell y c h⟩, e0.hok.fresh (Nat.le_refl _), fun y c h => ?_, fun p hp => absurd (show p ∈ ([] : List (Addr × Obj)) from hp) (by simp), e0.hok.kept hk, ?_⟩
  · exact name_of_addr x.apart (PySem.mem_of_lookup h1) (PySem.mem_of_lookup h2)
  · have hy : scope.names.lookup y = some .cell ∨ scope.names.lookup y = some .free := hy
    rcases hy with hy | hy
    · exact cell_has hy
    · exact absurd rfl (S.nofree _ (PySem.mem_of_lookup hy))
  · exact Nat.le_of_lt (x.above y c (PySem.mem_of_lookup h))
  · have hi : i < vs.length := by
      unfold start at h2
      by_cases hi : i < vs.length
      · exact hi
      · rw [List.getElem?_append_right (by simpa using hi)] at h2
        rw [List.getElem?_replicate] at h2
        split at h2 <;> cases h2
    have ha : vs[i]? = some v := by
      unfold start at h2
      rw [List.getElem?_append_left (by simpa using hi), List.getElem?_map] at h2
      cases e : vs[i]? with
      | none => rw [e] at h2; cases h2
      | some a => rw [e] at h2; cases h2; rfl
    obtain ⟨u, hu, rv⟩ := r.get ha
    have hp : ps[i]? = some y := by
      rw [← S.pre, List.getElem?_take_of_lt (by omega)]; exact h1
    have ndP : ps.Nodup := by rw [← S.pre]; exact S.nd.sublist (List.take_sublist _ _)
    refine ⟨u, rv, ?_⟩
    rcases S.par y (List.mem_of_getElem? hp) with k | k
    · exact .inl ⟨k, bindL_get ndP hp hu k⟩
    · obtain ⟨c, e⟩ := cell_has (n := s.heap.objs.size + 1) k
      refine .inr ⟨.inl k, c, e, ?_⟩
      have q := x.cell y c e
      rw [bindC_get ndP hp hu (by show scope.names.lookup y ≠ _; rw [k]; decide)] at q
      exact q
  · exact e0.hok.fresh (Nat.le_of_lt (x.above y c (PySem.mem_of_lookup h)))
  · unfold start
    show _ = N.length
    rw [List.length_append, List.length_map, List.length_replicate]
    omega

/-- THE RULE: a def (or a method) of the text, by its body. The body's reading t is chosen for each entry; it is run at the parameters' values -/
theorem fn_of {CX : CXT} {P : Program} {w : World} {K : PySem.W.Frag} {mg : Str → Option Value} {base : Heap} {k : Nat} {f : Addr} {name qual : Str} {params : Arguments} {body : List Stmt} {scope : Scope} {dV kV doc pm cdv ct oc : Value} {an od : Option Addr}
    {osl : Array (Option Value)} {N ps : List Str} {sp : Sp} (lk : K.lookup f = some ⟨oc, od, .func (PySem.W.fnOf name qual params body scope dV kV doc pm an cdv ct), osl⟩) (hcd : PySem.W.codeIn K cdv qual = true) (S : FnScope N ps scope)
    (len : ∀ vs H Q E, sp vs H Q E → vs.length = ps.length)
    (hbody : ∀ (A : Around) (outer : List Env) (s : Shared) (H : Hp) (vs : List V) (Q : VK) (E : XK), Room k (A.deeper (envOfC qual scope s.heap.objs.size f cdv)) → sp vs H Q E →
      ∃ t, PSs (cxOf CX P w K mg base N qual scope f cdv A outer s H E) body t ∧ t { nx := fun _ H' => Q .non H', rt := Q } (start N vs) H) :
    FnOk P w K mg base CX (k + 1) f (PySem.W.fnOf name qual params body scope dV kV doc pm an cdv ct) ps sp := by
  refine ⟨len, fun A outer s H args us vs Q E hr e0 hb r hsp => ?_⟩
  have hl := len _ _ _ _ hsp
  have KX : K.In s.heap := e0.mod.kin.keeps fun b o e => (e0.bs b o e).1
  have lim : s.heap.NoLimit := e0.mod.nolimit.keeps fun b o e => (e0.bs b o e).1
  have hkind : ∀ y ∈ ps.zip us, scope.names.lookup y.1 = some .local ∨ (scope.names.lookup y.1 = some .cell ∧ ((cellsFrom (s.heap.objs.size + 1) scope.names []).lookup y.1).isSome = true) := fun ⟨n, v⟩ hy => by
    rcases S.par n (List.of_mem_zip hy).1 with q | q
    · exact .inl q
    · exact .inr ⟨q, PySem.W.cellsFrom_some _ _ _ (.inl q)⟩
  refine codeAny_call_function hr.depth (KX _ _ lk) rfl S.co S.gen rfl (PySem.W.codeRec_of KX hcd) (hb _ _ _ _ ?_)
  refine wpAny_newFunctionEnv_cells S.kind hkind fun env he s1 x => ?_
  subst he
  refine ⟨lim.keeps x.toInCall.keep, codeAny_func ?_⟩
  obtain ⟨t, ht, hq⟩ := hbody A outer s H vs Q E (hr.deeper _) hsp
  have I : Inv (cxOf CX P w K mg base N qual scope f cdv A outer s H E) [] (start N vs) H s1 := inv_start S hr.hd e0 hl r x
  refine wpAny_mono (ht [] s1 (start N vs) H _ I hq) (fun fl s' hs => ?_) fun e s' hs => hs
  have fin : ∀ {σ' : St} {H' : Hp} {v : V} {u : Value}, Inv (cxOf CX P w K mg base N qual scope f cdv A outer s H E) [] σ' H' s' → RelV v u → Q v H' → CE outer P w H s Q u s' :=
    fun {σ' H' v u} J rv q => ⟨v, H', J.os, J.bare, J.base, J.hok, rv, q⟩
  cases fl with
  | ret u =>
    obtain ⟨v, σ', H', J, rv, q⟩ := hs
    exact fin J rv q
  | next =>
    obtain ⟨σ', H', J, q⟩ := hs
    exact fin (v := V.non) (u := Value.none) J rfl q
  | brk =>
    obtain ⟨_, _, _, q⟩ := hs
    exact False.elim q
  | cont =>
    obtain ⟨_, _, _, q⟩ := hs
    exact False.elim q
end L2

namespace L2
open PySem PySem.Spec PyProof.Rows
section
variable {X : Cx} {x : Str} {p pos : Pos} {e : Expr} {es : List Expr} {t : TA} {id T : String} {r : List V → Hp → VK → Prop}

def tCB (r : List V → Hp → VK → Prop) (t : TA) : TE := fun σ H Q => t σ H fun vs H1 => r vs H1 Q
/-- f(e, ..), f a built-in function -/
theorem pe_callB (hc : CallR X (.builtin id) r) (hg : Gl X x) (hm : X.mg x = none) (hv : bootBuiltins x = some (.builtin id)) (ha : PA X (e :: es) t) (hn : x ≠ "__name__" := by decide) (hdb : (x == ("__debug__" : Str)) = false := by decide)
    (he : starEach (e :: es) X.env = (false, eval e X.env) :: starEach es X.env := by rfl) (hpl : (backTo pos (starEach es X.env)).any (·.1) = false := by rfl) : PE X (.Call (.Name x p) (e :: es) [] pos) (tCB r t) := by
  intro pins s σ H Q I h
  refine wpAny_Call_Name_kw (ld_blt I hg hm hv ?_ hn hdb)
  exact PyProof.Rows.callWith_builtin1 (thn (ha pos pins s σ H _ I h) fun us s1 ⟨vs, H1, I1, r1, q1⟩ => hc pins s1 σ H1 vs us Q I1 r1 q1) he hpl
/-- T(e, ..), T a built-in type -/
theorem pe_callTy (hc : CallR X (.type T) r) (hg : Gl X x) (hm : X.mg x = none) (hv : bootBuiltins x = some (.type T)) (ha : PA X (e :: es) t) (hn : x ≠ "__name__" := by decide) (hdb : (x == ("__debug__" : Str)) = false := by decide)
    (he : starEach (e :: es) X.env = (false, eval e X.env) :: starEach es X.env := by rfl) (hpl : (backTo pos (starEach es X.env)).any (·.1) = false := by rfl) : PE X (.Call (.Name x p) (e :: es) [] pos) (tCB r t) := by
  intro pins s σ H Q I h
  refine wpAny_Call_Name_kw (ld_blt I hg hm hv ?_ hn hdb)
  exact PyProof.Rows.callWith_type1 (thn (ha pos pins s σ H _ I h) fun us s1 ⟨vs, H1, I1, r1, q1⟩ => hc pins s1 σ H1 vs us Q I1 r1 q1) he hpl
end
end L2

namespace HT
open PySem PyProof.Rows

section
open PySem.SeqAt
open PySem.AutoSeq1 (wpAny_loadPart')
open PySem.MeetsSeq PySem.MeetsSeq2 PySem.MeetsSeq3

end

section
variable {prog : Program} {w : World} {A : Around} {E : Value → Shared → Prop} {s : Shared}

/-- a slice's bound as a place among n (d where it is left out) -/
def sIx (n d : Nat) : Option Int → Nat
  | none => d
  | some v => if v < 0 then (v + (n : Int)).toNat else min v.toNat n
theorem sIx_nat (n d k : Nat) : sIx n d (some (k : Int)) = min k n := by
  show (if (k : Int) < 0 then ((k : Int) + (n : Int)).toNat else min (k : Int).toNat n) = min k n
  rw [if_neg (by omega), Int.toNat_natCast]
end
end HT

namespace L2
open PySem PySem.Spec PyProof.Rows

abbrev TO := St → Hp → (Option Int → Hp → Prop) → Prop
/-- a slice's part (left out, or an int) -/
def PO (X : Cx) (e : Option Expr) (t : TO) : Prop :=
  ∀ (pins : List (Addr × Obj)) (s : Shared) (σ : St) (H : Hp) (Q : Option Int → Hp → Prop), Inv X pins σ H s → t σ H Q →
    wpAny (model X.prog X.w) X.A (evalPart e X.env) (fun u s' => ∃ o H', Inv X pins σ H' s' ∧ IsPart u o ∧ Q o H') X.xe s
def tNoPart : TO := fun _ H Q => Q none H
def tPart (t : TE) : TO := fun σ H Q => t σ H fun x H1 => ∃ i, x = .int i ∧ Q (some i) H1

section
variable {X : Cx} {e : Expr} {te : TE} {lo hi : Option Expr} {tl th : TO} {pos p2 : Pos}

theorem po_none : PO X none tNoPart := by
  intro pins s σ H Q I h
  rw [evalPart_none]
  exact wpAny_pure ⟨none, H, I, .none, h⟩
theorem po_some (h : PE X e te) : PO X (some e) (tPart te) := by
  intro pins s σ H Q I hw
  rw [evalPart_some]
  refine thn (h pins s σ H _ I hw) fun u s1 ⟨x, H1, I1, r1, q1⟩ => ?_
  obtain ⟨i, rfl, q⟩ := q1
  obtain ⟨t, rfl⟩ := r1
  exact ⟨some i, H1, I1, .int i t, q⟩

/-- what a slice of a value is, by values: the slice object stands at sl -/
def SlR (X : Cx) (r : V → Option Int → Option Int → Hp → VK → Prop) : Prop :=
  ∀ (pins : List (Addr × Obj)) (s : Shared) (σ : St) (H : Hp) (x : V) (v vl vu : Value) (lo hi : Option Int) (sl : Addr) (Q : VK), Inv X pins σ H s → RelV x v → s.heap.IsSliceOf sl vl vu .none → IsPart vl lo → IsPart vu hi → r x lo hi H Q →
    ∃ T id, typeLookup (.type T) "__getitem__" = pure (some (.builtin id)) ∧ s.TypeIs v T ∧ wpAny (model X.prog X.w) X.A (getItem v (.ref sl)) (EP X pins σ Q) X.xe s
theorem SlR.or {r r' : V → Option Int → Option Int → Hp → VK → Prop} (h : SlR X r) (h' : SlR X r') : SlR X (fun x lo hi H Q => r x lo hi H Q ∨ r' x lo hi H Q) := by
  intro pins s σ H x v vl vu lo hi sl Q I rx hs pl pu q
  rcases q with q | q
  · exact h pins s σ H x v vl vu lo hi sl Q I rx hs pl pu q
  · exact h' pins s σ H x v vl vu lo hi sl Q I rx hs pl pu q
def tSl (r : V → Option Int → Option Int → Hp → VK → Prop) (te : TE) (tl th : TO) : TE := fun σ H Q => te σ H fun x H1 => tl σ H1 fun l H2 => th σ H2 fun u H3 => r x l u H3 Q
/-- a[lo:hi], any a -/
theorem pe_slice {r : V → Option Int → Option Int → Hp → VK → Prop} (hr : SlR X r) (he : PE X e te) (hl : PO X lo tl) (hu : PO X hi th) : PE X (.Subscript e (.Slice lo hi none p2) pos) (tSl r te tl th) := by
  intro pins s σ H Q I h
  refine Subscript_ (thn (he pins s σ H _ I h) fun v s1 ⟨x, H1, I1, r1, q1⟩ => ?_)
  refine wpAny_Slice (thn (hl pins s1 σ H1 _ I1 q1) fun vl s2 ⟨l, H2, I2, pl, q2⟩ => thn (hu pins s2 σ H2 _ I2 q2) fun vu s3 ⟨u, H3, I3, pu, q3⟩ => ?_)
  rw [evalPart_none]
  refine wpAny_pure ?_
  have I4 : Inv X pins σ H3 { s3 with heap := s3.heap.push { cls := .type "slice", data := .fields #[vl, vu, .none] } } := I3.kept (t' := s3.toks) fun b ob q => Heap.get?_push_of_some _ q
  obtain ⟨T, id, hT, ht, hg⟩ := hr pins { s3 with heap := s3.heap.push { cls := .type "slice", data := .fields #[vl, vu, .none] } } σ H3 x v vl vu l u s3.heap.objs.size Q I4 r1 (Heap.IsSliceOf.new ..) pl pu q3
  show wpAny (model X.prog X.w) X.A (subscriptTail e (.Slice lo hi none p2) v (.ref s3.heap.objs.size)) (EP X pins σ Q) X.xe { s3 with heap := s3.heap.push { cls := .type "slice", data := .fields #[vl, vu, .none] } }
  exact tail_any (ops := [.ref s3.heap.objs.size, v]) ht hT hg (by with_unfolding_all rfl)

/-- the items of xs[lo:hi] -/
def cutV (xs : List V) (lo hi : Option Int) : List V := (xs.drop (HT.sIx xs.length 0 lo)).take (HT.sIx xs.length xs.length hi - HT.sIx xs.length 0 lo)
theorem cutV_length (xs : List V) (lo hi : Option Int) : (cutV xs lo hi).length ≤ xs.length := by
  unfold cutV
  rw [List.length_take, List.length_drop]
  omega
end
end L2

namespace L2
open PySem PySem.Spec PyProof.Rows

/-- the place that an index of any sign means -/
def ixN (n : Nat) (i : Int) : Option Nat := if 0 ≤ i then (if i < n then some i.toNat else none) else if -(n : Int) ≤ i then some (i + n).toNat else none
def atI {α : Type} (xs : List α) (i : Int) : Option α := (ixN xs.length i).bind fun j => xs[j]?
theorem ixN_seq {n : Nat} {i : Int} {j : Nat} (h : ixN n i = some j) : seqIndex? i n = some j ∧ j < n ∧ -(n : Int) ≤ i ∧ i < n := by
  unfold ixN at h
  by_cases h0 : 0 ≤ i
  · rw [if_pos h0] at h
    by_cases h1 : i < n
    · rw [if_pos h1] at h
      have e : i.toNat = j := Option.some.inj h
      exact ⟨by rw [seqIndex_of h0 h1, e], by omega, by omega, h1⟩
    · rw [if_neg h1] at h; cases h
  · rw [if_neg h0] at h
    by_cases h1 : -(n : Int) ≤ i
    · rw [if_pos h1] at h
      have e : (i + n).toNat = j := Option.some.inj h
      exact ⟨by rw [seqIndex_neg (by omega) h1, e], by omega, h1, by omega⟩
    · rw [if_neg h1] at h; cases h
theorem atI_get {α : Type} {xs : List α} {i : Int} {v : α} (h : atI xs i = some v) : ∃ j, seqIndex? i xs.length = some j ∧ xs[j]? = some v ∧ j < xs.length ∧ -(xs.length : Int) ≤ i ∧ i < xs.length := by
  unfold atI at h
  cases e : ixN xs.length i with
  | none => rw [e] at h; cases h
  | some j =>
    rw [e] at h
    obtain ⟨h1, h2, h3, h4⟩ := ixN_seq e
    exact ⟨j, h1, h, h2, h3, h4⟩
theorem atI_nat {α : Type} {xs : List α} {j : Nat} {v : α} (h : xs[j]? = some v) : atI xs (j : Int) = some v := by
  have hj : j < xs.length := (List.getElem?_eq_some_iff.mp h).1
  have e : ixN xs.length (j : Int) = some j := by
    unfold ixN
    rw [if_pos (by omega), if_pos (by omega)]; simp
  unfold atI; rw [e]; exact h
theorem atI_last {α : Type} (xs : List α) (v : α) : atI (xs ++ [v]) (-1) = some v := by
  have hl : (xs ++ [v]).length = xs.length + 1 := by simp
  have e : ixN (xs ++ [v]).length (-1) = some xs.length := by
    unfold ixN
    rw [hl, if_neg (by decide), if_pos (by omega)]
    congr 1
    omega
  unfold atI
  rw [e]
  show (xs ++ [v])[xs.length]? = some v
  simp

/-- what stands as an index of a plain subscript -/
def PlainIx (b : Expr) : Prop := ∀ o i, subscripted b false o i = operate [o, i] (getItem o i)
/-- a subscript by values -/
def IxR (X : Cx) (r : R2) : Prop :=
  ∀ (value slice : Expr) (pins : List (Addr × Obj)) (s : Shared) (σ : St) (H : Hp) (x y : V) (v u : Value) (Q : VK), Inv X pins σ H s → RelV x v → RelV y u → r x y H Q →
    subscripted slice false v u = operate [v, u] (getItem v u) → wpAny (model X.prog X.w) X.A (subscriptTail value slice v u) (EP X pins σ Q) X.xe s
/-- a call of a builtin's method by values: the receiver, the arguments -/
def MtR (X : Cx) (id : String) (r : V → List V → Hp → VK → Prop) : Prop :=
  ∀ (pins : List (Addr × Obj)) (s : Shared) (σ : St) (H : Hp) (x : V) (xs : List V) (v : Value) (us : List Value) (Q : VK), Inv X pins σ H s → RelV x v → Vals xs us → r x xs H Q →
    wpAny (model X.prog X.w) X.A (call (.builtin id) (v :: us)) (EP X pins σ Q) X.xe s
section
variable {X : Cx} {a b : Expr} {ta tb : TE} {pos : Pos}
theorem IxR.or {r r' : R2} (h : IxR X r) (h' : IxR X r') : IxR X (fun x y H Q => r x y H Q ∨ r' x y H Q) := by
  intro value slice pins s σ H x y v u Q I rx ry q hs
  rcases q with q | q
  · exact h value slice pins s σ H x y v u Q I rx ry q hs
  · exact h' value slice pins s σ H x y v u Q I rx ry q hs
theorem MtR.or {id : String} {r r' : V → List V → Hp → VK → Prop} (h : MtR X id r) (h' : MtR X id r') : MtR X id (fun x xs H Q => r x xs H Q ∨ r' x xs H Q) := by
  intro pins s σ H x xs v us Q I rx rs q
  rcases q with q | q
  · exact h pins s σ H x xs v us Q I rx rs q
  · exact h' pins s σ H x xs v us Q I rx rs q
/-- a[b] -/
theorem pe_ix {r : R2} (hr : IxR X r) (ha : PE X a ta) (hb : PE X b tb) (hs : PlainIx b) : PE X (.Subscript a b pos) (tOp r ta tb) := by
  intro pins s σ H Q I h
  exact Subscript_ (binT ha hb I h fun v u s2 x y H2 I2 rx ry q => hr a b pins s2 σ H2 x y v u Q I2 rx ry q (hs _ _))

def rIxL (K : PySem.W.Frag) : R2 := fun x y H Q => ∃ p xs i v, x = .ref p ∧ y = .int i ∧ SqL K H p xs ∧ atI xs i = some v ∧ Q v H
def rIxT (K : PySem.W.Frag) : R2 := fun x y H Q => ∃ p xs i v, x = .ref p ∧ y = .int i ∧ SqT K H p xs ∧ atI xs i = some v ∧ Q v H
theorem ix_list : IxR X (rIxL X.K) := by
  intro value slice pins s σ H x y v u Q I rx ry h hs
  obtain ⟨p, xs, i, z, rfl, rfl, hq, he, q⟩ := h
  cases rx
  obtain ⟨t, rfl⟩ := ry
  obtain ⟨its, r, pl, hz⟩ := I.list hq
  obtain ⟨j, h1, h2, h3, h4, h5⟩ := atI_get he
  obtain ⟨w, ew, rw'⟩ := r.get h2
  have hl := r.length
  have hn := line63
  have fin : EP X pins σ Q w s := ⟨z, H, I, rw', q⟩
  by_cases h0 : 0 ≤ i
  · have hj : i.toNat = j := by
      rw [seqIndex_of h0 h5] at h1
      exact Option.some.inj h1
    exact item_listR pl.isList h0 (by omega) (by rw [hj]; simpa using ew) fin hs
  · have hj : (i + (its.toArray.size : Int)).toNat = j := by
      rw [seqIndex_neg (by omega) h4] at h1
      rw [List.size_toArray, ← hl]
      exact Option.some.inj h1
    exact subscriptTail_builtinR (x := w) pl.isList.typeIs slot_list_getitem.lookup
      (wpAny_getItem_list_neg (Q := fun r s' => r = w ∧ EP X pins σ Q r s') pl.isList (by omega) (by rw [List.size_toArray] <;> omega) (by omega) (by rw [hj]; simpa using ew) ⟨rfl, fin⟩) hs
theorem ix_tup : IxR X (rIxT X.K) := by
  intro value slice pins s σ H x y v u Q I rx ry h hs
  obtain ⟨p, xs, i, z, rfl, rfl, hq, he, q⟩ := h
  cases rx
  obtain ⟨t, rfl⟩ := ry
  obtain ⟨its, r, pl, hz⟩ := I.tuple hq
  obtain ⟨j, h1, h2, h3, h4, h5⟩ := atI_get he
  obtain ⟨w, ew, rw'⟩ := r.get h2
  have hl := r.length
  have hn := line63
  have fin : EP X pins σ Q w s := ⟨z, H, I, rw', q⟩
  exact subscriptTail_builtinR (x := w) pl.typeIs slot_tuple_getitem.lookup
    (getItem_tuple (j := j) (Q := fun r s' => r = w ∧ EP X pins σ Q r s') pl (by omega) (by omega) (by rw [List.size_toArray, ← hl]; exact h1) (by simpa using ew) ⟨rfl, fin⟩) hs
/-- the list's object behind a store -/
theorem mapSeq_set (its : List Value) (n j : Nat) (u : Value) : Obj.mapSeq (·.setIfInBounds j u) { cls := .type "list", data := .seq its.toArray n } = { cls := .type "list", data := .seq (its.set j u).toArray n } := by
  simp [Obj.mapSeq]
theorem Inv.lst {pins : List (Addr × Obj)} {σ : St} {H : Hp} {s : Shared} {p : Addr} {xs : List V} (I : Inv X pins σ H s) (h : H p = some (.lst xs)) :
    ∃ (its : List Value) (n : Nat), Vals xs its ∧ s.heap.get? p = some { cls := .type "list", data := .seq its.toArray n } ∧ xs.length ≤ sizeLine := by
  obtain ⟨z, its, n, r, e⟩ := I.hok p _ h
  exact ⟨its, n, r, e, z⟩
/-- the list at p is written by an update of its object -/
theorem Inv.lstUpd {pins : List (Addr × Obj)} {σ : St} {H : Hp} {s : Shared} {p : Addr} {xs ys : List V} {its its' : List Value} {n n' : Nat} {f : Obj → Obj} (I : Inv X pins σ H s) (h : H p = some (.lst xs))
    (ho : s.heap.get? p = some { cls := .type "list", data := .seq its.toArray n }) (hf : f { cls := .type "list", data := .seq its.toArray n } = { cls := .type "list", data := .seq its'.toArray n' }) (r : Vals ys its') (hz : ys.length ≤ sizeLine) (t : Nat) :
    Inv X pins σ (upd H p (.lst ys)) { s with heap := s.heap.update p f, toks := t } := by
  have e : (s.heap.update p f).get? p = some { cls := .type "list", data := .seq its'.toArray n' } := by
    rw [Heap.get?_update_self f ho (by rw [hf] <;> rfl), hf]
  refine I.write (x := p) (e := p) (by rw [h]; trivial) (.inl rfl) (fun b u hb q => (Heap.get?_update_other _ _ (Ne.symm hb)).trans q) ⟨_, e⟩ ?_
  exact ⟨hz, its', n', r, e⟩
def rSetL : V → V → V → Hp → (Hp → Prop) → Prop := fun o i v H Q => ∃ p xs k j, o = .ref p ∧ i = .int k ∧ H p = some (.lst xs) ∧ ixN xs.length k = some j ∧ Q (upd H p (.lst (xs.set j v)))
theorem set_list : PSet X rSetL := by
  intro pins s σ H o i v ov iv u Q I ro ri rv h
  obtain ⟨p, xs, k, j, rfl, rfl, hp, hj, q⟩ := h
  cases ro
  obtain ⟨t, rfl⟩ := ri
  obtain ⟨its, n, r, ho, hz⟩ := I.lst hp
  obtain ⟨h1, h2, h3, h4⟩ := ixN_seq hj
  have hl := r.length
  have hn := line63
  have I' : Inv X pins σ (upd H p (.lst (xs.set j v))) { s with heap := s.heap.update p (Obj.mapSeq (·.setIfInBounds j u)) } :=
    I.lstUpd hp ho (mapSeq_set its n j u) (r.set rv j) (by rw [List.length_set]; exact hz) s.toks
  by_cases h0 : 0 ≤ k
  · have hk : k.toNat = j := by
      rw [seqIndex_of h0 h4] at h1
      exact Option.some.inj h1
    exact PySem.W.ki_setAt ho h0 (by omega) (by rw [List.size_toArray, ← hl]; exact h4) (by rw [hk]; exact ⟨_, I', q⟩)
  · have hk : (k + (its.toArray.size : Int)).toNat = j := by
      rw [seqIndex_neg (by omega) h3] at h1
      rw [List.size_toArray, ← hl]
      exact Option.some.inj h1
    exact PySem.W.ki_setBack ho (by omega) (by rw [List.size_toArray, ← hl]; exact h3) (by omega) (by rw [hk]; exact ⟨_, I', q⟩)

theorem slice_bounds (lo hi : Option Int) (n : Nat) : (sliceBounds lo hi none n).1 = ((HT.sIx n 0 lo : Nat) : Int) ∧ (sliceBounds lo hi none n).2.1 = ((HT.sIx n n hi : Nat) : Int) ∧ (sliceBounds lo hi none n).2.2 = 1 := by
  refine ⟨?_, ?_, rfl⟩
  · cases lo with
    | none => simp [sliceBounds, HT.sIx]
    | some i =>
      simp only [sliceBounds, HT.sIx, Option.getD_none, show (1 : Int) > 0 by decide, if_true]
      by_cases h : i < 0
      · simp only [h, if_true] <;> omega
      · simp only [h, if_false] <;> omega
  · cases hi with
    | none => simp [sliceBounds, HT.sIx]
    | some i =>
      simp only [sliceBounds, HT.sIx, Option.getD_none, show (1 : Int) > 0 by decide, if_true]
      by_cases h : i < 0
      · simp only [h, if_true] <;> omega
      · simp only [h, if_false] <;> omega
theorem slicePick_cut (its : List Value) (lo hi : Option Int) : slicePick its.toArray lo hi none = ((its.drop (HT.sIx its.length 0 lo)).take (HT.sIx its.length its.length hi - HT.sIx its.length 0 lo)).toArray := by
  obtain ⟨h1, h2, h3⟩ := slice_bounds lo hi its.toArray.size
  unfold slicePick
  rw [h1, h2, h3]
  simp only [sliceRange_one, pick_run, List.size_toArray] <;> rfl
/-- xs[lo:hi] of a list: a new list -/
def rSlL (K : PySem.W.Frag) : V → Option Int → Option Int → Hp → VK → Prop := fun x lo hi H Q => ∃ a xs, x = .ref a ∧ SqL K H a xs ∧ ∀ p, H p = none → Q (.ref p) (upd H p (.lst (cutV xs lo hi)))
theorem sl_list : SlR X (rSlL X.K) := by
  intro pins s σ H x v vl vu lo hi sl Q I rx hs pl pu h
  obtain ⟨a, xs, rfl, hx, q⟩ := h
  cases rx
  obtain ⟨its, r, ht, hz⟩ := I.list hx
  have hlen := r.length
  refine ⟨"list", _, slot_list_getitem.lookup, ht.isList.typeIs, ?_⟩
  refine wpAny_getItem_list_slice ht.isList hs pl pu .none (by simp) ?_ (by rw [List.size_toArray] <;> omega)
  rw [slicePick_cut, ← hlen]
  refine ⟨.ref s.heap.objs.size, _, I.laid (t' := s.toks) (o := .lst (cutV xs lo hi)) (fun b ob q => Heap.get?_push_of_some _ q) (Nat.le_refl _) ?_, rfl, q _ (I.hok.fresh (Nat.le_refl _))⟩
  exact ⟨Nat.le_trans (cutV_length xs lo hi) hz, _, 0, (r.drop (HT.sIx xs.length 0 lo)).take (HT.sIx xs.length xs.length hi - HT.sIx xs.length 0 lo), Heap.get?_push_size _ rfl⟩

def flatV : V → Bool
  | .non => true
  | .bl _ => true
  | .int _ => true
  | .str _ => true
  | _ => false
/-- == of flat values -/
def eqV : V → V → Bool
  | .non, .non => true
  | .bl a, .bl b => a == b
  | .bl a, .int b => (if a then 1 else 0) == b
  | .int a, .bl b => a == (if b then 1 else 0)
  | .int a, .int b => a == b
  | .str a, .str b => a == b
  | _, _ => false
theorem eqAt_V {A : Around} {s : Shared} {y x : V} {u v : Value} (ry : RelV y u) (rx : RelV x v) (fy : flatV y = true) (fx : flatV x = true) : SeqAt.EqAt A s u v (eqV y x) := by
  cases y with
  | non =>
    cases ry
    cases x with
    | non => cases rx; exact SeqAt.EqAt.same _
    | bl b => cases rx; exact SeqAt.EqAt.none_bool b
    | int b => obtain ⟨t, rfl⟩ := rx; exact SeqAt.EqAt.none_int b t
    | str b => obtain ⟨t, rfl⟩ := rx; exact SeqAt.EqAt.none_str b t
    | _ => exact absurd (show false = true from fx) Bool.false_ne_true
  | bl a =>
    cases ry
    cases x with
    | non => cases rx; exact SeqAt.EqAt.bool_none a
    | bl b => cases rx; exact SeqAt.EqAt.bool_bool a b
    | int b => obtain ⟨t, rfl⟩ := rx; exact SeqAt.EqAt.bool_int a b t
    | str b => obtain ⟨t, rfl⟩ := rx; exact SeqAt.EqAt.bool_str a b t
    | _ => exact absurd (show false = true from fx) Bool.false_ne_true
  | int a =>
    obtain ⟨t', rfl⟩ := ry
    cases x with
    | non => cases rx; exact SeqAt.EqAt.int_none a t'
    | bl b => cases rx; exact SeqAt.EqAt.int_bool a t' b
    | int b => obtain ⟨t, rfl⟩ := rx; exact SeqAt.EqAt.int_int a t' b t
    | str b => obtain ⟨t, rfl⟩ := rx; exact SeqAt.EqAt.int_str a t' b t
    | _ => exact absurd (show false = true from fx) Bool.false_ne_true
  | str a =>
    obtain ⟨t', rfl⟩ := ry
    cases x with
    | non => cases rx; exact SeqAt.EqAt.str_none a t'
    | bl b => cases rx; exact SeqAt.EqAt.str_bool a t' b
    | int b => obtain ⟨t, rfl⟩ := rx; exact SeqAt.EqAt.str_int a t' b t
    | str b => obtain ⟨t, rfl⟩ := rx; exact SeqAt.EqAt.str_str a t' b t
    | _ => exact absurd (show false = true from fx) Bool.false_ne_true
  | _ => exact absurd (show false = true from fy) Bool.false_ne_true
/-- the items' answers, read off the values (a value's own answer does not lean on its token) -/
def eqU (x : V) (u : Value) : Bool := match u with
  | .none => eqV .non x
  | .bool b => eqV (.bl b) x
  | .int i _ => eqV (.int i) x
  | .str z _ => eqV (.str z) x
  | _ => false
theorem eqU_of {x y : V} {u : Value} (r : RelV y u) (f : flatV y = true) : eqU x u = eqV y x := by
  cases y with
  | non => cases r; rfl
  | bl b => cases r; rfl
  | int i => obtain ⟨t, rfl⟩ := r; rfl
  | str z => obtain ⟨t, rfl⟩ := r; rfl
  | _ => exact absurd (show false = true from f) Bool.false_ne_true
theorem mem_eqAt {A : Around} {s : Shared} {x : V} {v : Value} (rx : RelV x v) (fx : flatV x = true) : ∀ {xs : List V} {us : List Value}, Vals xs us → xs.all flatV = true → ∀ u ∈ us, SeqAt.EqAt A s u v (eqU x u)
  | _, _, .nil, _ => fun u hu => by cases hu
  | y :: xs, u :: us, .cons r t, f => fun u' hu => by
    rw [List.all_cons, Bool.and_eq_true] at f
    rcases List.mem_cons.mp hu with rfl | hu
    · rw [eqU_of r f.1]; exact eqAt_V r rx f.1 fx
    · exact mem_eqAt rx fx t f.2 u' hu
theorem call_len_seq : CallR X (.builtin "len") (fun xs H Q => ∃ p ys, xs = [.ref p] ∧ (SqL X.K H p ys ∨ SqT X.K H p ys) ∧ Q (.int ys.length) H) := by
  intro pins s σ H xs us Q I r h
  obtain ⟨p, ys, rfl, hq, q⟩ := h
  obtain ⟨u, rfl, rx⟩ := vals1 r
  cases rx
  have hn := line63
  rcases hq with hq | hq
  · obtain ⟨its, r', pl, hz⟩ := I.list hq
    have hlen := r'.length
    exact Calls.call_len_list pl.isList (by simp only [List.size_toArray] <;> omega) ⟨.int ys.length, H, I.tok _, ⟨s.toks + 1, by rw [List.size_toArray, hlen]⟩, q⟩
  · obtain ⟨its, r', pl, hz⟩ := I.tuple hq
    have hlen := r'.length
    exact len_tuple pl (by simp only [List.size_toArray] <;> omega) ⟨.int ys.length, H, I.tok _, ⟨s.toks + 1, by rw [List.size_toArray, hlen]⟩, q⟩
theorem CallR.or {f : Value} {r r' : List V → Hp → VK → Prop} (h : CallR X f r) (h' : CallR X f r') : CallR X f (fun xs H Q => r xs H Q ∨ r' xs H Q) := by
  intro pins s σ H xs us Q I rs q
  rcases q with q | q
  · exact h pins s σ H xs us Q I rs q
  · exact h' pins s σ H xs us Q I rs q
theorem call_list_of : CallR X (.type "list") (fun xs H Q => ∃ p ys, xs = [.ref p] ∧ (SqL X.K H p ys ∨ SqT X.K H p ys) ∧ ∀ l, H l = none → Q (.ref l) (upd H l (.lst ys))) := by
  intro pins s σ H xs us Q I r h
  obtain ⟨p, ys, rfl, hq, q⟩ := h
  obtain ⟨u, rfl, rx⟩ := vals1 r
  cases rx
  have fin : ∀ (its : List Value), Vals ys its → ys.length ≤ sizeLine → ∀ (h' : Heap) (c' : Nat), (∀ b o', s.heap.get? b = some o' → h'.get? b = some o') →
      h'.get? s.heap.objs.size = some { cls := .type "list", dict := none, data := .seq its.toArray c', slots := #[] } → EP X pins σ Q (.ref s.heap.objs.size) { s with heap := h' } := fun its r' hz h' c' kp e =>
    ⟨.ref s.heap.objs.size, _, I.laid (t' := s.toks) kp (Nat.le_refl _) (show ObjOk X.prog X.w _ h' _ (.lst ys) from ⟨hz, its, c', r', e⟩), rfl, q _ (I.hok.fresh (Nat.le_refl _))⟩
  rcases hq with hq | hq
  · obtain ⟨its, r', pl, hz⟩ := I.list hq
    have hlen := r'.length
    obtain ⟨o, ho, hc, n, hd⟩ := pl.isList
    exact call_list_seq p (.inl rfl) ho hc hd (fun h' c' kp e => fin its r' hz h' c' kp e) (by simp only [List.size_toArray] <;> omega)
  · obtain ⟨its, r', pl, hz⟩ := I.tuple hq
    have hlen := r'.length
    obtain ⟨o, ho, hc, n, hd⟩ := pl
    exact call_list_seq p (.inr rfl) ho hc hd (fun h' c' kp e => fin its r' hz h' c' kp e) (by simp only [List.size_toArray] <;> omega)
/-- the value is of that builtin type -/
def tyV (K : PySem.W.Frag) (T : String) (x : V) (H : Hp) : Prop := match x with
  | .str _ => T = "str"
  | .int _ => T = "int"
  | .ref p => (T = "list" ∧ ∃ xs, SqL K H p xs) ∨ (T = "tuple" ∧ ∃ o, K.lookup p = some o ∧ o.cls = .type "tuple" ∧ o.dict = none) ∨
      (T = "dict" ∧ ((∃ kvs, H p = some (.dK kvs)) ∨ ∃ kvs, H p = some (.dT kvs))) ∨ (T = "set" ∧ ∃ S n, H p = some (.set S n))
  | _ => False
theorem tyV_is {pins : List (Addr × Obj)} {σ : St} {H : Hp} {s : Shared} {T : String} {x : V} {v : Value} (I : Inv X pins σ H s) (r : RelV x v) (ty : tyV X.K T x H) :
    s.TypeIs v T ∧ ∀ a, v = .ref a → ∃ ob, s.heap.get? a = some ob ∧ ob.dict = none := by
  cases x with
  | str z =>
    obtain ⟨t, rfl⟩ := r
    cases (show T = "str" from ty)
    exact ⟨typeIs_str s z t, fun _ e => nomatch e⟩
  | int i =>
    obtain ⟨t, rfl⟩ := r
    cases (show T = "int" from ty)
    exact ⟨typeIs_int s i t, fun _ e => nomatch e⟩
  | ref p =>
    cases r
    rcases ty with ⟨rfl, xs, hq⟩ | ⟨rfl, o, hk, hc, hd⟩ | ⟨rfl, hk⟩ | ⟨rfl, S, n, hk⟩
    · obtain ⟨its, _, pl, _⟩ := I.list hq
      refine ⟨pl.isList.typeIs, fun a e => ?_⟩
      cases e
      obtain ⟨o, n, e, c, hd, _⟩ := pl
      exact ⟨o, e, hd⟩
    · refine ⟨⟨o, I.kIn p o hk, hc⟩, fun a e => ?_⟩
      cases e
      exact ⟨o, I.kIn _ o hk, hd⟩
    · have z : ∃ o, s.heap.get? p = some o ∧ o.ExactDict := by
        rcases hk with ⟨kvs, hk⟩ | ⟨kvs, hk⟩
        · obtain ⟨_, _, _, _, o, _, _, e, ex, _⟩ := I.hok p _ hk
          exact ⟨o, e, ex⟩
        · obtain ⟨_, _, _, _, o, _, _, e, ex, _⟩ := I.hok p _ hk
          exact ⟨o, e, ex⟩
      obtain ⟨o, e, ex⟩ := z
      refine ⟨⟨o, e, ex.1⟩, fun a e2 => ?_⟩
      cases e2
      exact ⟨o, e, ex.2.1⟩
    · obtain ⟨o, _, _, _, e, ex, _⟩ := I.hok p _ hk
      refine ⟨⟨o, e, ex.1⟩, fun a e2 => ?_⟩
      cases e2
      exact ⟨o, e, ex.2.1⟩
  | _ => exact False.elim ty
def tBM0 (K : PySem.W.Frag) (T : String) (r : V → List V → Hp → VK → Prop) (to : TE) : TE := fun σ H Q => to σ H fun x H1 => tyV K T x H1 ∧ r x [] H1 Q
def tBM (K : PySem.W.Frag) (T : String) (r : V → List V → Hp → VK → Prop) (to : TE) (t : TA) : TE := fun σ H Q => to σ H fun x H1 => tyV K T x H1 ∧ t σ H1 fun xs H2 => r x xs H2 Q
variable {o e : Expr} {es : List Expr} {to : TE} {t : TA} {name : Str} {apos cpos : Pos} {T id : String} {r : V → List V → Hp → VK → Prop}
theorem pe_bm0 (pa : PlainAttrs T) (slot : Slot T name id) (hty : typeOf (.builtin id) = pure (.type "method_descriptor")) (hm : MtR X id r) (ho : PE X o to)
    (hbase : attributeBase o name X.env (eval o X.env) = eval o X.env := by rfl) (hline : (apos.endLine == cpos.line) = true := by rfl) : PE X (.Call (.Attribute o name apos) [] [] cpos) (tBM0 X.K T r to) := by
  intro pins s σ H Q I h
  refine wpAny_Call_method0_late hbase hline (thn (ho pins s σ H _ I h) fun v s1 ⟨x, H1, I1, r1, ty, q1⟩ => ?_)
  obtain ⟨h1, h2⟩ := tyV_is I1 r1 ty
  exact ⟨T, id, pa, slot, hty, h1, h2, Calls.callWith_builtin rfl (PySem.evalArgs_none (hm pins s1 σ H1 x [] v [] Q I1 r1 .nil q1))⟩
theorem pe_bm (pa : PlainAttrs T) (slot : Slot T name id) (hty : typeOf (.builtin id) = pure (.type "method_descriptor")) (hm : MtR X id r) (ho : PE X o to) (ha : PA X (e :: es) t)
    (hbase : attributeBase o name X.env (eval o X.env) = eval o X.env := by rfl)
    (hfew : ((backTo cpos (starEach (e :: es) X.env)).all (fun x => !x.1) && (backToKw cpos (keywordEach [] X.env)).all (fun x => x.1.isSome)
      && decide ((e :: es).length + ([] : List Keyword).length + (if ([] : List Keyword).isEmpty then 0 else 1) < 30)) = true := by rfl)
    (hline : (apos.endLine == cpos.line) = true := by rfl) (hs : starEach (e :: es) X.env = (false, eval e X.env) :: starEach es X.env := by rfl) (hplain : (backTo cpos (starEach es X.env)).any (·.1) = false := by rfl) :
    PE X (.Call (.Attribute o name apos) (e :: es) [] cpos) (tBM X.K T r to t) := by
  intro pins s σ H Q I h
  refine wpAny_Call_method_late hbase hfew hline rfl (thn (ho pins s σ H _ I h) fun v s1 ⟨x, H1, I1, r1, ty, q1⟩ => ?_)
  obtain ⟨h1, h2⟩ := tyV_is I1 r1 ty
  refine ⟨T, id, pa, slot, hty, h1, h2, ?_⟩
  have hA := ha cpos pins s1 σ H1 _ I1 q1
  rw [hs] at hA ⊢
  refine Calls.callWith_builtin (by show (false || (backTo cpos (starEach es X.env)).any (·.1)) = false; rw [hplain] <;> rfl) (Calls.evalArgs_plain ?_)
  exact thn hA fun us s2 ⟨vs, H2, I2, r2, q2⟩ => hm pins s2 σ H2 x vs v us Q I2 r1 r2 q2
end
end L2

namespace L2
open PySem PySem.Spec PyProof.Rows

def MtM (X : Cx) (id : String) (r : V → List V → Hp → VK → Prop) : Prop :=
  ∀ (pins : List (Addr × Obj)) (s : Shared) (σ : St) (H : Hp) (x : V) (xs : List V) (v : Value) (us : List Value) (Q : VK), Inv X pins σ H s → RelV x v → Vals xs us → r x xs H Q →
    wpAny (model X.prog X.w) X.A (call (.builtin id) (v :: us)) (EP X pins σ Q) X.xe s

theorem Vals.one : ∀ {x : V} {us : List Value}, Vals [x] us → ∃ u, us = [u] ∧ RelV x u
  | _, _, .cons r .nil => ⟨_, rfl, r⟩
theorem Vals.two : ∀ {x y : V} {us : List Value}, Vals [x, y] us → ∃ u v, us = [u, v] ∧ RelV x u ∧ RelV y v
  | _, _, _, .cons r (.cons q .nil) => ⟨_, _, rfl, r, q⟩
theorem Vals.zero : ∀ {us : List Value}, Vals [] us → us = []
  | _, .nil => rfl
theorem Vals.dropLast {xs : List V} {us : List Value} (h : Vals xs us) : Vals xs.dropLast us.dropLast := by
  induction h with
  | nil => exact .nil
  | cons r t ih =>
    cases t with
    | nil => exact .nil
    | cons q t' => exact .cons r ih
theorem Vals.eraseIdx : ∀ {xs : List V} {us : List Value} (i : Nat), Vals xs us → Vals (xs.eraseIdx i) (us.eraseIdx i)
  | _, _, _, .nil => .nil
  | _, _, 0, .cons _ t => t
  | _, _, i + 1, .cons r t => .cons r (Vals.eraseIdx i t)
theorem Vals.reverse {xs : List V} {us : List Value} (h : Vals xs us) : Vals xs.reverse us.reverse := by
  induction h with
  | nil => exact .nil
  | cons r t ih => rw [List.reverse_cons, List.reverse_cons]; exact Vals.append ih (.cons r .nil)
theorem Vals.rep {xs : List V} {us : List Value} (h : Vals xs us) : ∀ k : Nat, Vals (List.replicate k xs).flatten (List.replicate k us).flatten
  | 0 => .nil
  | k + 1 => by
    rw [List.replicate_succ, List.replicate_succ, List.flatten_cons, List.flatten_cons]
    exact Vals.append h (Vals.rep h k)
theorem erase_last {α : Type} (l : List α) : l.eraseIdx (l.length - 1) = l.dropLast := by
  induction l with
  | nil => rfl
  | cons a r ih =>
    cases r with
    | nil => rfl
    | cons b r =>
      have e : (a :: b :: r).length - 1 = ((b :: r).length - 1) + 1 := by
        have h1 : (a :: b :: r).length = r.length + 2 := rfl
        have h2 : (b :: r).length = r.length + 1 := rfl
        omega
      rw [e, List.eraseIdx_cons_succ, ih]
      all_goals rfl
theorem foldl_rep (its : List Value) : ∀ (k : Nat) (acc : List Value),
    List.foldl (fun x1 x2 => x1 ++ x2) acc.toArray (List.replicate k its.toArray) = (acc ++ (List.replicate k its).flatten).toArray
  | 0, acc => by simp
  | k + 1, acc => by
    have e : acc.toArray ++ its.toArray = (acc ++ its).toArray := by simp
    have e2 : (acc ++ its) ++ (List.replicate k its).flatten = acc ++ (List.replicate (k + 1) its).flatten := by
      rw [List.replicate_succ, List.flatten_cons, List.append_assoc]
    rw [← e2, ← foldl_rep its k (acc ++ its), ← e, List.replicate_succ, List.foldl_cons]

section
variable {X : Cx} {pins : List (Addr × Obj)} {σ : St} {H : Hp} {s : Shared} {l b : Addr} {xs ys zs : List V}

theorem Inv.lset {its its' : List Value} {n : Nat} {f : Array Value → Array Value} {t' : Nat} (I : Inv X pins σ H s) (hH : H l = some (.lst xs))
    (e : s.heap.get? l = some { cls := .type "list", data := .seq its.toArray n }) (hf : f its.toArray = its'.toArray) (hv : Vals ys its') (hz : ys.length ≤ sizeLine) :
    Inv X pins σ (upd H l (.lst ys)) { s with heap := s.heap.update l (Obj.mapSeq f), toks := t' } := by
  have q := PySem.IsL.update e f
  rw [hf] at q
  refine I.write (x := l) (e := l) (by rw [hH]; exact trivial) (.inl rfl) (fun b' u hb hu => (Heap.get?_update_other s.heap (Obj.mapSeq f) (Ne.symm hb)).trans hu) ⟨_, q⟩ ?_
  exact ⟨hz, its', _, hv, q⟩
theorem Inv.lnew {its : List Value} {t' : Nat} (I : Inv X pins σ H s) (hv : Vals ys its) (hz : ys.length ≤ sizeLine) :
    Inv X pins σ (upd H s.heap.objs.size (.lst ys)) { s with heap := s.heap.push { cls := .type "list", data := .seq its.toArray }, toks := t' } :=
  I.laid (fun _ _ q => Heap.get?_push_of_some _ q) (Nat.le_refl _) ⟨hz, its, 0, hv, Heap.get?_push_size _ rfl⟩
theorem Inv.fresh (I : Inv X pins σ H s) : H s.heap.objs.size = none := I.hok.fresh (Nat.le_refl _)
theorem Inv.lstM (I : Inv X pins σ H s) (hH : H l = some (.lst xs)) : xs.length ≤ sizeLine ∧ ∃ (its : List Value) (n : Nat), Vals xs its ∧ xs.length = its.length ∧ s.heap.get? l = some { cls := .type "list", data := .seq its.toArray n } := by
  obtain ⟨z, its, n, r, e⟩ := I.hok l _ hH
  exact ⟨z, its, n, r, r.length, e⟩

theorem notLongL {n : Nat} (h : n ≤ sizeLine) : Builtin.List.listTooLong n = false := by
  unfold Builtin.List.listTooLong
  exact decide_eq_false (by omega)
end

section
variable {X : Cx}

def rAppend : V → List V → Hp → VK → Prop := fun x vs H Q => ∃ l xs y, x = .ref l ∧ vs = [y] ∧ H l = some (.lst xs) ∧ xs.length < sizeLine ∧ Q .non (upd H l (.lst (xs ++ [y])))
theorem mt_append : MtM X "list.append" rAppend := by
  intro pins s σ H x vs v us Q I rx rv h
  obtain ⟨l, xs, y, rfl, rfl, hH, hz, q⟩ := h
  cases rx
  obtain ⟨u, rfl, ru⟩ := rv.one
  obtain ⟨z, its, n, r, hl, e⟩ := I.lstM hH
  refine call_meets F.slot_list_append ⟨_, e, rfl⟩ F.entry_list_append (F.args_list_append_2 _ _) (PySem.list_append l its.toArray n u (by rw [List.size_toArray]; omega)) ⟨e, ?_⟩
  refine ⟨.non, _, I.lset (its' := its ++ [u]) hH e (by simp) (r.append (.cons ru .nil)) ?_, rfl, q⟩
  rw [List.length_append, List.length_singleton]
  omega

def rPop : V → List V → Hp → VK → Prop := fun x vs H Q => ∃ l xs y, x = .ref l ∧ vs = [] ∧ H l = some (.lst xs) ∧ xs[xs.length - 1]? = some y ∧ Q y (upd H l (.lst xs.dropLast))
theorem mt_pop : MtM X "list.pop" rPop := by
  intro pins s σ H x vs v us Q I rx rv h
  obtain ⟨l, xs, y, rfl, rfl, hH, hy, q⟩ := h
  cases rx
  have hus := rv.zero
  subst hus
  obtain ⟨z, its, n, r, hl, e⟩ := I.lstM hH
  obtain ⟨u, hu, ru⟩ := r.get hy
  have hy' : its.toArray[its.toArray.size - 1]? = some u := by
    show its.toArray[its.length - 1]? = some u
    rw [← Array.getElem?_toList, ← hl]
    exact hu
  refine call_meets F.slot_list_pop ⟨_, e, rfl⟩ F.entry_list_pop (F.args_list_pop_1 _) (MeetsSeq.list_pop_last l its.toArray n u hy' (by rw [List.size_toArray]; omega)) ⟨e, ?_⟩
  refine ⟨y, _, I.lset (its' := its.dropLast) hH e ?_ r.dropLast ?_, ru, q⟩
  · show its.toArray.eraseIdxIfInBounds (its.toArray.size - 1) = its.dropLast.toArray
    rw [List.size_toArray, List.eraseIdxIfInBounds_toArray, erase_last]
  · rw [List.length_dropLast]
    omega

def rCat : R2 := fun x y H Q => ∃ l b xs zs, x = .ref l ∧ y = .ref b ∧ H l = some (.lst xs) ∧ H b = some (.lst zs) ∧ xs.length + zs.length ≤ sizeLine ∧ ∀ p, H p = none → Q (.ref p) (upd H p (.lst (xs ++ zs)))
theorem op_cat : OpR X (binaryOp .Add) rCat := by
  intro pins s σ H x y v u Q I rx ry h
  obtain ⟨l, b, xs, zs, rfl, rfl, hH, hB, hz, q⟩ := h
  cases rx
  cases ry
  obtain ⟨z, its, n, r, hl, e⟩ := I.lstM hH
  obtain ⟨z2, its2, n2, r2, hl2, e2⟩ := I.lstM hB
  refine PySem.P.add_list e e2 ?_ (by rw [List.size_toArray, List.size_toArray]; omega)
  have ea : its.toArray ++ its2.toArray = (its ++ its2).toArray := by simp
  rw [ea]
  exact ⟨.ref _, _, I.lnew (t' := s.toks) (r.append r2) (by rw [List.length_append]; omega), rfl, q _ I.fresh⟩
/-- a list times an int (a negative one is nothing) -/
def rRep : R2 := fun x y H Q => ∃ l k xs, x = .ref l ∧ y = .int k ∧ H l = some (.lst xs) ∧ -(2 ^ 63) ≤ k ∧ k < 2 ^ 63 ∧ xs.length * k.toNat ≤ sizeLine ∧
  ∀ p, H p = none → Q (.ref p) (upd H p (.lst (List.replicate k.toNat xs).flatten))
theorem len_rep {α : Type} (xs : List α) (k : Nat) : (List.replicate k xs).flatten.length = k * xs.length := by
  induction k with
  | zero => simp
  | succ k ih => rw [List.replicate_succ, List.flatten_cons, List.length_append, ih, Nat.succ_mul, Nat.add_comm]
theorem op_rep : OpR X (binaryOp .Mult) rRep := by
  intro pins s σ H x y v u Q I rx ry h
  obtain ⟨l, k, xs, rfl, rfl, hH, h1, h2, hz, q⟩ := h
  cases rx
  obtain ⟨t, rfl⟩ := ry
  obtain ⟨z, its, n, r, hl, e⟩ := I.lstM hH
  have hlen : its.toArray.size * k.toNat ≤ sizeLine := by rw [List.size_toArray, ← hl]; exact hz
  have hcap : ¬ its.toArray.size * k.toNat > (2 ^ 63 - 1) / 8 := by
    have : (sizeLine : Nat) ≤ (2 ^ 63 - 1) / 8 := by decide
    omega
  have hfit : ¬ (!Builtin.List.listFitsIndex k) = true := by
    rw [fitsIndex_both h1 h2]
    exact Bool.false_ne_true
  have hlong : ¬ Builtin.List.listTooLong (its.toArray.size * k.toNat) = true := by
    rw [notLongL hlen]
    exact Bool.false_ne_true
  have hnew : List.foldl (fun x1 x2 => x1 ++ x2) #[] (List.replicate (if its.toArray.isEmpty = true then 0 else k.toNat) its.toArray) = (List.replicate k.toNat its).flatten.toArray := by
    have f0 : ∀ m : Nat, List.foldl (fun x1 x2 => x1 ++ x2) #[] (List.replicate m its.toArray) = (List.replicate m its).flatten.toArray := fun m => by
      have := foldl_rep its m []
      rw [List.nil_append] at this
      exact this
    rw [f0]
    cases its with
    | nil => simp
    | cons a r' => rw [if_neg (by simp)]
  refine wpAny_binaryOp_repeat_ref (T := "list") (U := "int") (by decide) ⟨_, e, rfl⟩ (fun s' => typeIs_int s' k t) noFill_list_mul F.fills_int_mul F.slot_int_rmul repeat_list F.slot_int_index.lookup
    (call_meets F.slot_int_rmul (typeIs_int s k t) F.entry_int_rmul (F.args_int_rmul_2 _ _) (int___rmul___int_list k t l its.toArray n)
      ⟨e, rfl, ⟨_, e, rfl⟩, call_meets F.slot_list_mul ⟨_, e, rfl⟩ F.entry_list_mul (F.args_list_mul_2 _ _) (AutoListH.list___mul___list_int_3 l its.toArray n k t hfit hcap hlong) ⟨e, ?_⟩⟩)
  rw [hnew]
  exact ⟨.ref _, _, I.lnew (t' := s.toks) (r.rep k.toNat) (by rw [len_rep, Nat.mul_comm]; exact hz), rfl, q _ I.fresh⟩

end

section
variable {prog : Program} {w : World} {A : Around} {E : Value → Shared → Prop} {s : Shared}
end

section
variable {X : Cx}
end
end L2

namespace L2
open PySem PySem.Spec PyProof.Rows

theorem Vals.ints : ∀ {ns : List Int} {us : List Value}, Vals (ns.map V.int) us → IntsAre us ns
  | [], us, h => by
    rw [List.map_nil] at h
    cases h
    exact IntsAre.nil
  | n :: ns, us, h => by
    rw [List.map_cons] at h
    cases h with
    | cons r t =>
      obtain ⟨k, rfl⟩ := r
      exact IntsAre.cons n k (Vals.ints t)
theorem vals_of_ints : ∀ {us : List Value} {ns : List Int}, IntsAre us ns → Vals (ns.map V.int) us
  | _, _, .nil => by rw [List.map_nil]; exact Paired.nil
  | _, _, .cons n t h => by rw [List.map_cons]; exact Paired.cons (show RelV (V.int n) (Value.int n t) from ⟨t, rfl⟩) (vals_of_ints h)
theorem Vals.strs : ∀ {xs : List Str} {us : List Value}, Vals (xs.map V.str) us → StrsAre us xs
  | [], us, h => by
    rw [List.map_nil] at h
    cases h
    exact StrsAre.nil
  | x :: xs, us, h => by
    rw [List.map_cons] at h
    cases h with
    | cons r t =>
      obtain ⟨k, rfl⟩ := r
      exact StrsAre.cons x k (Vals.strs t)
theorem Vals.bls : ∀ {bs : List Bool} {us : List Value}, Vals (bs.map V.bl) us → us = bs.map Value.bool
  | [], us, h => by
    rw [List.map_nil] at h
    cases h
    rfl
  | b :: bs, us, h => by
    rw [List.map_cons] at h
    cases h with
    | cons r t =>
      cases r
      rw [Vals.bls t, List.map_cons]
theorem Vals.ref1 {a : Addr} {us : List Value} (r : Vals [V.ref a] us) : us = [Value.ref a] := by
  cases r with
  | cons r t =>
    cases t
    cases r
    rfl
section
variable {prog : Program} {w : World} {A : Around} {E : Value → Shared → Prop} {s : Shared} {l : Addr} {its : List Value} {ns : List Int} {Q : Value → Shared → Prop}
theorem sum_raw (hh : A.handled = none) (hl : s.heap.IsList l its.toArray) (hi : IntsAre its ns)
    (h : ∀ h' tk t', (∀ b o, s.heap.get? b = some o → h'.get? b = some o) → Q (.int ns.sum t') { s with heap := h', toks := tk }) : wpAny (model prog w) A (call (.builtin "sum") [.ref l]) Q E s := by
  obtain ⟨xs, e⟩ := hi.allInts.items
  have hn : numsOf (intItems xs).toList = ns := by rw [← e]; exact hi.numsOf
  rw [nums_intItems] at hn
  rw [e] at hl
  refine PySem.sum_intListG hh hl fun h' tk t' hk => ?_
  have := h h' tk t' hk
  rw [preSum_eq, List.take_of_length_le (by simp), hn]; exact this
theorem max_raw (hh : A.handled = none) (hl : s.heap.IsList l its.toArray) (hi : IntsAre its ns) (hne : 0 < ns.length)
    (h : ∀ h' tk M t', (∀ b o, s.heap.get? b = some o → h'.get? b = some o) → M ∈ ns → (∀ a, a ∈ ns → a ≤ M) → Q (.int M t') { s with heap := h', toks := tk }) : wpAny (model prog w) A (call (.builtin "max") [.ref l]) Q E s := by
  obtain ⟨xs, e⟩ := hi.allInts.items
  have hn : numsOf (intItems xs).toList = ns := by rw [← e]; exact hi.numsOf
  rw [nums_intItems] at hn
  subst hn
  rw [e] at hl
  have hsz : 0 < xs.size := by simpa using hne
  refine PySem.max_intList hh hl hsz fun v h' tk hv hk => ?_
  obtain ⟨t, rfl⟩ := intItems_at hv
  obtain ⟨h1, h2⟩ := argBest_gt (numAt xs) (xs.size - 1)
  refine h h' tk _ t hk ?_ fun a ha => ?_
  · rw [numAt_eq]; exact PySem.getD_mem (by rw [List.length_map, Array.length_toList]; omega)
  · obtain ⟨j, hj, rfl⟩ := mem_getD ha
    rw [List.length_map, Array.length_toList] at hj
    rw [← numAt_eq]; exact h2 j (by omega)
theorem min_raw (hh : A.handled = none) (hl : s.heap.IsList l its.toArray) (hi : IntsAre its ns) (hne : 0 < ns.length)
    (h : ∀ h' tk M t', (∀ b o, s.heap.get? b = some o → h'.get? b = some o) → M ∈ ns → (∀ a, a ∈ ns → M ≤ a) → Q (.int M t') { s with heap := h', toks := tk }) : wpAny (model prog w) A (call (.builtin "min") [.ref l]) Q E s := by
  obtain ⟨xs, e⟩ := hi.allInts.items
  have hn : numsOf (intItems xs).toList = ns := by rw [← e]; exact hi.numsOf
  rw [nums_intItems] at hn
  subst hn
  rw [e] at hl
  have hsz : 0 < xs.size := by simpa using hne
  refine PySem.min_intList hh hl hsz fun v h' tk hv hk => ?_
  obtain ⟨t, rfl⟩ := intItems_at hv
  obtain ⟨h1, h2⟩ := argBest_lt (numAt xs) (xs.size - 1)
  refine h h' tk _ t hk ?_ fun a ha => ?_
  · rw [numAt_eq]; exact PySem.getD_mem (by rw [List.length_map, Array.length_toList]; omega)
  · obtain ⟨j, hj, rfl⟩ := mem_getD ha
    rw [List.length_map, Array.length_toList] at hj
    rw [← numAt_eq]; exact h2 j (by omega)
end

section
variable {X : Cx}
/-- sum(xs) of a list of ints -/
def rSum (K : PySem.W.Frag) : List V → Hp → VK → Prop := fun vs H Q => ∃ (a : Addr) (ns : List Int), vs = [V.ref a] ∧ SqL K H a (ns.map V.int) ∧ Q (.int ns.sum) H
/-- max(xs), min(xs) of a list of ints -/
def rMax (K : PySem.W.Frag) : List V → Hp → VK → Prop := fun vs H Q => ∃ (a : Addr) (ns : List Int), vs = [V.ref a] ∧ SqL K H a (ns.map V.int) ∧ 0 < ns.length ∧ ∀ m, m ∈ ns → (∀ y, y ∈ ns → y ≤ m) → Q (.int m) H
def rMin (K : PySem.W.Frag) : List V → Hp → VK → Prop := fun vs H Q => ∃ (a : Addr) (ns : List Int), vs = [V.ref a] ∧ SqL K H a (ns.map V.int) ∧ 0 < ns.length ∧ ∀ m, m ∈ ns → (∀ y, y ∈ ns → m ≤ y) → Q (.int m) H
theorem cr_sum (hc : X.calm = true) : CallR X (.builtin "sum") (rSum X.K) := by
  intro pins s σ H vs us Q I r h
  obtain ⟨a, ns, rfl, hs, q⟩ := h
  obtain ⟨its, rv, hl, _⟩ := I.list hs
  rw [Vals.ref1 r]
  exact sum_raw (I.ok.hd hc) hl.isList rv.ints fun h' tk t' hk => ⟨.int _, H, I.kept hk, ⟨_, rfl⟩, q⟩
theorem cr_max (hc : X.calm = true) : CallR X (.builtin "max") (rMax X.K) := by
  intro pins s σ H vs us Q I r h
  obtain ⟨a, ns, rfl, hs, hne, q⟩ := h
  obtain ⟨its, rv, hl, _⟩ := I.list hs
  rw [Vals.ref1 r]
  exact max_raw (I.ok.hd hc) hl.isList rv.ints hne fun h' tk m t' hk h1 h2 => ⟨.int _, H, I.kept hk, ⟨_, rfl⟩, q m h1 h2⟩
theorem cr_min (hc : X.calm = true) : CallR X (.builtin "min") (rMin X.K) := by
  intro pins s σ H vs us Q I r h
  obtain ⟨a, ns, rfl, hs, hne, q⟩ := h
  obtain ⟨its, rv, hl, _⟩ := I.list hs
  rw [Vals.ref1 r]
  exact min_raw (I.ok.hd hc) hl.isList rv.ints hne fun h' tk m t' hk h1 h2 => ⟨.int _, H, I.kept hk, ⟨_, rfl⟩, q m h1 h2⟩

end

section
variable {X : Cx}
def rIndex (K : PySem.W.Frag) : V → List V → Hp → VK → Prop := fun x xs H Q => ∃ (a : Addr) (ys : List V) (y : V) (j : Nat) (z : V), x = V.ref a ∧ xs = [y] ∧ SqL K H a ys ∧ flatV y = true ∧ ys.all flatV = true ∧ ys[j]? = some z ∧ eqV z y = true ∧
  (∀ (m : Nat) (z' : V), m < j → ys[m]? = some z' → eqV z' y = false) ∧ Q (.int (j : Nat)) H
theorem flat_at {ys : List V} (f : ys.all flatV = true) {j : Nat} {z : V} (h : ys[j]? = some z) : flatV z = true := List.all_eq_true.mp f z (List.mem_of_getElem? h)
theorem mt_index : MtR X "list.index" (rIndex X.K) := by
  intro pins s σ H x xs v us Q I rx rxs h
  obtain ⟨a, ys, y, j, z, rfl, rfl, hs, fy, fys, hz, hzj, hno, q⟩ := h
  cases rx
  cases rxs with
  | cons ry rt =>
    rename_i uy ut
    cases rt
    obtain ⟨its, rv, ⟨⟨cls, dd, data, sl⟩, n, ho, hc, hdn, hd⟩, hlen⟩ := I.list hs
    simp only at hc hd
    subst hc hd
    obtain ⟨u, hu, ru⟩ := rv.get hz
    obtain ⟨hjl, hje⟩ := List.getElem?_eq_some_iff.mp hu
    have hvl := rv.length
    have hj : j < its.toArray.size := by simpa using hjl
    have hsl := sizeLine_eq
    refine call_meets PySem.F.slot_list_index ⟨_, ho, rfl⟩ PySem.F.entry_list_index (PySem.F.args_list_index_2 _ _)
      (SeqAt.list_indexAt a its.toArray n dd sl uy (eqU y) j hj (by omega) ?_ ?_) ⟨ho, fun u' hu' => mem_eqAt ry fy rv fys u' (by simpa using hu'), ?_⟩
    · have e1 : its.toArray[j] = u := by simpa using hje
      rw [e1, eqU_of ru (flat_at fys hz)]
      exact hzj
    · intro m hm hmj
      have hml : m < its.length := by simpa using hm
      have hmy : m < ys.length := by omega
      have hy' : ys[m]? = some ys[m] := List.getElem?_eq_getElem hmy
      obtain ⟨u2, hu2, ru2⟩ := rv.get hy'
      obtain ⟨_, hme⟩ := List.getElem?_eq_some_iff.mp hu2
      have e1 : its.toArray[m] = u2 := by simpa using hme
      rw [e1, eqU_of ru2 (flat_at fys hy')]
      exact hno m _ hmj hy'
    · exact ⟨.int (j : Nat), H, I.tok _, ⟨_, rfl⟩, q⟩
end

section
variable {X : Cx}
end

section
variable {X : Cx}
end

mutual
inductive Dp (K : PySem.W.Frag) (H : Hp) : V → PyData → Prop
  | non : Dp K H .non .none
  | bl (b : Bool) : Dp K H (.bl b) (.bool b)
  | int (i : Int) : Dp K H (.int i) (.int i)
  | str (x : Str) : Dp K H (.str x) (.str x)
  | lst {a : Addr} {xs : List V} {ds : List PyData} : SqL K H a xs → DpAll K H xs ds → Dp K H (.ref a) (.list ds)
  | tup {a : Addr} {xs : List V} {ds : List PyData} : SqT K H a xs → DpAll K H xs ds → Dp K H (.ref a) (.tuple ds)
inductive DpAll (K : PySem.W.Frag) (H : Hp) : List V → List PyData → Prop
  | nil : DpAll K H [] []
  | cons {v : V} {vs : List V} {d : PyData} {ds : List PyData} : Dp K H v d → DpAll K H vs ds → DpAll K H (v :: vs) (d :: ds)
end
section
variable {X : Cx} {pins : List (Addr × Obj)} {σ : St} {H : Hp} {s : Shared}
mutual
theorem Dp.reads (I : Inv X pins σ H s) : ∀ (d : PyData) (v : V) (u : Value), Dp X.K H v d → RelV v u → ∃ as, Reads s.heap u d as
  | .none, _, _, h, r => by
    cases h
    cases r
    exact ⟨_, Reads.none⟩
  | .bool b, _, _, h, r => by
    cases h
    cases r
    exact ⟨_, Reads.bool b⟩
  | .int i, _, _, h, r => by
    cases h
    obtain ⟨t, rfl⟩ := r
    exact ⟨_, Reads.int i t⟩
  | .str x, _, _, h, r => by
    cases h
    obtain ⟨t, rfl⟩ := r
    exact ⟨_, Reads.str x t⟩
  | .list ds, _, _, h, r => by
    cases h with
    | lst hs ha =>
      cases r
      obtain ⟨its, rv, ⟨o, n, ho, hc, _, hd⟩, _⟩ := I.list hs
      obtain ⟨as, hr⟩ := Dp.readsAll I ds _ its ha rv
      exact ⟨_, Reads.list ho hc hd hr⟩
  | .tuple ds, _, _, h, r => by
    cases h with
    | tup hs ha =>
      cases r
      obtain ⟨its, rv, ⟨o, ho, hc, n, hd⟩, _⟩ := I.tuple hs
      obtain ⟨as, hr⟩ := Dp.readsAll I ds _ its ha rv
      exact ⟨_, Reads.tuple ho hc hd hr⟩
  | .dict _, _, _, h, _ => by cases h
theorem Dp.readsAll (I : Inv X pins σ H s) : ∀ (ds : List PyData) (vs : List V) (us : List Value), DpAll X.K H vs ds → Vals vs us → ∃ as, ReadsAll s.heap us ds as
  | [], _, _, h, r => by
    cases h
    cases r
    exact ⟨_, ReadsAll.nil⟩
  | d :: ds, _, _, h, r => by
    cases h with
    | cons h1 h2 =>
      cases r with
      | cons r1 r2 =>
        obtain ⟨as, q1⟩ := Dp.reads I d _ _ h1 r1
        obtain ⟨bs, q2⟩ := Dp.readsAll I ds _ _ h2 r2
        exact ⟨_, ReadsAll.cons q1 q2⟩
end
end
section
variable {X : Cx}
def rEqD (K : PySem.W.Frag) : R2 := fun x y H Q => ∃ d e, Dp K H x d ∧ Dp K H y e ∧ SeqAt.shaped d = true ∧ SeqAt.shaped e = true ∧ Q (.bl (PyData.eqv d e)) H
def rNeD (K : PySem.W.Frag) : R2 := fun x y H Q => ∃ d e, Dp K H x d ∧ Dp K H y e ∧ SeqAt.shaped d = true ∧ SeqAt.shaped e = true ∧ Q (.bl (!PyData.eqv d e)) H
theorem op_eqD (hu : X.A.units + 64 < cLine) : OpR X (compareOp .Eq) (rEqD X.K) := by
  intro pins s σ H x y v u Q I rx ry h
  obtain ⟨d, e, hd, he, sd, se, q⟩ := h
  obtain ⟨as, r1⟩ := Dp.reads I d x v hd rx
  obtain ⟨bs, r2⟩ := Dp.reads I e y u he ry
  exact SeqAt.compareEq_shaped r1 r2 sd se hu ⟨.bl _, H, I, rfl, q⟩
theorem op_neD (hu : X.A.units + 64 < cLine) : OpR X (compareOp .NotEq) (rNeD X.K) := by
  intro pins s σ H x y v u Q I rx ry h
  obtain ⟨d, e, hd, he, sd, se, q⟩ := h
  obtain ⟨as, r1⟩ := Dp.reads I d x v hd rx
  obtain ⟨bs, r2⟩ := Dp.reads I e y u he ry
  exact SeqAt.compareNe_shaped r1 r2 sd se hu ⟨.bl _, H, I, rfl, q⟩
end
end L2

namespace L2
open PySem PySem.Spec PyProof.Rows
abbrev CellAt (h : Heap) (c : Addr) (v : Option Value) : Prop := h.IsCell c v
def relS (scope sc : Scope) : Scope :=
  { scope with names := scope.names.map fun (n, k) => if (k == .free && sc.kind == .function && sc.names.lookup n == some .cell) then (n, .cell) else (n, k) }

def cloFrom (cells : List (Str × Addr)) : List (Str × NameKind) → List (Str × Addr) → List (Str × Addr)
  | [], acc => acc
  | (n, k) :: r, acc => if k == .free then cloFrom cells r ((n, (cells.lookup n).getD 0) :: acc) else cloFrom cells r acc

theorem closure_loop (env : Env) (f : Str × NameKind → List (Str × Addr) → Sem (ForInStep (List (Str × Addr))))
    (hf : ∀ n k c, f (n, k) c = if k == .free then (do let a ← cellOf env n; pure (.yield ((n, a) :: c))) else pure (.yield c)) :
    ∀ (names : List (Str × NameKind)) (acc : List (Str × Addr)), (∀ y ∈ names, y.2 = .free → ∃ c, env.cells.lookup y.1 = some c) → forIn names acc f = pure (cloFrom env.cells names acc)
  | [], acc, _ => by rw [List.forIn_nil]; rfl
  | (n, k) :: r, acc, h => by
    rw [List.forIn_cons, hf]
    have ih := fun acc => closure_loop env f hf r acc fun y hy => h y (List.mem_cons_of_mem _ hy)
    unfold cloFrom
    by_cases hk : (k == NameKind.free) = true
    · rw [if_pos hk, if_pos hk]
      obtain ⟨c, hc⟩ := h (n, k) List.mem_cons_self (by simpa using hk)
      have e : cellOf env n = pure c := by unfold cellOf; rw [hc]
      rw [e]
      have e2 : (env.cells.lookup n).getD 0 = c := by rw [hc]; rfl
      rw [e2]
      exact ih _
    · rw [if_neg hk, if_neg hk]
      exact ih _
theorem closure_ok {scope : Scope} {env : Env} (h : ∀ y ∈ scope.names, y.2 = .free → ∃ c, env.cells.lookup y.1 = some c) : closureFor scope env = pure (cloFrom env.cells scope.names []) := by
  simp only [closureFor]
  rw [closure_loop env _ (fun n k c => rfl) scope.names [] h]
  rfl

theorem mem_lookup {α : Type} : ∀ {l : List (Str × α)} {n : Str} {c : α}, (n, c) ∈ l → ∃ c', l.lookup n = some c'
  | (k, v) :: r, n, c, h => by
    rw [List.lookup_cons]
    cases hb : n == k with
    | true => exact ⟨_, rfl⟩
    | false =>
      rcases List.mem_cons.mp h with e | h
      · cases e; simp at hb
      · exact mem_lookup h

theorem cloFrom_mem {cells : List (Str × Addr)} : ∀ {names : List (Str × NameKind)} {acc : List (Str × Addr)} {n : Str} {c : Addr}, (n, c) ∈ cloFrom cells names acc → (n, c) ∈ acc ∨ ((n, .free) ∈ names ∧ c = (cells.lookup n).getD 0)
  | [], _, _, _, h => .inl h
  | (m, k) :: r, acc, n, c, h => by
    unfold cloFrom at h
    split at h
    · rename_i hk
      have hk : k = .free := by simpa using hk
      rcases cloFrom_mem h with h | ⟨h1, h2⟩
      · rcases List.mem_cons.mp h with e | h
        · cases e; exact .inr ⟨hk ▸ List.mem_cons_self, rfl⟩
        · exact .inl h
      · exact .inr ⟨List.mem_cons_of_mem _ h1, h2⟩
    · rcases cloFrom_mem h with h | ⟨h1, h2⟩
      · exact .inl h
      · exact .inr ⟨List.mem_cons_of_mem _ h1, h2⟩
theorem cloFrom_acc {cells : List (Str × Addr)} : ∀ {names : List (Str × NameKind)} {acc : List (Str × Addr)} {p : Str × Addr}, p ∈ acc → p ∈ cloFrom cells names acc
  | [], _, _, h => h
  | (m, k) :: r, acc, p, h => by
    unfold cloFrom
    split
    · exact cloFrom_acc (List.mem_cons_of_mem _ h)
    · exact cloFrom_acc h
theorem cloFrom_has {cells : List (Str × Addr)} : ∀ {names : List (Str × NameKind)} {acc : List (Str × Addr)} {n : Str}, (n, .free) ∈ names → (n, (cells.lookup n).getD 0) ∈ cloFrom cells names acc
  | (m, k) :: r, acc, n, h => by
    unfold cloFrom
    rcases List.mem_cons.mp h with e | h
    · cases e
      exact cloFrom_acc List.mem_cons_self
    · split
      · exact cloFrom_has h
      · exact cloFrom_has h

theorem cells_mem : ∀ {names : List (Str × NameKind)} {h : Heap} {acc : List (Str × Addr)} {x : Str} {c : Addr}, (x, c) ∈ cellsFrom h.objs.size names acc →
    (x, c) ∈ acc ∨ ((x, .cell) ∈ names ∧ h.objs.size ≤ c ∧ CellAt (pushCells h names) c none)
  | [], _, _, _, _, h => .inl h
  | (n, k) :: r, h, acc, x, c, hm => by
    unfold cellsFrom at hm
    unfold pushCells
    split at hm
    · rename_i hk
      rw [if_pos hk]
      have hk : k = .cell := by simpa using hk
      rw [← Heap.size_push h { cls := .type "cell", data := .cell none }] at hm
      rcases cells_mem hm with hm | ⟨h1, h2, h3⟩
      · rcases List.mem_cons.mp hm with e | hm
        · cases e
          exact .inr ⟨hk ▸ List.mem_cons_self, Nat.le_refl _, _, pushCells_keeps r _ _ _ (Heap.get?_push_size _ rfl), rfl⟩
        · exact .inl hm
      · rw [Heap.size_push] at h2
        exact .inr ⟨List.mem_cons_of_mem _ h1, Nat.le_of_succ_le h2, h3⟩
    · rename_i hk
      rw [if_neg hk]
      rcases cells_mem hm with hm | ⟨h1, h2, h3⟩
      · exact .inl hm
      · exact .inr ⟨List.mem_cons_of_mem _ h1, h2, h3⟩
theorem cells_acc : ∀ {names : List (Str × NameKind)} {n : Nat} {acc : List (Str × Addr)} {p : Str × Addr}, p ∈ acc → p ∈ cellsFrom n names acc
  | [], _, _, _, h => h
  | (m, k) :: r, n, acc, p, h => by
    unfold cellsFrom
    split
    · exact cells_acc (List.mem_cons_of_mem _ h)
    · exact cells_acc h
theorem cells_has : ∀ {names : List (Str × NameKind)} {n : Nat} {acc : List (Str × Addr)} {x : Str}, (x, .cell) ∈ names → ∃ c, (x, c) ∈ cellsFrom n names acc
  | (m, k) :: r, n, acc, x, h => by
    unfold cellsFrom
    rcases List.mem_cons.mp h with e | h
    · cases e
      exact ⟨n, cells_acc List.mem_cons_self⟩
    · split
      · exact cells_has h
      · exact cells_has h
theorem cells_inj : ∀ {names : List (Str × NameKind)} {h : Heap} {acc : List (Str × Addr)} {x y : Str} {c : Addr}, (∀ p ∈ acc, p.2 < h.objs.size) → (∀ x y c, (x, c) ∈ acc → (y, c) ∈ acc → x = y) →
    (x, c) ∈ cellsFrom h.objs.size names acc → (y, c) ∈ cellsFrom h.objs.size names acc → x = y
  | [], _, _, _, _, _, _, hi, h1, h2 => hi _ _ _ h1 h2
  | (n, k) :: r, h, acc, x, y, c, hl, hi, h1, h2 => by
    unfold cellsFrom at h1 h2
    split at h1
    · rename_i hk
      rw [if_pos hk] at h2
      rw [← Heap.size_push h { cls := .type "cell", data := .cell none }] at h1 h2
      refine cells_inj (h := h.push _) (fun p hp => ?_) (fun x y c a b => ?_) h1 h2
      · rw [Heap.size_push]
        rcases List.mem_cons.mp hp with rfl | hp
        · exact Nat.lt_succ_self _
        · exact Nat.lt_succ_of_lt (hl p hp)
      · rcases List.mem_cons.mp a with e | a <;> rcases List.mem_cons.mp b with e' | b
        · cases e; cases e'; rfl
        · cases e; exact absurd (hl _ b) (Nat.lt_irrefl _)
        · cases e'; exact absurd (hl _ a) (Nat.lt_irrefl _)
        · exact hi _ _ _ a b
    · rename_i hk
      rw [if_neg hk] at h2
      exact cells_inj hl hi h1 h2

theorem newEnv_comp {M : Model} {A : Around} {E : Value → Shared → Prop} {s : Shared} {scope : Scope} {globals : Addr} {closure : List (Str × Addr)} {qual : Str} {func : Option Addr} {code : Value} {around : Env} {builtins : Addr} {Q : Env → Shared → Prop}
    (h : Q (newEnv scope s.heap.objs.size globals (cellsFrom (s.heap.objs.size + 1) scope.names closure) qual func code (some around) builtins)
      { s with heap := pushCells (s.heap.push { cls := .type "dict", data := .dict #[] }) scope.names }) :
    wpAny M A (newFunctionEnv scope globals closure [] qual func code (some around) builtins) Q E s := by
  simp only [newFunctionEnv, Option.isSome_some, if_true]
  refine wpAny_bind (wpAny_alloc ?_)
  refine wpAny_bind (wpAny_layCells _ (fun n k c => rfl) scope.names closure _ _ ?_)
  rw [show ({ s with heap := s.heap.push { cls := .type "dict", data := .dict #[] } } : Shared).heap.objs.size = s.heap.objs.size + 1 from Heap.size_push ..]
  rw [List.forIn_nil]
  exact wpAny_bind (wpAny_pure (wpAny_pure h))

/-- every name of the written scope, in the scope that runs -/
theorem lookup_relS {sc : Scope} : ∀ {names : List (Str × NameKind)} {x : Str} {k : NameKind},
    (names.map fun (n, k) => if (k == NameKind.free && sc.kind == .function && sc.names.lookup n == some .cell) then (n, NameKind.cell) else (n, k)).lookup x = some k →
    ∃ k', names.lookup x = some k' ∧ (k = k' ∨ (k' = .free ∧ k = .cell))
  | [], _, _, h => by simp at h
  | (n, k₀) :: r, x, k, h => by
    have ih := @lookup_relS sc r x k
    have h' : List.lookup x ((if (k₀ == NameKind.free && sc.kind == .function && sc.names.lookup n == some .cell) = true then (n, NameKind.cell) else (n, k₀)) :: (r.map _)) = some k := h
    cases hx : x == n with
    | true =>
      simp only [List.lookup_cons, hx]
      by_cases hc : (k₀ == NameKind.free && sc.kind == .function && sc.names.lookup n == some .cell) = true
      · rw [if_pos hc] at h'
        simp only [List.lookup_cons, hx] at h'
        cases h'
        simp only [Bool.and_eq_true, beq_iff_eq] at hc
        exact ⟨k₀, rfl, .inr ⟨hc.1.1, rfl⟩⟩
      · rw [if_neg hc] at h'
        simp only [List.lookup_cons, hx] at h'
        cases h'
        exact ⟨_, rfl, .inl rfl⟩
    | false =>
      simp only [List.lookup_cons, hx]
      by_cases hc : (k₀ == NameKind.free && sc.kind == .function && sc.names.lookup n == some .cell) = true
      · rw [if_pos hc] at h'
        simp only [List.lookup_cons, hx] at h'
        exact ih h'
      · rw [if_neg hc] at h'
        simp only [List.lookup_cons, hx] at h'
        exact ih h'
/-- the names of a comprehension's block: its own (with their places in N), or captured -/
structure BlkOk (N : List Str) (sc scope : Scope) (own : List (Str × Nat)) : Prop where
  kind : scope.kind = .function
  uniq : ∀ y ∈ scope.names, scope.names.lookup y.1 = some y.2
  ix : ∀ p ∈ own, N[p.2]? = some p.1
  free : ∀ y ∈ scope.names, y.2 = .free → sc.names.lookup y.1 = some .cell ∨ sc.names.lookup y.1 = some .free
  own : ∀ y ∈ scope.names, y.2 = .local ∨ y.2 = .cell → y.1 ∈ own.map (·.1) ∨ y.1 ∉ N
/-- the slots of the block's own names forgotten -/
def wipe (σ : St) : List Nat → St
  | [] => σ
  | v :: vs => (wipe σ vs).set v none
theorem wipe_length (σ : St) : ∀ vs : List Nat, (wipe σ vs).length = σ.length
  | [] => rfl
  | v :: vs => by unfold wipe; rw [List.length_set, wipe_length σ vs]
theorem wipe_some {σ : St} {i : Nat} {x : V} : ∀ {vs : List Nat}, (wipe σ vs)[i]? = some (some x) → σ[i]? = some (some x) ∧ i ∉ vs
  | [], h => ⟨h, by simp⟩
  | v :: vs, h => by
    unfold wipe at h
    by_cases hi : v = i
    · subst hi
      by_cases hv : v < (wipe σ vs).length
      · rw [List.getElem?_set_self hv] at h; cases h
      · rw [List.getElem?_eq_none (by simpa using hv)] at h; cases h
    · rw [List.getElem?_set_ne hi] at h
      obtain ⟨h1, h2⟩ := wipe_some h
      exact ⟨h1, by simp only [List.mem_cons, not_or]; exact ⟨fun e => hi e.symm, h2⟩⟩

/-- the context of a block that starts at s, its iterator's objects at fp -/
abbrev Cx.blk (X : Cx) (s : Shared) (H : Hp) (scope : Scope) (cenv : Env) (fp : List Addr) : Cx := { X with s_0 := s, H_0 := H, env := cenv, outer := X.stack, ex := fp, fn := fun x => scope.names.lookup x == some .cell, pn := [], xe := fun _ _ => False }
section
variable {X : Cx} {pins : List (Addr × Obj)} {σ : St} {H : Hp} {s : Shared}
theorem block_start {scope : Scope} {own : List (Str × Nat)} {fp : List Addr} (I : Inv X pins σ H s) (ok : BlkOk X.N X.env.scope scope own) (hN : X.N.Nodup) (hfp : ∀ b ∈ fp, FpOk X pins H b ∧ b < s.heap.objs.size) :
    Inv (X.blk s H scope (compEnvC scope (cellsFrom (s.heap.objs.size + 1) scope.names (cloFrom X.env.cells scope.names [])) s.heap.objs.size X.env) fp) [] (wipe σ (own.map (·.2))) H { s with heap := pushCells (s.heap.push { cls := .type "dict", data := .dict #[] }) scope.names } := by
  have hfree : ∀ y ∈ scope.names, y.2 = .free → ∃ c, X.env.cells.lookup y.1 = some c := fun y hy e => by
    rcases ok.free y hy e with k | k
    · exact I.ok.has _ (.inl k)
    · exact I.ok.has _ (.inr k)
  generalize hcenv : compEnvC scope (cellsFrom (s.heap.objs.size + 1) scope.names (cloFrom X.env.cells scope.names [])) s.heap.objs.size X.env = cenv
  have kp : ∀ b o, s.heap.get? b = some o → (pushCells (s.heap.push { cls := .type "dict", data := .dict #[] }) scope.names).get? b = some o := fun b o e => pushCells_keeps _ _ _ _ (Heap.get?_push_of_some _ e)
  have hL : cenv.locals = s.heap.objs.size := by rw [← hcenv]; rfl
  have hcl : cenv.cells = cellsFrom (s.heap.objs.size + 1) scope.names (cloFrom X.env.cells scope.names []) := by rw [← hcenv]; rfl
  have hsc : cenv.scope = relS scope X.env.scope := by rw [← hcenv]; rfl
  rw [← Heap.size_push s.heap { cls := .type "dict", data := .dict #[] }] at hcl
  have cm : ∀ {y c}, (y, c) ∈ cloFrom X.env.cells scope.names [] → X.env.cells.lookup y = some c ∧ c < s.heap.objs.size := fun {y c} hm => by
    rcases cloFrom_mem hm with hm | ⟨h1, rfl⟩
    · cases hm
    · obtain ⟨c, hc⟩ := hfree _ h1 rfl
      rw [hc]
      obtain ⟨w, z⟩ := I.cell _ _ hc
      exact ⟨rfl, z.lt⟩
  have mem : ∀ {y c}, cenv.cells.lookup y = some c → (X.env.cells.lookup y = some c ∧ c < s.heap.objs.size) ∨ (s.heap.objs.size + 1 ≤ c ∧ CellAt (pushCells (s.heap.push { cls := .type "dict", data := .dict #[] }) scope.names) c none) := fun {y c} e => by
    rw [hcl] at e
    rcases cells_mem (PySem.mem_of_lookup e) with hm | ⟨_, h2, h3⟩
    · exact .inl (cm hm)
    · rw [Heap.size_push] at h2; exact .inr ⟨h2, h3⟩
  have look : ∀ {y}, scope.names.lookup y = some .free → ∃ c, cenv.cells.lookup y = some c ∧ X.env.cells.lookup y = some c := fun {y} hl => by
    have hy : (y, NameKind.free) ∈ scope.names := PySem.mem_of_lookup hl
    obtain ⟨c', e'⟩ := mem_lookup (cells_acc (names := scope.names) (n := (s.heap.push { cls := .type "dict", data := .dict #[] }).objs.size) (cloFrom_has (cells := X.env.cells) (acc := []) hy))
    rw [← hcl] at e'
    refine ⟨c', e', ?_⟩
    rw [hcl] at e'
    rcases cells_mem (PySem.mem_of_lookup e') with hm | ⟨h1, _, _⟩
    · exact (cm hm).1
    · have := ok.uniq _ h1
      rw [hl] at this; cases this
  have okB : (X.blk s H scope cenv fp).Ok := by
    refine ⟨I.ok.mod, by show cenv.scope.kind = _; rw [hsc]; exact ok.kind, by show cenv.globals = _; rw [← hcenv]; exact I.ok.glob, by show cenv.builtins = _; rw [← hcenv]; exact I.ok.blt, by show s.heap.objs.size ≤ cenv.locals; rw [hL]; exact Nat.le_refl _,
      fun y z c e1 e2 => ?_, fun y hy => ?_, fun y c z e => ?_, I.ok.hd, I.ok.frames, .inl rfl, fun b hb => ⟨?_, fun y c e z => ?_⟩, I.bs, Nat.le_trans I.ok.bsz I.sz, fun b o e hb => ?_, fun b hb z => ?_, I.stack, I.stkFree, I.ok.tb.un I.base⟩
    · have e1 : cenv.cells.lookup y = some c := e1
      have e2 : cenv.cells.lookup z = some c := e2
      rw [hcl] at e1 e2
      refine cells_inj (fun p hp => ?_) (fun y z c a b => I.ok.inj y z c (cm a).1 (cm b).1) (PySem.mem_of_lookup e1) (PySem.mem_of_lookup e2)
      rw [Heap.size_push]
      exact Nat.lt_succ_of_lt (cm (y := p.1) (c := p.2) hp).2
    · show ∃ c, cenv.cells.lookup y = some c
      have key : ∀ k, cenv.kindOf y = some k → (k = .cell ∨ k = .free) → ∃ c, cenv.cells.lookup y = some c := fun k hk hk' => by
        unfold Env.kindOf at hk
        rw [hsc] at hk
        obtain ⟨k', e, r⟩ := lookup_relS hk
        have : k' = .cell ∨ k' = .free := by
          rcases r with rfl | ⟨rfl, _⟩
          · exact hk'
          · exact .inr rfl
        rcases this with rfl | rfl
        · obtain ⟨c, hm⟩ := cells_has (n := (s.heap.push { cls := .type "dict", data := .dict #[] }).objs.size) (acc := cloFrom X.env.cells scope.names []) (PySem.mem_of_lookup e)
          obtain ⟨c', e'⟩ := mem_lookup hm
          exact ⟨c', by rw [hcl]; exact e'⟩
        · obtain ⟨c, h1, _⟩ := look e
          exact ⟨c, h1⟩
      rcases hy with hy | hy
      · exact key _ hy (.inl rfl)
      · exact key _ hy (.inr rfl)
    · have z : (scope.names.lookup y == some NameKind.cell) = true := z
      have z : scope.names.lookup y = some .cell := by simpa using z
      have e : cenv.cells.lookup y = some c := e
      rw [hcl] at e
      rcases cells_mem (PySem.mem_of_lookup e) with hm | ⟨_, h2, _⟩
      · rcases cloFrom_mem hm with hm | ⟨h1, _⟩
        · cases hm
        · have q := ok.uniq _ h1
          rw [z] at q; cases q
      · rw [Heap.size_push] at h2
        exact Nat.le_of_succ_le h2
    · show b ≠ cenv.locals
      rw [hL]; exact Nat.ne_of_lt (hfp b hb).2
    · have e : cenv.cells.lookup y = some c := e
      rcases mem e with ⟨h1, _⟩ | ⟨h1, _⟩
      · exact (hfp b hb).1.2.2.2.2.1 y c h1 z
      · have h2 : s.heap.objs.size + 1 ≤ b := by rw [← z]; exact h1
        exact absurd (Nat.lt_of_lt_of_le (hfp b hb).2 (Nat.le_of_succ_le h2)) (Nat.lt_irrefl _)
    · rcases (hfp b hb).1.2.2.2.1 with z | z
      · exact I.ok.noex b o e z
      · exact absurd (Nat.lt_of_lt_of_le (Heap.lt_size e) (Nat.le_trans I.ok.bsz z)) (Nat.lt_irrefl _)
    · rcases List.mem_cons.mp (I.stkSub b z) with z | z
      · exact (hfp b hb).1.2.1 z
      · exact (hfp b hb).1.2.2.1 z
  refine ⟨okB, rfl, I.bareS, Un.kept kp, ⟨fun _ => none, ?_, fun i y av e1 e2 e3 => ?_⟩, fun y c e => ?_, ?_, fun y c e => ?_, fun p hp => ?_, I.hok.kept kp, by rw [wipe_length]; exact I.len⟩
  · show Heap.Ns _ cenv.locals _
    rw [hL]
    exact Heap.Ns.keeps (Heap.Ns.new ..) fun b o e => pushCells_keeps _ _ _ _ e
  · obtain ⟨e2, hne⟩ := wipe_some e2
    have hfr : scope.names.lookup y = some .free ∧ (cenv.kindOf y = some .cell ∨ cenv.kindOf y = some .free) := by
      have key : ∀ k, cenv.scope.names.lookup y = some k → k = .local ∨ k = .cell ∨ k = .free → scope.names.lookup y = some .free ∧ (cenv.kindOf y = some .cell ∨ cenv.kindOf y = some .free) := fun k hk hk' => by
        have hk0 := hk
        rw [hsc] at hk
        obtain ⟨k', e, r⟩ := lookup_relS hk
        have no : ¬ (k' = .local ∨ k' = .cell) := fun hh => by
          rcases ok.own _ (PySem.mem_of_lookup e) hh with e' | e'
          · obtain ⟨p, hp, hpy⟩ := List.mem_map.mp e'
            have e3 := ok.ix p hp
            have : p.1 = y := hpy
            rw [this] at e3
            exact hne (List.mem_map.mpr ⟨p, hp, nodup_ix hN e3 e1⟩)
          · exact e' (List.mem_of_getElem? e1)
        rcases r with rfl | ⟨rfl, rfl⟩
        · rcases hk' with rfl | rfl | rfl
          · exact absurd (.inl rfl) no
          · exact absurd (.inr rfl) no
          · exact ⟨e, .inr hk0⟩
        · exact ⟨e, .inl hk0⟩
      have e3 : Vis cenv.scope y := e3
      rcases e3 with e3 | e3 | e3
      · exact key _ e3 (.inl rfl)
      · exact key _ e3 (.inr (.inl rfl))
      · exact key _ e3 (.inr (.inr rfl))
    obtain ⟨m, hn, hl⟩ := I.loc
    have hvis : Vis X.env.scope y := (ok.free _ (PySem.mem_of_lookup hfr.1) rfl).elim (fun k => .inr (.inl k)) (fun k => .inr (.inr k))
    obtain ⟨w, r, q⟩ := hl i y av e1 e2 hvis
    refine ⟨w, r, .inr ⟨hfr.2, ?_⟩⟩
    obtain ⟨c, h1, h2⟩ := look hfr.1
    rcases q with ⟨k, _⟩ | ⟨_, c', e', z⟩
    · have k : X.env.scope.names.lookup y = some .local := k
      rcases ok.free _ (PySem.mem_of_lookup hfr.1) rfl with k' | k' <;> rw [show X.env.scope.names.lookup y = _ from k'] at k <;> cases k
    · rw [h2] at e'; cases e'
      exact ⟨c, h1, z.keeps kp⟩
  · have e : cenv.cells.lookup y = some c := e
    rcases mem e with ⟨h1, _⟩ | ⟨_, z⟩
    · obtain ⟨w, z⟩ := I.cell y c h1
      exact ⟨w, z.keeps kp⟩
    · exact ⟨_, z⟩
  · show H cenv.locals = none
    rw [hL]; exact I.hok.fresh (Nat.le_refl _)
  · have e : cenv.cells.lookup y = some c := e
    rcases mem e with ⟨h1, _⟩ | ⟨h1, _⟩
    · exact I.freeC y c h1
    · exact I.hok.fresh (Nat.le_of_succ_le h1)
  · exact absurd (show p ∈ ([] : List (Addr × Obj)) ++ [] from hp) (by simp)

/-- an item appended to a tracked list -/
theorem app_ok {E : Value → Shared → Prop} {D : Addr} {xs : List V} {y : V} {v : Value} {Q : Value → Shared → Prop} (I : Inv X pins σ H s) (hD : H D = some (.lst xs)) (hz : xs.length < sizeLine) (r : RelV y v)
    (h : ∀ s', Inv X pins σ (upd H D (.lst (xs ++ [y]))) s' → Q .none s') : wpAny (model X.prog X.w) X.A (call (.builtin "list.append") [.ref D, v]) Q E s := by
  obtain ⟨hz', its, n, ri, e⟩ := I.hok D _ hD
  have hl := ri.length
  refine append_at (hsz := by rw [List.size_toArray]; omega) e fun h' sb ho' => ?_
  refine h { s with heap := h' } (I.write (t' := s.toks) (by rw [hD]; trivial) (.inl rfl) (fun b u hb q => (sb.2 b hb).trans q) ⟨_, ho'⟩ ⟨by rw [List.length_append]; exact hz, its ++ [v], n + 1, ri.append (.cons r .nil), ?_⟩)
  rw [ho']
  simp

/-- a clause's tests -/
def PTs (X : Cx) (ifs : List Expr) (t : TT) : Prop :=
  ∀ (pins : List (Addr × Obj)) (s : Shared) (σ : St) (H : Hp) (Q : Bool → Hp → Prop), Inv X pins σ H s → t σ H Q →
    wpAny (model X.prog X.w) X.A (forIn ifs true fun c r => if r = true then do let ok ← isTrue c X.env (eval c X.env); pure (ForInStep.yield ok) else pure (ForInStep.yield r)) (TP X pins σ Q) X.xe s
def tYes : TT := fun _ H Q => Q true H
theorem pts_nil : PTs X [] tYes := fun _ _ _ H _ I h => wpAny_tests_nil ⟨H, I, h⟩
theorem pts_one {c : Expr} {t : TT} (h : PT X c t) : PTs X [c] t := fun pins s σ H Q I hw => wpAny_tests_one (h pins s σ H Q I hw)
end

theorem thnF {α : Type} {t : Sem α} {Q Q' : α → Shared → Prop} {M : Model} {A : Around} {E : Value → Shared → Prop} {s : Shared} (h : wpAny M A t Q (fun _ _ => False) s) (hQ : ∀ a s, Q a s → Q' a s) : wpAny M A t Q' E s := wpAny_mono h hQ fun _ _ z => False.elim z

/-- the loop of a list comprehension's block, the target of any form (codeAny_compLoop_tests asks a target that no tuple goes to; statement and proof follow it, PyProof/CompMap.lean:41-61, with the step letOwnedTupleGo kept) -/
theorem compLoop_any {prog : Program} {w : World} {A : Around} {R : Result → Shared → Prop} {s : Shared} {elt target iter : Expr} {ifs : List Expr} {scope : Scope} {pos : Pos} {it acc : Value} {env : Env} (I : Nat → Shared → Prop)
    (turn : ∀ n s, I n s → wpAny (model prog w) A (pyNext it) (fun r s₁ => match r with
      | none => R (.ok .next) s₁
      | some v => wpAny (model prog w) A (letOwnedTupleGo target it v) (fun _ s₁' => wpAny (model prog w) A (assign target env v) (fun _ s₂ =>
          wpAny (model prog w) A (forIn ifs true fun c r => if r = true then do let ok ← isTrue c env (eval c env); pure (ForInStep.yield ok) else pure (ForInStep.yield r)) (fun ok s₃ =>
            if ok = true then wpAny (model prog w) A (eval elt env) (fun x s₄ =>
              wpAny (model prog w) A (call (.builtin "list.append") [acc, x]) (fun _ s₅ => ∃ m, m < n ∧ I m s₅) (notedBy (model prog w) A env fun e s' => R (.error e) s') s₄) (notedBy (model prog w) A env fun e s' => R (.error e) s') s₃
            else ∃ m, m < n ∧ I m s₃) (notedBy (model prog w) A env fun e s' => R (.error e) s') s₂) (notedBy (model prog w) A env fun e s' => R (.error e) s') s₁') (notedBy (model prog w) A env fun e s' => R (.error e) s') s₁) (notedBy (model prog w) A env fun e s' => R (.error e) s') s)
    (n : Nat) (h : I n s) :
    codeAny (model prog w) A (.compLoop (.ListComp elt [⟨target, iter, ifs, 0⟩] scope pos) 0 it acc env) R s := by
  refine codeAny_loop rfl I (fun n s hI => ?_) n h
  show wpAny _ A ((compTurn (.ListComp elt [⟨target, iter, ifs, 0⟩] scope pos) 0 it acc env).onRaise (fun x => do noteFrame x env; theTreesLotGoes x)) _ _ s
  refine wpAny_noted ?_
  rw [compTurn_list]
  refine wpAny_bind (wpAny_standAt (wpAny_bind (wpAny_mono (turn n s hI) (fun r s₁ h₁ => ?_) fun _ _ h' => h')))
  cases r with
  | none => exact wpAny_pure h₁
  | some v =>
    refine wpAny_bind (wpAny_mono h₁ (fun _ s₁' h₁' => ?_) fun _ _ h' => h')
    refine wpAny_bind (wpAny_mono h₁' (fun _ s₂ h₂ => wpAny_bind (wpAny_mono h₂ (fun ok s₃ h₃ => ?_) fun _ _ h' => h')) fun _ _ h' => h')
    cases ok with
    | false => exact wpAny_pure ⟨rfl, h₃⟩
    | true =>
      exact wpAny_bind (wpAny_bind (wpAny_mono h₃ (fun x s₄ h₄ => wpAny_bind (wpAny_mono h₄ (fun _ s₅ h₅ => wpAny_pure (wpAny_pure ⟨rfl, h₅⟩)) fun _ _ h' => h')) fun _ _ h' => h'))

section
variable {X : Cx}
/-- [elt for target in iter if ..]: D the new list; W by the turn and a measure, Nx what a turn is to reach -/
def tLc (wi : TI) (g : TG) (tt : TT) (te : TE) (vs : List Nat) : TE := fun σ H Q => wi σ H fun J H1 => ∀ D, H1 D = none → ∃ W : Nat → Nat → Hp → Prop, (∃ m, W 0 m (upd H1 D (.lst []))) ∧ ∀ i m H, W i m H →
  (J.stop i H ∧ Q (.ref D) H) ∨ (J.go i H ∧ ∃ Nx : Hp → Prop, (∀ H', Nx H' → ∃ m', m' < m ∧ W (i + 1) m' H') ∧ ∀ x H', J.yld i H x H' → g x (wipe σ vs) H' fun σ2 H2 => wipe σ2 vs = wipe σ vs ∧ tt σ2 H2 fun b H3 =>
    if b = true then te σ2 H3 fun y H4 => ∃ acc, H4 D = some (.lst acc) ∧ acc.length < sizeLine ∧ Nx (upd H4 D (.lst (acc ++ [y]))) else Nx H3)
theorem lc_core {pins : List (Addr × Obj)} {s : Shared} {σ : St} {H : Hp} {Q : VK} {elt tg iter : Expr} {ifs : List Expr} {scope : Scope} {own : List (Str × Nat)} {pos pos' : Pos} {wi : TI} {g : TG} {tt : TT} {te : TE} {use : Option (Value → Sem Unit)} {Qf : Value → Shared → Prop}
    (hc : X.calm = true) (hN : X.N.Nodup) (I : Inv X pins σ H s) (hi : PI X tg iter wi) (ok : BlkOk X.N X.env.scope scope own)
    (hg : ∀ (s : Shared) (H : Hp) (C : Addr) (cl : List (Str × Addr)) (fp : List Addr), PG (X.blk s H scope (compEnvC scope cl C X.env) fp) tg g) (ht : ∀ (s : Shared) (H : Hp) (C : Addr) (cl : List (Str × Addr)) (fp : List Addr), PTs (X.blk s H scope (compEnvC scope cl C X.env) fp) ifs tt)
    (he : ∀ (s : Shared) (H : Hp) (C : Addr) (cl : List (Str × Addr)) (fp : List Addr), PE (X.blk s H scope (compEnvC scope cl C X.env) fp) elt te) (hs : ∀ x, foldedSetIterable iter X.env x = pure x)
    (h : tLc wi g tt te (own.map (·.2)) σ H Q)
    (hRR : ∀ D C s' m H', Inv X pins σ H' s' → Q (.ref D) H' → s'.heap.Ns C m → FpOk X pins H' C → compPost (model X.prog X.w) X.A X.xe use Qf (.ref D) C (.ok .next) s') :
    wpAny (model X.prog X.w) X.A (comprehension (.ListComp elt [⟨tg, iter, ifs, 0⟩] scope pos) scope X.env pos' (newList []) false (eval iter X.env) use) Qf X.xe s := by
  have hfree : ∀ y ∈ scope.names, y.2 = .free → ∃ c, X.env.cells.lookup y.1 = some c := fun y hy e => by
    rcases ok.free y hy e with k | k
    · exact I.ok.has _ (.inl k)
    · exact I.ok.has _ (.inr k)
  refine wpAny_comprehension_free (use := use) rfl hs (closure_ok hfree) ok.kind (fun y hy e => by rw [ok.uniq y hy, e])
    (thn (hi pins s σ H _ I h) fun xv s1 hx => thn hx fun itv s2 h2 => ?_)
  obtain ⟨it, fp, tn, J, H2, e, I2, T, st2, f2, q⟩ := h2
  subst e
  refine wpAny_newObj_type (newEnv_comp ?_) (by show 0 ≤ sizeLine; decide)
  generalize hD : s2.heap.objs.size = D
  have hDn : H2 D = none := I2.hok.fresh (Nat.le_of_eq hD)
  obtain ⟨W, ⟨m0, w0⟩, turn⟩ := q D hDn
  -- the new list
  generalize hs3 : ({ s2 with heap := s2.heap.push { cls := .type "list", data := .seq ([] : List Value).toArray } } : Shared) = s3
  have I3 : Inv X pins σ (upd H2 D (.lst [])) s3 := by
    rw [← hs3]
    refine I2.laid (t' := s2.toks) (fun b o e => Heap.get?_push_of_some _ e) (Nat.le_of_eq hD) ⟨Nat.zero_le _, [], 0, .nil, ?_⟩
    rw [← hD]
    exact Heap.get?_push_size _ rfl
  have h3 : s3.heap = s2.heap.push { cls := .type "list", data := .seq ([] : List Value).toArray } := by rw [← hs3]
  have sz : ∀ b ∈ fp, b < s2.heap.objs.size := fun b hb => by
    obtain ⟨o, e, _⟩ := T.obj _ _ st2 b hb
    exact Heap.lt_size e
  have f3 : ∀ b ∈ fp, FpOk X pins (upd H2 D (.lst [])) b ∧ b < s3.heap.objs.size := fun b hb => by
    have hlt := sz b hb
    refine ⟨⟨?_, (f2 b hb).2⟩, by rw [h3, Heap.size_push]; exact Nat.lt_succ_of_lt hlt⟩
    rw [upd_ne (by rw [← hD]; exact Nat.ne_of_lt hlt)]
    exact (f2 b hb).1
  have st3 : tn 0 s3.heap := T.keep _ _ _ st2 fun b _ o e => by rw [h3]; exact Heap.get?_push_of_some _ e
  have I4 := block_start I3 ok hN f3
  have pg := hg s3 (upd H2 D (.lst [])) s3.heap.objs.size (cellsFrom (s3.heap.objs.size + 1) scope.names (cloFrom X.env.cells scope.names [])) fp
  have pt := ht s3 (upd H2 D (.lst [])) s3.heap.objs.size (cellsFrom (s3.heap.objs.size + 1) scope.names (cloFrom X.env.cells scope.names [])) fp
  have pe := he s3 (upd H2 D (.lst [])) s3.heap.objs.size (cellsFrom (s3.heap.objs.size + 1) scope.names (cloFrom X.env.cells scope.names [])) fp
  show codeAny _ _ (.compStart (.ListComp elt [⟨tg, iter, ifs, 0⟩] scope pos) 0 (.ref it) (.ref D) (compEnvC scope (cellsFrom (s3.heap.objs.size + 1) scope.names (cloFrom X.env.cells scope.names [])) s3.heap.objs.size X.env)) (compPost (model X.prog X.w) X.A X.xe use Qf (.ref D) s3.heap.objs.size) { s3 with heap := pushCells (s3.heap.push { cls := .type "dict", data := .dict #[] }) scope.names }
  have nfp : ∀ b ∈ fp, (upd H2 D (.lst [])) b = none := fun b hb => (f3 b hb).1.1
  generalize hce : compEnvC scope (cellsFrom (s3.heap.objs.size + 1) scope.names (cloFrom X.env.cells scope.names [])) s3.heap.objs.size X.env = ce at I4 pg pt pe ⊢
  have cL : ce.locals = s3.heap.objs.size := by subst hce; rfl
  generalize hH3 : upd H2 D (.lst []) = H3 at I3 I4 pg pt pe w0 nfp f3
  generalize hs4 : ({ s3 with heap := pushCells (s3.heap.push { cls := .type "dict", data := .dict #[] }) scope.names } : Shared) = s4 at I4 ⊢
  have st4 : tn 0 s4.heap := T.keep _ _ _ st3 fun b _ o e => by rw [← hs4]; exact pushCells_keeps _ _ _ _ (Heap.get?_push_of_some _ e)
  have stat : ∀ {σ' : St} {H' : Hp} {s' : Shared}, Inv (X.blk s3 H3 scope ce fp) [] σ' H' s' → (∀ b ∈ fp, H' b = none) → ∀ b ∈ fp, FpOk (X.blk s3 H3 scope ce fp) [] H' b := fun {σ' H' s'} I' hn b hb =>
    ⟨hn b hb, (I'.ok.exf b hb).1, I'.ok.exfs b hb, .inl hb, fun x c e => (I'.ok.exf b hb).2 x c e, fun p hp => absurd (show p ∈ ([] : List (Addr × Obj)) ++ [] from hp) (by simp)⟩
  have loop : codeAny (model X.prog X.w) X.A (.compLoop (.ListComp elt [⟨tg, iter, ifs, 0⟩] scope pos) 0 (.ref it) (.ref D) ce) (compPost (model X.prog X.w) X.A X.xe use Qf (.ref D) s3.heap.objs.size) s4 := by
    refine compLoop_any (fun n s' => ∃ i H', Inv (X.blk s3 H3 scope ce fp) [] (wipe σ (own.map (·.2))) H' s' ∧ tn i s'.heap ∧ (∀ b ∈ fp, H' b = none) ∧ W i n H') ?_ m0 ⟨0, H3, I4, st4, nfp, w0⟩
    rintro n s5 ⟨i, H5, I5, st5, n5, w5⟩
    rcases turn i n H5 w5 with ⟨stop, qq⟩ | ⟨go, Nx, hNx, step⟩
    · have td := T.done (X.blk s3 H3 scope ce fp) rfl rfl rfl hc i [] s5 _ H5 (fun _ _ => False) I5 (stat I5 n5) st5 stop
      refine thnF td fun r s6 ⟨hr, I6⟩ => ?_
      subst hr
      -- back in the def's context
      have I7 : Inv X pins σ H5 s6 := I3.call' (ch := fp) I6.os I6.base I6.hok I6.bare fun b hb => ⟨(f3 b hb).1.2.2.2.1, (f3 b hb).1.2.1, (f3 b hb).1.2.2.2.2.1, (f3 b hb).1.2.2.2.2.2⟩
      have nC : H5 s3.heap.objs.size = none := by
        have z : H5 ce.locals = none := I6.free
        rw [cL] at z
        exact z
      obtain ⟨m, hn, _⟩ := I6.loc
      have hn : s6.heap.Ns ce.locals m := hn
      rw [cL] at hn
      exact hRR D s3.heap.objs.size s6 m H5 I7 qq hn (I3.fpOk (Nat.le_refl _) nC)
    · have ti := T.item (X.blk s3 H3 scope ce fp) rfl rfl rfl hc i [] s5 _ H5 (fun _ _ => False) I5 (stat I5 n5) st5 go
      refine thnF ti fun r s6 ⟨u, hr, h6⟩ => ?_
      subst hr
      refine thnF h6 fun _ s7 ⟨x, H7, I7, r7, y7, st7, n7⟩ => ?_
      have I7' := I7.pinned (stat I7 n7) (T.obj _ _ st7)
      refine thnF (pg _ s7 _ H7 x u _ I7' r7 (step x H7 y7)) fun _ s8 ⟨σ8, H8, I8, hw8, q8⟩ => ?_
      refine thnF (pt _ s8 σ8 H8 _ I8 q8) fun b s9 ⟨H9, I9, q9⟩ => ?_
      -- the turn's end
      have fin : ∀ {s' : Shared} {H' : Hp}, Inv (X.blk s3 H3 scope ce fp) ([] ++ pinsAt fp s7.heap) σ8 H' s' → Nx H' → ∃ m, m < n ∧ ∃ i H', Inv (X.blk s3 H3 scope ce fp) [] (wipe σ (own.map (·.2))) H' s' ∧ tn i s'.heap ∧ (∀ b ∈ fp, H' b = none) ∧ W i m H' := fun {s' H'} I' nx => by
        obtain ⟨m', hm, w'⟩ := hNx H' nx
        have pin' : ∀ b ∈ fp, ∀ o, s7.heap.get? b = some o → s'.heap.get? b = some o ∧ H' b = none := fun b hb o e =>
          let z := I'.pin (b, o) (List.mem_append_right _ (List.mem_append_right _ (mem_pinsAt hb e)))
          ⟨z.1, z.2.1⟩
        have hl : (wipe σ (own.map (·.2))).length = σ8.length := by rw [← hw8, wipe_length]
        refine ⟨m', hm, i + 1, H', (I'.unpinned (pins := [])).weak hl (fun j v e => ?_), T.keep _ _ _ st7 fun b hb o e => (pin' b hb o e).1, fun b hb => ?_, w'⟩
        · rw [← hw8] at e
          exact (wipe_some e).1
        · obtain ⟨o, e, _⟩ := T.obj _ _ st7 b hb
          exact (pin' b hb o e).2
      cases b with
      | false =>
        simp only [Bool.false_eq_true, if_false] at q9 ⊢
        exact fin I9 q9
      | true =>
        simp only [if_true] at q9 ⊢
        refine thnF (pe _ s9 σ8 H9 _ I9 q9) fun z s10 ⟨yv, H10, I10, r10, acc, hD10, hz10, nx⟩ => ?_
        exact app_ok (X := X.blk s3 H3 scope ce fp) I10 hD10 hz10 r10 fun s11 I11 => fin I11 nx
  exact codeAny_compStart_list loop (T.self X.A 0 _ _ _ st4 loop)
/-- as a value -/
theorem pe_lc {elt tg iter : Expr} {ifs : List Expr} {scope : Scope} {own : List (Str × Nat)} {pos : Pos} {wi : TI} {g : TG} {tt : TT} {te : TE} (hc : X.calm = true) (hN : X.N.Nodup) (hi : PI X tg iter wi) (ok : BlkOk X.N X.env.scope scope own)
    (hg : ∀ (s : Shared) (H : Hp) (C : Addr) (cl : List (Str × Addr)) (fp : List Addr), PG (X.blk s H scope (compEnvC scope cl C X.env) fp) tg g) (ht : ∀ (s : Shared) (H : Hp) (C : Addr) (cl : List (Str × Addr)) (fp : List Addr), PTs (X.blk s H scope (compEnvC scope cl C X.env) fp) ifs tt)
    (he : ∀ (s : Shared) (H : Hp) (C : Addr) (cl : List (Str × Addr)) (fp : List Addr), PE (X.blk s H scope (compEnvC scope cl C X.env) fp) elt te) (hs : ∀ x, foldedSetIterable iter X.env x = pure x := by intro _; rfl) :
    PE X (.ListComp elt [⟨tg, iter, ifs, 0⟩] scope pos) (tLc wi g tt te (own.map (·.2))) := by
  intro pins s σ H Q I h
  rw [eval_ListComp]
  refine lc_core hc hN I hi ok hg ht he hs h fun D C s' m H' I' q hn f => ⟨m, hn, fun h'' sb => ?_⟩
  obtain ⟨f0, f1, f2, f3, f4, f5⟩ := f
  exact ⟨.ref D, H', I'.turned (t' := s'.toks) (fun b o hb e => (sb.2 b hb).trans e) f0 f1 f3 f4 f5, rfl, q⟩
/-- name = [..] on one line, the name a local -/
theorem ps_setLc {i : Nat} {y : Str} {py : Pos} {elt tg iter : Expr} {ifs : List Expr} {scope : Scope} {own : List (Str × Nat)} {pos spos : Pos} {wi : TI} {g : TG} {tt : TT} {te : TE} (hc : X.calm = true) (hN : X.N.Nodup) (hy : X.N[i]? = some y) (hyl : X.env.scope.names.lookup y = some .local)
    (hsw : swapsWith (.ListComp elt [⟨tg, iter, ifs, 0⟩] scope pos) (some (.Name y py)) spos.line X.env = pure true) (hi : PI X tg iter wi) (ok : BlkOk X.N X.env.scope scope own)
    (hg : ∀ (s : Shared) (H : Hp) (C : Addr) (cl : List (Str × Addr)) (fp : List Addr), PG (X.blk s H scope (compEnvC scope cl C X.env) fp) tg g) (ht : ∀ (s : Shared) (H : Hp) (C : Addr) (cl : List (Str × Addr)) (fp : List Addr), PTs (X.blk s H scope (compEnvC scope cl C X.env) fp) ifs tt)
    (he : ∀ (s : Shared) (H : Hp) (C : Addr) (cl : List (Str × Addr)) (fp : List Addr), PE (X.blk s H scope (compEnvC scope cl C X.env) fp) elt te) (hs : ∀ x, foldedSetIterable iter X.env x = pure x := by intro _; rfl) :
    PS X (.Assign [.Name y py] (.ListComp elt [⟨tg, iter, ifs, 0⟩] scope pos) spos) (tAsg (tLc wi g tt te (own.map (·.2))) (gName i)) := by
  intro pins s σ H D I h
  rw [exec_Assign_Name_used _ _ _ _ hsw]
  refine wpAny_bind (wpAny_standAt (wpAny_bind ?_))
  show wpAny _ X.A (do let _ ← comprehension (.ListComp elt [⟨tg, iter, ifs, 0⟩] scope pos) scope X.env (firstIterPos [⟨tg, iter, ifs, 0⟩] pos) (newList []) false (eval iter X.env) (some (assign (.Name y py) X.env))) _ _ s
  have h : tLc wi g tt te (own.map (·.2)) σ H (fun x H1 => gName i x σ H1 D.nx) := h
  refine wpAny_bind (thn (lc_core (Qf := fun _ s' => SP X pins D .next s') hc hN I hi ok hg ht he hs h fun L C s' m H' I' q hn f => ?_) fun _ s' hq => wpAny_pure (wpAny_pure hq))
  show wpAny _ _ (assign (.Name y py) X.env (.ref L)) _ _ _
  refine wpAny_assign_Name (store_ok2 (v := V.ref L) I' hN hy (.inl hyl) rfl (fun s2 I2 ⟨a, sb, ha⟩ => ?_) (.inr hyl))
  obtain ⟨f0, f1, f2, f3, f4, f5⟩ := f
  have haC : C ≠ a := by
    rcases ha with z | z
    · rw [z]; exact f1
    · exact fun e => f4 y a z e.symm
  refine ⟨m, hn.sameBut sb haC, fun h3 sb3 => ?_⟩
  exact ⟨_, H', I2.turned (t' := s2.toks) (fun b o hb e => (sb3.2 b hb).trans e) f0 f1 f3 f4 f5, q⟩
theorem sw_true {elt : Expr} {gs : List Comprehension} {scope : Scope} {pos py : Pos} {y : Str} {l : Nat} {env : Env} (hk : env.scope.kind = .function) (hy : env.scope.names.lookup y = some .local) (hl : (py.line == pos.line) = true)
    (ha : (scope.names.any fun (n, k) => n == y && (k == .local || k == .cell)) = false) : swapsWith (.ListComp elt gs scope pos) (some (.Name y py)) l env = pure true := by
  have ky : env.kindOf y = some .local := hy
  have hb : env.blockKind = .function := by unfold Env.blockKind; rw [hk]; rfl
  unfold swapsWith
  simp only [hb, ky, ha, Expr.pos, hl]
  rfl
end

/-- over a range: Pv by the turn and the heap (the new list at D within) -/
theorem lc_range {lo : Int} {n : Nat} {g : TG} {tt : TT} {te : TE} {vs : List Nat} {σ : St} {H1 : Hp} {D : Addr} {Qd : Hp → Prop} (Pv : Nat → Hp → Prop) (h0 : Pv 0 (upd H1 D (.lst [])))
    (hs : ∀ i H, i < n → Pv i H → g (.int (lo + i)) (wipe σ vs) H fun σ2 H2 => wipe σ2 vs = wipe σ vs ∧ tt σ2 H2 fun b H3 =>
      if b = true then te σ2 H3 fun y H4 => ∃ acc, H4 D = some (.lst acc) ∧ acc.length < sizeLine ∧ Pv (i + 1) (upd H4 D (.lst (acc ++ [y]))) else Pv (i + 1) H3) (hd : ∀ H, Pv n H → Qd H) :
    ∃ W : Nat → Nat → Hp → Prop, (∃ m, W 0 m (upd H1 D (.lst []))) ∧ ∀ i m H, W i m H →
      ((Itr lo n).stop i H ∧ Qd H) ∨ ((Itr lo n).go i H ∧ ∃ Nx : Hp → Prop, (∀ H', Nx H' → ∃ m', m' < m ∧ W (i + 1) m' H') ∧ ∀ x H', (Itr lo n).yld i H x H' → g x (wipe σ vs) H' fun σ2 H2 => wipe σ2 vs = wipe σ vs ∧ tt σ2 H2 fun b H3 =>
        if b = true then te σ2 H3 fun y H4 => ∃ acc, H4 D = some (.lst acc) ∧ acc.length < sizeLine ∧ Nx (upd H4 D (.lst (acc ++ [y]))) else Nx H3) := by
  refine ⟨fun i m H => m = n - i ∧ i ≤ n ∧ Pv i H, ⟨n, by simp, Nat.zero_le _, h0⟩, ?_⟩
  rintro i m H ⟨rfl, hi, p⟩
  by_cases hlt : i < n
  · refine .inr ⟨hlt, Pv (i + 1), fun H' p' => ⟨n - (i + 1), by omega, rfl, hlt, p'⟩, fun x H' y => ?_⟩
    obtain ⟨e, y⟩ := y
    subst e y
    exact hs i _ hlt p
  · have e : i = n := by omega
    subst e
    exact .inl ⟨Nat.le_refl _, hd H p⟩
/-- over a list that the block leaves as it is -/
theorem lc_list {K : PySem.W.Frag} {a : Addr} {xs : List V} {g : TG} {tt : TT} {te : TE} {vs : List Nat} {σ : St} {H1 : Hp} {D : Addr} {Qd : Hp → Prop} (Pv : Nat → Hp → Prop) (h0 : Pv 0 (upd H1 D (.lst []))) (hl : ∀ i H, i ≤ xs.length → Pv i H → SqL K H a xs)
    (hs : ∀ i x H, xs[i]? = some x → Pv i H → g x (wipe σ vs) H fun σ2 H2 => wipe σ2 vs = wipe σ vs ∧ tt σ2 H2 fun b H3 =>
      if b = true then te σ2 H3 fun y H4 => ∃ acc, H4 D = some (.lst acc) ∧ acc.length < sizeLine ∧ Pv (i + 1) (upd H4 D (.lst (acc ++ [y]))) else Pv (i + 1) H3) (hd : ∀ H, Pv xs.length H → Qd H) :
    ∃ W : Nat → Nat → Hp → Prop, (∃ m, W 0 m (upd H1 D (.lst []))) ∧ ∀ i m H, W i m H →
      ((Itl K a).stop i H ∧ Qd H) ∨ ((Itl K a).go i H ∧ ∃ Nx : Hp → Prop, (∀ H', Nx H' → ∃ m', m' < m ∧ W (i + 1) m' H') ∧ ∀ x H', (Itl K a).yld i H x H' → g x (wipe σ vs) H' fun σ2 H2 => wipe σ2 vs = wipe σ vs ∧ tt σ2 H2 fun b H3 =>
        if b = true then te σ2 H3 fun y H4 => ∃ acc, H4 D = some (.lst acc) ∧ acc.length < sizeLine ∧ Nx (upd H4 D (.lst (acc ++ [y]))) else Nx H3) := by
  refine ⟨fun i m H => m = xs.length - i ∧ i ≤ xs.length ∧ Pv i H, ⟨xs.length, by simp, Nat.zero_le _, h0⟩, ?_⟩
  rintro i m H ⟨rfl, hi, p⟩
  have q := hl i H hi p
  by_cases hlt : i < xs.length
  · refine .inr ⟨⟨xs, xs[i], q, by simp [hlt]⟩, Pv (i + 1), fun H' p' => ⟨xs.length - (i + 1), by omega, rfl, hlt, p'⟩, fun x H' y => ?_⟩
    obtain ⟨e, y⟩ := y
    subst e
    exact hs i x _ (y xs q) p
  · have e : i = xs.length := by omega
    subst e
    exact .inl ⟨⟨xs, q, Nat.le_refl _⟩, hd H p⟩
def blkC (N : List Str) (sc scope : Scope) (own : List (Str × Nat)) : Bool :=
  (match scope.kind with | .function => true | _ => false) && (scope.names.all fun y => decide (scope.names.lookup y.1 = some y.2)) && (own.all fun p => decide (N[p.2]? = some p.1)) &&
    (scope.names.all fun y => match y.2 with
      | .free => (match sc.names.lookup y.1 with | some .cell => true | some .free => true | _ => false)
      | .local => decide (y.1 ∈ own.map (·.1)) || decide (y.1 ∉ N)
      | .cell => decide (y.1 ∈ own.map (·.1)) || decide (y.1 ∉ N)
      | _ => true)
theorem blkOk_by {N : List Str} {sc scope : Scope} {own : List (Str × Nat)} (h : blkC N sc scope own = true) : BlkOk N sc scope own := by
  unfold blkC at h
  simp only [Bool.and_eq_true, List.all_eq_true, decide_eq_true_eq] at h
  obtain ⟨⟨⟨h1, h2⟩, h3⟩, h4⟩ := h
  refine ⟨?_, h2, h3, fun y hy e => ?_, fun y hy e => ?_⟩
  · split at h1
    · assumption
    · cases h1
  · have q := h4 y hy
    simp only [e] at q
    split at q <;> first | exact .inl (by assumption) | exact .inr (by assumption) | cases q
  · have q := h4 y hy
    rcases e with e | e <;> (simp only [e, Bool.or_eq_true, decide_eq_true_eq] at q; exact q)
end L2

namespace L2
open PySem PySem.Spec PyProof.Rows

section
variable {prog : Program} {w : World} {A : Around} {R : Result → Shared → Prop} {s : Shared} {elt t0 i0 t1 i1 : Expr} {ifs0 ifs1 : List Expr} {scope : Scope} {pos : Pos} {it acc : Value} {env : Env}
end

section
variable {X : Cx}
end
end L2

namespace L2
open PySem PySem.Spec PyProof.Rows

section
variable {κ : Type} [DecidableEq κ]
def valV (kvs : List (κ × V)) (k : κ) : Option V := (kvs.find? fun kv => decide (kv.1 = k)).map (·.2)
/-- in its place, or at the end -/
def putK (kvs : List (κ × V)) (k : κ) (v : V) : List (κ × V) :=
  if (kvs.any fun kv => decide (kv.1 = k)) = true then kvs.map (fun kv => if kv.1 = k then (kv.1, v) else kv) else kvs ++ [(k, v)]
def dropK (kvs : List (κ × V)) (k : κ) : List (κ × V) := kvs.filter fun kv => decide (kv.1 ≠ k)

theorem valV_pos {p : κ × V} {r : List (κ × V)} {k : κ} (e : p.1 = k) : valV (p :: r) k = some p.2 := by simp [valV, List.find?_cons, e]
theorem valV_neg {p : κ × V} {r : List (κ × V)} {k : κ} (e : ¬ p.1 = k) : valV (p :: r) k = valV r k := by simp [valV, List.find?_cons, e]
theorem valV_any (k : κ) : ∀ kvs : List (κ × V), (kvs.any fun kv => decide (kv.1 = k)) = (valV kvs k).isSome
  | [] => rfl
  | p :: r => by
    rw [List.any_cons]
    by_cases e : p.1 = k
    · simp only [valV_pos e, decide_eq_true e, Bool.true_or, Option.isSome_some]
    · rw [valV_neg e, decide_eq_false e, Bool.false_or]; exact valV_any k r
theorem RelO.isSome_eq {o : Option V} {u : Option Value} (r : RelO o u) : o.isSome = u.isSome := by
  cases o with
  | none => cases u with
    | none => rfl
    | some _ => exact (show False from r).elim
  | some _ => cases u with
    | none => exact (show False from r).elim
    | some _ => rfl
theorem RelO.getD {o : Option V} {u : Option Value} {d : V} {d' : Value} (r : RelO o u) (rd : RelV d d') : RelV (o.getD d) (u.getD d') := by
  cases o with
  | none => cases u with
    | none => exact rd
    | some _ => exact (show False from r).elim
  | some _ => cases u with
    | none => exact (show False from r).elim
    | some _ => exact r

/-- raw tables of the same keys -/
theorem KV.val {kvs : List (κ × V)} {vs : List (κ × Value)} (r : KV kvs vs) (k : κ) : RelO (valV kvs k) (valueAt vs k) := by
  unfold KV at r
  induction r with
  | nil => exact True.intro
  | @cons p q ps qs h t ih =>
    obtain ⟨h1, h2⟩ := h
    by_cases e : p.1 = k
    · have e' : q.1 = k := h1.symm.trans e
      have b : valueAt (q :: qs) k = some q.2 := by simp [valueAt, List.find?_cons, e']
      rw [valV_pos e, b]; exact h2
    · have e' : ¬ q.1 = k := fun z => e (h1.trans z)
      have b : valueAt (q :: qs) k = valueAt qs k := by simp [valueAt, List.find?_cons, e']
      rw [valV_neg e, b]; exact ih
theorem KV.any {kvs : List (κ × V)} {vs : List (κ × Value)} (r : KV kvs vs) (k : κ) : (kvs.any fun kv => decide (kv.1 = k)) = vs.any fun kv => decide (kv.1 = k) := by
  unfold KV at r
  induction r with
  | nil => rfl
  | cons h t ih => rw [List.any_cons, List.any_cons, ih, h.1]
theorem KV.repl {kvs : List (κ × V)} {vs : List (κ × Value)} (r : KV kvs vs) (k : κ) {y : V} {u : Value} (ry : RelV y u) :
    KV (kvs.map fun kv => if kv.1 = k then (kv.1, y) else kv) (vs.map fun kv => if kv.1 = k then (kv.1, u) else kv) := by
  unfold KV at r ⊢
  induction r with
  | nil => exact .nil
  | @cons p q ps qs h t ih =>
    rw [List.map_cons, List.map_cons]
    refine .cons ?_ ih
    obtain ⟨h1, h2⟩ := h
    by_cases e : p.1 = k
    · rw [if_pos e, if_pos (h1.symm.trans e)]; exact ⟨h1, ry⟩
    · rw [if_neg e, if_neg (fun z => e (h1.trans z))]; exact ⟨h1, h2⟩
theorem KV.put {kvs : List (κ × V)} {vs : List (κ × Value)} (r : KV kvs vs) (k : κ) {y : V} {u : Value} (ry : RelV y u) : KV (putK kvs k y) (stored vs k u) := by
  unfold putK stored
  rw [r.any k]
  by_cases e : (vs.any fun kv => decide (kv.1 = k)) = true
  · rw [if_pos e, if_pos e]; exact r.repl k ry
  · rw [if_neg e, if_neg e]; exact Paired.snoc r ⟨rfl, ry⟩
theorem KV.drop {kvs : List (κ × V)} {vs : List (κ × Value)} (r : KV kvs vs) (k : κ) : KV (dropK kvs k) (without vs k) := by
  unfold KV at r ⊢
  unfold dropK without
  induction r with
  | nil => exact .nil
  | @cons p q ps qs h t ih =>
    obtain ⟨h1, h2⟩ := h
    rw [List.filter_cons, List.filter_cons]
    by_cases e : p.1 = k
    · have a : ¬ decide (p.1 ≠ k) = true := by simp [e]
      have b : ¬ decide (q.1 ≠ k) = true := by simp [h1.symm.trans e]
      rw [if_neg a, if_neg b]; exact ih
    · have e' : ¬ q.1 = k := fun z => e (h1.trans z)
      have a : decide (p.1 ≠ k) = true := by simp [e]
      have b : decide (q.1 ≠ k) = true := by simp [e']
      rw [if_pos a, if_pos b]; exact .cons ⟨h1, h2⟩ ih
theorem KV.keys {kvs : List (κ × V)} {vs : List (κ × Value)} (r : KV kvs vs) : kvs.map (·.1) = vs.map (·.1) := by
  unfold KV at r
  induction r with
  | nil => rfl
  | cons h t ih => rw [List.map_cons, List.map_cons, ih, h.1]
theorem KV.length {kvs : List (κ × V)} {vs : List (κ × Value)} (r : KV kvs vs) : kvs.length = vs.length := Paired.length r
end


/-- raw entries of a dict with tuple keys -/
abbrev KT (H : Hp) : List (List Key × V) → List (List Key × Addr × Value) → Prop := Paired fun p q => p.1 = q.1 ∧ H q.2.1 = some (.tup (p.1.map kV)) ∧ RelV p.2 q.2.2
theorem KT.val {H : Hp} {kvs : List (List Key × V)} {xs : List (List Key × Addr × Value)} (r : KT H kvs xs) (k : List Key) : RelO (valV kvs k) ((atKey xs k).map (·.2)) := by
  induction r with
  | nil => exact True.intro
  | @cons p q ps qs h t ih =>
    obtain ⟨h1, _, h2⟩ := h
    by_cases e : p.1 = k
    · have e' : q.1 = k := h1.symm.trans e
      have b : atKey (q :: qs) k = some q.2 := by simp [atKey, List.find?_cons, e']
      rw [valV_pos e, b]; exact h2
    · have e' : ¬ q.1 = k := fun z => e (h1.trans z)
      have b : atKey (q :: qs) k = atKey qs k := by simp [atKey, List.find?_cons, e']
      rw [valV_neg e, b]; exact ih
theorem KT.repl {H : Hp} {kvs : List (List Key × V)} {xs : List (List Key × Addr × Value)} (r : KT H kvs xs) (k : List Key) {y : V} {u : Value} (ry : RelV y u) :
    KT H (kvs.map fun kv => if kv.1 = k then (kv.1, y) else kv) (xs.map (putAt k u)) := by
  induction r with
  | nil => exact .nil
  | @cons p q ps qs h t ih =>
    rw [List.map_cons, List.map_cons]
    refine .cons ?_ ih
    obtain ⟨h1, h2, h3⟩ := h
    unfold putAt
    by_cases e : p.1 = k
    · rw [if_pos e, if_pos (h1.symm.trans e)]; exact ⟨h1, h2, ry⟩
    · rw [if_neg e, if_neg (fun z => e (h1.trans z))]; exact ⟨h1, h2, h3⟩
theorem KT.put {H : Hp} {kvs : List (List Key × V)} {xs : List (List Key × Addr × Value)} (r : KT H kvs xs) (k : List Key) {b : Addr} {y : V} {u : Value} (hb : H b = some (.tup (k.map kV))) (ry : RelV y u) :
    KT H (putK kvs k y) (storedH xs k b u) := by
  have e : (kvs.any fun kv => decide (kv.1 = k)) = (atKey xs k).isSome := by
    rw [valV_any, (r.val k).isSome_eq, Option.isSome_map]
  unfold putK storedH
  rw [e]
  by_cases q : (atKey xs k).isSome = true
  · rw [if_pos q, if_pos q]; exact r.repl k ry
  · rw [if_neg q, if_neg q]; exact Paired.snoc r ⟨rfl, hb, ry⟩
theorem KT.keeps {H H' : Hp} {kvs : List (List Key × V)} {xs : List (List Key × Addr × Value)} (r : KT H kvs xs) (ht : ∀ b ys, H b = some (.tup ys) → H' b = some (.tup ys)) : KT H' kvs xs :=
  Paired.mapP r fun _ _ z => ⟨z.1, ht _ _ z.2.1, z.2.2⟩

section
variable {P : Program} {w : World} {H : Hp} {h : Heap} {a : Addr}
theorem rd_of {u : HO} (ok : HOk P w H h) (e : Rd H a u) : ObjOk P w H h a u := e.ok ok
theorem dk_rd {kvs : List (Key × V)} (ok : HOk P w H h) (e : Rd H a (.dK kvs)) : kvs.length ≤ sizeLine ∧ (a == sysModules) = false ∧ ∃ vs, KV kvs vs ∧ h.DictOf (mixKind P w) a vs :=
  show ObjOk P w H h a (.dK kvs) from rd_of ok e
theorem dk_of {kvs : List (Key × V)} (ok : HOk P w H h) (e : H a = some (.dK kvs)) : kvs.length ≤ sizeLine ∧ (a == sysModules) = false ∧ ∃ vs, KV kvs vs ∧ h.DictOf (mixKind P w) a vs := dk_rd ok (.inl e)
end

/-- what the dict at a holds at the key y -/
def DGet (H : Hp) (a : Addr) (y : V) (r : Option V) : Prop :=
  (∃ kvs k, Rd H a (.dK kvs) ∧ y = kV k ∧ r = valV kvs k) ∨ ∃ kvs k b, Rd H a (.dT kvs) ∧ y = .ref b ∧ H b = some (.tup (k.map kV)) ∧ r = valV kvs k
/-- the heap behind a[y] = v -/
def DPut (H : Hp) (a : Addr) (y v : V) (H' : Hp) : Prop :=
  (∃ kvs k, H a = some (.dK kvs) ∧ y = kV k ∧ kvs.length < sizeLine ∧ H' = upd H a (.dK (putK kvs k v))) ∨
  ∃ kvs k b, H a = some (.dT kvs) ∧ y = .ref b ∧ H b = some (.tup (k.map kV)) ∧ kvs.length < sizeLine ∧ H' = upd H a (.dT (putK kvs k v))
theorem DGet.k {H : Hp} {a : Addr} {kvs : List (Key × V)} {k : Key} (e : H a = some (.dK kvs)) : DGet H a (kV k) (valV kvs k) := .inl ⟨kvs, k, .inl e, rfl, rfl⟩
theorem DGet.t {H : Hp} {a b : Addr} {kvs : List (List Key × V)} {k : List Key} (e : H a = some (.dT kvs)) (eb : H b = some (.tup (k.map kV))) : DGet H a (.ref b) (valV kvs k) := .inr ⟨kvs, k, b, .inl e, rfl, eb, rfl⟩
theorem DPut.k {H : Hp} {a : Addr} {kvs : List (Key × V)} {k : Key} {v : V} (e : H a = some (.dK kvs)) (hl : kvs.length < sizeLine) : DPut H a (kV k) v (upd H a (.dK (putK kvs k v))) := .inl ⟨kvs, k, e, rfl, hl, rfl⟩
theorem DPut.t {H : Hp} {a b : Addr} {kvs : List (List Key × V)} {k : List Key} {v : V} (e : H a = some (.dT kvs)) (eb : H b = some (.tup (k.map kV))) (hl : kvs.length < sizeLine) :
    DPut H a (.ref b) v (upd H a (.dT (putK kvs k v))) := .inr ⟨kvs, k, b, e, rfl, eb, hl, rfl⟩


section
variable {X : Cx} {pins : List (Addr × Obj)} {σ : St} {H : Hp} {s : Shared} {a : Addr} {y v : V} {u r : Value} {o : Option V} {A : Around} {E : Value → Shared → Prop}

theorem Inv.big (I : Inv X pins σ H s) : sysModules < s.heap.objs.size := by
  have h : mainGlobals < s.heap.objs.size := (I.mod.glob.keeps I.bk).lt
  exact Nat.lt_trans (by decide) h

end

section
variable {X : Cx} {pins : List (Addr × Obj)} {σ : St} {H : Hp} {s : Shared} {a : Addr} {kvs : List (Key × V)} {k : Key} {u : Value} {A : Around} {E : Value → Shared → Prop}
end


section
variable {X : Cx} {o i e value : Expr} {pos pos' tpos : Pos} {td ty tv : TE}
end


theorem dk_empty {P : Program} {w : World} {H : Hp} (h : Heap) (hb : sysModules < h.objs.size) : ObjOk P w H (h.push { cls := .type "dict", data := .dict #[] }) h.objs.size (.dK []) :=
  ⟨Nat.zero_le _, beq_eq_false_iff_ne.mpr (Ne.symm (Nat.ne_of_lt hb)), [], .nil, Heap.DictOf.new h⟩
/-- {}, to be a dict of the kind that is wanted -/
def tDNewK : TE := fun _ H Q => ∀ p, H p = none → Q (.ref p) (upd H p (.dK []))
section
variable {X : Cx} {pos : Pos}
theorem pe_dnewK : PE X (.Dict [] [] pos) tDNewK := fun pins s σ H Q I h =>
  wpAny_Dict_empty ⟨.ref s.heap.objs.size, _, I.laid (a := s.heap.objs.size) (o := .dK []) (t' := s.toks) (fun _ _ q => Heap.get?_push_of_some _ q) (Nat.le_refl _) (dk_empty s.heap I.big), rfl, h _ (I.hok.fresh (Nat.le_refl _))⟩
end

/-- a method call o.m(e) of a built-in, with one argument: what must be seen of the text -/
structure M1 (X : Cx) (o : Expr) (m : Str) (apos : Pos) (e : Expr) (cpos : Pos) : Prop where
  base : attributeBase o m X.env (eval o X.env) = eval o X.env
  few : ((backTo cpos (starEach [e] X.env)).all (fun x => !x.1) && (backToKw cpos (keywordEach [] X.env)).all (fun x => x.1.isSome)
    && decide (([e] : List Expr).length + ([] : List Keyword).length + (if ([] : List Keyword).isEmpty then 0 else 1) < 30)) = true
  line : (apos.endLine == cpos.line) = true
  trees : backTo cpos (starEach [e] X.env) = [(false, eval e X.env)]
structure M2 (X : Cx) (o : Expr) (m : Str) (apos : Pos) (e f : Expr) (cpos : Pos) : Prop where
  base : attributeBase o m X.env (eval o X.env) = eval o X.env
  few : ((backTo cpos (starEach [e, f] X.env)).all (fun x => !x.1) && (backToKw cpos (keywordEach [] X.env)).all (fun x => x.1.isSome)
    && decide (([e, f] : List Expr).length + ([] : List Keyword).length + (if ([] : List Keyword).isEmpty then 0 else 1) < 30)) = true
  line : (apos.endLine == cpos.line) = true
  trees : backTo cpos (starEach [e, f] X.env) = [(false, eval e X.env), (false, eval f X.env)]

section
variable {X : Cx} {pins : List (Addr × Obj)} {σ : St} {H : Hp} {s : Shared} {a : Addr} {y d : V} {u r : Value} {o : Option V} {A : Around} {E : Value → Shared → Prop}
end

section
variable {X : Cx} {o e f : Expr} {apos cpos : Pos} {td ty tx : TE}
end

section
variable {X : Cx} {pins : List (Addr × Obj)} {σ : St} {H : Hp} {s : Shared} {a : Addr} {kvs : List (Key × V)} {A : Around} {E : Value → Shared → Prop}
end


section
variable {X : Cx} {pins : List (Addr × Obj)} {σ : St} {H : Hp} {s : Shared} {a : Addr} {y : V} {u : Value} {A : Around} {E : Value → Shared → Prop}
end
end L2

namespace L2
open PySem PySem.Spec PyProof.Rows

section
variable {prog : Program} {w : World} {A : Around} {E : Value → Shared → Prop}
end

section
variable {X : Cx}
end
end L2

namespace L2
open PySem PySem.Spec PyProof.Rows

theorem boot_reversed5 : bootBuiltins "reversed" = some (.type "reversed") := by decide +kernel

section
variable {X : Cx} {pins : List (Addr × Obj)} {σ : St} {H : Hp} {s : Shared} {h' : Heap}
/-- .. and one new object is laid -/
theorem Inv.turnedNew {t' : Nat} {ch : List Addr} {T : Addr} {ob : HO} (I : Inv X pins σ H s) (k : ∀ b o, b ∉ ch → s.heap.get? b = some o → h'.get? b = some o) (hf : ∀ b ∈ ch, FpOk X pins H b) (hT : s.heap.objs.size ≤ T)
    (new : ObjOk X.prog X.w (upd H T ob) h' T ob) : Inv X pins σ (upd H T ob) { s with heap := h', toks := t' } := by
  have hn : H T = none := I.hok.fresh hT
  have nit : ∀ b u, H b = some u → b ∉ ch := fun b u e z => by
    have q := (hf b z).1
    rw [q] at e; cases e
  refine I.step (g' := s.gens) (d' := s.drawn) (ch := ch) (fun b hb => ⟨(hf b hb).2.2.2.1, (hf b hb).2.1, (hf b hb).2.2.2.2.1, (hf b hb).2.2.2.2.2⟩) (fun b o _ _ hc e _ => k b o hc e) (fun b o _ _ hc e _ => ⟨o.slots, k b o hc e⟩)
    (fun b o _ e n => ?_) (fun b o hc e => ⟨o, k b o hc e⟩) (fun b xs e => ?_) (fun b o u e => ?_) (fun b ps e => ⟨#[], ?_⟩) (fun m hm => ?_) (fun b u e => ?_) I.bareS
  · rw [upd_ne (Nat.ne_of_lt (Nat.lt_of_lt_of_le (Heap.lt_size e) hT))]; exact n
  · rw [upd_ne (ne_of_none e hn)]; exact e
  · rw [upd_ne (ne_of_none e hn)]; exact e
  · rw [upd_ne (ne_of_none e hn), e]; simp
  · obtain ⟨o, es, ep, ho, r⟩ := hm
    exact ⟨o, es, ep, k _ o (fun z => (hf _ z).2.1 rfl) ho, r⟩
  · by_cases hb : b = T
    · subst hb
      rw [upd_same] at e
      cases e
      exact new
    · rw [upd_ne hb] at e
      refine (I.hok b u e).stay (fun c v hc q => k c v ?_ q) (fun c q => by rw [upd_ne (ne_of_none q hn)]; exact q) fun c xs q => by rw [upd_ne (ne_of_none q hn)]; exact q
      rcases hc with z | z
      · rw [z]; exact nit b u e
      · exact nit c _ z

end
section
variable {X : Cx}
theorem pi_one {tg : Expr} {pins : List (Addr × Obj)} {σ : St} {H : Hp} {s : Shared} {R : It → Hp → Prop} {J : It} {tn : Nat → Heap → Prop} {tk : Nat} (I : Inv X pins σ H s) (o : Obj)
    (T : Turn X.prog X.w X.K tg J [s.heap.objs.size] s.heap.objs.size tn) (st : tn 0 (s.heap.push o)) (q : R J H) : PIE X pins σ tg R (.ref s.heap.objs.size) { s with heap := s.heap.push o, toks := tk } := by
  refine ⟨s.heap.objs.size, [s.heap.objs.size], tn, J, H, rfl, I.kept fun b ob e => Heap.get?_push_of_some _ e, T, st, fun b hb => ?_, q⟩
  have e : b = s.heap.objs.size := by simpa using hb
  subst e
  exact I.fpOk (Nat.le_refl _) (I.hok.fresh (Nat.le_refl _))
end

/-- lo, lo + c, .. (n of them) -/
def Itc (lo c : Int) (n : Nat) : It := ⟨fun i _ => i < n, fun i H x H' => H' = H ∧ x = .int (lo + (i : Nat) * c), fun i _ => n ≤ i⟩
theorem turn_rangeC {P : Program} {w : World} {K : PySem.W.Frag} {tg : Expr} (it : Addr) (lo c : Int) (n : Nat) : Turn P w K tg (Itc lo c n) [it] it (fun i h => IsRangeIter h it (lo + (i : Nat) * c) ((n : Int) - (i : Nat)) c) where
  mem := by simp
  obj := fun i h st b hb => by
    have e : b = it := by simpa using hb
    subst e
    exact ⟨_, st, fun v z => nomatch z⟩
  keep := fun i h h' st k => k it (by simp) _ st
  item := by
    intro X hP hw hK hc i pins s σ H E I hf st hg
    subst hP hw hK
    obtain ⟨f0, f1, f2, f3, f4, f5⟩ := hf it (by simp)
    have W := Walks.range (prog := X.prog) (w := X.w) (I.ok.hd hc) it lo c n
    refine W.item i s _ _ hg st fun v h' tk hv st' kk => ?_
    obtain ⟨t, rfl⟩ := hv
    have I1 : Inv X pins σ H { s with heap := h', toks := tk } := I.turned (fun b o hb e => kk b o (by simpa using hb) e) f0 f1 f3 f4 f5
    exact ⟨_, rfl, go_of (s := { s with heap := h', toks := tk }) (n := "range_iterator") st' rfl rfl (by decide) ⟨.int (lo + (i : Nat) * c), H, I1, ⟨t, rfl⟩, ⟨rfl, rfl⟩, st', fun b hb => (hf b hb).1⟩⟩
  done := by
    intro X hP hw hK hc i pins s σ H E I hf st hg
    subst hP hw hK
    obtain ⟨f0, f1, f2, f3, f4, f5⟩ := hf it (by simp)
    exact wpAny_pyNext_range_end (I.ok.hd hc) st (by have : n ≤ i := hg; omega) fun h' eb => ⟨rfl, I.turned (t' := s.toks) (fun b o hb e => eb b o hb e) f0 f1 f3 f4 f5⟩
  self := fun A i s Q E st h => wpAny_pyIter_rangeiter st h
section
variable {X : Cx} {tg : Expr}
end
/-- the turns of a step range, for the for loop -/
theorem for_rangeC {lo c : Int} {n : Nat} {g : TG} {tb : TS} {D : Ends} {σ : St} {H : Hp} (Pv : Nat → St → Hp → Prop) (h0 : Pv 0 σ H)
    (hs : ∀ i σ H, i < n → Pv i σ H → g (.int (lo + (i : Nat) * c)) σ H fun σ2 H2 => tb { D with nx := Pv (i + 1), ct := Pv (i + 1), bk := D.nx } σ2 H2) (hd : ∀ σ H, Pv n σ H → D.nx σ H) :
    ∃ W : Nat → Nat → St → Hp → Prop, (∃ m, W 0 m σ H) ∧ ∀ i m σ H, W i m σ H →
      ((Itc lo c n).stop i H ∧ D.nx σ H) ∨ ((Itc lo c n).go i H ∧ ∃ N : St → Hp → Prop, (∀ σ' H', N σ' H' → ∃ m', m' < m ∧ W (i + 1) m' σ' H') ∧ ∀ x H', (Itc lo c n).yld i H x H' → g x σ H' fun σ2 H2 => tb { D with nx := N, ct := N, bk := D.nx } σ2 H2) := by
  refine ⟨fun i m σ H => m = n - i ∧ i ≤ n ∧ Pv i σ H, ⟨n, by simp, Nat.zero_le _, h0⟩, ?_⟩
  rintro i m σ H ⟨rfl, hi, p⟩
  by_cases hlt : i < n
  · refine .inr ⟨hlt, Pv (i + 1), fun σ' H' p' => ⟨n - (i + 1), by omega, rfl, hlt, p'⟩, fun x H' y => ?_⟩
    obtain ⟨e, y⟩ := y
    subst e y
    exact hs i σ _ hlt p
  · have e : i = n := by omega
    subst e
    exact .inl ⟨Nat.le_refl _, hd σ H p⟩

section
variable {X : Cx} {tg : Expr}
end

section
variable {prog : Program} {w : World} {A : Around} {E : Value → Shared → Prop} {s : Shared}
end

section
variable {X : Cx} {pins : List (Addr × Obj)} {σ : St} {H : Hp} {s : Shared} {d : Addr} {o : Obj}
end

section
variable {P : Program} {w : World} {K : PySem.W.Frag} {tg : Expr} {d : Addr} {o : Obj} {es : Array DictEntry} {ep : Nat}
end

section
variable {X : Cx} {tg e : Expr} {td : TE} {apos cpos : Pos}
end

/-- the list at a as it stands at each turn, each item in a new pair -/
def Ite (K : PySem.W.Frag) (a : Addr) : It :=
  ⟨fun i H => ∃ (xs : List V) (x : V), SqL K H a xs ∧ xs[i]? = some x, fun i H v H' => ∃ T x, v = .ref T ∧ H T = none ∧ H' = upd H T (.tup [.int (i : Nat), x]) ∧ ∀ xs, SqL K H a xs → xs[i]? = some x, fun i H => ∃ xs : List V, SqL K H a xs ∧ xs.length ≤ i⟩
theorem turn_enum {P : Program} {w : World} {K : PySem.W.Frag} {elts : List Expr} {kk : Nat} {tpos : Pos} (a e it : Addr) :
    Turn P w K (.Tuple elts kk tpos) (Ite K a) [e, it] e (fun i h => (∃ old, IsEnum h e it ((i : Nat) : Int) old) ∧ h.IsListIter it a i ∧ e ≠ it) where
  mem := by simp
  obj := fun i h st b hb => by
    obtain ⟨⟨old, he⟩, ⟨o, ho, hc, hd⟩, _⟩ := st
    have e' : b = e ∨ b = it := by simpa using hb
    rcases e' with z | z
    · rw [z]; exact ⟨_, he, fun v q => nomatch q⟩
    · rw [z]; exact ⟨o, ho, fun v q => by rw [hd] at q; cases q⟩
  keep := fun i h h' st k => let ⟨⟨old, he⟩, hi, hne⟩ := st; ⟨⟨old, k e (by simp) _ he⟩, hi.at fun o q => k it (by simp) o q, hne⟩
  item := by
    intro X hP hw hK hc i pins s σ H E I hf st hg
    subst hP hw hK
    obtain ⟨⟨old, he⟩, hit, hne⟩ := st
    obtain ⟨xs, x, hq, hx⟩ := hg
    obtain ⟨its, rv, p, hz⟩ := I.list hq
    obtain ⟨u, hu, ru⟩ := rv.get hx
    have hel : e < s.heap.objs.size := Heap.lt_size he
    have hil : it < s.heap.objs.size := by obtain ⟨_, q, _⟩ := hit; exact Heap.lt_size q
    refine wpAny_pyNext_enum_item he hit p.isList (x := u) (by simpa using hu) hne fun h' ho hit' hT hsz hk => ?_
    refine ⟨_, rfl, wpAny_letOwnedTupleGo_enum (s := { s with heap := h', toks := s.toks + 1 }) ho fun h'' he' sb => ?_⟩
    have hT2 : h''.get? s.heap.objs.size = some { cls := .type "tuple", data := .seq #[.int i s.toks, u] } := (sb.2 _ (Nat.ne_of_gt hel)).trans hT
    have new : ObjOk X.prog X.w (upd H s.heap.objs.size (.tup [.int (i : Nat), x])) h'' s.heap.objs.size (.tup [.int (i : Nat), x]) :=
      ⟨by show 2 ≤ sizeLine; decide, [.int i s.toks, u], .cons ⟨_, rfl⟩ (.cons ru .nil), ⟨_, hT2, rfl, _, rfl⟩⟩
    have I1 : Inv X pins σ (upd H s.heap.objs.size (.tup [.int (i : Nat), x])) { s with heap := h'', toks := s.toks + 1 } :=
      I.turnedNew (ch := [e, it]) (fun b ob hb q => (sb.2 b (fun z => hb (by simp [z]))).trans (hk b ob (fun z => hb (by simp [z])) (fun z => hb (by simp [z])) q)) hf (Nat.le_refl _) new
    refine ⟨.ref s.heap.objs.size, _, I1, rfl, ⟨_, x, rfl, I.hok.fresh (Nat.le_refl _), rfl, fun ys hy => by rw [I.list_inj hy hq]; exact hx⟩, ⟨⟨u, ?_⟩, hit'.at fun o q => (sb.2 it (Ne.symm hne)).trans q, hne⟩, fun b hb => ?_⟩
    · have e1 : ((i + 1 : Nat) : Int) = (i : Int) + 1 := by omega
      rw [e1]; exact he'
    · have hb' : b < s.heap.objs.size := by
        have e' : b = e ∨ b = it := by simpa using hb
        rcases e' with z | z
        · rw [z]; exact hel
        · rw [z]; exact hil
      rw [upd_ne (Nat.ne_of_lt hb')]
      exact (hf b hb).1
  done := by
    intro X hP hw hK hc i pins s σ H E I hf st hg
    subst hP hw hK
    obtain ⟨⟨old, he⟩, hit, hne⟩ := st
    obtain ⟨xs, hq, hx⟩ := hg
    obtain ⟨its, rv, p, hz⟩ := I.list hq
    obtain ⟨f0, f1, f2, f3, f4, f5⟩ := hf it (by simp)
    have hl := rv.length
    exact wpAny_pyNext_enum_end (I.ok.hd hc) he hit p.isList (by simp; omega) fun h' eb => ⟨rfl, I.turned (t' := s.toks) (fun b o hb q => eb b o hb q) f0 f1 f3 f4 f5⟩
  self := fun A i s Q E st h => let ⟨⟨_, he⟩, _⟩ := st; wpAny_pyIter_enum he h
def iEnum (K : PySem.W.Frag) (ta : TA) : TI := fun σ H R => ta σ H fun vs H1 => ∃ a xs, vs = [.ref a] ∧ SqL K H1 a xs ∧ R (Ite K a) H1
theorem pi_enum {X : Cx} {e : Expr} {ta : TA} {p pos tpos : Pos} {elts : List Expr} {kk : Nat} (hg : Gl X "enumerate") (hm : X.mg "enumerate" = none) (ha : PA X [e] ta) (hs : starEach [e] X.env = [(false, eval e X.env)] := by rfl) :
    PI X (.Tuple elts kk tpos) (.Call (.Name "enumerate" p) [e] [] pos) (iEnum X.K ta) := by
  intro pins s σ H R I h
  refine Call_ (ld_blt I hg hm boot_enumerate (PyProof.Rows.callWith_type1 (thn (ha pos pins s σ H _ I h) fun us s1 ⟨vs, H1, I1, r1, q1⟩ => ?_) hs rfl))
  obtain ⟨a, xs, ex, hq, q⟩ := q1
  subst ex
  cases r1 with
  | cons r rr =>
    cases rr
    cases r
    obtain ⟨its, rv, p', hz⟩ := I1.list hq
    refine call_enumerate_list p'.isList fun h' he hit hsz hk => wpAny_pyIter_enum he ?_
    have I2 : Inv X pins σ H1 { s1 with heap := h' } := I1.kept (t' := s1.toks) hk
    refine ⟨s1.heap.objs.size + 1, [s1.heap.objs.size + 1, s1.heap.objs.size], _, _, H1, rfl, I2, turn_enum a (s1.heap.objs.size + 1) s1.heap.objs.size, ⟨⟨.none, he⟩, hit, Nat.succ_ne_self _⟩, fun b hb => ?_, q⟩
    have e' : b = s1.heap.objs.size + 1 ∨ b = s1.heap.objs.size := by simpa using hb
    have hle : s1.heap.objs.size ≤ b := by
      rcases e' with z | z
      · rw [z]; exact Nat.le_add_right _ _
      · rw [z]; exact Nat.le_refl _
    exact I1.fpOk hle (I1.hok.fresh hle)
theorem boot_zip5 : bootBuiltins "zip" = some (.type "zip") := by decide +kernel
end L2

section 
namespace Bits
open PySem PyProof.Rows

end Bits
end 

section 
namespace TL
open PySem PySem.Builtin PySem.Builtin.Str PySem.StrLaws

abbrev tl (x : Str) : List Nat := x.cps.toList
/-- S stands at the head of l -/
def pre (S l : List Nat) : Bool := l.take S.length == S
/-- what stands before the first S, and behind it -/
def par (S : List Nat) : List Nat → List Nat → Option (List Nat × List Nat)
  | _, [] => none
  | acc, c :: r => if pre S (c :: r) = true then some (acc, (c :: r).drop S.length) else par S (acc ++ [c]) r

end TL
end 

namespace L2
open PySem PySem.Spec PyProof.Rows

section
variable {X : Cx} {pins : List (Addr × Obj)} {σ : St} {H : Hp} {s : Shared} {Q : VK}
end

section
variable {X : Cx}

end

section
variable {X : Cx} {o e : Expr} {to te : TE}
end
end L2

namespace L2
open PySem PySem.Spec PyProof.Rows

section
variable {X : Cx}
end

theorem IsPart.raw {v : Value} {o : Option Int} (p : IsPart v o) : ∃ l : Option (Int × Tok), v = partValue l ∧ l.map (·.1) = o := by
  cases p with
  | none => exact ⟨none, rfl, rfl⟩
  | int i t => exact ⟨some (i, t), rfl, rfl⟩

end L2

namespace Att
open PySem PySem.W PySem.Calls PyProof.Rows

theorem ints_of_wellAll {P : Params} {h : Heap} : ∀ (ns : List Int) (vs : List Value), WellAll P h vs (ns.map WData.int) → IntsAre vs ns := by
  intro ns
  induction ns with
  | nil =>
    intro vs w
    rw [List.map_nil] at w
    cases w
    exact .nil
  | cons n ns ih =>
    intro vs w
    rw [List.map_cons] at w
    cases w with
    | cons a b =>
      cases a
      exact .cons _ _ (ih _ b)

theorem script_of {l : OpenLaw} {n : Nat} (hn : l.most = some n) {P : Params} {h : Heap} {args : List WData} {vals : List Value}
    (hpre : l.row.toRowW.claim.pre args = true) (hwl : WellAll P h vals args) :
    ∃ a vs ns, vals = [Value.ref a] ∧ args = [WData.list (ns.map WData.int)] ∧ h.get? a = some { cls := .type "list", data := .seq vs.toArray } ∧ IntsAre vs ns ∧ ns.length ≤ n := by
  have hsh : WShape.hasAll [] args [.list .int] = true := (pre_splitW hpre).1
  have hc : l.pre.holds [] { args := args } = true := (pre_splitW hpre).2
  obtain ⟨d, r, rfl, h1, h2⟩ := hasAllW_cons hsh
  obtain rfl := hasAllW_nil h2
  obtain ⟨xs, rfl, h3⟩ := hasW_list h1
  obtain ⟨ns, rfl⟩ := items_int h3
  have hlen : ns.length ≤ n := by
    unfold OpenLaw.pre at hc
    have h4 : (WTm.not (.lt (.lit (.int (n : Int))) (.len (.arg 0)))).holds [] { args := [.list (ns.map .int)] } = true := by
      have h4 := (holds_andW hc).1
      rw [hn] at h4
      exact h4
    have h5 := condW_of h4 (w_not (w_lt w_lit (w_len_list (w_arg rfl))))
    rw [List.length_map] at h5
    refine Nat.le_of_not_lt fun q => ?_
    have q' : (n : Int) < ((ns.length : Nat) : Int) := by omega
    first
      | (rw [decide_eq_true q'] at h5; exact absurd h5 (by decide))
      | (simp at h5; omega)
  cases hwl with
  | cons w1 w2 =>
    cases w2
    cases w1 with
    | list ho hall => exact ⟨_, _, ns, rfl, rfl, ho, ints_of_wellAll ns _ hall, hlen⟩

theorem post_true (l : OpenLaw) (args : List WData) : l.row.toRowW.claim.post args (.bool true) args = true :=
  postW_of (r := l.row.toRowW) (X := (true == true))
    (show WShape.has [] (.bool true) .bool = true by first | rfl | decide | simp [WShape.has, WShape.arms, WShape.armsAll])
    (show (WTm.eq .res (.lit (.bool true))).value [] { args := args, res := some (.bool true), after := args } = some (.bool (true == true)) from w_eq_bool (w_res rfl) w_lit) rfl

/-- the same from a codeAny of the CALL (for a layer whose function contracts speak of calls) -/
theorem attach_call {l : OpenLaw} {n : Nat} {q : Program} {loose : List Str} {XP : (Str → Option Value) → Heap → Prop} {YP : World → Heap → Prop} {d : DefRec}
    (hn : l.most = some n) (hdf : d.params.defaults = [])
    (call : ∀ (w : World) (s₀ s₁ : Shared) (mg mb : Str → Option Value) (fa : Addr) (o : Obj) (pm cd doc : Value) (a : Addr) (vs : List Value) (ns : List Int),
      Ground q loose [] XP w s₀ mg mb s₁.heap → YP w s₁.heap →
      s₁.heap.get? fa = some o → o.data = .func (docDef d.name d.params d.body d.scope pm cd doc) → s₁.heap.CodeRec cd d.name → mg d.name = some (.ref fa) →
      s₁.heap.get? a = some { cls := .type "list", data := .seq vs.toArray } → IntsAre vs ns → ns.length ≤ n → s₁.gens = #[] →
      codeAny (model l.prog w) callerA (.call (.ref fa) ⟨[.ref a], []⟩) (fun r s' => r = .ok (.ret (.bool true)) ∧ OldK s₁.heap s'.heap ∧ s'.os = s₁.os ∧ AllBare s'.gens) s₁) :
    WalkO q loose XP YP l.row.toRowW d [] (fun f vs => PySem.call f vs) := by
  intro w s₀ s₁ mg mb G Y fa o pm cd doc dV kV ho hd hcd hD hmg hg args vals as hpre hlay hrd hwl hlo
  obtain rfl : dV = .none := Dflts.none hD hdf
  obtain rfl : kV = .none := Dflts.noKw hD
  obtain ⟨a, vs, ns, rfl, rfl, hobj, hints, hlen⟩ := script_of hn hpre hwl
  refine enter_call (codeAny_mono (call w s₀ s₁ mg mb fa o pm cd doc a vs ns G Y ho (fd_plain hd) hcd hmg hobj hints hlen hg) fun r s' hq => ?_)
  obtain ⟨rfl, h2, h3, h4⟩ := hq
  exact ⟨.inl ⟨.bool true, .bool true, [], rfl, fun _ => rfl, .bool true, post_true l _, fun _ => ⟨List.Pairwise.nil, fun _ hm => (nomatch hm)⟩⟩, h2, h3, h4⟩

section
variable {prog : Program} {w : World} {A : Around} {E : Value → Shared → Prop} {s : Shared} {K : Frag}

end
end Att

namespace L2
open PySem PySem.Spec PyProof.Rows

theorem vals_ints : ∀ {vs : List Value} {ns : List Int}, IntsAre vs ns → Vals (ns.map V.int) vs
  | _, _, .nil => .nil
  | _, _, .cons n t h => .cons ⟨t, rfl⟩ (vals_ints h)

/-- nothing is tracked but the script, known to the object (or it is an object of the module) -/
def Only (H : Hp) : Prop := ∀ b, H b = none ∨ (∃ o xs, H b = some (.frz o (.lst xs))) ∨ H b = some (.tbl #[])

/-- THE HEAD, with the tables of the top's defs tracked -/
theorem law_call {P : Program} {w : World} {K : PySem.W.Frag} {mg mb : Str → Option Value} {CX : CXT} {k : Nat} {fa a : Addr} {fd : FuncData} {x : Str} {sp : Sp} {s₁ : Shared} {vs : List Value} {ns : List Int}
    (KX : K.In s₁.heap) (hns : s₁.heap.Ns mainGlobals mg) (hb : s₁.heap.Ns builtinsNs mb) (hbb : ∀ x : Str, x ≠ "__name__" → mb x = bootBuiltins x) (hlim : s₁.heap.NoLimit) (hg : s₁.gens = #[])
    (ha : s₁.heap.get? a = some { cls := .type "list", data := .seq vs.toArray }) (hi : IntsAre vs ns) (hl : ns.length ≤ sizeLine) (hr : Room k callerA)
    (hbm : ∃ bm ob, BMod s₁.heap mainGlobals mg bm ob) (hT : ∀ Pt, TabOf P K mg Pt → K.lookup Pt = none ∧ ∃ c, s₁.heap.TableAt c Pt #[])
    (F : ∀ base : Heap, K.In base → base.Ns mainGlobals mg → FnOk P w K mg base CX k fa fd [x] sp) (hbind : ∀ (s : Shared) (u : Value), BindsTo s fd ⟨[u], []⟩ [(x, u)])
    (hsp : ∀ H : Hp, Only H → SqL K H a (ns.map V.int) → sp [.ref a] H (fun v _ => v = .bl true) fun _ _ _ => False)
    (hCX : ∀ H e s', CX [] H s₁ (fun _ _ _ => False) e s' → False) :
    codeAny (model P w) callerA (.call (.ref fa) ⟨[.ref a], []⟩) (fun r s' => r = .ok (.ret (.bool true)) ∧ OldK s₁.heap s'.heap ∧ s'.os = s₁.os ∧ AllBare s'.gens) s₁ := by
  have rv := vals_ints hi
  have lenV := hi.length
  have noTa : ¬ TabOf P K mg a := fun t => by
    obtain ⟨_, c, _, ht⟩ := hT a t
    rw [ha] at ht
    cases ht
  have core : ∀ H : Hp, Only H → SqL K H a (ns.map V.int) → HOk P w H s₁.heap → (∀ b, H b ≠ none → (b = a ∧ ∃ o xs, H b = some (.frz o (.lst xs))) ∨ (TabOf P K mg b ∧ H b = some (.tbl #[]))) → Tabs P K mg H → (H a ≠ none → K.lookup a = none) →
      codeAny (model P w) callerA (.call (.ref fa) ⟨[.ref a], []⟩) (fun r s' => r = .ok (.ret (.bool true)) ∧ OldK s₁.heap s'.heap ∧ s'.os = s₁.os ∧ AllBare s'.gens) s₁ := by
    intro H hO hS hok hA hTb hK
    have base_of : ∀ {b : Addr} {o : Obj}, s₁.heap.get? b = some o → H b = none → (hidT s₁.heap H).get? b = some o := fun e n => hidT_get e n
    have noA : ∀ {b : Addr} {o : Obj} {es : Array DictEntry} {ep : Nat}, s₁.heap.get? b = some o → o.data = .dict es ep → H b = none := fun {b o es ep} e d => by
      cases q : H b with
      | none => rfl
      | some u =>
        rcases hA b (by rw [q]; simp) with ⟨e', _⟩ | ⟨tb, _⟩
        · subst e'
          rw [ha] at e; cases e
          have d' : Data.seq vs.toArray _ = Data.dict es ep := d
          cases d'
        · obtain ⟨_, c, _, ht⟩ := hT b tb
          rw [ht] at e; cases e
          have d' : Data.fields _ = Data.dict es ep := d
          cases d'
    have nsK : ∀ {b : Addr} {m : Str → Option Value}, s₁.heap.Ns b m → (hidT s₁.heap H).Ns b m := fun {b m} ⟨o, es, ep, e, d, r⟩ => ⟨o, es, ep, base_of e (noA e d), d, r⟩
    have hKb : K.In (hidT s₁.heap H) := fun b o e => base_of (KX b o e) (by
      cases q : H b with
      | none => rfl
      | some u =>
        rcases hA b (by rw [q]; simp) with ⟨e', _⟩ | ⟨tb, _⟩
        · subst e'
          rw [hK (by rw [q]; simp)] at e; cases e
        · rw [(hT b tb).1] at e; cases e)
    have hM : Mod K mg (hidT s₁.heap H) := ⟨hKb, nsK hns, ⟨mb, nsK hb, hbb⟩, let ⟨mc, h1, h2⟩ := hlim; ⟨mc, nsK h1, h2⟩, by
      obtain ⟨bm, ob, M⟩ := hbm
      refine ⟨bm, ob, nsK M.ns, M.name, M.ne, base_of M.obj ?_, M.cls, M.dict, M.data⟩
      cases q : H bm with
      | none => rfl
      | some u =>
        have hob := M.obj
        have hda := M.data
        rcases hA bm (by rw [q]; simp) with ⟨e', _⟩ | ⟨tb, _⟩
        · rw [e', ha] at hob
          cases hob
          cases hda
        · obtain ⟨_, c, _, ht⟩ := hT bm tb
          rw [ht] at hob
          cases hob
          cases hda⟩
    have e0 : Env0 P w K mg (hidT s₁.heap H) callerA [] s₁ H := ⟨rfl, hM, fun b o e => of_hidT e, Nat.le_of_eq (hidT_size _ _), trivial, fun b hb => absurd (show b ∈ ([] : List Addr) from hb) (by simp), hok, .of_eq hg, hTb⟩
    refine codeAny_mono ((F _ hKb (nsK hns)).run callerA [] s₁ H ⟨[.ref a], []⟩ [.ref a] [.ref a] _ _ hr e0 (hbind s₁ (.ref a)) (.cons rfl .nil) (hsp H hO hS)) fun r s' h => ?_
    cases r with
    | error e => exact (hCX H e s' h).elim
    | ok fl =>
      cases fl with
      | next => exact False.elim h
      | brk => exact False.elim h
      | cont => exact False.elim h
      | ret u =>
        obtain ⟨v, H', os, bare, un, hok', r', q⟩ := h
        have q' : v = .bl true := q
        subst q'
        obtain rfl : u = Value.bool true := r'
        refine ⟨rfl, ⟨fun b o e => ?_, fun b o e => un.there b o e (by simp)⟩, os, bare.1⟩
        cases q : H b with
        | none => exact .inl (un.keep b o e q (by intro z; exact absurd (show b ∈ ([] : List Addr) from z) (by simp)) (by simp))
        | some u =>
          rcases hA b (by rw [q]; simp) with ⟨_, ob, xs, z⟩ | ⟨tb, z⟩
          · have z2 := un.frzs b ob _ z
            obtain ⟨e1, _⟩ := hok b _ z
            obtain ⟨e2, _⟩ := hok' b _ z2
            rw [e] at e1; cases e1
            exact .inl e2
          · obtain ⟨_, c, ht⟩ := hT b tb
            obtain ⟨more, z2⟩ := un.tbls b _ z
            have e2 : s'.heap.get? b = some { cls := .none, data := .fields (#[] ++ more) } := (show _ ∧ _ from hok' b _ z2).1
            have eo : o = { cls := .none, data := .fields #[] } := Option.some.inj (e.symm.trans ht.2)
            subst eo
            exact .inr (.inl ⟨ht.isCodeTable, rfl, #[], more, rfl, e2⟩)
  classical
  cases hk : K.lookup a with
  | some o =>
    -- the script is one of the module's own objects
    have e := KX a o hk
    rw [ha] at e
    cases e
    refine core (fun b => if TabOf P K mg b then some (.tbl #[]) else none) (fun b => ?_) (.inr ⟨_, vs.toArray, _, hk, rfl, rfl, rfl, by rw [List.size_toArray, lenV]; exact hl, by simpa using rv⟩) (fun b u z => ?_) (fun b z => ?_) (fun Pt t => ⟨_, if_pos t⟩) fun z => absurd (if_neg noTa) z
    · by_cases hb : TabOf P K mg b
      · exact .inr (.inr (if_pos hb))
      · exact .inl (if_neg hb)
    · by_cases hb : TabOf P K mg b
      · have z' := (if_pos hb).symm.trans z
        cases z'
        obtain ⟨_, c, ht⟩ := hT b hb
        exact ⟨ht.2, trivial⟩
      · have z' := (if_neg hb).symm.trans z
        cases z'
    · by_cases hb : TabOf P K mg b
      · exact .inr ⟨hb, if_pos hb⟩
      · exact absurd (if_neg hb) z
  | none =>
    refine core (fun b => if b = a then some (.frz { cls := .type "list", data := .seq vs.toArray } (.lst (ns.map V.int))) else if TabOf P K mg b then some (.tbl #[]) else none) (fun b => ?_) (.inl (.inr ⟨{ cls := .type "list", data := .seq vs.toArray }, if_pos rfl⟩)) (fun b u z => ?_) (fun b z => ?_)
      (fun Pt t => ⟨#[], by show (if Pt = a then _ else if TabOf P K mg Pt then _ else _) = _; rw [if_neg (show ¬ Pt = a from fun z => noTa (by rw [← z]; exact t)), if_pos t]⟩) fun _ => hk
    · by_cases hb : b = a
      · exact .inr (.inl ⟨_, _, if_pos hb⟩)
      · by_cases ht : TabOf P K mg b
        · exact .inr (.inr ((if_neg hb).trans (if_pos ht)))
        · exact .inl ((if_neg hb).trans (if_neg ht))
    · by_cases hb : b = a
      · have z' := (if_pos hb).symm.trans z
        cases z'
        subst hb
        exact ⟨ha, by rw [List.length_map]; exact hl, vs, _, rv, ha⟩
      · by_cases ht : TabOf P K mg b
        · have z' := ((if_neg hb).trans (if_pos ht)).symm.trans z
          cases z'
          obtain ⟨_, c, ht⟩ := hT b ht
          exact ⟨ht.2, trivial⟩
        · have z' := ((if_neg hb).trans (if_neg ht)).symm.trans z
          cases z'
    · by_cases hb : b = a
      · exact .inl ⟨hb, _, _, if_pos hb⟩
      · by_cases ht : TabOf P K mg b
        · exact .inr ⟨ht, (if_neg hb).trans (if_pos ht)⟩
        · exact absurd ((if_neg hb).trans (if_neg ht)) z
end L2

namespace L2
open PySem PySem.Spec PyProof.Rows

/-- the tables at the law's entry -/
theorem tabs_at {l q : Program} {loose : List Str} {R : PySem.W.WRecords} {XP : (Str → Option Value) → Heap → Prop} {w : World} {s₀ : Shared} {mg mb : Str → Option Value} {h : Heap} {K : PySem.W.Frag} (G : PySem.W.Ground q loose R XP w s₀ mg mb h)
    (KX : K.In h) (hq : recsOf l = recsOf q) (hcl : PySem.W.kb_classed K = true) : ∀ Pt, TabOf l K mg Pt → K.lookup Pt = none ∧ ∃ c, h.TableAt c Pt #[] := by
  rintro Pt ⟨d, hd, f, o, fd, c, oc, vs, h1, h2, h3, h4, h5, h6, h7⟩
  rw [hq] at hd
  obtain ⟨a', o', fd', c', P', t1, t2, t3, t4, t5, t6⟩ := G.T.tab d hd
  rw [h1] at t1
  cases t1
  have e1 := KX _ _ h2
  rw [t2] at e1
  cases e1
  rw [h3] at t3
  cases t3
  rw [h4] at t4
  cases t4
  obtain ⟨oq, vq, _, _, _, _, _, _, _, _, g1, g2, g3, _⟩ := t5
  have e2 := KX _ _ h5
  rw [g1] at e2
  cases e2
  rw [h6] at g2
  cases g2
  rw [h7] at g3
  cases g3
  refine ⟨?_, c, t6⟩
  cases hk : K.lookup Pt with
  | none => rfl
  | some op =>
    exfalso
    have e3 := KX _ _ hk
    have q := List.all_eq_true.mp hcl (Pt, op) (PySem.W.kb_mem hk)
    simp only [Bool.or_eq_true, decide_eq_true_eq, beq_iff_eq] at q
    have e4 := t6.2
    rw [e3] at e4
    cases e4
    rcases q with (q | q) | q
    · exact q rfl
    · obtain ⟨mc, ⟨ox, es, ep, n1, n2, _⟩, _⟩ := G.T.nodigits
      rw [← q, e3] at n1
      cases n1
      cases n2
    · obtain ⟨ox, es, ep, n1, n2, _⟩ := G.T.g
      rw [← q, e3] at n1
      cases n1
      cases n2
/-- the goal that k_head leaves, from the law's promise -/
theorem walk_of {l : PySem.W.OpenLaw} {n k : Nat} {q : Program} {loose : List Str} {XP : (Str → Option Value) → Heap → Prop} {YP : World → Heap → Prop} {d : DefRec} {K : Params → PySem.W.Frag} {CX : World → CXT} {sp : World → Sp} {x : Str}
    (hn : l.most = some n) (hn2 : n ≤ sizeLine) (hdf : d.params.defaults = []) (hr : Room k callerA)
    (hq : recsOf l.prog = recsOf q) (hcl : ∀ w : World, PySem.W.kb_classed (K w.params) = true)
    (hY : ∀ (w : World) (h : Heap), YP w h → (K w.params).In h)
    (F : ∀ (w : World) (mg : Str → Option Value) (fa : Addr) (h : Heap), (K w.params).In h → h.Ns mainGlobals mg → mg d.name = some (.ref fa) →
      ∃ fd : FuncData, (∀ (s : Shared) (u : Value), BindsTo s fd ⟨[u], []⟩ [(x, u)]) ∧
        ∀ base : Heap, (K w.params).In base → base.Ns mainGlobals mg → FnOk l.prog w (K w.params) mg base (CX w) k fa fd [x] (sp w))
    (hsp : ∀ (w : World) (H : Hp) (a : Addr) (ns : List Int), ns.length ≤ n → Only H → SqL (K w.params) H a (ns.map V.int) → sp w [.ref a] H (fun v _ => v = .bl true) fun _ _ _ => False)
    (hCX : ∀ (w : World) (H : Hp) (s : Shared) (e : Value) (s' : Shared), CX w [] H s (fun _ _ _ => False) e s' → False) :
    PySem.W.WalkO q loose XP YP l.row.toRowW d [] (fun f vs => PySem.call f vs) := by
  refine Att.attach_call hn hdf fun w s₀ s₁ mg mb fa o pm cd doc a vs ns G Y ho hd hcd hmg hobj hints hlen hg => ?_
  have KX := hY w _ Y
  obtain ⟨fd, hb, hF⟩ := F w mg fa _ KX G.T.g hmg
  exact law_call KX G.T.g G.T.b G.T.builtins G.T.nolimit hg hobj hints (Nat.le_trans hlen hn2) hr (PySem.W.bmod_of_top G.T) (tabs_at G KX hq (hcl w)) hF hb (fun H hO hS => hsp w H a ns hlen hO hS) fun H e s' => hCX w H s₁ e s'
end L2


namespace L2
open PySem PySem.Spec PyProof.Rows

/-- the j-th statement of a class's body -/
def inClass (s : Stmt) (j : Nat) : Stmt := match s with
  | .ClassDef _ _ _ body _ _ _ _ _ _ _ => body.getD j (.Pass ⟨0, 0, 0, 0⟩)
  | _ => .Pass ⟨0, 0, 0, 0⟩
def defArgs (s : Stmt) : Arguments := match s with
  | .FunctionDef _ a _ _ _ _ _ _ _ _ => a
  | _ => { posonlyargs := [], args := [], vararg := none, kwonlyargs := [], kw_defaults := [], kwarg := none, defaults := [] }
def defBody (s : Stmt) : List Stmt := match s with
  | .FunctionDef _ _ b _ _ _ _ _ _ _ => b
  | _ => []
def defScope (s : Stmt) : Scope := match s with
  | .FunctionDef _ _ _ _ _ _ sc _ _ _ => sc
  | _ => { kind := .function, names := [], isGenerator := false, isCoroutine := false }

abbrev CX0 : CXT := fun _ _ _ _ _ _ => False
abbrev E0 : XK := fun _ _ _ => False
theorem pass0 {X : Cx} : Passes CX0 X E0 := fun _ _ _ _ _ _ _ h => h.elim

structure Fun (K : PySem.W.Frag) (x qual : Str) (st : Stmt) (f : Addr) (fd : FuncData) : Prop where
  ex : ∃ (oc : Value) (od : Option Addr) (kV doc pm : Value) (an : Option Addr) (cdv ct : Value) (osl : Array (Option Value)),
    fd = PySem.W.fnOf x qual (defArgs st) (defBody st) (defScope st) .none kV doc pm an cdv ct ∧ K.lookup f = some ⟨oc, od, .func fd, osl⟩ ∧ PySem.W.codeIn K cdv qual = true
  kp : PySem.W.keepIn K (.ref f) = true
section
variable {P : Program} {w : World} {K : PySem.W.Frag} {mg : Str → Option Value} {base : Heap}
/-- THE RULE for a def: its body as a term of rules, and the reading of that term -/
theorem Fun.ok {x qual : Str} {st : Stmt} {f : Addr} {fd : FuncData} {N ps : List Str} {k : Nat} {sp : Sp} (F : Fun K x qual st f fd) (S : FnScope N ps (defScope st)) (len : ∀ vs H Q E, sp vs H Q E → vs.length = ps.length)
    (hbody : ∀ (cdv : Value) (A : Around) (outer : List Env) (s : Shared) (H : Hp) (vs : List V) (Q : VK) (E : XK), Room k (A.deeper (envOfC qual (defScope st) s.heap.objs.size f cdv)) → sp vs H Q E →
      ∃ t, PSs (cxOf CX0 P w K mg base N qual (defScope st) f cdv A outer s H E).nox (defBody st) t ∧ t { nx := fun _ H' => Q .non H', rt := Q } (start N vs) H) : FnOk P w K mg base CX0 (k + 1) f fd ps sp := by
  obtain ⟨oc, od, kV, doc, pm, an, cdv, ct, osl, rfl, lk, hcd⟩ := F.ex
  refine fn_of lk hcd S len fun A outer s H vs Q E hr hsp => ?_
  obtain ⟨t, h, q⟩ := hbody cdv A outer s H vs Q E hr hsp
  exact ⟨t, h.nox, q⟩
/-- how its arguments bind (no defaults): h is «fun _ _ _ _ _ _ us hl => match us, hl with | [_, _], _ => rfl», one _ a parameter -/
theorem Fun.binds {x qual : Str} {st : Stmt} {f : Addr} {fd : FuncData} {ps : List Str} (F : Fun K x qual st f fd)
    (h : ∀ (kV doc pm : Value) (an : Option Addr) (cdv ct : Value) (us : List Value), us.length = ps.length → bindArgs (PySem.W.fnOf x qual (defArgs st) (defBody st) (defScope st) .none kV doc pm an cdv ct) ⟨us, []⟩ = pure (ps.zip us)) : Binds K fd ps [] := by
  obtain ⟨oc, od, kV, doc, pm, an, cdv, ct, osl, rfl, lk, hcd⟩ := F.ex
  exact .all (h kV doc pm an cdv ct)
theorem fun_mk {x qual : Str} {st : Stmt} {f : Addr} {oc : Value} {od an : Option Addr} {osl : Array (Option Value)} {kV doc pm cdv ct : Value} (l : K.lookup f = some ⟨oc, od, .func (PySem.W.fnOf x qual (defArgs st) (defBody st) (defScope st) .none kV doc pm an cdv ct), osl⟩)
    (c : PySem.W.codeIn K cdv qual = true) (k : PySem.W.keepIn K (.ref f) = true) : Fun K x qual st f (PySem.W.fnOf x qual (defArgs st) (defBody st) (defScope st) .none kV doc pm an cdv ct) := ⟨⟨oc, od, kV, doc, pm, an, cdv, ct, osl, rfl, l, c⟩, k⟩
end
theorem small1000 {n : Nat} (h : n ≤ 1000) : n < sizeLine := Nat.lt_of_le_of_lt h (by decide)

section
variable {X : Cx}
theorem pv (i : Nat) {x : Str} {pos : Pos} (hN : X.N[i]? = some x := by rfl) (hv : Vis X.env.scope x := by first | exact Or.inl rfl | exact Or.inr (Or.inl rfl) | exact Or.inr (Or.inr rfl)) (hd : (x == ("__debug__" : Str)) = false := by decide)
    (hcd : (x == ("__classdict__" : Str)) = false := by decide) : PE X (.Name x pos) (tVar i) := pe_var hN hv hd hcd
end

theorem ite2 {c A B : Prop} [Decidable c] (h1 : c → A) (h2 : ¬ c → B) : if c then A else B := by
  by_cases h : c
  · rw [if_pos h]
    exact h1 h
  · rw [if_neg h]
    exact h2 h
/-- all that was tracked is as it was -/
def SamO (o : HO) (x : Option HO) : Prop := match o with | .tbl _ => ∃ qs, x = some (.tbl qs) | o => x = some o
theorem SamO.refl (o : HO) : SamO o (some o) := by cases o <;> first | rfl | exact ⟨_, rfl⟩
theorem SamO.of {o : HO} {x : Option HO} (h : x = some o) : SamO o x := by rw [h]; exact SamO.refl o
theorem SamO.some {o : HO} {x : Option HO} (h : SamO o x) : ∃ u, x = some u := by cases o <;> first | exact ⟨_, h⟩ | exact let ⟨_, e⟩ := h; ⟨_, e⟩
theorem SamO.ne {o : HO} {H : Hp} {c p : Addr} (h : SamO o (H c)) (f : H p = none) : c ≠ p := fun z => by
  obtain ⟨u, e⟩ := h.some
  rw [z, f] at e
  cases e
/-- all that was tracked is as it was (code tables may have grown) -/
def Same (H H' : Hp) : Prop := ∀ b o, H b = some o → SamO o (H' b)
theorem Same.ap {H H' : Hp} (s : Same H H') {c : Addr} {o : HO} (h : SamO o (H c)) : SamO o (H' c) := by
  cases o <;> first
    | exact s c _ h
    | (obtain ⟨qs, e⟩ := h; have z : ∃ r, H' c = Option.some (.tbl r) := s c (.tbl qs) e; exact z)
theorem Same.refl (H : Hp) : Same H H := fun _ _ h => SamO.of h
theorem Same.trans {H H1 H2 : Hp} (a : Same H H1) (b : Same H1 H2) : Same H H2 := fun c o h => b.ap (a c o h)
theorem Same.free {H H' : Hp} (e : Same H H') {l : Addr} (h : H' l = Option.none) : H l = Option.none := by
  cases q : H l with
  | none => rfl
  | some o =>
    obtain ⟨u, z⟩ := (e l o q).some
    rw [z] at h
    cases h
theorem Same.tb {H : Hp} {p : Addr} {ps qs : Array Value} (h : H p = Option.some (.tbl ps)) : Same H (upd H p (.tbl qs)) := fun b o e => by
  by_cases hb : b = p
  · subst hb
    rw [h] at e
    cases e
    exact ⟨qs, upd_same⟩
  · rw [upd_ne hb]
    exact SamO.of e
theorem Same.seq {K : PySem.W.Frag} {H H' : Hp} {a : Addr} {xs : List V} (e : Same H H') (h : SqL K H a xs) : SqL K H' a xs := by
  rcases h with (h | ⟨o, h⟩) | h
  · exact .inl (.inl (e _ _ h))
  · exact .inl (.inr ⟨o, e _ _ h⟩)
  · exact .inr h

section
variable {κ : Type} [DecidableEq κ]
end
theorem at_of {xs : List V} {z : Int} {j : Nat} {v : V} (e : z = (j : Int)) (h : xs[j]? = some v) : atI xs z = some v := by
  rw [e]
  exact atI_nat h
/-- a new instance and its __init__ leave all that was tracked as it was -/
theorem Same.made {H H1 : Hp} {x dx C : Addr} (nx : H x = Option.none) (nd : H dx = Option.none) (k : ∀ b o, (upd (upd H dx (.own x)) x (.ins C dx [])) b = some o → b ≠ x → H1 b = some o) : Same H H1 := fun b o e => SamO.of <|
  k b o (by rw [upd_ne (ne_of_none e nx), upd_ne (ne_of_none e nd)]; exact e) (ne_of_none e nx)
end L2

set_option Elab.async false
set_option linter.all false
set_option maxRecDepth 100000
set_option maxHeartbeats 4000000
namespace L2
open PySem PySem.Spec PyProof.Rows

section
variable {X : Cx}
def rSortedA (K : PySem.W.Frag) : List V → Hp → VK → Prop := fun vs H Q => ∃ (a : Addr) (ns : List Int), vs = [V.ref a] ∧ SqL K H a (ns.map V.int) ∧
  ∀ (ns' : List Int) (p : Addr), ns'.Perm ns → ns'.Pairwise (· ≤ ·) → H p = none → Q (.ref p) (upd H p (.lst (ns'.map V.int)))
theorem cr_sortedA : CallR X (.builtin "sorted") (rSortedA X.K) := by
  intro pins s σ H vs us Q I r h
  obtain ⟨a, ns, rfl, hs, q⟩ := h
  obtain ⟨its, rv, hl, hz⟩ := I.list hs
  rw [Vals.ref1 r]
  have hi := rv.ints
  have hz' : ns.length ≤ sizeLine := by simpa using hz
  refine PyProof.Rows.sorted_intsAny hl.isList hi (by rw [hi.length]; exact hz') fun out ns' h1 h2 h3 => ?_
  obtain ⟨ep, he'⟩ := PyProof.Rows.sortedAll_at s.heap its out
  have hlen : (ns'.map V.int).length ≤ sizeLine := by rw [List.length_map, h2.length_eq]; exact hz'
  exact ⟨.ref _, upd H (s.heap.objs.size + 1) (.lst (ns'.map V.int)), I.laid (t' := s.toks) (fun _ _ => PyProof.Rows.sortedAll_old) (Nat.le_succ _) ⟨hlen, out.toList, ep, vals_of_ints h1, he'⟩, rfl, q ns' _ h2 h3 (I.hok.fresh (Nat.le_succ _))⟩

def tRevL (K : PySem.W.Frag) (te : TE) : TE := fun σ H Q => te σ H fun x H1 => ∃ a xs, x = .ref a ∧ SqL K H1 a xs ∧ ∀ p, H1 p = none → Q (.ref p) (upd H1 p (.lst xs.reverse))
theorem pe_rev {e : Expr} {te : TE} {j : Nat} {p1 p2 p3 pos : Pos} (he : PE X e te) : PE X (.Subscript e (.Slice none none (some (.UnaryOp .USub (.Constant (.int 1) j p1) p3)) p2) pos) (tRevL X.K te) := by
  intro pins s σ H Q I h
  refine Subscript_ (thn (he pins s σ H _ I h) fun v s1 ⟨x, H1, I1, r1, q1⟩ => ?_)
  obtain ⟨a, xs, rfl, hx, q⟩ := q1
  cases r1
  refine wpAny_Slice ?_
  rw [evalPart_none]
  refine wpAny_pure (wpAny_pure ?_)
  refine thn (po_some (X := X) (pe_un un_neg pe_int) pins s1 σ H1 (fun o H' => o = some (-1) ∧ H' = H1) I1 ⟨1, rfl, -1, rfl, rfl, rfl⟩) fun u s2 ⟨o, H2, I2, pu, e, eH⟩ => ?_
  subst e
  have eH' : H2 = H1 := eH
  subst eH'
  have I4 : Inv X pins σ H2 { s2 with heap := s2.heap.push { cls := .type "slice", data := .fields #[.none, .none, u] } } := I2.kept (t' := s2.toks) fun b ob q => Heap.get?_push_of_some _ q
  obtain ⟨its, r, ht, hz⟩ := I4.list hx
  have hlen := r.length
  show wpAny (model X.prog X.w) X.A (subscriptTail e (.Slice none none (some (.UnaryOp .USub (.Constant (.int 1) j p1) p3)) p2) (.ref a) (.ref s2.heap.objs.size)) (EP X pins σ Q) X.xe { s2 with heap := s2.heap.push { cls := .type "slice", data := .fields #[.none, .none, u] } }
  refine tail_any (ops := [.ref a, .ref s2.heap.objs.size]) ht.isList.typeIs slot_list_getitem.lookup ?_ (by with_unfolding_all rfl)
  refine wpAny_getItem_list_slice ht.isList (Heap.IsSliceOf.new ..) .none .none pu (by simp) ?_ (by rw [List.size_toArray] <;> omega)
  rw [PySem.W.krv_pick]
  refine ⟨.ref (s2.heap.push { cls := .type "slice", data := .fields #[.none, .none, u] }).objs.size, _, I4.laid (t' := s2.toks) (o := .lst xs.reverse) (fun b ob q => Heap.get?_push_of_some _ q) (Nat.le_refl _) ?_, rfl, q _ (I4.hok.fresh (Nat.le_refl _))⟩
  refine ⟨by rw [List.length_reverse]; exact hz, its.reverse, 0, ?_, Heap.get?_push_size _ rfl⟩
  exact Vals.reverse r

def tChain3 (r r' r'' : R2) (ta tb tc td : TE) : TE := fun σ H Q => ta σ H fun x H1 => tb σ H1 fun y H2 => r x y H2 fun z H3 => ∃ k, z = .bl k ∧
  (if k = true then tc σ H3 fun w' H4 => r' y w' H4 fun z' H5 => ∃ k', z' = .bl k' ∧ (if k' = true then td σ H5 fun u H6 => r'' w' u H6 Q else Q (.bl false) H5) else Q (.bl false) H3)
theorem pe_chain3 {a b c d : Expr} {ta tb tc td : TE} {pos : Pos} {op op' op'' : CmpOp} {r r' r'' : R2} (ho : OpR X (compareOp op) r) (ho' : OpR X (compareOp op') r') (ho'' : OpR X (compareOp op'') r'') (ha : PE X a ta) (hb : PE X b tb) (hc : PE X c tc) (hd : PE X d td)
    (hm : lastMarks [op, op', op''] [b, c, d] = false := by with_unfolding_all rfl) : PE X (.Compare a [op, op', op''] [b, c, d] pos) (tChain3 r r' r'' ta tb tc td) := by
  intro pins s σ H Q I h
  refine Compare_chain (thn (ha pins s σ H _ I h) fun v s1 ⟨x, H1, I1, r1, q1⟩ => chain_link (thn (hb pins s1 σ H1 _ I1 q1) fun u s2 ⟨y, H2, I2, r2, q2⟩ =>
    thn (ho pins s2 σ H2 x y v u _ I2 r1 r2 q2) fun d s3 ⟨z, H3, I3, r3, k, e, q3⟩ => ?_)) hm
  subst e
  cases r3
  refine wpAny_truthy_bool ?_
  cases k with
  | false => exact ite_ff ⟨.bl false, H3, I3, rfl, q3⟩
  | true =>
    refine ite_tt (chain_link (thn (hc pins s3 σ H3 _ I3 q3) fun w' s4 ⟨z', H4, I4, r4, q4⟩ => thn (ho' pins s4 σ H4 y z' u w' _ I4 r2 r4 q4) fun d' s5 ⟨z2, H5, I5, r5, k2, e2, q5⟩ => ?_))
    subst e2
    cases r5
    refine wpAny_truthy_bool ?_
    cases k2 with
    | false => exact ite_ff ⟨.bl false, H5, I5, rfl, q5⟩
    | true => exact ite_tt (chain_last (thn (hd pins s5 σ H5 _ I5 q5) fun w2 s6 ⟨z3, H6, I6, r6, q6⟩ => ho'' pins s6 σ H6 z' z3 w' w2 Q I6 r4 r6 q6))

theorem call_isinst : CallR X (.builtin "isinstance") (fun xs H Q => ∃ x c t b, xs = [x, .ty c] ∧ TyOf X.K H x t ∧ PySem.W.kitOne X.K t (.type c) = some b ∧ Q (.bl b) H) := by
  intro pins s σ H xs us Q I r h
  obtain ⟨x, c, t, b, rfl, ty, e, q⟩ := h
  cases r with
  | cons r rr =>
    cases rr with
    | cons r' rr =>
      cases rr
      cases r'
      exact isinst_ok I r ty e fun tk => ⟨.bl b, H, I.tok tk, rfl, q⟩

end
end L2

set_option Elab.async false
set_option linter.all false
set_option maxRecDepth 100000
set_option maxHeartbeats 4000000
namespace L2
open PySem PySem.Spec PyProof.Rows

def over (H N : Hp) : Hp := fun b => match N b with | some o => some o | none => H b
theorem over_new {H N : Hp} {b : Addr} {o : HO} (h : N b = some o) : over H N b = some o := by unfold over; rw [h]
theorem over_old {H N : Hp} {b : Addr} (h : N b = none) : over H N b = H b := by unfold over; rw [h]
section
variable {X : Cx} {pins : List (Addr × Obj)} {σ : St} {H N : Hp} {s : Shared} {h' : Heap} {t' : Nat}
theorem Inv.laidMany (I : Inv X pins σ H s) (k : ∀ b u, s.heap.get? b = some u → h'.get? b = some u) (hN : ∀ b o, N b = some o → s.heap.objs.size ≤ b)
    (new : ∀ b o, N b = some o → ObjOk X.prog X.w (over H N) h' b o) : Inv X pins σ (over H N) { s with heap := h', toks := t' } := by
  have lt : ∀ b u, H b = some u → b < s.heap.objs.size := fun b u e => by
    rcases Nat.lt_or_ge b s.heap.objs.size with z | z
    · exact z
    · rw [I.hok.fresh z] at e; cases e
  have no : ∀ b, b < s.heap.objs.size → N b = none := fun b hb => by
    cases q : N b with
    | none => rfl
    | some o => exact absurd (hN b o q) (by omega)
  have sm : ∀ b u, H b = some u → over H N b = some u := fun b u e => by rw [over_old (no b (lt b u e))]; exact e
  refine I.un ⟨fun b u q _ _ _ => k b u q, fun b u q _ _ _ => ⟨u.slots, k b u q⟩, fun b u q n _ => by rw [over_old (no b (Heap.lt_size q))]; exact n, fun b u q _ => ⟨u, k b u q⟩,
    fun b xs q => sm b _ q, fun b u xs q => sm b _ q, fun b ps q => ⟨#[], by rw [sm b _ q]; simp⟩⟩ fun b u e => ?_
  cases q : N b with
  | some o =>
    have e' : u = o := Option.some.inj (e.symm.trans (over_new q))
    subst e'
    exact new b u q
  | none =>
    rw [over_old q] at e
    exact (I.hok b u e).stay (fun c v _ r => k c v r) (fun c r => sm c _ r) fun c xs r => sm c _ r
end

abbrev EnO (h : Heap) (e it : Addr) (f0 : Value) (f1 : Bool) (i : Int) (old : Value) : Prop :=
  h.get? e = some { cls := .type "enumerate", dict := none, data := .fields #[f0, .bool f1, .ref it, rawInt i, .none, old], slots := #[] }
/-- the enumerate object at e: its tuple is free, or was handed out and still stands -/
def EnSt (h : Heap) (e it : Addr) (i : Int) : Prop := (∃ old, IsEnum h e it i old) ∨ ∃ (a : Addr) (o : Obj) (f1 : Bool) (old : Value), EnO h e it (rawInt a) f1 i old ∧ h.get? a = some o ∧ a ≠ e ∧ a ≠ it
section
variable {prog : Program} {w : World} {A : Around} {E : Value → Shared → Prop} {s : Shared}
theorem EnSt.obj {h : Heap} {e it : Addr} {i : Int} (x : EnSt h e it i) : ∃ o, h.get? e = some o ∧ o.cls = .type "enumerate" := by
  rcases x with ⟨old, x⟩ | ⟨a, o, f1, old, x, _⟩
  · exact ⟨_, x, rfl⟩
  · exact ⟨_, x, rfl⟩
theorem en_next {e it l : Addr} {i : Nat} {items : Array Value} {x : Value} {Q : Option Value → Shared → Prop}
    (he : EnSt s.heap e it i) (hit : s.heap.IsListIter it l i) (hl : s.heap.IsList l items) (hx : items[i]? = some x) (hne : e ≠ it)
    (hQ : ∀ h', EnSt h' e it ((i : Int) + 1) → h'.IsListIter it l (i + 1) →
      h'.get? s.heap.objs.size = some { cls := .type "tuple", data := .seq #[.int i s.toks, x] } → h'.objs.size = s.heap.objs.size + 1 →
      (∀ b o, b ≠ e → b ≠ it → s.heap.get? b = some o → h'.get? b = some o) → Q (some (.ref s.heap.objs.size)) { s with heap := h', toks := s.toks + 1 }) :
    wpAny (model prog w) A (pyNext (.ref e)) Q E s := by
  rcases he with ⟨old, he⟩ | ⟨a, oa, f1, old, he, ha, hae, hai⟩
  · have hel : e < s.heap.objs.size := Heap.lt_size he
    have hil : it < s.heap.objs.size := by obtain ⟨_, q, _⟩ := hit; exact Heap.lt_size q
    refine wpAny_pyNext_enum_item he hit hl hx hne fun h' ho hit' hT hsz hk => hQ h' (.inr ⟨s.heap.objs.size, _, false, x, ho, hT, Nat.ne_of_gt hel, Nat.ne_of_gt hil⟩) hit' hT hsz hk
  · have hT : s.TypeIs (.ref e) "enumerate" := ⟨_, he, rfl⟩
    unfold pyNext
    refine wpAny_bind (wpAny_attempt (wpAny_callSpecial?_slot (name := Str.ofString "__next__") hT F.slot_enumerate_next
      (wpAny_call_entry F.slot_enumerate_next hT F.entry_enumerate_next ?_ (F.args_enumerate_next_1 _))))
    obtain ⟨hp, g, d, tk, os⟩ := s
    show wpAny _ _ (field (.ref e) 2 >>= _) _ _ _
    refine wpAny_bind (wpAny_field he rfl (x := .ref it) rfl ?_)
    refine wpAny_bind (wpAny_nextOf_list_item hit hl hx fun h₁ hit₁ hs₁ => ?_)
    replace hs₁ : Heap.SameBut it hp h₁ := hs₁
    have he₁ : EnO h₁ e it (rawInt a) f1 i old := (hs₁.2 e hne).trans he
    show wpAny _ _ (field (.ref e) 3 >>= _) _ _ ⟨h₁, g, d, tk, os⟩
    refine wpAny_bind (wpAny_field he₁ rfl (x := rawInt i) rfl ?_)
    show wpAny _ _ (field (.ref e) 4 >>= _) _ _ ⟨h₁, g, d, tk, os⟩
    refine wpAny_bind (wpAny_field he₁ rfl (x := .none) rfl ?_)
    show wpAny _ _ (mkInt i >>= _) _ _ ⟨h₁, g, d, tk, os⟩
    refine wpAny_bind (wpAny_mkInt ?_)
    show wpAny _ _ (setField (.ref e) 3 (rawInt ((i : Int) + 1)) >>= _) _ _ ⟨h₁, g, d, tk + 1, os⟩
    refine wpAny_bind (wpAny_setField_rec he₁ (by simp) fun h₂ he₂ hs₂ => ?_)
    replace hs₂ : Heap.SameBut e h₁ h₂ := hs₂
    replace he₂ : EnO h₂ e it (rawInt a) f1 ((i : Int) + 1) old := he₂
    show wpAny _ _ (setField (.ref e) 4 .none >>= _) _ _ ⟨h₂, g, d, tk + 1, os⟩
    refine wpAny_bind (wpAny_setField_rec he₂ (by simp) fun h₃ he₃ hs₃ => ?_)
    replace hs₃ : Heap.SameBut e h₂ h₃ := hs₃
    replace he₃ : EnO h₃ e it (rawInt a) f1 ((i : Int) + 1) old := he₃
    show wpAny _ _ (newTuple [.int i tk, x] >>= _) _ _ ⟨h₃, g, d, tk + 1, os⟩
    refine wpAny_bind (wpAny_newTuple ?_)
    have he₄ : EnO (h₃.push { cls := .type "tuple", data := .seq #[.int i tk, x] }) e it (rawInt a) f1 ((i : Int) + 1) old := Heap.get?_push_of_some _ he₃
    generalize hh₄ : h₃.push { cls := .type "tuple", data := .seq #[.int i tk, x] } = h₄ at he₄
    have hsz : h₃.objs.size = hp.objs.size := by rw [hs₃.1, hs₂.1, hs₁.1]
    have hel : e < hp.objs.size := Heap.lt_size he
    have ht₄ : h₄.get? hp.objs.size = some { cls := .type "tuple", data := .seq #[.int i tk, x] } := by rw [← hh₄, ← hsz]; exact Heap.get?_push_size _ rfl
    have hz₄ : h₄.objs.size = hp.objs.size + 1 := by rw [← hh₄, Heap.size_push, hsz]
    have hk₄ : ∀ b o, b ≠ e → b ≠ it → hp.get? b = some o → h₄.get? b = some o := fun b o hbe hbi hb => by
      rw [← hh₄]; exact Heap.get?_push_of_some _ (hs₃.extBut b o hbe (hs₂.extBut b o hbe (hs₁.extBut b o hbi hb)))
    have hit₄ : h₄.IsListIter it l (i + 1) := by
      rw [← hh₄]; obtain ⟨o, ho, r⟩ := (hit₁.extBut hs₂.extBut (Ne.symm hne)).extBut hs₃.extBut (Ne.symm hne); exact ⟨o, Heap.get?_push_of_some _ ho, r⟩
    show wpAny _ _ (Builtin.SmallTypes.ownedTupleIsFree (.ref e) >>= _) _ _ ⟨h₄, g, d, tk + 1, os⟩
    rw [hsz]
    have ha₄ : h₄.get? a = some oa := hk₄ a oa hae hai ha
    refine wpAny_bind ?_
    unfold Builtin.SmallTypes.ownedTupleIsFree
    refine wpAny_bind (wpAny_field he₄ rfl (x := rawInt a) rfl ?_)
    show wpAny _ _ (loadIfAlive ((a : Int).toNat) >>= _) _ _ _
    rw [Int.toNat_natCast]
    refine wpAny_bind (PySem.W.kdx_alive ha₄ ?_)
    simp only [Option.isNone_some, Bool.false_eq_true, if_false]
    refine wpAny_bind (wpAny_field he₄ rfl (x := .bool f1) rfl ?_)
    have fin : ∀ h₅ : Heap, EnO h₅ e it (rawInt a) true ((i : Int) + 1) old → Heap.SameBut e h₄ h₅ → Q (some (.ref hp.objs.size)) ⟨h₅, g, d, tk + 1, os⟩ := fun h₅ he₅ hs₅ =>
      hQ h₅ (.inr ⟨a, oa, true, old, he₅, (hs₅.2 a hae).trans ha₄, hae, hai⟩) (hit₄.extBut hs₅.extBut (Ne.symm hne)) (hs₅.extBut _ _ (Nat.ne_of_gt hel) ht₄) (by show h₅.objs.size = hp.objs.size + 1; rw [hs₅.1, hz₄])
        fun b o hbe hbi hb => hs₅.extBut b o hbe (hk₄ b o hbe hbi hb)
    cases f1 with
    | true =>
      rw [if_neg (show ¬ ((Value.bool true != Value.bool true) = true) from Bool.false_ne_true)]
      refine wpAny_pure ?_
      simp only [Bool.false_eq_true, if_false]
      exact wpAny_pure ⟨_, rfl, wpAny_pure (fin h₄ he₄ (Heap.SameBut.refl _ _))⟩
    | false =>
      rw [if_pos (show (Value.bool false != Value.bool true) = true from rfl)]
      refine wpAny_bind (wpAny_setField_rec he₄ (by simp) fun h₅ he₅ hs₅ => ?_)
      replace hs₅ : Heap.SameBut e h₄ h₅ := hs₅
      replace he₅ : EnO h₅ e it (rawInt a) true ((i : Int) + 1) old := he₅
      refine wpAny_pure ?_
      simp only [Bool.false_eq_true, if_false]
      exact wpAny_pure ⟨_, rfl, wpAny_pure (fin h₅ he₅ hs₅)⟩
theorem en_end {e it l : Addr} {i : Nat} {items : Array Value} {Q : Option Value → Shared → Prop} (hh : A.handled = none)
    (he : EnSt s.heap e it i) (hit : s.heap.IsListIter it l i) (hl : s.heap.IsList l items) (hx : items[i]? = none)
    (hQ : ∀ h', Heap.ExtBut it s.heap h' → Q none { s with heap := h' }) : wpAny (model prog w) A (pyNext (.ref e)) Q E s := by
  have go : ∀ f0 f1 old, EnO s.heap e it f0 f1 i old → wpAny (model prog w) A (pyNext (.ref e)) Q E s := fun f0 f1 old he => by
    have hT : s.TypeIs (.ref e) "enumerate" := ⟨_, he, rfl⟩
    unfold pyNext
    refine wpAny_bind (wpAny_attempt (wpAny_callSpecial?_slot (name := Str.ofString "__next__") hT F.slot_enumerate_next
      (wpAny_call_entry F.slot_enumerate_next hT F.entry_enumerate_next ?_ (F.args_enumerate_next_1 _))))
    show wpAny _ _ (field (.ref e) 2 >>= _) _ _ _
    refine wpAny_bind (wpAny_field he rfl (x := .ref it) rfl ?_)
    refine wpAny_bind (wpAny_nextOf_list_end hh hit hl hx fun h' x he' hx' => ?_)
    obtain ⟨o, ho, hc⟩ := hx'
    refine wpAny_bind (wpAny_isInstance (T := "StopIteration") (b := true) ⟨o, ho, hc⟩ isSubtype_stop ?_)
    exact wpAny_pure (hQ _ he')
  rcases he with ⟨old, he⟩ | ⟨a, oa, f1, old, he, _⟩
  · exact go _ _ _ he
  · exact go _ _ _ he

/-- the tuples that stand in acc: the i-th at an address from base on -/
def Prs (base : Nat) (items acc : Array Value) (h : Heap) : Prop :=
  ∀ (j : Nat) (u : Value), acc[j]? = some u → ∃ (T : Addr) (t : Tok) (x : Value), u = .ref T ∧ base ≤ T ∧ items[j]? = some x ∧ h.get? T = some { cls := .type "tuple", data := .seq #[.int j t, x] }
theorem en_loop {R : Result → Shared → Prop} {e it l S : Addr} {items : Array Value} {base : Nat} (hh : A.handled = none) (hne : e ≠ it) (hSe : S ≠ e) (hSi : S ≠ it) (hle : l ≠ e) (hli : l ≠ it) (hlS : l ≠ S) (hbe : e < base) (hbi : it < base) (hbS : S < base) (hn : items.size ≤ sizeLine) (res : Value) :
    ∀ (k i : Nat) (s : Shared) (acc : Array Value) (c : Nat), items.size - i = k → i ≤ items.size → base ≤ s.heap.objs.size → EnSt s.heap e it i → s.heap.IsListIter it l i → s.heap.IsList l items →
    s.heap.get? S = some { cls := .type "list", dict := none, data := .seq acc c, slots := #[] } → acc.size = i → Prs base items acc s.heap →
    (∀ h' tk acc' c', (∀ b o, b ≠ S → b ≠ e → b ≠ it → s.heap.get? b = some o → h'.get? b = some o) → h'.get? S = some { cls := .type "list", dict := none, data := .seq acc' c', slots := #[] } → acc'.size = items.size → Prs base items acc' h' → R (.ok (.ret res)) { s with heap := h', toks := tk }) →
    codeAny (model prog w) A (.builtin "list.extend.loop" ⟨[.ref S, .ref e, res], []⟩) R s := by
  intro k
  induction k with
  | zero =>
    intro i s acc c hk hi hb he hit hl hS hac hp hR
    have hin : i = items.size := by omega
    refine codeAny_builtin F.entry_extend_loop ?_
    rw [Around.under_plainId F.plain_extend_loop _]
    show wpAny _ A.in1 (pyNext (.ref e) >>= _) _ _ s
    refine wpAny_bind (en_end hh he hit hl (Array.getElem?_eq_none (by omega)) fun h' hx => ?_)
    exact wpAny_pure (hR h' s.toks acc c (fun b o b1 b2 b3 q => hx b o b3 q) (hx S _ hSi hS) (by omega) fun j u q => by
      obtain ⟨T, t, x, e1, e2, e3, e4⟩ := hp j u q
      exact ⟨T, t, x, e1, e2, e3, hx T _ (Nat.ne_of_gt (Nat.lt_of_lt_of_le hbi e2)) e4⟩)
  | succ k ih =>
    intro i s acc c hk hi hb he hit hl hS hac hp hR
    have hlt : i < items.size := by omega
    have hx : items[i]? = some items[i] := Array.getElem?_eq_getElem hlt
    refine codeAny_builtin F.entry_extend_loop ?_
    rw [Around.under_plainId F.plain_extend_loop _]
    show wpAny _ A.in1 (pyNext (.ref e) >>= _) _ _ s
    refine wpAny_bind (en_next he hit hl hx hne fun h' he' hit' hT hsz hk' => ?_)
    have hS' : h'.get? S = some { cls := .type "list", dict := none, data := .seq acc c, slots := #[] } := hk' S _ hSe hSi hS
    show wpAny _ A.in1 (updateSeq S (·.push (.ref s.heap.objs.size)) >>= _) _ _ _
    refine wpAny_bind ?_
    have oth : ∀ b o, b ≠ S → h'.get? b = some o → (h'.update S (Obj.mapSeq (·.push (.ref s.heap.objs.size)))).get? b = some o := fun b o hb q => (Heap.get?_update_other _ _ (Ne.symm hb)).trans q
    have hszS : s.heap.objs.size ≠ S := Nat.ne_of_gt (Heap.lt_size hS)
    refine wpAny_updateSeq hS' rfl (wpAny_pure ⟨plainId_quiet F.plain_extend_loop _, ih (i + 1) _ (acc.push (.ref s.heap.objs.size)) _ (by omega) hlt ?_ ?_ ?_ ?_ (Heap.get?_update_self _ hS' rfl) (by rw [Array.size_push, hac]) ?_ ?_⟩)
      (by rw [hac]; omega) (by show (acc.push _).size ≤ sizeLine + 1; rw [Array.size_push, hac]; omega)
    · show base ≤ (h'.update S _).objs.size
      rw [Heap.size_update, hsz]; omega
    · rcases he' with ⟨old, q⟩ | ⟨a, oa, f1, old, q, q1, q2, q3⟩
      · exact .inl ⟨old, oth _ _ (Ne.symm hSe) q⟩
      · by_cases haS : a = S
        · subst haS
          exact .inr ⟨a, _, f1, old, oth _ _ (Ne.symm hSe) q, Heap.get?_update_self _ hS' rfl, q2, q3⟩
        · exact .inr ⟨a, oa, f1, old, oth _ _ (Ne.symm hSe) q, oth _ _ haS q1, q2, q3⟩
    · exact hit'.at fun o q => oth _ o (Ne.symm hSi) q
    · exact (hl.at fun o q => hk' l o hle hli q).at fun o q => oth _ o hlS q
    · intro j u q
      by_cases hj : j = acc.size
      · subst hj
        rw [Array.getElem?_push_size] at q
        have q' := Option.some.inj q
        subst q'
        exact ⟨s.heap.objs.size, s.toks, items[i], rfl, hb, by rw [hac]; exact hx, by rw [hac]; exact oth _ _ hszS hT⟩
      · rw [Array.getElem?_push, if_neg hj] at q
        obtain ⟨T, t, x, e1, e2, e3, e4⟩ := hp j u q
        have hTl := Heap.lt_size e4
        exact ⟨T, t, x, e1, e2, e3, oth _ _ (Nat.ne_of_gt (Nat.lt_of_lt_of_le hbS e2)) (hk' T _ (Nat.ne_of_gt (Nat.lt_of_lt_of_le hbe e2)) (Nat.ne_of_gt (Nat.lt_of_lt_of_le hbi e2)) e4)⟩
    · intro h'' tk acc' c' hk'' hS'' hsz'' hp''
      exact hR h'' tk acc' c' (fun b o b1 b2 b3 q => hk'' b o b1 b2 b3 (oth b o b1 (hk' b o b2 b3 q))) hS'' hsz'' hp''
end
end L2
namespace L2
open PySem PySem.Spec PyProof.Rows
section
variable {prog : Program} {w : World} {A : Around} {E : Value → Shared → Prop} {s : Shared}
/-- list(e) of an iterator of the built-in class T that tells no length -/
theorem call_list_it {Q : Value → Shared → Prop} {T : String} {e : Addr} (t1 : (Value.type T == Value.type "list") = false) (t2 : (Value.type T == Value.type "tuple") = false)
    (nl : typeLookup (.type T) "__len__" = pure none) (nh : typeLookup (.type T) "__length_hint__" = pure none) (hel : e < s.heap.objs.size)
    (hT : ∀ (s2 : Shared), (∀ b o, b ≠ s.heap.objs.size → s.heap.get? b = some o → s2.heap.get? b = some o) → s2.TypeIs (.ref e) T)
    (hI : ∀ (s2 : Shared) (A2 : Around) (E2 : Value → Shared → Prop) (Q2 : Value → Shared → Prop), (∀ b o, b ≠ s.heap.objs.size → s.heap.get? b = some o → s2.heap.get? b = some o) → Q2 (.ref e) s2 → wpAny (model prog w) A2 (pyIter (.ref e)) Q2 E2 s2)
    (hloop : ∀ (h2 : Heap) (c : Nat), (∀ b o, b ≠ s.heap.objs.size → s.heap.get? b = some o → h2.get? b = some o) → h2.objs.size = s.heap.objs.size + 1 →
      h2.get? s.heap.objs.size = some { cls := .type "list", dict := none, data := .seq #[] c, slots := #[] } →
      codeAny (model prog w) A.in1 (.builtin "list.extend.loop" ⟨[.ref s.heap.objs.size, .ref e, .none], []⟩) (wants (fun r s₂ => r = .none ∧ Q (.ref s.heap.objs.size) s₂) E) { s with heap := h2 }) :
    wpAny (model prog w) A (call (.type "list") [.ref e]) Q E s := by
  refine callType_codes (Q₁ := fun obj s₁ => obj = .ref s.heap.objs.size ∧ s₁ = { s with heap := s.heap.push { cls := .type "list", data := .seq #[] } }) F.called_list (F.typeCall_list_1 _) F.entry_list_init
    (code_list_new _ ⟨rfl, rfl⟩) fun obj s₁ h₁ => ?_
  obtain ⟨rfl, rfl⟩ := h₁
  have hS : (s.heap.push { cls := .type "list", data := .seq #[] }).get? s.heap.objs.size = some { cls := .type "list", data := .seq #[] } := Heap.get?_push_size _ rfl
  refine ⟨⟨_, hS, rfl⟩, F.args_list_init_2 _ _, ?_⟩
  generalize hSS : s.heap.objs.size = S at *
  show wpAny _ _ (do let old ← Builtin.List.listItems (.ref S); Builtin.List.listUpdate (.ref S) (fun _ => #[]); letGo old.toList.reverse; Builtin.List.listExtendWith (.ref S) (.ref e) .none) _ _ _
  have hSe : S ≠ e := Nat.ne_of_gt hel
  refine wpAny_bind ?_
  unfold Builtin.List.listItems
  refine wpAny_bind (wpAny_seqItems hS rfl (wpAny_pure ?_))
  show wpAny _ _ (updateSeq S (fun _ => #[]) >>= fun _ => letGo (#[] : Array Value).toList.reverse >>= fun _ => Builtin.List.listExtendWith (.ref S) (.ref e) .none) _ _ _
  refine wpAny_bind (wpAny_updateSeq hS rfl ?_)
  have hS₂ := Heap.get?_update_self (Obj.mapSeq (fun _ => (#[] : Array Value))) hS rfl
  have oth : ∀ b o, b ≠ S → s.heap.get? b = some o → ((s.heap.push { cls := .type "list", data := .seq #[] }).update S (Obj.mapSeq (fun _ => (#[] : Array Value)))).get? b = some o :=
    fun b o hb q => (Heap.get?_update_other _ _ (Ne.symm hb)).trans (Heap.get?_push_of_some _ q)
  have hz2 : ((s.heap.push { cls := .type "list", data := .seq #[] }).update S (Obj.mapSeq (fun _ => (#[] : Array Value)))).objs.size = S + 1 := by rw [Heap.size_update, Heap.size_push, hSS]
  refine wpAny_bind (wpAny_letGo ?_)
  generalize (s.heap.push { cls := .type "list", data := .seq #[] }).update S (Obj.mapSeq (fun _ => (#[] : Array Value))) = h2 at *
  have hT2 : Shared.TypeIs { s with heap := h2 } (.ref e) T := hT _ oth
  unfold Builtin.List.listExtendWith
  refine wpAny_bind (wpAny_typeOf hT2 ?_)
  have h1 : Builtin.List.listSameRef (.ref S) (.ref e) = false := by simp [Builtin.List.listSameRef, hSe]
  simp only [h1, t1, t2, Bool.or_false, Bool.false_eq_true, if_false]
  refine wpAny_bind (hI _ _ _ _ oth ?_)
  refine wpAny_bind (wpAny_holding ?_)
  unfold Builtin.List.listLengthHint
  refine wpAny_bind (wpAny_specialOf hT2 nl ?_)
  show wpAny _ _ (specialOf (Value.ref e) (Str.ofString "__length_hint__") >>= _) _ _ _
  refine wpAny_bind (wpAny_specialOf hT2 nh ?_)
  refine wpAny_pure ?_
  show wpAny _ _ (rule "list.extend.makes-room" >>= fun _ => Builtin.List.listTouch (.ref S) >>= fun _ =>
    again (.builtin "list.extend.loop" ⟨[.ref S, .ref e, .none], []⟩)) _ _ _
  refine wpAny_bind (wpAny_rule ?_)
  refine wpAny_bind ?_
  show wpAny _ _ (updateSeq S (·.push .none) >>= fun _ => updateSeq S (·.pop)) _ _ _
  refine wpAny_bind (wpAny_updateSeq hS₂ rfl ?_)
  have hS₃ := Heap.get?_update_self (Obj.mapSeq (·.push Value.none)) hS₂ rfl
  refine wpAny_updateSeq (hz := by seq_fits) hS₃ rfl ?_
  have hS₄ := Heap.get?_update_self (Obj.mapSeq (·.pop)) hS₃ rfl
  refine wpAny_pure ⟨plainId_quiet F.plain_extend_loop _, hloop _ _ (fun b o hb q => (Heap.get?_update_other _ _ (Ne.symm hb)).trans ((Heap.get?_update_other _ _ (Ne.symm hb)).trans (oth b o hb q))) (by rw [Heap.size_update, Heap.size_update, hz2]) hS₄⟩

namespace FF
theorem enum_no_len : typeLookup (.type "enumerate") "__len__" = pure none := by rw [typeLookup_type, builtinLookup_eq_fast]; kernel_rfl
theorem enum_no_hint : typeLookup (.type "enumerate") "__length_hint__" = pure none := by rw [typeLookup_type, builtinLookup_eq_fast]; kernel_rfl
theorem zip_no_len : typeLookup (.type "zip") "__len__" = pure none := by rw [typeLookup_type, builtinLookup_eq_fast]; kernel_rfl
theorem zip_no_hint : typeLookup (.type "zip") "__length_hint__" = pure none := by rw [typeLookup_type, builtinLookup_eq_fast]; kernel_rfl
end FF
theorem call_list_en {Q : Value → Shared → Prop} {e it l : Addr} {items : Array Value} (hh : A.handled = none) (he : IsEnum s.heap e it 0 .none) (hit : s.heap.IsListIter it l 0) (hl : s.heap.IsList l items) (hne : e ≠ it) (hle : l ≠ e) (hli : l ≠ it) (hn : items.size ≤ sizeLine)
    (hQ : ∀ h' tk acc' c', (∀ b o, b ≠ e → b ≠ it → s.heap.get? b = some o → h'.get? b = some o) →
      h'.get? s.heap.objs.size = some { cls := .type "list", dict := none, data := .seq acc' c', slots := #[] } → acc'.size = items.size → Prs (s.heap.objs.size + 1) items acc' h' → Q (.ref s.heap.objs.size) { s with heap := h', toks := tk }) :
    wpAny (model prog w) A (call (.type "list") [.ref e]) Q E s := by
  have hel : e < s.heap.objs.size := Heap.lt_size he
  have hil : it < s.heap.objs.size := by obtain ⟨_, q, _⟩ := hit; exact Heap.lt_size q
  have hll : l < s.heap.objs.size := by obtain ⟨_, q, _⟩ := hl; exact Heap.lt_size q
  refine call_list_it (T := "enumerate") (by decide) (by decide) FF.enum_no_len FF.enum_no_hint hel (fun s2 k => ⟨_, k e _ (Nat.ne_of_lt hel) he, rfl⟩) (fun s2 A2 E2 Q2 k q => wpAny_pyIter_enum (k e _ (Nat.ne_of_lt hel) he) q) fun h2 c k hz hS => ?_
  refine en_loop (A := A.in1) (base := s.heap.objs.size + 1) (items := items) (l := l) hh hne (Nat.ne_of_gt hel) (Nat.ne_of_gt hil) hle hli (Nat.ne_of_lt hll) (Nat.lt_succ_of_lt hel) (Nat.lt_succ_of_lt hil) (Nat.lt_succ_self _) hn .none _ 0 { s with heap := h2 } #[] c rfl (Nat.zero_le _) (by show _ ≤ h2.objs.size; omega)
    (.inl ⟨.none, k e _ (Nat.ne_of_lt hel) he⟩) (hit.at fun o q => k it o (Nat.ne_of_lt hil) q) (hl.at fun o q => k l o (Nat.ne_of_lt hll) q) hS rfl (fun j u q => by simp at q) fun h' tk acc' c' k' hS' hz' hp => ?_
  exact ⟨rfl, hQ h' tk acc' c' (fun b o b1 b2 q => k' b o (Nat.ne_of_lt (Heap.lt_size q)) b1 b2 (k b o (Nat.ne_of_lt (Heap.lt_size q)) q)) hS' hz' hp⟩
end
end L2
namespace L2
open PySem PySem.Spec PyProof.Rows
/-- the addresses that a list of references holds -/
def adrs (acc : Array Value) : List Addr := acc.toList.map fun v => match v with | .ref a => a | _ => 0
/-- new tuples at ts and a list of them at S: the abstract objects -/
noncomputable def newPrs (S : Addr) (ts : List Addr) (f : Nat → HO) : Hp := fun b => if b = S then some (.lst (ts.map V.ref)) else if b ∈ ts then some (f (ts.idxOf b)) else none
theorem idx_at {ts : List Addr} {b : Addr} (h : b ∈ ts) : ts[ts.idxOf b]? = some b := by
  induction ts with
  | nil => cases h
  | cons c r ih =>
    by_cases e : c = b
    · subst e
      simp [List.idxOf_cons]
    · have h' : b ∈ r := by
        rcases List.mem_cons.mp h with z | z
        · exact absurd z.symm e
        · exact z
      have e' : (c == b) = false := beq_eq_false_iff_ne.mpr e
      rw [List.idxOf_cons, e']
      simpa using ih h'
section
variable {X : Cx} {pins : List (Addr × Obj)} {σ : St} {H : Hp} {s : Shared}
/-- the whole step, for tuples: S the list, ts its tuples; the j-th holds f j -/
theorem Inv.newPairs {h' : Heap} {t' : Nat} {S : Addr} {acc : Array Value} {c : Nat} {f : Nat → List V} (I : Inv X pins σ H s) (k : ∀ b u, s.heap.get? b = some u → h'.get? b = some u) (hS : s.heap.objs.size ≤ S)
    (e : h'.get? S = some { cls := .type "list", dict := none, data := .seq acc c, slots := #[] }) (hz : acc.size ≤ sizeLine)
    (hp : ∀ (j : Nat) (u : Value), acc[j]? = some u → ∃ (T : Addr) (us : List Value), u = .ref T ∧ S < T ∧ Vals (f j) us ∧ us.length ≤ 2 ∧ h'.get? T = some { cls := .type "tuple", data := .seq us.toArray })
    (inj : ∀ (i j : Nat) (T : Addr), acc[i]? = some (.ref T) → acc[j]? = some (.ref T) → i = j) :
    ∃ (H' : Hp) (ts : List Addr), Inv X pins σ H' { s with heap := h', toks := t' } ∧ Same H H' ∧ H S = none ∧ H' S = some (.lst (ts.map V.ref)) ∧ ts.length = acc.size ∧ (∀ t ∈ ts, H t = none) ∧ ∀ (j : Nat) (t : Addr), ts[j]? = some t → H' t = some (.tup (f j)) := by
  have at1 : ∀ (j : Nat) (t : Addr), (adrs acc)[j]? = some t → acc[j]? = some (.ref t) := fun j t q => by
    unfold adrs at q
    rw [List.getElem?_map, Array.getElem?_toList] at q
    cases q' : acc[j]? with
    | none => rw [q'] at q; cases q
    | some u =>
      obtain ⟨T, us, rfl, _⟩ := hp j u q'
      rw [q'] at q
      have z := Option.some.inj q
      have z' : T = t := z
      rw [z']
  have mem : ∀ t, t ∈ adrs acc → ∃ us, S < t ∧ Vals (f ((adrs acc).idxOf t)) us ∧ us.length ≤ 2 ∧ h'.get? t = some { cls := .type "tuple", data := .seq us.toArray } := fun t ht => by
    obtain ⟨T, us, e1, r⟩ := hp _ _ (at1 _ _ (idx_at ht))
    cases e1
    exact ⟨us, r⟩
  have fr : ∀ b, s.heap.objs.size ≤ b → H b = none := fun b hb => I.hok.fresh hb
  have neS : ∀ t, t ∈ adrs acc → t ≠ S := fun t ht => by
    obtain ⟨us, h1, _⟩ := mem t ht
    exact Nat.ne_of_gt h1
  have nS : newPrs S (adrs acc) (fun j => .tup (f j)) S = some (.lst ((adrs acc).map V.ref)) := if_pos rfl
  have nT : ∀ t, t ∈ adrs acc → newPrs S (adrs acc) (fun j => .tup (f j)) t = some (.tup (f ((adrs acc).idxOf t))) := fun t ht => by
    unfold newPrs
    rw [if_neg (neS t ht), if_pos ht]
  have vr : Vals ((adrs acc).map V.ref) acc.toList := by
    have go : ∀ (l : List Value), (∀ u ∈ l, ∃ T, u = Value.ref T) → Vals ((l.map fun v => match v with | .ref a => a | _ => 0).map V.ref) l := by
      intro l
      induction l with
      | nil => intro _; exact .nil
      | cons u r ih =>
        intro h
        obtain ⟨T, rfl⟩ := h u List.mem_cons_self
        exact .cons rfl (ih fun v hv => h v (List.mem_cons_of_mem _ hv))
    refine go acc.toList fun u hu => ?_
    obtain ⟨j, hj⟩ := List.getElem?_of_mem hu
    rw [Array.getElem?_toList] at hj
    obtain ⟨T, us, e1, _⟩ := hp j u hj
    exact ⟨T, e1⟩
  refine ⟨over H (newPrs S (adrs acc) fun j => .tup (f j)), adrs acc, I.laidMany k (fun b o q => ?_) (fun b o q => ?_), fun b o q => ?_, fr S hS, over_new nS, ?_, fun t ht => ?_, fun j t q => ?_⟩
  · by_cases hb : b = S
    · rw [hb]; exact hS
    · by_cases hm : b ∈ adrs acc
      · obtain ⟨us, h1, _⟩ := mem b hm
        exact Nat.le_trans hS (Nat.le_of_lt h1)
      · unfold newPrs at q
        rw [if_neg hb, if_neg hm] at q
        cases q
  · by_cases hb : b = S
    · subst hb
      rw [nS] at q
      cases q
      exact ⟨by rw [List.length_map]; unfold adrs; rw [List.length_map, Array.length_toList]; exact hz, acc.toList, c, vr, by simpa using e⟩
    · by_cases hm : b ∈ adrs acc
      · rw [nT b hm] at q
        cases q
        obtain ⟨us, h1, h2, h3, h4⟩ := mem b hm
        exact ⟨by rw [h2.length]; exact Nat.le_trans h3 (by decide), us, h2, ⟨_, h4, rfl, _, rfl⟩⟩
      · unfold newPrs at q
        rw [if_neg hb, if_neg hm] at q
        cases q
  · cases q' : newPrs S (adrs acc) (fun j => .tup (f j)) b with
    | none => rw [over_old q']; exact SamO.of q
    | some o' =>
      exfalso
      have hb : s.heap.objs.size ≤ b := by
        by_cases hb : b = S
        · rw [hb]; exact hS
        · by_cases hm : b ∈ adrs acc
          · obtain ⟨us, h1, _⟩ := mem b hm
            exact Nat.le_trans hS (Nat.le_of_lt h1)
          · unfold newPrs at q'
            rw [if_neg hb, if_neg hm] at q'
            cases q'
      rw [fr b hb] at q
      cases q
  · unfold adrs; rw [List.length_map, Array.length_toList]
  · obtain ⟨us, h1, _⟩ := mem t ht
    exact fr t (Nat.le_trans hS (Nat.le_of_lt h1))
  · have hm : t ∈ adrs acc := List.mem_of_getElem? q
    have ei : (adrs acc).idxOf t = j := inj _ _ t (at1 _ _ (idx_at hm)) (at1 _ _ q)
    rw [over_new (nT t hm), ei]
end

/-- list(enumerate(e)): a new list of new pairs -/
def tListEnum (K : PySem.W.Frag) (ta : TA) : TE := fun σ H Q => ta σ H fun vs H1 => ∃ a xs, vs = [.ref a] ∧ SqL K H1 a xs ∧ ∀ (H' : Hp) (l : Addr) (ts : List Addr), Same H1 H' → H1 l = none → H' l = some (.lst (ts.map V.ref)) → ts.length = xs.length →
  (∀ t ∈ ts, H1 t = none) → (∀ (j : Nat) (t : Addr), ts[j]? = some t → H' t = some (.tup [.int (j : Nat), xs.getD j .non])) → Q (.ref l) H'
theorem boot_list_ty : bootBuiltins "list" = some (.type "list") := by decide +kernel
theorem pe_list_enum {X : Cx} {e : Expr} {ta : TA} {p p' pos pos' : Pos} (hc : X.calm = true) (hg : Gl X "list") (hm : X.mg "list" = none) (hg' : Gl X "enumerate") (hm' : X.mg "enumerate" = none) (ha : PA X [e] ta) (hs : starEach [e] X.env = [(false, eval e X.env)] := by rfl)
    (hs2 : starEach [.Call (.Name "enumerate" p') [e] [] pos'] X.env = [(false, eval (.Call (.Name "enumerate" p') [e] [] pos') X.env)] := by rfl) :
    PE X (.Call (.Name "list" p) [.Call (.Name "enumerate" p') [e] [] pos'] [] pos) (tListEnum X.K ta) := by
  intro pins s σ H Q I h
  refine Call_ (ld_blt I hg hm boot_list_ty (PyProof.Rows.callWith_type1 ?_ hs2 rfl))
  rw [hs2]
  show wpAny _ _ (spliced ((false, eval (.Call (.Name "enumerate" p') [e] [] pos') X.env) :: backTo pos (starEach [] X.env))) _ _ s
  refine Calls.spliced_cons ?_
  refine Call_ (ld_blt I hg' hm' boot_enumerate (PyProof.Rows.callWith_type1 (thn (ha pos' pins s σ H _ I h) fun us s1 ⟨vs, H1, I1, r1, q1⟩ => ?_) hs rfl))
  obtain ⟨a, xs, ex, hq, q⟩ := q1
  subst ex
  cases r1 with
  | cons r rr =>
    cases rr
    cases r
    obtain ⟨its, rv, p', hz⟩ := I1.list hq
    have hal : a < s1.heap.objs.size := by obtain ⟨_, z, _⟩ := p'.isList; exact Heap.lt_size z
    have hlen := rv.length
    refine call_enumerate_list p'.isList fun h' he hit hsz hk => Calls.spliced_nil ?_
    refine call_list_en (s := { s1 with heap := h' }) (items := its.toArray) (I1.ok.hd hc) he hit (p'.isList.at fun o z => hk a o z) (Nat.succ_ne_self _) (Nat.ne_of_lt (Nat.lt_succ_of_lt hal)) (Nat.ne_of_lt hal) (by rw [List.size_toArray]; omega) fun h'' tk acc c k2 hS hsz2 hp => ?_
    have hS1 : s1.heap.objs.size ≤ h'.objs.size := by rw [hsz]; exact Nat.le_add_right _ _
    obtain ⟨H', ts, I', sm, nl, hl', tl, fr, ct⟩ := I1.newPairs (t' := tk) (h' := h'') (S := h'.objs.size) (acc := acc) (f := fun j => [.int (j : Nat), xs.getD j .non])
      (fun b u z => k2 b u (Nat.ne_of_lt (Nat.lt_succ_of_lt (Heap.lt_size z))) (Nat.ne_of_lt (Heap.lt_size z)) (hk b u z)) hS1 hS (by rw [hsz2, List.size_toArray]; omega)
      (fun j u z => by
        obtain ⟨T, t, x, e1, e2, e3, e4⟩ := hp j u z
        rw [List.getElem?_toArray] at e3
        have hjl : j < xs.length := by rw [hlen]; exact (List.getElem?_eq_some_iff.mp e3).1
        refine ⟨T, [.int j t, x], e1, e2, .cons ⟨t, rfl⟩ (.cons ?_ .nil), Nat.le_refl _, e4⟩
        obtain ⟨y, ey, ry⟩ := rv.get (x := xs[j]) (i := j) (by simp [hjl])
        rw [e3] at ey
        cases ey
        simpa [hjl] using ry)
      (fun i j T z1 z2 => by
        obtain ⟨T1, t1, x1, a1, a2, a3, a4⟩ := hp i _ z1
        obtain ⟨T2, t2, x2, b1, b2, b3, b4⟩ := hp j _ z2
        cases a1
        cases b1
        rw [a4] at b4
        have z := Option.some.inj b4
        injection z with _ _ z _
        injection z with z _
        have z := congrArg (fun w => w[0]?) z
        simp at z
        exact Int.ofNat.inj z.1)
    exact ⟨.ref h'.objs.size, H', I', rfl, q H' h'.objs.size ts sm nl hl' (by rw [tl, hsz2, List.size_toArray, hlen]) fr ct⟩
end L2

set_option Elab.async false
set_option linter.all false
set_option maxRecDepth 100000
set_option maxHeartbeats 4000000
namespace L2
open PySem PySem.Spec PyProof.Rows
def Fn (P : Program) (w : World) (K : PySem.W.Frag) (mg : Str → Option Value) (base : Heap) (k : Nat) (x : Str) (ps : List Str) (sp : Sp) : Prop :=
  ∃ (f : Addr) (fd : FuncData), mg x = some (.ref f) ∧ PySem.W.keepIn K (.ref f) = true ∧ Binds K fd ps [] ∧ FnOk P w K mg base CX0 k f fd ps sp
/-- where a def stands -/
def DefAt (K : PySem.W.Frag) (mg : Str → Option Value) (x : Str) (st : Stmt) (ps : List Str) : Prop :=
  ∃ (f : Addr) (fd : FuncData), mg x = some (.ref f) ∧ Fun K x x st f fd ∧ Binds K fd ps []
section
variable {P : Program} {w : World} {K : PySem.W.Frag} {mg : Str → Option Value} {base : Heap}
theorem DefAt.fn {x : Str} {st : Stmt} {N ps : List Str} {k : Nat} {sp : Sp} (D : DefAt K mg x st ps) (S : FnScope N ps (defScope st)) (len : ∀ vs H Q E, sp vs H Q E → vs.length = ps.length)
    (hbody : ∀ (f : Addr) (cdv : Value) (A : Around) (outer : List Env) (s : Shared) (H : Hp) (vs : List V) (Q : VK) (E : XK), Room k (A.deeper (envOfC x (defScope st) s.heap.objs.size f cdv)) → sp vs H Q E →
      ∃ t, PSs (cxOf CX0 P w K mg base N x (defScope st) f cdv A outer s H E).nox (defBody st) t ∧ t { nx := fun _ H' => Q .non H', rt := Q } (start N vs) H) : Fn P w K mg base (k + 1) x ps sp := by
  obtain ⟨f, fd, hm, F, b⟩ := D
  exact ⟨f, fd, hm, F.kp, b, F.ok S len fun cdv A outer s H vs Q E hr h => hbody f cdv A outer s H vs Q E hr h⟩
theorem defAt_mk {h : Heap} (X : K.In h) (G : h.Ns mainGlobals mg) {x : Str} {st : Stmt} {ps : List Str} {f : Addr} {oc : Value} {od an : Option Addr} {osl : Array (Option Value)} {kV doc pm cdv ct : Value}
    (a : PySem.W.nsIn K mainGlobals x = some (some (.ref f))) (l : K.lookup f = some ⟨oc, od, .func (PySem.W.fnOf x x (defArgs st) (defBody st) (defScope st) .none kV doc pm an cdv ct), osl⟩)
    (c : PySem.W.codeIn K cdv x = true) (k : PySem.W.keepIn K (.ref f) = true)
    (hb : ∀ (kV doc pm : Value) (an : Option Addr) (cdv ct : Value) (us : List Value), us.length = ps.length → bindArgs (PySem.W.fnOf x x (defArgs st) (defBody st) (defScope st) .none kV doc pm an cdv ct) ⟨us, []⟩ = pure (ps.zip us)) : DefAt K mg x st ps :=
  have F := fun_mk (st := st) l c k
  ⟨f, _, PySem.W.mg_of X G a, F, F.binds hb⟩
end
/-- a call of a def of the text -/
theorem pe_fn {X : Cx} {j k : Nat} {x : Str} {ps : List Str} {sp : Sp} {p pos : Pos} {e : Expr} {es : List Expr} {t : TA} (F : Fn X.prog X.w X.K X.mg X.base k x ps sp) (hr : Room j X.A) (hg : Gl X x) (ha : PA X (e :: es) t) (hx : ∀ v s, ¬ X.xe v s → X.xe = X.xe := by intros; rfl)
    (hjk : k ≤ j := by decide) (hdb : (x == ("__debug__" : Str)) = false := by decide) (he : starEach (e :: es) X.env = (false, eval e X.env) :: starEach es X.env := by rfl) (hpl : (backTo pos (starEach es X.env)).any (·.1) = false := by rfl) :
    PE X (.Call (.Name x p) (e :: es) [] pos) (tCall sp [] E0 t) := by
  obtain ⟨f, fd, hm, kp, b, G⟩ := F
  exact pe_call G (hr.mono hjk) hg hm kp b .nil pass0 ha hdb he hpl
/-- the built-ins that are used, not hidden by the text -/
def Bl (mg : Str → Option Value) (l : List Str) : Prop := ∀ x, x ∈ l → mg x = none

/-- all but the list at p is as it was; p is a hand -/
def Hand (H : Hp) (p : Addr) : Prop := ∃ d e : Int, H p = some (.lst [.int d, .int e]) ∧ 0 ≤ e ∧ e < 2147483587
/-- what was there but at p is as it was -/
def But (p : Addr) (H H' : Hp) : Prop := ∀ b o, b ≠ p → H b = some o → SamO o (H' b)
theorem But.refl (p : Addr) (H : Hp) : But p H H := fun _ _ _ h => SamO.of h
theorem But.ap {p : Addr} {H H' : Hp} (s : But p H H') {c : Addr} {o : HO} (n : c ≠ p) (h : SamO o (H c)) : SamO o (H' c) := by
  cases o <;> first
    | exact s c _ n h
    | (obtain ⟨qs, e⟩ := h; have z : ∃ r, H' c = Option.some (.tbl r) := s c (.tbl qs) n e; exact z)
theorem But.trans {p : Addr} {H H1 H2 : Hp} (a : But p H H1) (b : But p H1 H2) : But p H H2 := fun c o n h => b.ap n (a c o n h)
theorem But.same {p : Addr} {H H1 H2 : Hp} (s : Same H H1) (f : H p = none) (b : But p H1 H2) : Same H H2 := fun c o e => b.ap (ne_of_none e f) (s c o e)
theorem But.upd {p : Addr} {H : Hp} (o : HO) : But p H (upd H p o) := fun b _ n h => by rw [upd_ne n]; exact SamO.of h
theorem But.new {p q : Addr} {H : Hp} {o : HO} (h : H q = none) : But p H (L2.upd H q o) := fun b u n e => by rw [upd_ne (ne_of_none e h)]; exact SamO.of e
theorem Same.new {q : Addr} {H : Hp} {o : HO} (h : H q = none) : Same H (L2.upd H q o) := fun b u e => by rw [upd_ne (ne_of_none e h)]; exact SamO.of e
theorem Same.but {p : Addr} {H H' : Hp} (s : Same H H') : But p H H' := fun b o _ e => s b o e
theorem Hand.new {H : Hp} {p q : Addr} {o : HO} (h : Hand H p) (n : H q = none) : Hand (L2.upd H q o) p := by
  obtain ⟨d, e, h, r⟩ := h
  exact ⟨d, e, by rw [upd_ne (ne_of_none h n)]; exact h, r⟩
theorem Hand.same {H H' : Hp} {p : Addr} (h : Hand H p) (s : Same H H') : Hand H' p := by
  obtain ⟨d, e, h, r⟩ := h
  exact ⟨d, e, s _ _ h, r⟩
theorem But.lst {p a : Addr} {H H' : Hp} {xs : List V} (s : But p H H') (n : a ≠ p) (h : H a = some (.lst xs)) : H' a = some (.lst xs) := s _ _ n h
theorem But.seq {K : PySem.W.Frag} {p a : Addr} {H H' : Hp} {xs : List V} (s : But p H H') (n : a ≠ p) (h : SqL K H a xs) : SqL K H' a xs := by
  rcases h with (h | ⟨o, h⟩) | h
  · exact .inl (.inl (s _ _ n h))
  · exact .inl (.inr ⟨o, s _ _ n h⟩)
  · exact .inr h
theorem free_of_but {p : Addr} {H H' : Hp} {l : Addr} (s : But p H H') (hp : H' p ≠ none) (h : H' l = none) : H l = none := by
  cases q : H l with
  | none => rfl
  | some o =>
    by_cases e : l = p
    · subst e; exact absurd h hp
    · obtain ⟨u, z⟩ := (s l o e q).some; rw [z] at h; cases h
theorem Hand.ne {H : Hp} {p q : Addr} (h : Hand H p) (n : H q = none) : q ≠ p := by
  obtain ⟨d, e, h, _⟩ := h
  exact (ne_of_none h n).symm
/-- a store at an address that was free in H -/
theorem But.at {p D : Addr} {H H' : Hp} {o : HO} (s : But p H H') (f : H D = none) : But p H (L2.upd H' D o) := fun b u n e => by
  rw [upd_ne (ne_of_none e f)]; exact s b u n e
theorem Hand.at {H : Hp} {p D : Addr} {o : HO} (h : Hand H p) (n : D ≠ p) : Hand (L2.upd H D o) p := by
  obtain ⟨d, e, h, r⟩ := h
  exact ⟨d, e, by rw [upd_ne n.symm]; exact h, r⟩
theorem Hand.some {H : Hp} {p : Addr} (h : Hand H p) : H p ≠ none := by
  obtain ⟨d, e, h, _⟩ := h
  rw [h]; simp
end L2

set_option Elab.async false
set_option linter.all false
set_option maxRecDepth 100000
set_option maxHeartbeats 4000000
namespace L2
open PySem PySem.Spec PyProof.Rows
abbrev intsD (ns : List Int) : PyData := .list (ns.map PyData.int)
abbrev prD (p : Int × Int) : PyData := .tuple [.int p.1, .int p.2]
abbrev prsD (ps : List (Int × Int)) : PyData := .list (ps.map prD)
section
variable {K : PySem.W.Frag} {H : Hp}
theorem dpInts (ns : List Int) : DpAll K H (ns.map V.int) (ns.map PyData.int) := by
  induction ns with
  | nil => exact .nil
  | cons n r ih => exact .cons (.int n) ih
theorem dpInts' {a : Addr} {ns : List Int} (h : SqL K H a (ns.map V.int)) : Dp K H (.ref a) (intsD ns) := .lst h (dpInts ns)
mutual
theorem Dp.same {H' : Hp} (s : Same H H') : ∀ (d : PyData) (v : V), Dp K H v d → Dp K H' v d
  | .none, _, h => by cases h; exact .non
  | .bool b, _, h => by cases h; exact .bl b
  | .int i, _, h => by cases h; exact .int i
  | .str x, _, h => by cases h; exact .str x
  | .list ds, _, h => by
    cases h with
    | lst hs ha => exact .lst (s.seq hs) (DpAll.same s ds _ ha)
  | .tuple ds, _, h => by
    cases h with
    | tup hs ha =>
      refine .tup ?_ (DpAll.same s ds _ ha)
      rcases hs with (h | ⟨o, h⟩) | h
      · exact .inl (.inl (s _ _ h))
      · exact .inl (.inr ⟨o, s _ _ h⟩)
      · exact .inr h
  | .dict _, _, h => by cases h
theorem DpAll.same {H' : Hp} (s : Same H H') : ∀ (ds : List PyData) (vs : List V), DpAll K H vs ds → DpAll K H' vs ds
  | [], _, h => by cases h; exact .nil
  | d :: ds, _, h => by
    cases h with
    | cons h1 h2 => exact .cons (Dp.same s d _ h1) (DpAll.same s ds _ h2)
end
end
theorem canLayInts (ns : List Int) : PyData.canLayAll0 (ns.map PyData.int) = true := by
  induction ns with
  | nil => rfl
  | cons n r ih =>
    rw [List.map_cons]
    simp [PyData.canLayAll0, PyData.canLay0, ih]
theorem depthInts (ns : List Int) : PyData.depthAll (ns.map PyData.int) ≤ 1 := by
  induction ns with
  | nil => simp [PyData.depthAll]
  | cons n r ih =>
    rw [List.map_cons]
    simp only [PyData.depthAll, PyData.depth]
    omega
theorem shapedInts (ns : List Int) : SeqAt.shaped (intsD ns) = true := by
  have h1 := canLayInts ns
  have h2 := depthInts ns
  unfold SeqAt.shaped
  simp only [PyData.canLay0, PyData.depth, h1, Bool.true_and]
  exact decide_eq_true (by omega)
theorem eqvAllInts : ∀ (ns ms : List Int), PyData.eqvAll (ns.map PyData.int) (ms.map PyData.int) = decide (ns = ms)
  | [], [] => by simp [PyData.eqvAll]
  | [], _ :: _ => by simp [PyData.eqvAll]
  | _ :: _, [] => by simp [PyData.eqvAll]
  | n :: ns, m :: ms => by
    rw [List.map_cons, List.map_cons]
    simp only [PyData.eqvAll, PyData.eqv, eqvAllInts ns ms, List.cons.injEq, Bool.decide_and]
    rfl
theorem eqvInts (ns ms : List Int) : PyData.eqv (intsD ns) (intsD ms) = decide (ns = ms) := by
  simp only [PyData.eqv]; exact eqvAllInts ns ms
section
variable {X : Cx}
def rEqLI (K : PySem.W.Frag) : R2 := fun x y H Q => ∃ (a b : Addr) (ns ms : List Int), x = .ref a ∧ y = .ref b ∧ SqL K H a (ns.map V.int) ∧ SqL K H b (ms.map V.int) ∧ Q (.bl (decide (ns = ms))) H
def rNeLI (K : PySem.W.Frag) : R2 := fun x y H Q => ∃ (a b : Addr) (ns ms : List Int), x = .ref a ∧ y = .ref b ∧ SqL K H a (ns.map V.int) ∧ SqL K H b (ms.map V.int) ∧ Q (.bl (!decide (ns = ms))) H
theorem op_eqLI (hu : X.A.units + 64 < cLine) : OpR X (compareOp .Eq) (rEqLI X.K) := by
  intro pins s σ H x y v u Q I rx ry h
  obtain ⟨a, b, ns, ms, rfl, rfl, h1, h2, q⟩ := h
  exact op_eqD hu pins s σ H _ _ v u Q I rx ry ⟨_, _, dpInts' h1, dpInts' h2, shapedInts _, shapedInts _, by rw [eqvInts]; exact q⟩
theorem op_neLI (hu : X.A.units + 64 < cLine) : OpR X (compareOp .NotEq) (rNeLI X.K) := by
  intro pins s σ H x y v u Q I rx ry h
  obtain ⟨a, b, ns, ms, rfl, rfl, h1, h2, q⟩ := h
  exact op_neD hu pins s σ H _ _ v u Q I rx ry ⟨_, _, dpInts' h1, dpInts' h2, shapedInts _, shapedInts _, by rw [eqvInts]; exact q⟩
end
/-- a slice of a list of ints -/
def cutI (ns : List Int) (lo hi : Option Int) : List Int := (ns.drop (HT.sIx ns.length 0 lo)).take (HT.sIx ns.length ns.length hi - HT.sIx ns.length 0 lo)
theorem cut_ints (ns : List Int) (lo hi : Option Int) : cutV (ns.map V.int) lo hi = (cutI ns lo hi).map V.int := by
  unfold cutV cutI
  rw [List.length_map, List.map_take, List.map_drop]
theorem cutI_len (ns : List Int) (lo hi : Option Int) : (cutI ns lo hi).length ≤ ns.length := by
  unfold cutI
  rw [List.length_take, List.length_drop]
  omega
theorem cutI_mem {ns : List Int} {lo hi : Option Int} {n : Int} (h : n ∈ cutI ns lo hi) : n ∈ ns := List.mem_of_mem_drop (List.mem_of_mem_take h)
theorem cutI_to (ns : List Int) (k : Int) (h0 : 0 ≤ k) : cutI ns none (some k) = ns.take k.toNat := by
  unfold cutI HT.sIx
  dsimp only
  rw [if_neg (by omega), Nat.sub_zero, List.drop_zero]
  rcases Nat.le_total k.toNat ns.length with h | h
  · rw [Nat.min_eq_left h]
  · rw [Nat.min_eq_right h, List.take_of_length_le (Nat.le_refl _), List.take_of_length_le h]
theorem cutI_from_to (ns : List Int) (i k : Int) (h0 : 0 ≤ i) (h1 : 0 ≤ k) (h2 : i ≤ k) (h3 : k ≤ ns.length) : cutI ns (some i) (some k) = (ns.drop i.toNat).take (k.toNat - i.toNat) := by
  unfold cutI HT.sIx
  dsimp only
  rw [if_neg (by omega), if_neg (by omega), Nat.min_eq_left (by omega), Nat.min_eq_left (by omega)]
theorem line1000 {n : Nat} (h : n ≤ 1000) : n ≤ sizeLine := Nat.le_of_lt (small1000 h)
theorem repI (k : Nat) (ns : List Int) : (List.replicate k (ns.map V.int)).flatten = ((List.replicate k ns).flatten).map V.int := by
  rw [List.map_flatten, List.map_replicate]
theorem getD_ints {ns : List Int} {j : Nat} (h : j < ns.length) : (ns.map V.int).getD j .non = V.int (ns.getD j 0) := by
  rw [List.getD_eq_getElem?_getD, List.getD_eq_getElem?_getD, List.getElem?_map, List.getElem?_eq_getElem h]
  rfl
theorem at_pick {ns : List Int} {i : Int} (h0 : 0 ≤ i) (h1 : i < ns.length) : ∃ v, v ∈ ns ∧ atI (ns.map V.int) i = some (V.int v) := by
  have hl : i.toNat < ns.length := by omega
  refine ⟨ns[i.toNat], List.getElem_mem hl, at_of (j := i.toNat) (by omega) ?_⟩
  rw [List.getElem?_map, List.getElem?_eq_getElem hl]
  rfl
theorem at_pickV {xs : List V} {i : Int} (h0 : 0 ≤ i) (h1 : i < xs.length) : ∃ v, v ∈ xs ∧ atI xs i = some v := by
  have hl : i.toNat < xs.length := by omega
  exact ⟨xs[i.toNat], List.getElem_mem hl, at_of (j := i.toNat) (by omega) (List.getElem?_eq_getElem hl)⟩
theorem ix_nat {n : Nat} {i : Int} (h0 : 0 ≤ i) (h1 : i < n) : ixN n i = some i.toNat := by
  unfold ixN
  rw [if_pos h0, if_pos h1]
theorem seqJ {t rest : TS} {D : Ends} {σ : St} {H : Hp} (J : St → Hp → Prop) (h1 : (∀ σ' H', J σ' H' → rest D σ' H') → t { D with nx := rest D } σ H) (h2 : ∀ σ' H', J σ' H' → rest D σ' H') : tSeq t rest D σ H := h1 h2
theorem mem_rep {ns : List Int} {k : Nat} {n : Int} (h : n ∈ (List.replicate k ns).flatten) : n ∈ ns := by
  obtain ⟨l, hl, hn⟩ := List.mem_flatten.mp h
  rw [(List.mem_replicate.mp hl).2] at hn
  exact hn
theorem at_int {ns : List Int} {i : Int} (h0 : 0 ≤ i) (h1 : i < ns.length) : atI (ns.map V.int) i = some (V.int (ns.getD i.toNat 0)) := by
  have hl : i.toNat < ns.length := by omega
  refine at_of (j := i.toNat) (by omega) ?_
  rw [List.getElem?_map, List.getElem?_eq_getElem hl]
  simp [List.getD_eq_getElem?_getD, List.getElem?_eq_getElem hl]
end L2

set_option Elab.async false
set_option linter.all false
set_option maxRecDepth 100000
set_option maxHeartbeats 4000000
namespace L2
open PySem PySem.Spec PyProof.Rows
def minL : List Int → Int
  | [] => 0
  | [a] => a
  | a :: b :: r => if minL (b :: r) < a then minL (b :: r) else a
def maxL : List Int → Int
  | [] => 0
  | [a] => a
  | a :: b :: r => if a < maxL (b :: r) then maxL (b :: r) else a
theorem minL_spec : ∀ {l : List Int}, l ≠ [] → minL l ∈ l ∧ ∀ y ∈ l, minL l ≤ y
  | [], h => absurd rfl h
  | [a], _ => ⟨List.mem_singleton.mpr rfl, fun y hy => by rw [List.mem_singleton.mp hy]; exact Int.le_refl _⟩
  | a :: b :: r, _ => by
    have ih := minL_spec (l := b :: r) (by simp)
    have e : minL (a :: b :: r) = if minL (b :: r) < a then minL (b :: r) else a := rfl
    by_cases h : minL (b :: r) < a
    · rw [if_pos h] at e
      rw [e]
      refine ⟨List.mem_cons_of_mem _ ih.1, fun y hy => ?_⟩
      rcases List.mem_cons.mp hy with z | z
      · omega
      · exact ih.2 y z
    · rw [if_neg h] at e
      rw [e]
      refine ⟨List.mem_cons_self, fun y hy => ?_⟩
      rcases List.mem_cons.mp hy with z | z
      · omega
      · have := ih.2 y z; omega
theorem maxL_spec : ∀ {l : List Int}, l ≠ [] → maxL l ∈ l ∧ ∀ y ∈ l, y ≤ maxL l
  | [], h => absurd rfl h
  | [a], _ => ⟨List.mem_singleton.mpr rfl, fun y hy => by rw [List.mem_singleton.mp hy]; exact Int.le_refl _⟩
  | a :: b :: r, _ => by
    have ih := maxL_spec (l := b :: r) (by simp)
    have e : maxL (a :: b :: r) = if a < maxL (b :: r) then maxL (b :: r) else a := rfl
    by_cases h : a < maxL (b :: r)
    · rw [if_pos h] at e
      rw [e]
      refine ⟨List.mem_cons_of_mem _ ih.1, fun y hy => ?_⟩
      rcases List.mem_cons.mp hy with z | z
      · omega
      · exact ih.2 y z
    · rw [if_neg h] at e
      rw [e]
      refine ⟨List.mem_cons_self, fun y hy => ?_⟩
      rcases List.mem_cons.mp hy with z | z
      · omega
      · have := ih.2 y z; omega
theorem minL_uniq {l : List Int} {m : Int} (h1 : m ∈ l) (h2 : ∀ y ∈ l, m ≤ y) : minL l = m := by
  have hne : l ≠ [] := fun e => by rw [e] at h1; cases h1
  have := minL_spec hne
  have a := this.2 m h1
  have b := h2 _ this.1
  omega
theorem maxL_uniq {l : List Int} {m : Int} (h1 : m ∈ l) (h2 : ∀ y ∈ l, y ≤ m) : maxL l = m := by
  have hne : l ≠ [] := fun e => by rw [e] at h1; cases h1
  have := maxL_spec hne
  have a := this.2 m h1
  have b := h2 _ this.1
  omega
theorem minL_neg {x : List Int} (hx : x ≠ []) : minL (x.map fun n => 0 - n) = 0 - maxL x := by
  have a := maxL_spec hx
  refine minL_uniq (List.mem_map.mpr ⟨_, a.1, rfl⟩) fun y hy => ?_
  obtain ⟨z, hz, rfl⟩ := List.mem_map.mp hy
  have := a.2 z hz; omega
/-- the first place of n in a list -/
def fst (n : Int) : List Int → Nat
  | [] => 0
  | a :: r => if a = n then 0 else fst n r + 1
theorem fst_at {n : Int} : ∀ {l : List Int}, n ∈ l → l[fst n l]? = some n ∧ fst n l < l.length ∧ ∀ (m : Nat) (z : Int), m < fst n l → l[m]? = some z → z ≠ n
  | [], h => nomatch h
  | a :: r, h => by
    by_cases e : a = n
    · have ef : fst n (a :: r) = 0 := if_pos e
      rw [ef]
      exact ⟨by simp [e], by simp, fun m z hm => absurd hm (by omega)⟩
    · have ef : fst n (a :: r) = fst n r + 1 := if_neg e
      have h' : n ∈ r := by
        rcases List.mem_cons.mp h with z | z
        · exact absurd z.symm e
        · exact z
      obtain ⟨h1, h2, h3⟩ := fst_at h'
      rw [ef]
      refine ⟨by simpa using h1, by simp; omega, fun m z hm q => ?_⟩
      cases m with
      | zero =>
        have : a = z := by simpa using q
        rw [← this]; exact e
      | succ m => exact h3 m z (by omega) (by simpa using q)
/-- a stretch -/
def seg (ns : List Int) (b e : Int) : List Int := (ns.drop b.toNat).take (e.toNat - b.toNat)
/-- begin and end of a stretch of so many -/
structure IsSt (n : Nat) (b e : Int) : Prop where
  b0 : 0 ≤ b
  be : b < e
  en : e ≤ n
theorem seg_len {ns : List Int} {b e : Int} (h : IsSt ns.length b e) : (seg ns b e).length = e.toNat - b.toNat := by
  have := h.b0; have := h.be; have := h.en
  unfold seg
  rw [List.length_take, List.length_drop]
  omega
theorem seg_ne {ns : List Int} {b e : Int} (h : IsSt ns.length b e) : seg ns b e ≠ [] := fun z => by
  have := seg_len h
  rw [z] at this
  have := h.b0; have := h.be
  simp at *
  omega
theorem seg_cut {ns : List Int} {b e : Int} (h : IsSt ns.length b e) : cutI ns (some b) (some e) = seg ns b e := by
  have := h.b0; have := h.be; have := h.en
  exact cutI_from_to ns b e (by omega) (by omega) (by omega) (by omega)
theorem seg_map (f : Int → Int) (ns : List Int) (b e : Int) : seg (ns.map f) b e = (seg ns b e).map f := by
  unfold seg
  rw [List.map_take, List.map_drop]
theorem seg_get {ns : List Int} {b e : Int} (h0 : 0 ≤ b) {j : Nat} (hj : j < e.toNat - b.toNat) : (seg ns b e)[j]? = ns[b.toNat + j]? := by
  unfold seg
  rw [List.getElem?_take, if_pos hj, List.getElem?_drop]
/-- the first place of the least, within the stretch -/
def pl (l : List Int) : Nat := fst (minL l) l
end L2

set_option Elab.async false
set_option linter.all false
set_option maxRecDepth 100000
set_option maxHeartbeats 4000000
namespace L2
open PySem PySem.Spec PyProof.Rows
theorem ix_tupK {X : Cx} {K : PySem.W.Frag} (h : X.K = K) : IxR X (rIxT K) := by subst h; exact ix_tup
theorem ifNot {c : Prop} [Decidable c] {A B : Prop} (h : c) (hB : B) : if (!decide c) = true then A else B := by
  rw [decide_eq_true h]; exact hB
theorem updupd (H : Hp) (a : Addr) (o o' : HO) : upd (upd H a o) a o' = upd H a o' := by
  funext b
  unfold upd
  by_cases h : b = a
  · rw [if_pos h, if_pos h]
  · rw [if_neg h, if_neg h, if_neg h]
theorem get_ints {ns : List Int} {k : Nat} {x : V} (h : (ns.map V.int)[k]? = some x) : ∃ n, ns[k]? = some n ∧ x = .int n := by
  rw [List.getElem?_map] at h
  cases e : ns[k]? with
  | none => rw [e] at h; cases h
  | some n => rw [e] at h; exact ⟨n, rfl, (Option.some.inj h).symm⟩
theorem take_snoc {α : Type} {l : List α} {k : Nat} {n : α} (h : l[k]? = some n) : l.take (k + 1) = l.take k ++ [n] := by
  rw [List.take_succ, h]; rfl
/-- [f(n) for n in row]: a new list -/
theorem lc_mapI {K : PySem.W.Frag} {a : Addr} {ns : List Int} {f : Int → Int} {te : TE} {i : Nat} {vs : List Nat} {σ : St} {H : Hp} {D : Addr} {Qd : Hp → Prop} (hs : SqL K H a (ns.map V.int)) (hD : H D = none) (hlen : ns.length ≤ 1000)
    (hw : ∀ v, wipe ((wipe σ vs).set i (some v)) vs = wipe σ vs)
    (ht : ∀ (n : Int) (H' : Hp) (R : VK), R (.int (f n)) H' → te ((wipe σ vs).set i (some (.int n))) H' R)
    (hd : Qd (upd H D (.lst ((ns.map f).map V.int)))) :
    ∃ W : Nat → Nat → Hp → Prop, (∃ m, W 0 m (upd H D (.lst []))) ∧ ∀ j m H, W j m H →
      ((Itl K a).stop j H ∧ Qd H) ∨ ((Itl K a).go j H ∧ ∃ Nx : Hp → Prop, (∀ H', Nx H' → ∃ m', m' < m ∧ W (j + 1) m' H') ∧ ∀ x H', (Itl K a).yld j H x H' → gName i x (wipe σ vs) H' fun σ2 H2 => wipe σ2 vs = wipe σ vs ∧ tYes σ2 H2 fun b H3 =>
        if b = true then te σ2 H3 fun y H4 => ∃ acc, H4 D = some (.lst acc) ∧ acc.length < sizeLine ∧ Nx (upd H4 D (.lst (acc ++ [y]))) else Nx H3) := by
  refine lc_list (K := K) (a := a) (xs := ns.map V.int) (fun k H' => H' = upd H D (.lst (((ns.take k).map f).map V.int))) rfl (fun k H' _ e => by rw [e]; exact (Same.new hD).seq hs) ?_ ?_
  · rintro k x H' hx rfl
    obtain ⟨n, hn, rfl⟩ := get_ints hx
    refine ⟨hw _, ?_⟩
    show te ((wipe σ vs).set i (some (.int n))) _ _
    refine ht n _ _ ⟨_, upd_same, ?_, ?_⟩
    · rw [List.length_map, List.length_map]
      exact small1000 (Nat.le_trans (List.length_take_le' k ns) hlen)
    · rw [updupd, take_snoc hn, List.map_append, List.map_append]
      rfl
  · rintro H' rfl
    rw [List.length_map, List.take_length]
    exact hd
end L2

set_option Elab.async false
set_option linter.all false
set_option maxRecDepth 100000
set_option maxHeartbeats 4000000
namespace L2
open PySem PySem.Spec PyProof.Rows
def Sml (n : Int) : Prop := n.natAbs.log2 < 1920
theorem sml_of {n : Int} (h1 : -1000000000000 ≤ n) (h2 : n ≤ 1000000000000) : Sml n := by
  unfold Sml
  have h : n.natAbs < 2 ^ 41 := by
    have : (2 : Nat) ^ 41 = 2199023255552 := by decide
    omega
  by_cases h0 : n.natAbs = 0
  · rw [h0]; decide
  · have := (Nat.log2_lt h0).mpr h
    omega
theorem textFrom_le : ∀ (ts : List Str) (k m : Nat) (acc : Str), (∀ t ∈ ts, t.length ≤ m) → (textFrom k acc ts).length ≤ acc.length + ts.length * (m + 2)
  | [], k, m, acc, _ => by show acc.length ≤ _; omega
  | t :: r, k, m, acc, h => by
    have ih := textFrom_le r (k + 1) m (acc ++ (if k > 0 then ", " else "" : String) ++ t) fun x hx => h x (List.mem_cons_of_mem _ hx)
    have ht := h t List.mem_cons_self
    have hl : (acc ++ ((if k > 0 then ", " else "" : String) : Str) ++ t).length ≤ acc.length + 2 + t.length := by
      rw [Str.length_append, Str.length_append]
      have : ((if k > 0 then ", " else "" : String) : Str).length ≤ 2 := by split <;> decide
      omega
    show (textFrom (k + 1) (acc ++ (if k > 0 then ", " else "" : String) ++ t) r).length ≤ _
    rw [List.length_cons, Nat.succ_mul]
    omega
theorem listText_le (ts : List Str) (m : Nat) (h : ∀ t ∈ ts, t.length ≤ m) : (listText ts).length ≤ 2 + ts.length * (m + 2) := by
  unfold listText
  rw [Str.length_append]
  have := textFrom_le ts 0 m "[" h
  have h1 : ("[" : Str).length = 1 := by decide
  have h2 : ("]" : Str).length = 1 := by decide
  omega
section
variable {X : Cx}
end
end L2

set_option Elab.async false
set_option linter.all false
set_option maxRecDepth 100000
set_option maxHeartbeats 4000000
namespace L2
open PySem PySem.Spec PyProof.Rows
/-- for i, x in enumerate(xs), the list left as it is -/
theorem for_enum {K : PySem.W.Frag} {a : Addr} {xs : List V} {g : TG} {tb : TS} {D : Ends} {σ : St} {H : Hp} (Pv : Nat → St → Hp → Prop) (h0 : Pv 0 σ H) (hl : ∀ i σ H, i ≤ xs.length → Pv i σ H → SqL K H a xs)
    (hs : ∀ i x σ H T, xs[i]? = some x → Pv i σ H → H T = none → g (.ref T) σ (upd H T (.tup [.int (i : Nat), x])) fun σ2 H2 => tb { D with nx := Pv (i + 1), ct := Pv (i + 1), bk := D.nx } σ2 H2) (hd : ∀ σ H, Pv xs.length σ H → D.nx σ H) :
    ∃ W : Nat → Nat → St → Hp → Prop, (∃ m, W 0 m σ H) ∧ ∀ i m σ H, W i m σ H →
      ((Ite K a).stop i H ∧ D.nx σ H) ∨ ((Ite K a).go i H ∧ ∃ N : St → Hp → Prop, (∀ σ' H', N σ' H' → ∃ m', m' < m ∧ W (i + 1) m' σ' H') ∧ ∀ x H', (Ite K a).yld i H x H' → g x σ H' fun σ2 H2 => tb { D with nx := N, ct := N, bk := D.nx } σ2 H2) := by
  refine ⟨fun i m σ H => m = xs.length - i ∧ i ≤ xs.length ∧ Pv i σ H, ⟨xs.length, by simp, Nat.zero_le _, h0⟩, ?_⟩
  rintro i m σ H ⟨rfl, hi, p⟩
  have q := hl i σ H hi p
  by_cases hlt : i < xs.length
  · refine .inr ⟨⟨xs, xs[i], q, by simp [hlt]⟩, Pv (i + 1), fun σ' H' p' => ⟨xs.length - (i + 1), by omega, rfl, hlt, p'⟩, fun x H' y => ?_⟩
    obtain ⟨T, x, e1, e2, e3, y⟩ := y
    subst e1 e3
    exact hs i x σ _ T (y xs q) p e2
  · have e : i = xs.length := by omega
    subst e
    exact .inl ⟨⟨xs, q, Nat.le_refl _⟩, hd σ H p⟩

abbrev ZpO (h : Heap) (z TI TO : Addr) (f0 : Value) (f1 : Bool) : Prop :=
  h.get? z = some { cls := .type "zip", dict := none, data := .fields #[f0, .bool f1, .bool false, .ref TI, .ref TO], slots := #[] }
def ZpSt (h : Heap) (z TI TO : Addr) : Prop := (IsZip h z TI TO .none ∧ ∃ x y, IsPair h TO x y) ∨ ∃ (a : Addr) (o : Obj) (f1 : Bool), ZpO h z TI TO (rawInt a) f1 ∧ h.get? a = some o
section
variable {prog : Program} {w : World} {A : Around} {E : Value → Shared → Prop} {s : Shared}
theorem zp_free {z TI TO a : Addr} {oa : Obj} {f1 : Bool} {Q : Bool → Shared → Prop} (hz : ZpO s.heap z TI TO (rawInt a) f1) (ha : s.heap.get? a = some oa)
    (hQ : ∀ hh, ZpO hh z TI TO (rawInt a) true → Heap.SameBut z s.heap hh → Q false { s with heap := hh }) : wpAny (model prog w) A (Builtin.SmallTypes.ownedTupleIsFree (.ref z)) Q E s := by
  unfold Builtin.SmallTypes.ownedTupleIsFree
  refine wpAny_bind (wpAny_field hz rfl (x := rawInt a) rfl ?_)
  show wpAny _ _ (loadIfAlive ((a : Int).toNat) >>= _) _ _ _
  rw [Int.toNat_natCast]
  refine wpAny_bind (PySem.W.kdx_alive ha ?_)
  simp only [Option.isNone_some, Bool.false_eq_true, if_false]
  refine wpAny_bind (wpAny_field hz rfl (x := .bool f1) rfl ?_)
  cases f1 with
  | true =>
    rw [if_neg (show ¬ ((Value.bool true != Value.bool true) = true) from Bool.false_ne_true)]
    exact wpAny_pure (hQ _ hz (Heap.SameBut.refl _ _))
  | false =>
    rw [if_pos (show (Value.bool false != Value.bool true) = true from rfl)]
    exact wpAny_bind (wpAny_setField_rec hz (by simp) fun h₅ he₅ hs₅ => wpAny_pure (hQ h₅ he₅ hs₅))
theorem zp_next {z TI TO i1 i2 l1 l2 : Addr} {k : Nat} {xs ys : Array Value} {x y : Value} {Q : Option Value → Shared → Prop} (D : ZipApart z TI TO i1 i2 l1 l2)
    (hz : ZpSt s.heap z TI TO) (hTI : IsPair s.heap TI (.ref i1) (.ref i2))
    (h1 : s.heap.IsListIter i1 l1 k) (h2 : s.heap.IsListIter i2 l2 k) (hl1 : s.heap.IsList l1 xs) (hl2 : s.heap.IsList l2 ys) (hx : xs[k]? = some x) (hy : ys[k]? = some y)
    (hQ : ∀ h', ZpSt h' z TI TO → h'.IsListIter i1 l1 (k + 1) → h'.IsListIter i2 l2 (k + 1) → IsPair h' s.heap.objs.size x y → h'.objs.size = s.heap.objs.size + 1 →
      (∀ c o, c ≠ z → c ≠ TO → c ≠ i1 → c ≠ i2 → s.heap.get? c = some o → h'.get? c = some o) → Q (some (.ref s.heap.objs.size)) { s with heap := h' }) :
    wpAny (model prog w) A (pyNext (.ref z)) Q E s := by
  rcases hz with ⟨hz, a, b, hTO⟩ | ⟨a, oa, f1, hz, ha⟩
  · exact wpAny_pyNext_zip_item D hz hTI hTO h1 h2 hl1 hl2 hx hy fun h' z1 z2 z3 z4 z5 z6 z7 => hQ h' (.inr ⟨s.heap.objs.size, _, false, z1, z5⟩) z3 z4 z5 z6 z7
  · have hT : s.TypeIs (.ref z) "zip" := ⟨_, hz, rfl⟩
    unfold pyNext
    refine wpAny_bind (wpAny_attempt (wpAny_callSpecial?_slot (name := Str.ofString "__next__") hT F.slot_zip_next
      (wpAny_call_entry F.slot_zip_next hT F.entry_zip_next ?_ (F.args_zip_next_1 _))))
    show wpAny _ _ (field (.ref z) 2 >>= _) _ _ _
    refine wpAny_bind (wpAny_field hz rfl (x := .bool false) rfl ?_)
    show wpAny _ _ (field (.ref z) 3 >>= _) _ _ _
    refine wpAny_bind (wpAny_field hz rfl (x := .ref TI) rfl ?_)
    refine wpAny_bind (wpAny_seqItems hTI rfl ?_)
    show wpAny _ _ (Builtin.SmallTypes.ownedTupleIsFree (.ref z) >>= _) _ _ _
    refine wpAny_bind (zp_free hz ha fun hh hz₁ hs₁ => ?_)
    simp only [Bool.false_eq_true, if_false, List.forIn_toArray, List.forIn_cons, List.forIn_nil]
    refine wpAny_bind (wpAny_bind (wpAny_bind (wpAny_holding ?_)))
    show wpAny _ _ (Builtin.SmallTypes.nextOf (.ref i1) >>= _) _ _ _
    refine wpAny_bind (wpAny_nextOf_list_item (h1.extBut hs₁.extBut D.i1z) (hl1.extBut hs₁.extBut D.l1z) hx fun h₂ h1₂ hs₂ => wpAny_pure ?_)
    refine wpAny_pure ?_
    refine wpAny_bind (wpAny_bind (wpAny_holding ?_))
    show wpAny _ _ (Builtin.SmallTypes.nextOf (.ref i2) >>= _) _ _ _
    refine wpAny_bind (wpAny_nextOf_list_item ((h2.extBut hs₁.extBut D.i2z).extBut hs₂.extBut D.i12.symm) ((hl2.extBut hs₁.extBut D.l2z).extBut hs₂.extBut D.l2i1) hy fun h₄ h2₄ hs₄ => wpAny_pure ?_)
    refine wpAny_pure (wpAny_pure ?_)
    have hsz : h₄.objs.size = s.heap.objs.size := by rw [hs₄.1, hs₂.1, hs₁.1]
    have up : ∀ c o, c ≠ z → c ≠ i1 → c ≠ i2 → s.heap.get? c = some o → h₄.get? c = some o := fun c o c1 c2 c3 e => hs₄.extBut _ _ c3 (hs₂.extBut _ _ c2 (hs₁.extBut _ _ c1 e))
    have hz₄ : ZpO h₄ z TI TO (rawInt a) true := hs₄.extBut _ _ D.i2z.symm (hs₂.extBut _ _ D.i1z.symm hz₁)
    refine wpAny_bind (wpAny_newTuple (hsz := by show 2 ≤ sizeLine; decide) ?_)
    refine wpAny_pure ⟨_, rfl, wpAny_pure ?_⟩
    show Q (some (.ref h₄.objs.size)) _
    rw [hsz]
    refine hQ _ (.inr ?_) ?_ ?_ ?_ ?_ ?_
    · have ha4 : ∃ o, h₄.get? a = some o := by
        by_cases e1 : a = z
        · rw [e1]; exact ⟨_, hz₄⟩
        · by_cases e2 : a = i1
          · obtain ⟨o, ho, _⟩ := h1₂.extBut hs₄.extBut D.i12
            rw [e2]; exact ⟨o, ho⟩
          · by_cases e3 : a = i2
            · obtain ⟨o, ho, _⟩ := h2₄
              rw [e3]; exact ⟨o, ho⟩
            · exact ⟨_, up a oa e1 e2 e3 ha⟩
      obtain ⟨o4, ho4⟩ := ha4
      exact ⟨a, o4, true, Heap.get?_push_of_some _ hz₄, Heap.get?_push_of_some _ ho4⟩
    · exact (h1₂.extBut hs₄.extBut D.i12).at fun o e => Heap.get?_push_of_some _ e
    · exact h2₄.at fun o e => Heap.get?_push_of_some _ e
    · rw [← hsz]; exact Heap.get?_push_size _ rfl
    · rw [Heap.size_push, hsz]
    · exact fun c o c1 _ c3 c4 e => Heap.get?_push_of_some _ (up c o c1 c3 c4 e)
theorem zp_end {z TI TO i1 i2 l1 l2 : Addr} {k : Nat} {xs ys : Array Value} {Q : Option Value → Shared → Prop} (hh : A.handled = none) (D : ZipApart z TI TO i1 i2 l1 l2)
    (hz : ZpSt s.heap z TI TO) (hTI : IsPair s.heap TI (.ref i1) (.ref i2))
    (h1 : s.heap.IsListIter i1 l1 k) (h2 : s.heap.IsListIter i2 l2 k) (hl1 : s.heap.IsList l1 xs) (hl2 : s.heap.IsList l2 ys) (hx : xs[k]? = none)
    (hQ : ∀ h', (∀ c o, c ≠ z → c ≠ TO → c ≠ i1 → c ≠ i2 → s.heap.get? c = some o → h'.get? c = some o) → Q none { s with heap := h' }) : wpAny (model prog w) A (pyNext (.ref z)) Q E s := by
  rcases hz with ⟨hz, a, b, hTO⟩ | ⟨a, oa, f1, hz, ha⟩
  · exact wpAny_pyNext_zip_end hh D hz hTI hTO h1 h2 hl1 hl2 (.inl hx) hQ
  · have hT : s.TypeIs (.ref z) "zip" := ⟨_, hz, rfl⟩
    unfold pyNext
    refine wpAny_bind (wpAny_attempt (wpAny_callSpecial?_slot (name := Str.ofString "__next__") hT F.slot_zip_next
      (wpAny_call_entry F.slot_zip_next hT F.entry_zip_next ?_ (F.args_zip_next_1 _))))
    show wpAny _ _ (field (.ref z) 2 >>= _) _ _ _
    refine wpAny_bind (wpAny_field hz rfl (x := .bool false) rfl ?_)
    show wpAny _ _ (field (.ref z) 3 >>= _) _ _ _
    refine wpAny_bind (wpAny_field hz rfl (x := .ref TI) rfl ?_)
    refine wpAny_bind (wpAny_seqItems hTI rfl ?_)
    show wpAny _ _ (Builtin.SmallTypes.ownedTupleIsFree (.ref z) >>= _) _ _ _
    refine wpAny_bind (zp_free hz ha fun hh' hz₁ hs₁ => ?_)
    simp only [Bool.false_eq_true, if_false, List.forIn_toArray, List.forIn_cons, List.forIn_nil]
    refine wpAny_bind (wpAny_bind (wpAny_bind (wpAny_holding ?_)))
    show wpAny _ _ (Builtin.SmallTypes.nextOf (.ref i1) >>= _) _ _ _
    refine wpAny_bind (wpAny_nextOf_list_end hh (h1.extBut hs₁.extBut D.i1z) (hl1.extBut hs₁.extBut D.l1z) hx fun h₂ e hs₂ he => ?_)
    obtain ⟨o, ho, hc⟩ := he
    refine wpAny_bind (wpAny_isInstance (T := "StopIteration") (b := true) ⟨o, ho, hc⟩ isSubtype_stop ?_)
    exact wpAny_pure (hQ _ fun c o c1 _ c3 _ q => hs₂ _ _ c3 (hs₁.extBut _ _ c1 q))
def PrsZ (base : Nat) (xs ys acc : Array Value) (h : Heap) : Prop :=
  ∀ (j : Nat) (u : Value), acc[j]? = some u → ∃ (T : Addr) (x y : Value), u = .ref T ∧ base ≤ T ∧ T < h.objs.size ∧ xs[j]? = some x ∧ ys[j]? = some y ∧ h.get? T = some { cls := .type "tuple", data := .seq #[x, y] }
/-- the tuples' places rise -/
def Ris (acc : Array Value) (n : Nat) : Prop := (∀ (j : Nat) (T : Addr), acc[j]? = some (.ref T) → T < n) ∧ ∀ (i j : Nat) (T U : Addr), i < j → acc[i]? = some (.ref T) → acc[j]? = some (.ref U) → T < U
theorem zp_loop {R : Result → Shared → Prop} {z TI TO i1 i2 l1 l2 S : Addr} {xs ys : Array Value} {base : Nat} (hh : A.handled = none) (D : ZipApart z TI TO i1 i2 l1 l2) (hne : xs.size = ys.size) (hSz : S ≠ z) (hSI : S ≠ TI) (hSO : S ≠ TO) (hS1 : S ≠ i1) (hS2 : S ≠ i2) (hl1S : l1 ≠ S) (hl2S : l2 ≠ S)
    (hbz : z < base) (hbO : TO < base) (hb1 : i1 < base) (hb2 : i2 < base) (hbS : S < base) (hn : xs.size ≤ sizeLine) (res : Value) :
    ∀ (k i : Nat) (s : Shared) (acc : Array Value) (c : Nat), xs.size - i = k → i ≤ xs.size → base ≤ s.heap.objs.size → ZpSt s.heap z TI TO → IsPair s.heap TI (.ref i1) (.ref i2) → s.heap.IsListIter i1 l1 i → s.heap.IsListIter i2 l2 i → s.heap.IsList l1 xs → s.heap.IsList l2 ys →
    s.heap.get? S = some { cls := .type "list", dict := none, data := .seq acc c, slots := #[] } → acc.size = i → PrsZ base xs ys acc s.heap → Ris acc s.heap.objs.size →
    (∀ h' acc' c', (∀ b o, b ≠ S → b ≠ z → b ≠ TO → b ≠ i1 → b ≠ i2 → s.heap.get? b = some o → h'.get? b = some o) → h'.get? S = some { cls := .type "list", dict := none, data := .seq acc' c', slots := #[] } → acc'.size = xs.size →
      (∀ (j : Nat) (u : Value), acc'[j]? = some u → ∃ (T : Addr) (x y : Value), u = .ref T ∧ base ≤ T ∧ xs[j]? = some x ∧ ys[j]? = some y ∧ h'.get? T = some { cls := .type "tuple", data := .seq #[x, y] }) → (∀ (i j : Nat) (T U : Addr), i < j → acc'[i]? = some (.ref T) → acc'[j]? = some (.ref U) → T < U) → R (.ok (.ret res)) { s with heap := h' }) →
    codeAny (model prog w) A (.builtin "list.extend.loop" ⟨[.ref S, .ref z, res], []⟩) R s := by
  intro k
  induction k with
  | zero =>
    intro i s acc c hk hi hb hz hTI h1 h2 hl1 hl2 hS hac hp hris hR
    have hin : i = xs.size := by omega
    refine codeAny_builtin F.entry_extend_loop ?_
    rw [Around.under_plainId F.plain_extend_loop _]
    show wpAny _ A.in1 (pyNext (.ref z) >>= _) _ _ s
    refine wpAny_bind (zp_end hh D hz hTI h1 h2 hl1 hl2 (Array.getElem?_eq_none (by omega)) fun h' hx => ?_)
    refine wpAny_pure (hR h' acc c (fun b o b1 b2 b3 b4 b5 q => hx b o b2 b3 b4 b5 q) (hx S _ hSz hSO hS1 hS2 hS) (by omega) (fun j u q => ?_) hris.2)
    obtain ⟨T, x, y, e1, e2, e2', e3, e4, e5⟩ := hp j u q
    exact ⟨T, x, y, e1, e2, e3, e4, hx T _ (Nat.ne_of_gt (Nat.lt_of_lt_of_le hbz e2)) (Nat.ne_of_gt (Nat.lt_of_lt_of_le hbO e2)) (Nat.ne_of_gt (Nat.lt_of_lt_of_le hb1 e2)) (Nat.ne_of_gt (Nat.lt_of_lt_of_le hb2 e2)) e5⟩
  | succ k ih =>
    intro i s acc c hk hi hb hz hTI h1 h2 hl1 hl2 hS hac hp hris hR
    have hlt : i < xs.size := by omega
    have hx : xs[i]? = some xs[i] := Array.getElem?_eq_getElem hlt
    have hy : ys[i]? = some (ys[i]'(by omega)) := Array.getElem?_eq_getElem (by omega)
    refine codeAny_builtin F.entry_extend_loop ?_
    rw [Around.under_plainId F.plain_extend_loop _]
    show wpAny _ A.in1 (pyNext (.ref z) >>= _) _ _ s
    refine wpAny_bind (zp_next D hz hTI h1 h2 hl1 hl2 hx hy fun h' hz' h1' h2' hT hsz hk' => ?_)
    have hS' : h'.get? S = some { cls := .type "list", dict := none, data := .seq acc c, slots := #[] } := hk' S _ hSz hSO hS1 hS2 hS
    show wpAny _ A.in1 (updateSeq S (·.push (.ref s.heap.objs.size)) >>= _) _ _ _
    refine wpAny_bind ?_
    have oth : ∀ b o, b ≠ S → h'.get? b = some o → (h'.update S (Obj.mapSeq (·.push (.ref s.heap.objs.size)))).get? b = some o := fun b o hb q => (Heap.get?_update_other _ _ (Ne.symm hb)).trans q
    have hszS : s.heap.objs.size ≠ S := Nat.ne_of_gt (Heap.lt_size hS)
    refine wpAny_updateSeq hS' rfl (wpAny_pure ⟨plainId_quiet F.plain_extend_loop _, ih (i + 1) _ (acc.push (.ref s.heap.objs.size)) _ (by omega) hlt ?_ ?_ ?_ ?_ ?_ ?_ ?_ (Heap.get?_update_self _ hS' rfl) (by rw [Array.size_push, hac]) ?_ ?_ ?_⟩)
      (by rw [hac]; omega) (by show (acc.push _).size ≤ sizeLine + 1; rw [Array.size_push, hac]; omega)
    · show base ≤ (h'.update S _).objs.size
      rw [Heap.size_update, hsz]; omega
    · rcases hz' with ⟨q, x, y, q2⟩ | ⟨a, oa, f1, q, q1⟩
      · exact .inl ⟨oth _ _ (Ne.symm hSz) q, x, y, oth _ _ (Ne.symm hSO) q2⟩
      · by_cases haS : a = S
        · subst haS
          exact .inr ⟨a, _, f1, oth _ _ (Ne.symm hSz) q, Heap.get?_update_self _ hS' rfl⟩
        · exact .inr ⟨a, oa, f1, oth _ _ (Ne.symm hSz) q, oth _ _ haS q1⟩
    · exact oth _ _ (Ne.symm hSI) (hk' TI _ D.TIz D.TITO D.TIi1 D.TIi2 hTI)
    · exact h1'.at fun o q => oth _ o (Ne.symm hS1) q
    · exact h2'.at fun o q => oth _ o (Ne.symm hS2) q
    · exact (hl1.at fun o q => hk' l1 o D.l1z D.l1TO D.l1i1 D.l1i2 q).at fun o q => oth _ o hl1S q
    · exact (hl2.at fun o q => hk' l2 o D.l2z D.l2TO D.l2i1 D.l2i2 q).at fun o q => oth _ o hl2S q
    · intro j u q
      have hsz2 : (h'.update S (Obj.mapSeq (·.push (.ref s.heap.objs.size)))).objs.size = s.heap.objs.size + 1 := by rw [Heap.size_update, hsz]
      by_cases hj : j = acc.size
      · subst hj
        rw [Array.getElem?_push_size] at q
        have q' := Option.some.inj q
        subst q'
        exact ⟨s.heap.objs.size, xs[i], _, rfl, hb, by show _ < (h'.update S _).objs.size; omega, by rw [hac]; exact hx, by rw [hac]; exact hy, oth _ _ hszS hT⟩
      · rw [Array.getElem?_push, if_neg hj] at q
        obtain ⟨T, x, y, e1, e2, e2', e3, e4, e5⟩ := hp j u q
        exact ⟨T, x, y, e1, e2, by show _ < (h'.update S _).objs.size; rw [hsz2]; exact Nat.lt_succ_of_lt e2', e3, e4, oth _ _ (Nat.ne_of_gt (Nat.lt_of_lt_of_le hbS e2)) (hk' T _ (Nat.ne_of_gt (Nat.lt_of_lt_of_le hbz e2)) (Nat.ne_of_gt (Nat.lt_of_lt_of_le hbO e2)) (Nat.ne_of_gt (Nat.lt_of_lt_of_le hb1 e2)) (Nat.ne_of_gt (Nat.lt_of_lt_of_le hb2 e2)) e5)⟩
    · have hsz2 : (h'.update S (Obj.mapSeq (·.push (.ref s.heap.objs.size)))).objs.size = s.heap.objs.size + 1 := by rw [Heap.size_update, hsz]
      have at1 : ∀ (j : Nat) (T : Addr), (acc.push (.ref s.heap.objs.size))[j]? = some (.ref T) → (j = acc.size ∧ T = s.heap.objs.size) ∨ (j ≠ acc.size ∧ acc[j]? = some (.ref T)) := fun j T q => by
        by_cases hj : j = acc.size
        · subst hj
          rw [Array.getElem?_push_size] at q
          have q' := Option.some.inj q
          cases q'
          exact .inl ⟨rfl, rfl⟩
        · rw [Array.getElem?_push, if_neg hj] at q
          exact .inr ⟨hj, q⟩
      refine ⟨fun j T q => ?_, fun i' j' T U hij q1 q2 => ?_⟩
      · show T < (h'.update S _).objs.size
        rcases at1 j T q with ⟨_, e⟩ | ⟨_, e⟩
        · rw [e, hsz2]; exact Nat.lt_succ_self _
        · have := hris.1 j T e
          rw [hsz2]; exact Nat.lt_succ_of_lt this
      · rcases at1 i' T q1 with ⟨a1, a2⟩ | ⟨a1, a2⟩
        · rcases at1 j' U q2 with ⟨b1, b2⟩ | ⟨b1, b2⟩
          · omega
          · have hlt' : j' < acc.size := by
              rcases Nat.lt_or_ge j' acc.size with z | z
              · exact z
              · rw [Array.getElem?_eq_none z] at b2; cases b2
            omega
        · rcases at1 j' U q2 with ⟨b1, b2⟩ | ⟨b1, b2⟩
          · rw [b2]; exact hris.1 i' T a2
          · exact hris.2 i' j' T U hij a2 b2
    · intro h'' acc' c' hk'' hS'' hsz'' hp'' hr''
      exact hR h'' acc' c' (fun b o b1 b2 b3 b4 b5 q => hk'' b o b1 b2 b3 b4 b5 (oth b o b1 (hk' b o b2 b3 b4 b5 q))) hS'' hsz'' hp'' hr''
theorem call_list_zp {Q : Value → Shared → Prop} {z TI TO i1 i2 l1 l2 : Addr} {xs ys : Array Value} (hh : A.handled = none) (D : ZipApart z TI TO i1 i2 l1 l2) (hne : xs.size = ys.size) (hz : IsZip s.heap z TI TO .none) (hTI : IsPair s.heap TI (.ref i1) (.ref i2)) (hTO : IsPair s.heap TO .none .none)
    (h1 : s.heap.IsListIter i1 l1 0) (h2 : s.heap.IsListIter i2 l2 0) (hl1 : s.heap.IsList l1 xs) (hl2 : s.heap.IsList l2 ys) (hn : xs.size ≤ sizeLine)
    (hQ : ∀ h' acc' c', (∀ b o, b ≠ z → b ≠ TO → b ≠ i1 → b ≠ i2 → s.heap.get? b = some o → h'.get? b = some o) →
      h'.get? s.heap.objs.size = some { cls := .type "list", dict := none, data := .seq acc' c', slots := #[] } → acc'.size = xs.size →
      (∀ (j : Nat) (u : Value), acc'[j]? = some u → ∃ (T : Addr) (x y : Value), u = .ref T ∧ s.heap.objs.size + 1 ≤ T ∧ xs[j]? = some x ∧ ys[j]? = some y ∧ h'.get? T = some { cls := .type "tuple", data := .seq #[x, y] }) → (∀ (i j : Nat) (T U : Addr), i < j → acc'[i]? = some (.ref T) → acc'[j]? = some (.ref U) → T < U) → Q (.ref s.heap.objs.size) { s with heap := h' }) :
    wpAny (model prog w) A (call (.type "list") [.ref z]) Q E s := by
  have lz : z < s.heap.objs.size := Heap.lt_size hz
  have lI : TI < s.heap.objs.size := Heap.lt_size hTI
  have lO : TO < s.heap.objs.size := Heap.lt_size hTO
  have li1 : i1 < s.heap.objs.size := by obtain ⟨_, q, _⟩ := h1; exact Heap.lt_size q
  have li2 : i2 < s.heap.objs.size := by obtain ⟨_, q, _⟩ := h2; exact Heap.lt_size q
  have ll1 : l1 < s.heap.objs.size := by obtain ⟨_, q, _⟩ := hl1; exact Heap.lt_size q
  have ll2 : l2 < s.heap.objs.size := by obtain ⟨_, q, _⟩ := hl2; exact Heap.lt_size q
  refine call_list_it (T := "zip") (by decide) (by decide) FF.zip_no_len FF.zip_no_hint lz (fun s2 k => ⟨_, k z _ (Nat.ne_of_lt lz) hz, rfl⟩) (fun s2 A2 E2 Q2 k q => wpAny_pyIter_zip (k z _ (Nat.ne_of_lt lz) hz) q) fun hp2 c k hsz hS => ?_
  refine zp_loop (A := A.in1) (base := s.heap.objs.size + 1) (xs := xs) (ys := ys) (l1 := l1) (l2 := l2) (TI := TI) (TO := TO) (i1 := i1) (i2 := i2) hh D hne (Nat.ne_of_gt lz) (Nat.ne_of_gt lI) (Nat.ne_of_gt lO) (Nat.ne_of_gt li1) (Nat.ne_of_gt li2) (Nat.ne_of_lt ll1) (Nat.ne_of_lt ll2)
    (Nat.lt_succ_of_lt lz) (Nat.lt_succ_of_lt lO) (Nat.lt_succ_of_lt li1) (Nat.lt_succ_of_lt li2) (Nat.lt_succ_self _) hn .none _ 0 { s with heap := hp2 } #[] c rfl (Nat.zero_le _) (by show _ ≤ hp2.objs.size; omega)
    (.inl ⟨k z _ (Nat.ne_of_lt lz) hz, _, _, k TO _ (Nat.ne_of_lt lO) hTO⟩) (k TI _ (Nat.ne_of_lt lI) hTI) (h1.at fun o q => k i1 o (Nat.ne_of_lt li1) q) (h2.at fun o q => k i2 o (Nat.ne_of_lt li2) q) (hl1.at fun o q => k l1 o (Nat.ne_of_lt ll1) q) (hl2.at fun o q => k l2 o (Nat.ne_of_lt ll2) q) hS rfl
    (fun j u q => by simp at q) ⟨fun j T q => by simp at q, fun i j T U _ q => by simp at q⟩ fun h' acc' c' k' hS' hz' hp hr => ?_
  exact ⟨rfl, hQ h' acc' c' (fun b o b1 b2 b3 b4 q => k' b o (Nat.ne_of_lt (Heap.lt_size q)) b1 b2 b3 b4 (k b o (Nat.ne_of_lt (Heap.lt_size q)) q)) hS' hz' hp hr⟩
end
/-- list(zip(a, b)), two lists of one length: a new list of new pairs -/
def tListZip (K : PySem.W.Frag) (ta : TA) : TE := fun σ H Q => ta σ H fun vs H1 => ∃ a b xs ys, vs = [.ref a, .ref b] ∧ SqL K H1 a xs ∧ SqL K H1 b ys ∧ xs.length = ys.length ∧ ∀ (H' : Hp) (l : Addr) (ts : List Addr), Same H1 H' → H1 l = none → H' l = some (.lst (ts.map V.ref)) → ts.length = xs.length →
  (∀ (j : Nat) (t : Addr), ts[j]? = some t → H' t = some (.tup [xs.getD j .non, ys.getD j .non])) → Q (.ref l) H'
theorem pe_list_zip {X : Cx} {e e2 : Expr} {ta : TA} {p p' pos pos' : Pos} (hc : X.calm = true) (hg : Gl X "list") (hm : X.mg "list" = none) (hg' : Gl X "zip") (hm' : X.mg "zip" = none) (ha : PA X [e, e2] ta) (hs : starEach [e, e2] X.env = (false, eval e X.env) :: starEach [e2] X.env := by rfl) (hpl : (backTo pos' (starEach [e2] X.env)).any (·.1) = false := by rfl)
    (hs2 : starEach [.Call (.Name "zip" p') [e, e2] [] pos'] X.env = [(false, eval (.Call (.Name "zip" p') [e, e2] [] pos') X.env)] := by rfl) :
    PE X (.Call (.Name "list" p) [.Call (.Name "zip" p') [e, e2] [] pos'] [] pos) (tListZip X.K ta) := by
  intro pins s σ H Q I h
  refine Call_ (ld_blt I hg hm boot_list_ty (PyProof.Rows.callWith_type1 ?_ hs2 rfl))
  rw [hs2]
  show wpAny _ _ (spliced ((false, eval (.Call (.Name "zip" p') [e, e2] [] pos') X.env) :: backTo pos (starEach [] X.env))) _ _ s
  refine Calls.spliced_cons ?_
  refine Call_ (ld_blt I hg' hm' boot_zip5 (PyProof.Rows.callWith_type1 (thn (ha pos' pins s σ H _ I h) fun us s1 ⟨vs, H1, I1, r1, q1⟩ => ?_) hs hpl))
  obtain ⟨a, b, xs, ys, ex, hqx, hqy, hlen, q⟩ := q1
  subst ex
  cases r1 with
  | cons r rr =>
    cases rr with
    | cons r' rr =>
      cases rr
      cases r
      cases r'
      obtain ⟨its, rv, p1, hz1⟩ := I1.list hqx
      obtain ⟨its2, rv2, p2, hz2⟩ := I1.list hqy
      have hal : a < s1.heap.objs.size := by obtain ⟨_, z, _⟩ := p1.isList; exact Heap.lt_size z
      have hbl : b < s1.heap.objs.size := by obtain ⟨_, z, _⟩ := p2.isList; exact Heap.lt_size z
      have e1 := rv.length
      have e2 := rv2.length
      refine call_zip_2 p1.isList p2.isList fun h' hz hTI hTO hi1 hi2 hsz hk => Calls.spliced_nil ?_
      have D : ZipApart (s1.heap.objs.size + 4) (s1.heap.objs.size + 2) (s1.heap.objs.size + 3) s1.heap.objs.size (s1.heap.objs.size + 1) a b := by
        have ga : ∀ n, a ≠ s1.heap.objs.size + n := fun n => Nat.ne_of_lt (Nat.lt_of_lt_of_le hal (Nat.le_add_right _ _))
        have gb : ∀ n, b ≠ s1.heap.objs.size + n := fun n => Nat.ne_of_lt (Nat.lt_of_lt_of_le hbl (Nat.le_add_right _ _))
        have nn : ∀ (m n : Nat), m ≠ n → s1.heap.objs.size + m ≠ s1.heap.objs.size + n := fun m n h z => h (Nat.add_left_cancel z)
        exact ⟨nn 2 4 (by decide), nn 3 4 (by decide), nn 0 4 (by decide), nn 1 4 (by decide), nn 2 3 (by decide), nn 2 0 (by decide), nn 2 1 (by decide), nn 3 0 (by decide), nn 3 1 (by decide), nn 0 1 (by decide), ga 4, ga 3, ga 0, ga 1, gb 4, gb 3, gb 0, gb 1⟩
      refine call_list_zp (s := { s1 with heap := h' }) (xs := its.toArray) (ys := its2.toArray) (I1.ok.hd hc) D (by rw [List.size_toArray, List.size_toArray]; omega) hz hTI hTO hi1 hi2 (p1.isList.at fun o z => hk a o z) (p2.isList.at fun o z => hk b o z) (by rw [List.size_toArray]; omega) fun h'' acc c k2 hS hsz2 hp hr => ?_
      have hS1 : s1.heap.objs.size ≤ h'.objs.size := by rw [hsz]; exact Nat.le_add_right _ _
      obtain ⟨H', ts, I', sm, nl, hl', tl, fr, ct⟩ := I1.newPairs (t' := s1.toks) (h' := h'') (S := h'.objs.size) (acc := acc) (f := fun j => [xs.getD j .non, ys.getD j .non])
        (fun c u z => by
          have hlt := Heap.lt_size z
          exact k2 c u (Nat.ne_of_lt (Nat.lt_of_lt_of_le hlt (Nat.le_add_right _ _))) (Nat.ne_of_lt (Nat.lt_of_lt_of_le hlt (Nat.le_add_right _ _))) (Nat.ne_of_lt hlt) (Nat.ne_of_lt (Nat.lt_of_lt_of_le hlt (Nat.le_add_right _ _))) (hk c u z)) hS1 hS (by rw [hsz2, List.size_toArray]; omega)
        (fun j u z => by
          obtain ⟨T, x, y, a1, a2, a3, a4, a5⟩ := hp j u z
          rw [List.getElem?_toArray] at a3 a4
          have hjl : j < xs.length := by rw [e1]; exact (List.getElem?_eq_some_iff.mp a3).1
          have hjl2 : j < ys.length := by omega
          obtain ⟨x', ex', rx⟩ := rv.get (x := xs[j]) (i := j) (by simp [hjl])
          obtain ⟨y', ey', ry⟩ := rv2.get (x := ys[j]) (i := j) (by simp [hjl2])
          rw [a3] at ex'
          cases ex'
          rw [a4] at ey'
          cases ey'
          refine ⟨T, [x, y], a1, a2, .cons ?_ (.cons ?_ .nil), Nat.le_refl _, a5⟩
          · simpa [hjl] using rx
          · simpa [hjl2] using ry)
        (fun i j T z1 z2 => by
          rcases Nat.lt_trichotomy i j with w | w | w
          · exact absurd (hr i j T T w z1 z2) (Nat.lt_irrefl _)
          · exact w
          · exact absurd (hr j i T T w z2 z1) (Nat.lt_irrefl _))
      exact ⟨.ref h'.objs.size, H', I', rfl, q H' h'.objs.size ts sm nl hl' (by rw [tl, hsz2, List.size_toArray, e1]) ct⟩
section
variable {prog : Program} {w : World} {A : Around} {E : Value → Shared → Prop} {s : Shared}
end
end L2

set_option Elab.async false
set_option linter.all false
set_option maxRecDepth 100000
set_option maxHeartbeats 4000000
namespace L2
open PySem PySem.Spec PyProof.Rows
abbrev vl (ns : List Int) (i : Nat) : Int := ns.getD i 0
structure IsReach (ns : List Int) (i b e : Nat) : Prop where
  bi : b ≤ i
  ie : i < e
  en : e ≤ ns.length
  bg : ∀ j, b ≤ j → j < i → vl ns i < vl ns j
  b0 : b = 0 ∨ vl ns (b - 1) ≤ vl ns i
  eg : ∀ j, i ≤ j → j < e → vl ns i ≤ vl ns j
  e0 : e = ns.length ∨ vl ns e < vl ns i
theorem IsReach.uniq {ns : List Int} {i b e b' e' : Nat} (h : IsReach ns i b e) (h' : IsReach ns i b' e') : b = b' ∧ e = e' := by
  constructor
  · rcases Nat.lt_trichotomy b b' with z | z | z
    · rcases h'.b0 with q | q
      · omega
      · have := h.bg (b' - 1) (by omega) (by have := h'.bi; omega)
        omega
    · exact z
    · rcases h.b0 with q | q
      · omega
      · have := h'.bg (b - 1) (by omega) (by have := h.bi; omega)
        omega
  · rcases Nat.lt_trichotomy e e' with z | z | z
    · rcases h.e0 with q | q
      · have := h'.en; omega
      · have := h'.eg e (by have := h.ie; omega) z
        omega
    · exact z
    · rcases h'.e0 with q | q
      · have := h.en; omega
      · have := h.eg e' (by have := h'.ie; omega) z
        omega
/-- the reaches of all places -/
def AreReaches (ns : List Int) (ps : List (Int × Int)) : Prop := ps.length = ns.length ∧ ∀ (i : Nat) (p : Int × Int), ps[i]? = some p → ∃ b e : Nat, p = ((b : Int), (e : Int)) ∧ IsReach ns i b e
theorem AreReaches.uniq {ns : List Int} {ps qs : List (Int × Int)} (h : AreReaches ns ps) (h' : AreReaches ns qs) : ps = qs := by
  apply List.ext_getElem?
  intro i
  by_cases hi : i < ns.length
  · have hp : ps[i]? = some (ps[i]'(by rw [h.1]; exact hi)) := List.getElem?_eq_getElem _
    have hq : qs[i]? = some (qs[i]'(by rw [h'.1]; exact hi)) := List.getElem?_eq_getElem _
    obtain ⟨b, e, e1, r⟩ := h.2 i _ hp
    obtain ⟨b', e', e1', r'⟩ := h'.2 i _ hq
    obtain ⟨z1, z2⟩ := r.uniq r'
    rw [hp, hq, e1, e1', z1, z2]
  · rw [List.getElem?_eq_none (by rw [h.1]; omega), List.getElem?_eq_none (by rw [h'.1]; omega)]
structure Stk (ns : List Int) (m : Nat) (top : Nat) (ws es : List Nat) : Prop where
  lenE : es.length = ns.length
  mn : m ≤ ns.length
  inc : ws.Pairwise (· < ·)
  lt : ∀ j ∈ ws, j < m
  gone : ∀ j, j < m → j ∉ ws → ∃ k, es[j]? = some k ∧ j < k ∧ k < top ∧ vl ns k < vl ns j ∧ ∀ i, j ≤ i → i < k → vl ns j ≤ vl ns i
  wait : ∀ j ∈ ws, es[j]? = some ns.length ∧ ∀ i, j ≤ i → i < m → vl ns j ≤ vl ns i
  rest : ∀ j, m ≤ j → j < ns.length → es[j]? = some ns.length
theorem Stk.start (ns : List Int) : Stk ns 0 0 [] (List.replicate ns.length ns.length) where
  lenE := List.length_replicate
  mn := Nat.zero_le _
  inc := .nil
  lt := fun j hj => nomatch hj
  gone := fun j hj => absurd hj (Nat.not_lt_zero _)
  wait := fun j hj => nomatch hj
  rest := fun j _ hj => by rw [List.getElem?_replicate, if_pos hj]
theorem Stk.mono {ns : List Int} {m t t' : Nat} {ws es : List Nat} (h : Stk ns m t ws es) (ht : t ≤ t') : Stk ns m t' ws es :=
  ⟨h.lenE, h.mn, h.inc, h.lt, fun j hj hn => by obtain ⟨k, a, b, c, d⟩ := h.gone j hj hn; exact ⟨k, a, b, by omega, d⟩, h.wait, h.rest⟩
/-- a waiting place that is greater than the number at m goes -/
theorem Stk.pop {ns : List Int} {m w : Nat} {ws es : List Nat} (h : Stk ns m (m + 1) (ws ++ [w]) es) (hm : m < ns.length) (hv : vl ns m < vl ns w) : Stk ns m (m + 1) ws (es.set w m) := by
  have hinc := List.pairwise_append.mp h.inc
  have hwm := h.lt w (by simp)
  have hwE : w < es.length := by rw [h.lenE]; omega
  refine ⟨by rw [List.length_set]; exact h.lenE, h.mn, hinc.1, fun j hj => h.lt j (by simp [hj]), fun j hj hn => ?_, fun j hj => ?_, fun j hj hl => ?_⟩
  · by_cases e : j = w
    · subst e
      refine ⟨m, by rw [List.getElem?_set_self hwE], hj, Nat.lt_succ_self _, hv, (h.wait j (by simp)).2⟩
    · obtain ⟨k, a, r⟩ := h.gone j hj (by simp [hn, e])
      exact ⟨k, by rw [List.getElem?_set_ne (fun z => e z.symm)]; exact a, r⟩
  · have hlt := hinc.2.2 j hj w (by simp)
    obtain ⟨a, b⟩ := h.wait j (by simp [hj])
    exact ⟨by rw [List.getElem?_set_ne (by omega)]; exact a, b⟩
  · rw [List.getElem?_set_ne (by omega)]; exact h.rest j hj hl
/-- where the reach of m begins -/
def bgn (ws : List Nat) : Nat := match ws.getLast? with | some w => w + 1 | none => 0
theorem Stk.beg {ns : List Int} {m : Nat} {ws es : List Nat} (h : Stk ns m (m + 1) ws es) (hm : m < ns.length) (hv : ∀ w, ws.getLast? = some w → vl ns w ≤ vl ns m) :
    bgn ws ≤ m ∧ (∀ j, bgn ws ≤ j → j < m → vl ns m < vl ns j) ∧ (bgn ws = 0 ∨ vl ns (bgn ws - 1) ≤ vl ns m) := by
  have hb : bgn ws ≤ m ∧ (∀ j, bgn ws ≤ j → j ∉ ws) ∧ (bgn ws = 0 ∨ vl ns (bgn ws - 1) ≤ vl ns m) := by
    cases e : ws.getLast? with
    | none =>
      have : ws = [] := List.getLast?_eq_none_iff.mp e
      have eb : bgn ws = 0 := by unfold bgn; rw [e]
      rw [eb]
      exact ⟨Nat.zero_le _, fun j _ => by rw [this]; simp, .inl rfl⟩
    | some w =>
      have eb : bgn ws = w + 1 := by unfold bgn; rw [e]
      obtain ⟨ys, hys⟩ := List.getLast?_eq_some_iff.mp e
      have hw : w ∈ ws := by rw [hys]; simp
      have hwm := h.lt w hw
      rw [eb]
      refine ⟨hwm, fun j hj hm' => ?_, .inr (by simpa using hv w e)⟩
      rw [hys] at hm'
      rcases List.mem_append.mp hm' with z | z
      · have hi := h.inc
        rw [hys] at hi
        have := (List.pairwise_append.mp hi).2.2 j z w (by simp)
        omega
      · have : j = w := by simpa using z
        omega
  refine ⟨hb.1, ?_, hb.2.2⟩
  have key : ∀ (d j : Nat), m - j ≤ d → bgn ws ≤ j → j < m → vl ns m < vl ns j := by
    intro d
    induction d with
    | zero => intro j hd _ hj; omega
    | succ d ih =>
      intro j hd hj1 hj2
      obtain ⟨k, _, hk1, hk2, hk3, _⟩ := h.gone j hj2 (hb.2.1 j hj1)
      by_cases e : k = m
      · rw [← e]; exact hk3
      · have := ih k (by omega) (by omega) (by omega)
        omega
  exact fun j => key (m - j) j (Nat.le_refl _)
/-- m waits -/
theorem Stk.push {ns : List Int} {m : Nat} {ws es : List Nat} (h : Stk ns m (m + 1) ws es) (hm : m < ns.length) (hv : ∀ w, ws.getLast? = some w → vl ns w ≤ vl ns m) : Stk ns (m + 1) (m + 1) (ws ++ [m]) es := by
  refine ⟨h.lenE, hm, ?_, fun j hj => ?_, fun j hj hn => ?_, fun j hj => ?_, fun j hj hl => h.rest j (by omega) hl⟩
  · exact List.pairwise_append.mpr ⟨h.inc, List.pairwise_singleton _ _, fun a ha b hb => by
      have h1 := h.lt a ha
      have h2 : b = m := (by simpa using hb)
      omega⟩
  · rcases List.mem_append.mp hj with z | z
    · have := h.lt j z; omega
    · have : j = m := by simpa using z
      omega
  · have hn' : j ∉ ws ∧ j ≠ m := by simpa using hn
    exact h.gone j (by omega) hn'.1
  · rcases List.mem_append.mp hj with z | z
    · obtain ⟨a, b⟩ := h.wait j z
      refine ⟨a, fun i h1 h2 => ?_⟩
      rcases Nat.lt_succ_iff_lt_or_eq.mp h2 with q | q
      · exact b i h1 q
      · subst q
        cases e : ws.getLast? with
        | none => rw [List.getLast?_eq_none_iff.mp e] at z; cases z
        | some w =>
          have hw := hv w e
          obtain ⟨ys, hys⟩ := List.getLast?_eq_some_iff.mp e
          have hjw : j ≤ w := by
            rw [hys] at z
            rcases List.mem_append.mp z with q | q
            · have hi := h.inc
              rw [hys] at hi
              have := (List.pairwise_append.mp hi).2.2 j q w (by simp)
              omega
            · have : j = w := by simpa using q
              omega
          have hwm := h.lt w (by rw [hys]; simp)
          have := b w hjw hwm
          omega
    · have : j = m := by simpa using z
      subst this
      exact ⟨h.rest j (Nat.le_refl _) hm, fun i h1 h2 => by
        have e : i = j := (by omega)
        rw [e]; exact Int.le_refl _⟩
/-- the begins so far -/
def Begs (ns : List Int) (bs : List Nat) : Prop := ∀ (i b : Nat), bs[i]? = some b → b ≤ i ∧ (∀ j, b ≤ j → j < i → vl ns i < vl ns j) ∧ (b = 0 ∨ vl ns (b - 1) ≤ vl ns i)
theorem Begs.snoc {ns : List Int} {bs : List Nat} {b : Nat} (h : Begs ns bs) (hb : b ≤ bs.length ∧ (∀ j, b ≤ j → j < bs.length → vl ns bs.length < vl ns j) ∧ (b = 0 ∨ vl ns (b - 1) ≤ vl ns bs.length)) : Begs ns (bs ++ [b]) := by
  intro i c hc
  by_cases hi : i < bs.length
  · rw [List.getElem?_append_left hi] at hc
    exact h i c hc
  · rw [List.getElem?_append_right (by omega)] at hc
    have hi' : i - bs.length = 0 := by
      rcases Nat.eq_zero_or_pos (i - bs.length) with z | z
      · exact z
      · rw [List.getElem?_eq_none (by simp; omega)] at hc; cases hc
    rw [hi'] at hc
    have : b = c := by simpa using hc
    have hi2 : i = bs.length := by omega
    subst this hi2
    exact hb
theorem reaches_done {ns : List Int} {bs ws es : List Nat} (hb : Begs ns bs) (hl : bs.length = ns.length) (h : Stk ns ns.length ns.length ws es) : AreReaches ns (List.zipWith (fun (b e : Nat) => ((b : Int), (e : Int))) bs es) := by
  refine ⟨by rw [List.length_zipWith, hl, h.lenE]; exact Nat.min_self _, fun i p hp => ?_⟩
  rw [List.getElem?_zipWith] at hp
  cases e1 : bs[i]? with
  | none => rw [e1] at hp; simp at hp
  | some b =>
    cases e2 : es[i]? with
    | none => rw [e1, e2] at hp; simp at hp
    | some e =>
      rw [e1, e2] at hp
      have hp' : ((b : Int), (e : Int)) = p := by simpa using hp
      have hi : i < ns.length := by rw [← hl]; exact (List.getElem?_eq_some_iff.mp e1).1
      obtain ⟨b1, b2, b3⟩ := hb i b e1
      refine ⟨b, e, hp'.symm, ?_⟩
      by_cases hw : i ∈ ws
      · obtain ⟨w1, w2⟩ := h.wait i hw
        rw [e2] at w1
        have : e = ns.length := Option.some.inj w1
        subst this
        exact ⟨b1, hi, Nat.le_refl _, b2, b3, w2, .inl rfl⟩
      · obtain ⟨k, g1, g2, g3, g4, g5⟩ := h.gone i hi hw
        rw [e2] at g1
        have : e = k := Option.some.inj g1
        subst this
        exact ⟨b1, g2, by omega, b2, b3, g5, .inr g4⟩
abbrev nV (j : Nat) : V := .int (j : Int)
def PrAt (H : Hp) (ts : List Addr) (ps : List (Int × Int)) : Prop := ts.length = ps.length ∧ ∀ (j : Nat) (t : Addr) (p : Int × Int), ts[j]? = some t → ps[j]? = some p → H t = some (.tup [.int p.1, .int p.2])
theorem PrAt.same {H H' : Hp} {ts : List Addr} {ps : List (Int × Int)} (h : PrAt H ts ps) (s : Same H H') : PrAt H' ts ps := ⟨h.1, fun j t p h1 h2 => s _ _ (h.2 j t p h1 h2)⟩
theorem PrAt.at {H : Hp} {ts : List Addr} {ps : List (Int × Int)} {D : Addr} {xs ys : List V} (h : PrAt H ts ps) (hD : H D = some (.lst xs)) : PrAt (L2.upd H D (.lst ys)) ts ps := ⟨h.1, fun j t p h1 h2 => by
  have c := h.2 j t p h1 h2
  rw [upd_ne fun z => by rw [z, hD] at c; cases c]
  exact c⟩
theorem PrAt.but {H H' : Hp} {p : Addr} {ts : List Addr} {ps : List (Int × Int)} (h : PrAt H ts ps) (k : But p H H') (hh : Hand H p) : PrAt H' ts ps := ⟨h.1, fun j t q h1 h2 => by
  have c := h.2 j t q h1 h2
  refine k _ _ (fun z => ?_) c
  obtain ⟨d, e', hp, _⟩ := hh
  rw [z, hp] at c; cases c⟩
theorem PrAt.dpAll {K : PySem.W.Frag} {H : Hp} : ∀ {ts : List Addr} {ps : List (Int × Int)}, PrAt H ts ps → DpAll K H (ts.map V.ref) (ps.map prD)
  | [], [], _ => .nil
  | [], _ :: _, h => by have := h.1; simp at this
  | _ :: _, [], h => by have := h.1; simp at this
  | t :: ts, p :: ps, h => by
    have c := h.2 0 t p rfl rfl
    refine .cons (.tup (SqT.of c) (.cons (.int _) (.cons (.int _) .nil))) (PrAt.dpAll (ts := ts) (ps := ps) ⟨by have := h.1; simpa using this, fun j t' p' h1 h2 => h.2 (j + 1) t' p' (by simpa using h1) (by simpa using h2)⟩)
theorem PrAt.dp {K : PySem.W.Frag} {H : Hp} {a : Addr} {ts : List Addr} {ps : List (Int × Int)} (h : PrAt H ts ps) (ha : SqL K H a (ts.map V.ref)) : Dp K H (.ref a) (prsD ps) := .lst ha h.dpAll
theorem flat_one {α : Type} (k : Nat) (x : α) : (List.replicate k [x]).flatten = List.replicate k x := by
  induction k with
  | zero => rfl
  | succ k ih => rw [List.replicate_succ, List.flatten_cons, ih]; rfl
theorem Same.at {D : Addr} {H H' : Hp} {o : HO} (s : Same H H') (f : H D = none) : Same H (L2.upd H' D o) := fun b u e => by
  rw [upd_ne (ne_of_none e f)]; exact s b u e
theorem at_vl {ns : List Int} {i : Nat} (h : i < ns.length) : atI (ns.map V.int) ((i : Nat) : Int) = some (V.int (vl ns i)) := by
  have := at_int (ns := ns) (i := (i : Int)) (by omega) (by omega)
  simpa using this
theorem get_vl {ns : List Int} {i : Nat} {n : Int} (h : ns[i]? = some n) : n = vl ns i := by
  unfold vl
  rw [List.getD_eq_getElem?_getD, h]
  rfl
end L2

set_option Elab.async false
set_option linter.all false
set_option maxRecDepth 100000
set_option maxHeartbeats 4000000
namespace L2
open PySem PySem.Spec PyProof.Rows
def sumN : Nat → (Nat → Int) → Int
  | 0, _ => 0
  | n + 1, g => sumN n g + g n
theorem sumN_congr : ∀ {n : Nat} {g h : Nat → Int}, (∀ i, i < n → g i = h i) → sumN n g = sumN n h
  | 0, _, _, _ => rfl
  | n + 1, g, h, e => by
    show sumN n g + g n = sumN n h + h n
    rw [sumN_congr fun i hi => e i (by omega), e n (by omega)]
theorem sumN_zero : ∀ (n : Nat), sumN n (fun _ => 0) = 0
  | 0 => rfl
  | n + 1 => by show sumN n _ + 0 = 0; rw [sumN_zero n]; rfl
theorem sumN_add : ∀ (n : Nat) (g h : Nat → Int), sumN n (fun i => g i + h i) = sumN n g + sumN n h
  | 0, _, _ => rfl
  | n + 1, g, h => by
    show sumN n _ + (g n + h n) = (sumN n g + g n) + (sumN n h + h n)
    rw [sumN_add n g h]; omega
theorem sumN_comm : ∀ (n m : Nat) (g : Nat → Nat → Int), sumN n (fun i => sumN m (fun j => g i j)) = sumN m (fun j => sumN n (fun i => g i j))
  | 0, m, g => by show (0 : Int) = sumN m fun _ => 0; rw [sumN_zero]
  | n + 1, m, g => by
    show sumN n _ + sumN m (fun j => g n j) = sumN m (fun j => sumN n (fun i => g i j) + g n j)
    rw [sumN_add, sumN_comm n m g]
/-- the sum over all stretches of f at the first least place -/
def overSt (ns : List Int) (f : Nat → Int) : Int := sumN ns.length fun b => sumN ns.length fun e => if b ≤ e then f (b + pl (seg ns (b : Int) ((e + 1 : Nat) : Int))) else 0
end L2

set_option Elab.async false
set_option linter.all false
set_option maxRecDepth 100000
set_option maxHeartbeats 4000000
namespace L2
open PySem PySem.Spec PyProof.Rows
def dd (ns : List Int) : Nat := (PyProof.Rows.firstMet (fun i => ns.getD i 0) ns.length).length
section
variable {X : Cx}
end
theorem vl_map {f : Int → Int} {ns : List Int} {i : Nat} (h : i < ns.length) : vl (ns.map f) i = f (vl ns i) := by
  unfold vl
  rw [List.getD_eq_getElem?_getD, List.getD_eq_getElem?_getD, List.getElem?_map, List.getElem?_eq_getElem h]
  rfl
theorem IsReach.map {f : Int → Int} (hf : ∀ x y, f x < f y ↔ x < y) {ns : List Int} {i b e : Nat} (h : IsReach ns i b e) : IsReach (ns.map f) i b e := by
  have hie := h.ie; have hen := h.en; have hbi := h.bi
  have hle : ∀ x y, f x ≤ f y ↔ x ≤ y := fun x y => by
    have := hf y x
    constructor <;> intro q <;> omega
  refine ⟨hbi, hie, by rw [List.length_map]; exact hen, fun j h1 h2 => ?_, ?_, fun j h1 h2 => ?_, ?_⟩
  · rw [vl_map (by omega), vl_map (by omega)]; exact (hf _ _).mpr (h.bg j h1 h2)
  · rcases h.b0 with q | q
    · exact .inl q
    · right; rw [vl_map (by omega), vl_map (by omega)]; exact (hle _ _).mpr q
  · rw [vl_map (by omega), vl_map (by omega)]; exact (hle _ _).mpr (h.eg j h1 h2)
  · rcases h.e0 with q | q
    · left; rw [List.length_map]; exact q
    · by_cases z : e = ns.length
      · left; rw [List.length_map]; exact z
      · right; rw [vl_map (by omega), vl_map (by omega)]; exact (hf _ _).mpr q
theorem AreReaches.map {f : Int → Int} (hf : ∀ x y, f x < f y ↔ x < y) {ns : List Int} {ps : List (Int × Int)} (h : AreReaches ns ps) : AreReaches (ns.map f) ps :=
  ⟨by rw [List.length_map]; exact h.1, fun i p hp => let ⟨b, e, e1, r⟩ := h.2 i p hp; ⟨b, e, e1, r.map hf⟩⟩
theorem vl_seg {ns : List Int} {b e : Nat} {j : Nat} (h : j < e - b) : vl (seg ns (b : Int) (e : Int)) j = vl ns (b + j) := by
  unfold vl
  rw [List.getD_eq_getElem?_getD, List.getD_eq_getElem?_getD, seg_get (by omega) (by omega)]
  have : (b : Int).toNat + j = b + j := by omega
  rw [this]
end L2

set_option Elab.async false
set_option linter.all false
set_option maxRecDepth 100000
set_option maxHeartbeats 4000000
namespace L2
open PySem PySem.Spec PyProof.Rows
theorem PrAt.snoc {H : Hp} {ts : List Addr} {ps : List (Int × Int)} {t : Addr} {p : Int × Int} (h : PrAt H ts ps) (ht : H t = some (.tup [.int p.1, .int p.2])) : PrAt H (ts ++ [t]) (ps ++ [p]) := by
  refine ⟨by rw [List.length_append, List.length_append, h.1]; rfl, fun j t' p' h1 h2 => ?_⟩
  rcases Nat.lt_trichotomy j ts.length with z | z | z
  · rw [List.getElem?_append_left z] at h1
    rw [List.getElem?_append_left (by rw [← h.1]; exact z)] at h2
    exact h.2 j t' p' h1 h2
  · subst z
    rw [List.getElem?_append_right (Nat.le_refl _), Nat.sub_self] at h1
    rw [h.1, List.getElem?_append_right (Nat.le_refl _), Nat.sub_self] at h2
    have e1 : t = t' := by simpa using h1
    have e2 : p = p' := by simpa using h2
    subst e1 e2
    exact ht
  · rw [List.getElem?_eq_none (by rw [List.length_append, List.length_singleton]; omega)] at h1
    cases h1
theorem get_refs {ts : List Addr} {k : Nat} {x : V} (h : (ts.map V.ref)[k]? = some x) : ∃ t, ts[k]? = some t ∧ x = .ref t := by
  rw [List.getElem?_map] at h
  cases e : ts[k]? with
  | none => rw [e] at h; cases h
  | some t => rw [e] at h; exact ⟨t, rfl, (Option.some.inj h).symm⟩
end L2

set_option Elab.async false
set_option linter.all false
set_option maxRecDepth 100000
set_option maxHeartbeats 4000000
namespace L2
open PySem PySem.Spec PyProof.Rows
theorem sumN_from : ∀ (n b : Nat) (h : Nat → Int), sumN n (fun e => if b ≤ e then h e else 0) = sumN (n - b) fun j => h (b + j)
  | 0, b, h => by rw [Nat.zero_sub]; rfl
  | n + 1, b, h => by
    show sumN n (fun e => if b ≤ e then h e else 0) + (if b ≤ n then h n else 0) = _
    rw [sumN_from n b h]
    by_cases z : b ≤ n
    · have e1 : n + 1 - b = (n - b) + 1 := by omega
      have e2 : b + (n - b) = n := by omega
      rw [e1, if_pos z]
      show _ = sumN (n - b) _ + h (b + (n - b))
      rw [e2]
    · have e1 : n + 1 - b = 0 := by omega
      have e2 : n - b = 0 := by omega
      rw [e1, e2, if_neg z]; rfl
theorem sumN_neg : ∀ (n : Nat) (g : Nat → Int), sumN n (fun i => -(g i)) = -(sumN n g)
  | 0, _ => rfl
  | n + 1, g => by
    show sumN n (fun i => -(g i)) + -(g n) = -(sumN n g + g n)
    rw [sumN_neg n g]; omega
theorem sumN_sub (n : Nat) (g h : Nat → Int) : sumN n (fun i => g i - h i) = sumN n g - sumN n h := by
  have e : (fun i => g i - h i) = fun i => g i + -(h i) := funext fun i => by omega
  rw [e, sumN_add, sumN_neg]; omega
def sumSt (ns : List Int) (g : List Int → Int) : Int := sumN ns.length fun b => sumN (ns.length - b) fun j => g (seg ns (b : Int) ((b + j + 1 : Nat) : Int))
theorem least_at {ns : List Int} {b e : Nat} (h : b < e) (he : e ≤ ns.length) : vl ns (b + pl (seg ns (b : Int) (e : Int))) = minL (seg ns (b : Int) (e : Int)) := by
  have st : IsSt ns.length (b : Int) (e : Int) := ⟨by omega, by omega, by omega⟩
  obtain ⟨f1, f2, f3⟩ := fst_at (minL_spec (seg_ne st)).1
  have sl := seg_len st
  have hp : pl (seg ns (b : Int) (e : Int)) < e - b := by unfold pl; omega
  rw [← vl_seg (e := e) hp]
  unfold vl pl
  rw [List.getD_eq_getElem?_getD, f1]; rfl
theorem sumSt_least (ns : List Int) : sumSt ns minL = overSt ns (vl ns) := by
  unfold sumSt overSt
  refine sumN_congr fun b hb => ?_
  rw [sumN_from]
  refine sumN_congr fun j hj => ?_
  exact (least_at (b := b) (e := b + j + 1) (by omega) (by omega)).symm
theorem great_of_neg {ns : List Int} {b e : Nat} (h : b < e) (he : e ≤ ns.length) : maxL (seg ns (b : Int) (e : Int)) = -(minL (seg (ns.map fun n => -n) (b : Int) (e : Int))) := by
  have st : IsSt ns.length (b : Int) (e : Int) := ⟨by omega, by omega, by omega⟩
  have em : (ns.map fun n => -n) = ns.map fun n => 0 - n := List.map_congr_left fun n _ => by omega
  rw [em, seg_map, minL_neg (seg_ne st)]; omega
theorem sumSt_great (ns : List Int) : sumSt ns maxL = -(overSt (ns.map fun n => -n) (vl (ns.map fun n => -n))) := by
  rw [← sumSt_least]
  unfold sumSt
  rw [List.length_map, ← sumN_neg]
  refine sumN_congr fun b hb => ?_
  rw [← sumN_neg]
  exact sumN_congr fun j hj => great_of_neg (by omega) (by omega)
end L2

set_option Elab.async false
set_option linter.all false
set_option maxRecDepth 100000
set_option maxHeartbeats 4000000
namespace L2
open PySem PySem.Spec PyProof.Rows
theorem sumN_split : ∀ (p k : Nat) (f : Nat → Int), sumN (p + k) f = sumN p f + sumN k fun i => f (p + i)
  | p, 0, f => by show sumN p f = sumN p f + 0; omega
  | p, k + 1, f => by
    show sumN (p + k) f + f (p + k) = sumN p f + (sumN k (fun i => f (p + i)) + f (p + k))
    rw [sumN_split p k f]; omega
theorem sumN_head : ∀ (n : Nat) (f : Nat → Int), sumN (n + 1) f = f 0 + sumN n fun i => f (i + 1)
  | 0, f => by show 0 + f 0 = f 0 + 0; omega
  | n + 1, f => by
    show sumN (n + 1) f + f (n + 1) = f 0 + (sumN n (fun i => f (i + 1)) + f (n + 1))
    rw [sumN_head n f]; omega
theorem sumN_const (n : Nat) (c : Int) : sumN n (fun _ => c) = (n : Int) * c := by
  induction n with
  | zero => simp [sumN]
  | succ n ih =>
    show sumN n _ + c = _
    rw [ih, show ((n + 1 : Nat) : Int) = (n : Int) + 1 from by omega, Int.add_mul, Int.one_mul]
end L2

set_option Elab.async false
set_option linter.all false
set_option maxRecDepth 100000
set_option maxHeartbeats 4000000
namespace L2
open PySem PySem.Spec PyProof.Rows
section
variable {X : Cx} {tg : Expr}
end
theorem sum_range' (f : Nat → Int) : ∀ n, ((List.range n).map f).sum = sumN n f
  | 0 => rfl
  | n + 1 => by
    rw [List.range_succ, List.map_append, List.sum_append, sum_range' f n]
    show sumN n f + (f n + 0) = sumN n f + f n
    omega
end L2

set_option Elab.async false
set_option linter.all false
set_option maxRecDepth 100000
set_option maxHeartbeats 4000000
namespace L2
open PySem PySem.Spec PyProof.Rows

/-- the code object that runs: all that a generator expression wants of it -/
def CodeK (P : Program) (K : PySem.W.Frag) (mg : Str → Option Value) (cdv : Value) : Prop :=
  ∃ (c Pt : Addr) (oc : Obj) (vs : Array Value) (file : Str) (tf : Tok) (flags : Int) (tg : Tok) (inF : Bool) (text : Int) (tt : Tok), cdv = .ref c ∧ TabOf P K mg Pt ∧ K.lookup c = some oc ∧ oc.cls = .type "code" ∧ oc.data = .fields vs ∧
    vs.getD 11 .none = .ref Pt ∧ vs[11]? = some (.ref Pt) ∧ vs.getD 18 .none = .str file tf ∧ vs.getD 7 .none = .int flags tg ∧ vs.getD 9 .none = .bool inF ∧ vs.getD 10 .none = .int text tt
section
variable {X : Cx} {pins : List (Addr × Obj)} {σ : St} {H : Hp} {s : Shared}
end
end L2

set_option Elab.async false
set_option linter.all false
set_option maxRecDepth 100000
set_option maxHeartbeats 4000000
namespace L2
open PySem PySem.Spec PyProof.Rows

section
variable {scope : Scope} {cl : List (Str × Addr)} {env : Env} {prog : Program} {w : World} {xa xb : Str}
end

def DefG (P : Program) (K : PySem.W.Frag) (mg : Str → Option Value) (x : Str) (st : Stmt) (ps : List Str) : Prop :=
  ∃ (f : Addr) (fd : FuncData), mg x = some (.ref f) ∧ Fun K x x st f fd ∧ Binds K fd ps [] ∧ CodeK P K mg fd.code
section
variable {P : Program} {w : World} {K : PySem.W.Frag} {mg : Str → Option Value} {base : Heap}
theorem DefG.fn {x : Str} {st : Stmt} {N ps : List Str} {k : Nat} {sp : Sp} (D : DefG P K mg x st ps) (S : FnScope N ps (defScope st)) (len : ∀ vs H Q E, sp vs H Q E → vs.length = ps.length)
    (hbody : ∀ (f : Addr) (cdv : Value) (A : Around) (outer : List Env) (s : Shared) (H : Hp) (vs : List V) (Q : VK) (E : XK), CodeK P K mg cdv → Room k (A.deeper (envOfC x (defScope st) s.heap.objs.size f cdv)) → sp vs H Q E →
      ∃ t, PSs (cxOf CX0 P w K mg base N x (defScope st) f cdv A outer s H E).nox (defBody st) t ∧ t { nx := fun _ H' => Q .non H', rt := Q } (start N vs) H) : Fn P w K mg base (k + 1) x ps sp := by
  obtain ⟨f, fd, hm, F, b, ck⟩ := D
  refine ⟨f, fd, hm, F.kp, b, ?_⟩
  obtain ⟨oc, od, kV, doc, pm, an, cdv, ct, osl, rfl, lk, hcd⟩ := F.ex
  refine fn_of lk hcd S len fun A outer s H vs Q E hr hsp => ?_
  obtain ⟨t, h, q⟩ := hbody f cdv A outer s H vs Q E ck hr hsp
  exact ⟨t, h.nox, q⟩
end
end L2

set_option Elab.async false
set_option linter.all false
set_option maxRecDepth 100000
set_option maxHeartbeats 4000000
namespace L2
open PySem PySem.Spec PyProof.Rows
namespace FF
theorem sub_ri_reversed : isSubtype (.type "range_iterator") (.type "reversed") = pure false := by rw [isSubtype_type]; kernel_rfl
end FF
section
variable {prog : Program} {w : World} {A : Around} {E : Value → Shared → Prop} {s : Shared}
abbrev rriO (n : Int) : Obj := { cls := .type "range_iterator", data := .fields #[rawInt (n - 1), rawInt n, rawInt (-1)] }
theorem call_range_reversed {r : Addr} {n : Int} {t u v : Tok} {Q : Value → Shared → Prop} (h1 : 0 ≤ n) (h2 : n < 2 ^ 62) (hr : IsRange s.heap r 0 n 1 t u v)
    (h : Q (.ref s.heap.objs.size) { s with heap := s.heap.push (rriO n) }) : wpAny (model prog w) A (call (.builtin "range.__reversed__") [.ref r]) Q E s := by
  have hT : s.TypeIs (.ref r) "range" := ⟨_, hr, rfl⟩
  refine wpAny_call_entry F.slot_range_reversed hT F.entry_range_reversed ?_ (F.args_range_reversed_1 _)
  unfold Builtin.«range.__reversed__»
  refine wpAny_bind (wpAny_of_eq (a := Value.ref r) rfl ?_)
  refine wpAny_bind ?_
  unfold Builtin.Range.rangeFields
  refine wpAny_bind (wpAny_field hr rfl (x := .int 0 t) rfl ?_)
  refine wpAny_bind (wpAny_of_eq (a := some 0) rfl ?_)
  refine wpAny_bind (wpAny_field hr rfl (x := .int n u) rfl ?_)
  refine wpAny_bind (wpAny_of_eq (a := some n) rfl ?_)
  refine wpAny_bind (wpAny_field hr rfl (x := .int 1 v) rfl ?_)
  refine wpAny_bind (wpAny_of_eq (a := some 1) rfl ?_)
  refine wpAny_pure ?_
  have e : Builtin.Range.rangeSize 0 n 1 = n := by
    unfold Builtin.Range.rangeSize
    rw [if_pos (by decide)]
    by_cases z : 0 < n
    · rw [if_pos z]; omega
    · rw [if_neg z]; omega
  have f1 : Builtin.Range.rangeFitsLong n = true := by
    unfold Builtin.Range.rangeFitsLong
    simp only [Bool.and_eq_true, decide_eq_true_eq]
    omega
  have f2 : (Builtin.Range.rangeFitsLong 0 && Builtin.Range.rangeFitsLong n && Builtin.Range.rangeFitsLong 1 && Builtin.Range.rangeFitsLong (-1) && Builtin.Range.rangeFitsLong (0 - 1) && Builtin.Range.rangeFitsLong (Builtin.Range.rangeSize 0 n 1)) = true := by
    rw [e, f1]
    decide
  dsimp only
  rw [f2]
  simp only [Bool.not_true, Bool.false_eq_true, if_false, if_true]
  rw [e]
  have e2 : (0 : Int) + (n - 1) * 1 = n - 1 := by omega
  rw [e2]
  refine wpAny_bind ?_
  simp only [newFields]
  exact wpAny_newObj_type (wpAny_pure ⟨_, rfl, h⟩) (by size_fits)
theorem code_reversed_range {r : Addr} {n : Int} {t u v : Tok} {Q₁ : Value → Shared → Prop} (h1 : 0 ≤ n) (h2 : n < 2 ^ 62) (hr : IsRange s.heap r 0 n 1 t u v)
    (h : Q₁ (.ref s.heap.objs.size) { s with heap := s.heap.push (rriO n) }) :
    codeAny (model prog w) A (.call (.builtin "reversed.__new__") ⟨[.type "reversed", .ref r], []⟩) (wants Q₁ E) s := by
  have hT : s.TypeIs (.ref r) "range" := ⟨_, hr, rfl⟩
  refine codeAny_of_tree ?_
  show wpAny _ A.in1 (do checkBuiltinCall "reversed.__new__" ⟨[.type "reversed", .ref r], []⟩; again (.builtin "reversed.__new__" ⟨[.type "reversed", .ref r], []⟩)) _ _ s
  refine wpAny_bind (wpAny_of_eq (F.newCall_reversed_1 _) (wpAny_pure ⟨plainId_quiet F.plain_reversed_new _, codeAny_builtin F.entry_reversed_new ?_⟩))
  rw [Around.under_plainId F.plain_reversed_new _]
  unfold Builtin.«reversed.__new__»
  refine wpAny_bind (wpAny_of_eq (newClass_reversed _) ?_)
  try dsimp only
  refine wpAny_bind (wpAny_of_eq (a := ()) (by first | rfl | kernel_rfl) ?_)
  refine wpAny_bind (wpAny_of_eq (a := ()) (by first | rfl | kernel_rfl) ?_)
  try dsimp only
  refine wpAny_bind (wpAny_specialOf hT F.slot_range_reversed.lookup ?_)
  try dsimp only
  refine wpAny_bind (wpAny_of_eq (F.slot_range_reversed.bind _) ?_)
  try dsimp only
  first
  | rw [if_neg (show ¬ ((Value.builtin "range.__reversed__" == Value.none) = true) from Bool.false_ne_true)]
  | (show wpAny _ _ (if (Value.builtin "range.__reversed__" == Value.none) = true then _ else _) _ _ _; rw [if_neg (show ¬ ((Value.builtin "range.__reversed__" == Value.none) = true) from Bool.false_ne_true)])
  refine wpAny_bind (wpAny_rule ?_)
  refine wpAny_bind (m := runValue (.call (.builtin "range.__reversed__") ⟨[.ref r], []⟩)) (show wpAny _ _ (call (.builtin "range.__reversed__") [.ref r]) _ _ _ from call_range_reversed h1 h2 hr ?_)
  first
  | exact wpAny_pure h
  | exact wpAny_bind (wpAny_pure (wpAny_pure h))
theorem call_reversed_range {r : Addr} {n : Int} {t u v : Tok} {Q : Value → Shared → Prop} (h1 : 0 ≤ n) (h2 : n < 2 ^ 62) (hr : IsRange s.heap r 0 n 1 t u v)
    (h : Q (.ref s.heap.objs.size) { s with heap := s.heap.push (rriO n) }) : wpAny (model prog w) A (call (.type "reversed") [.ref r]) Q E s := by
  refine callType_other (U := "range_iterator") (Q₁ := fun obj s₁ => obj = .ref s.heap.objs.size ∧ s₁ = { s with heap := s.heap.push (rriO n) }) (by decide +kernel) F.create_reversed ⟨_, _, F.mro_reversed⟩ F.made_reversed FF.sub_ri_reversed (F.typeCall_reversed_1 _) (code_reversed_range h1 h2 hr ⟨rfl, rfl⟩) ?_
  rintro obj s₁ ⟨rfl, rfl⟩
  exact ⟨⟨_, Heap.get?_push_size _ rfl, rfl⟩, h⟩
end
def iRevR (ta : TA) : TI := fun σ H R => ta σ H fun vs H1 => ∃ n : Nat, vs = [.int (n : Int)] ∧ (n : Int) < 2 ^ 62 ∧ R (Itc ((n : Int) - 1) (-1) n) H1
theorem pi_revRange {X : Cx} {tg : Expr} {e : Expr} {ta : TA} {p p' pos pos' : Pos} (hg : Gl X "reversed") (hm : X.mg "reversed" = none) (hg' : Gl X "range") (hm' : X.mg "range" = none) (ha : PA X [e] ta) (hs : starEach [e] X.env = [(false, eval e X.env)] := by rfl)
    (hs2 : starEach [.Call (.Name "range" p') [e] [] pos'] X.env = [(false, eval (.Call (.Name "range" p') [e] [] pos') X.env)] := by rfl) :
    PI X tg (.Call (.Name "reversed" p) [.Call (.Name "range" p') [e] [] pos'] [] pos) (iRevR ta) := by
  intro pins s σ H R I h
  refine Call_ (ld_blt I hg hm boot_reversed5 (PyProof.Rows.callWith_type1 ?_ hs2 rfl))
  rw [hs2]
  show wpAny _ _ (spliced ((false, eval (.Call (.Name "range" p') [e] [] pos') X.env) :: backTo pos (starEach [] X.env))) _ _ s
  refine Calls.spliced_cons ?_
  refine Call_ (ld_blt I hg' hm' boot_range (PyProof.Rows.callWith_type1 (thn (ha pos' pins s σ H _ I h) fun us s1 ⟨vs, H1, I1, r1, q1⟩ => ?_) hs rfl))
  obtain ⟨n, e, q1, q⟩ := q1
  subst e
  cases r1 with
  | cons r rr =>
    cases rr
    obtain ⟨t, rfl⟩ := r
    refine call_range_1 (Calls.spliced_nil ?_)
    have I2 : Inv X pins σ H1 { s1 with heap := s1.heap.push { cls := .type "range", data := .fields #[.int 0 s1.toks, .int n t, .int 1 (s1.toks + 1)] }, toks := s1.toks + 1 + 1 } := I1.kept fun b o e => Heap.get?_push_of_some _ e
    refine call_reversed_range (n := (n : Int)) (by omega) q1 (Heap.get?_push_size _ rfl) ?_
    refine wpAny_pyIter_rangeiter (x := (n : Int) - 1) (left := (n : Int)) (step := -1) (Heap.get?_push_size _ rfl) ?_
    refine pi_one (tk := s1.toks + 1 + 1) I2 _ (turn_rangeC _ ((n : Int) - 1) (-1) n) ?_ q
    have e1 : (n : Int) - 1 + ((0 : Nat) : Int) * (-1) = (n : Int) - 1 := by simp
    have e2 : (n : Int) - ((0 : Nat) : Int) = (n : Int) := by simp
    show IsRangeIter _ _ ((n : Int) - 1 + ((0 : Nat) : Int) * (-1)) ((n : Int) - ((0 : Nat) : Int)) (-1)
    rw [e1, e2]
    exact Heap.get?_push_size _ rfl

def MFn (P : Program) (w : World) (K : PySem.W.Frag) (mg : Str → Option Value) (base : Heap) (k : Nat) (C : Addr) (m : Str) (ps : List Str) (sp : Sp) : Prop :=
  ∃ (f : Addr) (fd : FuncData), Cls K C ∧ Meth K C m f ∧ Binds K fd ps [] ∧ FnOk P w K mg base CX0 k f fd ps sp
def IFn (P : Program) (w : World) (K : PySem.W.Frag) (mg : Str → Option Value) (base : Heap) (k : Nat) (x : Str) (C : Addr) (ps : List Str) (sp : Sp) : Prop :=
  ∃ (f : Addr) (fd : FuncData), mg x = some (.ref C) ∧ Mk K C f ∧ Binds K fd ps [] ∧ FnOk P w K mg base CX0 k f fd ps sp
def DefM (K : PySem.W.Frag) (C : Addr) (m qual : Str) (st : Stmt) (ps : List Str) : Prop :=
  ∃ (f : Addr) (fd : FuncData), Cls K C ∧ Meth K C m f ∧ Fun K m qual st f fd ∧ Binds K fd ps []
def DefI (K : PySem.W.Frag) (mg : Str → Option Value) (x : Str) (C : Addr) (qual : Str) (st : Stmt) (ps : List Str) : Prop :=
  ∃ (f : Addr) (fd : FuncData), mg x = some (.ref C) ∧ Mk K C f ∧ Fun K "__init__" qual st f fd ∧ Binds K fd ps []
section
variable {P : Program} {w : World} {K : PySem.W.Frag} {mg : Str → Option Value} {base : Heap} {C : Addr}
theorem DefM.fn {m qual : Str} {st : Stmt} {N ps : List Str} {k : Nat} {sp : Sp} (D : DefM K C m qual st ps) (S : FnScope N ps (defScope st)) (len : ∀ vs H Q E, sp vs H Q E → vs.length = ps.length)
    (hbody : ∀ (f : Addr) (cdv : Value) (A : Around) (outer : List Env) (s : Shared) (H : Hp) (vs : List V) (Q : VK) (E : XK), Room k (A.deeper (envOfC qual (defScope st) s.heap.objs.size f cdv)) → sp vs H Q E →
      ∃ t, PSs (cxOf CX0 P w K mg base N qual (defScope st) f cdv A outer s H E).nox (defBody st) t ∧ t { nx := fun _ H' => Q .non H', rt := Q } (start N vs) H) : MFn P w K mg base (k + 1) C m ps sp := by
  obtain ⟨f, fd, c, hm, F, b⟩ := D
  exact ⟨f, fd, c, hm, b, F.ok S len fun cdv A outer s H vs Q E hr h => hbody f cdv A outer s H vs Q E hr h⟩
theorem DefI.fn {x qual : Str} {st : Stmt} {N ps : List Str} {k : Nat} {sp : Sp} (D : DefI K mg x C qual st ps) (S : FnScope N ps (defScope st)) (len : ∀ vs H Q E, sp vs H Q E → vs.length = ps.length)
    (hbody : ∀ (f : Addr) (cdv : Value) (A : Around) (outer : List Env) (s : Shared) (H : Hp) (vs : List V) (Q : VK) (E : XK), Room k (A.deeper (envOfC qual (defScope st) s.heap.objs.size f cdv)) → sp vs H Q E →
      ∃ t, PSs (cxOf CX0 P w K mg base N qual (defScope st) f cdv A outer s H E).nox (defBody st) t ∧ t { nx := fun _ H' => Q .non H', rt := Q } (start N vs) H) : IFn P w K mg base (k + 1) x C ps sp := by
  obtain ⟨f, fd, hm, mk, F, b⟩ := D
  exact ⟨f, fd, hm, mk, b, F.ok S len fun cdv A outer s H vs Q E hr h => hbody f cdv A outer s H vs Q E hr h⟩
theorem defM_mk {m qual : Str} {st : Stmt} {ps : List Str} {f : Addr} {oc : Value} {od an : Option Addr} {osl : Array (Option Value)} {kV doc pm cdv ct : Value} (cl : Cls K C)
    (a : PySem.W.findIn K (.ref C) m = some (some (.ref f))) (i : PySem.W.isFn K (.ref f) = true) (l : K.lookup f = some ⟨oc, od, .func (PySem.W.fnOf m qual (defArgs st) (defBody st) (defScope st) .none kV doc pm an cdv ct), osl⟩)
    (c : PySem.W.codeIn K cdv qual = true) (k : PySem.W.keepIn K (.ref f) = true)
    (hb : ∀ (kV doc pm : Value) (an : Option Addr) (cdv ct : Value) (us : List Value), us.length = ps.length → bindArgs (PySem.W.fnOf m qual (defArgs st) (defBody st) (defScope st) .none kV doc pm an cdv ct) ⟨us, []⟩ = pure (ps.zip us)) : DefM K C m qual st ps :=
  have F := fun_mk (st := st) l c k
  ⟨f, _, cl, ⟨a, i, k⟩, F, F.binds hb⟩
theorem defI_mk {h : Heap} (X : K.In h) (G : h.Ns mainGlobals mg) {x qual : Str} {st : Stmt} {ps : List Str} {f : Addr} {oc : Value} {od an : Option Addr} {osl : Array (Option Value)} {kV doc pm cdv ct : Value}
    (n : PySem.W.nsIn K mainGlobals x = some (some (.ref C))) (mk : PySem.W.makesIn K C = true) (kc : PySem.W.keepIn K (.ref C) = true)
    (a : PySem.W.findIn K (.ref C) "__init__" = some (some (.ref f))) (i : PySem.W.isFn K (.ref f) = true) (l : K.lookup f = some ⟨oc, od, .func (PySem.W.fnOf "__init__" qual (defArgs st) (defBody st) (defScope st) .none kV doc pm an cdv ct), osl⟩)
    (c : PySem.W.codeIn K cdv qual = true) (k : PySem.W.keepIn K (.ref f) = true)
    (hb : ∀ (kV doc pm : Value) (an : Option Addr) (cdv ct : Value) (us : List Value), us.length = ps.length → bindArgs (PySem.W.fnOf "__init__" qual (defArgs st) (defBody st) (defScope st) .none kV doc pm an cdv ct) ⟨us, []⟩ = pure (ps.zip us)) : DefI K mg x C qual st ps :=
  have F := fun_mk (st := st) l c k
  ⟨f, _, PySem.W.mg_of X G n, ⟨mk, a, i, kc⟩, F, F.binds hb⟩
end
section
variable {X : Cx} {j k : Nat} {C : Addr} {x m : Str} {ps : List Str} {sp : Sp} {p pos apos : Pos} {o e : Expr} {es : List Expr} {ta : TE} {t : TA}
theorem pe_methC {pl : Sem Bool} (he : PE X o ta) (F : MFn X.prog X.w X.K X.mg X.base k C m ps sp) (hr : Room j X.A) (ha : PA X (e :: es) t) (hjk : k ≤ j := by decide)
    (hst : starEach (e :: es) X.env = (false, eval e X.env) :: starEach es X.env := by rfl) (hpl : (backTo pos (starEach es X.env)).any (·.1) = false := by rfl)
    (ht : eval (.Call (.Attribute o m apos) (e :: es) [] pos) X.env = (do
      let ov ← eval o X.env
      standAt apos.atName
      let (f, first) ← holding [ov] (getMethod ov m pl)
      callWith pos f first (backTo pos (starEach (e :: es) X.env)) (backToKw pos (keywordEach [] X.env))) := by rfl) :
    PE X (.Call (.Attribute o m apos) (e :: es) [] pos) (tMeth C m sp [] E0 ta t) := by
  obtain ⟨f, fd, c, hm, b, G⟩ := F
  exact pe_meth he c hm G (hr.mono hjk) b .nil pass0 ha hst hpl ht
theorem pe_makeC (F : IFn X.prog X.w X.K X.mg X.base k x C ps sp) (hr : Room j X.A) (hg : Gl X x) (ha : PA X (e :: es) t) (hjk : k + 1 ≤ j := by decide) (hdb : (x == ("__debug__" : Str)) = false := by decide)
    (he : starEach (e :: es) X.env = (false, eval e X.env) :: starEach es X.env := by rfl) (hpl : (backTo pos (starEach es X.env)).any (·.1) = false := by rfl) :
    PE X (.Call (.Name x p) (e :: es) [] pos) (tMake C sp [] E0 t) := by
  obtain ⟨f, fd, hm, mk, b, G⟩ := F
  exact pe_make mk G (hr.mono hjk) hg hm b .nil pass0 ha hdb he hpl
end
/-- a new instance and its __init__ leave all that was tracked as it was -/
theorem Same.made' {H H1 : Hp} {x dx C : Addr} (nx : H x = Option.none) (nd : H dx = Option.none) (k : But x (upd (upd H dx (.own x)) x (.ins C dx [])) H1) : Same H H1 := fun b o e =>
  k b o (ne_of_none e nx) (by rw [upd_ne (ne_of_none e nx), upd_ne (ne_of_none e nd)]; exact e)
end L2

set_option Elab.async false
set_option linter.all false
set_option maxRecDepth 100000
set_option maxHeartbeats 4000000
namespace L2
open PySem PySem.Spec PyProof.Rows
abbrev mn (ns : List Int) (i j : Nat) : Int := minL (seg ns (i : Int) (j : Int))
theorem mem_segN {ns : List Int} {i j : Nat} {x : Int} (hj : j ≤ ns.length) : x ∈ seg ns (i : Int) (j : Int) ↔ ∃ k, i ≤ k ∧ k < j ∧ x = vl ns k := by
  constructor
  · intro h
    obtain ⟨m, hm⟩ := List.getElem?_of_mem h
    have hl : m < (seg ns (i : Int) (j : Int)).length := (List.getElem?_eq_some_iff.mp hm).1
    have hl2 : m < j - i := by
      unfold seg at hl
      rw [List.length_take, List.length_drop] at hl
      simp only [Int.toNat_natCast] at hl
      omega
    rw [seg_get (by omega) (by simpa using hl2)] at hm
    simp only [Int.toNat_natCast] at hm
    exact ⟨i + m, by omega, by omega, get_vl hm⟩
  · rintro ⟨k, h1, h2, rfl⟩
    have e : (seg ns (i : Int) (j : Int))[k - i]? = some (vl ns k) := by
      rw [seg_get (by omega) (by simp only [Int.toNat_natCast]; omega)]
      simp only [Int.toNat_natCast]
      rw [show i + (k - i) = k by omega, List.getElem?_eq_getElem (show k < ns.length by omega)]
      simp [vl, show k < ns.length by omega]
    exact List.mem_of_getElem? e
theorem segN_ne {ns : List Int} {i j : Nat} (h : i < j) (hj : j ≤ ns.length) : seg ns (i : Int) (j : Int) ≠ [] := seg_ne ⟨by omega, by omega, by omega⟩
theorem mn_same {ns ms : List Int} {i j i' j' : Nat} (h : i < j) (hj : j ≤ ns.length) (h' : i' < j') (hj' : j' ≤ ms.length)
    (a : ∀ k, i ≤ k → k < j → ∃ k', i' ≤ k' ∧ k' < j' ∧ vl ms k' ≤ vl ns k) (b : ∀ k, i' ≤ k → k < j' → ∃ k', i ≤ k' ∧ k' < j ∧ vl ns k' ≤ vl ms k) : mn ns i j = mn ms i' j' := by
  obtain ⟨m1, m2⟩ := minL_spec (segN_ne h hj)
  obtain ⟨n1, n2⟩ := minL_spec (segN_ne h' hj')
  obtain ⟨k, k1, k2, ek⟩ := (mem_segN hj).mp m1
  obtain ⟨l, l1, l2, el⟩ := (mem_segN hj').mp n1
  obtain ⟨p, p1, p2, p3⟩ := a k k1 k2
  obtain ⟨q, q1, q2, q3⟩ := b l l1 l2
  have r1 := n2 _ ((mem_segN hj').mpr ⟨p, p1, p2, rfl⟩)
  have r2 := m2 _ ((mem_segN hj).mpr ⟨q, q1, q2, rfl⟩)
  show minL _ = minL _
  omega
theorem mn_eq {ns : List Int} {i j p : Nat} (h1 : i ≤ p) (h2 : p < j) (hj : j ≤ ns.length) (h : ∀ k, i ≤ k → k < j → vl ns p ≤ vl ns k) : mn ns i j = vl ns p := by
  refine minL_uniq ((mem_segN hj).mpr ⟨p, h1, h2, rfl⟩) fun y hy => ?_
  obtain ⟨k, k1, k2, rfl⟩ := (mem_segN hj).mp hy
  exact h k k1 k2
def bE (ns : List Int) (j : Nat) : Int := sumN j fun i => mn ns i j
def bB (ns : List Int) (i : Nat) : Int := sumN (ns.length - i) fun k => mn ns i (i + k + 1)
theorem bE_step {ns : List Int} {p b e : Nat} (h : IsReach ns p b e) : bE ns (p + 1) = vl ns p * ((p : Int) - b + 1) + bE ns b := by
  have hb := h.bi; have hie := h.ie; have hen := h.en
  have e1 : p + 1 = b + (p + 1 - b) := by omega
  unfold bE
  have s1 : (sumN (p + 1) fun i => mn ns i (p + 1)) = sumN (b + (p + 1 - b)) fun i => mn ns i (p + 1) := by rw [← e1]
  rw [s1, sumN_split]
  have s2 : (sumN b fun i => mn ns i (p + 1)) = sumN b fun i => mn ns i b := sumN_congr fun i hi => by
    have hb0 : vl ns (b - 1) ≤ vl ns p := by
      rcases h.b0 with z | z
      · omega
      · exact z
    refine mn_same (by omega) (by omega) hi (by omega) (fun k k1 k2 => ?_) (fun k k1 k2 => ⟨k, k1, by omega, Int.le_refl _⟩)
    by_cases hk : k < b
    · exact ⟨k, k1, hk, Int.le_refl _⟩
    · refine ⟨b - 1, by omega, by omega, ?_⟩
      by_cases hkp : k = p
      · rw [hkp]; exact hb0
      · have := h.bg k (by omega) (by omega)
        omega
  have s3 : (sumN (p + 1 - b) fun i => mn ns (b + i) (p + 1)) = sumN (p + 1 - b) fun _ => vl ns p := sumN_congr fun i hi => by
    refine mn_eq (by omega) (by omega) (by omega) fun k k1 k2 => ?_
    by_cases hkp : k = p
    · rw [hkp]; exact Int.le_refl _
    · have := h.bg k (by omega) (by omega)
      omega
  rw [s2, s3, sumN_const]
  have e2 : ((p + 1 - b : Nat) : Int) = (p : Int) - b + 1 := by omega
  rw [e2, Int.mul_comm, Int.add_comm]
theorem bB_step {ns : List Int} {p b e : Nat} (h : IsReach ns p b e) : bB ns p = vl ns p * ((e : Int) - p) + bB ns e := by
  have hb := h.bi; have hie := h.ie; have hen := h.en
  unfold bB
  have s1 : (sumN (ns.length - p) fun k => mn ns p (p + k + 1)) = sumN ((e - p) + (ns.length - e)) fun k => mn ns p (p + k + 1) := by rw [show ns.length - p = (e - p) + (ns.length - e) by omega]
  rw [s1, sumN_split]
  have s2 : (sumN (e - p) fun k => mn ns p (p + k + 1)) = sumN (e - p) fun _ => vl ns p := sumN_congr fun k hk => by
    refine mn_eq (Nat.le_refl _) (by omega) (by omega) fun q q1 q2 => ?_
    by_cases hq : q = p
    · rw [hq]; exact Int.le_refl _
    · exact h.eg q (by omega) (by omega)
  have s3 : (sumN (ns.length - e) fun k => mn ns p (p + ((e - p) + k) + 1)) = sumN (ns.length - e) fun k => mn ns e (e + k + 1) := sumN_congr fun k hk => by
    have he0 : vl ns e < vl ns p := by
      rcases h.e0 with z | z
      · omega
      · exact z
    rw [show p + ((e - p) + k) + 1 = e + k + 1 by omega]
    refine mn_same (by omega) (by omega) (by omega) (by omega) (fun q q1 q2 => ?_) (fun q q1 q2 => ⟨q, by omega, q2, Int.le_refl _⟩)
    by_cases hq : e ≤ q
    · exact ⟨q, hq, q2, Int.le_refl _⟩
    · refine ⟨e, Nat.le_refl _, by omega, ?_⟩
      by_cases hqp : q = p
      · rw [hqp]; omega
      · have := h.eg q (by omega) (by omega)
        omega
  rw [s2, s3, sumN_const]
  have e2 : ((e - p : Nat) : Int) = (e : Int) - p := by omega
  rw [e2, Int.mul_comm]
theorem sumN_upto {m c : Nat} (h : c < m) (g : Nat → Int) : (sumN m fun a => if a ≤ c then g a else 0) = sumN (c + 1) g := by
  have e : m = (c + 1) + (m - (c + 1)) := by omega
  have s1 : (sumN m fun a => if a ≤ c then g a else 0) = sumN ((c + 1) + (m - (c + 1))) fun a => if a ≤ c then g a else 0 := by rw [← e]
  rw [s1, sumN_split, sumN_congr (h := g) (n := c + 1) (fun i hi => if_pos (by omega)), sumN_congr (h := fun _ => 0) (n := m - (c + 1)) (fun i hi => if_neg (by omega)), sumN_zero, Int.add_zero]
theorem seg_segN {ns : List Int} {b e i j : Nat} (h : i ≤ j) (hj : b + j ≤ e) : seg (seg ns (b : Int) (e : Int)) (i : Int) (j : Int) = seg ns ((b + i : Nat) : Int) ((b + j : Nat) : Int) := by
  unfold seg
  simp only [Int.toNat_natCast]
  rw [List.drop_take, List.take_take, List.drop_drop]
  congr 1
  omega
theorem sum_seg {ns : List Int} {b e : Nat} (hb : b ≤ e) (he : e ≤ ns.length) : sumSt (seg ns (b : Int) (e : Int)) minL = sumN (e - b) fun i => sumN (e - b - i) fun k => mn ns (b + i) (b + i + k + 1) := by
  have hl : (seg ns (b : Int) (e : Int)).length = e - b := by
    unfold seg
    rw [List.length_take, List.length_drop]
    simp only [Int.toNat_natCast]
    omega
  unfold sumSt
  rw [hl]
  refine sumN_congr fun i hi => sumN_congr fun k hk => ?_
  rw [seg_segN (by omega) (by omega)]
  show minL (seg ns _ _) = minL (seg ns _ _)
  rw [show b + (i + k + 1) = b + i + k + 1 by omega]
theorem within_eq {ns : List Int} {b e p : Nat} (h1 : b ≤ p) (h2 : p < e) (he : e ≤ ns.length) (hp : ∀ k, b ≤ k → k < e → vl ns p ≤ vl ns k) :
    sumSt (seg ns (b : Int) (e : Int)) minL = ((sumN (p + 1 - b) fun i => bB ns (b + i)) - ((p : Int) - b + 1) * bB ns p) + vl ns p * ((p : Int) - b + 1) * ((e : Int) - p) + ((sumN (e - p) fun c => bE ns (p + 1 + c)) - ((e : Int) - p) * bE ns (p + 1)) := by
  rw [sum_seg (by omega) he]
  have s0 : (sumN (e - b) fun i => sumN (e - b - i) fun k => mn ns (b + i) (b + i + k + 1)) = sumN ((p + 1 - b) + (e - (p + 1))) fun i => sumN (e - b - i) fun k => mn ns (b + i) (b + i + k + 1) := by
    rw [show (p + 1 - b) + (e - (p + 1)) = e - b by omega]
  rw [s0, sumN_split]
  -- ahead: the stretches that begin at the place or ahead of it
  have A : (sumN (p + 1 - b) fun i => sumN (e - b - i) fun k => mn ns (b + i) (b + i + k + 1)) = ((sumN (p + 1 - b) fun i => bB ns (b + i)) - ((p : Int) - b + 1) * bB ns p) + vl ns p * ((p : Int) - b + 1) * ((e : Int) - p) := by
    have one : ∀ i, i < p + 1 - b → (sumN (e - b - i) fun k => mn ns (b + i) (b + i + k + 1)) = (bB ns (b + i) - bB ns p) + vl ns p * ((e : Int) - p) := fun i hi => by
      have t1 : (sumN (e - b - i) fun k => mn ns (b + i) (b + i + k + 1)) = sumN ((p - (b + i)) + (e - p)) fun k => mn ns (b + i) (b + i + k + 1) := by rw [show (p - (b + i)) + (e - p) = e - b - i by omega]
      have t2 : (sumN (e - p) fun k => mn ns (b + i) (b + i + ((p - (b + i)) + k) + 1)) = sumN (e - p) fun _ => vl ns p := sumN_congr fun k hk => mn_eq (by omega) (by omega) (by omega) fun q q1 q2 => hp q (by omega) (by omega)
      have t3 : bB ns (b + i) = (sumN (p - (b + i)) fun k => mn ns (b + i) (b + i + k + 1)) + bB ns p := by
        unfold bB
        have u1 : (sumN (ns.length - (b + i)) fun k => mn ns (b + i) (b + i + k + 1)) = sumN ((p - (b + i)) + (ns.length - p)) fun k => mn ns (b + i) (b + i + k + 1) := by rw [show (p - (b + i)) + (ns.length - p) = ns.length - (b + i) by omega]
        rw [u1, sumN_split]
        congr 1
        refine sumN_congr fun k hk => ?_
        rw [show b + i + ((p - (b + i)) + k) + 1 = p + k + 1 by omega]
        refine mn_same (by omega) (by omega) (by omega) (by omega) (fun q q1 q2 => ?_) (fun q q1 q2 => ⟨q, by omega, q2, Int.le_refl _⟩)
        by_cases hq : p ≤ q
        · exact ⟨q, hq, q2, Int.le_refl _⟩
        · exact ⟨p, Nat.le_refl _, by omega, hp q (by omega) (by omega)⟩
      rw [t1, sumN_split, t2, sumN_const, t3]
      have e2 : ((e - p : Nat) : Int) = (e : Int) - p := by omega
      rw [e2, Int.mul_comm]
      omega
    rw [sumN_congr one, sumN_add, sumN_sub, sumN_const, sumN_const]
    have e2 : ((p + 1 - b : Nat) : Int) = (p : Int) - b + 1 := by omega
    rw [e2]
    have e3 : ((p : Int) - b + 1) * (vl ns p * ((e : Int) - p)) = vl ns p * ((p : Int) - b + 1) * ((e : Int) - p) := by
      rw [← Int.mul_assoc, Int.mul_comm ((p : Int) - b + 1) (vl ns p)]
    rw [e3]
  -- behind: those that begin behind it
  have Bh : (sumN (e - (p + 1)) fun i => sumN (e - b - ((p + 1 - b) + i)) fun k => mn ns (b + ((p + 1 - b) + i)) (b + ((p + 1 - b) + i) + k + 1)) = (sumN (e - p) fun c => bE ns (p + 1 + c)) - ((e : Int) - p) * bE ns (p + 1) := by
    have t1 : (sumN (e - (p + 1)) fun i => sumN (e - b - ((p + 1 - b) + i)) fun k => mn ns (b + ((p + 1 - b) + i)) (b + ((p + 1 - b) + i) + k + 1))
        = sumN (e - (p + 1)) fun i => sumN (e - (p + 1)) fun c => if i ≤ c then mn ns (p + 1 + i) (p + 1 + c + 1) else 0 := sumN_congr fun i hi => by
      rw [sumN_from, show e - b - ((p + 1 - b) + i) = e - (p + 1) - i by omega]
      refine sumN_congr fun k hk => ?_
      rw [show b + ((p + 1 - b) + i) = p + 1 + i by omega, show p + 1 + i + k + 1 = p + 1 + (i + k) + 1 by omega]
    have t2 : ∀ c, c < e - (p + 1) → (sumN (e - (p + 1)) fun i => if i ≤ c then mn ns (p + 1 + i) (p + 1 + c + 1) else 0) = bE ns (p + 1 + (c + 1)) - bE ns (p + 1) := fun c hc => by
      rw [sumN_upto hc]
      unfold bE
      have u0 := sumN_split (p + 1) (c + 1) (fun i => mn ns i (p + 1 + (c + 1)))
      have u1 : (sumN (p + 1) fun i => mn ns i (p + 1 + (c + 1))) = sumN (p + 1) fun i => mn ns i (p + 1) := sumN_congr fun i hi => by
        refine mn_same (by omega) (by omega) (by omega) (by omega) (fun q q1 q2 => ?_) (fun q q1 q2 => ⟨q, q1, by omega, Int.le_refl _⟩)
        by_cases hq : q < p + 1
        · exact ⟨q, q1, hq, Int.le_refl _⟩
        · exact ⟨p, by omega, by omega, hp q (by omega) (by omega)⟩
      rw [u0, u1]
      have u2 : (sumN (c + 1) fun i => mn ns (p + 1 + i) (p + 1 + (c + 1))) = sumN (c + 1) fun i => mn ns (p + 1 + i) (p + 1 + c + 1) := sumN_congr fun i _ => by rw [show p + 1 + (c + 1) = p + 1 + c + 1 by omega]
      rw [u2]
      omega
    rw [t1, sumN_comm, sumN_congr t2, sumN_sub, sumN_const]
    have t3 : (sumN (e - p) fun c => bE ns (p + 1 + c)) = bE ns (p + 1 + 0) + sumN (e - (p + 1)) fun c => bE ns (p + 1 + (c + 1)) := by
      rw [show e - p = (e - (p + 1)) + 1 by omega, sumN_head]
    rw [t3, Nat.add_zero]
    have e2 : ((e - (p + 1) : Nat) : Int) = ((e : Int) - p) - 1 := by omega
    rw [e2, Int.sub_mul, Int.one_mul]
    omega
  rw [A, Bh]
/-- the lists that are kept -/
def byEnd (ns : List Int) : List Int := (List.range (ns.length + 1)).map (bE ns)
def byBeg (ns : List Int) : List Int := (List.range (ns.length + 1)).map (bB ns)
theorem rng_at {f : Nat → Int} {n i : Nat} (h : i < n) : vl ((List.range n).map f) i = f i := by
  show List.getD _ _ _ = _
  rw [List.getD_eq_getElem?_getD, List.getElem?_map, List.getElem?_range h]
  rfl
theorem sum_seg_rng {f : Nat → Int} {n b e : Nat} (h : b ≤ e) (he : e ≤ n) : (seg ((List.range n).map f) (b : Int) (e : Int)).sum = sumN (e - b) fun i => f (b + i) := by
  have q : seg ((List.range n).map f) (b : Int) (e : Int) = (List.range (e - b)).map fun i => f (b + i) := by
    apply List.ext_getElem?
    intro i
    by_cases hi : i < e - b
    · rw [seg_get (by omega) (by simpa using hi), List.getElem?_map, List.getElem?_map, List.getElem?_range hi]
      simp only [Int.toNat_natCast]
      rw [List.getElem?_range (by omega)]
      rfl
    · rw [List.getElem?_eq_none (by
        unfold seg
        rw [List.length_take]
        simp only [Int.toNat_natCast]
        omega), List.getElem?_eq_none (by rw [List.length_map, List.length_range]; omega)]
  rw [q, sum_range']
end L2

set_option Elab.async false
set_option linter.all false
set_option maxRecDepth 100000
set_option maxHeartbeats 4000000
namespace L2
open PySem PySem.Spec PyProof.Rows
end L2

set_option Elab.async false
set_option linter.all false
set_option maxRecDepth 100000
set_option maxHeartbeats 4000000
namespace L2
open PySem PySem.Spec PyProof.Rows
section
variable {X : Cx}
end
end L2

set_option Elab.async false
set_option linter.all false
set_option maxRecDepth 100000
set_option maxHeartbeats 4000000
namespace L2
open PySem PySem.Spec PyProof.Rows
section
variable {X : Cx}
end
end L2

set_option Elab.async false
set_option linter.all false
set_option maxRecDepth 100000
set_option maxHeartbeats 4000000
namespace L2
open PySem PySem.Spec PyProof.Rows PySem.W PySem.Calls
section
variable {P : Program} {w : World} {H H' : Hp} {h h' : Heap} {a : Addr} {o : HO}
theorem ObjOk.live (x : ObjOk P w H h a o) : ∃ u, h.get? a = some u := by
  cases o with
  | lst xs => obtain ⟨_, _, _, _, e⟩ := x; exact ⟨_, e⟩
  | tup xs => obtain ⟨_, _, _, p⟩ := x; obtain ⟨o, e, _⟩ := p; exact ⟨_, e⟩
  | dK kvs => obtain ⟨_, _, _, _, o, _, _, e, _⟩ := x; exact ⟨_, e⟩
  | dT kvs => obtain ⟨_, _, _, _, o, _, _, e, _⟩ := x; exact ⟨_, e⟩
  | set S n => obtain ⟨o, _, _, _, e, _⟩ := x; exact ⟨_, e⟩
  | ins C dx fs => obtain ⟨_, _, _, e, _⟩ := x; exact ⟨_, e⟩
  | own y => obtain ⟨_, e⟩ := x; exact ⟨_, e⟩
  | xd fs => obtain ⟨_, ⟨_, _, _, e, _⟩, _⟩ := x; exact ⟨_, e⟩
  | rng lo hi => obtain ⟨_, _, _, e⟩ := x; exact ⟨_, e⟩
  | frz ob u => obtain ⟨e, _⟩ := x; exact ⟨_, e⟩
  | tbl ps => exact ⟨_, (show h.get? a = some _ ∧ _ from x).1⟩
  | met f y => exact ⟨_, show h.get? a = some _ from x⟩
  | ext φ => obtain ⟨_, ⟨_, e⟩, _⟩ := x; exact ⟨_, e⟩
theorem HOk.dead (x : HOk P w H h) (e : h.get? a = none) : H a = none := by
  cases q : H a with
  | none => rfl
  | some u => obtain ⟨v, z⟩ := (x a u q).live; rw [e] at z; cases z
end
section
variable {X : Cx} {pins : List (Addr × Obj)} {σ : St} {H N : Hp} {s : Shared} {h' : Heap} {t' : Nat}
end
section
variable {X : Cx} {pins : List (Addr × Obj)} {σ : St} {H : Hp} {s : Shared}
end


section
variable {prog : Program} {w : World} {A : Around} {E : Value → Shared → Prop} {s : Shared}
end
end L2

set_option Elab.async false
set_option linter.all false
set_option maxRecDepth 100000
set_option maxHeartbeats 4000000
namespace L2
open PySem PySem.Spec PyProof.Rows PySem.W PySem.Calls
section
variable {X : Cx} {e : Expr} {td : TE} {apos cpos : Pos}
end
def cntSt (ns : List Int) (v : Int) : Int := sumSt ns fun s => if minL s = v then 1 else 0
/-- the unlike leasts, rising, with how many stretches have each -/
structure IsBL (ns : List Int) (ps : List (Int × Int)) : Prop where
  rise : ps.Pairwise fun p q => p.1 < q.1
  each : ∀ p ∈ ps, p.1 ∈ ns ∧ p.2 = cntSt ns p.1
  all : ∀ n ∈ ns, ∃ p ∈ ps, p.1 = n
/-- they are just one list -/
theorem IsBL.one {ns : List Int} : ∀ {ps qs : List (Int × Int)}, ps.Pairwise (fun p q => p.1 < q.1) → qs.Pairwise (fun p q => p.1 < q.1) → (∀ p, p ∈ ps ↔ p ∈ qs) → ps = qs := by
  intro ps
  induction ps with
  | nil =>
    intro qs _ _ h
    cases qs with
    | nil => rfl
    | cons q r => exact absurd ((h q).mpr List.mem_cons_self) (by simp)
  | cons p r ih =>
    intro qs h1 h2 h
    cases qs with
    | nil => exact absurd ((h p).mp List.mem_cons_self) (by simp)
    | cons q t =>
      rw [List.pairwise_cons] at h1 h2
      have e : p = q := by
        rcases List.mem_cons.mp ((h p).mp List.mem_cons_self) with z | z
        · exact z
        · rcases List.mem_cons.mp ((h q).mpr List.mem_cons_self) with y | y
          · exact y.symm
          · have := h1.1 q y; have := h2.1 p z; omega
      subst e
      rw [ih h1.2 h2.2 fun x => ?_]
      constructor
      · intro hx
        rcases List.mem_cons.mp ((h x).mp (List.mem_cons_of_mem _ hx)) with z | z
        · subst z; have := h1.1 x hx; omega
        · exact z
      · intro hx
        rcases List.mem_cons.mp ((h x).mpr (List.mem_cons_of_mem _ hx)) with z | z
        · subst z; have := h2.1 x hx; omega
        · exact z
theorem IsBL.uniq {ns : List Int} {ps qs : List (Int × Int)} (h : IsBL ns ps) (k : IsBL ns qs) : ps = qs := by
  have go : ∀ {ps qs : List (Int × Int)}, IsBL ns ps → IsBL ns qs → ∀ p, p ∈ ps → p ∈ qs := fun h k p hp => by
    obtain ⟨h1, h2⟩ := h.each p hp
    obtain ⟨q, hq, e⟩ := k.all p.1 h1
    have h3 := (k.each q hq).2
    have : q = p := Prod.ext e (by rw [h3, h2, e])
    rw [← this]; exact hq
  exact IsBL.one (ns := ns) h.rise k.rise fun p => ⟨go h k p, go k h p⟩
end L2

set_option Elab.async false
set_option linter.all false
set_option maxRecDepth 100000
set_option maxHeartbeats 4000000
namespace L2
open PySem PySem.Spec PyProof.Rows PySem.W PySem.Calls
section
variable {X : Cx} {pins : List (Addr × Obj)} {σ : St} {H : Hp} {s : Shared} {h' : Heap} {t' : Nat}
end
section
variable {X : Cx}
end
end L2

set_option Elab.async false
set_option linter.all false
set_option maxRecDepth 100000
set_option maxHeartbeats 4000000
namespace L2
open PySem
/-- all but what S holds stays -/
def ButS (S : Addr → Prop) (H H' : Hp) : Prop := ∀ b o, ¬ S b → H b = some o → SamO o (H' b)
theorem ButS.refl (S : Addr → Prop) (H : Hp) : ButS S H H := fun _ _ _ h => SamO.of h
theorem ButS.ap {S : Addr → Prop} {H H' : Hp} (s : ButS S H H') {c : Addr} {o : HO} (n : ¬ S c) (h : SamO o (H c)) : SamO o (H' c) := by
  cases o <;> first
    | exact s c _ n h
    | (obtain ⟨qs, e⟩ := h; have z : ∃ r, H' c = Option.some (.tbl r) := s c (.tbl qs) n e; exact z)
theorem ButS.trans {S : Addr → Prop} {H H1 H2 : Hp} (a : ButS S H H1) (b : ButS S H1 H2) : ButS S H H2 := fun c o n h => b.ap n (a c o n h)
theorem ButS.upd {S : Addr → Prop} {H : Hp} {p : Addr} {o : HO} (hp : S p) : ButS S H (L2.upd H p o) := by
  intro b u n h
  have nb : b ≠ p := fun z => n (by rw [z]; exact hp)
  rw [upd_ne nb]
  exact SamO.of h
theorem ButS.mono {S S' : Addr → Prop} {H H' : Hp} (s : ButS S H H') (h : ∀ b, S b → S' b) : ButS S' H H' := fun b o n e => s b o (fun z => n (h b z)) e
theorem ButS.same {S : Addr → Prop} {H H' : Hp} (s : ButS S H H') (h : ∀ b, S b → H b = none) : Same H H' := fun b o e => s b o (fun z => by rw [h b z] at e; cases e) e
/-- but for what was new ahead -/
theorem ButS.old {S S' : Addr → Prop} {H H' : Hp} (s : ButS S H H') (h : ∀ b, S b → S' b ∨ H b = none) : ButS S' H H' := fun b o n e => s b o (fun z => (h b z).elim n fun y => by rw [y] at e; cases e) e
theorem ButS.seq {K : PySem.W.Frag} {S : Addr → Prop} {a : Addr} {H H' : Hp} {xs : List V} (s : ButS S H H') (n : ¬ S a) (h : SqL K H a xs) : SqL K H' a xs := by
  rcases h with (h | ⟨o, h⟩) | h
  · exact .inl (.inl (s _ _ n h))
  · exact .inl (.inr ⟨o, s _ _ n h⟩)
  · exact .inr h
section
variable {X : Cx} {K : PySem.W.Frag}
end
end L2

set_option Elab.async false
set_option linter.all false
set_option maxRecDepth 100000
set_option maxHeartbeats 4000000
namespace HT
open PySem PyProof.Rows
section
open PySem.SeqAt
open PySem.AutoSeq1 (wpAny_loadPart')
open PySem.MeetsSeq PySem.MeetsSeq2 PySem.MeetsSeq3
end
section
variable {prog : Program} {w : World} {A : Around} {E : Value → Shared → Prop} {s : Shared}
end
end HT
namespace L2
open PySem PyProof.Rows
section
variable {prog : Program} {w : World} {A : Around} {R : Result → Shared → Prop} {I : Addr} {fp wr : List Addr} {n : Nat} {P : Nat → Value → Prop} {St : Nat → Heap → Prop} {h0 : Heap}
end
section
variable {prog : Program} {w : World} {A : Around} {E : Value → Shared → Prop} {s : Shared}
end
section
variable {prog : Program} {w : World} {A : Around} {R : Result → Shared → Prop} {I : Addr} {fp wr : List Addr} {n : Nat} {P : Nat → Value → Prop} {St : Nat → Heap → Prop} {h0 : Heap}
end
section
variable {prog : Program} {w : World} {A : Around} {E : Value → Shared → Prop} {s : Shared}
end
end L2

set_option Elab.async false
set_option linter.all false
set_option maxRecDepth 100000
set_option maxHeartbeats 4000000
namespace L2
open PySem PyProof.Rows
section
variable {X : Cx}
end
end L2

set_option Elab.async false
set_option linter.all false
set_option maxRecDepth 100000
set_option maxHeartbeats 4000000
namespace L2
open PySem
def wrth (ns : List Int) (b e : Nat) : Int := mn ns b e * ((e : Int) - b)
structure IsBest (ns : List Int) (W : Int) (b e : Nat) : Prop where
  be : b < e
  en : e ≤ ns.length
  w : W = wrth ns b e
  top : ∀ b' e', b' < e' → e' ≤ ns.length → wrth ns b' e' < W ∨ (wrth ns b' e' = W ∧ (b < b' ∨ (b = b' ∧ e ≤ e')))
theorem IsBest.uniq {ns : List Int} {W W' : Int} {b e b' e' : Nat} (h : IsBest ns W b e) (h' : IsBest ns W' b' e') : W = W' ∧ b = b' ∧ e = e' := by
  have h1 := h.top b' e' h'.be h'.en
  have h2 := h'.top b e h.be h.en
  rw [← h'.w] at h1
  rw [← h.w] at h2
  omega
end L2

set_option Elab.async false
set_option linter.all false
set_option maxRecDepth 100000
set_option maxHeartbeats 4000000
namespace L2
open PySem
section
variable {X : Cx} {K : PySem.W.Frag}
end
end L2

set_option Elab.async false
set_option linter.all false
set_option maxRecDepth 100000
set_option maxHeartbeats 4000000
namespace L2
open PySem PyProof.Rows PySem.W PySem.Calls
section
variable {X : Cx}
end
end L2

set_option Elab.async false
set_option linter.all false
set_option maxRecDepth 100000
set_option maxHeartbeats 4000000
namespace L2
open PySem
section
variable {X : Cx} {j k : Nat} {C : Addr} {x m : Str} {ps : List Str} {sp : Sp} {p pos apos : Pos} {o : Expr} {ta : TE}
end
end L2

set_option Elab.async false
set_option linter.all false
set_option maxRecDepth 100000
set_option maxHeartbeats 4000000
namespace L2
open PySem
theorem seg_front {ns ms : List Int} {i j : Nat} (h : j ≤ ns.length) : seg (ns ++ ms) (i : Int) (j : Int) = seg ns (i : Int) (j : Int) := by
  unfold seg
  simp only [Int.toNat_natCast]
  by_cases hi : i ≤ ns.length
  · rw [List.drop_append_of_le_length hi, List.take_append_of_le_length (by rw [List.length_drop]; omega)]
  · rw [show j - i = 0 by omega]; simp
end L2

set_option Elab.async false
set_option linter.all false
set_option maxRecDepth 100000
set_option maxHeartbeats 4000000
namespace L2
open PySem
end L2

set_option Elab.async false
set_option linter.all false
set_option maxRecDepth 100000
set_option maxHeartbeats 4000000
namespace L2
open PySem
end L2

set_option Elab.async false
set_option linter.all false
set_option maxRecDepth 100000
set_option maxHeartbeats 4000000
namespace HT
open PySem PyProof.Rows
section
open PySem.SeqAt
open PySem.AutoSeq1 (wpAny_loadPart')
open PySem.MeetsSeq PySem.MeetsSeq2 PySem.MeetsSeq3
end
section
variable {prog : Program} {w : World} {A : Around} {E : Value → Shared → Prop} {s : Shared}
end
end HT
namespace L2
open PySem
end L2

set_option Elab.async false
set_option linter.all false
set_option maxRecDepth 100000
set_option maxHeartbeats 4000000
namespace L2
open PySem
theorem IsBest.more {ns : List Int} {x W W' : Int} {b e b' e' : Nat} (h : IsBest ns W b e) (h' : IsBest (ns ++ [x]) W' b' e') : W ≤ W' := by
  have l := h'.top b e h.be (by rw [List.length_append]; have := h.en; omega)
  have ew : wrth (ns ++ [x]) b e = wrth ns b e := by unfold wrth mn; rw [seg_front h.en]
  rw [ew, ← h.w] at l
  omega
end L2

set_option Elab.async false
set_option linter.all false
set_option maxRecDepth 100000
set_option maxHeartbeats 4000000
namespace L2
open PySem
end L2

set_option Elab.async false
set_option linter.all false
set_option maxRecDepth 100000
set_option maxHeartbeats 4000000
namespace L2
open PySem PySem.Spec PyProof.Rows PySem.W PySem.Calls
end L2

set_option Elab.async false
set_option linter.all false
set_option maxRecDepth 100000
set_option maxHeartbeats 4000000
namespace L2
open PySem PySem.Spec PyProof.Rows PySem.W PySem.Calls
end L2

set_option Elab.async false
set_option linter.all false
set_option maxRecDepth 100000
set_option maxHeartbeats 4000000
namespace L2
open PySem PySem.Spec PyProof.Rows PySem.W PySem.Calls
end L2

set_option Elab.async false
set_option linter.all false
set_option maxRecDepth 100000
set_option maxHeartbeats 4000000
namespace L2
open PySem PySem.Spec PyProof.Rows PySem.W PySem.Calls
theorem IsBL.len {ns : List Int} {ps : List (Int × Int)} (h : IsBL ns ps) : ps.length ≤ ns.length := by
  have hnd : (ps.map (·.1)).Nodup := by
    rw [List.Nodup, List.pairwise_map]
    exact h.rise.imp fun h z => by omega
  have hsub : ∀ v ∈ ps.map (·.1), v ∈ ns := fun v hv => by
    obtain ⟨p', hp', rfl⟩ := List.mem_map.mp hv
    exact (h.each p' hp').1
  have := hnd.length_le_of_subset hsub
  rwa [List.length_map] at this
theorem IsBL.nd {ns : List Int} {ps : List (Int × Int)} (h : IsBL ns ps) : (ps.map (·.1)).Nodup := by
  rw [List.Nodup, List.pairwise_map]
  exact h.rise.imp fun h z => by omega
end L2

set_option Elab.async false
set_option linter.all false
set_option maxRecDepth 100000
set_option maxHeartbeats 4000000
namespace L2
open PySem PySem.Spec PyProof.Rows PySem.W PySem.Calls
theorem PrAt.app {H : Hp} {ts us : List Addr} {ps qs : List (Int × Int)} (h : PrAt H ts ps) (k : PrAt H us qs) : PrAt H (ts ++ us) (ps ++ qs) := by
  refine ⟨by rw [List.length_append, List.length_append, h.1, k.1], fun j t p h1 h2 => ?_⟩
  by_cases z : j < ts.length
  · rw [List.getElem?_append_left z] at h1
    rw [List.getElem?_append_left (by rw [← h.1]; exact z)] at h2
    exact h.2 j t p h1 h2
  · rw [List.getElem?_append_right (by omega)] at h1
    rw [List.getElem?_append_right (by rw [← h.1]; omega), ← h.1] at h2
    exact k.2 _ t p h1 h2
end L2

set_option Elab.async false
set_option linter.all false
set_option maxRecDepth 100000
set_option maxHeartbeats 4000000
namespace L2
open PySem PySem.Spec PyProof.Rows
open AutoSeq1 (wpAny_loadPart')

section
variable {prog : Program} {w : World} {A : Around} {E : Value → Shared → Prop} {s : Shared}
end
end L2

set_option Elab.async false
set_option linter.all false
set_option maxRecDepth 100000
set_option maxHeartbeats 4000000
namespace L2
open PySem PySem.Spec PyProof.Rows

section
variable {scope : Scope} {cl : List (Str × Addr)} {env : Env} {prog : Program} {w : World} {xa xb : Str}
end
end L2

set_option Elab.async false
set_option linter.all false
set_option maxRecDepth 100000
set_option maxHeartbeats 4000000
namespace L2
open PySem
end L2

set_option Elab.async false
set_option linter.all false
set_option maxRecDepth 100000
set_option maxHeartbeats 4000000
namespace L2
open PySem PySem.Spec PyProof.Rows

structure GenOk (N : List Str) (sc scope : Scope) : Prop where
  kind : scope.kind = .function
  co : scope.isCoroutine = false
  zero : scope.names.lookup (".0" : Str) = some NameKind.local
  uniq : ∀ y ∈ scope.names, scope.names.lookup y.1 = some y.2
  nocell : ∀ y ∈ scope.names, y.2 ≠ .cell
  free : ∀ y ∈ scope.names, y.2 = .free → sc.names.lookup y.1 = some .cell ∨ sc.names.lookup y.1 = some .free
  own : ∀ y ∈ scope.names, y.2 = .local → y.1 ∉ N
abbrev Cx.gen (X : Cx) (A' : Around) (s : Shared) (H : Hp) (own : List Str) (cenv : Env) (fp : List Addr) : Cx :=
  { X with A := A', N := X.N ++ own, s_0 := { s with gens := s.gens.push .running }, H_0 := H, env := cenv, outer := X.stack, stack := cenv :: X.stack, ex := fp, fn := fun _ => false, calm := true, pn := [], xe := fun _ _ => False }
section
variable {X : Cx} {pins : List (Addr × Obj)} {σ : St} {H H' : Hp} {s s' : Shared}
theorem Inv.gens {g' : Array GenState} (I : Inv X pins σ H s) (hb : BareG s.gens g') : Inv X pins σ H { s with gens := g' } := ⟨I.ok, I.os, ⟨hb.1, Nat.le_trans I.bare.2 hb.2⟩, I.base, I.loc, I.cell, I.free, I.freeC, I.pin, I.hok, I.len⟩
end
end L2

set_option Elab.async false
set_option linter.all false
set_option maxRecDepth 100000
set_option maxHeartbeats 4000000
namespace L2
open PySem PySem.Spec PyProof.Rows

/-- a generator that waits ahead of its turn i -/
def GS (G : Cx) (a : Addr) (go : Obj) (σ : St) (tn : Nat → Heap → Prop) (fp : List Addr) (i : Nat) (H : Hp) (s : Shared) : Prop := Inv G [(a, go)] σ H s ∧ tn i s.heap ∧ ∀ b ∈ fp, H b = none
section
variable {G : Cx} {B : Around} {a it : Addr} {go : Obj} {σ : St} {tn : Nat → Heap → Prop} {fp : List Addr} {W : Nat → Nat → Hp → Prop} {Fin No : Hp → Prop}
variable {elt tg iter : Expr} {ifs : List Expr} {scope : Scope} {pos : Pos} {J : It} {g : TG} {tt : TT} {te : TE} {vs : List Nat}
theorem bare_set {s : Shared} {g : Nat} {x : GenState} (h : AllBare s.gens) (hx : x.bare = true) : AllBare (s.setGen g x).gens := fun y hy => by
  have hy : y ∈ s.gens.setIfInBounds g x := hy
  obtain ⟨j, hj, e⟩ := Array.mem_iff_getElem.mp hy
  rw [Array.getElem_setIfInBounds (by simpa using hj)] at e
  split at e
  · rw [← e]; exact hx
  · rw [← e]; exact h _ (Array.getElem_mem _)
theorem bareG_set {s : Shared} {g : Nat} {x : GenState} (h : AllBare s.gens) (hx : x.bare = true) : BareG s.gens (s.setGen g x).gens := ⟨bare_set h hx, by simp [Shared.setGen]⟩
theorem GS.set {s : Shared} {i : Nat} {H : Hp} {k : Nat} {x : GenState} (h : GS G a go σ tn fp i H s) (hx : x.bare = true) : GS G a go σ tn fp i H (s.setGen k x) := ⟨h.1.gens (bareG_set h.1.bare.1 hx), h.2.1, h.2.2⟩
end
section
variable {X : Cx} {pins : List (Addr × Obj)} {σX : St} {G : Cx} {B : Around} {a : Addr} {k : Nat} {nm qn : Value} {go : Obj} {σ : St} {tn : Nat → Heap → Prop} {fp : List Addr} {W : Nat → Nat → Hp → Prop} {Fin No : Hp → Prop} {R : Result → Shared → Prop}
end
end L2

set_option Elab.async false
set_option linter.all false
set_option maxRecDepth 100000
set_option maxHeartbeats 4000000
namespace L2
open PySem PySem.Spec PyProof.Rows

end L2

set_option Elab.async false
set_option linter.all false
set_option maxRecDepth 100000
set_option maxHeartbeats 4000000
namespace L2
open PySem PySem.Spec PyProof.Rows
def oD : Option Int → PyData
  | none => .none
  | some n => .int n
section
variable {X : Cx}
end
end L2

set_option Elab.async false
set_option linter.all false
set_option maxRecDepth 100000
set_option maxHeartbeats 4000000
namespace L2
open PySem PySem.Spec PyProof.Rows
section
variable {X : Cx}
end
end L2

set_option Elab.async false
set_option linter.all false
set_option maxRecDepth 100000
set_option maxHeartbeats 4000000
namespace L2
open PySem PySem.Spec PyProof.Rows
section
variable {X : Cx}
end
end L2

set_option Elab.async false
set_option linter.all false
set_option maxRecDepth 100000
set_option maxHeartbeats 4000000
namespace L2
open PySem PySem.Spec PyProof.Rows PySem.W PySem.Calls
section
variable {X : Cx}
end
end L2

set_option Elab.async false
set_option linter.all false
set_option maxRecDepth 100000
set_option maxHeartbeats 4000000
namespace L2
open PySem PySem.Spec PyProof.Rows
abbrev bmVE : List Value := [.type "ValueError", .type "Exception", .type "BaseException", .type "object"]
/-- the class at C is an error of one's own, bm what it is made from -/
def ErrAt (K : PySem.W.Frag) (C : Addr) (bm : List Value) : Prop :=
  PySem.W.excIn K C bmVE "ValueError.__new__" = true ∧ ∃ c0 dd cd sl, K.lookup C = some ⟨c0, dd, .cls cd, sl⟩ ∧ cd.mro = .ref C :: bm
def Err (K : PySem.W.Frag) (mg : Str → Option Value) (x : Str) (C : Addr) (bm : List Value) : Prop := mg x = some (.ref C) ∧ ErrAt K C bm
theorem errObj {K : PySem.W.Frag} {h : Heap} {C : Addr} {bm : List Value} (X : K.In h) (q : ErrAt K C bm) :
    ∃ N nm q bs hdct sn sub ab col dd k0 k1 k2 k3 k5 mN, h.get? C = some (excClassObj nm q C N bs bm hdct sn sub ab col dd k0 k1 k2 k3 k5 "ValueError.__new__") ∧ h.Ns N mN ∧ mN "__init__" = none ∧ OwnTail h bmVE bm := by
  obtain ⟨q, c0, dd, cd, sl, hl, hm⟩ := q
  unfold PySem.W.excIn at q
  rw [hl] at q
  split at q
  · rename_i dd' cd' sl' ho
    cases ho
    split at q
    · rename_i C' bm' k0 k1 k2 k3 n k5 hm' hs
      simp only [Bool.and_eq_true, beq_iff_eq, Bool.not_eq_true'] at q
      obtain ⟨⟨⟨⟨⟨rfl, rfl⟩, hdel⟩, ht⟩, hok⟩, hni⟩ := q
      obtain ⟨nm, bs, mro, ns, qn, hd, sn, sub, ab, col, del⟩ := cd
      dsimp only at hm hm' hdel hok hni
      subst hm' hdel
      cases hm
      have hsl : sl = #[k0, k1, k2, k3, some (.builtin "ValueError.__new__"), k5] := by
        obtain ⟨l⟩ := sl
        simp only at hs
        rw [hs]
      subst hsl
      exact ⟨ns, nm, qn, bs, hd, sn, sub, ab, col, dd, k0, k1, k2, k3, k5, _, X _ _ hl, .of_isNs (PySem.W.isNs_of_in X hok), PySem.W.nsMap_none_of_in X hok hni, PySem.W.tail_of_in X ht⟩
    · cases q
  · cases q
/-- an error in flight -/
def CXo (P : Program) (w : World) : CXT := fun outer H s E e s' => ∃ (x C t : Addr) (B : Heap) (H' : Hp), e = .ref x ∧ s'.os = s.os ∧ BareG s.gens s'.gens ∧ Un (frs outer) [] H H' s.heap s'.heap ∧ HOk P w H' B ∧
  (∀ b o, s.heap.get? b = some o → H b = none → b ∉ frs outer → B.get? b = some o) ∧ (∀ b o, s.heap.get? b = some o → b ∉ frs outer → ∃ o', B.get? b = some o') ∧
  Heap.FlyingW B outer x (.ref C) (.ref t) s'.heap ∧ E (.ref C) none H'
theorem Un.fly {st : List Env} {H H' : Hp} {h h1 h2 B : Heap} (u : Un (frs st) [] H H' h h1) (kB : ∀ b o, h.get? b = some o → H b = none → b ∉ frs st → B.get? b = some o) (tB : ∀ b o, h.get? b = some o → b ∉ frs st → ∃ o', B.get? b = some o')
    (hs : B.StaysIn h2) (sm : h1.UpToSlots h2) (ff : ∀ b ∈ frs st, H b = none ∧ ∃ o, h.get? b = some o ∧ ∀ vs, o.data ≠ .fields vs) : Un (frs st) [] H H' h h2 where
  keep b o e n nf _ := hs b o (kB b o e n nf)
  slot b o e n hf hx := by
    obtain ⟨sl, e1⟩ := u.slot b o e n hf hx
    obtain ⟨_, o', e', nf⟩ := ff b hf
    rw [e] at e'; cases e'
    obtain ⟨sl2, e2⟩ := sm b _ e1 nf
    exact ⟨sl2, e2⟩
  free := u.free
  there b o e hx := by
    by_cases hf : b ∈ frs st
    · obtain ⟨n, o', e', nf⟩ := ff b hf
      rw [e] at e'; cases e'
      obtain ⟨sl, e1⟩ := u.slot b o e n hf hx
      obtain ⟨sl2, e2⟩ := sm b _ e1 nf
      exact ⟨_, e2⟩
    · obtain ⟨o', e'⟩ := tB b o e hf
      exact ⟨o', hs _ _ e'⟩
  tups := u.tups
  frzs := u.frzs
  tbls := u.tbls
section
variable {X : Cx} {pins : List (Addr × Obj)} {σ : St} {H : Hp} {s : Shared}
theorem Inv.ff (I : Inv X pins σ H s) : ∀ b ∈ frs X.stack, H b = none ∧ ∃ o, s.heap.get? b = some o ∧ ∀ vs, o.data ≠ .fields vs := fun b hb => ⟨I.stkFree b hb, (I.stack.mem hb).2⟩
theorem Inv.nstk (I : Inv X pins σ H s) {b : Addr} {o : Obj} (e : X.s_0.heap.get? b = some o) (n : b ∉ frs X.outer) : b ∉ frs X.stack := fun z => by
  rcases List.mem_cons.mp (I.stkSub b z) with q | q
  · exact absurd (Nat.lt_of_lt_of_le (Heap.lt_size e) I.ok.above) (by rw [q]; exact Nat.lt_irrefl _)
  · exact n q
end
section
variable {P : Program} {w : World} {K : PySem.W.Frag} {mg : Str → Option Value} {base : Heap} {N : List Str} {qual : Str} {scope : Scope} {f : Addr} {cd : Value} {A : Around} {outer : List Env} {s0 : Shared} {H0 : Hp} {E : XK}
/-- raised here -/
theorem xe_made {pins : List (Addr × Obj)} {σ : St} {H : Hp} {s : Shared} {h' : Heap} {e C : Addr} {args : List Value} {tk : Nat} (I : Inv (cxOf (CXo P w) P w K mg base N qual scope f cd A outer s0 H0 E) pins σ H s)
    (hm : Heap.MadeExcOf s.heap h' e (.ref C) args) (hE : E (.ref C) none H) : (cxOf (CXo P w) P w K mg base N qual scope f cd A outer s0 H0 E).xe (.ref e) { s with heap := h', toks := tk } := by
  have hin : ∀ env ∈ (envOfC qual scope s0.heap.objs.size f cd :: outer), ∀ b, env.frame = some b → b ∈ frs (envOfC qual scope s0.heap.objs.size f cd :: outer) := fun env he b hb => List.mem_filterMap.mpr ⟨env, he, hb⟩
  refine wpAny_leaves_madeW (base := PySem.W.hideAll s.heap (frs (envOfC qual scope s0.heap.objs.size f cd :: outer))) (h := s.heap) I.ok.frames rfl (fun b o q => PySem.W.of_hideAll _ q) (PySem.W.funFrames_hide I.stack hin) hm fun h2 t fl _ _ sm => ?_
  have hB : HOk P w H (PySem.W.hideAll s.heap (frs (envOfC qual scope s0.heap.objs.size f cd :: outer))) := fun a o ea => (I.hok a o ea).stay (fun b u hb q => PySem.W.hideAll_get _ q fun z => by
    have hn := I.stkFree b z
    rcases hb with rfl | hb
    · rw [ea] at hn; cases hn
    · rw [hb] at hn; cases hn) (fun _ q => q) fun _ _ q => q
  have u : Un (frs (envOfC qual scope s0.heap.objs.size f cd :: outer)) [] H H s.heap h2 := Un.fly (Un.kept hm.keeps) (fun b o e n nf => PySem.W.hideAll_get _ e nf) (fun b o e nf => ⟨o, PySem.W.hideAll_get _ e nf⟩) fl.1 sm I.ff
  have I2 := I.call' (s' := { s with heap := h2, toks := tk }) rfl u (hB.kept fl.1) I.bareS (fun b z => by simp at z)
  refine ⟨e, C, t, _, H, rfl, I2.os, I2.bare, I2.base, hB, fun b o e0 n0 nf0 => PySem.W.hideAll_get _ (I.base.keep b o e0 n0 nf0 (fun z => nomatch z)) (I.nstk e0 nf0), fun b o e0 nf0 => ?_, fl, hE⟩
  obtain ⟨o', e'⟩ := I.base.there b o e0 (fun z => nomatch z)
  exact ⟨o', PySem.W.hideAll_get _ e' (I.nstk e0 nf0)⟩
/-- passed on -/
theorem passX : Passes (CXo P w) (cxOf (CXo P w) P w K mg base N qual scope f cd A outer s0 H0 E) E := by
  intro pins σ H s e s' I h
  obtain ⟨x, C, t, B, H', rfl, ho, hg, u, hB, kB, tB, fl, hE⟩ := h
  refine wpAny_leaves_onW I.ok.frames rfl fl fun h2 fl2 sm => ?_
  have u2 := u.fly kB tB fl2.1 sm I.ff
  have I2 := I.call' (s' := { s' with heap := h2 }) ho u2 (hB.kept fl2.1) hg (fun b z => by simp at z)
  refine ⟨x, C, t, B, H', rfl, I2.os, I2.bare, I2.base, hB, fun b o e0 n0 nf0 => kB b o (I.base.keep b o e0 n0 nf0 (fun z => nomatch z)) (I.base.free b o e0 n0 (fun z => nomatch z)) (I.nstk e0 nf0), fun b o e0 nf0 => ?_, fl2, hE⟩
  obtain ⟨o', e'⟩ := I.base.there b o e0 (fun z => nomatch z)
  exact tB b o' e' (I.nstk e0 nf0)
/-- raise C("..") -/
def tRaise (C : Addr) (E : XK) : TS := fun _ _ H => E (.ref C) none H
theorem ps_raise {x : Str} {C : Addr} {bm : List Value} {m : Str} {j : Nat} {np cpos ppos pos : Pos} (er : Err K mg x C bm) (hr : (A.deeper (envOfC qual scope s0.heap.objs.size f cd)).handled = none)
    (hg : Gl (cxOf (CXo P w) P w K mg base N qual scope f cd A outer s0 H0 E) x) (hd : (x == ("__debug__" : Str)) = false := by decide) :
    PS (cxOf (CXo P w) P w K mg base N qual scope f cd A outer s0 H0 E) (.Raise (some (.Call (.Name x np) [.Constant (.str m) j ppos] [] cpos)) none pos) (tRaise C E) := by
  intro pins s σ H D I h
  obtain ⟨N', nm, q, bs, hdct, sn, sub, ab, col, dd, k0, k1, k2, k3, k5, mN, hC, hN, hni, T⟩ := errObj I.kIn er.2
  refine wpAny_Raise_call_subU (bmB := bmVE) (nm := nm) (q := q) (C := C) (N := N') (bs := bs) (hdct := hdct) (sn := sn) (sub := sub) (ab := ab) (col := col) (dd := dd) (k0 := k0) (k1 := k1) (k2 := k2) (k3 := k3) (k5 := k5) PySem.F.excBase_ValueError (by decide) PySem.F.excBase_ValueError (T.hasType (by decide)) hr (by rfl) hni ?_
  refine ld_glob I hg er.1 ⟨rfl, ?_⟩ hd
  refine Calls.evalArgs_plain (Calls.spliced_cons (Calls.Constant_str (k := j) (pos := ppos) (Calls.spliced_nil ?_)))
  exact ⟨rfl, (by show 1 ≤ sizeLine; decide), hC, hN, T, fun h' e hm => xe_made (I.tok _) hm h⟩
end
def FnX (P : Program) (w : World) (K : PySem.W.Frag) (mg : Str → Option Value) (base : Heap) (k : Nat) (x : Str) (ps : List Str) (sp : Sp) : Prop :=
  ∃ (f : Addr) (fd : FuncData), mg x = some (.ref f) ∧ PySem.W.keepIn K (.ref f) = true ∧ Binds K fd ps [] ∧ FnOk P w K mg base (CXo P w) k f fd ps sp
def MFnX (P : Program) (w : World) (K : PySem.W.Frag) (mg : Str → Option Value) (base : Heap) (k : Nat) (C : Addr) (m : Str) (ps : List Str) (sp : Sp) : Prop :=
  ∃ (f : Addr) (fd : FuncData), Cls K C ∧ Meth K C m f ∧ Binds K fd ps [] ∧ FnOk P w K mg base (CXo P w) k f fd ps sp
section
variable {P : Program} {w : World} {K : PySem.W.Frag} {mg : Str → Option Value} {base : Heap} {C : Addr}
theorem Fun.okX {x qual : Str} {st : Stmt} {f : Addr} {fd : FuncData} {N ps : List Str} {k : Nat} {sp : Sp} (F : Fun K x qual st f fd) (S : FnScope N ps (defScope st)) (len : ∀ vs H Q E, sp vs H Q E → vs.length = ps.length)
    (hbody : ∀ (cdv : Value) (A : Around) (outer : List Env) (s : Shared) (H : Hp) (vs : List V) (Q : VK) (E : XK), Room k (A.deeper (envOfC qual (defScope st) s.heap.objs.size f cdv)) → sp vs H Q E →
      ∃ t, PSs (cxOf (CXo P w) P w K mg base N qual (defScope st) f cdv A outer s H E) (defBody st) t ∧ t { nx := fun _ H' => Q .non H', rt := Q } (start N vs) H) : FnOk P w K mg base (CXo P w) (k + 1) f fd ps sp := by
  obtain ⟨oc, od, kV, doc, pm, an, cdv, ct, osl, rfl, lk, hcd⟩ := F.ex
  exact fn_of lk hcd S len fun A outer s H vs Q E hr hsp => hbody cdv A outer s H vs Q E hr hsp
theorem DefAt.fnX {x : Str} {st : Stmt} {N ps : List Str} {k : Nat} {sp : Sp} (D : DefAt K mg x st ps) (S : FnScope N ps (defScope st)) (len : ∀ vs H Q E, sp vs H Q E → vs.length = ps.length)
    (hbody : ∀ (f : Addr) (cdv : Value) (A : Around) (outer : List Env) (s : Shared) (H : Hp) (vs : List V) (Q : VK) (E : XK), Room k (A.deeper (envOfC x (defScope st) s.heap.objs.size f cdv)) → sp vs H Q E →
      ∃ t, PSs (cxOf (CXo P w) P w K mg base N x (defScope st) f cdv A outer s H E) (defBody st) t ∧ t { nx := fun _ H' => Q .non H', rt := Q } (start N vs) H) : FnX P w K mg base (k + 1) x ps sp := by
  obtain ⟨f, fd, hm, F, b⟩ := D
  exact ⟨f, fd, hm, F.kp, b, F.okX S len fun cdv A outer s H vs Q E hr h => hbody f cdv A outer s H vs Q E hr h⟩
theorem DefM.fnX {m qual : Str} {st : Stmt} {N ps : List Str} {k : Nat} {sp : Sp} (D : DefM K C m qual st ps) (S : FnScope N ps (defScope st)) (len : ∀ vs H Q E, sp vs H Q E → vs.length = ps.length)
    (hbody : ∀ (f : Addr) (cdv : Value) (A : Around) (outer : List Env) (s : Shared) (H : Hp) (vs : List V) (Q : VK) (E : XK), Room k (A.deeper (envOfC qual (defScope st) s.heap.objs.size f cdv)) → sp vs H Q E →
      ∃ t, PSs (cxOf (CXo P w) P w K mg base N qual (defScope st) f cdv A outer s H E) (defBody st) t ∧ t { nx := fun _ H' => Q .non H', rt := Q } (start N vs) H) : MFnX P w K mg base (k + 1) C m ps sp := by
  obtain ⟨f, fd, c, hm, F, b⟩ := D
  exact ⟨f, fd, c, hm, b, F.okX S len fun cdv A outer s H vs Q E hr h => hbody f cdv A outer s H vs Q E hr h⟩
end
def tCallX (sp : Sp) (EE : St → XK) (t : TA) : TE := fun σ H Q => t σ H fun vs H1 => sp vs H1 Q (EE σ)
def tMethX (C : Addr) (m : Str) (sp : Sp) (EE : St → XK) (ta : TE) (t : TA) : TE := fun σ H Q => ta σ H fun x H1 => ∃ a dx fs, x = .ref a ∧ H1 a = some (.ins C dx fs) ∧ fs.lookup m = none ∧ t σ H1 fun vs H2 => sp (x :: vs) H2 Q (EE σ)
def PassX (X : Cx) (EE : St → XK) : Prop := ∀ (pins : List (Addr × Obj)) (σ : St) (H : Hp) (s : Shared) (e : Value) (s' : Shared), Inv X pins σ H s → CXo X.prog X.w X.stack H s (EE σ) e s' → X.xe e s'
theorem passHere {P : Program} {w : World} {K : PySem.W.Frag} {mg : Str → Option Value} {base : Heap} {N : List Str} {qual : Str} {scope : Scope} {f : Addr} {cd : Value} {A : Around} {outer : List Env} {s0 : Shared} {H0 : Hp} {E : XK} :
    PassX (cxOf (CXo P w) P w K mg base N qual scope f cd A outer s0 H0 E) (fun _ => E) := fun pins σ H s e s' I h => passX pins σ H s e s' I h
section
variable {X : Cx} {EE : St → XK} {k : Nat} {f : Addr} {fd : FuncData} {ps : List Str} {sp : Sp} {pins : List (Addr × Obj)} {σ : St} {H : Hp} {s : Shared} {Q : VK} {us : List Value} {vs : List V}
theorem run_may (F : FnOk X.prog X.w X.K X.mg X.base (CXo X.prog X.w) k f fd ps sp) (hr : Room k X.A) (hb : Binds X.K fd ps []) (hx : PassX X EE) (I : Inv X pins σ H s) (r : Vals vs us) (h : sp vs H Q (EE σ)) :
    wpAny (model X.prog X.w) X.A (call (.ref f) us) (EP X pins σ Q) X.xe s := by
  have hl : (us ++ []).length = ps.length := by rw [List.append_nil, ← r.length]; exact F.len _ _ _ _ h
  have hb' := hb s us I.kIn hl
  rw [List.append_nil] at hb'
  have go := F.run X.A X.stack s H ⟨us, []⟩ us vs Q (EE σ) hr I.env0 hb' r h
  refine wpAny_call (codeAny_mono go ?_)
  rintro (e | fl) s' hq
  · exact hx pins σ H s e s' I hq
  · cases fl with
    | ret u => exact I.after hq
    | _ => exact False.elim hq
variable {j : Nat} {x m : Str} {C : Addr} {p pos apos : Pos} {e o : Expr} {es : List Expr} {t : TA} {ta : TE}
theorem pe_fnX (F : FnX X.prog X.w X.K X.mg X.base k x ps sp) (hr : Room j X.A) (hg : Gl X x) (hx : PassX X EE) (ha : PA X (e :: es) t)
    (hjk : k ≤ j := by decide) (hdb : (x == ("__debug__" : Str)) = false := by decide) (he : starEach (e :: es) X.env = (false, eval e X.env) :: starEach es X.env := by rfl) (hpl : (backTo pos (starEach es X.env)).any (·.1) = false := by rfl) :
    PE X (.Call (.Name x p) (e :: es) [] pos) (tCallX sp EE t) := by
  obtain ⟨f, fd, hm, kp, b, G⟩ := F
  intro pins s σ H Q I h
  refine wpAny_Call_Name_kw (ld_glob I hg hm ?_ hdb)
  exact PySem.W.callWith_K (h₀ := X.base) I.ok.mod.kin kp (thn (ha pos pins s σ H _ I h) fun us s1 ⟨vs, H1, I1, r, q⟩ => ⟨I1.kIn, run_may G (hr.mono hjk) b hx I1 r q⟩) he hpl
theorem pe_methX {pl : Sem Bool} (he : PE X o ta) (F : MFnX X.prog X.w X.K X.mg X.base k C m ps sp) (hr : Room j X.A) (hx : PassX X EE) (ha : PA X (e :: es) t) (hjk : k ≤ j := by decide)
    (hst : starEach (e :: es) X.env = (false, eval e X.env) :: starEach es X.env := by rfl) (hpl : (backTo pos (starEach es X.env)).any (·.1) = false := by rfl)
    (ht : eval (.Call (.Attribute o m apos) (e :: es) [] pos) X.env = (do
      let ov ← eval o X.env
      standAt apos.atName
      let (f, first) ← holding [ov] (getMethod ov m pl)
      callWith pos f first (backTo pos (starEach (e :: es) X.env)) (backToKw pos (keywordEach [] X.env))) := by rfl) :
    PE X (.Call (.Attribute o m apos) (e :: es) [] pos) (tMethX C m sp EE ta t) := by
  obtain ⟨f, fd, c, hm, b, G⟩ := F
  intro pins s σ H Q I h
  refine PySem.W.methodCall_KW (pl := pl) (thn (he pins s σ H _ I h) fun u s1 ⟨x, H1, I1, rx, a, dx, fs, ex, ea, l, q⟩ => ?_) ht
  subst ex
  obtain rfl : u = Value.ref a := rx
  refine getmeth_ok I1 ea c hm l ?_
  exact PySem.W.callWith_K (first := [.ref a]) (h₀ := X.base) I.ok.mod.kin hm.kp (thn (ha pos pins s1 σ H1 _ I1 q) fun us s2 ⟨vs, H2, I2, r, q2⟩ => ⟨I2.kIn, run_may (us := .ref a :: us) (vs := .ref a :: vs) G (hr.mono hjk) b hx I2 (.cons rfl r) q2⟩) hst hpl
end
end L2

set_option Elab.async false
set_option linter.all false
set_option maxRecDepth 100000
set_option maxHeartbeats 4000000
namespace L2
open PySem PySem.Spec PyProof.Rows
abbrev Cx.more (X : Cx) (p0 : List (Addr × Obj)) : Cx := { X with pn := X.pn ++ p0 }
abbrev Cx.tr (X : Cx) (p0 : List (Addr × Obj)) (EE : St → XK) : Cx := { X with pn := X.pn ++ p0, xe := fun e s' => ∃ (pins : List (Addr × Obj)) (σ : St) (H : Hp) (s : Shared), Inv (X.more p0) pins σ H s ∧ CXo X.prog X.w X.stack H s (EE σ) e s' }
abbrev Cx.hold (X : Cx) (x : Addr) : Cx := { X with A := X.A.mark (some (.ref x)), calm := false, xe := fun _ _ => False }
section
variable {X : Cx} {p0 pins : List (Addr × Obj)} {EE : St → XK} {σ : St} {H : Hp} {s : Shared} {x : Addr}
theorem Cx.Ok.more (ok : X.Ok) : (X.more p0).Ok := ⟨ok.mod, ok.kind, ok.glob, ok.blt, ok.above, ok.inj, ok.has, ok.cab, ok.hd, ok.frames, ok.stk, ok.exf, ok.bs, ok.bsz, ok.noex, ok.exfs, ok.funs, ok.frf, ok.tb⟩
theorem Cx.Ok.tr (ok : X.Ok) : (X.tr p0 EE).Ok := ⟨ok.mod, ok.kind, ok.glob, ok.blt, ok.above, ok.inj, ok.has, ok.cab, ok.hd, ok.frames, ok.stk, ok.exf, ok.bs, ok.bsz, ok.noex, ok.exfs, ok.funs, ok.frf, ok.tb⟩
theorem Cx.Ok.hold (ok : X.Ok) : (X.hold x).Ok := ⟨ok.mod, ok.kind, ok.glob, ok.blt, ok.above, ok.inj, ok.has, ok.cab, (fun z => nomatch z), ok.frames, ok.stk, ok.exf, ok.bs, ok.bsz, ok.noex, ok.exfs, ok.funs, ok.frf, ok.tb⟩
theorem Cx.Ok.untr (ok : (X.tr p0 EE).Ok) : X.Ok := ⟨ok.mod, ok.kind, ok.glob, ok.blt, ok.above, ok.inj, ok.has, ok.cab, ok.hd, ok.frames, ok.stk, ok.exf, ok.bs, ok.bsz, ok.noex, ok.exfs, ok.funs, ok.frf, ok.tb⟩
theorem Cx.Ok.unmore (ok : (X.more p0).Ok) : X.Ok := ⟨ok.mod, ok.kind, ok.glob, ok.blt, ok.above, ok.inj, ok.has, ok.cab, ok.hd, ok.frames, ok.stk, ok.exf, ok.bs, ok.bsz, ok.noex, ok.exfs, ok.funs, ok.frf, ok.tb⟩
theorem Inv.tr (I : Inv X pins σ H s) : Inv (X.tr pins EE) [] σ H s := ⟨I.ok.tr, I.os, I.bare, I.base, I.loc, I.cell, I.free, I.freeC, (fun p hp => I.pin p (by simpa using hp)), I.hok, I.len⟩
theorem Inv.untr (I : Inv (X.tr p0 EE) pins σ H s) : Inv X p0 σ H s := ⟨I.ok.untr, I.os, I.bare, I.base, I.loc, I.cell, I.free, I.freeC, (fun p hp => I.pin p (List.mem_append_left _ hp)), I.hok, I.len⟩
theorem Inv.unmore (I : Inv (X.more p0) pins σ H s) : Inv X p0 σ H s := ⟨I.ok.unmore, I.os, I.bare, I.base, I.loc, I.cell, I.free, I.freeC, (fun p hp => I.pin p (List.mem_append_left _ hp)), I.hok, I.len⟩
theorem Inv.trMore (I : Inv (X.tr p0 EE) pins σ H s) : Inv (X.more p0) pins σ H s := ⟨I.ok.untr.more, I.os, I.bare, I.base, I.loc, I.cell, I.free, I.freeC, I.pin, I.hok, I.len⟩
theorem Inv.hold (I : Inv X pins σ H s) : Inv (X.hold x) pins σ H s := ⟨I.ok.hold, I.os, I.bare, I.base, I.loc, I.cell, I.free, I.freeC, I.pin, I.hok, I.len⟩
theorem Inv.unhold (ok : X.Ok) (I : Inv (X.hold x) pins σ H s) : Inv X pins σ H s := ⟨ok, I.os, I.bare, I.base, I.loc, I.cell, I.free, I.freeC, I.pin, I.hok, I.len⟩
theorem passTr : PassX (X.tr p0 EE) EE := fun pins σ H s e s' I h => ⟨pins, σ, H, s, I.trMore, h⟩
theorem SP.untr {D : Ends} {f : Flow} {s' : Shared} (h : SP (X.tr p0 EE) pins D f s') : SP X p0 D f s' := by
  cases f with
  | next => obtain ⟨σ', H', I, q⟩ := h; exact ⟨σ', H', I.untr, q⟩
  | brk => obtain ⟨σ', H', I, q⟩ := h; exact ⟨σ', H', I.untr, q⟩
  | cont => obtain ⟨σ', H', I, q⟩ := h; exact ⟨σ', H', I.untr, q⟩
  | ret u => obtain ⟨v, σ', H', I, r, q⟩ := h; exact ⟨v, σ', H', I.untr, r, q⟩
/-- a name is given up -/
theorem name_goes {M : Model} {A : Around} {E : Value → Shared → Prop} {j : Nat} {n : Str} {pos : Pos} {Q : Unit → Shared → Prop} (I : Inv X pins σ H s) (hN : X.N.Nodup) (hi : X.N[j]? = some n) (hk : X.env.kindOf n = some .local)
    (h : ∀ s', Inv X pins (σ.set j none) H s' → Q () s') : wpAny M A (do bindName X.env n .none; unbindBehindTheSuite X.env n pos) Q E s := by
  obtain ⟨m, hn, hl⟩ := I.loc
  refine wpAny_nameGoes_keeps hk hn (by rw [I.ok.kind]; rfl) fun h' v hn' hs => ?_
  have lt0 : ∀ b o, X.s_0.heap.get? b = some o → b ≠ X.env.locals := fun b o e => Nat.ne_of_lt (Nat.lt_of_lt_of_le (Heap.lt_size e) I.ok.above)
  refine h _ ⟨I.ok, I.os, I.bare, ⟨fun b o e n hb hx => ?_, fun b o e n hb hx => ?_, I.base.free, fun b o e hx => ?_, I.base.tups, I.base.frzs, I.base.tbls⟩, ⟨_, hn', fun i y v' e1 e2 e3 => ?_⟩, fun y c e => ?_, I.free, I.freeC, fun p hp => ?_, fun a o e => ?_, by simpa using I.len⟩
  · exact (hs.2 b (lt0 b o e)).trans (I.base.keep b o e n hb hx)
  · obtain ⟨sl, e1⟩ := I.base.slot b o e n hb hx
    exact ⟨sl, (hs.2 b (lt0 b o e)).trans e1⟩
  · obtain ⟨o', e1⟩ := I.base.there b o e hx
    exact ⟨o', (hs.2 b (lt0 b o e)).trans e1⟩
  · by_cases hj : i = j
    · subst hj
      rw [List.getElem?_set] at e2
      simp at e2
    · rw [List.getElem?_set_ne (Ne.symm hj)] at e2
      obtain ⟨u', r', q⟩ := hl i y v' e1 e2 e3
      refine ⟨u', r', ?_⟩
      rcases q with ⟨k, e⟩ | ⟨k, c, e, z⟩
      · refine .inl ⟨k, ?_⟩
        have ne : y ≠ n := fun e => hj (nodup_ix hN e1 (e ▸ hi))
        show (if y = n then v else m y) = some u'
        rw [if_neg ne]
        exact e
      · exact .inr ⟨k, c, e, z.sameBut hs (I.cne y c e)⟩
  · obtain ⟨w', z⟩ := I.cell y c e
    exact ⟨w', z.sameBut hs (I.cne y c e)⟩
  · obtain ⟨e, n, ne, nf, d⟩ := I.pin p hp
    exact ⟨(hs.2 p.1 ne).trans e, n, ne, nf, d⟩
  · refine (I.hok a o e).stay (fun b u hb q => (hs.2 b ?_).trans q) (fun _ q => q) fun _ _ q => q
    rcases hb with rfl | hb
    · intro z; rw [z, I.free] at e; cases e
    · intro z; rw [z, I.free] at hb; cases hb
end
/-- the error at x, of the class C -/
def errO (x C : Addr) : HO := .ext fun h => ∃ o vs, h.get? x = some o ∧ o.cls = .ref C ∧ o.data = .fields vs
section
variable {M : Model} {A : Around} {E : Value → Shared → Prop}
theorem excMatches_own {K : PySem.W.Frag} {C S : Addr} {bm bmS : List Value} {h : Heap} {g : Array GenState} {d : Drawn} {t : Nat} {os : OsState} {e : Addr} {oe : Obj} {Q : Bool → Shared → Prop} (X : K.In h) (eC : ErrAt K C bm) (eS : ErrAt K S bmS)
    (he : h.get? e = some oe) (hcls : oe.cls = .ref C) (hm : (Value.ref C :: bm).contains (.ref S) = true) (hq : Q true ⟨h, g, d, t, os⟩) : wpAny M A (excMatches (.ref e) (.ref S)) Q E ⟨h, g, d, t, os⟩ := by
  obtain ⟨N, nm, q, bs, hdct, sn, sub, ab, col, dd, k0, k1, k2, k3, k5, mN, hC, hN, hni, T⟩ := errObj X eC
  obtain ⟨N', nm', q', bs', hdct', sn', sub', ab', col', dd', l0, l1, l2, l3, l5, mN', hS, hN', hni', T'⟩ := errObj X eS
  have hcB : (Value.ref S :: bmS).contains (.type "BaseException") = true := by rw [List.contains_cons, T'.hasType (X := "BaseException") (b := true) (by decide), Bool.or_true]
  have f := tc_notTuple
  unfold excMatches
  repeat (first | (with_reducible refine wpAny_loadPart_at he ?_; rw [hcls]) | with_reducible refine wpAny_loadPart_at hS ?_ | with_reducible refine wpAny_loadPart_at hC ?_ | (with_reducible refine wpAny_isSubtype_exc hS ?_; rw [hcB]) | (with_reducible refine wpAny_isSubtype_exc hC ?_; rw [hm]) | wp_step)
  exact hq
end
/-- what the body may raise: an error of a class that is caught; the suite goes on with it at the name -/
def tTry (K : PySem.W.Frag) (S : Addr) (j : Nat) (tb : (St → XK) → TS) (ts : TS) : TS := fun D σ H =>
  tb (fun σ' cls _ H' => ∃ (C : Addr) (bm : List Value), cls = .ref C ∧ ErrAt K C bm ∧ (Value.ref C :: bm).contains (.ref S) = true ∧
    ∀ x, H' x = none → ts { nx := fun σ2 H2 => D.nx (σ2.set j none) H2, rt := D.rt, bk := fun σ2 H2 => D.bk (σ2.set j none) H2, ct := fun σ2 H2 => D.ct (σ2.set j none) H2 } (σ'.set j (some (.ref x))) (upd H' x (errO x C))) D σ H
theorem ps_try {X : Cx} {body suite : List Stmt} {b₀ : Stmt} {se n : Str} {S : Addr} {bmS : List Value} {j : Nat} {np hpos pos : Pos} {tb : (St → XK) → TS} {ts : TS} (hb : ∀ p0 EE, PSs (X.tr p0 EE) body (tb EE)) (hsu : ∀ x, PSs (X.hold x) (b₀ :: suite) ts)
    (er : Err X.K X.mg se S bmS) (hg : Gl X se) (hN : X.N.Nodup) (hi : X.N[j]? = some n) (hk : X.env.kindOf n = some .local) (hst : X.stack = X.env :: X.outer) (hfr : X.env.frame = some X.env.locals) (hd : (se == ("__debug__" : Str)) = false := by decide) :
    PS X (.Try body [.ExceptHandler (some (.Name se np)) (some n) (b₀ :: suite) hpos] [] [] pos) (tTry X.K S j tb ts) := by
  intro pins s σ H D I h
  refine wpAny_Try_except (wpAny_mono (hb pins _ [] s σ H D I.tr h) (fun f s1 hs => ?_) fun e s1 he => ?_)
  · have hs' := hs.untr
    cases f with
    | next => exact wpAny_pure hs'
    | _ => exact hs'
  obtain ⟨pins', σ', H1, s2, I2, x, C, t, B, H', rfl, ho, hg', u, hB, kB, tB, fl, C', bm, eC, eE, hm, go⟩ := he
  obtain rfl : C = C' := by cases eC; rfl
  have I1 := I2.unmore
  clear I2
  rw [hst] at fl
  refine wpAny_looks_onW (L := X.env.locals) (by rw [← hst]; exact I1.ok.frames) hfr fl fun h4 held sm4 => ?_
  refine wpAny_landsW held fun h5 fl5 sm5 => ?_
  rw [← hst] at fl5
  have I5 := I1.call' (s' := { s1 with heap := h5 }) ho (u.fly kB tB fl5.1 (sm4.trans sm5) I1.ff) (hB.kept fl5.1) hg' (fun b z => by simp at z)
  refine wpAny_handleBy_cons (codeAny_handlers_test ?_) (by intro q; cases q)
  refine ld_glob (X := X.hold x) I5.hold hg er.1 ?_ hd
  obtain ⟨ob, hob, hobc⟩ := fl5.there
  refine excMatches_own I5.kIn eE er.2 hob hobc hm (codeAny_handlers_suite_as ?_)
  refine lands_againW fl5 fun h6 fl6 sm6 => ?_
  have hxB : B.get? x = none := fl6.2.1
  have hx' : H' x = none := hB.dead hxB
  have hxs : ∀ o, s2.heap.get? x ≠ some o := fun o e => by
    by_cases hf : x ∈ frs X.stack
    · obtain ⟨_, o', e', nf⟩ := fl6.2.2.1.mem hf
      obtain ⟨oe, vs, q1, q2, q3, _⟩ := fl6.first
      rw [e'] at q1; cases q1
      exact nf vs q3
    · obtain ⟨o', e'⟩ := tB x o e hf
      rw [hxB] at e'; cases e'
  have u6 := u.fly kB tB fl6.1 ((sm4.trans sm5).trans sm6) I1.ff
  have u7 : Un (frs X.stack) [] H1 (upd H' x (errO x C)) s2.heap h6 := ⟨u6.keep, u6.slot, fun b o e n hx => by have nb : b ≠ x := (fun z => by subst z; exact hxs o e); rw [upd_ne nb]; exact u6.free b o e n hx, u6.there,
    fun b xs e => by have q := u6.tups b xs e; rw [upd_ne (ne_of_none q hx')]; exact q, fun b o y e => by have q := u6.frzs b o y e; rw [upd_ne (ne_of_none q hx')]; exact q,
    fun b ps e => by obtain ⟨more, q⟩ := u6.tbls b ps e; exact ⟨more, by rw [upd_ne (ne_of_none q hx')]; exact q⟩⟩
  have hok7 : HOk X.prog X.w (upd H' x (errO x C)) h6 := fun a o e => by
    by_cases ha : a = x
    · subst ha
      rw [upd_same] at e; cases e
      obtain ⟨oe, vs, q1, q2, q3, _⟩ := fl6.first
      exact ⟨⟨oe, vs, q1, q2, q3⟩, ⟨oe, q1⟩, fun h1 h2 ⟨o, vs, a1, a2, a3⟩ k => ⟨o, vs, k o a1, a2, a3⟩⟩
    · rw [upd_ne ha] at e
      exact (hB a o e).stay (fun b u _ q => fl6.1 b u q) (fun b q => by rw [upd_ne (ne_of_none q hx')]; exact q) fun b xs q => by rw [upd_ne (ne_of_none q hx')]; exact q
  have I7 := I1.call' (s' := { s1 with heap := h6 }) ho u7 hok7 hg' (fun b z => by simp at z)
  refine store_ok I7 hN hi (.inl hk) (v := .ref x) rfl (fun s8 I8 => ?_) (.inr hk)
  refine wpAny_mono (hsu x pins s8 _ _ _ I8.hold (go x hx')) (fun f s9 hs => ?_) fun _ _ z => z.elim
  cases f with
  | next => obtain ⟨σ2, H2, I9, q⟩ := hs; exact name_goes (I9.unhold I1.ok) hN hi hk fun s' I' => ⟨_, H2, I', q⟩
  | brk => obtain ⟨σ2, H2, I9, q⟩ := hs; exact name_goes (I9.unhold I1.ok) hN hi hk fun s' I' => ⟨_, H2, I', q⟩
  | cont => obtain ⟨σ2, H2, I9, q⟩ := hs; exact name_goes (I9.unhold I1.ok) hN hi hk fun s' I' => ⟨_, H2, I', q⟩
  | ret v => obtain ⟨v', σ2, H2, I9, r, q⟩ := hs; exact name_goes (I9.unhold I1.ok) hN hi hk fun s' I' => ⟨v', _, H2, I', r, q⟩
theorem PS.nox {X : Cx} {st : Stmt} {t : TS} (h : PS X.nox st t) : PS X st t := fun pins s σ H D I hw => wpAny_mono (h pins s σ H D (I.wish _) hw) (fun _ _ q => q.unwish) fun _ _ z => False.elim z
theorem err_mk {K : PySem.W.Frag} {mg : Str → Option Value} {h : Heap} (X : K.In h) (G : h.Ns mainGlobals mg) {x : Str} {C : Addr} {bm : List Value} {c0 : Value} {dd : Option Addr} {cd : ClassData} {sl : Array (Option Value)}
    (n : PySem.W.nsIn K mainGlobals x = some (some (.ref C))) (q : PySem.W.excIn K C bmVE "ValueError.__new__" = true) (l : K.lookup C = some ⟨c0, dd, .cls cd, sl⟩) (m : cd.mro = .ref C :: bm) : Err K mg x C bm :=
  ⟨PySem.W.mg_of X G n, q, c0, dd, cd, sl, l, m⟩
end L2

set_option Elab.async false
set_option linter.all false
set_option maxRecDepth 100000
set_option maxHeartbeats 4000000
namespace L2
open PySem PySem.Spec PyProof.Rows PySem.W PySem.Calls Builtin.ObjectAttr Builtin.Getset_descriptor
section
variable {prog : Program} {w : World} {A : Around} {E : Value → Shared → Prop} {s : Shared} {K : PySem.W.Frag} {x C : Addr} {ox : Obj}
theorem looksTy {M : Model} {h : Heap} (hx : h.get? x = some ox) (hc : ox.cls = .ref C) : Looks M h (typeOf (.ref x)) (.ref C) := by
  rw [← hc]
  exact (Looks.ld hx).andThen .now
theorem cls_get {R : Result → Shared → Prop} {tp : Value} (L0 : Looks (model prog w) s.heap (typeOf (.ref x)) (.ref C)) (L1 : Looks (model prog w) s.heap (isSubtype (.ref C) (.type "object")) true)
    (h : R (.ok (.ret (.ref C))) s) : codeAny (model prog w) A (.call (.builtin "getset_descriptor.__get__") ⟨[.builtin "object.__class__", .ref x, tp], []⟩) R s := by
  obtain ⟨hh, g, dr, t, os⟩ := s
  refine codeAny_call_builtin KF.slot_gs.plain KF.entry_gs (KF.slot_gs.check _ _ _ _ _ _ _ _ KF.type_class (KF.args_gs _ _ _) ?_)
  unfold Builtin.«getset_descriptor.__get__» descrGet
  rw [dga_obj]
  refine wpAny_bind (wpAny_pure ?_)
  unfold descrGetter descrCheckInstance descrNameAndClass isInstance
  simp only [KF.owner_class]
  repeat lk
  refine ⟨Code.quiet_builtin _ (by decide +kernel), codeAny_builtin KF.entry_class ?_⟩
  unfold Builtin.«object.__class__» shownTypeOf
  repeat lk
  exact h
theorem cls_entry {tk : Tok} {Q : Fin → Shared → Prop} (L0 : Looks (model prog w) s.heap (typeOf (.ref x)) (.ref C)) (L1 : Looks (model prog w) s.heap (isSubtype (.ref C) (.type "object")) true)
    (L2 : Looks (model prog w) s.heap (typeLookup (.ref C) "__class__") (some (.builtin "object.__class__"))) (h : Q (.done (.ret (.ref C))) s) :
    wpAny (model prog w) A (Builtin.«object.__getattribute__» ⟨[.ref x, .str "__class__" tk], []⟩) Q E s := by
  obtain ⟨hh, g, dr, t, os⟩ := s
  have f6 := F.slot_gs_get.lookup
  have f7 := F.slot_gs_set.lookup
  unfold Builtin.«object.__getattribute__»
  repeat lk
  show wpAny _ A (run (.call (.builtin "getset_descriptor.__get__") ⟨[.builtin "object.__class__", .ref x, .ref C], []⟩)) _ _ _
  refine wpAny_run ?_
  rw [Around.mark_none]
  refine cls_get L0 L1 ?_
  exact wpAny_pure (wpAny_pure h)
theorem ga_check {M : Model} {nameV : Value} {Q : Unit → Shared → Prop} (L0 : Looks M s.heap (typeOf (.ref x)) (.ref C)) (L3 : Looks M s.heap (isSubtype (.ref C) (.type "BaseException")) true) (hq : Q () s) :
    wpAny M A (checkBuiltinCall "BaseException.__getattribute__" ⟨[.ref x, nameV], []⟩) Q E s := by
  have hk : builtinKind "BaseException.__getattribute__" = some .slot := by decide +kernel
  have hsplit : splitId "BaseException.__getattribute__" = some ("BaseException", "__getattribute__") := by decide +kernel
  have ha := F.args_bexc_ga (.ref x) nameV
  obtain ⟨hh, g, dr, t, os⟩ := s
  simp only [checkBuiltinCall, hk, hsplit]
  refine wpAny_bind ((L0.andThen L3 : Looks M hh (isInstance (.ref x) (.type "BaseException")) true).at ?_)
  repeat (first | wp_step)
  exact hq
theorem cls_call {tk : Tok} {R : Result → Shared → Prop} (L0 : Looks (model prog w) s.heap (typeOf (.ref x)) (.ref C)) (L1 : Looks (model prog w) s.heap (isSubtype (.ref C) (.type "object")) true) (L3 : Looks (model prog w) s.heap (isSubtype (.ref C) (.type "BaseException")) true)
    (L2 : Looks (model prog w) s.heap (typeLookup (.ref C) "__class__") (some (.builtin "object.__class__"))) (h : R (.ok (.ret (.ref C))) s) :
    codeAny (model prog w) A (.call (.builtin "BaseException.__getattribute__") ⟨[.ref x, .str "__class__" tk], []⟩) R s :=
  codeAny_call_builtin F.attr_ValueError.ga.plain F.entry_bexc_ga (ga_check L0 L3 (cls_entry L0 L1 L2 h))
theorem cls_attr {Q : Option Value → Shared → Prop} (L0 : Looks (model prog w) s.heap (typeOf (.ref x)) (.ref C)) (L1 : Looks (model prog w) s.heap (isSubtype (.ref C) (.type "object")) true) (L3 : Looks (model prog w) s.heap (isSubtype (.ref C) (.type "BaseException")) true)
    (L2 : Looks (model prog w) s.heap (typeLookup (.ref C) "__class__") (some (.builtin "object.__class__"))) (L4 : Looks (model prog w) s.heap (typeLookup (.ref C) "__getattribute__") (some (.builtin "BaseException.__getattribute__"))) (L5 : Looks (model prog w) s.heap (typeLookup (.ref C) "__getattr__") none)
    (h : Q (some (.ref C)) { s with toks := s.toks + 1 }) : wpAny (model prog w) A (getAttr? (.ref x) "__class__") Q E s := by
  obtain ⟨hh, g, d, t, os⟩ := s
  have f3 := F.attr_ValueError.ga.bind (.ref x)
  unfold getAttr? getAttrBy? getAttrBy
  refine wpAny_bind (wpAny_mkText (wpAny_bind (wpAny_attempt (wpAny_holding (wpAny_bind (L0.at (wpAny_bind (L4.at ?_))))))))
  show wpAny _ _ (getAttrByItsOwn _ _ _ _ _ _) _ _ _
  unfold getAttrByItsOwn hookBefore
  refine wpAny_bind (L5.at ?_)
  refine wpAny_bind (wpAny_attempt (wpAny_holding ?_))
  show wpAny _ _ (boundAndCalled _ _ _) _ _ _
  unfold boundAndCalled
  rw [f3]
  refine wpAny_bind (wpAny_pure ?_)
  refine wpAny_call (cls_call L0 L1 L3 L2 ?_)
  exact handed_on rfl (wpAny_pure h)
end
/-- what an error's class finds of these names -/
structure ErrQ (K : PySem.W.Frag) (C : Addr) : Prop where
  ga : findIn K (.ref C) "__getattribute__" = some (some (.builtin "BaseException.__getattribute__"))
  gt : findIn K (.ref C) "__getattr__" = some none
  cl : findIn K (.ref C) "__class__" = some (some (.builtin "object.__class__"))
section
variable {K : PySem.W.Frag} {x C S : Addr} {bm bmS : List Value}
theorem ErrAt.cls (e : ErrAt K C bm) : ∃ dd cd sl, K.lookup C = some ⟨.type "type", dd, .cls cd, sl⟩ ∧ cd.mro = .ref C :: bm := by
  obtain ⟨q, c0, dd, cd, sl, hl, hm⟩ := e
  unfold PySem.W.excIn at q
  rw [hl] at q
  split at q
  · rename_i dd' cd' sl' ho
    cases ho
    exact ⟨dd, cd, sl, hl, hm⟩
  · cases q
theorem ErrAt.mro (e : ErrAt K C bm) (v : Value) : mroIn K C v = some ((Value.ref C :: bm).contains v) := by
  obtain ⟨dd, cd, sl, hl, hm⟩ := e.cls
  unfold mroIn clsIn
  rw [hl]
  simp [hm]
theorem kit_err (e : ErrAt K C bm) (e' : ErrAt K S bmS) : kitOne K (.ref C) (.ref S) = some ((Value.ref C :: bm).contains (.ref S)) := by
  unfold kitOne
  by_cases z : ((Value.ref C : Value) == .ref S) = true
  · rw [if_pos z]
    have : C = S := by have := beq_iff_eq.mp z; cases this; rfl
    subst this
    simp
  · rw [if_neg z]
    obtain ⟨dd, cd, sl, hl, hm⟩ := e'.cls
    have h1 : ((clsIn K S).isSome && typeIn K (.ref S) == some (.type "type")) = true := by
      simp [clsIn, typeIn, hl]
    unfold kitCls
    dsimp only
    rw [if_pos h1]
    exact e.mro _
theorem kit_errT (e : ErrAt K C bm) {T : String} (hT : kitMeta T = true) : kitOne K (.ref C) (.type T) = some ((Value.ref C :: bm).contains (.type T)) := by
  unfold kitOne
  rw [if_neg (by intro z; cases (beq_iff_eq.mp z))]
  unfold kitCls
  dsimp only
  rw [if_pos hT]
  exact e.mro _
theorem kitx_err (e : ErrAt K C bm) (q : ErrQ K C) : KitX K (.ref x) (.ref C) (fun h => ∃ o, h.get? x = some o ∧ o.cls = .ref C) where
  ty := fun M h X p => by obtain ⟨o, h1, h2⟩ := p; exact looksTy h1 h2
  it := fun M h X _ => by
    obtain ⟨dd, cd, sl, hl, hm⟩ := e.cls
    intro A' Q' E' s' k q
    unfold isType loadHead
    exact wpAny_bind (wpAny_loadPart (k _ _ (X _ _ hl)) (wpAny_pure q))
  ne := fun h tp dd its n sl X htp => by
    obtain ⟨dd', cd, sl', hl, hm⟩ := e.cls
    refine Bool.eq_false_iff.mpr fun z => ?_
    have e : C = tp := Value.ref.inj (beq_iff_eq.mp z)
    subst e
    have z2 := congrArg Obj.cls (Option.some.inj ((X _ _ hl).symm.trans htp))
    exact absurd (Value.type.inj z2) (by decide)
  ca := fun X p k => by
    obtain ⟨o, h1, h2⟩ := p
    obtain ⟨N, nm, qq, bs, hdct, sn, sub, ab, col, dd, k0, k1, k2, k3, k5, mN, hC, hN, hni, T⟩ := errObj X e
    have m1 := e.mro (.type "object")
    have m2 := e.mro (.type "BaseException")
    rw [List.contains_cons, T.hasType (X := "object") (b := true) (by decide), Bool.or_true] at m1
    rw [List.contains_cons, T.hasType (X := "BaseException") (b := true) (by decide), Bool.or_true] at m2
    exact cls_attr (looksTy h1 h2) (looks_mroIn X m1) (looks_mroIn X m2) (looks_findIn X q.cl) (looks_findIn X q.ga) (looks_findIn X q.gt) k
end
/-- isinstance(error, class) -/
theorem call_isinstE {X : Cx} : CallR X (.builtin "isinstance") (fun xs H Q => ∃ x C bm c b, xs = [.ref x, c] ∧ H x = some (errO x C) ∧ ErrAt X.K C bm ∧ ErrQ X.K C ∧
    ((∃ T, c = .ty T ∧ kitOne X.K (.ref C) (.type T) = some b) ∨ (∃ S, c = .ref S ∧ kitOne X.K (.ref C) (.ref S) = some b) ∨ (∃ (tp : Addr) (Ss : List Addr), c = .ref tp ∧ H tp = some (.tup (Ss.map V.ref)) ∧ kitAny X.K (.ref C) (Ss.map Value.ref) = some b)) ∧ Q (.bl b) H) := by
  intro pins s σ H xs us Q I r h
  obtain ⟨x, C, bm, c, b, rfl, hx, e, q, hc, hq⟩ := h
  cases r with
  | cons r rr =>
    cases rr with
    | cons r' rr =>
      cases rr
      cases r
      obtain ⟨⟨o, vs, o1, o2, o3⟩, _⟩ := (show ObjOk X.prog X.w H s.heap x (errO x C) from I.hok x _ hx)
      rcases hc with ⟨T, rfl, hk⟩ | ⟨S, rfl, hk⟩ | ⟨tp, Ss, rfl, htp, hk⟩
      · cases r'
        exact kia_one (kitx_err e q) I.kIn ⟨o, o1, o2⟩ hk (fun z => nomatch z) fun tk => ⟨.bl b, H, I.tok tk, rfl, hq⟩
      · cases r'
        exact kia_one (kitx_err e q) I.kIn ⟨o, o1, o2⟩ hk (fun z => nomatch z) fun tk => ⟨.bl b, H, I.tok tk, rfl, hq⟩
      · cases r'
        obtain ⟨_, its, rv, ot, t1, t2, n, t3⟩ := (show ObjOk X.prog X.w H s.heap tp (.tup (Ss.map V.ref)) from I.hok tp _ htp)
        have eits : ∀ (Ss : List Addr) (its : List Value), Vals (Ss.map V.ref) its → its = Ss.map Value.ref := by
          intro Ss
          induction Ss with
          | nil => intro its rv; cases rv; rfl
          | cons a r ih => intro its rv; cases rv with | cons h1 h2 => cases h1; rw [ih _ h2]; rfl
        have := eits Ss its rv
        subst this
        obtain ⟨oc, od, odt, osl⟩ := ot
        dsimp only at t2 t3
        subst t2 t3
        exact kia_tup (kitx_err e q) I.kIn ⟨o, o1, o2⟩ t1 hk (fun z => nomatch z) fun tk => ⟨.bl b, H, I.tok tk, rfl, hq⟩
end L2

set_option Elab.async false
set_option linter.all false
set_option maxRecDepth 100000
set_option maxHeartbeats 4000000
namespace L2
open PySem PySem.Spec PyProof.Rows PySem.W PySem.Calls Builtin.ObjectAttr Builtin.Getset_descriptor
section
variable {prog : Program} {w : World} {A : Around} {E : Value → Shared → Prop} {s : Shared} {K : PySem.W.Frag} {x : Addr} {ox : Obj}
theorem looksTyV {M : Model} {h : Heap} (hx : h.get? x = some ox) (hc : ox.cls = .type "ValueError") : Looks M h (typeOf (.ref x)) (.type "ValueError") := by
  rw [← hc]
  exact (Looks.ld hx).andThen .now
theorem cls_getV {R : Result → Shared → Prop} {tp : Value} (L0 : Looks (model prog w) s.heap (typeOf (.ref x)) (.type "ValueError")) (L1 : Looks (model prog w) s.heap (isSubtype (.type "ValueError") (.type "object")) true)
    (h : R (.ok (.ret (.type "ValueError"))) s) : codeAny (model prog w) A (.call (.builtin "getset_descriptor.__get__") ⟨[.builtin "object.__class__", .ref x, tp], []⟩) R s := by
  obtain ⟨hh, g, dr, t, os⟩ := s
  refine codeAny_call_builtin KF.slot_gs.plain KF.entry_gs (KF.slot_gs.check _ _ _ _ _ _ _ _ KF.type_class (KF.args_gs _ _ _) ?_)
  unfold Builtin.«getset_descriptor.__get__» descrGet
  rw [dga_obj]
  refine wpAny_bind (wpAny_pure ?_)
  unfold descrGetter descrCheckInstance descrNameAndClass isInstance
  simp only [KF.owner_class]
  repeat lk
  refine ⟨Code.quiet_builtin _ (by decide +kernel), codeAny_builtin KF.entry_class ?_⟩
  unfold Builtin.«object.__class__» shownTypeOf
  repeat lk
  exact h
theorem cls_entryV {tk : Tok} {Q : Fin → Shared → Prop} (L0 : Looks (model prog w) s.heap (typeOf (.ref x)) (.type "ValueError")) (L1 : Looks (model prog w) s.heap (isSubtype (.type "ValueError") (.type "object")) true)
    (L2 : Looks (model prog w) s.heap (typeLookup (.type "ValueError") "__class__") (some (.builtin "object.__class__"))) (h : Q (.done (.ret (.type "ValueError"))) s) :
    wpAny (model prog w) A (Builtin.«object.__getattribute__» ⟨[.ref x, .str "__class__" tk], []⟩) Q E s := by
  obtain ⟨hh, g, dr, t, os⟩ := s
  have f6 := F.slot_gs_get.lookup
  have f7 := F.slot_gs_set.lookup
  unfold Builtin.«object.__getattribute__»
  repeat lk
  show wpAny _ A (run (.call (.builtin "getset_descriptor.__get__") ⟨[.builtin "object.__class__", .ref x, .type "ValueError"], []⟩)) _ _ _
  refine wpAny_run ?_
  rw [Around.mark_none]
  refine cls_getV L0 L1 ?_
  exact wpAny_pure (wpAny_pure h)
theorem ga_checkV {M : Model} {nameV : Value} {Q : Unit → Shared → Prop} (L0 : Looks M s.heap (typeOf (.ref x)) (.type "ValueError")) (L3 : Looks M s.heap (isSubtype (.type "ValueError") (.type "BaseException")) true) (hq : Q () s) :
    wpAny M A (checkBuiltinCall "BaseException.__getattribute__" ⟨[.ref x, nameV], []⟩) Q E s := by
  have hk : builtinKind "BaseException.__getattribute__" = some .slot := by decide +kernel
  have hsplit : splitId "BaseException.__getattribute__" = some ("BaseException", "__getattribute__") := by decide +kernel
  have ha := F.args_bexc_ga (.ref x) nameV
  obtain ⟨hh, g, dr, t, os⟩ := s
  simp only [checkBuiltinCall, hk, hsplit]
  refine wpAny_bind ((L0.andThen L3 : Looks M hh (isInstance (.ref x) (.type "BaseException")) true).at ?_)
  repeat (first | wp_step)
  exact hq
theorem cls_callV {tk : Tok} {R : Result → Shared → Prop} (L0 : Looks (model prog w) s.heap (typeOf (.ref x)) (.type "ValueError")) (L1 : Looks (model prog w) s.heap (isSubtype (.type "ValueError") (.type "object")) true) (L3 : Looks (model prog w) s.heap (isSubtype (.type "ValueError") (.type "BaseException")) true)
    (L2 : Looks (model prog w) s.heap (typeLookup (.type "ValueError") "__class__") (some (.builtin "object.__class__"))) (h : R (.ok (.ret (.type "ValueError"))) s) :
    codeAny (model prog w) A (.call (.builtin "BaseException.__getattribute__") ⟨[.ref x, .str "__class__" tk], []⟩) R s :=
  codeAny_call_builtin F.attr_ValueError.ga.plain F.entry_bexc_ga (ga_checkV L0 L3 (cls_entryV L0 L1 L2 h))
theorem cls_attrV {Q : Option Value → Shared → Prop} (L0 : Looks (model prog w) s.heap (typeOf (.ref x)) (.type "ValueError")) (L1 : Looks (model prog w) s.heap (isSubtype (.type "ValueError") (.type "object")) true) (L3 : Looks (model prog w) s.heap (isSubtype (.type "ValueError") (.type "BaseException")) true)
    (L2 : Looks (model prog w) s.heap (typeLookup (.type "ValueError") "__class__") (some (.builtin "object.__class__"))) (L4 : Looks (model prog w) s.heap (typeLookup (.type "ValueError") "__getattribute__") (some (.builtin "BaseException.__getattribute__")))
    (h : Q (some (.type "ValueError")) { s with toks := s.toks + 1 }) : wpAny (model prog w) A (getAttr? (.ref x) "__class__") Q E s := by
  obtain ⟨hh, g, d, t, os⟩ := s
  have f3 := F.attr_ValueError.ga.bind (.ref x)
  unfold getAttr? getAttrBy? getAttrBy
  refine wpAny_bind (wpAny_mkText (wpAny_bind (wpAny_attempt (wpAny_holding (wpAny_bind (L0.at (wpAny_bind (L4.at ?_))))))))
  show wpAny _ _ (getAttrByItsOwn _ _ _ _ _ _) _ _ _
  unfold getAttrByItsOwn hookBefore
  refine wpAny_bind (wpAny_pure ?_)
  refine wpAny_bind (wpAny_attempt (wpAny_holding ?_))
  show wpAny _ _ (boundAndCalled _ _ _) _ _ _
  unfold boundAndCalled
  rw [f3]
  refine wpAny_bind (wpAny_pure ?_)
  refine wpAny_call (cls_callV L0 L1 L3 L2 ?_)
  exact handed_on rfl (wpAny_pure h)
end

/-- the ValueError at x -/
def verrO (x : Addr) : HO := .ext fun h => ∃ o vs, h.get? x = some o ∧ o.cls = .type "ValueError" ∧ o.data = .fields vs
theorem kitx_verr {K : PySem.W.Frag} {x : Addr} : KitX K (.ref x) (.type "ValueError") (fun h => ∃ o, h.get? x = some o ∧ o.cls = .type "ValueError") :=
  kitx_of (fun M h p => by obtain ⟨o, h1, h2⟩ := p; exact looksTyV h1 h2) (fun {_ _ _ _ _ s} p k => by
    obtain ⟨o, h1, h2⟩ := p
    exact cls_attrV (looksTyV h1 h2) (Looks.of_pure (by rw [isSubtype_type]; kernel_rfl)) (Looks.of_pure (by rw [isSubtype_type]; kernel_rfl)) (Looks.of_pure (by rw [typeLookup_type, builtinLookup_eq_fast]; kernel_rfl)) (Looks.of_pure F.attr_ValueError.ga.lookup) k)
/-- the type of a thing, errors among them -/
inductive TyX (K : PySem.W.Frag) (H : Hp) : V → Value → Prop where
  | of {v : V} {t : Value} (h : TyOf K H v t) : TyX K H v t
  | verr {x : Addr} (h : H x = some (verrO x)) : TyX K H (.ref x) (.type "ValueError")
theorem call_isinstX {X : Cx} : CallR X (.builtin "isinstance") (fun xs H Q => ∃ x c t b, xs = [x, .ty c] ∧ TyX X.K H x t ∧ kitOne X.K t (.type c) = some b ∧ Q (.bl b) H) := by
  intro pins s σ H xs us Q I r h
  obtain ⟨x, c, t, b, rfl, ty, e, q⟩ := h
  cases r with
  | cons r rr =>
    cases rr with
    | cons r' rr =>
      cases rr
      cases r'
      cases ty with
      | of ty => exact isinst_ok I r ty e fun tk => ⟨.bl b, H, I.tok tk, rfl, q⟩
      | @verr x hx =>
        cases r
        obtain ⟨⟨o, vs, o1, o2, o3⟩, _⟩ := (show ObjOk X.prog X.w H s.heap x (verrO x) from I.hok x _ hx)
        exact kia_one kitx_verr I.kIn ⟨o, o1, o2⟩ e (fun z => nomatch z) fun tk => ⟨.bl b, H, I.tok tk, rfl, q⟩
theorem call_verr {X : Cx} : CallR X (.type "ValueError") (fun xs H Q => ∃ m, xs = [.str m] ∧ ∀ p, H p = none → Q (.ref p) (upd H p (verrO p))) := by
  intro pins s σ H xs us Q I r h
  obtain ⟨m, rfl, q⟩ := h
  refine wpAny_call_exc F.excCall_ValueError (hrest := (by rw [← r.length]; show 1 ≤ sizeLine; decide)) fun h' e hm => ?_
  obtain ⟨t, t1, t2, t3⟩ := hm.there
  have he : H e = none := I.hok.dead hm.new
  have u : Un X.fs [] H (upd H e (verrO e)) s.heap h' := ⟨fun b o q _ _ _ => hm.keeps b o q, fun b o q _ _ _ => ⟨o.slots, hm.keeps b o q⟩, fun b o q n _ => by
      have nb : b ≠ e := fun z => by rw [z, hm.new] at q; cases q
      rw [upd_ne nb]; exact n, fun b o q _ => ⟨o, hm.keeps b o q⟩, fun b xs q => by rw [upd_ne (ne_of_none q he)]; exact q, fun b o y q => by rw [upd_ne (ne_of_none q he)]; exact q, fun b ps q => ⟨#[], by rw [upd_ne (ne_of_none q he), q]; simp⟩⟩
  have hok : HOk X.prog X.w (upd H e (verrO e)) h' := fun a o ea => by
    by_cases z : a = e
    · subst z
      rw [upd_same] at ea; cases ea
      exact ⟨⟨_, _, t1, rfl, rfl⟩, ⟨_, t1⟩, fun h1 h2 ⟨o, vs, a1, a2, a3⟩ k => ⟨o, vs, k o a1, a2, a3⟩⟩
    · rw [upd_ne z] at ea
      exact (I.hok a o ea).stay (fun b u _ q => hm.keeps b u q) (fun b q => by rw [upd_ne (ne_of_none q he)]; exact q) fun b xs q => by rw [upd_ne (ne_of_none q he)]; exact q
  exact ⟨.ref e, _, I.un (t' := s.toks) u hok, rfl, q e he⟩
end L2

set_option Elab.async false
set_option linter.all false
set_option maxRecDepth 100000
set_option maxHeartbeats 4000000
namespace L2
open PySem PySem.Spec PyProof.Rows
end L2

set_option Elab.async false
set_option linter.all false
set_option maxRecDepth 100000
set_option maxHeartbeats 4000000
namespace L2
open PySem PySem.Spec PyProof.Rows
/-- the first least place of the stretch from b to e -/
abbrev fp (ns : List Int) (b e : Nat) : Nat := b + pl (seg ns (b : Int) (e : Int))
/-- one stretch ahead of another -/
def Ahead (ns : List Int) (b e b0 e0 : Nat) : Prop := vl ns (fp ns b e) < vl ns (fp ns b0 e0) ∨ (vl ns (fp ns b e) = vl ns (fp ns b0 e0) ∧ (b < b0 ∨ (b = b0 ∧ e < e0)))
instance (ns : List Int) (b e b0 e0 : Nat) : Decidable (Ahead ns b e b0 e0) := by unfold Ahead; infer_instance
/-- one place ahead of another -/
def PAhead (ns : List Int) (g f : Nat) : Prop := vl ns g < vl ns f ∨ (vl ns g = vl ns f ∧ g < f)
instance (ns : List Int) (g f : Nat) : Decidable (PAhead ns g f) := by unfold PAhead; infer_instance
end L2

set_option Elab.async false
set_option linter.all false
set_option maxRecDepth 100000
set_option maxHeartbeats 4000000
namespace L2
open PySem PySem.Spec PyProof.Rows
def TAt (H : Hp) (ts : List Addr) (l : List (List Int)) : Prop := ts.length = l.length ∧ ∀ (j : Nat) (t : Addr) (x : List Int), ts[j]? = some t → l[j]? = some x → H t = some (.tup (x.map V.int))
theorem TAt.same {H H' : Hp} {ts : List Addr} {xs : List (List Int)} (h : TAt H ts xs) (s : Same H H') : TAt H' ts xs := ⟨h.1, fun j t x h1 h2 => s _ _ (h.2 j t x h1 h2)⟩
theorem TAt.at {H : Hp} {ts : List Addr} {xs : List (List Int)} {D : Addr} {us ys : List V} (h : TAt H ts xs) (hD : H D = some (.lst us)) : TAt (upd H D (.lst ys)) ts xs := ⟨h.1, fun j t x h1 h2 => by
  have c := h.2 j t x h1 h2
  rw [upd_ne fun z => by rw [z, hD] at c; cases c]
  exact c⟩
theorem TAt.snoc {H : Hp} {ts : List Addr} {xs : List (List Int)} {t : Addr} {x : List Int} (h : TAt H ts xs) (ht : H t = some (.tup (x.map V.int))) : TAt H (ts ++ [t]) (xs ++ [x]) := by
  refine ⟨by rw [List.length_append, List.length_append, h.1]; rfl, fun j t' x' h1 h2 => ?_⟩
  rcases Nat.lt_trichotomy j ts.length with z | z | z
  · rw [List.getElem?_append_left z] at h1
    rw [List.getElem?_append_left (by rw [← h.1]; exact z)] at h2
    exact h.2 j t' x' h1 h2
  · subst z
    rw [List.getElem?_append_right (Nat.le_refl _), Nat.sub_self] at h1
    rw [h.1, List.getElem?_append_right (Nat.le_refl _), Nat.sub_self] at h2
    have e1 : t = t' := by simpa using h1
    have e2 : x = x' := by simpa using h2
    subst e1 e2
    exact ht
  · exfalso
    have := (List.getElem?_eq_some_iff.mp h1).1
    rw [List.length_append] at this
    simp at this; omega
def intOf : V → Int
  | .int n => n
  | _ => 0
def keyAt (H : Hp) (t : Addr) : List Int := match H t with
  | some (.tup vs) => vs.map intOf
  | _ => []
theorem keyAt_tup {H : Hp} {t : Addr} {x : List Int} (h : H t = some (.tup (x.map V.int))) : keyAt H t = x := by
  unfold keyAt
  rw [h]
  show (x.map V.int).map intOf = x
  rw [List.map_map]
  exact List.map_id' x
theorem TAt.keys {H : Hp} {ts : List Addr} {l : List (List Int)} (h : TAt H ts l) : ts.map (keyAt H) = l := by
  apply List.ext_getElem?
  intro i
  rw [List.getElem?_map]
  by_cases hi : i < ts.length
  · have hi2 : i < l.length := by rw [← h.1]; exact hi
    rw [List.getElem?_eq_getElem hi, List.getElem?_eq_getElem hi2]
    have := h.2 i _ _ (List.getElem?_eq_getElem hi) (List.getElem?_eq_getElem hi2)
    show some (keyAt H ts[i]) = _
    rw [keyAt_tup this]
  · rw [List.getElem?_eq_none (by omega), List.getElem?_eq_none (by rw [← h.1]; omega)]; rfl
theorem TAt.mem {H : Hp} {ts : List Addr} {l : List (List Int)} (h : TAt H ts l) {t : Addr} (ht : t ∈ ts) : ∃ x ∈ l, H t = some (.tup (x.map V.int)) := by
  obtain ⟨i, hi, rfl⟩ := List.mem_iff_getElem.mp ht
  have hi2 : i < l.length := by rw [← h.1]; exact hi
  exact ⟨l[i], List.getElem_mem hi2, h.2 i _ _ (List.getElem?_eq_getElem hi) (List.getElem?_eq_getElem hi2)⟩
end L2

set_option Elab.async false
set_option linter.all false
set_option maxRecDepth 100000
set_option maxHeartbeats 4000000
namespace L2
open PySem PySem.Spec PyProof.Rows
/-- how many stretches a place holds -/
def held (ps : List (Int × Int)) (f : Nat) : Int := ((f : Int) - (ps.getD f (0, 0)).1 + 1) * ((ps.getD f (0, 0)).2 - f)
end L2

set_option Elab.async false
set_option linter.all false
set_option maxRecDepth 100000
set_option maxHeartbeats 4000000
namespace L2
open PySem PySem.Spec PyProof.Rows
section
variable {X : Cx}
end
theorem TAt.nil (H : Hp) : TAt H [] [] := ⟨rfl, fun j t x h _ => nomatch h⟩
end L2

set_option Elab.async false
set_option linter.all false
set_option maxRecDepth 100000
set_option maxHeartbeats 4000000
namespace L2
open PySem PySem.Spec PyProof.Rows
end L2

set_option Elab.async false
set_option linter.all false
set_option maxRecDepth 100000
set_option maxHeartbeats 4000000
namespace L2
open PySem PySem.Spec PyProof.Rows
end L2

set_option Elab.async false
set_option linter.all false
set_option maxRecDepth 100000
set_option maxHeartbeats 4000000
namespace L2
open PySem PySem.Spec PyProof.Rows
end L2

set_option Elab.async false
set_option linter.all false
set_option maxRecDepth 100000
set_option maxHeartbeats 4000000
namespace L2
open PySem PySem.Spec PyProof.Rows
end L2

set_option Elab.async false
set_option linter.all false
namespace L2
open PySem
end L2

set_option Elab.async false
set_option linter.all false
set_option maxRecDepth 100000
set_option maxHeartbeats 4000000
namespace L2
open PySem PySem.Spec PyProof.Rows PySem.W PySem.Calls
section
variable {X : Cx}
end
end L2

set_option Elab.async false
set_option linter.all false
set_option maxRecDepth 100000
set_option maxHeartbeats 4000000
namespace L2
open PySem PySem.Spec PyProof.Rows
section
variable {M : Model} {A : Around} {E : Value → Shared → Prop}
end
end L2

set_option Elab.async false
set_option linter.all false
set_option maxRecDepth 100000
set_option maxHeartbeats 4000000
namespace L2
open PySem PySem.Spec PyProof.Rows PySem.Calls
def tLstN (t : TA) : TE := fun σ H Q => t σ H fun xs H1 => xs.length ≤ sizeLine ∧ ∀ p, H1 p = none → p ≠ sysModules → Q (.ref p) (upd H1 p (.lst xs))
def rCatN : R2 := fun x y H Q => ∃ l b xs zs, x = .ref l ∧ y = .ref b ∧ H l = some (.lst xs) ∧ H b = some (.lst zs) ∧ xs.length + zs.length ≤ sizeLine ∧ ∀ p, H p = none → p ≠ sysModules → Q (.ref p) (upd H p (.lst (xs ++ zs)))
def rSlLN (K : PySem.W.Frag) : V → Option Int → Option Int → Hp → VK → Prop := fun x lo hi H Q => ∃ a xs, x = .ref a ∧ SqL K H a xs ∧ ∀ p, H p = none → p ≠ sysModules → Q (.ref p) (upd H p (.lst (cutV xs lo hi)))
section
variable {X : Cx}
theorem pe_lstN {es : List Expr} {t : TA} {pos : Pos} (h : PA X es t) : PE X (.List es pos) (tLstN t) := by
  intro pins s σ H Q I hq
  refine wpAny_List_spliced (thn (h pos pins s σ H _ I hq) fun us s1 ⟨xs, H1, I1, r, z, q⟩ => ⟨by rw [← r.length]; exact z, ?_⟩)
  have hf : H1 s1.heap.objs.size = none := I1.hok.fresh (Nat.le_refl _)
  refine ⟨.ref s1.heap.objs.size, upd H1 s1.heap.objs.size (.lst xs), I1.laid (t' := s1.toks) (fun b u e => Heap.get?_push_of_some _ e) (Nat.le_refl _) ?_, rfl, q _ hf (Nat.ne_of_gt I1.big)⟩
  exact ⟨z, us, 0, r, Heap.get?_push_size _ rfl⟩
theorem op_catN : OpR X (binaryOp .Add) rCatN := by
  intro pins s σ H x y v u Q I rx ry h
  obtain ⟨l, b, xs, zs, rfl, rfl, hH, hB, hz, q⟩ := h
  cases rx
  cases ry
  obtain ⟨z, its, n, r, hl, e⟩ := I.lstM hH
  obtain ⟨z2, its2, n2, r2, hl2, e2⟩ := I.lstM hB
  refine PySem.P.add_list e e2 ?_ (by rw [List.size_toArray, List.size_toArray]; omega)
  have ea : its.toArray ++ its2.toArray = (its ++ its2).toArray := by simp
  rw [ea]
  exact ⟨.ref _, _, I.lnew (t' := s.toks) (r.append r2) (by rw [List.length_append]; omega), rfl, q _ I.fresh (Nat.ne_of_gt I.big)⟩
theorem sl_listN : SlR X (rSlLN X.K) := by
  intro pins s σ H x v vl vu lo hi sl Q I rx hs pl pu h
  obtain ⟨a, xs, rfl, hx, q⟩ := h
  cases rx
  obtain ⟨its, r, ht, hz⟩ := I.list hx
  have hlen := r.length
  refine ⟨"list", _, slot_list_getitem.lookup, ht.isList.typeIs, ?_⟩
  refine wpAny_getItem_list_slice ht.isList hs pl pu .none (by simp) ?_ (by rw [List.size_toArray] <;> omega)
  rw [slicePick_cut, ← hlen]
  refine ⟨.ref s.heap.objs.size, _, I.laid (t' := s.toks) (o := .lst (cutV xs lo hi)) (fun b ob q => Heap.get?_push_of_some _ q) (Nat.le_refl _) ?_, rfl, q _ (I.hok.fresh (Nat.le_refl _)) (Nat.ne_of_gt I.big)⟩
  exact ⟨Nat.le_trans (cutV_length xs lo hi) hz, _, 0, (r.drop (HT.sIx xs.length 0 lo)).take (HT.sIx xs.length xs.length hi - HT.sIx xs.length 0 lo), Heap.get?_push_size _ rfl⟩

end
mutual
inductive Dq (K : PySem.W.Frag) (H : Hp) (W : Addr → Prop) : V → PyData → Prop
  | non : Dq K H W .non .none
  | bl (b : Bool) : Dq K H W (.bl b) (.bool b)
  | int (i : Int) : Dq K H W (.int i) (.int i)
  | str (x : Str) : Dq K H W (.str x) (.str x)
  | lst {a : Addr} {xs : List V} {ds : List PyData} : H a = some (.lst xs) → W a → DqAll K H W xs ds → Dq K H W (.ref a) (.list ds)
  | tup {a : Addr} {xs : List V} {ds : List PyData} : H a = some (.tup xs) → DqAll K H W xs ds → Dq K H W (.ref a) (.tuple ds)
  | emp {a : Addr} : H a = some (.dK []) → Dq K H W (.ref a) (.dict [])
inductive DqAll (K : PySem.W.Frag) (H : Hp) (W : Addr → Prop) : List V → List PyData → Prop
  | nil : DqAll K H W [] []
  | cons {v : V} {vs : List V} {d : PyData} {ds : List PyData} : Dq K H W v d → DqAll K H W vs ds → DqAll K H W (v :: vs) (d :: ds)
end
section
variable {X : Cx} {pins : List (Addr × Obj)} {σ : St} {H : Hp} {s : Shared} {W : Addr → Prop}
mutual
theorem Dq.reads (I : Inv X pins σ H s) (hW : ∀ a, W a → a ≠ sysModules) : ∀ (d : PyData) (v : V) (u : Value), Dq X.K H W v d → RelV v u → ∃ as, Reads s.heap u d as ∧ sysModules ∉ as
  | .none, _, _, h, r => by
    cases h
    cases r
    exact ⟨_, Reads.none, by simp⟩
  | .bool b, _, _, h, r => by
    cases h
    cases r
    exact ⟨_, Reads.bool b, by simp⟩
  | .int i, _, _, h, r => by
    cases h
    obtain ⟨t, rfl⟩ := r
    exact ⟨_, Reads.int i t, by simp⟩
  | .str x, _, _, h, r => by
    cases h
    obtain ⟨t, rfl⟩ := r
    exact ⟨_, Reads.str x t, by simp⟩
  | .list ds, _, _, h, r => by
    cases h with
    | lst hs w ha =>
      cases r
      obtain ⟨its, rv, ⟨o, n, ho, hc, _, hd⟩, _⟩ := I.list (SqL.of hs)
      obtain ⟨as, hr, hn⟩ := Dq.readsAll I hW ds _ its ha rv
      refine ⟨_, Reads.list ho hc hd hr, fun z => ?_⟩
      rcases List.mem_cons.mp z with e | e
      · exact hW _ w e.symm
      · exact hn e
  | .tuple ds, _, _, h, r => by
    cases h with
    | tup hs ha =>
      cases r
      obtain ⟨its, rv, ⟨o, ho, hc, n, hd⟩, _⟩ := I.tuple (SqT.of hs)
      obtain ⟨as, hr, hn⟩ := Dq.readsAll I hW ds _ its ha rv
      exact ⟨_, Reads.tuple ho hc hd hr, hn⟩
  | .dict _, _, _, h, r => by
    cases h with
    | emp hs =>
      cases r
      obtain ⟨_, hne, vs, kv, o, es, ep, ho, hc, hd, _, hp, _⟩ := dk_of I.hok hs
      unfold KV at kv
      cases kv
      have he : es.toList = [] := by
        generalize es.toList = l at hp ⊢
        cases hp
        rfl
      refine ⟨_, Reads.dict (kvs := []) ho hc.1 hd (by rw [he]; exact ReadsAll.nil) (by rw [he]; exact ReadsAll.nil), fun z => ?_⟩
      have e := List.mem_singleton.mp (by simpa using z)
      rw [e] at hne
      simp at hne
theorem Dq.readsAll (I : Inv X pins σ H s) (hW : ∀ a, W a → a ≠ sysModules) : ∀ (ds : List PyData) (vs : List V) (us : List Value), DqAll X.K H W vs ds → Vals vs us → ∃ as, ReadsAll s.heap us ds as ∧ sysModules ∉ as
  | [], _, _, h, r => by
    cases h
    cases r
    exact ⟨_, ReadsAll.nil, by simp⟩
  | d :: ds, _, _, h, r => by
    cases h with
    | cons h1 h2 =>
      cases r with
      | cons r1 r2 =>
        obtain ⟨as, q1, n1⟩ := Dq.reads I hW d _ _ h1 r1
        obtain ⟨bs, q2, n2⟩ := Dq.readsAll I hW ds _ _ h2 r2
        exact ⟨_, ReadsAll.cons q1 q2, fun z => (List.mem_append.mp z).elim n1 n2⟩
end
end
section
variable {X : Cx}
theorem call_reprD (hr : ∃ k, Room k X.A) : CallR X (.builtin "repr") (fun xs H Q => ∃ x d W, xs = [x] ∧ Dq X.K H W x d ∧ (∀ a, W a → a ≠ sysModules) ∧ (∃ a, x = .ref a) ∧ d.showable = true ∧ d.depth ≤ 60 ∧ d.shown.length ≤ sizeLine ∧ Q (.str d.shown) H) := by
  intro pins s σ H xs us Q I r h
  obtain ⟨x, d, W, rfl, hd, hW, ⟨a, rfl⟩, h1, h3, h4, q⟩ := h
  obtain ⟨k, hr⟩ := hr
  obtain ⟨u, rfl, rx⟩ := vals1 r
  cases rx
  obtain ⟨as, rd, hn⟩ := Dq.reads I hW d _ _ hd rfl
  have hu := hr.units
  refine PySem.repr_of_reads' rd h1 (fun _ => hn) hr.gd (by omega) (fun _ _ e => e) (fun h' u tk hk => ⟨.str d.shown, H, I.kept hk, ⟨_, rfl⟩, q⟩) h4
end
end L2

set_option Elab.async false
set_option linter.all false
set_option maxRecDepth 100000
set_option maxHeartbeats 4000000
namespace L2
open PySem PySem.Spec PyProof.Rows
abbrev cc (s : Str) : List Nat := s.cps.toList
/-- the texts behind the first -/
def more (ds : List PyData) : List Nat := ds.flatMap fun d => [44, 32] ++ cc d.shown
end L2

set_option Elab.async false
set_option linter.all false
set_option maxRecDepth 100000
set_option maxHeartbeats 4000000
namespace Law
open PySem L2
def top (i : Nat) : Stmt := PySem.Challenge.pw_stretchleast_k14_parts_refused.main.body.getD i (.Pass ⟨0, 0, 0, 0⟩)
abbrev bls : List Str := ["list", "enumerate", "int", "sum", "sorted", "range", "len", "min", "max", "isinstance", "bool", "repr", "zip", "set", "tuple", "dict", "reversed", "divmod", "str", "all", "abs", "ValueError"]
def spWhole : Sp := fun vs H Q _ => ∃ i : Int, vs = [.int i] ∧ Q (.bl true) H
def spIsSt (K : PySem.W.Frag) : Sp := fun vs H Q _ => ∃ (a : Addr) (ns : List Int) (b e : Int), vs = [.ref a, .int b, .int e] ∧ SqL K H a (ns.map V.int) ∧ IsSt ns.length b e ∧ Q (.bl true) H
def spNums (K : PySem.W.Frag) : Sp := fun vs H Q _ => ∃ (a : Addr) (ns : List Int) (b e : Int), vs = [.ref a, .int b, .int e] ∧ SqL K H a (ns.map V.int) ∧ IsSt ns.length b e ∧ ∀ p, H p = none → Q (.ref p) (upd H p (.lst ((seg ns b e).map V.int)))
def spSeg (K : PySem.W.Frag) (g : List Int → Int → Int) : Sp := fun vs H Q _ => ∃ (a : Addr) (ns : List Int) (b e : Int), vs = [.ref a, .int b, .int e] ∧ SqL K H a (ns.map V.int) ∧ IsSt ns.length b e ∧ ∀ H', Same H H' → Q (.int (g (seg ns b e) b)) H'
abbrev gLeast : List Int → Int → Int := fun l _ => minL l
abbrev gGreat : List Int → Int → Int := fun l _ => maxL l
abbrev gPlace : List Int → Int → Int := fun l b => b + (pl l : Nat)
section
variable {P : Program} {w : World} {K : PySem.W.Frag} {mg : Str → Option Value} {base : Heap}
def xis_whole : { t : Stmt // top 11 = t } := ⟨_, by conv => { lhs; whnf }⟩
abbrev sis_whole : Stmt := xis_whole.1
theorem scis_whole : FnScope ["thing"] ["thing"] (defScope sis_whole) := ⟨rfl, rfl, rfl, by decide +kernel, rfl, by decide +kernel, by decide +kernel⟩
theorem fn_is_whole (B : Bl mg bls) (D : DefAt K mg "is_whole" sis_whole ["thing"]) : Fn P w K mg base 1 "is_whole" ["thing"] spWhole := by
  refine D.fn scis_whole (fun vs H Q E h => ?_) (fun f cdv A outer s H vs Q E hr h => ?_)
  · obtain ⟨i, rfl, _⟩ := h; rfl
  · obtain ⟨i, rfl, q⟩ := h
    refine' ⟨_, ?tm, ?rd⟩
    (case tm =>
      (conv => { arg 2; whnf })
      refine' pss_one ?s0
      (case s0 =>
        exact (ps_ret (pe_and (pe_callB call_isinst (by rfl) (B "isinstance" (by decide +kernel)) (by decide +kernel) (pa_cons (pv 0) (pa_cons (pe_bltn (v := .ty "int") (by rfl) (B "int" (by decide +kernel)) (by decide +kernel) rfl) pa_nil))) (pe_one (pe_not (pe_callB call_isinst (by rfl) (B "isinstance" (by decide +kernel)) (by decide +kernel) (pa_cons (pv 0) (pa_cons (pe_bltn (v := .ty "bool") (by rfl) (B "bool" (by decide +kernel)) (by decide +kernel) rfl) pa_nil)))))))))
    refine ⟨_, rfl, _, _, _, true, rfl, TyOf.int i, (by rfl), _, rfl, ?_⟩
    refine ⟨_, rfl, _, _, _, false, rfl, TyOf.int i, (by rfl), _, rfl, q⟩
def xis_stretch : { t : Stmt // top 12 = t } := ⟨_, by conv => { lhs; whnf }⟩
abbrev sis_stretch : Stmt := xis_stretch.1
theorem scis_stretch : FnScope ["row", "begin", "end"] ["row", "begin", "end"] (defScope sis_stretch) := ⟨rfl, rfl, rfl, by decide +kernel, rfl, by decide +kernel, by decide +kernel⟩
theorem fn_is_stretch (B : Bl mg bls) (D : DefAt K mg "is_stretch" sis_stretch ["row", "begin", "end"]) (Fis_whole : Fn P w K mg base 1 "is_whole" ["thing"] spWhole) : Fn P w K mg base 2 "is_stretch" ["row", "begin", "end"] (spIsSt K) := by
  refine D.fn scis_stretch (fun vs H Q E h => ?_) (fun f cdv A outer s H vs Q E hr h => ?_)
  · obtain ⟨a, ns, b, e, rfl, _⟩ := h; rfl
  · obtain ⟨a, ns, b, e, rfl, hs, ⟨h1, h2, h3⟩, q⟩ := h
    refine' ⟨_, ?tm, ?rd⟩
    (case tm =>
      (conv => { arg 2; whnf })
      refine' pss_cons ?s0 ?r0
      (case s0 =>
        refine' ps_if ?c0 ?a0 ?b0
        (case c0 => exact (PW.pt (pw_or (pt_not (pt_val (pe_fn Fis_whole hr (by rfl) (pa_cons (pv 1) pa_nil)))) (pw_or1 (pt_not (pt_val (pe_fn Fis_whole hr (by rfl) (pa_cons (pv 2) pa_nil))))))))
        (case a0 =>
          refine' pss_one ?s0i
          (case s0i =>
            exact (ps_ret pe_bl)))
        (case b0 =>
          exact pss_nil))
      (case r0 =>
        refine' pss_one ?s0x
        (case s0x =>
          exact (ps_ret (pe_chain3 op_le op_lt op_le pe_int (pv 1) (pv 2) (pe_callB call_len_seq (by rfl) (B "len" (by decide +kernel)) (by decide +kernel) (pa_cons (pv 0) pa_nil)))))))
    refine ⟨_, rfl, b, rfl, _, rfl, ?_⟩
    refine ⟨_, rfl, e, rfl, _, rfl, ?_⟩
    refine ⟨_, rfl, _, _, rfl, rfl, _, rfl, ?_⟩
    refine ite2 (fun _ => ?_) (fun z => absurd (decide_eq_true h1) z)
    refine ⟨_, rfl, _, _, rfl, rfl, _, rfl, ?_⟩
    refine ite2 (fun _ => ?_) (fun z => absurd (decide_eq_true h2) z)
    refine ⟨_, rfl, a, _, rfl, .inl hs, _, _, rfl, rfl, ?_⟩
    have e3 : decide (e ≤ (((ns.map V.int).length : Nat) : Int)) = true := decide_eq_true (by rw [List.length_map]; exact h3)
    show Q (.bl (decide (e ≤ (((ns.map V.int).length : Nat) : Int)))) H
    rw [e3]
    exact q
def xnumbers_of : { t : Stmt // top 13 = t } := ⟨_, by conv => { lhs; whnf }⟩
abbrev snumbers_of : Stmt := xnumbers_of.1
theorem scnumbers_of : FnScope ["row", "begin", "end"] ["row", "begin", "end"] (defScope snumbers_of) := ⟨rfl, rfl, rfl, by decide +kernel, rfl, by decide +kernel, by decide +kernel⟩
theorem fn_numbers_of (B : Bl mg bls) (D : DefAt K mg "numbers_of" snumbers_of ["row", "begin", "end"]) (Fis_stretch : Fn P w K mg base 2 "is_stretch" ["row", "begin", "end"] (spIsSt K)) : Fn P w K mg base 3 "numbers_of" ["row", "begin", "end"] (spNums K) := by
  refine D.fn scnumbers_of (fun vs H Q E h => ?_) (fun f cdv A outer s H vs Q E hr h => ?_)
  · obtain ⟨a, ns, b, e, rfl, _⟩ := h; rfl
  · obtain ⟨a, ns, b, e, rfl, hs, hst, q⟩ := h
    refine' ⟨_, ?tm, ?rd⟩
    (case tm =>
      (conv => { arg 2; whnf })
      refine' pss_cons ?s0 ?r0
      (case s0 =>
        refine' ps_if ?c0 ?a0 ?b0
        (case c0 => exact (pt_not (pt_val (pe_fn Fis_stretch hr (by rfl) (pa_cons (pv 0) (pa_cons (pv 1) (pa_cons (pv 2) pa_nil)))))))
        (case a0 =>
          refine' pss_one ?s0i
          (case s0i =>
            exact ps_never))
        (case b0 =>
          exact pss_nil))
      (case r0 =>
        refine' pss_one ?s0x
        (case s0x =>
          exact (ps_ret (pe_slice sl_list (pv 0) (po_some (pv 1)) (po_some (pv 2)))))))
    refine ⟨_, rfl, _, rfl, _, rfl, a, ns, b, e, rfl, hs, hst, _, rfl, ?_⟩
    refine ⟨_, rfl, _, rfl, _, rfl, _, rfl, _, rfl, a, _, rfl, hs, fun p hp => ?_⟩
    rw [cut_ints, seg_cut hst]
    exact q p hp
def xleast_of : { t : Stmt // top 14 = t } := ⟨_, by conv => { lhs; whnf }⟩
abbrev sleast_of : Stmt := xleast_of.1
theorem scleast_of : FnScope ["row", "begin", "end"] ["row", "begin", "end"] (defScope sleast_of) := ⟨rfl, rfl, rfl, by decide +kernel, rfl, by decide +kernel, by decide +kernel⟩
theorem fn_least_of (B : Bl mg bls) (D : DefAt K mg "least_of" sleast_of ["row", "begin", "end"]) (Fnumbers_of : Fn P w K mg base 3 "numbers_of" ["row", "begin", "end"] (spNums K)) : Fn P w K mg base 4 "least_of" ["row", "begin", "end"] (spSeg K gLeast) := by
  refine D.fn scleast_of (fun vs H Q E h => ?_) (fun f cdv A outer s H vs Q E hr h => ?_)
  · obtain ⟨a, ns, b, e, rfl, _⟩ := h; rfl
  · obtain ⟨a, ns, b, e, rfl, hs, hst, q⟩ := h
    refine' ⟨_, ?tm, ?rd⟩
    (case tm =>
      (conv => { arg 2; whnf })
      refine' pss_one ?s0
      (case s0 =>
        exact (ps_ret (pe_callB (cr_min rfl) (by rfl) (B "min" (by decide +kernel)) (by decide +kernel) (pa_cons (pe_fn Fnumbers_of hr (by rfl) (pa_cons (pv 0) (pa_cons (pv 1) (pa_cons (pv 2) pa_nil)))) pa_nil)))))
    refine ⟨_, rfl, _, rfl, _, rfl, a, ns, b, e, rfl, hs, hst, fun p hp => ?_⟩
    refine ⟨p, seg ns b e, rfl, SqL.of upd_same, List.length_pos_iff.mpr (seg_ne hst), fun m h1 h2 => ?_⟩
    rw [← minL_uniq h1 h2]
    exact q _ (Same.new hp)
def xgreatest_of : { t : Stmt // top 15 = t } := ⟨_, by conv => { lhs; whnf }⟩
abbrev sgreatest_of : Stmt := xgreatest_of.1
theorem scgreatest_of : FnScope ["row", "begin", "end"] ["row", "begin", "end"] (defScope sgreatest_of) := ⟨rfl, rfl, rfl, by decide +kernel, rfl, by decide +kernel, by decide +kernel⟩
theorem fn_greatest_of (B : Bl mg bls) (D : DefAt K mg "greatest_of" sgreatest_of ["row", "begin", "end"]) (Fnumbers_of : Fn P w K mg base 3 "numbers_of" ["row", "begin", "end"] (spNums K)) : Fn P w K mg base 4 "greatest_of" ["row", "begin", "end"] (spSeg K gGreat) := by
  refine D.fn scgreatest_of (fun vs H Q E h => ?_) (fun f cdv A outer s H vs Q E hr h => ?_)
  · obtain ⟨a, ns, b, e, rfl, _⟩ := h; rfl
  · obtain ⟨a, ns, b, e, rfl, hs, hst, q⟩ := h
    refine' ⟨_, ?tm, ?rd⟩
    (case tm =>
      (conv => { arg 2; whnf })
      refine' pss_one ?s0
      (case s0 =>
        exact (ps_ret (pe_callB (cr_max rfl) (by rfl) (B "max" (by decide +kernel)) (by decide +kernel) (pa_cons (pe_fn Fnumbers_of hr (by rfl) (pa_cons (pv 0) (pa_cons (pv 1) (pa_cons (pv 2) pa_nil)))) pa_nil)))))
    refine ⟨_, rfl, _, rfl, _, rfl, a, ns, b, e, rfl, hs, hst, fun p hp => ?_⟩
    refine ⟨p, seg ns b e, rfl, SqL.of upd_same, List.length_pos_iff.mpr (seg_ne hst), fun m h1 h2 => ?_⟩
    rw [← maxL_uniq h1 h2]
    exact q _ (Same.new hp)
def xleast_place : { t : Stmt // top 16 = t } := ⟨_, by conv => { lhs; whnf }⟩
abbrev sleast_place : Stmt := xleast_place.1
theorem scleast_place : FnScope ["row", "begin", "end", "numbers"] ["row", "begin", "end"] (defScope sleast_place) := ⟨rfl, rfl, rfl, by decide +kernel, rfl, by decide +kernel, by decide +kernel⟩
theorem fn_least_place (B : Bl mg bls) (D : DefAt K mg "least_place" sleast_place ["row", "begin", "end"]) (Fnumbers_of : Fn P w K mg base 3 "numbers_of" ["row", "begin", "end"] (spNums K)) : Fn P w K mg base 4 "least_place" ["row", "begin", "end"] (spSeg K gPlace) := by
  refine D.fn scleast_place (fun vs H Q E h => ?_) (fun f cdv A outer s H vs Q E hr h => ?_)
  · obtain ⟨a, ns, b, e, rfl, _⟩ := h; rfl
  · obtain ⟨a, ns, b, e, rfl, hs, hst, q⟩ := h
    refine' ⟨_, ?tm, ?rd⟩
    (case tm =>
      (conv => { arg 2; whnf })
      refine' pss_cons ?s0 ?r0
      (case s0 =>
        exact (ps_set (i := 3) scleast_place.nd (by rfl) (by first | exact Or.inl rfl | exact Or.inr rfl) (pe_fn Fnumbers_of hr (by rfl) (pa_cons (pv 0) (pa_cons (pv 1) (pa_cons (pv 2) pa_nil))))))
      (case r0 =>
        refine' pss_one ?s0x
        (case s0x =>
          exact (ps_ret (pe_op op_add (pv 1) (pe_bm PySem.F.plainAttrs_list PySem.F.slot_list_index PySem.F.type_list_index mt_index (pv 3) (pa_cons (pe_callB (cr_min rfl) (by rfl) (B "min" (by decide +kernel)) (by decide +kernel) (pa_cons (pv 3) pa_nil)) pa_nil)))))))
    refine ⟨_, rfl, _, rfl, _, rfl, a, ns, b, e, rfl, hs, hst, fun p hp => ?_⟩
    have hpos := List.length_pos_iff.mpr (seg_ne hst)
    have hmem := (minL_spec (seg_ne hst)).1
    obtain ⟨f1, f2, f3⟩ := fst_at hmem
    refine ⟨_, rfl, _, rfl, .inl ⟨rfl, _, SqL.of upd_same⟩, _, rfl, p, seg ns b e, rfl, SqL.of upd_same, hpos, fun m h1 h2 => ?_⟩
    rw [← minL_uniq h1 h2]
    refine ⟨p, _, .int (minL (seg ns b e)), fst (minL (seg ns b e)) (seg ns b e), .int (minL (seg ns b e)), rfl, rfl, SqL.of upd_same, rfl, ?_, ?_, ?_, ?_, _, _, rfl, rfl, ?_⟩
    · rw [List.all_eq_true]
      intro x hx
      obtain ⟨n, _, rfl⟩ := List.mem_map.mp hx
      rfl
    · rw [List.getElem?_map, f1]; rfl
    · show ((minL (seg ns b e)) == (minL (seg ns b e))) = true
      exact beq_self_eq_true _
    · intro m' z' hm' q'
      rw [List.getElem?_map] at q'
      cases e' : (seg ns b e)[m']? with
      | none => rw [e'] at q'; cases q'
      | some n =>
        rw [e'] at q'
        have q'' : V.int n = z' := Option.some.inj q'
        subst q''
        show (n == minL (seg ns b e)) = false
        exact beq_eq_false_iff_ne.mpr (f3 m' n hm' e')
    · exact q _ (Same.new hp)
end


def spRG (K : PySem.W.Frag) (g : Int → Int) : Sp := fun vs H Q _ => ∃ (a : Addr) (ns : List Int), vs = [.ref a] ∧ SqL K H a (ns.map V.int) ∧ ns.length ≤ 300 ∧ ∀ (l : Addr) (H' : Hp) (ts : List Addr) (ps : List (Int × Int)), Same H H' → H l = none → H' l = some (.lst (ts.map V.ref)) → PrAt H' ts ps → AreReaches (ns.map g) ps → Q (.ref l) H'
abbrev spReaches (K : PySem.W.Frag) : Sp := spRG K (fun n => n)
section
variable {P : Program} {w : World} {K : PySem.W.Frag} {mg : Str → Option Value} {base : Heap}
def xreaches : { t : Stmt // top 1 = t } := ⟨_, by conv => { lhs; whnf }⟩
abbrev sreaches : Stmt := xreaches.1
theorem screaches : FnScope ["row", "begins", "ends", "waiting", "place", "number"] ["row"] (defScope sreaches) := ⟨rfl, rfl, rfl, by decide +kernel, rfl, by decide +kernel, by decide +kernel⟩
theorem fn_reaches (B : Bl mg bls) (D : DefAt K mg "reaches" sreaches ["row"]) : Fn P w K mg base 1 "reaches" ["row"] (spReaches K) := by
  refine D.fn screaches (fun vs H Q E h => ?_) (fun f cdv A outer s H vs Q E hr h => ?_)
  · obtain ⟨a, ns, rfl, _⟩ := h; rfl
  · obtain ⟨a, ns, rfl, hs, hl, q⟩ := h
    refine' ⟨_, ?tm, ?rd⟩
    (case tm =>
      (conv => { arg 2; whnf })
      refine' pss_cons ?s0 ?r0
      (case s0 =>
        exact (ps_set (i := 1) screaches.nd (by rfl) (by first | exact Or.inl rfl | exact Or.inr rfl) (pe_lst pa_nil)))
      (case r0 =>
        refine' pss_cons ?s0x ?r0x
        (case s0x =>
          exact (ps_set (i := 2) screaches.nd (by rfl) (by first | exact Or.inl rfl | exact Or.inr rfl) (pe_op op_rep (pe_lst (pa_cons (pe_callB call_len_seq (by rfl) (B "len" (by decide +kernel)) (by decide +kernel) (pa_cons (pv 0) pa_nil)) pa_nil)) (pe_callB call_len_seq (by rfl) (B "len" (by decide +kernel)) (by decide +kernel) (pa_cons (pv 0) pa_nil)))))
        (case r0x =>
          refine' pss_cons ?s0xx ?r0xx
          (case s0xx =>
            exact (ps_set (i := 3) screaches.nd (by rfl) (by first | exact Or.inl rfl | exact Or.inr rfl) (pe_lst pa_nil)))
          (case r0xx =>
            refine' pss_cons ?s0xxx ?r0xxx
            (case s0xxx =>
              refine' ps_for PassesOwn.never (by rfl) ?i0xxx ?g0xxx ?d0xxx
              (case i0xxx => exact (pi_enum (by rfl) (B "enumerate" (by decide +kernel)) (pa_cons (pv 0) pa_nil)))
              (case g0xxx => exact (pg_tup (by rfl) (pgs_cons (pg_name (i := 4) screaches.nd (by rfl) (by first | exact Or.inl rfl | exact Or.inr rfl)) (pgs_cons (pg_name (i := 5) screaches.nd (by rfl) (by first | exact Or.inl rfl | exact Or.inr rfl)) pgs_nil))))
              (case d0xxx =>
                refine' pss_cons ?s0xxxf ?r0xxxf
                (case s0xxxf =>
                  refine' ps_while PassesOwn.never ?c0xxxf ?d0xxxf
                  (case c0xxxf => exact (PW.pt (pw_and (pt_truth (pv 3) (by intro _; rfl)) (pw_and1 (pt_cmpR op_gt (pe_ix ix_list (pv 0) (pe_ix ix_list (pv 3) (pe_un un_neg pe_int) (fun _ _ => rfl)) (fun _ _ => rfl)) (pv 5) (nomark _))))))
                  (case d0xxxf =>
                    refine' pss_one ?s0xxxfw
                    (case s0xxxfw =>
                      exact (ps_asg (pv 4) (pg_sub (pv 2) (pe_bm0 PySem.F.plainAttrs_list PySem.F.slot_list_pop PySem.F.type_list_pop mt_pop (pv 3)) set_list)))))
                (case r0xxxf =>
                  refine' pss_cons ?s0xxxfx ?r0xxxfx
                  (case s0xxxfx =>
                    exact (ps_expr (pe_bm PySem.F.plainAttrs_list PySem.F.slot_list_append PySem.F.type_list_append mt_append (pv 1) (pa_cons (pe_ifExp (pt_truth (pv 3) (by intro _; rfl)) (pe_op op_add (pe_ix ix_list (pv 3) (pe_un un_neg pe_int) (fun _ _ => rfl)) pe_int) pe_int) pa_nil))))
                  (case r0xxxfx =>
                    refine' pss_one ?s0xxxfxx
                    (case s0xxxfxx =>
                      exact (ps_expr (pe_bm PySem.F.plainAttrs_list PySem.F.slot_list_append PySem.F.type_list_append mt_append (pv 3) (pa_cons (pv 4) pa_nil))))))))
            (case r0xxx =>
              refine' pss_one ?s0xxxx
              (case s0xxxx =>
                exact (ps_ret (pe_list_zip (by rfl) (by rfl) (B "list" (by decide +kernel)) (by rfl) (B "zip" (by decide +kernel)) (pa_cons (pv 1) (pa_cons (pv 2) pa_nil))))))))))
    refine ⟨(by show 0 ≤ sizeLine; decide), fun pb hpb => ?_⟩
    have s1 := Same.new (o := .lst []) hpb
    have cb1 : upd H pb (.lst []) pb = some (.lst (([] : List Nat).map nV)) := upd_same
    generalize upd H pb (.lst []) = H1 at s1 cb1 ⊢
    refine ⟨_, rfl, a, _, rfl, .inl (s1.seq hs), (by show 1 ≤ sizeLine; decide), fun q1 hq1 => ?_⟩
    have s2 := Same.new (o := .lst [.int ((ns.map V.int).length : Nat)]) hq1
    refine ⟨_, rfl, a, _, rfl, .inl ((s1.trans s2).seq hs), q1, _, _, rfl, rfl, upd_same, by rw [List.length_map]; omega, by rw [List.length_map]; omega, ?_, fun pe hpe => ?_⟩
    · refine line1000 ?_
      show 1 * _ ≤ 1000
      rw [List.length_map]; omega
    have eE : (List.replicate ((((ns.map V.int).length : Nat) : Int)).toNat [V.int ((ns.map V.int).length : Nat)]).flatten = (List.replicate ns.length ns.length).map nV := by
      rw [flat_one, List.map_replicate, List.length_map, Int.toNat_natCast]
    rw [eE]
    have s3 := Same.new (o := .lst ((List.replicate ns.length ns.length).map nV)) hpe
    have ce3 : upd (upd H1 q1 (.lst [.int ((ns.map V.int).length : Nat)])) pe (.lst ((List.replicate ns.length ns.length).map nV)) pe = some (.lst ((List.replicate ns.length ns.length).map nV)) := upd_same
    have s23 := s2.trans s3
    generalize upd (upd H1 q1 (.lst [.int ((ns.map V.int).length : Nat)])) pe (.lst ((List.replicate ns.length ns.length).map nV)) = H3 at s23 ce3 ⊢
    have fpe : H pe = none := (s1.trans s2).free hpe
    have nbe : pb ≠ pe := ne_of_none (s2 _ _ cb1) hpe
    refine ⟨(by show 0 ≤ sizeLine; decide), fun pw hpw => ?_⟩
    have s4 := Same.new (o := .lst []) hpw
    have fpw : H pw = none := (s1.trans s23).free hpw
    have nbw : pb ≠ pw := ne_of_none (s23 _ _ cb1) hpw
    have new : pe ≠ pw := ne_of_none ce3 hpw
    have cw4 : upd H3 pw (.lst []) pw = some (.lst (([] : List Nat).map nV)) := upd_same
    generalize upd H3 pw (.lst []) = H4 at s4 cw4 ⊢
    have k4 := s1.trans (s23.trans s4)
    refine ⟨_, rfl, a, _, rfl, k4.seq hs, for_enum (K := K) (a := a) (xs := ns.map V.int) (fun m σ H' => ∃ (bs ws es : List Nat) (v4 v5 : Option V), σ = [some (.ref a), some (.ref pb), some (.ref pe), some (.ref pw), v4, v5] ∧ H' pb = some (.lst (bs.map nV)) ∧ H' pe = some (.lst (es.map nV)) ∧ H' pw = some (.lst (ws.map nV)) ∧ bs.length = m ∧ ws.length ≤ m ∧ Begs ns bs ∧ Stk ns m m ws es ∧ Same H H')
      ⟨[], [], List.replicate ns.length ns.length, none, none, rfl, (s23.trans s4) _ _ cb1, s4 _ _ ce3, cw4, rfl, Nat.le_refl _, (fun i b hb => by simp at hb), Stk.start ns, k4⟩ (fun m σ H' _ ⟨_, _, _, _, _, _, _, _, _, _, _, _, _, k⟩ => k.seq hs) ?_ ?_⟩
    · rintro m x σ H5 T hx ⟨bs, ws, es, v4, v5, rfl, cb, ce, cw, bl, wl, hB, hS, k5⟩ hT
      obtain ⟨n, hn, rfl⟩ := get_ints hx
      have hm : m < ns.length := (List.getElem?_eq_some_iff.mp hn).1
      have en := get_vl hn
      subst en
      have sT := Same.new (o := .tup [.int (m : Nat), .int (vl ns m)]) hT
      refine ⟨T, _, rfl, SqT.of upd_same, rfl, _, _, rfl, _, _, rfl, rfl, ?_⟩
      generalize upd H5 T (.tup [.int (m : Nat), .int (vl ns m)]) = H6 at sT ⊢
      have k6 := k5.trans sT
      have cb6 := sT _ _ cb
      dsimp only [gName]
      refine seqJ (fun σ' H' => ∃ ws es : List Nat, σ' = [some (.ref a), some (.ref pb), some (.ref pe), some (.ref pw), some (.int (m : Nat)), some (.int (vl ns m))] ∧ H' pb = some (.lst (bs.map nV)) ∧ H' pe = some (.lst (es.map nV)) ∧ H' pw = some (.lst (ws.map nV)) ∧ ws.length ≤ m ∧ Stk ns m (m + 1) ws es ∧ Same H H' ∧ ∀ w, ws.getLast? = some w → vl ns w ≤ vl ns m) (fun fin => ?_) ?_
      · refine ⟨fun mm σ' H' => ∃ ws es : List Nat, mm = ws.length ∧ σ' = [some (.ref a), some (.ref pb), some (.ref pe), some (.ref pw), some (.int (m : Nat)), some (.int (vl ns m))] ∧ H' pb = some (.lst (bs.map nV)) ∧ H' pe = some (.lst (es.map nV)) ∧ H' pw = some (.lst (ws.map nV)) ∧ ws.length ≤ m ∧ Stk ns m (m + 1) ws es ∧ Same H H',
          ⟨_, ws, es, rfl, rfl, cb6, sT _ _ ce, sT _ _ cw, wl, hS.mono (Nat.le_succ _), k6⟩, ?_⟩
        rintro mm σ' H7 ⟨ws, es, rfl, rfl, cb7, ce7, cw7, wl7, hS7, k7⟩
        refine ⟨_, rfl, _, .inl ⟨_, SqL.of cw7, rfl⟩, ?_⟩
        rcases List.eq_nil_or_concat ws with rfl | ⟨us, wt, rfl⟩
        · exact fin _ _ ⟨[], es, rfl, cb7, ce7, cw7, wl7, hS7, k7, (fun w hw => by simp at hw)⟩
        · rw [List.concat_eq_append] at *
          have hwm := hS7.lt wt (by simp)
          have eW : (us ++ [wt]).map nV = us.map nV ++ [nV wt] := by rw [List.map_append]; rfl
          have eI : ((us ++ [wt]).map nV).isEmpty = false := by rw [eW]; simp
          rw [eI]
          refine ⟨_, rfl, _, rfl, _, rfl, pw, _, _, nV wt, rfl, rfl, SqL.of cw7, by rw [eW]; exact atI_last _ _, a, _, _, _, rfl, rfl, k7.seq hs, at_vl (i := wt) (by omega), _, rfl, _, _, rfl, rfl, _, rfl, ?_⟩
          refine ite2 (fun z => ?_) (fun z => ?_)
          · have z' : vl ns m < vl ns wt := of_decide_eq_true z
            refine ⟨_, fun σ' H' (z : ∃ ws es : List Nat, us.length = ws.length ∧ σ' = [some (.ref a), some (.ref pb), some (.ref pe), some (.ref pw), some (.int (m : Nat)), some (.int (vl ns m))] ∧ H' pb = some (.lst (bs.map nV)) ∧ H' pe = some (.lst (es.map nV)) ∧ H' pw = some (.lst (ws.map nV)) ∧ ws.length ≤ m ∧ Stk ns m (m + 1) ws es ∧ Same H H') => ⟨us.length, by simp, z⟩, ?_⟩
            refine ⟨_, rfl, _, rfl, _, rfl, .inl ⟨rfl, _, SqL.of cw7⟩, pw, _, nV wt, rfl, rfl, cw7, ?_, pe, es.map nV, _, wt, rfl, rfl, ?_, ?_, ?_⟩
            · rw [eW]; simp
            · rw [upd_ne new]; exact ce7
            · rw [List.length_map, hS7.lenE]
              exact ix_nat (i := (wt : Int)) (by omega) (by omega) |>.trans (by simp)
            · refine ⟨us, es.set wt m, rfl, rfl, ?_, ?_, ?_, ?_, hS7.pop hm z', ?_⟩
              · rw [upd_ne nbe, upd_ne nbw]; exact cb7
              · rw [upd_same, List.map_set]
              · rw [upd_ne new.symm, upd_same, eW, List.dropLast_concat]
              · rw [List.length_append] at wl7; simp at wl7; omega
              · exact (k7.at fpw).at fpe
          · have z' : ¬ vl ns m < vl ns wt := fun q1 => z (decide_eq_true q1)
            exact fin _ _ ⟨us ++ [wt], es, rfl, cb7, ce7, cw7, wl7, hS7, k7, (fun w hw => by
              have : wt = w := by simpa using hw
              rw [← this]; omega)⟩
      · rintro σ' H7 ⟨ws, es, rfl, cb7, ce7, cw7, wl7, hS7, k7, hv⟩
        have hbg := hS7.beg hm hv
        have fin : ∀ H8 : Hp, H8 = upd H7 pb (.lst (bs.map nV ++ [nV (bgn ws)])) → tDrop (tBM K "list" rAppend (tVar 3) (tCons (tVar 4) tNil)) { nx := fun σ' H' => ∃ (bs ws es : List Nat) (v4 v5 : Option V), σ' = [some (.ref a), some (.ref pb), some (.ref pe), some (.ref pw), v4, v5] ∧ H' pb = some (.lst (bs.map nV)) ∧ H' pe = some (.lst (es.map nV)) ∧ H' pw = some (.lst (ws.map nV)) ∧ bs.length = m + 1 ∧ ws.length ≤ m + 1 ∧ Begs ns bs ∧ Stk ns (m + 1) (m + 1) ws es ∧ Same H H', rt := Q }
            [some (.ref a), some (.ref pb), some (.ref pe), some (.ref pw), some (.int (m : Nat)), some (.int (vl ns m))] H8 := by
          rintro H8 rfl
          have cw8 : upd H7 pb (.lst (bs.map nV ++ [nV (bgn ws)])) pw = some (.lst (ws.map nV)) := by rw [upd_ne nbw.symm]; exact cw7
          refine ⟨_, rfl, .inl ⟨rfl, _, SqL.of cw8⟩, _, rfl, pw, _, _, rfl, rfl, cw8, ?_, ?_⟩
          · rw [List.length_map]; exact small1000 (by omega)
          · refine ⟨bs ++ [bgn ws], ws ++ [m], es, _, _, rfl, ?_, ?_, ?_, by rw [List.length_append, bl]; rfl, by rw [List.length_append]; show ws.length + 1 ≤ m + 1; omega, ?_, hS7.push hm hv, ?_⟩
            · rw [upd_ne nbw, upd_same, List.map_append]; rfl
            · rw [upd_ne new, upd_ne nbe.symm]; exact ce7
            · rw [upd_same, List.map_append]; rfl
            · exact hB.snoc (by rw [bl]; exact hbg)
            · have fpb : H pb = none := hpb
              exact (k7.at fpb).at fpw
        refine ⟨_, rfl, .inl ⟨rfl, _, SqL.of cb7⟩, _, rfl, _, .inl ⟨_, SqL.of cw7, rfl⟩, ?_⟩
        have hbl : (bs.map nV).length < sizeLine := by rw [List.length_map]; exact small1000 (by omega)
        rcases List.eq_nil_or_concat ws with rfl | ⟨us, wt, rfl⟩
        · exact ⟨pb, _, _, rfl, rfl, cb7, hbl, fin _ rfl⟩
        · rw [List.concat_eq_append] at *
          have eW : (us ++ [wt]).map nV = us.map nV ++ [nV wt] := by rw [List.map_append]; rfl
          have eI : ((us ++ [wt]).map nV).isEmpty = false := by rw [eW]; simp
          rw [eI]
          refine ⟨_, rfl, _, rfl, pw, _, _, nV wt, rfl, rfl, SqL.of cw7, by rw [eW]; exact atI_last _ _, _, _, rfl, rfl, pb, _, _, rfl, rfl, cb7, hbl, ?_⟩
          have eb : bgn (us ++ [wt]) = wt + 1 := by unfold bgn; simp
          refine fin _ ?_
          rw [eb]
          rfl
    · rintro σ H5 ⟨bs, ws, es, v4, v5, rfl, cb, ce, cw, bl, wl, hB, hS, k5⟩
      rw [List.length_map] at bl hS
      refine ⟨_, rfl, _, rfl, pb, pe, _, _, rfl, SqL.of cb, SqL.of ce, by rw [List.length_map, List.length_map, bl, hS.lenE], fun H' l ts sm nl cl tl tt => ?_⟩
      refine q l H' ts (List.zipWith (fun (b e : Nat) => ((b : Int), (e : Int))) bs es) (k5.trans sm) (k5.free nl) cl ⟨?_, fun j t p h1 h2 => ?_⟩ (by rw [show (ns.map fun n => n) = ns from by simp]; exact reaches_done hB bl hS)
      · rw [tl, List.length_map, List.length_zipWith, bl, hS.lenE]; simp
      · rw [tt j t h1]
        rw [List.getElem?_zipWith] at h2
        cases e1 : bs[j]? with
        | none => rw [e1] at h2; simp at h2
        | some b =>
          cases e2 : es[j]? with
          | none => rw [e1, e2] at h2; simp at h2
          | some e =>
            rw [e1, e2] at h2
            have hp : ((b : Int), (e : Int)) = p := by simpa using h2
            subst hp
            simp [List.getD_eq_getElem?_getD, List.getElem?_map, e1, e2]
end

theorem get_refsP {ts : List Addr} {j : Nat} {x : V} (hx : (ts.map V.ref)[j]? = some x) : ∃ t, ts[j]? = some t ∧ x = V.ref t := by
  rw [List.getElem?_map] at hx
  cases e : ts[j]? with
  | none => rw [e] at hx; cases hx
  | some t => rw [e] at hx; exact ⟨t, rfl, (Option.some.inj hx).symm⟩
theorem pr_atP {ns : List Int} {ps : List (Int × Int)} (h : AreReaches ns ps) {i : Nat} (hi : i < ns.length) : ∃ b e : Nat, ps[i]? = some ((b : Int), (e : Int)) ∧ IsReach ns i b e := by
  have hil : i < ps.length := by rw [h.1]; exact hi
  obtain ⟨b, e, ep, r⟩ := h.2 i ps[i] (List.getElem?_eq_getElem hil)
  exact ⟨b, e, by rw [List.getElem?_eq_getElem hil, ep], r⟩
def spByL (K : PySem.W.Frag) (g : List Int → List Int) : Sp := fun vs H Q _ => ∃ (a l : Addr) (ns : List Int) (ts : List Addr) (ps : List (Int × Int)), vs = [.ref a, .ref l] ∧ SqL K H a (ns.map V.int) ∧ ns.length ≤ 300 ∧ H l = some (.lst (ts.map V.ref)) ∧ PrAt H ts ps ∧ AreReaches ns ps ∧
  ∀ (e : Addr) (H' : Hp), Same H H' → H e = none → H' e = some (.lst ((g ns).map V.int)) → Q (.ref e) H'
section
variable {P : Program} {w : World} {K : PySem.W.Frag} {mg : Str → Option Value} {base : Heap}
def xsums_by_end : { t : Stmt // top 18 = t } := ⟨_, by conv => { lhs; whnf }⟩
abbrev ssums_by_end : Stmt := xsums_by_end.1
theorem scsums_by_end : FnScope ["row", "spans", "sums", "place", "begin", "end"] ["row", "spans"] (defScope ssums_by_end) := ⟨rfl, rfl, rfl, by decide +kernel, rfl, by decide +kernel, by decide +kernel⟩
theorem fn_sums_by_end (B : Bl mg bls) (D : DefAt K mg "sums_by_end" ssums_by_end ["row", "spans"]) : Fn P w K mg base 1 "sums_by_end" ["row", "spans"] (spByL K byEnd) := by
  refine D.fn scsums_by_end (fun vs H Q E h => ?_) (fun f cdv A outer s H vs Q E hr h => ?_)
  · obtain ⟨a, l, ns, ts, ps, rfl, _⟩ := h; rfl
  · obtain ⟨a, l, ns, ts, ps, rfl, hs, hl, cl, hP, ar, q⟩ := h
    refine' ⟨_, ?tm, ?rd⟩
    (case tm =>
      (conv => { arg 2; whnf })
      refine' pss_cons ?s0 ?r0
      (case s0 =>
        exact (ps_set (i := 2) scsums_by_end.nd (by rfl) (by first | exact Or.inl rfl | exact Or.inr rfl) (pe_lst (pa_cons pe_int pa_nil))))
      (case r0 =>
        refine' pss_cons ?s0x ?r0x
        (case s0x =>
          refine' ps_for PassesOwn.never (by rfl) ?i0x ?g0x ?d0x
          (case i0x => exact (pi_enum (by rfl) (B "enumerate" (by decide +kernel)) (pa_cons (pv 1) pa_nil)))
          (case g0x => exact (pg_tup (by rfl) (pgs_cons (pg_name (i := 3) scsums_by_end.nd (by rfl) (by first | exact Or.inl rfl | exact Or.inr rfl)) (pgs_cons (pg_tup (by rfl) (pgs_cons (pg_name (i := 4) scsums_by_end.nd (by rfl) (by first | exact Or.inl rfl | exact Or.inr rfl)) (pgs_cons (pg_name (i := 5) scsums_by_end.nd (by rfl) (by first | exact Or.inl rfl | exact Or.inr rfl)) pgs_nil))) pgs_nil))))
          (case d0x =>
            refine' pss_one ?s0xf
            (case s0xf =>
              exact (ps_expr (pe_bm PySem.F.plainAttrs_list PySem.F.slot_list_append PySem.F.type_list_append mt_append (pv 2) (pa_cons (pe_op op_add (pe_op op_mul (pe_ix ix_list (pv 0) (pv 3) (fun _ _ => rfl)) (pe_op op_add (pe_op op_sub (pv 3) (pv 4)) pe_int)) (pe_ix ix_list (pv 2) (pv 4) (fun _ _ => rfl))) pa_nil))))))
        (case r0x =>
          refine' pss_one ?s0xx
          (case s0xx =>
            exact (ps_ret (pv 2))))))
    have hpl := ar.1
    have htl : ts.length = ps.length := hP.1
    refine ⟨(by show 1 ≤ sizeLine; decide), fun pe hpe => ?_⟩
    have s1 := Same.new (o := .lst [.int 0]) hpe
    have c1 : upd H pe (.lst [.int 0]) pe = some (.lst (((List.range (0 + 1)).map (bE ns)).map V.int)) := upd_same
    generalize upd H pe (.lst [.int 0]) = H1 at s1 c1 ⊢
    refine ⟨_, rfl, l, _, rfl, SqL.of (s1 _ _ cl), for_enum (K := K) (a := l) (xs := ts.map V.ref) (fun m σ H' => ∃ v3 v4 v5 : Option V, σ = [some (.ref a), some (.ref l), some (.ref pe), v3, v4, v5] ∧ H' pe = some (.lst (((List.range (m + 1)).map (bE ns)).map V.int)) ∧ Same H H')
      ⟨_, _, _, rfl, c1, s1⟩ (fun m σ H' _ ⟨_, _, _, _, _, k⟩ => SqL.of (k _ _ cl)) ?_ ?_⟩
    · rintro m x σ H5 T hx ⟨v3, v4, v5, rfl, c5, k5⟩ hT
      obtain ⟨t, ht, rfl⟩ := get_refsP hx
      have hm : m < ns.length := by have := (List.getElem?_eq_some_iff.mp ht).1; omega
      obtain ⟨b, e, ep, hre⟩ := pr_atP ar hm
      have h1 := hre.bi; have h2 := hre.ie; have h3 := hre.en
      have tt := hP.2 m t _ ht ep
      have s2 := Same.new (o := .tup [.int (m : Nat), .ref t]) hT
      have tt2 := s2 _ _ (k5 _ _ tt)
      have c6 := s2 _ _ c5
      refine ⟨T, _, rfl, SqT.of upd_same, rfl, _, _, rfl, _, _, rfl, ?_⟩
      generalize upd H5 T (.tup [.int (m : Nat), .ref t]) = H6 at s2 tt2 c6 ⊢
      have k6 := k5.trans s2
      refine ⟨t, _, rfl, SqT.of tt2, rfl, _, _, rfl, _, _, rfl, rfl, rfl, ?_⟩
      refine ⟨_, rfl, .inl ⟨rfl, _, SqL.of c6⟩, ?_⟩
      refine ⟨_, rfl, _, rfl, a, _, _, _, rfl, rfl, k6.seq hs, at_vl (by omega), ?_⟩
      refine ⟨_, rfl, _, rfl, _, _, rfl, rfl, _, _, rfl, rfl, _, _, rfl, rfl, .inr ?_, ?_⟩
      · show -(2 ^ 64) < (m : Int) - (b : Int) + 1 ∧ (m : Int) - (b : Int) + 1 < 2 ^ 64
        omega
      refine ⟨_, rfl, _, rfl, pe, _, _, _, rfl, rfl, SqL.of c6, at_vl (i := b) (by rw [List.length_map, List.length_range]; omega), _, _, rfl, rfl, pe, _, _, rfl, rfl, c6, ?_, ?_⟩
      · rw [List.length_map, List.length_map, List.length_range]; exact small1000 (by omega)
      · refine ⟨_, _, _, rfl, ?_, k6.at hpe⟩
        rw [upd_same, rng_at (by omega), List.range_succ (n := m + 1), List.map_append, List.map_append]
        show some (HO.lst (_ ++ [V.int (vl ns m * ((m : Int) - (b : Int) + 1) + bE ns b)])) = _
        rw [← bE_step hre]
        rfl
    · rintro σ H2 ⟨v3, v4, v5, rfl, c2, k2⟩
      refine ⟨_, rfl, ?_⟩
      rw [List.length_map, htl, hpl] at c2
      exact q pe H2 k2 hpe c2
def xsums_by_begin : { t : Stmt // top 19 = t } := ⟨_, by conv => { lhs; whnf }⟩
abbrev ssums_by_begin : Stmt := xsums_by_begin.1
theorem scsums_by_begin : FnScope ["row", "spans", "sums", "place", "end"] ["row", "spans"] (defScope ssums_by_begin) := ⟨rfl, rfl, rfl, by decide +kernel, rfl, by decide +kernel, by decide +kernel⟩
theorem fn_sums_by_begin (B : Bl mg bls) (D : DefAt K mg "sums_by_begin" ssums_by_begin ["row", "spans"]) : Fn P w K mg base 1 "sums_by_begin" ["row", "spans"] (spByL K byBeg) := by
  refine D.fn scsums_by_begin (fun vs H Q E h => ?_) (fun f cdv A outer s H vs Q E hr h => ?_)
  · obtain ⟨a, l, ns, ts, ps, rfl, _⟩ := h; rfl
  · obtain ⟨a, l, ns, ts, ps, rfl, hs, hl, cl, hP, ar, q⟩ := h
    refine' ⟨_, ?tm, ?rd⟩
    (case tm =>
      (conv => { arg 2; whnf })
      refine' pss_cons ?s0 ?r0
      (case s0 =>
        exact (ps_set (i := 2) scsums_by_begin.nd (by rfl) (by first | exact Or.inl rfl | exact Or.inr rfl) (pe_op op_rep (pe_lst (pa_cons pe_int pa_nil)) (pe_op op_add (pe_callB call_len_seq (by rfl) (B "len" (by decide +kernel)) (by decide +kernel) (pa_cons (pv 0) pa_nil)) pe_int))))
      (case r0 =>
        refine' pss_cons ?s0x ?r0x
        (case s0x =>
          refine' ps_for PassesOwn.never (by rfl) ?i0x ?g0x ?d0x
          (case i0x => exact (pi_revRange (by rfl) (B "reversed" (by decide +kernel)) (by rfl) (B "range" (by decide +kernel)) (pa_cons (pe_callB call_len_seq (by rfl) (B "len" (by decide +kernel)) (by decide +kernel) (pa_cons (pv 0) pa_nil)) pa_nil)))
          (case g0x => exact (pg_name (i := 3) scsums_by_begin.nd (by rfl) (by first | exact Or.inl rfl | exact Or.inr rfl)))
          (case d0x =>
            refine' pss_cons ?s0xf ?r0xf
            (case s0xf =>
              exact (ps_set (i := 4) scsums_by_begin.nd (by rfl) (by first | exact Or.inl rfl | exact Or.inr rfl) (pe_ix ix_tup (pe_ix ix_list (pv 1) (pv 3) (fun _ _ => rfl)) pe_int (fun _ _ => rfl))))
            (case r0xf =>
              refine' pss_one ?s0xfx
              (case s0xfx =>
                exact (ps_asg (pe_op op_add (pe_op op_mul (pe_ix ix_list (pv 0) (pv 3) (fun _ _ => rfl)) (pe_op op_sub (pv 4) (pv 3))) (pe_ix ix_list (pv 2) (pv 4) (fun _ _ => rfl))) (pg_sub (pv 2) (pv 3) set_list))))))
        (case r0x =>
          refine' pss_one ?s0xx
          (case s0xx =>
            exact (ps_ret (pv 2))))))
    have hpl := ar.1
    have htl : ts.length = ps.length := hP.1
    refine ⟨(by show 1 ≤ sizeLine; decide), fun q1 hq1 => ?_⟩
    have s1 := Same.new (o := .lst [.int 0]) hq1
    refine ⟨_, rfl, a, _, rfl, .inl (s1.seq hs), _, _, rfl, rfl, q1, _, _, rfl, rfl, upd_same, by rw [List.length_map]; omega, by rw [List.length_map]; omega, ?_, fun pe hpe => ?_⟩
    · refine line1000 ?_
      show 1 * _ ≤ 1000
      rw [List.length_map]; omega
    have eE : (List.replicate (((((ns.map V.int).length : Nat) : Int) + 1)).toNat [V.int 0]).flatten = (List.replicate (ns.length + 1) (0 : Int)).map V.int := by
      rw [flat_one, List.map_replicate, List.length_map]
      rfl
    rw [eE]
    have s2 := Same.new (o := .lst ((List.replicate (ns.length + 1) (0 : Int)).map V.int)) hpe
    have c2 : upd (upd H q1 (.lst [.int 0])) pe (.lst ((List.replicate (ns.length + 1) (0 : Int)).map V.int)) pe = _ := upd_same
    have k2 := s1.trans s2
    have fpe := s1.free hpe
    generalize upd (upd H q1 (.lst [.int 0])) pe (.lst ((List.replicate (ns.length + 1) (0 : Int)).map V.int)) = H2 at c2 k2 ⊢
    refine ⟨_, rfl, a, _, rfl, .inl (k2.seq hs), (ns.map V.int).length, rfl, by rw [List.length_map]; omega, ?_⟩
    rw [List.length_map]
    refine for_rangeC (fun i σ H' => ∃ (v3 v4 : Option V) (xs : List Int), σ = [some (.ref a), some (.ref l), some (.ref pe), v3, v4] ∧ H' pe = some (.lst (xs.map V.int)) ∧ xs.length = ns.length + 1 ∧ (∀ j, ns.length - i ≤ j → j ≤ ns.length → vl xs j = bB ns j) ∧ Same H H')
      ⟨_, _, _, rfl, c2, by rw [List.length_replicate], fun j h1 h2 => ?_, k2⟩ ?_ ?_
    · have ej : j = ns.length := by omega
      subst ej
      show List.getD _ _ _ = _
      unfold bB
      rw [Nat.sub_self, List.getD_eq_getElem?_getD, List.getElem?_replicate]
      simp [sumN]
    · rintro i σ H5 hi ⟨v3, v4, xs, rfl, c5, xl, hx, k5⟩
      have epl : (ns.length : Int) - 1 + (i : Int) * (-1) = ((ns.length - 1 - i : Nat) : Int) := by omega
      rw [epl]
      generalize hp : ns.length - 1 - i = p
      have hpn : p < ns.length := by omega
      obtain ⟨b, e, ep, hre⟩ := pr_atP ar hpn
      have h1 := hre.bi; have h2 := hre.ie; have h3 := hre.en
      have hpt : p < ts.length := by omega
      have ht : ts[p]? = some ts[p] := List.getElem?_eq_getElem hpt
      have tt := hP.2 p _ _ ht ep
      have hat : atI (ts.map V.ref) ((p : Nat) : Int) = some (.ref ts[p]) := by
        unfold atI
        rw [ix_nat (by omega) (by rw [List.length_map]; omega)]
        simp [hpt]
      dsimp only [gName]
      refine ⟨_, rfl, _, rfl, l, _, _, _, rfl, rfl, SqL.of (k5 _ _ cl), hat, ts[p], _, _, _, rfl, rfl, SqT.of (k5 _ _ tt), rfl, ?_⟩
      refine ⟨_, rfl, _, rfl, a, _, _, _, rfl, rfl, k5.seq hs, at_vl hpn, ?_⟩
      refine ⟨_, rfl, _, rfl, _, _, rfl, rfl, _, _, rfl, rfl, .inr ?_, ?_⟩
      · show -(2 ^ 64) < (e : Int) - (p : Int) ∧ (e : Int) - (p : Int) < 2 ^ 64
        omega
      refine ⟨_, rfl, _, rfl, pe, _, _, _, rfl, rfl, SqL.of c5, at_vl (i := e) (by omega), _, _, rfl, rfl, ?_⟩
      refine ⟨_, rfl, _, rfl, pe, _, _, p, rfl, rfl, c5, ?_, ?_⟩
      · rw [List.length_map]
        exact (ix_nat (i := (p : Int)) (by omega) (by omega)).trans (by simp)
      · refine ⟨_, _, xs.set p (bB ns p), rfl, ?_, by rw [List.length_set]; exact xl, fun j j1 j2 => ?_, k5.at fpe⟩
        · rw [upd_same, List.map_set, hx e (by omega) h3]
          show some (HO.lst ((xs.map V.int).set p (V.int (vl ns p * ((e : Int) - (p : Int)) + bB ns e)))) = _
          rw [← bB_step hre]
        · by_cases hj : j = p
          · subst hj
            show List.getD _ _ _ = _
            rw [List.getD_eq_getElem?_getD, List.getElem?_set_self (by omega)]
            rfl
          · show List.getD _ _ _ = _
            rw [List.getD_eq_getElem?_getD, List.getElem?_set_ne (Ne.symm hj), ← List.getD_eq_getElem?_getD]
            exact hx j (by omega) j2
    · rintro σ H3 ⟨v3, v4, xs, rfl, c3, xl, hx, k3⟩
      refine ⟨_, rfl, ?_⟩
      have ex : xs = byBeg ns := by
        apply List.ext_getElem?
        intro j
        by_cases hj : j < ns.length + 1
        · have := hx j (by omega) (by omega)
          unfold byBeg
          rw [List.getElem?_map, List.getElem?_range hj, List.getElem?_eq_getElem (by omega)]
          have e2 : vl xs j = xs[j] := by show List.getD _ _ _ = _; rw [List.getD_eq_getElem?_getD, List.getElem?_eq_getElem (by omega)]; rfl
          rw [e2] at this
          rw [this]
          rfl
        · rw [List.getElem?_eq_none (by omega), List.getElem?_eq_none (by unfold byBeg; rw [List.length_map, List.length_range]; omega)]
      rw [ex] at c3
      exact q pe H3 k3 fpe c3
end

end Law

set_option Elab.async false
set_option linter.all false
set_option maxRecDepth 100000
set_option maxHeartbeats 4000000
namespace Law
open PySem L2
structure LSC (K : PySem.W.Frag) (CL : Addr) : Prop where
  cls : Cls K CL
  row : NoAttr K CL "row"
  by_end : NoAttr K CL "by_end"
  by_begin : NoAttr K CL "by_begin"
structure RDC (K : PySem.W.Frag) (C : Addr) : Prop where
  cls : Cls K C
  row : NoAttr K C "row"
  least_sums : NoAttr K C "least_sums"
  negative_sums : NoAttr K C "negative_sums"
def LSAt (CL : Addr) (H : Hp) (x : Addr) (ns : List Int) (W : Addr → Prop) : Prop := ∃ dx r e g : Addr, (W x ∧ W r ∧ W e ∧ W g) ∧ H x = some (.ins CL dx [("row", .ref r), ("by_end", .ref e), ("by_begin", .ref g)]) ∧ H r = some (.lst (ns.map V.int)) ∧
  H e = some (.lst ((byEnd ns).map V.int)) ∧ H g = some (.lst ((byBeg ns).map V.int))
def RdAt (C CL : Addr) (H : Hp) (x : Addr) (ns : List Int) (W : Addr → Prop) : Prop := ∃ dx r l m : Addr, (W x ∧ W r) ∧ H x = some (.ins C dx [("row", .ref r), ("least_sums", .ref l), ("negative_sums", .ref m)]) ∧ H r = some (.lst (ns.map V.int)) ∧
  LSAt CL H l ns W ∧ LSAt CL H m (ns.map fun n => -n) W
theorem LSAt.same {CL x : Addr} {H H' : Hp} {ns : List Int} {W : Addr → Prop} (h : LSAt CL H x ns W) (s : Same H H') : LSAt CL H' x ns W := by
  obtain ⟨dx, r, e, g, hw, h1, h2, h3, h4⟩ := h
  exact ⟨dx, r, e, g, hw, s _ _ h1, s _ _ h2, s _ _ h3, s _ _ h4⟩
theorem LSAt.but {CL x p : Addr} {H H' : Hp} {ns : List Int} {W : Addr → Prop} (h : LSAt CL H x ns W) (s : But p H H') (np : ¬ W p) : LSAt CL H' x ns W := by
  obtain ⟨dx, r, e, g, ⟨w1, w2, w3, w4⟩, h1, h2, h3, h4⟩ := h
  have ne : ∀ b, W b → b ≠ p := fun b wb z => np (by rw [← z]; exact wb)
  exact ⟨dx, r, e, g, ⟨w1, w2, w3, w4⟩, s _ _ (ne _ w1) h1, s _ _ (ne _ w2) h2, s _ _ (ne _ w3) h3, s _ _ (ne _ w4) h4⟩
theorem LSAt.imp {CL x : Addr} {H : Hp} {ns : List Int} {W W' : Addr → Prop} (h : LSAt CL H x ns W) (i : ∀ b, W b → W' b) : LSAt CL H x ns W' := by
  obtain ⟨dx, r, e, g, ⟨w1, w2, w3, w4⟩, r'⟩ := h
  exact ⟨dx, r, e, g, ⟨i _ w1, i _ w2, i _ w3, i _ w4⟩, r'⟩
theorem RdAt.same {C CL x : Addr} {H H' : Hp} {ns : List Int} {W : Addr → Prop} (h : RdAt C CL H x ns W) (s : Same H H') : RdAt C CL H' x ns W := by
  obtain ⟨dx, r, l, m, hw, h1, h2, h3, h4⟩ := h
  exact ⟨dx, r, l, m, hw, s _ _ h1, s _ _ h2, h3.same s, h4.same s⟩
theorem RdAt.but {C CL x p : Addr} {H H' : Hp} {ns : List Int} {W : Addr → Prop} (h : RdAt C CL H x ns W) (s : But p H H') (np : ¬ W p) : RdAt C CL H' x ns W := by
  obtain ⟨dx, r, l, m, ⟨w1, w2⟩, h1, h2, h3, h4⟩ := h
  have ne : ∀ b, W b → b ≠ p := fun b wb z => np (by rw [← z]; exact wb)
  exact ⟨dx, r, l, m, ⟨w1, w2⟩, s _ _ (ne _ w1) h1, s _ _ (ne _ w2) h2, h3.but s np, h4.but s np⟩
theorem RdAt.imp {C CL x : Addr} {H : Hp} {ns : List Int} {W W' : Addr → Prop} (h : RdAt C CL H x ns W) (i : ∀ b, W b → W' b) : RdAt C CL H x ns W' := by
  obtain ⟨dx, r, l, m, ⟨w1, w2⟩, h1, h2, h3, h4⟩ := h
  exact ⟨dx, r, l, m, ⟨i _ w1, i _ w2⟩, h1, h2, h3.imp i, h4.imp i⟩
abbrev New (x : Addr) (H : Hp) : Addr → Prop := fun b => b = x ∨ H b = none
def spLSI (K : PySem.W.Frag) (CL : Addr) : Sp := fun vs H Q _ => ∃ (x a dx : Addr) (ns : List Int), vs = [.ref x, .ref a] ∧ H x = some (.ins CL dx []) ∧ SqL K H a (ns.map V.int) ∧ ns.length ≤ 300 ∧ ∀ H', But x H H' → LSAt CL H' x ns (New x H) → Q .non H'
def spWithin (CL : Addr) : Sp := fun vs H Q _ => ∃ (x : Addr) (ns : List Int) (W : Addr → Prop) (b e : Int), vs = [.ref x, .int b, .int e] ∧ LSAt CL H x ns W ∧ IsSt ns.length b e ∧ ns.length ≤ 300 ∧ ∀ H', Same H H' → Q (.int (sumSt (seg ns b e) minL)) H'
def spRDI (K : PySem.W.Frag) (C CL : Addr) : Sp := fun vs H Q _ => ∃ (x a dx : Addr) (ns : List Int), vs = [.ref x, .ref a] ∧ H x = some (.ins C dx []) ∧ SqL K H a (ns.map V.int) ∧ ns.length ≤ 300 ∧ ∀ H', But x H H' → RdAt C CL H' x ns (New x H) → Q .non H'
def spRd (C CL : Addr) (g : List Int → Int → Int) : Sp := fun vs H Q _ => ∃ (x : Addr) (ns : List Int) (W : Addr → Prop) (b e : Int), vs = [.ref x, .int b, .int e] ∧ RdAt C CL H x ns W ∧ IsSt ns.length b e ∧ ns.length ≤ 300 ∧ ∀ H', Same H H' → Q (.int (g (seg ns b e) b)) H'
/-- the place of the least, as the sums want it -/
theorem place_of_least {ns : List Int} {b e : Nat} (h : b < e) (he : e ≤ ns.length) : b ≤ b + pl (seg ns (b : Int) (e : Int)) ∧ b + pl (seg ns (b : Int) (e : Int)) < e ∧ ∀ k, b ≤ k → k < e → vl ns (b + pl (seg ns (b : Int) (e : Int))) ≤ vl ns k := by
  have st : IsSt ns.length (b : Int) (e : Int) := ⟨by omega, by omega, by omega⟩
  obtain ⟨f1, f2, f3⟩ := fst_at (minL_spec (seg_ne st)).1
  have sl := seg_len st
  refine ⟨by omega, ?_, fun k k1 k2 => ?_⟩
  · show b + fst _ _ < e
    simp only [Int.toNat_natCast] at sl
    omega
  · rw [least_at h he]
    exact (minL_spec (seg_ne st)).2 _ ((mem_segN he).mpr ⟨k, k1, k2, rfl⟩)
section
variable {P : Program} {w : World} {K : PySem.W.Frag} {mg : Str → Option Value} {base : Heap} {C CL : Addr}
def xLeastSums___init__ : { t : Stmt // inClass (top 20) 0 = t } := ⟨_, by conv => { lhs; whnf }⟩
abbrev sLeastSums___init__ : Stmt := xLeastSums___init__.1
theorem scLeastSums___init__ : FnScope ["self", "row", "spans"] ["self", "row"] (defScope sLeastSums___init__) := ⟨rfl, rfl, rfl, by decide +kernel, rfl, by decide +kernel, by decide +kernel⟩
theorem fn_LSI (B : Bl mg bls) (cl : LSC K CL) (D : DefI K mg "LeastSums" CL "LeastSums.__init__" sLeastSums___init__ ["self", "row"]) (Freaches : Fn P w K mg base 1 "reaches" ["row"] (spReaches K)) (Fsums_by_end : Fn P w K mg base 1 "sums_by_end" ["row", "spans"] (spByL K byEnd))
    (Fsums_by_begin : Fn P w K mg base 1 "sums_by_begin" ["row", "spans"] (spByL K byBeg)) : IFn P w K mg base 2 "LeastSums" CL ["self", "row"] (spLSI K CL) := by
  refine D.fn scLeastSums___init__ (fun vs H Q E h => ?_) (fun f cdv A outer s H vs Q E hr h => ?_)
  · obtain ⟨x, a, dx, ns, rfl, _⟩ := h; rfl
  · obtain ⟨x, a, dx, ns, rfl, hx, hs, hl, q⟩ := h
    refine' ⟨_, ?tm, ?rd⟩
    (case tm =>
      (conv => { arg 2; whnf })
      refine' pss_cons ?s0 ?r0
      (case s0 =>
        exact (ps_fld (pv 0) (pe_callTy call_list_of (by rfl) (B "list" (by decide +kernel)) (by decide +kernel) (pa_cons (pv 1) pa_nil)) (by rfl)))
      (case r0 =>
        refine' pss_cons ?s0x ?r0x
        (case s0x =>
          exact (ps_set (i := 2) scLeastSums___init__.nd (by rfl) (by first | exact Or.inl rfl | exact Or.inr rfl) (pe_fn Freaches hr (by rfl) (pa_cons (pv 1) pa_nil))))
        (case r0x =>
          refine' pss_cons ?s0xx ?r0xx
          (case s0xx =>
            exact (ps_fld (pv 0) (pe_fn Fsums_by_end hr (by rfl) (pa_cons (pv 1) (pa_cons (pv 2) pa_nil))) (by rfl)))
          (case r0xx =>
            refine' pss_one ?s0xxx
            (case s0xxx =>
              exact (ps_fld (pv 0) (pe_fn Fsums_by_begin hr (by rfl) (pa_cons (pv 1) (pa_cons (pv 2) pa_nil))) (by rfl)))))))
    refine ⟨_, rfl, a, _, rfl, .inl hs, fun r hr0 => ?_⟩
    have s1 := Same.new (o := .lst (ns.map V.int)) hr0
    have cr1 : upd H r (.lst (ns.map V.int)) r = some (.lst (ns.map V.int)) := upd_same
    have hx1 := s1 _ _ hx
    refine ⟨_, rfl, x, CL, dx, _, rfl, hx1, cl.cls, cl.row, (by show 0 < 1000; decide), ?_⟩
    generalize upd H r (.lst (ns.map V.int)) = H1 at s1 cr1 hx1 ⊢
    have nrx : r ≠ x := (ne_of_none hx hr0).symm
    have k2 : But x H (upd H1 x (.ins CL dx (putF "row" (.ref r) []))) := s1.but.trans (But.upd _)
    have hx2 : upd H1 x (.ins CL dx (putF "row" (.ref r) [])) x = some (.ins CL dx [("row", .ref r)]) := upd_same
    have cr2 : upd H1 x (.ins CL dx (putF "row" (.ref r) [])) r = some (.lst (ns.map V.int)) := by rw [upd_ne nrx]; exact cr1
    generalize upd H1 x (.ins CL dx (putF "row" (.ref r) [])) = H2 at k2 hx2 cr2 ⊢
    have nax : a ≠ x ∨ SqL K H2 a (ns.map V.int) := by
      by_cases z : a = x
      · subst z
        right
        rcases hs with (z | ⟨o, z⟩) | z
        · rw [hx] at z; cases z
        · rw [hx] at z; cases z
        · exact .inr z
      · exact .inl z
    have hs2 : SqL K H2 a (ns.map V.int) := by
      rcases nax with z | z
      · exact k2.seq z hs
      · exact z
    refine ⟨_, rfl, a, ns, rfl, hs2, hl, fun l H3 ts ps s3 fl cl3 hP ar => ?_⟩
    rw [show (ns.map fun n => n) = ns from List.map_id' ns] at ar
    refine ⟨_, rfl, _, rfl, a, l, ns, ts, ps, rfl, s3.seq hs2, hl, cl3, hP, ar, fun e H4 s4 fe ce => ?_⟩
    have hx4 := s4 _ _ (s3 _ _ hx2)
    refine ⟨_, rfl, x, CL, dx, _, rfl, hx4, cl.cls, cl.by_end, (by show 1 < 1000; decide), ?_⟩
    have hx5 : upd H4 x (.ins CL dx (putF "by_end" (.ref e) [("row", .ref r)])) x = some (.ins CL dx [("row", .ref r), ("by_end", .ref e)]) := by rw [upd_same]; rfl
    have b5 : But x H4 (upd H4 x (.ins CL dx (putF "by_end" (.ref e) [("row", .ref r)]))) := But.upd _
    generalize upd H4 x (.ins CL dx (putF "by_end" (.ref e) [("row", .ref r)])) = H5 at hx5 b5 ⊢
    have nex : e ≠ x := (ne_of_none (s3 _ _ hx2) fe).symm
    have nlx : l ≠ x := (ne_of_none hx2 fl).symm
    have hs5 : SqL K H5 a (ns.map V.int) := by
      rcases nax with z | z
      · exact b5.seq z ((s3.trans s4).seq hs2)
      · by_cases y : a = x
        · subst y
          rcases hs with (w1 | ⟨o, w1⟩) | w1
          · rw [hx] at w1; cases w1
          · rw [hx] at w1; cases w1
          · exact .inr w1
        · exact b5.seq y ((s3.trans s4).seq hs2)
    have cl5 : H5 l = some (.lst (ts.map V.ref)) := b5 _ _ nlx (s4 _ _ cl3)
    have hP5 : PrAt H5 ts ps := ⟨hP.1, fun j t p h1 h2 => by
      have z := s4 _ _ (hP.2 j t p h1 h2)
      exact b5 _ _ (ne_of z hx4 (by intro y; cases y)) z⟩
    refine ⟨_, rfl, _, rfl, a, l, ns, ts, ps, rfl, hs5, hl, cl5, hP5, ar, fun g H6 s6 fg cg => ?_⟩
    have hx6 := s6 _ _ hx5
    refine ⟨_, rfl, x, CL, dx, _, rfl, hx6, cl.cls, cl.by_begin, (by show 2 < 1000; decide), ?_⟩
    have hx7 : upd H6 x (.ins CL dx (putF "by_begin" (.ref g) [("row", .ref r), ("by_end", .ref e)])) x = some (.ins CL dx [("row", .ref r), ("by_end", .ref e), ("by_begin", .ref g)]) := by rw [upd_same]; rfl
    have b7 : But x H6 (upd H6 x (.ins CL dx (putF "by_begin" (.ref g) [("row", .ref r), ("by_end", .ref e)]))) := But.upd _
    generalize upd H6 x (.ins CL dx (putF "by_begin" (.ref g) [("row", .ref r), ("by_end", .ref e)])) = H7 at hx7 b7 ⊢
    have ngx : g ≠ x := (ne_of_none hx5 fg).symm
    have k5 : But x H H5 := (k2.trans (s3.trans s4).but).trans b5
    have k7 : But x H H7 := (k5.trans s6.but).trans b7
    have fr : ∀ {b : Addr} {H' : Hp}, But x H H' → b ≠ x → H' b = none → H b = none := fun {b H'} k n z => by
      cases y : H b with
      | none => rfl
      | some o =>
        obtain ⟨u, y'⟩ := (k b o n y).some
        rw [y'] at z
        cases z
    refine q H7 k7 ⟨dx, r, e, g, ⟨.inl rfl, .inr hr0, .inr (fr (k2.trans s3.but) nex fe), .inr (fr k5 ngx fg)⟩, hx7, ?_, ?_, b7 _ _ ngx cg⟩
    · exact b7 _ _ nrx (s6 _ _ (b5 _ _ nrx (s4 _ _ (s3 _ _ cr2))))
    · exact b7 _ _ nex (s6 _ _ (b5 _ _ nex ce))
end

section
variable {P : Program} {w : World} {K : PySem.W.Frag} {mg : Str → Option Value} {base : Heap} {C CL : Addr}
def xLeastSums_within : { t : Stmt // inClass (top 20) 1 = t } := ⟨_, by conv => { lhs; whnf }⟩
abbrev sLeastSums_within : Stmt := xLeastSums_within.1
theorem scLeastSums_within : FnScope ["self", "begin", "end", "place", "ahead", "behind", "wholly_behind", "wholly_ahead"] ["self", "begin", "end"] (defScope sLeastSums_within) := ⟨rfl, rfl, rfl, by decide +kernel, rfl, by decide +kernel, by decide +kernel⟩
theorem fn_within (B : Bl mg bls) (cl : LSC K CL) (D : DefM K CL "within" "LeastSums.within" sLeastSums_within ["self", "begin", "end"]) (Fleast_place : Fn P w K mg base 4 "least_place" ["row", "begin", "end"] (spSeg K gPlace)) :
    MFn P w K mg base 5 CL "within" ["self", "begin", "end"] (spWithin CL) := by
  refine D.fn scLeastSums_within (fun vs H Q E h => ?_) (fun f cdv A outer s H vs Q E hr h => ?_)
  · obtain ⟨x, ns, W, b, e, rfl, _⟩ := h; rfl
  · obtain ⟨x, ns, W, b, e, rfl, ls, st, hl, q⟩ := h
    refine' ⟨_, ?tm, ?rd⟩
    (case tm =>
      (conv => { arg 2; whnf })
      refine' pss_cons ?s0 ?r0
      (case s0 =>
        exact (ps_set (i := 3) scLeastSums_within.nd (by rfl) (by first | exact Or.inl rfl | exact Or.inr rfl) (pe_fn Fleast_place hr (by rfl) (pa_cons (pe_fld (pv 0) (by rfl)) (pa_cons (pv 1) (pa_cons (pv 2) pa_nil))))))
      (case r0 =>
        refine' pss_cons ?s0x ?r0x
        (case s0x =>
          exact (ps_set (i := 4) scLeastSums_within.nd (by rfl) (by first | exact Or.inl rfl | exact Or.inr rfl) (pe_op op_add (pe_op op_sub (pv 3) (pv 1)) pe_int)))
        (case r0x =>
          refine' pss_cons ?s0xx ?r0xx
          (case s0xx =>
            exact (ps_set (i := 5) scLeastSums_within.nd (by rfl) (by first | exact Or.inl rfl | exact Or.inr rfl) (pe_op op_sub (pv 2) (pv 3))))
          (case r0xx =>
            refine' pss_cons ?s0xxx ?r0xxx
            (case s0xxx =>
              exact (ps_set (i := 6) scLeastSums_within.nd (by rfl) (by first | exact Or.inl rfl | exact Or.inr rfl) (pe_op op_sub (pe_callB (cr_sum rfl) (by rfl) (B "sum" (by decide +kernel)) (by decide +kernel) (pa_cons (pe_slice sl_list (pe_fld (pv 0) (by rfl)) (po_some (pe_op op_add (pv 3) pe_int)) (po_some (pe_op op_add (pv 2) pe_int))) pa_nil)) (pe_op op_mul (pv 5) (pe_ix ix_list (pe_fld (pv 0) (by rfl)) (pe_op op_add (pv 3) pe_int) (fun _ _ => rfl))))))
            (case r0xxx =>
              refine' pss_cons ?s0xxxx ?r0xxxx
              (case s0xxxx =>
                exact (ps_set (i := 7) scLeastSums_within.nd (by rfl) (by first | exact Or.inl rfl | exact Or.inr rfl) (pe_op op_sub (pe_callB (cr_sum rfl) (by rfl) (B "sum" (by decide +kernel)) (by decide +kernel) (pa_cons (pe_slice sl_list (pe_fld (pv 0) (by rfl)) (po_some (pv 1)) (po_some (pe_op op_add (pv 3) pe_int))) pa_nil)) (pe_op op_mul (pv 4) (pe_ix ix_list (pe_fld (pv 0) (by rfl)) (pv 3) (fun _ _ => rfl))))))
              (case r0xxxx =>
                refine' pss_one ?s0xxxxx
                (case s0xxxxx =>
                  exact (ps_ret (pe_op op_add (pe_op op_add (pv 7) (pe_op op_mul (pe_op op_mul (pe_ix ix_list (pe_fld (pv 0) (by rfl)) (pv 3) (fun _ _ => rfl)) (pv 4)) (pv 5))) (pv 6))))))))))
    obtain ⟨dx, r, pe, pg, _, hx, cr, ce, cg⟩ := ls
    obtain ⟨b, rfl⟩ : ∃ n : Nat, b = (n : Int) := ⟨b.toNat, by have := st.1; omega⟩
    obtain ⟨e, rfl⟩ : ∃ n : Nat, e = (n : Int) := ⟨e.toNat, by have := st.1; have := st.2; omega⟩
    have hbe : b < e := by have := st.2; omega
    have hen : e ≤ ns.length := by have := st.3; omega
    obtain ⟨p1, p2, p3⟩ := place_of_least hbe hen
    refine ⟨_, rfl, x, CL, dx, _, _, rfl, hx, cl.cls, cl.row, rfl, _, rfl, _, rfl, r, ns, _, _, rfl, SqL.of cr, st, fun H1 s1 => ?_⟩
    have egp : gPlace (seg ns (b : Int) (e : Int)) (b : Int) = ((b + pl (seg ns (b : Int) (e : Int)) : Nat) : Int) := by show (b : Int) + _ = _; omega
    rw [egp]
    generalize hp : b + pl (seg ns (b : Int) (e : Int)) = p at p1 p2 p3
    have hx1 := s1 _ _ hx
    have cr1 := s1 _ _ cr
    have ce1 := s1 _ _ ce
    have cg1 := s1 _ _ cg
    have leE : (byEnd ns).length = ns.length + 1 := by unfold byEnd; rw [List.length_map, List.length_range]
    have leG : (byBeg ns).length = ns.length + 1 := by unfold byBeg; rw [List.length_map, List.length_range]
    dsimp only [gName]
    refine ⟨_, rfl, _, rfl, _, _, rfl, rfl, _, _, rfl, rfl, ?_⟩
    refine ⟨_, rfl, _, rfl, _, _, rfl, rfl, ?_⟩
    have st1 : IsSt (byEnd ns).length ((p : Int) + 1) ((e : Int) + 1) := ⟨by omega, by omega, by omega⟩
    refine ⟨_, rfl, x, CL, dx, _, _, rfl, hx1, cl.cls, cl.by_end, rfl, _, rfl, _, _, rfl, rfl, _, rfl, _, rfl, _, _, rfl, rfl, _, rfl, pe, _, rfl, SqL.of ce1, fun q1 hq1 => ?_⟩
    rw [cut_ints, seg_cut st1]
    have s2 := Same.new (o := .lst ((seg (byEnd ns) ((p : Int) + 1) ((e : Int) + 1)).map V.int)) hq1
    refine ⟨q1, _, rfl, SqL.of upd_same, ?_⟩
    generalize upd H1 q1 (.lst ((seg (byEnd ns) ((p : Int) + 1) ((e : Int) + 1)).map V.int)) = H2 at s2 ⊢
    have hx2 := s2 _ _ hx1
    refine ⟨_, rfl, _, rfl, x, CL, dx, _, _, rfl, hx2, cl.cls, cl.by_end, rfl, _, rfl, _, _, rfl, rfl, pe, _, _, _, rfl, rfl, SqL.of (s2 _ _ ce1), at_vl (ns := byEnd ns) (i := p + 1) (by omega), _, _, rfl, rfl, .inl ?_, _, _, rfl, rfl, ?_⟩
    · show -(2 ^ 64) < (e : Int) - (p : Int) ∧ (e : Int) - (p : Int) < 2 ^ 64
      omega
    have st2 : IsSt (byBeg ns).length (b : Int) ((p : Int) + 1) := ⟨by omega, by omega, by omega⟩
    refine ⟨_, rfl, x, CL, dx, _, _, rfl, hx2, cl.cls, cl.by_begin, rfl, _, rfl, _, rfl, _, rfl, _, _, rfl, rfl, _, rfl, pg, _, rfl, SqL.of (s2 _ _ cg1), fun q2 hq2 => ?_⟩
    rw [cut_ints, seg_cut st2]
    have s3 := Same.new (o := .lst ((seg (byBeg ns) (b : Int) ((p : Int) + 1)).map V.int)) hq2
    refine ⟨q2, _, rfl, SqL.of upd_same, ?_⟩
    generalize upd H2 q2 (.lst ((seg (byBeg ns) (b : Int) ((p : Int) + 1)).map V.int)) = H3 at s3 ⊢
    have hx3 := s3 _ _ hx2
    have s13 := s2.trans s3
    refine ⟨_, rfl, _, rfl, x, CL, dx, _, _, rfl, hx3, cl.cls, cl.by_begin, rfl, _, rfl, pg, _, _, _, rfl, rfl, SqL.of (s13 _ _ cg1), at_vl (ns := byBeg ns) (i := p) (by omega), _, _, rfl, rfl, .inl ?_, _, _, rfl, rfl, ?_⟩
    · show -(2 ^ 64) < (p : Int) - (b : Int) + 1 ∧ (p : Int) - (b : Int) + 1 < 2 ^ 64
      omega
    refine ⟨_, rfl, _, rfl, x, CL, dx, _, _, rfl, hx3, cl.cls, cl.row, rfl, _, rfl, r, _, _, _, rfl, rfl, SqL.of (s13 _ _ cr1), at_vl (ns := ns) (i := p) (by omega), _, rfl, _, _, rfl, rfl, .inr ?_, _, rfl, _, _, rfl, rfl, .inr ?_, _, _, rfl, rfl, _, rfl, _, _, rfl, rfl, ?_⟩
    · show -(2 ^ 64) < (p : Int) - (b : Int) + 1 ∧ (p : Int) - (b : Int) + 1 < 2 ^ 64
      omega
    · show -(2 ^ 64) < (e : Int) - (p : Int) ∧ (e : Int) - (p : Int) < 2 ^ 64
      omega
    have w := within_eq p1 p2 hen p3
    have eb : ((p : Int) + 1) = ((p + 1 : Nat) : Int) := by omega
    have ee : ((e : Int) + 1) = ((e + 1 : Nat) : Int) := by omega
    have f1 : (seg (byEnd ns) ((p : Int) + 1) ((e : Int) + 1)).sum = sumN (e - p) fun c => bE ns (p + 1 + c) := by
      rw [eb, ee]
      unfold byEnd
      rw [sum_seg_rng (by omega) (by omega), show e + 1 - (p + 1) = e - p by omega]
    have f2 : (seg (byBeg ns) (b : Int) ((p : Int) + 1)).sum = sumN (p + 1 - b) fun i => bB ns (b + i) := by
      rw [eb]
      unfold byBeg
      rw [sum_seg_rng (by omega) (by omega)]
    have f3 : vl (byEnd ns) (p + 1) = bE ns (p + 1) := rng_at (by omega)
    have f4 : vl (byBeg ns) p = bB ns p := rng_at (by omega)
    show Q (.int ((((seg (byBeg ns) (b : Int) ((p : Int) + 1)).sum - ((p : Int) - (b : Int) + 1) * vl (byBeg ns) p) + vl ns p * ((p : Int) - (b : Int) + 1) * ((e : Int) - (p : Int))) + ((seg (byEnd ns) ((p : Int) + 1) ((e : Int) + 1)).sum - ((e : Int) - (p : Int)) * vl (byEnd ns) (p + 1)))) H3
    rw [f1, f2, f3, f4, ← w]
    exact q H3 (s1.trans s13)
end

theorem made_new {H : Hp} {x dx : Addr} {o u : HO} (nx : H x = none) {b : Addr} (h : New x (upd (upd H dx u) x o) b) : H b = none := by
  rcases h with rfl | h
  · exact nx
  · by_cases e : b = x
    · rw [e]; exact nx
    · rw [upd_ne e] at h
      by_cases e2 : b = dx
      · subst e2
        rw [upd_same] at h
        cases h
      · rw [upd_ne e2] at h
        exact h
theorem seg_negP (ns : List Int) (b e : Int) : -(sumSt (seg (ns.map fun n => -n) b e) minL) = sumSt (seg ns b e) maxL := by
  rw [seg_map, sumSt_great, sumSt_least]
theorem seg_lenP {n m : Nat} {b e : Int} (h : IsSt n b e) (z : m = n) : IsSt m b e := by rw [z]; exact h
section
variable {P : Program} {w : World} {K : PySem.W.Frag} {mg : Str → Option Value} {base : Heap} {C CL : Addr}
def xReady___init__ : { t : Stmt // inClass (top 21) 0 = t } := ⟨_, by conv => { lhs; whnf }⟩
abbrev sReady___init__ : Stmt := xReady___init__.1
theorem scReady___init__ : FnScope ["self", "row", "number"] ["self", "row"] (defScope sReady___init__) := ⟨rfl, rfl, rfl, by decide +kernel, rfl, by decide +kernel, by decide +kernel⟩
theorem fn_RDI (B : Bl mg bls) (rc : RDC K C) (D : DefI K mg "Ready" C "Ready.__init__" sReady___init__ ["self", "row"]) (ILeastSums : IFn P w K mg base 2 "LeastSums" CL ["self", "row"] (spLSI K CL)) : IFn P w K mg base 4 "Ready" C ["self", "row"] (spRDI K C CL) := by
  refine D.fn scReady___init__ (fun vs H Q E h => ?_) (fun f cdv A outer s H vs Q E hr h => ?_)
  · obtain ⟨x, a, dx, ns, rfl, _⟩ := h; rfl
  · obtain ⟨x, a, dx, ns, rfl, hx, hs, hl, q⟩ := h
    refine' ⟨_, ?tm, ?rd⟩
    (case tm =>
      (conv => { arg 2; whnf })
      refine' pss_cons ?s0 ?r0
      (case s0 =>
        exact (ps_fld (pv 0) (pe_callTy call_list_of (by rfl) (B "list" (by decide +kernel)) (by decide +kernel) (pa_cons (pv 1) pa_nil)) (by rfl)))
      (case r0 =>
        refine' pss_cons ?s0x ?r0x
        (case s0x =>
          exact (ps_fld (pv 0) (pe_makeC ILeastSums hr (by rfl) (pa_cons (pe_fld (pv 0) (by rfl)) pa_nil)) (by rfl)))
        (case r0x =>
          refine' pss_one ?s0xx
          (case s0xx =>
            exact (ps_fld (pv 0) (pe_makeC ILeastSums hr (by rfl) (pa_cons (pe_lc (own := [("number", 2)]) (g := (gName 2)) (by rfl) scReady___init__.nd (pi_list (pe_fld (pv 0) (by rfl))) (blkOk_by (own := [("number", 2)]) (N := ["self", "row", "number"]) (sc := defScope sReady___init__) (by decide +kernel)) (fun _ _ _ _ _ => (pg_name (i := 2) scReady___init__.nd (by rfl) (by first | exact Or.inl rfl | exact Or.inr rfl))) (fun _ _ _ _ _ => pts_nil) (fun _ _ _ _ _ => (pe_un un_neg (pv 2)))) pa_nil)) (by rfl))))))
    refine ⟨_, rfl, a, _, rfl, .inl hs, fun r hr0 => ?_⟩
    have s1 := Same.new (o := .lst (ns.map V.int)) hr0
    have cr1 : upd H r (.lst (ns.map V.int)) r = some (.lst (ns.map V.int)) := upd_same
    have hx1 := s1 _ _ hx
    refine ⟨_, rfl, x, C, dx, _, rfl, hx1, rc.cls, rc.row, (by show 0 < 1000; decide), ?_⟩
    generalize upd H r (.lst (ns.map V.int)) = H1 at s1 cr1 hx1 ⊢
    have nrx : r ≠ x := (ne_of_none hx hr0).symm
    have k2 : But x H (upd H1 x (.ins C dx (putF "row" (.ref r) []))) := s1.but.trans (But.upd _)
    have hx2 : upd H1 x (.ins C dx (putF "row" (.ref r) [])) x = some (.ins C dx [("row", .ref r)]) := upd_same
    have cr2 : upd H1 x (.ins C dx (putF "row" (.ref r) [])) r = some (.lst (ns.map V.int)) := by rw [upd_ne nrx]; exact cr1
    generalize upd H1 x (.ins C dx (putF "row" (.ref r) [])) = H2 at k2 hx2 cr2 ⊢
    have fr : ∀ {b : Addr} {H' : Hp}, But x H H' → b ≠ x → H' b = none → H b = none := fun {b H'} k n z => by
      cases y : H b with
      | none => rfl
      | some o =>
        obtain ⟨u, y'⟩ := (k b o n y).some
        rw [y'] at z
        cases z
    -- the leasts
    refine ⟨_, rfl, x, C, dx, _, _, rfl, hx2, rc.cls, rc.row, rfl, fun l dl nl ndl nel => ?_⟩
    have sl : Same H2 (upd (upd H2 dl (.own l)) l (.ins CL dl [])) := (Same.new ndl).trans (Same.new (by rw [upd_ne nel.symm]; exact nl))
    refine ⟨l, r, dl, ns, rfl, upd_same, SqL.of (sl _ _ cr2), hl, fun H3 k3 ls3 => ⟨rfl, ?_⟩⟩
    have s3 : Same H2 H3 := Same.made' nl ndl k3
    replace ls3 : LSAt CL H3 l ns (fun b => H2 b = none) := ls3.imp fun b hb => made_new nl hb
    have hx3 := s3 _ _ hx2
    refine ⟨_, rfl, x, C, dx, _, rfl, hx3, rc.cls, rc.least_sums, (by show 1 < 1000; decide), ?_⟩
    have hx4 : upd H3 x (.ins C dx (putF "least_sums" (.ref l) [("row", .ref r)])) x = some (.ins C dx [("row", .ref r), ("least_sums", .ref l)]) := by rw [upd_same]; rfl
    have b4 : But x H3 (upd H3 x (.ins C dx (putF "least_sums" (.ref l) [("row", .ref r)]))) := But.upd _
    generalize upd H3 x (.ins C dx (putF "least_sums" (.ref l) [("row", .ref r)])) = H4 at hx4 b4 ⊢
    have k4 : But x H H4 := (k2.trans s3.but).trans b4
    have ls4 : LSAt CL H4 l ns (New x H) := (ls3.but b4 (fun z => by rw [hx2] at z; cases z)).imp fun b hb => by
      by_cases e : b = x
      · exact .inl e
      · exact .inr (fr k2 e hb)
    have cr4 : H4 r = some (.lst (ns.map V.int)) := b4 _ _ nrx (s3 _ _ cr2)
    -- the greatests
    refine ⟨_, rfl, x, C, dx, _, _, rfl, hx4, rc.cls, rc.row, rfl, r, rfl, ⟨_, SqL.of cr4⟩, fun D1 hD1 => lc_mapI (f := fun n => -n) (SqL.of cr4) hD1 (by omega) (fun v => rfl) (fun n H' R r => ⟨_, rfl, _, rfl, r⟩) ?_⟩
    have s5 := Same.new (o := .lst ((ns.map fun n => -n).map V.int)) hD1
    have c5 : upd H4 D1 (.lst ((ns.map fun n => -n).map V.int)) D1 = some (.lst ((ns.map fun n => -n).map V.int)) := upd_same
    generalize upd H4 D1 (.lst ((ns.map fun n => -n).map V.int)) = H5 at s5 c5 ⊢
    refine fun m dm nm ndm nem => ?_
    have sl' : Same H5 (upd (upd H5 dm (.own m)) m (.ins CL dm [])) := (Same.new ndm).trans (Same.new (by rw [upd_ne nem.symm]; exact nm))
    refine ⟨m, D1, dm, ns.map (fun n => -n), rfl, upd_same, SqL.of (sl' _ _ c5), by rw [List.length_map]; exact hl, fun H6 k6 ls6 => ⟨rfl, ?_⟩⟩
    have s6 : Same H5 H6 := Same.made' nm ndm k6
    replace ls6 : LSAt CL H6 m (ns.map fun n => -n) (fun b => H5 b = none) := ls6.imp fun b hb => made_new nm hb
    have hx6 := s6 _ _ (s5 _ _ hx4)
    refine ⟨_, rfl, x, C, dx, _, rfl, hx6, rc.cls, rc.negative_sums, (by show 2 < 1000; decide), ?_⟩
    have hx7 : upd H6 x (.ins C dx (putF "negative_sums" (.ref m) [("row", .ref r), ("least_sums", .ref l)])) x = some (.ins C dx [("row", .ref r), ("least_sums", .ref l), ("negative_sums", .ref m)]) := by rw [upd_same]; rfl
    have b7 : But x H6 (upd H6 x (.ins C dx (putF "negative_sums" (.ref m) [("row", .ref r), ("least_sums", .ref l)]))) := But.upd _
    generalize upd H6 x (.ins C dx (putF "negative_sums" (.ref m) [("row", .ref r), ("least_sums", .ref l)])) = H7 at hx7 b7 ⊢
    have k5 : But x H H5 := k4.trans s5.but
    have k7 : But x H H7 := (k5.trans s6.but).trans b7
    have ls7 : LSAt CL H7 m (ns.map fun n => -n) (New x H) := (ls6.but b7 (fun z => by rw [s5 _ _ hx4] at z; cases z)).imp fun b hb => by
      by_cases e : b = x
      · exact .inl e
      · exact .inr (fr k5 e hb)
    have ls47 : LSAt CL H7 l ns (New x H) := by
      have z := ((ls3.but b4 (fun z => by rw [hx2] at z; cases z)).same (s5.trans s6)).but b7 (fun z => by rw [hx2] at z; cases z)
      exact z.imp fun b hb => by
        by_cases e : b = x
        · exact .inl e
        · exact .inr (fr k2 e hb)
    exact q H7 k7 ⟨dx, r, l, m, ⟨.inl rfl, .inr hr0⟩, hx7, b7 _ _ nrx (s6 _ _ (s5 _ _ cr4)), ls47, ls7⟩
end

section
variable {P : Program} {w : World} {K : PySem.W.Frag} {mg : Str → Option Value} {base : Heap} {C CL : Addr}
def xReady_leasts : { t : Stmt // inClass (top 21) 1 = t } := ⟨_, by conv => { lhs; whnf }⟩
abbrev sReady_leasts : Stmt := xReady_leasts.1
theorem scReady_leasts : FnScope ["self", "begin", "end"] ["self", "begin", "end"] (defScope sReady_leasts) := ⟨rfl, rfl, rfl, by decide +kernel, rfl, by decide +kernel, by decide +kernel⟩
theorem fn_leasts (B : Bl mg bls) (rc : RDC K C) (D : DefM K C "leasts" "Ready.leasts" sReady_leasts ["self", "begin", "end"]) (MLeastSums_within : MFn P w K mg base 5 CL "within" ["self", "begin", "end"] (spWithin CL)) :
    MFn P w K mg base 6 C "leasts" ["self", "begin", "end"] (spRd C CL fun l _ => sumSt l minL) := by
  refine D.fn scReady_leasts (fun vs H Q E h => ?_) (fun f cdv A outer s H vs Q E hr h => ?_)
  · obtain ⟨x, ns, W, b, e, rfl, _⟩ := h; rfl
  · obtain ⟨x, ns, W, b, e, rfl, rd, st, hl, q⟩ := h
    refine' ⟨_, ?tm, ?rd⟩
    (case tm =>
      (conv => { arg 2; whnf })
      refine' pss_one ?s0
      (case s0 =>
        exact (ps_ret (pe_methC (pe_fld (pv 0) (by rfl)) MLeastSums_within hr (pa_cons (pv 1) (pa_cons (pv 2) pa_nil))))))
    obtain ⟨dx, r, l, m, _, hx, cr, ls, lm⟩ := rd
    obtain ⟨dl, r1, e1, g1, hw, hll, rest⟩ := id ls
    exact ⟨_, rfl, x, C, dx, _, _, rfl, hx, rc.cls, rc.least_sums, rfl, l, dl, _, rfl, hll, rfl, _, rfl, _, rfl, l, ns, W, b, e, rfl, ls, st, hl, fun H1 s1 => q H1 s1⟩
end

section
variable {P : Program} {w : World} {K : PySem.W.Frag} {mg : Str → Option Value} {base : Heap} {C CL : Addr}
def xReady_greatests : { t : Stmt // inClass (top 21) 2 = t } := ⟨_, by conv => { lhs; whnf }⟩
abbrev sReady_greatests : Stmt := xReady_greatests.1
theorem scReady_greatests : FnScope ["self", "begin", "end"] ["self", "begin", "end"] (defScope sReady_greatests) := ⟨rfl, rfl, rfl, by decide +kernel, rfl, by decide +kernel, by decide +kernel⟩
theorem fn_greatests (B : Bl mg bls) (rc : RDC K C) (D : DefM K C "greatests" "Ready.greatests" sReady_greatests ["self", "begin", "end"]) (MLeastSums_within : MFn P w K mg base 5 CL "within" ["self", "begin", "end"] (spWithin CL)) :
    MFn P w K mg base 6 C "greatests" ["self", "begin", "end"] (spRd C CL fun l _ => sumSt l maxL) := by
  refine D.fn scReady_greatests (fun vs H Q E h => ?_) (fun f cdv A outer s H vs Q E hr h => ?_)
  · obtain ⟨x, ns, W, b, e, rfl, _⟩ := h; rfl
  · obtain ⟨x, ns, W, b, e, rfl, rd, st, hl, q⟩ := h
    refine' ⟨_, ?tm, ?rd⟩
    (case tm =>
      (conv => { arg 2; whnf })
      refine' pss_one ?s0
      (case s0 =>
        exact (ps_ret (pe_un un_neg (pe_methC (pe_fld (pv 0) (by rfl)) MLeastSums_within hr (pa_cons (pv 1) (pa_cons (pv 2) pa_nil)))))))
    obtain ⟨dx, r, l, m, _, hx, cr, ls, lm⟩ := rd
    obtain ⟨dl, r1, e1, g1, hw, hll, rest⟩ := id lm
    refine ⟨_, rfl, x, C, dx, _, _, rfl, hx, rc.cls, rc.negative_sums, rfl, m, dl, _, rfl, hll, rfl, _, rfl, _, rfl, m, _, W, b, e, rfl, lm, seg_lenP st (List.length_map ..), by rw [List.length_map]; exact hl, fun H1 s1 => ⟨_, rfl, ?_⟩⟩
    show Q (.int (-(sumSt (seg (ns.map fun n => -n) b e) minL))) H1
    rw [seg_negP]
    exact q H1 s1
end

section
variable {P : Program} {w : World} {K : PySem.W.Frag} {mg : Str → Option Value} {base : Heap} {C CL : Addr}
def xReady_spreads : { t : Stmt // inClass (top 21) 3 = t } := ⟨_, by conv => { lhs; whnf }⟩
abbrev sReady_spreads : Stmt := xReady_spreads.1
theorem scReady_spreads : FnScope ["self", "begin", "end"] ["self", "begin", "end"] (defScope sReady_spreads) := ⟨rfl, rfl, rfl, by decide +kernel, rfl, by decide +kernel, by decide +kernel⟩
theorem fn_spreads (B : Bl mg bls) (D : DefM K C "spreads" "Ready.spreads" sReady_spreads ["self", "begin", "end"]) (MReady_leasts : MFn P w K mg base 6 C "leasts" ["self", "begin", "end"] (spRd C CL fun l _ => sumSt l minL)) (MReady_greatests : MFn P w K mg base 6 C "greatests" ["self", "begin", "end"] (spRd C CL fun l _ => sumSt l maxL)) :
    MFn P w K mg base 7 C "spreads" ["self", "begin", "end"] (spRd C CL fun l _ => sumSt l maxL - sumSt l minL) := by
  refine D.fn scReady_spreads (fun vs H Q E h => ?_) (fun f cdv A outer s H vs Q E hr h => ?_)
  · obtain ⟨x, ns, W, b, e, rfl, _⟩ := h; rfl
  · obtain ⟨x, ns, W, b, e, rfl, rd, st, hl, q⟩ := h
    refine' ⟨_, ?tm, ?rd⟩
    (case tm =>
      (conv => { arg 2; whnf })
      refine' pss_one ?s0
      (case s0 =>
        exact (ps_ret (pe_op op_sub (pe_methC (pv 0) MReady_greatests hr (pa_cons (pv 1) (pa_cons (pv 2) pa_nil))) (pe_methC (pv 0) MReady_leasts hr (pa_cons (pv 1) (pa_cons (pv 2) pa_nil)))))))
    obtain ⟨dx, r, l, m, hw, hx, rest⟩ := id rd
    refine ⟨_, rfl, x, dx, _, rfl, hx, rfl, _, rfl, _, rfl, x, ns, W, b, e, rfl, rd, st, hl, fun H1 s1 => ?_⟩
    exact ⟨_, rfl, x, dx, _, rfl, s1 _ _ hx, rfl, _, rfl, _, rfl, x, ns, W, b, e, rfl, rd.same s1, st, hl, fun H2 s2 => ⟨_, _, rfl, rfl, q H2 (s1.trans s2)⟩⟩
end

section
variable {P : Program} {w : World} {K : PySem.W.Frag} {mg : Str → Option Value} {base : Heap} {C CL : Addr}
def xReady_least : { t : Stmt // inClass (top 21) 4 = t } := ⟨_, by conv => { lhs; whnf }⟩
abbrev sReady_least : Stmt := xReady_least.1
theorem scReady_least : FnScope ["self", "begin", "end"] ["self", "begin", "end"] (defScope sReady_least) := ⟨rfl, rfl, rfl, by decide +kernel, rfl, by decide +kernel, by decide +kernel⟩
theorem fn_least (B : Bl mg bls) (rc : RDC K C) (D : DefM K C "least" "Ready.least" sReady_least ["self", "begin", "end"]) (Fleast_of : Fn P w K mg base 4 "least_of" ["row", "begin", "end"] (spSeg K gLeast)) : MFn P w K mg base 5 C "least" ["self", "begin", "end"] (spRd C CL gLeast) := by
  refine D.fn scReady_least (fun vs H Q E h => ?_) (fun f cdv A outer s H vs Q E hr h => ?_)
  · obtain ⟨x, ns, W, b, e, rfl, _⟩ := h; rfl
  · obtain ⟨x, ns, W, b, e, rfl, rd, st, hl, q⟩ := h
    refine' ⟨_, ?tm, ?rd⟩
    (case tm =>
      (conv => { arg 2; whnf })
      refine' pss_one ?s0
      (case s0 =>
        exact (ps_ret (pe_fn Fleast_of hr (by rfl) (pa_cons (pe_fld (pv 0) (by rfl)) (pa_cons (pv 1) (pa_cons (pv 2) pa_nil)))))))
    obtain ⟨dx, r, l, m, _, hx, cr, ls, lm⟩ := rd
    exact ⟨_, rfl, x, C, dx, _, _, rfl, hx, rc.cls, rc.row, rfl, _, rfl, _, rfl, r, ns, b, e, rfl, SqL.of cr, st, fun H1 s1 => q H1 s1⟩
end

section
variable {P : Program} {w : World} {K : PySem.W.Frag} {mg : Str → Option Value} {base : Heap} {C CL : Addr}
def xReady_greatest : { t : Stmt // inClass (top 21) 5 = t } := ⟨_, by conv => { lhs; whnf }⟩
abbrev sReady_greatest : Stmt := xReady_greatest.1
theorem scReady_greatest : FnScope ["self", "begin", "end"] ["self", "begin", "end"] (defScope sReady_greatest) := ⟨rfl, rfl, rfl, by decide +kernel, rfl, by decide +kernel, by decide +kernel⟩
theorem fn_greatest (B : Bl mg bls) (rc : RDC K C) (D : DefM K C "greatest" "Ready.greatest" sReady_greatest ["self", "begin", "end"]) (Fgreatest_of : Fn P w K mg base 4 "greatest_of" ["row", "begin", "end"] (spSeg K gGreat)) : MFn P w K mg base 5 C "greatest" ["self", "begin", "end"] (spRd C CL gGreat) := by
  refine D.fn scReady_greatest (fun vs H Q E h => ?_) (fun f cdv A outer s H vs Q E hr h => ?_)
  · obtain ⟨x, ns, W, b, e, rfl, _⟩ := h; rfl
  · obtain ⟨x, ns, W, b, e, rfl, rd, st, hl, q⟩ := h
    refine' ⟨_, ?tm, ?rd⟩
    (case tm =>
      (conv => { arg 2; whnf })
      refine' pss_one ?s0
      (case s0 =>
        exact (ps_ret (pe_fn Fgreatest_of hr (by rfl) (pa_cons (pe_fld (pv 0) (by rfl)) (pa_cons (pv 1) (pa_cons (pv 2) pa_nil)))))))
    obtain ⟨dx, r, l, m, _, hx, cr, ls, lm⟩ := rd
    exact ⟨_, rfl, x, C, dx, _, _, rfl, hx, rc.cls, rc.row, rfl, _, rfl, _, rfl, r, ns, b, e, rfl, SqL.of cr, st, fun H1 s1 => q H1 s1⟩
end

section
variable {P : Program} {w : World} {K : PySem.W.Frag} {mg : Str → Option Value} {base : Heap} {C CL : Addr}
def xReady_first_least : { t : Stmt // inClass (top 21) 6 = t } := ⟨_, by conv => { lhs; whnf }⟩
abbrev sReady_first_least : Stmt := xReady_first_least.1
theorem scReady_first_least : FnScope ["self", "begin", "end"] ["self", "begin", "end"] (defScope sReady_first_least) := ⟨rfl, rfl, rfl, by decide +kernel, rfl, by decide +kernel, by decide +kernel⟩
theorem fn_first_least (B : Bl mg bls) (rc : RDC K C) (D : DefM K C "first_least" "Ready.first_least" sReady_first_least ["self", "begin", "end"]) (Fleast_place : Fn P w K mg base 4 "least_place" ["row", "begin", "end"] (spSeg K gPlace)) : MFn P w K mg base 5 C "first_least" ["self", "begin", "end"] (spRd C CL gPlace) := by
  refine D.fn scReady_first_least (fun vs H Q E h => ?_) (fun f cdv A outer s H vs Q E hr h => ?_)
  · obtain ⟨x, ns, W, b, e, rfl, _⟩ := h; rfl
  · obtain ⟨x, ns, W, b, e, rfl, rd, st, hl, q⟩ := h
    refine' ⟨_, ?tm, ?rd⟩
    (case tm =>
      (conv => { arg 2; whnf })
      refine' pss_one ?s0
      (case s0 =>
        exact (ps_ret (pe_fn Fleast_place hr (by rfl) (pa_cons (pe_fld (pv 0) (by rfl)) (pa_cons (pv 1) (pa_cons (pv 2) pa_nil)))))))
    obtain ⟨dx, r, l, m, _, hx, cr, ls, lm⟩ := rd
    exact ⟨_, rfl, x, C, dx, _, _, rfl, hx, rc.cls, rc.row, rfl, _, rfl, _, rfl, r, ns, b, e, rfl, SqL.of cr, st, fun H1 s1 => q H1 s1⟩
end

/-- Ready(xs), as the callers want it -/
theorem made_ready {K : PySem.W.Frag} {C CL : Addr} {H : Hp} {a x dx : Addr} {ns : List Int} {Q : VK} {E : XK} (nx : H x = none) (ndx : H dx = none) (nex : dx ≠ x) (hs : SqL K H a (ns.map V.int)) (hl : ns.length ≤ 300)
    (q : ∀ H' : Hp, Same H H' → RdAt C CL H' x ns (fun b => H b = none) → Q .non H') :
    spRDI K C CL [.ref x, .ref a] (upd (upd H dx (.own x)) x (.ins C dx [])) Q E := by
  have sl : Same H (upd (upd H dx (.own x)) x (.ins C dx [])) := (Same.new ndx).trans (Same.new (by rw [upd_ne nex.symm]; exact nx))
  exact ⟨x, a, dx, ns, rfl, upd_same, sl.seq hs, hl, fun H' k rd => q H' (Same.made' nx ndx k) (rd.imp fun b hb => made_new nx hb)⟩
theorem RdAt.obj {C CL x : Addr} {H : Hp} {ns : List Int} {W : Addr → Prop} (h : RdAt C CL H x ns W) : ∃ dx fs, H x = some (.ins C dx fs) ∧ ∀ m : Str, m ≠ "row" → m ≠ "least_sums" → m ≠ "negative_sums" → fs.lookup m = none := by
  obtain ⟨dx, r, l, m, _, hx, _⟩ := h
  refine ⟨dx, _, hx, fun s h1 h2 h3 => ?_⟩
  have b1 : (s == ("row" : Str)) = false := beq_eq_false_iff_ne.mpr h1
  have b2 : (s == ("least_sums" : Str)) = false := beq_eq_false_iff_ne.mpr h2
  have b3 : (s == ("negative_sums" : Str)) = false := beq_eq_false_iff_ne.mpr h3
  simp only [List.lookup, b1, b2, b3]

end Law

set_option Elab.async false
set_option linter.all false
set_option maxRecDepth 100000
set_option maxHeartbeats 4000000
namespace Law
open PySem L2
def Odd (K : PySem.W.Frag) (H : Hp) (v : V) : Prop := ∃ T : String, TyX K H v (.type T) ∧ T ∈ ["NoneType", "bool", "str", "list", "tuple", "dict", "ValueError"]
theorem Odd.same {K : PySem.W.Frag} {H H' : Hp} {v : V} (h : Odd K H v) (s : Same H H') : Odd K H' v := by
  obtain ⟨T, ty, m⟩ := h
  generalize e : Value.type T = t at ty
  refine ⟨T, ?_, m⟩
  rw [e]
  cases ty with
  | of ty =>
    refine .of ?_
    cases ty with
    | non => exact .non
    | bl x => exact .bl x
    | int i => exact .int i
    | str x => exact .str x
    | flt x => exact .flt x
    | lst c => exact .lst (s _ _ c)
    | frz c => exact .frz (s _ _ c)
    | tup c => exact .tup (s _ _ c)
    | dK c => exact .dK (s _ _ c)
    | dT c => exact .dT (s _ _ c)
    | ins c _ _ _ _ _ => cases e
  | verr c => exact .verr (s _ _ c)
def spWholeX (K : PySem.W.Frag) : Sp := fun vs H Q _ => ∃ (v : V) (b : Bool), vs = [v] ∧ ((∃ i : Int, v = .int i ∧ b = true) ∨ (Odd K H v ∧ b = false)) ∧ Q (.bl b) H
section
variable {P : Program} {w : World} {K : PySem.W.Frag} {mg : Str → Option Value} {base : Heap}
theorem fn_is_wholeX (B : Bl mg bls) (D : DefAt K mg "is_whole" sis_whole ["thing"]) : Fn P w K mg base 1 "is_whole" ["thing"] (spWholeX K) := by
  refine D.fn scis_whole (fun vs H Q E h => ?_) (fun f cdv A outer s H vs Q E hr h => ?_)
  · obtain ⟨i, b, rfl, _⟩ := h; rfl
  · obtain ⟨v, b, rfl, hv, q⟩ := h
    refine' ⟨_, ?tm, ?rd⟩
    (case tm =>
      (conv => { arg 2; whnf })
      refine' pss_one ?s0
      (case s0 =>
        exact (ps_ret (pe_and (pe_callB call_isinstX (by rfl) (B "isinstance" (by decide +kernel)) (by decide +kernel) (pa_cons (pv 0) (pa_cons (pe_bltn (v := .ty "int") (by rfl) (B "int" (by decide +kernel)) (by decide +kernel) rfl) pa_nil))) (pe_one (pe_not (pe_callB call_isinstX (by rfl) (B "isinstance" (by decide +kernel)) (by decide +kernel) (pa_cons (pv 0) (pa_cons (pe_bltn (v := .ty "bool") (by rfl) (B "bool" (by decide +kernel)) (by decide +kernel) rfl) pa_nil)))))))))
    rcases hv with ⟨i, rfl, rfl⟩ | ⟨⟨T, ty, m⟩, rfl⟩
    · refine ⟨_, rfl, _, _, _, true, rfl, .of (TyOf.int i), (by rfl), _, rfl, ?_⟩
      refine ⟨_, rfl, _, _, _, false, rfl, .of (TyOf.int i), (by rfl), _, rfl, q⟩
    · simp only [List.mem_cons, List.not_mem_nil, or_false] at m
      rcases m with rfl | rfl | rfl | rfl | rfl | rfl | rfl
      · exact ⟨_, rfl, _, _, _, false, rfl, ty, (by rfl), _, rfl, q⟩
      · refine ⟨_, rfl, _, _, _, true, rfl, ty, (by rfl), _, rfl, ?_⟩
        exact ⟨_, rfl, _, _, _, true, rfl, ty, (by rfl), _, rfl, q⟩
      all_goals exact ⟨_, rfl, _, _, _, false, rfl, ty, (by rfl), _, rfl, q⟩
end

def BadSt (K : PySem.W.Frag) (H : Hp) (n : Nat) (v1 v2 : V) : Prop := Odd K H v1 ∨ ((∃ b : Int, v1 = .int b) ∧ Odd K H v2) ∨ ∃ b e : Int, v1 = .int b ∧ v2 = .int e ∧ ¬ IsSt n b e
theorem BadSt.same {K : PySem.W.Frag} {H H' : Hp} {n : Nat} {v1 v2 : V} (h : BadSt K H n v1 v2) (s : Same H H') : BadSt K H' n v1 v2 := by
  rcases h with h | ⟨hb, h⟩ | h
  · exact .inl (h.same s)
  · exact .inr (.inl ⟨hb, h.same s⟩)
  · exact .inr (.inr h)
def spIsStX (K : PySem.W.Frag) : Sp := fun vs H Q _ => ∃ (a : Addr) (ns : List Int) (v1 v2 : V), vs = [.ref a, v1, v2] ∧ SqL K H a (ns.map V.int) ∧ BadSt K H ns.length v1 v2 ∧ Q (.bl false) H
def spNumsX (K : PySem.W.Frag) (CS : Addr) : Sp := fun vs H _ E => ∃ (a : Addr) (ns : List Int) (v1 v2 : V), vs = [.ref a, v1, v2] ∧ SqL K H a (ns.map V.int) ∧ BadSt K H ns.length v1 v2 ∧ E (.ref CS) none H
section
variable {P : Program} {w : World} {K : PySem.W.Frag} {mg : Str → Option Value} {base : Heap} {CS : Addr} {bmS : List Value}
theorem fn_is_stretchX (B : Bl mg bls) (D : DefAt K mg "is_stretch" sis_stretch ["row", "begin", "end"]) (Fis_whole : Fn P w K mg base 1 "is_whole" ["thing"] (spWholeX K)) : Fn P w K mg base 2 "is_stretch" ["row", "begin", "end"] (spIsStX K) := by
  refine D.fn scis_stretch (fun vs H Q E h => ?_) (fun f cdv A outer s H vs Q E hr h => ?_)
  · obtain ⟨a, ns, b, e, rfl, _⟩ := h; rfl
  · obtain ⟨a, ns, v1, v2, rfl, hs, bad, q⟩ := h
    refine' ⟨_, ?tm, ?rd⟩
    (case tm =>
      (conv => { arg 2; whnf })
      refine' pss_cons ?s0 ?r0
      (case s0 =>
        refine' ps_if ?c0 ?a0 ?b0
        (case c0 => exact (PW.pt (pw_or (pt_not (pt_val (pe_fn Fis_whole hr (by rfl) (pa_cons (pv 1) pa_nil)))) (pw_or1 (pt_not (pt_val (pe_fn Fis_whole hr (by rfl) (pa_cons (pv 2) pa_nil))))))))
        (case a0 =>
          refine' pss_one ?s0i
          (case s0i =>
            exact (ps_ret pe_bl)))
        (case b0 =>
          exact pss_nil))
      (case r0 =>
        refine' pss_one ?s0x
        (case s0x =>
          exact (ps_ret (pe_chain3 op_le op_lt op_le pe_int (pv 1) (pv 2) (pe_callB call_len_seq (by rfl) (B "len" (by decide +kernel)) (by decide +kernel) (pa_cons (pv 0) pa_nil)))))))
    rcases bad with od | ⟨⟨b, rfl⟩, od⟩ | ⟨b, e, rfl, rfl, nst⟩
    · exact ⟨_, rfl, _, false, rfl, .inr ⟨od, rfl⟩, _, rfl, q⟩
    · refine ⟨_, rfl, _, true, rfl, .inl ⟨b, rfl, rfl⟩, _, rfl, ?_⟩
      exact ⟨_, rfl, _, false, rfl, .inr ⟨od, rfl⟩, _, rfl, q⟩
    refine ⟨_, rfl, _, true, rfl, .inl ⟨b, rfl, rfl⟩, _, rfl, ?_⟩
    refine ⟨_, rfl, _, true, rfl, .inl ⟨e, rfl, rfl⟩, _, rfl, ?_⟩
    refine ⟨_, rfl, _, _, rfl, rfl, _, rfl, ?_⟩
    refine ite2 (fun h1 => ?_) (fun _ => q)
    refine ⟨_, rfl, _, _, rfl, rfl, _, rfl, ?_⟩
    refine ite2 (fun h2 => ?_) (fun _ => q)
    refine ⟨_, rfl, a, _, rfl, .inl hs, _, _, rfl, rfl, ?_⟩
    have e3 : decide (e ≤ (((ns.map V.int).length : Nat) : Int)) = false := decide_eq_false fun z => nst ⟨of_decide_eq_true h1, of_decide_eq_true h2, by rw [List.length_map] at z; exact z⟩
    show Q (.bl (decide (e ≤ (((ns.map V.int).length : Nat) : Int)))) H
    rw [e3]
    exact q
theorem fn_numbers_ofX (B : Bl mg bls) (er_NoStretch : Err K mg "NoStretch" CS bmS) (D : DefAt K mg "numbers_of" snumbers_of ["row", "begin", "end"]) (Fis_stretch : Fn P w K mg base 2 "is_stretch" ["row", "begin", "end"] (spIsStX K)) : FnX P w K mg base 3 "numbers_of" ["row", "begin", "end"] (spNumsX K CS) := by
  refine D.fnX scnumbers_of (fun vs H Q E h => ?_) (fun f cdv A outer s H vs Q E hr h => ?_)
  · obtain ⟨a, ns, b, e, rfl, _⟩ := h; rfl
  · obtain ⟨a, ns, v1, v2, rfl, hs, nst, q⟩ := h
    refine' ⟨_, ?tm, ?rd⟩
    (case tm =>
      (conv => { arg 2; whnf })
      refine' pss_cons ?s0 ?r0
      (case s0 =>
        refine' ps_if ?c0 ?a0 ?b0
        (case c0 => exact (pt_not (pt_val (pe_fn Fis_stretch hr (by rfl) (pa_cons (pv 0) (pa_cons (pv 1) (pa_cons (pv 2) pa_nil)))))))
        (case a0 =>
          refine' pss_one ?s0i
          (case s0i =>
            exact (ps_raise er_NoStretch hr.hd (by rfl))))
        (case b0 =>
          exact pss_nil))
      (case r0 =>
        refine' pss_one ?s0x
        (case s0x =>
          exact (ps_ret (pe_slice sl_list (pv 0) (po_some (pv 1)) (po_some (pv 2)))))))
    refine ⟨_, rfl, _, rfl, _, rfl, a, ns, v1, v2, rfl, hs, nst, _, rfl, ?_⟩
    exact q
theorem fn_least_placeX (B : Bl mg bls) (D : DefAt K mg "least_place" sleast_place ["row", "begin", "end"]) (FXnumbers_of : FnX P w K mg base 3 "numbers_of" ["row", "begin", "end"] (spNumsX K CS)) : FnX P w K mg base 4 "least_place" ["row", "begin", "end"] (spNumsX K CS) := by
  refine D.fnX scleast_place (fun vs H Q E h => ?_) (fun f cdv A outer s H vs Q E hr h => ?_)
  · obtain ⟨a, ns, b, e, rfl, _⟩ := h; rfl
  · obtain ⟨a, ns, v1, v2, rfl, hs, nst, q⟩ := h
    refine' ⟨_, ?tm, ?rd⟩
    (case tm =>
      (conv => { arg 2; whnf })
      refine' pss_cons ?s0 ?r0
      (case s0 =>
        exact (ps_set (i := 3) scleast_place.nd (by rfl) (by first | exact Or.inl rfl | exact Or.inr rfl) (pe_fnX FXnumbers_of hr (by rfl) passHere (pa_cons (pv 0) (pa_cons (pv 1) (pa_cons (pv 2) pa_nil))))))
      (case r0 =>
        refine' pss_one ?s0x
        (case s0x =>
          exact (ps_ret (pe_op op_add (pv 1) (pe_bm PySem.F.plainAttrs_list PySem.F.slot_list_index PySem.F.type_list_index mt_index (pv 3) (pa_cons (pe_callB (cr_min rfl) (by rfl) (B "min" (by decide +kernel)) (by decide +kernel) (pa_cons (pv 3) pa_nil)) pa_nil)))))))
    exact ⟨_, rfl, _, rfl, _, rfl, a, ns, v1, v2, rfl, hs, nst, q⟩
theorem fn_least_ofX (B : Bl mg bls) (D : DefAt K mg "least_of" sleast_of ["row", "begin", "end"]) (FXnumbers_of : FnX P w K mg base 3 "numbers_of" ["row", "begin", "end"] (spNumsX K CS)) : FnX P w K mg base 4 "least_of" ["row", "begin", "end"] (spNumsX K CS) := by
  refine D.fnX scleast_of (fun vs H Q E h => ?_) (fun f cdv A outer s H vs Q E hr h => ?_)
  · obtain ⟨a, ns, b, e, rfl, _⟩ := h; rfl
  · obtain ⟨a, ns, v1, v2, rfl, hs, nst, q⟩ := h
    refine' ⟨_, ?tm, ?rd⟩
    (case tm =>
      (conv => { arg 2; whnf })
      refine' pss_one ?s0
      (case s0 =>
        exact (ps_ret (pe_callB (cr_min rfl) (by rfl) (B "min" (by decide +kernel)) (by decide +kernel) (pa_cons (pe_fnX FXnumbers_of hr (by rfl) passHere (pa_cons (pv 0) (pa_cons (pv 1) (pa_cons (pv 2) pa_nil)))) pa_nil)))))
    exact ⟨_, rfl, _, rfl, _, rfl, a, ns, v1, v2, rfl, hs, nst, q⟩
theorem fn_greatest_ofX (B : Bl mg bls) (D : DefAt K mg "greatest_of" sgreatest_of ["row", "begin", "end"]) (FXnumbers_of : FnX P w K mg base 3 "numbers_of" ["row", "begin", "end"] (spNumsX K CS)) : FnX P w K mg base 4 "greatest_of" ["row", "begin", "end"] (spNumsX K CS) := by
  refine D.fnX scgreatest_of (fun vs H Q E h => ?_) (fun f cdv A outer s H vs Q E hr h => ?_)
  · obtain ⟨a, ns, b, e, rfl, _⟩ := h; rfl
  · obtain ⟨a, ns, v1, v2, rfl, hs, nst, q⟩ := h
    refine' ⟨_, ?tm, ?rd⟩
    (case tm =>
      (conv => { arg 2; whnf })
      refine' pss_one ?s0
      (case s0 =>
        exact (ps_ret (pe_callB (cr_max rfl) (by rfl) (B "max" (by decide +kernel)) (by decide +kernel) (pa_cons (pe_fnX FXnumbers_of hr (by rfl) passHere (pa_cons (pv 0) (pa_cons (pv 1) (pa_cons (pv 2) pa_nil)))) pa_nil)))))
    exact ⟨_, rfl, _, rfl, _, rfl, a, ns, v1, v2, rfl, hs, nst, q⟩
end
def spWithinX (K : PySem.W.Frag) (CL CS : Addr) : Sp := fun vs H _ E => ∃ (x : Addr) (ns : List Int) (W : Addr → Prop) (v1 v2 : V), vs = [.ref x, v1, v2] ∧ LSAt CL H x ns W ∧ BadSt K H ns.length v1 v2 ∧ E (.ref CS) none H
def spRdX (K : PySem.W.Frag) (C CL CS : Addr) : Sp := fun vs H _ E => ∃ (x : Addr) (ns : List Int) (W : Addr → Prop) (v1 v2 : V), vs = [.ref x, v1, v2] ∧ RdAt C CL H x ns W ∧ BadSt K H ns.length v1 v2 ∧ E (.ref CS) none H
section
variable {P : Program} {w : World} {K : PySem.W.Frag} {mg : Str → Option Value} {base : Heap} {C CL CS : Addr} {bmS : List Value}
theorem fn_withinX (B : Bl mg bls) (lc : LSC K CL) (D : DefM K CL "within" "LeastSums.within" sLeastSums_within ["self", "begin", "end"]) (FXleast_place : FnX P w K mg base 4 "least_place" ["row", "begin", "end"] (spNumsX K CS)) :
    MFnX P w K mg base 5 CL "within" ["self", "begin", "end"] (spWithinX K CL CS) := by
  refine D.fnX scLeastSums_within (fun vs H Q E h => ?_) (fun f cdv A outer s H vs Q E hr h => ?_)
  · obtain ⟨x, ns, W, b, e, rfl, _⟩ := h; rfl
  · obtain ⟨x, ns, W, v1, v2, rfl, ls, bad, q⟩ := h
    refine' ⟨_, ?tm, ?rd⟩
    (case tm =>
      (conv => { arg 2; whnf })
      refine' pss_cons ?s0 ?r0
      (case s0 =>
        exact (ps_set (i := 3) scLeastSums_within.nd (by rfl) (by first | exact Or.inl rfl | exact Or.inr rfl) (pe_fnX FXleast_place hr (by rfl) passHere (pa_cons (pe_fld (pv 0) (by rfl)) (pa_cons (pv 1) (pa_cons (pv 2) pa_nil))))))
      (case r0 =>
        refine' pss_cons ?s0x ?r0x
        (case s0x =>
          exact (ps_set (i := 4) scLeastSums_within.nd (by rfl) (by first | exact Or.inl rfl | exact Or.inr rfl) (pe_op op_add (pe_op op_sub (pv 3) (pv 1)) pe_int)))
        (case r0x =>
          refine' pss_cons ?s0xx ?r0xx
          (case s0xx =>
            exact (ps_set (i := 5) scLeastSums_within.nd (by rfl) (by first | exact Or.inl rfl | exact Or.inr rfl) (pe_op op_sub (pv 2) (pv 3))))
          (case r0xx =>
            refine' pss_cons ?s0xxx ?r0xxx
            (case s0xxx =>
              exact (ps_set (i := 6) scLeastSums_within.nd (by rfl) (by first | exact Or.inl rfl | exact Or.inr rfl) (pe_op op_sub (pe_callB (cr_sum rfl) (by rfl) (B "sum" (by decide +kernel)) (by decide +kernel) (pa_cons (pe_slice sl_list (pe_fld (pv 0) (by rfl)) (po_some (pe_op op_add (pv 3) pe_int)) (po_some (pe_op op_add (pv 2) pe_int))) pa_nil)) (pe_op op_mul (pv 5) (pe_ix ix_list (pe_fld (pv 0) (by rfl)) (pe_op op_add (pv 3) pe_int) (fun _ _ => rfl))))))
            (case r0xxx =>
              refine' pss_cons ?s0xxxx ?r0xxxx
              (case s0xxxx =>
                exact (ps_set (i := 7) scLeastSums_within.nd (by rfl) (by first | exact Or.inl rfl | exact Or.inr rfl) (pe_op op_sub (pe_callB (cr_sum rfl) (by rfl) (B "sum" (by decide +kernel)) (by decide +kernel) (pa_cons (pe_slice sl_list (pe_fld (pv 0) (by rfl)) (po_some (pv 1)) (po_some (pe_op op_add (pv 3) pe_int))) pa_nil)) (pe_op op_mul (pv 4) (pe_ix ix_list (pe_fld (pv 0) (by rfl)) (pv 3) (fun _ _ => rfl))))))
              (case r0xxxx =>
                refine' pss_one ?s0xxxxx
                (case s0xxxxx =>
                  exact (ps_ret (pe_op op_add (pe_op op_add (pv 7) (pe_op op_mul (pe_op op_mul (pe_ix ix_list (pe_fld (pv 0) (by rfl)) (pv 3) (fun _ _ => rfl)) (pv 4)) (pv 5))) (pv 6))))))))))
    obtain ⟨dx, r, pe, pg, _, hx, cr, ce, cg⟩ := ls
    exact ⟨_, rfl, x, CL, dx, _, _, rfl, hx, lc.cls, lc.row, rfl, _, rfl, _, rfl, r, ns, _, _, rfl, SqL.of cr, bad, q⟩
theorem fn_leastsX (B : Bl mg bls) (rc : RDC K C) (D : DefM K C "leasts" "Ready.leasts" sReady_leasts ["self", "begin", "end"]) (MXLeastSums_within : MFnX P w K mg base 5 CL "within" ["self", "begin", "end"] (spWithinX K CL CS)) :
    MFnX P w K mg base 6 C "leasts" ["self", "begin", "end"] (spRdX K C CL CS) := by
  refine D.fnX scReady_leasts (fun vs H Q E h => ?_) (fun f cdv A outer s H vs Q E hr h => ?_)
  · obtain ⟨x, ns, W, b, e, rfl, _⟩ := h; rfl
  · obtain ⟨x, ns, W, b, e, rfl, rd, nst, q⟩ := h
    refine' ⟨_, ?tm, ?rd⟩
    (case tm =>
      (conv => { arg 2; whnf })
      refine' pss_one ?s0
      (case s0 =>
        exact (ps_ret (pe_methX (pe_fld (pv 0) (by rfl)) MXLeastSums_within hr passHere (pa_cons (pv 1) (pa_cons (pv 2) pa_nil))))))
    obtain ⟨dx, r, l, m, _, hx, cr, ls, lm⟩ := rd
    obtain ⟨dl, r1, e1, g1, hw, hll, rest⟩ := id ls
    exact ⟨_, rfl, x, C, dx, _, _, rfl, hx, rc.cls, rc.least_sums, rfl, l, dl, _, rfl, hll, rfl, _, rfl, _, rfl, l, ns, W, b, e, rfl, ls, nst, q⟩
theorem fn_greatestsX (B : Bl mg bls) (rc : RDC K C) (D : DefM K C "greatests" "Ready.greatests" sReady_greatests ["self", "begin", "end"]) (MXLeastSums_within : MFnX P w K mg base 5 CL "within" ["self", "begin", "end"] (spWithinX K CL CS)) :
    MFnX P w K mg base 6 C "greatests" ["self", "begin", "end"] (spRdX K C CL CS) := by
  refine D.fnX scReady_greatests (fun vs H Q E h => ?_) (fun f cdv A outer s H vs Q E hr h => ?_)
  · obtain ⟨x, ns, W, b, e, rfl, _⟩ := h; rfl
  · obtain ⟨x, ns, W, b, e, rfl, rd, nst, q⟩ := h
    refine' ⟨_, ?tm, ?rd⟩
    (case tm =>
      (conv => { arg 2; whnf })
      refine' pss_one ?s0
      (case s0 =>
        exact (ps_ret (pe_un un_neg (pe_methX (pe_fld (pv 0) (by rfl)) MXLeastSums_within hr passHere (pa_cons (pv 1) (pa_cons (pv 2) pa_nil)))))))
    obtain ⟨dx, r, l, m, _, hx, cr, ls, lm⟩ := rd
    obtain ⟨dl, r1, e1, g1, hw, hll, rest⟩ := id lm
    exact ⟨_, rfl, x, C, dx, _, _, rfl, hx, rc.cls, rc.negative_sums, rfl, m, dl, _, rfl, hll, rfl, _, rfl, _, rfl, m, _, W, b, e, rfl, lm, by rw [List.length_map]; exact nst, q⟩
theorem fn_spreadsX (B : Bl mg bls) (D : DefM K C "spreads" "Ready.spreads" sReady_spreads ["self", "begin", "end"]) (MXReady_leasts : MFnX P w K mg base 6 C "leasts" ["self", "begin", "end"] (spRdX K C CL CS)) (MXReady_greatests : MFnX P w K mg base 6 C "greatests" ["self", "begin", "end"] (spRdX K C CL CS)) :
    MFnX P w K mg base 7 C "spreads" ["self", "begin", "end"] (spRdX K C CL CS) := by
  refine D.fnX scReady_spreads (fun vs H Q E h => ?_) (fun f cdv A outer s H vs Q E hr h => ?_)
  · obtain ⟨x, ns, W, b, e, rfl, _⟩ := h; rfl
  · obtain ⟨x, ns, W, b, e, rfl, rd, nst, q⟩ := h
    refine' ⟨_, ?tm, ?rd⟩
    (case tm =>
      (conv => { arg 2; whnf })
      refine' pss_one ?s0
      (case s0 =>
        exact (ps_ret (pe_op op_sub (pe_methX (pv 0) MXReady_greatests hr passHere (pa_cons (pv 1) (pa_cons (pv 2) pa_nil))) (pe_methX (pv 0) MXReady_leasts hr passHere (pa_cons (pv 1) (pa_cons (pv 2) pa_nil)))))))
    obtain ⟨dx, r, l, m, _, hx, cr, ls, lm⟩ := id rd
    exact ⟨_, rfl, x, dx, _, rfl, hx, rfl, _, rfl, _, rfl, x, ns, W, b, e, rfl, rd, nst, q⟩
theorem fn_leastX (B : Bl mg bls) (rc : RDC K C) (D : DefM K C "least" "Ready.least" sReady_least ["self", "begin", "end"]) (FXleast_of : FnX P w K mg base 4 "least_of" ["row", "begin", "end"] (spNumsX K CS)) :
    MFnX P w K mg base 5 C "least" ["self", "begin", "end"] (spRdX K C CL CS) := by
  refine D.fnX scReady_least (fun vs H Q E h => ?_) (fun f cdv A outer s H vs Q E hr h => ?_)
  · obtain ⟨x, ns, W, b, e, rfl, _⟩ := h; rfl
  · obtain ⟨x, ns, W, b, e, rfl, rd, nst, q⟩ := h
    refine' ⟨_, ?tm, ?rd⟩
    (case tm =>
      (conv => { arg 2; whnf })
      refine' pss_one ?s0
      (case s0 =>
        exact (ps_ret (pe_fnX FXleast_of hr (by rfl) passHere (pa_cons (pe_fld (pv 0) (by rfl)) (pa_cons (pv 1) (pa_cons (pv 2) pa_nil)))))))
    obtain ⟨dx, r, l, m, _, hx, cr, ls, lm⟩ := rd
    exact ⟨_, rfl, x, C, dx, _, _, rfl, hx, rc.cls, rc.row, rfl, _, rfl, _, rfl, r, ns, b, e, rfl, SqL.of cr, nst, q⟩
theorem fn_greatestX (B : Bl mg bls) (rc : RDC K C) (D : DefM K C "greatest" "Ready.greatest" sReady_greatest ["self", "begin", "end"]) (FXgreatest_of : FnX P w K mg base 4 "greatest_of" ["row", "begin", "end"] (spNumsX K CS)) :
    MFnX P w K mg base 5 C "greatest" ["self", "begin", "end"] (spRdX K C CL CS) := by
  refine D.fnX scReady_greatest (fun vs H Q E h => ?_) (fun f cdv A outer s H vs Q E hr h => ?_)
  · obtain ⟨x, ns, W, b, e, rfl, _⟩ := h; rfl
  · obtain ⟨x, ns, W, b, e, rfl, rd, nst, q⟩ := h
    refine' ⟨_, ?tm, ?rd⟩
    (case tm =>
      (conv => { arg 2; whnf })
      refine' pss_one ?s0
      (case s0 =>
        exact (ps_ret (pe_fnX FXgreatest_of hr (by rfl) passHere (pa_cons (pe_fld (pv 0) (by rfl)) (pa_cons (pv 1) (pa_cons (pv 2) pa_nil)))))))
    obtain ⟨dx, r, l, m, _, hx, cr, ls, lm⟩ := rd
    exact ⟨_, rfl, x, C, dx, _, _, rfl, hx, rc.cls, rc.row, rfl, _, rfl, _, rfl, r, ns, b, e, rfl, SqL.of cr, nst, q⟩
theorem fn_first_leastX (B : Bl mg bls) (rc : RDC K C) (D : DefM K C "first_least" "Ready.first_least" sReady_first_least ["self", "begin", "end"]) (FXleast_place : FnX P w K mg base 4 "least_place" ["row", "begin", "end"] (spNumsX K CS)) :
    MFnX P w K mg base 5 C "first_least" ["self", "begin", "end"] (spRdX K C CL CS) := by
  refine D.fnX scReady_first_least (fun vs H Q E h => ?_) (fun f cdv A outer s H vs Q E hr h => ?_)
  · obtain ⟨x, ns, W, b, e, rfl, _⟩ := h; rfl
  · obtain ⟨x, ns, W, b, e, rfl, rd, nst, q⟩ := h
    refine' ⟨_, ?tm, ?rd⟩
    (case tm =>
      (conv => { arg 2; whnf })
      refine' pss_one ?s0
      (case s0 =>
        exact (ps_ret (pe_fnX FXleast_place hr (by rfl) passHere (pa_cons (pe_fld (pv 0) (by rfl)) (pa_cons (pv 1) (pa_cons (pv 2) pa_nil)))))))
    obtain ⟨dx, r, l, m, _, hx, cr, ls, lm⟩ := rd
    exact ⟨_, rfl, x, C, dx, _, _, rfl, hx, rc.cls, rc.row, rfl, _, rfl, _, rfl, r, ns, b, e, rfl, SqL.of cr, nst, q⟩
end

end Law

set_option Elab.async false
set_option linter.all false
set_option maxRecDepth 100000
set_option maxHeartbeats 4000000
namespace Law
open PySem L2
theorem kit_no {K : PySem.W.Frag} {C S D : Addr} (e : ErrAt K C (.ref S :: bmVE)) (e' : ErrAt K D (.ref S :: bmVE)) (n1 : C ≠ D) (n2 : S ≠ D) : PySem.W.kitOne K (.ref C) (.ref D) = some false := by
  rw [kit_err e e']
  have h1 : ((Value.ref D : Value) == .ref C) = false := beq_eq_false_iff_ne.mpr fun z => n1 (Value.ref.inj z).symm
  have h2 : ((Value.ref D : Value) == .ref S) = false := beq_eq_false_iff_ne.mpr fun z => n2 (Value.ref.inj z).symm
  simp only [List.contains_cons, h1, h2]
  rfl
theorem kit_self {K : PySem.W.Frag} {C : Addr} {bm : List Value} (e : ErrAt K C bm) : PySem.W.kitOne K (.ref C) (.ref C) = some true := by
  rw [kit_err e e]; simp
theorem kit_ve {K : PySem.W.Frag} {C S : Addr} (e : ErrAt K C (.ref S :: bmVE)) : PySem.W.kitOne K (.ref C) (.type "ValueError") = some true := by
  rw [kit_errT e (by decide +kernel)]; rfl

section
variable {P : Program} {w : World} {K : PySem.W.Frag} {mg : Str → Option Value} {base : Heap} {S CP C1 C2 C3 C4 C5 : Addr} {bmS : List Value}
def x_law_just : { t : Stmt // top 31 = t } := ⟨_, by conv => { lhs; whnf }⟩
abbrev s_law_just : Stmt := x_law_just.1
theorem sc_law_just : FnScope ["caught", "at", "told", "k"] ["caught", "at"] (defScope s_law_just) := ⟨rfl, rfl, rfl, by decide +kernel, rfl, by decide +kernel, by decide +kernel⟩
theorem fn_just (B : Bl mg bls) (er_NoStretch : Err K mg "NoStretch" CP (.ref S :: bmVE)) (er_NoCommand : Err K mg "NoCommand" C1 (.ref S :: bmVE)) (er_NoMany : Err K mg "NoMany" C2 (.ref S :: bmVE)) (er_NoNumber : Err K mg "NoNumber" C3 (.ref S :: bmVE)) (er_NoPlace : Err K mg "NoPlace" C4 (.ref S :: bmVE)) (er_NoText : Err K mg "NoText" C5 (.ref S :: bmVE)) (qp : ErrQ K CP) (nd : [S, CP, C1, C2, C3, C4, C5].Nodup) (D : DefAt K mg "_law_just" s_law_just ["caught", "at"]) : Fn P w K mg base 1 "_law_just" ["caught", "at"] (fun vs H Q _ => ∃ y : Addr, vs = [.ref y, .int 0] ∧ H y = some (errO y CP) ∧ ∀ H', Same H H' → Q (.bl true) H') := by
  refine D.fn sc_law_just (fun vs H Q E h => ?_) (fun f cdv A outer s H vs Q E hr h => ?_)
  · obtain ⟨y, rfl, _⟩ := h; rfl
  · obtain ⟨y, rfl, cy, q⟩ := h
    refine' ⟨_, ?tm, ?rd⟩
    (case tm =>
      (conv => { arg 2; whnf })
      refine' pss_cons ?s0 ?r0
      (case s0 =>
        exact (ps_set (i := 2) sc_law_just.nd (by rfl) (by first | exact Or.inl rfl | exact Or.inr rfl) (pe_lst (pa_cons (pe_callB call_isinstE (by rfl) (B "isinstance" (by decide +kernel)) (by decide +kernel) (pa_cons (pv 0) (pa_cons (pe_glob (v := .ref _) (by rfl) er_NoStretch.1 rfl) pa_nil))) (pa_cons (pe_callB call_isinstE (by rfl) (B "isinstance" (by decide +kernel)) (by decide +kernel) (pa_cons (pv 0) (pa_cons (pe_glob (v := .ref _) (by rfl) er_NoPlace.1 rfl) pa_nil))) (pa_cons (pe_callB call_isinstE (by rfl) (B "isinstance" (by decide +kernel)) (by decide +kernel) (pa_cons (pv 0) (pa_cons (pe_glob (v := .ref _) (by rfl) er_NoNumber.1 rfl) pa_nil))) pa_nil))))))
      (case r0 =>
        refine' pss_cons ?s0x ?r0x
        (case s0x =>
          exact (ps_set (i := 2) sc_law_just.nd (by rfl) (by first | exact Or.inl rfl | exact Or.inr rfl) (pe_op op_cat (pv 2) (pe_lst (pa_cons (pe_callB call_isinstE (by rfl) (B "isinstance" (by decide +kernel)) (by decide +kernel) (pa_cons (pv 0) (pa_cons (pe_glob (v := .ref _) (by rfl) er_NoMany.1 rfl) pa_nil))) (pa_cons (pe_callB call_isinstE (by rfl) (B "isinstance" (by decide +kernel)) (by decide +kernel) (pa_cons (pv 0) (pa_cons (pe_glob (v := .ref _) (by rfl) er_NoText.1 rfl) pa_nil))) (pa_cons (pe_callB call_isinstE (by rfl) (B "isinstance" (by decide +kernel)) (by decide +kernel) (pa_cons (pv 0) (pa_cons (pe_glob (v := .ref _) (by rfl) er_NoCommand.1 rfl) pa_nil))) pa_nil)))))))
        (case r0x =>
          refine' pss_one ?s0xx
          (case s0xx =>
            exact (ps_ret (pe_and (pe_callB call_isinstE (by rfl) (B "isinstance" (by decide +kernel)) (by decide +kernel) (pa_cons (pv 0) (pa_cons (pe_bltn (v := .ty "ValueError") (by rfl) (B "ValueError" (by decide +kernel)) (by decide +kernel) rfl) pa_nil))) (pe_one (pe_cmpR (op_eqD hr.units) (pv 2) (pe_lc (own := [("k", 3)]) (g := (gName 3)) (by rfl) sc_law_just.nd (pi_range1 (by rfl) (B "range" (by decide +kernel)) (pa_cons pe_int pa_nil)) (blkOk_by (own := [("k", 3)]) (N := ["caught", "at", "told", "k"]) (sc := defScope s_law_just) (by decide +kernel)) (fun _ _ _ _ _ => (pg_name (i := 3) sc_law_just.nd (by rfl) (by first | exact Or.inl rfl | exact Or.inr rfl))) (fun _ _ _ _ _ => pts_nil) (fun _ _ _ _ _ => (pe_cmpR op_eq (pv 3) (pv 1) (nomark _)))) (nomark _)))))))))
    simp only [List.nodup_cons, List.mem_cons, List.not_mem_nil, or_false, not_or] at nd
    obtain ⟨⟨a1, a2, a3, a4, a5, a6⟩, ⟨b1, b2, b3, b4, b5⟩, _⟩ := nd
    have eX := er_NoStretch.2
    refine ⟨_, rfl, y, CP, _, _, true, rfl, cy, eX, qp, .inr (.inl ⟨CP, rfl, kit_self eX⟩), _, rfl, y, CP, _, _, false, rfl, cy, eX, qp, .inr (.inl ⟨C4, rfl, kit_no eX er_NoPlace.2 b4 a5⟩), _, rfl, y, CP, _, _, false, rfl, cy, eX, qp, .inr (.inl ⟨C3, rfl, kit_no eX er_NoNumber.2 b3 a4⟩), (by show 3 ≤ sizeLine; decide), fun L1 hL1 => ?_⟩
    have s1 := Same.new (o := .lst [.bl true, .bl false, .bl false]) hL1
    have c1 : upd H L1 (.lst [.bl true, .bl false, .bl false]) L1 = some (.lst [.bl true, .bl false, .bl false]) := upd_same
    generalize upd H L1 (.lst [.bl true, .bl false, .bl false]) = H1 at s1 c1 ⊢
    have cy1 := s1 _ _ cy
    dsimp only [gName]
    refine ⟨_, rfl, _, rfl, y, CP, _, _, false, rfl, cy1, eX, qp, .inr (.inl ⟨C2, rfl, kit_no eX er_NoMany.2 b2 a3⟩), _, rfl, y, CP, _, _, false, rfl, cy1, eX, qp, .inr (.inl ⟨C5, rfl, kit_no eX er_NoText.2 b5 a6⟩), _, rfl, y, CP, _, _, false, rfl, cy1, eX, qp, .inr (.inl ⟨C1, rfl, kit_no eX er_NoCommand.2 b1 a2⟩), (by show 3 ≤ sizeLine; decide), fun L2 hL2 => ?_⟩
    have s2 := Same.new (o := .lst [.bl false, .bl false, .bl false]) hL2
    have c2 : upd H1 L2 (.lst [.bl false, .bl false, .bl false]) L2 = some (.lst [.bl false, .bl false, .bl false]) := upd_same
    generalize upd H1 L2 (.lst [.bl false, .bl false, .bl false]) = H2 at s2 c2 ⊢
    refine ⟨L1, L2, _, _, rfl, rfl, s2 _ _ c1, c2, (by show 6 ≤ sizeLine; decide), fun L3 hL3 => ?_⟩
    have s3 := Same.new (o := .lst ([.bl true, .bl false, .bl false] ++ [.bl false, .bl false, .bl false])) hL3
    have c3 : upd H2 L3 (.lst ([.bl true, .bl false, .bl false] ++ [.bl false, .bl false, .bl false])) L3 = some (.lst [.bl true, .bl false, .bl false, .bl false, .bl false, .bl false]) := upd_same
    generalize upd H2 L3 (.lst ([.bl true, .bl false, .bl false] ++ [.bl false, .bl false, .bl false])) = H3 at s3 c3 ⊢
    have s13 := s1.trans (s2.trans s3)
    have cy3 := s13 _ _ cy
    dsimp only [gName]
    refine ⟨_, rfl, y, CP, _, _, true, rfl, cy3, eX, qp, .inl ⟨_, rfl, kit_ve eX⟩, _, rfl, ?_⟩
    refine ⟨_, rfl, _, rfl, by decide, by decide, fun G hG => lc_range (lo := 0) (n := 6) (fun j H' => H' G = some (.lst ((List.range j).map fun k => V.bl (decide (k = 0)))) ∧ Same H3 H') ⟨upd_same, Same.new hG⟩ ?_ ?_⟩
    · rintro j H' hj ⟨cG, sG⟩
      refine ⟨rfl, _, rfl, _, rfl, rfl, _, cG, ?_, ?_, sG.at hG⟩
      · rw [List.length_map, List.length_range]
        have e : sizeLine = 16777216 := sizeLine_eq
        omega
      · rw [upd_same, List.range_succ, List.map_append]
        have ej : V.bl (decide (V.int (0 + (j : Nat)) = V.int 0)) = V.bl (decide (j = 0)) := by
          by_cases z : j = 0
          · subst z; rfl
          · rw [decide_eq_false z, decide_eq_false]
            intro y
            have := V.int.inj y
            omega
        rw [ej]
        rfl
    rintro H4 ⟨cG, s4⟩
    have eG : ((List.range 6).map fun k => V.bl (decide (k = 0))) = [.bl true, .bl false, .bl false, .bl false, .bl false, .bl false] := rfl
    rw [eG] at cG
    refine ⟨.list [.bool true, .bool false, .bool false, .bool false, .bool false, .bool false], .list [.bool true, .bool false, .bool false, .bool false, .bool false, .bool false], .lst (SqL.of (s4 _ _ c3)) (.cons (.bl _) (.cons (.bl _) (.cons (.bl _) (.cons (.bl _) (.cons (.bl _) (.cons (.bl _) .nil)))))), .lst (SqL.of cG) (.cons (.bl _) (.cons (.bl _) (.cons (.bl _) (.cons (.bl _) (.cons (.bl _) (.cons (.bl _) .nil)))))), by decide, by decide, ?_⟩
    have en : PyData.eqv (.list [.bool true, .bool false, .bool false, .bool false, .bool false, .bool false]) (.list [.bool true, .bool false, .bool false, .bool false, .bool false, .bool false]) = true := by decide
    rw [en]
    exact q _ (s13.trans s4)
abbrev spJust (CP : Addr) : Sp := fun vs H Q _ => ∃ y : Addr, vs = [.ref y, .int 0] ∧ H y = some (errO y CP) ∧ ∀ H', Same H H' → Q (.bl true) H'
end

/-- of a part: by six ways -/
def ask6 (ns : List Int) (b e : Int) (way : Int) : Int := if way = 0 then sumSt (seg ns b e) minL else if way = 1 then sumSt (seg ns b e) maxL else if way = 2 then sumSt (seg ns b e) maxL - sumSt (seg ns b e) minL else if way = 3 then gLeast (seg ns b e) b else if way = 4 then gGreat (seg ns b e) b else gPlace (seg ns b e) b
def spAsk6 (C CL : Addr) : Sp := fun vs H Q _ => ∃ (x : Addr) (ns : List Int) (W : Addr → Prop) (way b e : Int), vs = [.ref x, .int way, .int b, .int e] ∧ RdAt C CL H x ns W ∧ IsSt ns.length b e ∧ ns.length ≤ 300 ∧ ∀ H', Same H H' → Q (.int (ask6 ns b e way)) H'
def spAsk6X (K : PySem.W.Frag) (C CL CS : Addr) : Sp := fun vs H _ E => ∃ (x : Addr) (ns : List Int) (W : Addr → Prop) (way : Int) (v1 v2 : V), vs = [.ref x, .int way, v1, v2] ∧ RdAt C CL H x ns W ∧ BadSt K H ns.length v1 v2 ∧ E (.ref CS) none H
def spRef6 (K : PySem.W.Frag) (C CL : Addr) : Sp := fun vs H Q _ => ∃ (x : Addr) (ns : List Int) (W : Addr → Prop) (way : Int) (v1 v2 : V), vs = [.ref x, .int way, v1, v2] ∧ RdAt C CL H x ns W ∧ BadSt K H ns.length v1 v2 ∧ ∀ H', Same H H' → Q (.bl true) H'
section
variable {P : Program} {w : World} {K : PySem.W.Frag} {mg : Str → Option Value} {base : Heap} {C CL S CP : Addr} {bmS : List Value}
def x_law_asked : { t : Stmt // top 32 = t } := ⟨_, by conv => { lhs; whnf }⟩
abbrev s_law_asked : Stmt := x_law_asked.1
theorem sc_law_asked : FnScope ["ready", "way", "begin", "end"] ["ready", "way", "begin", "end"] (defScope s_law_asked) := ⟨rfl, rfl, rfl, by decide +kernel, rfl, by decide +kernel, by decide +kernel⟩
theorem fn_asked6 (B : Bl mg bls) (D : DefAt K mg "_law_asked" s_law_asked ["ready", "way", "begin", "end"]) (MReady_leasts : MFn P w K mg base 6 C "leasts" ["self", "begin", "end"] (spRd C CL fun l _ => sumSt l minL)) (MReady_greatests : MFn P w K mg base 6 C "greatests" ["self", "begin", "end"] (spRd C CL fun l _ => sumSt l maxL)) (MReady_spreads : MFn P w K mg base 7 C "spreads" ["self", "begin", "end"] (spRd C CL fun l _ => sumSt l maxL - sumSt l minL)) (MReady_least : MFn P w K mg base 5 C "least" ["self", "begin", "end"] (spRd C CL gLeast)) (MReady_greatest : MFn P w K mg base 5 C "greatest" ["self", "begin", "end"] (spRd C CL gGreat)) (MReady_first_least : MFn P w K mg base 5 C "first_least" ["self", "begin", "end"] (spRd C CL gPlace)) : Fn P w K mg base 8 "_law_asked" ["ready", "way", "begin", "end"] (spAsk6 C CL) := by
  refine D.fn sc_law_asked (fun vs H Q E h => ?_) (fun f cdv A outer s H vs Q E hr h => ?_)
  · obtain ⟨x, ns, W, way, b, e, rfl, _⟩ := h; rfl
  · obtain ⟨x, ns, W, way, b, e, rfl, rd, hst, hl, q⟩ := h
    refine' ⟨_, ?tm, ?rd⟩
    (case tm =>
      (conv => { arg 2; whnf })
      refine' pss_cons ?s0 ?r0
      (case s0 =>
        refine' ps_if ?c0 ?a0 ?b0
        (case c0 => exact (pt_cmpR op_eq (pv 1) pe_int (nomark _)))
        (case a0 =>
          refine' pss_one ?s0i
          (case s0i =>
            exact (ps_ret (pe_methC (pv 0) MReady_leasts hr (pa_cons (pv 2) (pa_cons (pv 3) pa_nil))))))
        (case b0 =>
          exact pss_nil))
      (case r0 =>
        refine' pss_cons ?s0x ?r0x
        (case s0x =>
          refine' ps_if ?c0x ?a0x ?b0x
          (case c0x => exact (pt_cmpR op_eq (pv 1) pe_int (nomark _)))
          (case a0x =>
            refine' pss_one ?s0xi
            (case s0xi =>
              exact (ps_ret (pe_methC (pv 0) MReady_greatests hr (pa_cons (pv 2) (pa_cons (pv 3) pa_nil))))))
          (case b0x =>
            exact pss_nil))
        (case r0x =>
          refine' pss_cons ?s0xx ?r0xx
          (case s0xx =>
            refine' ps_if ?c0xx ?a0xx ?b0xx
            (case c0xx => exact (pt_cmpR op_eq (pv 1) pe_int (nomark _)))
            (case a0xx =>
              refine' pss_one ?s0xxi
              (case s0xxi =>
                exact (ps_ret (pe_methC (pv 0) MReady_spreads hr (pa_cons (pv 2) (pa_cons (pv 3) pa_nil))))))
            (case b0xx =>
              exact pss_nil))
          (case r0xx =>
            refine' pss_cons ?s0xxx ?r0xxx
            (case s0xxx =>
              refine' ps_if ?c0xxx ?a0xxx ?b0xxx
              (case c0xxx => exact (pt_cmpR op_eq (pv 1) pe_int (nomark _)))
              (case a0xxx =>
                refine' pss_one ?s0xxxi
                (case s0xxxi =>
                  exact (ps_ret (pe_methC (pv 0) MReady_least hr (pa_cons (pv 2) (pa_cons (pv 3) pa_nil))))))
              (case b0xxx =>
                exact pss_nil))
            (case r0xxx =>
              refine' pss_cons ?s0xxxx ?r0xxxx
              (case s0xxxx =>
                refine' ps_if ?c0xxxx ?a0xxxx ?b0xxxx
                (case c0xxxx => exact (pt_cmpR op_eq (pv 1) pe_int (nomark _)))
                (case a0xxxx =>
                  refine' pss_one ?s0xxxxi
                  (case s0xxxxi =>
                    exact (ps_ret (pe_methC (pv 0) MReady_greatest hr (pa_cons (pv 2) (pa_cons (pv 3) pa_nil))))))
                (case b0xxxx =>
                  exact pss_nil))
              (case r0xxxx =>
                refine' pss_one ?s0xxxxx
                (case s0xxxxx =>
                  exact (ps_ret (pe_methC (pv 0) MReady_first_least hr (pa_cons (pv 2) (pa_cons (pv 3) pa_nil)))))))))))
    have hw : ∀ {k : Int}, decide (V.int way = V.int k) = true → way = k := fun {k} z => V.int.inj (of_decide_eq_true z)
    have hnw : ∀ {k : Int}, ¬ decide (V.int way = V.int k) = true → way ≠ k := fun {k} z y => z (by rw [y]; exact decide_eq_true rfl)
    obtain ⟨dx, fs, ox, lk⟩ := rd.obj
    have n1 := lk "leasts" (by decide) (by decide) (by decide)
    have n2 := lk "greatests" (by decide) (by decide) (by decide)
    have n3 := lk "spreads" (by decide) (by decide) (by decide)
    have n4 := lk "least" (by decide) (by decide) (by decide)
    have n5 := lk "greatest" (by decide) (by decide) (by decide)
    have n6 := lk "first_least" (by decide) (by decide) (by decide)
    unfold ask6 at q
    refine ⟨_, rfl, rfl, _, rfl, ite2 (fun z0 => ?_) (fun z0 => ?_)⟩
    · rw [if_pos (hw z0)] at q
      exact ⟨_, rfl, x, dx, fs, rfl, ox, n1, _, rfl, _, rfl, x, ns, W, b, e, rfl, rd, hst, hl, q⟩
    rw [if_neg (hnw z0)] at q
    refine ⟨_, rfl, rfl, _, rfl, ite2 (fun z0 => ?_) (fun z0 => ?_)⟩
    · rw [if_pos (hw z0)] at q
      exact ⟨_, rfl, x, dx, fs, rfl, ox, n2, _, rfl, _, rfl, x, ns, W, b, e, rfl, rd, hst, hl, q⟩
    rw [if_neg (hnw z0)] at q
    refine ⟨_, rfl, rfl, _, rfl, ite2 (fun z0 => ?_) (fun z0 => ?_)⟩
    · rw [if_pos (hw z0)] at q
      exact ⟨_, rfl, x, dx, fs, rfl, ox, n3, _, rfl, _, rfl, x, ns, W, b, e, rfl, rd, hst, hl, q⟩
    rw [if_neg (hnw z0)] at q
    refine ⟨_, rfl, rfl, _, rfl, ite2 (fun z0 => ?_) (fun z0 => ?_)⟩
    · rw [if_pos (hw z0)] at q
      exact ⟨_, rfl, x, dx, fs, rfl, ox, n4, _, rfl, _, rfl, x, ns, W, b, e, rfl, rd, hst, hl, q⟩
    rw [if_neg (hnw z0)] at q
    refine ⟨_, rfl, rfl, _, rfl, ite2 (fun z0 => ?_) (fun z0 => ?_)⟩
    · rw [if_pos (hw z0)] at q
      exact ⟨_, rfl, x, dx, fs, rfl, ox, n5, _, rfl, _, rfl, x, ns, W, b, e, rfl, rd, hst, hl, q⟩
    rw [if_neg (hnw z0)] at q
    exact ⟨_, rfl, x, dx, fs, rfl, ox, n6, _, rfl, _, rfl, x, ns, W, b, e, rfl, rd, hst, hl, q⟩
theorem fn_asked6X (B : Bl mg bls) (D : DefAt K mg "_law_asked" s_law_asked ["ready", "way", "begin", "end"]) (MXReady_leasts : MFnX P w K mg base 6 C "leasts" ["self", "begin", "end"] (spRdX K C CL CP)) (MXReady_greatests : MFnX P w K mg base 6 C "greatests" ["self", "begin", "end"] (spRdX K C CL CP)) (MXReady_spreads : MFnX P w K mg base 7 C "spreads" ["self", "begin", "end"] (spRdX K C CL CP)) (MXReady_least : MFnX P w K mg base 5 C "least" ["self", "begin", "end"] (spRdX K C CL CP)) (MXReady_greatest : MFnX P w K mg base 5 C "greatest" ["self", "begin", "end"] (spRdX K C CL CP)) (MXReady_first_least : MFnX P w K mg base 5 C "first_least" ["self", "begin", "end"] (spRdX K C CL CP)) : FnX P w K mg base 8 "_law_asked" ["ready", "way", "begin", "end"] (spAsk6X K C CL CP) := by
  refine D.fnX sc_law_asked (fun vs H Q E h => ?_) (fun f cdv A outer s H vs Q E hr h => ?_)
  · obtain ⟨x, ns, W, way, b, e, rfl, _⟩ := h; rfl
  · obtain ⟨x, ns, W, way, v1, v2, rfl, rd, bad, q⟩ := h
    refine' ⟨_, ?tm, ?rd⟩
    (case tm =>
      (conv => { arg 2; whnf })
      refine' pss_cons ?s0 ?r0
      (case s0 =>
        refine' ps_if ?c0 ?a0 ?b0
        (case c0 => exact (pt_cmpR op_eq (pv 1) pe_int (nomark _)))
        (case a0 =>
          refine' pss_one ?s0i
          (case s0i =>
            exact (ps_ret (pe_methX (pv 0) MXReady_leasts hr passHere (pa_cons (pv 2) (pa_cons (pv 3) pa_nil))))))
        (case b0 =>
          exact pss_nil))
      (case r0 =>
        refine' pss_cons ?s0x ?r0x
        (case s0x =>
          refine' ps_if ?c0x ?a0x ?b0x
          (case c0x => exact (pt_cmpR op_eq (pv 1) pe_int (nomark _)))
          (case a0x =>
            refine' pss_one ?s0xi
            (case s0xi =>
              exact (ps_ret (pe_methX (pv 0) MXReady_greatests hr passHere (pa_cons (pv 2) (pa_cons (pv 3) pa_nil))))))
          (case b0x =>
            exact pss_nil))
        (case r0x =>
          refine' pss_cons ?s0xx ?r0xx
          (case s0xx =>
            refine' ps_if ?c0xx ?a0xx ?b0xx
            (case c0xx => exact (pt_cmpR op_eq (pv 1) pe_int (nomark _)))
            (case a0xx =>
              refine' pss_one ?s0xxi
              (case s0xxi =>
                exact (ps_ret (pe_methX (pv 0) MXReady_spreads hr passHere (pa_cons (pv 2) (pa_cons (pv 3) pa_nil))))))
            (case b0xx =>
              exact pss_nil))
          (case r0xx =>
            refine' pss_cons ?s0xxx ?r0xxx
            (case s0xxx =>
              refine' ps_if ?c0xxx ?a0xxx ?b0xxx
              (case c0xxx => exact (pt_cmpR op_eq (pv 1) pe_int (nomark _)))
              (case a0xxx =>
                refine' pss_one ?s0xxxi
                (case s0xxxi =>
                  exact (ps_ret (pe_methX (pv 0) MXReady_least hr passHere (pa_cons (pv 2) (pa_cons (pv 3) pa_nil))))))
              (case b0xxx =>
                exact pss_nil))
            (case r0xxx =>
              refine' pss_cons ?s0xxxx ?r0xxxx
              (case s0xxxx =>
                refine' ps_if ?c0xxxx ?a0xxxx ?b0xxxx
                (case c0xxxx => exact (pt_cmpR op_eq (pv 1) pe_int (nomark _)))
                (case a0xxxx =>
                  refine' pss_one ?s0xxxxi
                  (case s0xxxxi =>
                    exact (ps_ret (pe_methX (pv 0) MXReady_greatest hr passHere (pa_cons (pv 2) (pa_cons (pv 3) pa_nil))))))
                (case b0xxxx =>
                  exact pss_nil))
              (case r0xxxx =>
                refine' pss_one ?s0xxxxx
                (case s0xxxxx =>
                  exact (ps_ret (pe_methX (pv 0) MXReady_first_least hr passHere (pa_cons (pv 2) (pa_cons (pv 3) pa_nil)))))))))))
    obtain ⟨dx, fs, ox, lk⟩ := rd.obj
    have n1 := lk "leasts" (by decide) (by decide) (by decide)
    have n2 := lk "greatests" (by decide) (by decide) (by decide)
    have n3 := lk "spreads" (by decide) (by decide) (by decide)
    have n4 := lk "least" (by decide) (by decide) (by decide)
    have n5 := lk "greatest" (by decide) (by decide) (by decide)
    have n6 := lk "first_least" (by decide) (by decide) (by decide)
    refine ⟨_, rfl, rfl, _, rfl, ite2 (fun _ => ?_) (fun _ => ?_)⟩
    · exact ⟨_, rfl, x, dx, fs, rfl, ox, n1, _, rfl, _, rfl, x, ns, W, v1, v2, rfl, rd, bad, q⟩
    refine ⟨_, rfl, rfl, _, rfl, ite2 (fun _ => ?_) (fun _ => ?_)⟩
    · exact ⟨_, rfl, x, dx, fs, rfl, ox, n2, _, rfl, _, rfl, x, ns, W, v1, v2, rfl, rd, bad, q⟩
    refine ⟨_, rfl, rfl, _, rfl, ite2 (fun _ => ?_) (fun _ => ?_)⟩
    · exact ⟨_, rfl, x, dx, fs, rfl, ox, n3, _, rfl, _, rfl, x, ns, W, v1, v2, rfl, rd, bad, q⟩
    refine ⟨_, rfl, rfl, _, rfl, ite2 (fun _ => ?_) (fun _ => ?_)⟩
    · exact ⟨_, rfl, x, dx, fs, rfl, ox, n4, _, rfl, _, rfl, x, ns, W, v1, v2, rfl, rd, bad, q⟩
    refine ⟨_, rfl, rfl, _, rfl, ite2 (fun _ => ?_) (fun _ => ?_)⟩
    · exact ⟨_, rfl, x, dx, fs, rfl, ox, n5, _, rfl, _, rfl, x, ns, W, v1, v2, rfl, rd, bad, q⟩
    · exact ⟨_, rfl, x, dx, fs, rfl, ox, n6, _, rfl, _, rfl, x, ns, W, v1, v2, rfl, rd, bad, q⟩
def x_law_refused : { t : Stmt // top 33 = t } := ⟨_, by conv => { lhs; whnf }⟩
abbrev s_law_refused : Stmt := x_law_refused.1
theorem sc_law_refused : FnScope ["ready", "way", "begin", "end", "caught", "e"] ["ready", "way", "begin", "end"] (defScope s_law_refused) := ⟨rfl, rfl, rfl, by decide +kernel, rfl, by decide +kernel, by decide +kernel⟩
theorem fn_refused6 (B : Bl mg bls) (er_SpanError : Err K mg "SpanError" S bmS) (er_NoStretch : Err K mg "NoStretch" CP (.ref S :: bmVE)) (D : DefAt K mg "_law_refused" s_law_refused ["ready", "way", "begin", "end"]) (FX_law_asked : FnX P w K mg base 8 "_law_asked" ["ready", "way", "begin", "end"] (spAsk6X K C CL CP)) (F_law_just : Fn P w K mg base 1 "_law_just" ["caught", "at"] (spJust CP)) : Fn P w K mg base 9 "_law_refused" ["ready", "way", "begin", "end"] (spRef6 K C CL) := by
  refine D.fn sc_law_refused (fun vs H Q E h => ?_) (fun f cdv A outer s H vs Q E hr h => ?_)
  · obtain ⟨x, ns, W, way, v1, v2, rfl, _⟩ := h; rfl
  · obtain ⟨x, ns, W, way, v1, v2, rfl, rd, bad, q⟩ := h
    refine' ⟨_, ?tm, ?rd⟩
    (case tm =>
      (conv => { arg 2; whnf })
      refine' pss_cons ?s0 ?r0
      (case s0 =>
        exact (ps_set (i := 4) sc_law_refused.nd (by rfl) (by first | exact Or.inl rfl | exact Or.inr rfl) pe_non))
      (case r0 =>
        refine' pss_cons ?s0x ?r0x
        (case s0x =>
          exact (ps_try (j := 5) (fun p0 EE => (pss_one (ps_expr (pe_fnX FX_law_asked hr (by rfl) passTr (pa_cons (pv 0) (pa_cons (pv 1) (pa_cons (pv 2) (pa_cons (pv 3) pa_nil)))))))) (fun _ => (pss_one (ps_set (i := 4) sc_law_refused.nd (by rfl) (by first | exact Or.inl rfl | exact Or.inr rfl) (pv 5)))) er_SpanError (by rfl) sc_law_refused.nd (by rfl) (by rfl) (by rfl) (by rfl)))
        (case r0x =>
          refine' pss_one ?s0xx
          (case s0xx =>
            exact (ps_ret (pe_fn F_law_just hr (by rfl) (pa_cons (pv 4) (pa_cons pe_int pa_nil))))))))
    refine seqJ (fun σ' H' => σ' = [some (.ref x), some (.int way), some v1, some v2, some .non, none] ∧ H' = H) (fun fin => fin _ _ ⟨rfl, rfl⟩) ?_
    rintro _ H0 ⟨rfl, e0⟩
    obtain rfl := e0.symm
    refine seqJ (fun σ' H' => ∃ (y : Addr), σ' = [some (.ref x), some (.int way), some v1, some v2, some (.ref y), none] ∧ H' y = some (errO y CP) ∧ Same H H') (fun fin => ?_) ?_
    · refine ⟨_, rfl, _, rfl, _, rfl, _, rfl, x, ns, W, way, v1, v2, rfl, rd, bad, ⟨CP, _, rfl, er_NoStretch.2, (by simp), fun y hy => ?_⟩⟩
      refine ⟨_, rfl, ?_⟩
      exact fin _ _ ⟨y, rfl, upd_same, Same.new hy⟩
    rintro _ H2 ⟨y, rfl, cy, s2⟩
    exact ⟨_, rfl, y, rfl, cy, fun H3 s3 => q _ (s2.trans s3)⟩
end

end Law

set_option Elab.async false
set_option linter.all false
set_option maxRecDepth 100000
set_option maxHeartbeats 4000000
namespace Law
open PySem L2
def spHand : Sp := fun vs H Q _ => ∃ cell k : Int, vs = [.int cell, .int k] ∧ ∀ p H', H p = none → Same H H' → Hand H' p → Q (.ref p) H'
def spDraw : Sp := fun vs H Q _ => ∃ (p : Addr) (limit : Int), vs = [.ref p, .int limit] ∧ Hand H p ∧ 0 < limit ∧ limit < 1073741824 ∧ ∀ got H', 0 ≤ got → got < limit → Hand H' p → But p H H' → Q (.int got) H'
def spCells (K : PySem.W.Frag) : Sp := fun vs H Q _ => ∃ (a : Addr) (many : Int) (ns : List Int), vs = [.ref a, .int many] ∧ SqL K H a (ns.map V.int) ∧ ns.length ≤ 63 ∧ ∀ (H' : Hp) (l : Addr) (ts : List Addr) (cs : List Int), Same H H' → H l = none →
  H' l = some (.lst (ts.map V.ref)) → ts.length ≤ 64 → (∀ (j : Nat) (t : Addr), ts[j]? = some t → H' t = some (.tup [.int (j : Nat), .int (cs.getD j 0)])) → Q (.ref l) H'
def spGreat (K : PySem.W.Frag) : Sp := fun vs H Q _ => ∃ (a : Addr) (ns : List Int), vs = [.ref a] ∧ SqL K H a (ns.map V.int) ∧ ∀ b, Q (.bl b) H
def spWide : Sp := fun vs H Q _ => ∃ (p : Addr) (most : Int), vs = [.ref p, .int most] ∧ Hand H p ∧ 0 < most ∧ ∀ got H', 0 ≤ got → got < most → Hand H' p → But p H H' → Q (.int got) H'
def spRow : Sp := fun vs H Q _ => ∃ (p : Addr) (long : Bool), vs = [.ref p, .bl long] ∧ Hand H p ∧ ∀ (a : Addr) (H' : Hp) (ns : List Int), H a = none → a ≠ p → But p H H' → Hand H' p → H' a = some (.lst (ns.map V.int)) → ns.length ≤ 300 →
  (∀ n ∈ ns, -1000000000000 ≤ n ∧ n ≤ 1000000000000) → (long = false → ns.length ≤ 14) → Q (.ref a) H'
section
variable {P : Program} {w : World} {K : PySem.W.Frag} {mg : Str → Option Value} {base : Heap}
def x_law_hand : { t : Stmt // top 23 = t } := ⟨_, by conv => { lhs; whnf }⟩
abbrev s_law_hand : Stmt := x_law_hand.1
theorem sc_law_hand : FnScope ["cell", "k", "digits"] ["cell", "k"] (defScope s_law_hand) := ⟨rfl, rfl, rfl, by decide +kernel, rfl, by decide +kernel, by decide +kernel⟩
theorem fn_hand (D : DefAt K mg "_law_hand" s_law_hand ["cell", "k"]) : Fn P w K mg base 1 "_law_hand" ["cell", "k"] spHand := by
  refine D.fn sc_law_hand (fun vs H Q E h => ?_) (fun f cdv A outer s H vs Q E hr h => ?_)
  · obtain ⟨c, k, rfl, _⟩ := h; rfl
  · obtain ⟨c, k, rfl, q⟩ := h
    refine' ⟨_, ?tm, ?rd⟩
    (case tm =>
      (conv => { arg 2; whnf })
      refine' pss_cons ?s0 ?r0
      (case s0 =>
        exact (ps_set (i := 2) sc_law_hand.nd (by rfl) (by first | exact Or.inl rfl | exact Or.inr rfl) pe_int))
      (case r0 =>
        refine' pss_cons ?s0x ?r0x
        (case s0x =>
          refine' ps_if ?c0x ?a0x ?b0x
          (case c0x => exact (pt_cmpR op_ge (pv 0) (pe_op op_pow pe_int pe_int) (nomark _)))
          (case a0x =>
            refine' pss_one ?s0xi
            (case s0xi =>
              exact (ps_set (i := 2) sc_law_hand.nd (by rfl) (by first | exact Or.inl rfl | exact Or.inr rfl) (pv 0))))
          (case b0x =>
            exact pss_nil))
        (case r0x =>
          refine' pss_one ?s0xx
          (case s0xx =>
            exact (ps_ret (pe_lst (pa_cons (pv 2) (pa_cons (pe_op op_mod (pe_op op_mul (pe_op op_add (pe_op op_add (pe_op op_mod (pv 0) pe_int) (pe_op op_mul pe_int (pv 1))) pe_int) pe_int) pe_int) pa_nil))))))))
    have fin : ∀ d : Int, (tRet (tLst (tCons (tVar 2) (tCons (tOp (rI (fun _ j => 0 < j) fun i j => .int (i % j)) (tOp (rI CMul fun i j => .int (i * j)) (tOp (rI0 fun i j => .int (i + j)) (tOp (rI0 fun i j => .int (i + j)) (tOp (rI (fun _ j => 0 < j) fun i j => .int (i % j)) (tVar 0) (tC (.int 2147483587))) (tOp (rI CMul fun i j => .int (i * j)) (tC (.int 7919)) (tVar 1))) (tC (.int 1))) (tC (.int 48271))) (tC (.int 2147483587))) tNil)))) { nx := fun _ H' => Q .non H', rt := Q } [some (.int c), some (.int k), some (.int d)] H := by
      intro d
      refine ⟨_, rfl, _, rfl, _, _, rfl, rfl, (by show (0 : Int) < _; decide), _, rfl, _, _, rfl, rfl, .inl ⟨by decide, by decide⟩, _, _, rfl, rfl, _, _, rfl, rfl, _, _, rfl, rfl, .inr ⟨by decide, by decide⟩, _, _, rfl, rfl, (by show (0 : Int) < _; decide), (by show 2 ≤ sizeLine; decide), fun p hp => ?_⟩
      exact q p _ hp (Same.new hp) ⟨_, _, upd_same, Int.emod_nonneg _ (by decide), Int.emod_lt_of_pos _ (by decide)⟩
    refine ⟨_, rfl, _, _, rfl, rfl, ⟨by decide, by decide, by decide⟩, _, _, rfl, rfl, _, rfl, ?_⟩
    refine ite2 (fun _ => ?_) (fun _ => ?_)
    · exact ⟨_, rfl, fin c⟩
    · exact fin 0
def x_law_draw : { t : Stmt // top 24 = t } := ⟨_, by conv => { lhs; whnf }⟩
abbrev s_law_draw : Stmt := x_law_draw.1
theorem sc_law_draw : FnScope ["hand", "limit", "got"] ["hand", "limit"] (defScope s_law_draw) := ⟨rfl, rfl, rfl, by decide +kernel, rfl, by decide +kernel, by decide +kernel⟩
theorem fn_draw (D : DefAt K mg "_law_draw" s_law_draw ["hand", "limit"]) : Fn P w K mg base 1 "_law_draw" ["hand", "limit"] spDraw := by
  refine D.fn sc_law_draw (fun vs H Q E h => ?_) (fun f cdv A outer s H vs Q E hr h => ?_)
  · obtain ⟨c, k, rfl, _⟩ := h; rfl
  · obtain ⟨p, limit, rfl, ⟨d, e, hp, he0, he1⟩, hl0, hl1, q⟩ := h
    refine' ⟨_, ?tm, ?rd⟩
    (case tm =>
      (conv => { arg 2; whnf })
      refine' pss_cons ?s0 ?r0
      (case s0 =>
        refine' ps_if ?c0 ?a0 ?b0
        (case c0 => exact (pt_cmpR op_gt (pe_ix ix_list (pv 0) pe_int (fun _ _ => rfl)) pe_int (nomark _)))
        (case a0 =>
          refine' pss_cons ?s0i ?r0i
          (case s0i =>
            exact (ps_set (i := 2) sc_law_draw.nd (by rfl) (by first | exact Or.inl rfl | exact Or.inr rfl) (pe_op op_mod (pe_ix ix_list (pv 0) pe_int (fun _ _ => rfl)) (pv 1))))
          (case r0i =>
            refine' pss_cons ?s0ix ?r0ix
            (case s0ix =>
              exact (ps_asg (pe_op op_fdiv (pe_ix ix_list (pv 0) pe_int (fun _ _ => rfl)) (pv 1)) (pg_sub (pv 0) pe_int set_list)))
            (case r0ix =>
              refine' pss_one ?s0ixx
              (case s0ixx =>
                exact (ps_ret (pv 2))))))
        (case b0 =>
          exact pss_nil))
      (case r0 =>
        refine' pss_cons ?s0x ?r0x
        (case s0x =>
          exact (ps_asg (pe_op op_mod (pe_op op_add (pe_op op_add (pe_op op_mul (pe_ix ix_list (pv 0) pe_int (fun _ _ => rfl)) (pe_ix ix_list (pv 0) pe_int (fun _ _ => rfl))) (pe_op op_mul pe_int (pe_ix ix_list (pv 0) pe_int (fun _ _ => rfl)))) pe_int) pe_int) (pg_sub (pv 0) pe_int set_list)))
        (case r0x =>
          refine' pss_one ?s0xx
          (case s0xx =>
            exact (ps_ret (pe_op op_mod (pe_op op_fdiv (pe_ix ix_list (pv 0) pe_int (fun _ _ => rfl)) pe_int) (pv 1)))))))
    refine ⟨_, rfl, _, _, _, _, rfl, rfl, SqL.of hp, rfl, _, _, rfl, rfl, _, rfl, ?_⟩
    refine ite2 (fun hd => ?_) (fun hd => ?_)
    · refine ⟨_, rfl, _, _, _, _, rfl, rfl, SqL.of hp, rfl, _, rfl, _, _, rfl, rfl, hl0, ?_⟩
      refine ⟨_, rfl, _, _, _, _, rfl, rfl, SqL.of hp, rfl, _, rfl, _, _, rfl, rfl, ⟨hl0, hl1⟩, _, rfl, _, _, _, _, rfl, rfl, hp, rfl, ?_⟩
      exact ⟨_, rfl, q _ _ (Int.emod_nonneg _ (by omega)) (Int.emod_lt_of_pos _ hl0) ⟨_, _, upd_same, he0, he1⟩ (But.upd _)⟩
    · refine ⟨_, rfl, _, _, _, _, rfl, rfl, SqL.of hp, rfl, _, rfl, _, _, _, _, rfl, rfl, SqL.of hp, rfl, _, _, rfl, rfl, .inl ⟨by omega, by omega⟩, _, rfl, _, _, _, _, rfl, rfl, SqL.of hp, rfl, _, _, rfl, rfl, .inl ⟨by decide, by decide⟩, _, _, rfl, rfl, _, _, rfl, rfl, _, _, rfl, rfl, (by show (0 : Int) < _; decide), ?_⟩
      refine ⟨_, rfl, _, _, _, _, rfl, rfl, hp, rfl, ?_⟩
      refine ⟨_, rfl, _, _, _, _, rfl, rfl, SqL.of upd_same, rfl, _, _, rfl, rfl, ⟨by decide, by decide⟩, _, rfl, _, _, rfl, rfl, hl0, ?_⟩
      exact q _ _ (Int.emod_nonneg _ (by omega)) (Int.emod_lt_of_pos _ hl0) ⟨_, _, upd_same, Int.emod_nonneg _ (by decide), Int.emod_lt_of_pos _ (by decide)⟩ (But.upd _)
def x_law_great : { t : Stmt // top 26 = t } := ⟨_, by conv => { lhs; whnf }⟩
abbrev s_law_great : Stmt := x_law_great.1
theorem sc_law_great : FnScope ["script"] ["script"] (defScope s_law_great) := ⟨rfl, rfl, rfl, by decide +kernel, rfl, by decide +kernel, by decide +kernel⟩
theorem fn_great (B : Bl mg bls) (D : DefAt K mg "_law_great" s_law_great ["script"]) : Fn P w K mg base 1 "_law_great" ["script"] (spGreat K) := by
  refine D.fn sc_law_great (fun vs H Q E h => ?_) (fun f cdv A outer s H vs Q E hr h => ?_)
  · obtain ⟨a, ns, rfl, _⟩ := h; rfl
  · obtain ⟨a, ns, rfl, hs, q⟩ := h
    refine' ⟨_, ?tm, ?rd⟩
    (case tm =>
      (conv => { arg 2; whnf })
      refine' pss_one ?s0
      (case s0 =>
        exact (ps_ret (pe_cmpR op_eq (pe_op op_mod (pe_op op_fdiv (pe_callB (cr_sum rfl) (by rfl) (B "sum" (by decide +kernel)) (by decide +kernel) (pa_cons (pv 0) pa_nil)) pe_int) pe_int) pe_int (nomark _)))))
    refine ⟨_, rfl, a, ns, rfl, hs, _, _, rfl, rfl, ⟨by decide, by decide⟩, _, _, rfl, rfl, (by show (0 : Int) < _; decide), rfl, ?_⟩
    exact q _
def x_law_wide : { t : Stmt // top 27 = t } := ⟨_, by conv => { lhs; whnf }⟩
abbrev s_law_wide : Stmt := x_law_wide.1
theorem sc_law_wide : FnScope ["hand", "most"] ["hand", "most"] (defScope s_law_wide) := ⟨rfl, rfl, rfl, by decide +kernel, rfl, by decide +kernel, by decide +kernel⟩
theorem fn_wide (D : DefAt K mg "_law_wide" s_law_wide ["hand", "most"]) (F_law_draw : Fn P w K mg base 1 "_law_draw" ["hand", "limit"] spDraw) : Fn P w K mg base 2 "_law_wide" ["hand", "most"] spWide := by
  refine D.fn sc_law_wide (fun vs H Q E h => ?_) (fun f cdv A outer s H vs Q E hr h => ?_)
  · obtain ⟨c, k, rfl, _⟩ := h; rfl
  · obtain ⟨p, most, rfl, hh, hm0, q⟩ := h
    refine' ⟨_, ?tm, ?rd⟩
    (case tm =>
      (conv => { arg 2; whnf })
      refine' pss_one ?s0
      (case s0 =>
        exact (ps_ret (pe_op op_mod (pe_op op_add (pe_op op_mul (pe_fn F_law_draw hr (by rfl) (pa_cons (pv 0) (pa_cons (pe_op op_pow pe_int pe_int) pa_nil))) (pe_op op_pow pe_int pe_int)) (pe_fn F_law_draw hr (by rfl) (pa_cons (pv 0) (pa_cons (pe_op op_pow pe_int pe_int) pa_nil)))) (pv 1)))))
    refine ⟨_, rfl, _, _, rfl, rfl, ⟨by decide, by decide, by decide⟩, p, _, rfl, hh, by decide, by decide, fun g1 H1 a1 b1 hh1 k1 => ?_⟩
    have e8 : (10 : Int) ^ Int.toNat 8 = 100000000 := by decide
    rw [e8] at b1
    refine ⟨_, _, rfl, rfl, ⟨by decide, by decide, by decide⟩, _, _, rfl, rfl, .inl ⟨by omega, by omega⟩, ?_⟩
    refine ⟨_, rfl, _, _, rfl, rfl, ⟨by decide, by decide, by decide⟩, p, _, rfl, hh1, by decide, by decide, fun g2 H2 a2 b2 hh2 k2 => ?_⟩
    refine ⟨_, _, rfl, rfl, _, rfl, _, _, rfl, rfl, hm0, ?_⟩
    exact q _ _ (Int.emod_nonneg _ (by omega)) (Int.emod_lt_of_pos _ hm0) hh2 (k1.trans k2)
def x_law_cells : { t : Stmt // top 25 = t } := ⟨_, by conv => { lhs; whnf }⟩
abbrev s_law_cells : Stmt := x_law_cells.1
theorem sc_law_cells : FnScope ["script", "many"] ["script", "many"] (defScope s_law_cells) := ⟨rfl, rfl, rfl, by decide +kernel, rfl, by decide +kernel, by decide +kernel⟩
theorem fn_cells (B : Bl mg bls) (D : DefAt K mg "_law_cells" s_law_cells ["script", "many"]) : Fn P w K mg base 1 "_law_cells" ["script", "many"] (spCells K) := by
  refine D.fn sc_law_cells (fun vs H Q E h => ?_) (fun f cdv A outer s H vs Q E hr h => ?_)
  · obtain ⟨a, m, ns, rfl, _⟩ := h; rfl
  · obtain ⟨a, m, ns, rfl, hs, hl, q⟩ := h
    refine' ⟨_, ?tm, ?rd⟩
    (case tm =>
      (conv => { arg 2; whnf })
      refine' pss_one ?s0
      (case s0 =>
        exact (ps_ret (pe_list_enum (by rfl) (by rfl) (B "list" (by decide +kernel)) (by rfl) (B "enumerate" (by decide +kernel)) (pa_cons (pe_op op_cat (pe_slice sl_list (pv 0) po_none (po_some (pv 1))) (pe_op op_rep (pe_lst (pa_cons pe_int pa_nil)) (pe_callTy call_int1 (by rfl) (B "int" (by decide +kernel)) (by decide +kernel) (pa_cons (pe_cmpR (op_eqLI hr.units) (pv 0) (pe_lst pa_nil) (nomark _)) pa_nil)))) pa_nil)))))
    refine ⟨_, rfl, _, rfl, _, rfl, a, _, rfl, hs, fun p hp => ?_⟩
    refine ⟨(by show 1 ≤ sizeLine; decide), fun p1 hp1 => ?_⟩
    rw [cut_ints] at hp1 ⊢
    have s1 : Same H (upd H p (.lst ((cutI ns none (some m)).map V.int))) := Same.new hp
    have s2 := s1.trans (Same.new (o := .lst [.int 0]) hp1)
    refine ⟨_, rfl, (by show 0 ≤ sizeLine; decide), fun p2 hp2 => ?_⟩
    have s3 := s2.trans (Same.new (o := .lst []) hp2)
    refine ⟨a, p2, ns, [], rfl, rfl, s3.seq hs, SqL.of upd_same, .inr ⟨_, rfl, ?_⟩⟩
    have n12 : p1 ≠ p2 := ne_of_none upd_same hp2
    have n01 : p ≠ p1 := ne_of_none upd_same hp1
    have n02 : p ≠ p2 := ne_of_none (a := p) (by rw [upd_ne n01]; exact upd_same) hp2
    have hk : ∀ b : Bool, (0 : Int) ≤ (if b = true then 1 else 0) ∧ (if b = true then (1 : Int) else 0) ≤ 1 := fun b => by cases b <;> decide
    generalize decide (ns = []) = bb
    have hkb := hk bb
    generalize (if bb = true then (1 : Int) else 0) = kk at hkb ⊢
    refine ⟨p1, _, [.int 0], rfl, rfl, (by rw [upd_ne n12]; exact upd_same), (by omega), (by omega), ?_, fun p3 hp3 => ?_⟩
    · exact line1000 (by show 1 * kk.toNat ≤ 1000; omega)
    have e0 : ([.int 0] : List V) = ([0] : List Int).map V.int := rfl
    rw [e0, repI]
    have n03 : p ≠ p3 := ne_of_none (a := p) (by rw [upd_ne n02, upd_ne n01]; exact upd_same) hp3
    have s4 := s3.trans (Same.new (o := .lst (((List.replicate kk.toNat ([0] : List Int)).flatten).map V.int)) hp3)
    have hz : (cutI ns none (some m)).length + (List.replicate kk.toNat ([0] : List Int)).flatten.length ≤ 64 := by
      have h1 := cutI_len ns none (some m)
      rw [len_rep]
      show _ + kk.toNat * 1 ≤ 64
      omega
    refine ⟨p, p3, _, _, rfl, rfl, (by rw [upd_ne n03, upd_ne n02, upd_ne n01]; exact upd_same), upd_same, ?_, fun p4 hp4 => ?_⟩
    · rw [List.length_map, List.length_map]; exact line1000 (by omega)
    rw [← List.map_append]
    refine ⟨p4, _, rfl, SqL.of upd_same, fun H' l ts sm hl' ct tl fr tt => ?_⟩
    have s5 := s4.trans (Same.new (o := .lst ((cutI ns none (some m) ++ (List.replicate kk.toNat ([0] : List Int)).flatten).map V.int)) hp4)
    refine q H' l ts (cutI ns none (some m) ++ (List.replicate kk.toNat ([0] : List Int)).flatten) (s5.trans sm) (s5.free hl') ct (by rw [tl, List.length_map, List.length_append]; exact hz) fun j t hj => ?_
    rw [tt j t hj]
    have hjl : j < ((cutI ns none (some m) ++ (List.replicate kk.toNat ([0] : List Int)).flatten).map V.int).length := by rw [← tl]; exact (List.getElem?_eq_some_iff.mp hj).1
    rw [List.length_map] at hjl
    rw [getD_ints hjl]
def x_law_row : { t : Stmt // top 28 = t } := ⟨_, by conv => { lhs; whnf }⟩
abbrev s_law_row : Stmt := x_law_row.1
theorem sc_law_row : FnScope ["hand", "long", "many", "reach", "kind", "row", "k"] ["hand", "long"] (defScope s_law_row) := ⟨rfl, rfl, rfl, by decide +kernel, rfl, by decide +kernel, by decide +kernel⟩
theorem fn_row (B : Bl mg bls) (D : DefAt K mg "_law_row" s_law_row ["hand", "long"]) (F_law_draw : Fn P w K mg base 1 "_law_draw" ["hand", "limit"] spDraw) (F_law_wide : Fn P w K mg base 2 "_law_wide" ["hand", "most"] spWide) : Fn P w K mg base 3 "_law_row" ["hand", "long"] spRow := by
  refine D.fn sc_law_row (fun vs H Q E h => ?_) (fun f cdv A outer s H vs Q E hr h => ?_)
  · obtain ⟨c, k, rfl, _⟩ := h; rfl
  · obtain ⟨p, long, rfl, hh, q⟩ := h
    have pw : ∀ n : Int, CPow 10 n ↔ (0 ≤ n ∧ n ≤ 1000000 ∧ (10 : Int).natAbs < 2 ^ 64) := fun n => Iff.rfl
    refine' ⟨_, ?tm, ?rd⟩
    (case tm =>
      (conv => { arg 2; whnf })
      refine' pss_cons ?s0 ?r0
      (case s0 =>
        exact (ps_set (i := 2) sc_law_row.nd (by rfl) (by first | exact Or.inl rfl | exact Or.inr rfl) (pe_fn F_law_draw hr (by rfl) (pa_cons (pv 0) (pa_cons (pe_ix ix_list (pe_lst (pa_cons pe_int (pa_cons pe_int pa_nil))) (pe_fn F_law_draw hr (by rfl) (pa_cons (pv 0) (pa_cons pe_int pa_nil))) (fun _ _ => rfl)) pa_nil)))))
      (case r0 =>
        refine' pss_cons ?s0x ?r0x
        (case s0x =>
          refine' ps_if ?c0x ?a0x ?b0x
          (case c0x => exact (pt_val (pv 1)))
          (case a0x =>
            refine' pss_one ?s0xi
            (case s0xi =>
              exact (ps_set (i := 2) sc_law_row.nd (by rfl) (by first | exact Or.inl rfl | exact Or.inr rfl) (pe_ix ix_list (pe_lst (pa_cons (pe_op op_add pe_int (pe_fn F_law_draw hr (by rfl) (pa_cons (pv 0) (pa_cons pe_int pa_nil)))) (pa_cons (pe_op op_add pe_int (pe_fn F_law_draw hr (by rfl) (pa_cons (pv 0) (pa_cons pe_int pa_nil)))) pa_nil))) (pe_fn F_law_draw hr (by rfl) (pa_cons (pv 0) (pa_cons pe_int pa_nil))) (fun _ _ => rfl)))))
          (case b0x =>
            exact pss_nil))
        (case r0x =>
          refine' pss_cons ?s0xx ?r0xx
          (case s0xx =>
            exact (ps_set (i := 3) sc_law_row.nd (by rfl) (by first | exact Or.inl rfl | exact Or.inr rfl) (pe_ix ix_list (pe_lst (pa_cons pe_int (pa_cons pe_int (pa_cons pe_int (pa_cons pe_int (pa_cons (pe_op op_pow pe_int pe_int) (pa_cons (pe_op op_pow pe_int pe_int) pa_nil))))))) (pe_fn F_law_draw hr (by rfl) (pa_cons (pv 0) (pa_cons pe_int pa_nil))) (fun _ _ => rfl))))
          (case r0xx =>
            refine' pss_cons ?s0xxx ?r0xxx
            (case s0xxx =>
              exact (ps_set (i := 4) sc_law_row.nd (by rfl) (by first | exact Or.inl rfl | exact Or.inr rfl) (pe_fn F_law_draw hr (by rfl) (pa_cons (pv 0) (pa_cons pe_int pa_nil)))))
            (case r0xxx =>
              refine' pss_cons ?s0xxxx ?r0xxxx
              (case s0xxxx =>
                exact (ps_setLc (i := 5) (own := [("k", 6)]) (g := (gName 6)) (by rfl) sc_law_row.nd (by rfl) (by rfl) (sw_true (by rfl) (by rfl) (by rfl) (by decide +kernel)) (pi_range1 (by rfl) (B "range" (by decide +kernel)) (pa_cons (pv 2) pa_nil)) (blkOk_by (own := [("k", 6)]) (N := ["hand", "long", "many", "reach", "kind", "row", "k"]) (sc := defScope s_law_row) (by decide +kernel)) (fun _ _ _ _ _ => (pg_name (i := 6) sc_law_row.nd (by rfl) (by first | exact Or.inl rfl | exact Or.inr rfl))) (fun _ _ _ _ _ => pts_nil) (fun _ _ _ _ _ => (pe_op op_sub (pe_fn F_law_wide hr (by rfl) (pa_cons (pv 0) (pa_cons (pe_op op_add (pe_op op_mul pe_int (pv 3)) pe_int) pa_nil))) (pv 3)))))
              (case r0xxxx =>
                refine' pss_cons ?s0xxxxx ?r0xxxxx
                (case s0xxxxx =>
                  refine' ps_if ?c0xxxxx ?a0xxxxx ?b0xxxxx
                  (case c0xxxxx => exact (pt_cmpR op_eq (pv 4) pe_int (nomark _)))
                  (case a0xxxxx =>
                    refine' pss_one ?s0xxxxxi
                    (case s0xxxxxi =>
                      exact (ps_ret (pe_slice sl_list (pe_op op_rep (pe_slice sl_list (pv 5) po_none (po_some pe_int)) (pv 2)) po_none (po_some (pv 2))))))
                  (case b0xxxxx =>
                    exact pss_nil))
                (case r0xxxxx =>
                  refine' pss_cons ?s0xxxxxx ?r0xxxxxx
                  (case s0xxxxxx =>
                    refine' ps_if ?c0xxxxxx ?a0xxxxxx ?b0xxxxxx
                    (case c0xxxxxx => exact (pt_cmpR op_eq (pv 4) pe_int (nomark _)))
                    (case a0xxxxxx =>
                      refine' pss_one ?s0xxxxxxi
                      (case s0xxxxxxi =>
                        exact (ps_ret (pe_callB cr_sortedA (by rfl) (B "sorted" (by decide +kernel)) (by decide +kernel) (pa_cons (pv 5) pa_nil)))))
                    (case b0xxxxxx =>
                      exact pss_nil))
                  (case r0xxxxxx =>
                    refine' pss_cons ?s0xxxxxxx ?r0xxxxxxx
                    (case s0xxxxxxx =>
                      refine' ps_if ?c0xxxxxxx ?a0xxxxxxx ?b0xxxxxxx
                      (case c0xxxxxxx => exact (pt_cmpR op_eq (pv 4) pe_int (nomark _)))
                      (case a0xxxxxxx =>
                        refine' pss_one ?s0xxxxxxxi
                        (case s0xxxxxxxi =>
                          exact (ps_ret (pe_rev (pe_callB cr_sortedA (by rfl) (B "sorted" (by decide +kernel)) (by decide +kernel) (pa_cons (pv 5) pa_nil))))))
                      (case b0xxxxxxx =>
                        exact pss_nil))
                    (case r0xxxxxxx =>
                      refine' pss_cons ?s0xxxxxxxx ?r0xxxxxxxx
                      (case s0xxxxxxxx =>
                        refine' ps_if ?c0xxxxxxxx ?a0xxxxxxxx ?b0xxxxxxxx
                        (case c0xxxxxxxx => exact (pt_cmpR op_eq (pv 4) pe_int (nomark _)))
                        (case a0xxxxxxxx =>
                          refine' pss_one ?s0xxxxxxxxi
                          (case s0xxxxxxxxi =>
                            exact (ps_ret (pe_op op_cat (pe_slice sl_list (pv 5) po_none (po_some (pe_op op_fdiv (pe_op op_add (pv 2) pe_int) pe_int))) (pe_rev (pe_slice sl_list (pv 5) po_none (po_some (pe_op op_fdiv (pv 2) pe_int))))))))
                        (case b0xxxxxxxx =>
                          exact pss_nil))
                      (case r0xxxxxxxx =>
                        refine' pss_cons ?s0xxxxxxxxx ?r0xxxxxxxxx
                        (case s0xxxxxxxxx =>
                          refine' ps_if ?c0xxxxxxxxx ?a0xxxxxxxxx ?b0xxxxxxxxx
                          (case c0xxxxxxxxx => exact (PW.pt (pw_and (pt_cmpR op_eq (pv 4) pe_int (nomark _)) (pw_and1 (pt_cmpR (op_neLI hr.units) (pv 5) (pe_lst pa_nil) (nomark _))))))
                          (case a0xxxxxxxxx =>
                            refine' pss_one ?s0xxxxxxxxxi
                            (case s0xxxxxxxxxi =>
                              exact (ps_asg (pe_ix ix_list (pe_lst (pa_cons (pe_op op_sub pe_int (pe_op op_pow pe_int pe_int)) (pa_cons (pe_op op_pow pe_int pe_int) pa_nil))) (pe_fn F_law_draw hr (by rfl) (pa_cons (pv 0) (pa_cons pe_int pa_nil))) (fun _ _ => rfl)) (pg_sub (pv 5) (pe_fn F_law_draw hr (by rfl) (pa_cons (pv 0) (pa_cons (pv 2) pa_nil))) set_list))))
                          (case b0xxxxxxxxx =>
                            exact pss_nil))
                        (case r0xxxxxxxxx =>
                          refine' pss_one ?s0xxxxxxxxxx
                          (case s0xxxxxxxxxx =>
                            exact (ps_ret (pv 5))))))))))))))
    -- many
    refine seqJ (fun σ' H' => ∃ many : Int, σ' = [some (.ref p), some (.bl long), some (.int many), none, none, none, none] ∧ 0 ≤ many ∧ many ≤ 14 ∧ But p H H' ∧ Hand H' p) (fun fin => ?_) ?_
    · refine ⟨_, rfl, (by show 2 ≤ sizeLine; decide), fun p1 hp1 => ?_⟩
      have n1 : p1 ≠ p := hh.ne hp1
      refine ⟨_, rfl, p, _, rfl, hh.new hp1, by decide, by decide, fun g1 H1 a1 b1 hh1 k1 => ?_⟩
      obtain ⟨v, hv, ev⟩ := at_pick (ns := [5, 15]) a1 b1
      have hv' : v = 5 ∨ v = 15 := by simpa using hv
      refine ⟨_, _, _, _, rfl, rfl, SqL.of (k1 _ _ n1 upd_same), ev, p, _, rfl, hh1, by omega, by omega, fun many H2 a2 b2 hh2 k2 => ?_⟩
      exact fin _ _ ⟨many, rfl, a2, by omega, ((But.new (p := p) hp1).trans k1).trans k2, hh2⟩
    rintro σ2 H2 ⟨many, rfl, a2, b2, kk2, hh2⟩
    -- if long
    refine seqJ (fun σ' H' => ∃ many : Int, σ' = [some (.ref p), some (.bl long), some (.int many), none, none, none, none] ∧ 0 ≤ many ∧ many ≤ 300 ∧ (long = false → many ≤ 14) ∧ But p H H' ∧ Hand H' p) (fun fin => ?_) ?_
    · refine ⟨_, rfl, _, rfl, ?_⟩
      refine ite2 (fun hl => ?_) (fun hl => fin _ _ ⟨many, rfl, a2, by omega, fun _ => by omega, kk2, hh2⟩)
      refine ⟨_, rfl, p, _, rfl, hh2, by decide, by decide, fun g3 H3 a3 b3 hh3 k3 => ⟨_, _, rfl, rfl, ?_⟩⟩
      refine ⟨_, rfl, p, _, rfl, hh3, by decide, by decide, fun g4 H4 a4 b4 hh4 k4 => ⟨_, _, rfl, rfl, ?_⟩⟩
      refine ⟨(by show 2 ≤ sizeLine; decide), fun p2 hp2 => ?_⟩
      have n2 : p2 ≠ p := hh4.ne hp2
      refine ⟨_, rfl, p, _, rfl, hh4.new hp2, by decide, by decide, fun g5 H5 a5 b5 hh5 k5 => ?_⟩
      obtain ⟨v5, hv5, ev5⟩ := at_pick (ns := [15 + g3, 290 + g4]) a5 b5
      have hv5' : v5 = 15 + g3 ∨ v5 = 290 + g4 := by simpa using hv5
      refine ⟨_, _, _, _, rfl, rfl, SqL.of (k5 _ _ n2 upd_same), ev5, fin _ _ ⟨v5, rfl, by omega, by omega, fun e => ?_, (((kk2.trans k3).trans k4).trans (But.new hp2)).trans k5, hh5⟩⟩
      have hl' : long = true := hl
      rw [hl'] at e; cases e
    clear kk2 hh2 a2 b2
    rintro σ3 H3 ⟨many, rfl, hm0, hm1, hm2, k3, hh3⟩
    -- reach
    refine seqJ (fun σ' H' => ∃ reach : Int, σ' = [some (.ref p), some (.bl long), some (.int many), some (.int reach), none, none, none] ∧ 1 ≤ reach ∧ reach ≤ 1000000000000 ∧ But p H H' ∧ Hand H' p) (fun fin => ?_) ?_
    · refine ⟨_, _, rfl, rfl, ⟨by decide, by decide, by decide⟩, _, _, rfl, rfl, ⟨by decide, by decide, by decide⟩, (by show 6 ≤ sizeLine; decide), fun p4 hp4 => ?_⟩
      have n4 : p4 ≠ p := hh3.ne hp4
      refine ⟨_, rfl, p, _, rfl, hh3.new hp4, by decide, by decide, fun g4 H4 a4 b4 hh4 k4 => ?_⟩
      obtain ⟨reach, hreach, er⟩ := at_pick (ns := [1, 3, 20, 1000, 10 ^ (6 : Int).toNat, 10 ^ (12 : Int).toNat]) a4 b4
      have hr6 : (10 : Int) ^ (6 : Int).toNat = 1000000 := by decide
      have hr12 : (10 : Int) ^ (12 : Int).toNat = 1000000000000 := by decide
      have hre : 1 ≤ reach ∧ reach ≤ 1000000000000 := by
        rw [hr6, hr12] at hreach
        have : reach = 1 ∨ reach = 3 ∨ reach = 20 ∨ reach = 1000 ∨ reach = 1000000 ∨ reach = 1000000000000 := by simpa using hreach
        omega
      refine ⟨_, _, _, _, rfl, rfl, SqL.of (k4 _ _ n4 upd_same), er, fin _ _ ⟨reach, rfl, hre.1, hre.2, (k3.trans (But.new hp4)).trans k4, hh4⟩⟩
    clear k3 hh3
    rintro σ4 H4 ⟨reach, rfl, hre0, hre1, k4, hh4⟩
    -- kind
    refine seqJ (fun σ' H' => ∃ kind : Int, σ' = [some (.ref p), some (.bl long), some (.int many), some (.int reach), some (.int kind), none, none] ∧ But p H H' ∧ Hand H' p) (fun fin => ?_) ?_
    · exact ⟨_, rfl, p, _, rfl, hh4, by decide, by decide, fun kind H5 a5 b5 hh5 k5 => fin _ _ ⟨kind, rfl, k4.trans k5, hh5⟩⟩
    clear k4 hh4
    rintro σ5 H5 ⟨kind, rfl, k5, hh5⟩
    -- row
    refine seqJ (fun σ' H' => ∃ (D : Addr) (ns : List Int), σ' = [some (.ref p), some (.bl long), some (.int many), some (.int reach), some (.int kind), some (.ref D), none] ∧ H D = none ∧ D ≠ p ∧ H' D = some (.lst (ns.map V.int)) ∧ ns.length = many.toNat ∧ (∀ n ∈ ns, -1000000000000 ≤ n ∧ n ≤ 1000000000000) ∧ But p H H' ∧ Hand H' p) (fun fin => ?_) ?_
    · refine ⟨_, rfl, many, rfl, by omega, by omega, fun D hD => lc_range (lo := 0) (n := many.toNat) (fun i H' => ∃ ns : List Int, H' D = some (.lst (ns.map V.int)) ∧ ns.length = i ∧ (∀ n ∈ ns, -1000000000000 ≤ n ∧ n ≤ 1000000000000) ∧ But p H H' ∧ Hand H' p) ⟨[], upd_same, rfl, (fun n hn => nomatch hn), k5.trans (But.new hD), hh5.new hD⟩ ?_ ?_⟩
      · have nD : D ≠ p := hh5.ne hD
        have fD : H D = none := free_of_but k5 hh5.some hD
        rintro i H6 hi ⟨ns, hns, hlen, hb, k6, hh6⟩
        refine ⟨rfl, _, rfl, _, rfl, _, _, rfl, rfl, .inl ⟨by decide, by decide⟩, _, _, rfl, rfl, p, _, rfl, hh6, by omega, fun g7 H7 a7 b7 hh7 k7 => ?_⟩
        refine ⟨_, rfl, _, _, rfl, rfl, _, k7 _ _ nD hns, ?_, ?_⟩
        · rw [List.length_map]; exact small1000 (by omega)
        · refine ⟨ns ++ [g7 - reach], ?_, by rw [List.length_append, hlen]; rfl, fun n hn => ?_, (k6.trans k7).at fD, hh7.at nD⟩
          · rw [List.map_append]; exact upd_same
          · rcases List.mem_append.mp hn with z | z
            · exact hb n z
            · have z' : n = g7 - reach := by simpa using z
              omega
      · rintro H6 ⟨ns, hns, hlen, hb, k6, hh6⟩
        exact fin _ _ ⟨D, ns, rfl, free_of_but k5 hh5.some hD, hh5.ne hD, hns, hlen, hb, k6, hh6⟩
    clear k5 hh5
    rintro σ6 H6 ⟨D, ns, rfl, fD, nD, hns, hlen, hb, k6, hh6⟩
    have done : ∀ (a : Addr) (H' : Hp) (ms : List Int), H6 a = none → Same H6 H' → H' a = some (.lst (ms.map V.int)) → ms.length ≤ many.toNat → (∀ n ∈ ms, n ∈ ns) → Q (.ref a) H' := fun a H' ms ha sm hm hl hmem =>
      q a H' ms (free_of_but k6 hh6.some ha) (hh6.ne ha) (k6.trans sm.but) (hh6.same sm) hm (by omega) (fun n hn => hb n (hmem n hn)) fun e => by have := hm2 e; omega
    -- kind == 0
    refine seqJ (fun σ' H' => σ' = [some (.ref p), some (.bl long), some (.int many), some (.int reach), some (.int kind), some (.ref D), none] ∧ H' = H6) (fun fin => ?_) ?_
    · refine ⟨_, rfl, rfl, _, rfl, ?_⟩
      refine ite2 (fun _ => ?_) (fun _ => fin _ _ ⟨rfl, rfl⟩)
      refine ⟨_, rfl, _, rfl, D, _, rfl, SqL.of hns, fun q1 hq1 => ?_⟩
      rw [cut_ints]
      have hc1 : (cutI ns none (some 1)).length ≤ 1 := by rw [cutI_to _ _ (by decide), List.length_take]; exact Nat.min_le_left _ _
      refine ⟨_, rfl, q1, many, _, rfl, rfl, upd_same, by omega, by omega, ?_, fun q2 hq2 => ?_⟩
      · rw [List.length_map]
        refine line1000 (Nat.le_trans (Nat.mul_le_mul hc1 (Nat.le_refl _)) (by omega))
      rw [repI]
      refine ⟨_, rfl, _, rfl, q2, _, rfl, SqL.of upd_same, fun q3 hq3 => ?_⟩
      rw [cut_ints]
      have s3 : Same H6 _ := ((Same.new (o := .lst ((cutI ns none (some 1)).map V.int)) hq1).trans (Same.new (o := .lst ((List.replicate many.toNat (cutI ns none (some 1))).flatten.map V.int)) hq2)).trans (Same.new (o := .lst ((cutI (List.replicate many.toNat (cutI ns none (some 1))).flatten none (some many)).map V.int)) hq3)
      refine done q3 _ _ ?_ s3 upd_same ?_ fun n hn => cutI_mem (mem_rep (cutI_mem hn))
      · exact ((Same.new (o := .lst ((cutI ns none (some 1)).map V.int)) hq1).trans (Same.new (o := .lst ((List.replicate many.toNat (cutI ns none (some 1))).flatten.map V.int)) hq2)).free hq3
      · rw [cutI_to _ _ hm0, List.length_take]; exact Nat.min_le_left _ _
    rintro σ7 H7 ⟨rfl, rfl⟩
    -- kind == 1
    refine seqJ (fun σ' H' => σ' = [some (.ref p), some (.bl long), some (.int many), some (.int reach), some (.int kind), some (.ref D), none] ∧ H' = H7) (fun fin => ?_) ?_
    · refine ⟨_, rfl, rfl, _, rfl, ?_⟩
      refine ite2 (fun _ => ?_) (fun _ => fin _ _ ⟨rfl, rfl⟩)
      refine ⟨_, rfl, D, ns, rfl, SqL.of hns, fun ns' q1 pm _ hq1 => ?_⟩
      exact done q1 _ ns' hq1 (Same.new hq1) upd_same (by rw [pm.length_eq, hlen]; exact Nat.le_refl _) fun n hn => pm.mem_iff.mp hn
    rintro σ8 H8 ⟨rfl, rfl⟩
    -- kind == 2
    refine seqJ (fun σ' H' => σ' = [some (.ref p), some (.bl long), some (.int many), some (.int reach), some (.int kind), some (.ref D), none] ∧ H' = H8) (fun fin => ?_) ?_
    · refine ⟨_, rfl, rfl, _, rfl, ?_⟩
      refine ite2 (fun _ => ?_) (fun _ => fin _ _ ⟨rfl, rfl⟩)
      refine ⟨_, rfl, D, ns, rfl, SqL.of hns, fun ns' q1 pm _ hq1 => ?_⟩
      refine ⟨q1, _, rfl, SqL.of upd_same, fun q2 hq2 => ?_⟩
      rw [← List.map_reverse]
      exact done q2 _ ns'.reverse ((Same.new hq1).free hq2) ((Same.new hq1).trans (Same.new hq2)) upd_same (by rw [List.length_reverse, pm.length_eq, hlen]; exact Nat.le_refl _) fun n hn => pm.mem_iff.mp (List.mem_reverse.mp hn)
    rintro σ9 H9 ⟨rfl, rfl⟩
    -- kind == 3
    refine seqJ (fun σ' H' => σ' = [some (.ref p), some (.bl long), some (.int many), some (.int reach), some (.int kind), some (.ref D), none] ∧ H' = H9) (fun fin => ?_) ?_
    · refine ⟨_, rfl, rfl, _, rfl, ?_⟩
      refine ite2 (fun _ => ?_) (fun _ => fin _ _ ⟨rfl, rfl⟩)
      refine ⟨_, rfl, _, rfl, _, _, rfl, rfl, _, _, rfl, rfl, ⟨by decide, by decide⟩, _, rfl, D, _, rfl, SqL.of hns, fun q1 hq1 => ?_⟩
      rw [cut_ints]
      have nD1 : D ≠ q1 := ne_of_none hns hq1
      refine ⟨_, rfl, _, rfl, _, _, rfl, rfl, ⟨by decide, by decide⟩, _, rfl, D, _, rfl, SqL.of (by rw [upd_ne nD1]; exact hns), fun q2 hq2 => ?_⟩
      rw [cut_ints]
      refine ⟨q2, _, rfl, SqL.of upd_same, fun q3 hq3 => ?_⟩
      rw [← List.map_reverse]
      have n12 : q1 ≠ q2 := ne_of_none upd_same hq2
      have n13 : q1 ≠ q3 := ne_of_none (by rw [upd_ne n12]; exact upd_same) hq3
      have hz1 : (cutI ns none (some ((many + 1) / 2))).length ≤ ((many + 1) / 2).toNat := by rw [cutI_to _ _ (by omega), List.length_take]; exact Nat.min_le_left _ _
      have hz2 : (cutI ns none (some (many / 2))).length ≤ (many / 2).toNat := by rw [cutI_to _ _ (by omega), List.length_take]; exact Nat.min_le_left _ _
      refine ⟨q1, q3, _, _, rfl, rfl, (by rw [upd_ne n13, upd_ne n12]; exact upd_same), upd_same, ?_, fun q4 hq4 => ?_⟩
      · rw [List.length_map, List.length_map, List.length_reverse]; exact line1000 (by omega)
      rw [← List.map_append]
      have s3 : Same H9 _ := ((Same.new (o := .lst ((cutI ns none (some ((many + 1) / 2))).map V.int)) hq1).trans (Same.new (o := .lst ((cutI ns none (some (many / 2))).map V.int)) hq2)).trans (Same.new (o := .lst ((cutI ns none (some (many / 2))).reverse.map V.int)) hq3)
      refine done q4 _ _ (s3.free hq4) (s3.trans (Same.new hq4)) upd_same ?_ fun n hn => ?_
      · rw [List.length_append, List.length_reverse]; omega
      · rcases List.mem_append.mp hn with z | z
        · exact cutI_mem z
        · exact cutI_mem (List.mem_reverse.mp z)
    rintro σ10 H10 ⟨rfl, rfl⟩
    -- kind == 4
    refine seqJ (fun σ' H' => ∃ ms : List Int, σ' = [some (.ref p), some (.bl long), some (.int many), some (.int reach), some (.int kind), some (.ref D), none] ∧ H' D = some (.lst (ms.map V.int)) ∧ ms.length = many.toNat ∧ (∀ n ∈ ms, -1000000000000 ≤ n ∧ n ≤ 1000000000000) ∧ But p H H' ∧ Hand H' p) (fun fin => ?_) ?_
    · refine ⟨_, rfl, rfl, _, rfl, ?_⟩
      refine ite2 (fun _ => ?_) (fun _ => fin _ _ ⟨ns, rfl, hns, hlen, hb, k6, hh6⟩)
      refine ⟨_, rfl, (by show 0 ≤ sizeLine; decide), fun q1 hq1 => ?_⟩
      have s1 := Same.new (o := .lst []) hq1
      refine ⟨D, q1, ns, [], rfl, rfl, SqL.of (s1 _ _ hns), SqL.of upd_same, _, rfl, ?_⟩
      refine ite2 (fun hne => ?_) (fun _ => fin _ _ ⟨ns, rfl, s1 _ _ hns, hlen, hb, k6.trans s1.but, hh6.same s1⟩)
      have hpos : 0 < many := by
        have : ns ≠ [] := by simpa using hne
        have := List.length_pos_iff.mpr this
        omega
      refine ⟨_, _, rfl, rfl, ⟨by decide, by decide, by decide⟩, _, _, rfl, rfl, _, _, rfl, rfl, ⟨by decide, by decide, by decide⟩, ?_⟩
      have hr12 : (10 : Int) ^ (12 : Int).toNat = 1000000000000 := by decide
      dsimp only
      generalize (10 : Int) ^ (12 : Int).toNat = tw at hr12 ⊢
      refine ⟨(by show 2 ≤ sizeLine; decide), fun q2 hq2 => ?_⟩
      have hh2 := (hh6.same s1).new (o := .lst [.int (0 - tw), .int tw]) hq2
      have n2 : q2 ≠ p := (hh6.same s1).ne hq2
      refine ⟨_, rfl, p, _, rfl, hh2, by decide, by decide, fun g3 H3 a3 b3 hh3 k3 => ?_⟩
      obtain ⟨v, hv, ev⟩ := at_pick (ns := [0 - tw, tw]) a3 b3
      have hvb : -1000000000000 ≤ v ∧ v ≤ 1000000000000 := by
        rw [hr12] at hv
        have : v = 0 - 1000000000000 ∨ v = 1000000000000 := by simpa using hv
        omega
      refine ⟨_, _, _, _, rfl, rfl, SqL.of (k3 _ _ n2 upd_same), ev, ?_⟩
      refine ⟨_, rfl, _, rfl, _, rfl, p, _, rfl, hh3, hpos, by omega, fun g4 H4 a4 b4 hh4 k4 => ?_⟩
      have k34 : But p H10 H4 := ((s1.but.trans (But.new hq2)).trans k3).trans k4
      have hD4 := k34 _ _ nD hns
      refine ⟨D, _, _, g4.toNat, rfl, rfl, hD4, ?_, ?_⟩
      · rw [List.length_map]; exact ix_nat a4 (by omega)
      · refine fin _ _ ⟨ns.set g4.toNat v, rfl, ?_, by rw [List.length_set]; exact hlen, fun n hn => ?_, (k6.trans k34).at fD, hh4.at nD⟩
        · rw [List.map_set]; exact upd_same
        · rcases List.mem_or_eq_of_mem_set hn with z | z
          · exact hb n z
          · rw [z]; exact hvb
    rintro σ11 H11 ⟨ms, rfl, h1, h2, h3, h4, h5⟩
    exact ⟨_, rfl, q D H11 ms fD nD h4 h5 h1 (by omega) h3 fun e => by have := hm2 e; omega⟩
end

def spStretch : Sp := fun vs H Q _ => ∃ (p : Addr) (size : Nat), vs = [.ref p, .int (size : Int)] ∧ Hand H p ∧ 0 < size ∧ size ≤ 300 ∧ ∀ (t : Addr) (H' : Hp) (b e : Int), IsSt size b e → H t = none → But p H H' → Hand H' p → H' t = some (.tup [.int b, .int e]) → Q (.ref t) H'
section
variable {P : Program} {w : World} {K : PySem.W.Frag} {mg : Str → Option Value} {base : Heap}
def x_law_stretch : { t : Stmt // top 29 = t } := ⟨_, by conv => { lhs; whnf }⟩
abbrev s_law_stretch : Stmt := x_law_stretch.1
theorem sc_law_stretch : FnScope ["hand", "size", "begin", "end"] ["hand", "size"] (defScope s_law_stretch) := ⟨rfl, rfl, rfl, by decide +kernel, rfl, by decide +kernel, by decide +kernel⟩
theorem fn_stretch (B : Bl mg bls) (D : DefAt K mg "_law_stretch" s_law_stretch ["hand", "size"]) (F_law_draw : Fn P w K mg base 1 "_law_draw" ["hand", "limit"] spDraw) : Fn P w K mg base 2 "_law_stretch" ["hand", "size"] spStretch := by
  refine D.fn sc_law_stretch (fun vs H Q E h => ?_) (fun f cdv A outer s H vs Q E hr h => ?_)
  · obtain ⟨p, n, rfl, _⟩ := h; rfl
  · obtain ⟨p, size, rfl, hh, hs0, hs1, q⟩ := h
    refine' ⟨_, ?tm, ?rd⟩
    (case tm =>
      (conv => { arg 2; whnf })
      refine' pss_cons ?s0 ?r0
      (case s0 =>
        exact (ps_set (i := 2) sc_law_stretch.nd (by rfl) (by first | exact Or.inl rfl | exact Or.inr rfl) (pe_fn F_law_draw hr (by rfl) (pa_cons (pv 0) (pa_cons (pv 1) pa_nil)))))
      (case r0 =>
        refine' pss_cons ?s0x ?r0x
        (case s0x =>
          exact (ps_set (i := 3) sc_law_stretch.nd (by rfl) (by first | exact Or.inl rfl | exact Or.inr rfl) (pe_op op_add (pe_op op_add (pv 2) pe_int) (pe_fn F_law_draw hr (by rfl) (pa_cons (pv 0) (pa_cons (pe_op op_sub (pv 1) (pv 2)) pa_nil))))))
        (case r0x =>
          refine' pss_one ?s0xx
          (case s0xx =>
            exact (ps_ret (pe_ix ix_list (pe_lst (pa_cons (pe_tup (pa_cons (pv 2) (pa_cons (pv 3) pa_nil))) (pa_cons (pe_tup (pa_cons (pv 2) (pa_cons (pe_callB (call_min2 rfl) (by rfl) (B "min" (by decide +kernel)) (by decide +kernel) (pa_cons (pv 1) (pa_cons (pe_op op_add (pe_op op_add (pv 2) pe_int) (pe_fn F_law_draw hr (by rfl) (pa_cons (pv 0) (pa_cons pe_int pa_nil)))) pa_nil))) pa_nil))) (pa_cons (pe_tup (pa_cons pe_int (pa_cons (pv 1) pa_nil))) pa_nil)))) (pe_fn F_law_draw hr (by rfl) (pa_cons (pv 0) (pa_cons pe_int pa_nil))) (fun _ _ => rfl)))))))
    refine ⟨_, rfl, _, rfl, p, _, rfl, hh, by omega, by omega, fun b H1 a1 b1 hh1 k1 => ?_⟩
    refine ⟨_, rfl, _, _, rfl, rfl, _, rfl, _, rfl, _, rfl, _, _, rfl, rfl, p, _, rfl, hh1, by omega, by omega, fun g2 H2 a2 b2 hh2 k2 => ⟨_, _, rfl, rfl, ?_⟩⟩
    refine ⟨_, rfl, _, rfl, (by show 2 ≤ sizeLine; decide), fun t1 ht1 => ?_⟩
    refine ⟨_, rfl, _, rfl, _, rfl, _, _, rfl, rfl, _, rfl, p, _, rfl, hh2.new ht1, by decide, by decide, fun g3 H3 a3 b3 hh3 k3 => ⟨_, _, rfl, rfl, _, _, rfl, ?_⟩⟩
    refine ⟨(by show 2 ≤ sizeLine; decide), fun t2 ht2 => ?_⟩
    refine ⟨_, rfl, (by show 2 ≤ sizeLine; decide), fun t3 ht3 => ?_⟩
    refine ⟨(by show 3 ≤ sizeLine; decide), fun l hl => ?_⟩
    have n1 : t1 ≠ p := hh2.ne ht1
    have n2 : t2 ≠ p := hh3.ne ht2
    have hh4 := hh3.new (o := .tup [.int b, .int (if b + 1 + g3 < (size : Int) then b + 1 + g3 else (size : Int))]) ht2
    have n3 : t3 ≠ p := hh4.ne ht3
    have hh5 := hh4.new (o := .tup [.int 0, .int (size : Int)]) ht3
    have nl : l ≠ p := hh5.ne hl
    refine ⟨_, rfl, p, _, rfl, hh5.new hl, by decide, by decide, fun g4 H4 a4 b4 hh6 k4 => ?_⟩
    have kA : But p (upd H2 t1 (.tup [.int b, .int (b + 1 + g2)])) H4 := (((k3.trans (But.new ht2)).trans (But.new ht3)).trans (But.new hl)).trans k4
    have e1 : H4 t1 = some (.tup [.int b, .int (b + 1 + g2)]) := kA _ _ n1 upd_same
    have kB : But p (upd H3 t2 (.tup [.int b, .int (if b + 1 + g3 < (size : Int) then b + 1 + g3 else (size : Int))])) H4 := ((But.new ht3).trans (But.new hl)).trans k4
    have e2 := kB _ _ n2 upd_same
    have kC : But p (upd (upd H3 t2 (.tup [.int b, .int (if b + 1 + g3 < (size : Int) then b + 1 + g3 else (size : Int))])) t3 (.tup [.int 0, .int (size : Int)])) H4 := (But.new hl).trans k4
    have e3 := kC _ _ n3 upd_same
    have kk1 : But p H H1 := k1
    have kk2 : But p H H2 := kk1.trans k2
    have kk4 : But p H H4 := (kk2.trans (But.new ht1)).trans kA
    have f1 : H t1 = none := free_of_but kk2 hh2.some ht1
    have kk3 : But p H H3 := (kk2.trans (But.new ht1)).trans k3
    have f2 : H t2 = none := free_of_but kk3 hh3.some ht2
    have f3 : H t3 = none := free_of_but (kk3.trans (But.new ht2)) hh4.some ht3
    obtain ⟨v, hv, ev⟩ := at_pickV (xs := [.ref t1, .ref t2, .ref t3]) a4 b4
    refine ⟨_, _, _, _, rfl, rfl, SqL.of (k4 _ _ nl upd_same), ev, ?_⟩
    have hv' : v = .ref t1 ∨ v = .ref t2 ∨ v = .ref t3 := by simpa using hv
    rcases hv' with rfl | rfl | rfl
    · exact q t1 H4 _ _ ⟨by omega, by omega, by omega⟩ f1 kk4 hh6 e1
    · refine q t2 H4 _ _ ⟨by omega, ?_, ?_⟩ f2 kk4 hh6 e2
      · split <;> omega
      · split <;> omega
    · exact q t3 H4 _ _ ⟨by omega, by omega, by omega⟩ f3 kk4 hh6 e3
end

end Law

set_option Elab.async false
set_option linter.all false
set_option maxRecDepth 100000
set_option maxHeartbeats 4000000
namespace Law
open PySem L2
mutual
theorem Dq.mono {K : PySem.W.Frag} {H H' : Hp} {W : Addr → Prop} (hl : ∀ a xs, H a = some (.lst xs) → W a → H' a = some (.lst xs)) (ht : ∀ a xs, H a = some (.tup xs) → H' a = some (.tup xs)) (hd : ∀ a, H a = some (.dK []) → H' a = some (.dK [])) : ∀ (d : PyData) (v : V), Dq K H W v d → Dq K H' W v d
  | .none, _, h => by cases h; exact .non
  | .bool b, _, h => by cases h; exact .bl b
  | .int i, _, h => by cases h; exact .int i
  | .str x, _, h => by cases h; exact .str x
  | .list ds, _, h => by
    cases h with
    | lst c w ha => exact .lst (hl _ _ c w) w (DqAll.mono hl ht hd ds _ ha)
  | .tuple ds, _, h => by
    cases h with
    | tup c ha => exact .tup (ht _ _ c) (DqAll.mono hl ht hd ds _ ha)
  | .dict _, _, h => by
    cases h with
    | emp c => exact .emp (hd _ c)
theorem DqAll.mono {K : PySem.W.Frag} {H H' : Hp} {W : Addr → Prop} (hl : ∀ a xs, H a = some (.lst xs) → W a → H' a = some (.lst xs)) (ht : ∀ a xs, H a = some (.tup xs) → H' a = some (.tup xs)) (hd : ∀ a, H a = some (.dK []) → H' a = some (.dK [])) : ∀ (ds : List PyData) (vs : List V), DqAll K H W vs ds → DqAll K H' W vs ds
  | [], _, h => by cases h; exact .nil
  | d :: ds, _, h => by
    cases h with
    | cons h1 h2 => exact .cons (Dq.mono hl ht hd d _ h1) (DqAll.mono hl ht hd ds _ h2)
end
theorem dqAll_snoc {K : PySem.W.Frag} {H : Hp} {W : Addr → Prop} {v : V} {d : PyData} (h : Dq K H W v d) : ∀ {vs : List V} {ds : List PyData}, DqAll K H W vs ds → DqAll K H W (vs ++ [v]) (ds ++ [d])
  | _, _, .nil => .cons h .nil
  | _, _, .cons h1 h2 => .cons h1 (dqAll_snoc h h2)
theorem dqAll_app {K : PySem.W.Frag} {H : Hp} {W : Addr → Prop} {ws : List V} {es : List PyData} (h : DqAll K H W ws es) : ∀ {vs : List V} {ds : List PyData}, DqAll K H W vs ds → DqAll K H W (vs ++ ws) (ds ++ es)
  | _, _, .nil => h
  | _, _, .cons h1 h2 => .cons h1 (dqAll_app h h2)
def Okd (d : PyData) : Prop := d.showable = true ∧ d.depth ≤ 3 ∧ d.shown.length ≤ 1925
def OkT (d : PyData) : Prop := ∃ a b, d = .tuple [a, b] ∧ Okd a ∧ Okd b
theorem okd_int {i : Int} (h : Sml i) : Okd (.int i) := by
  have := PyProof.Rows.int_text_len_1921 (show i.natAbs.log2 < 1920 from h)
  refine ⟨by simp only [PyData.showable]; exact decide_eq_true h, by simp only [PyData.depth]; decide, ?_⟩
  simp only [PyData.shown]; omega
theorem okt_show {d : PyData} (h : OkT d) : d.showable = true ∧ d.depth ≤ 5 ∧ d.shown.length ≤ 4000 := by
  obtain ⟨a, b, rfl, ⟨a1, a2, a3⟩, ⟨b1, b2, b3⟩⟩ := h
  refine ⟨by simp only [PyData.showable, PyData.showableAll, a1, b1, Bool.and_self], by simp only [PyData.depth, PyData.depthAll]; omega, ?_⟩
  simp only [PyData.shown, PyData.shownAll]
  unfold tupleText
  have e : (Str.join ", " [a.shown, b.shown]).length + 2 = piled [a.shown, b.shown] := join_length_add _ (by simp)
  have e2 : piled [a.shown, b.shown] = a.shown.length + 2 + (b.shown.length + 2) := by simp [piled]
  rw [Str.length_append, Str.length_append]
  have h1 : ("(" : Str).length = 1 := by decide
  have h2 : ((if [a.shown, b.shown].length == 1 then ",)" else ")" : String) : Str).length ≤ 2 := by split <;> decide
  omega
theorem okl {ds : List PyData} (hl : ds.length ≤ 100) (h : ∀ d ∈ ds, OkT d) : (PyData.list ds).showable = true ∧ (PyData.list ds).depth ≤ 60 ∧ (PyData.list ds).shown.length ≤ sizeLine := by
  refine ⟨?_, ?_, ?_⟩
  · simp only [PyData.showable]
    clear hl
    induction ds with
    | nil => simp only [PyData.showableAll]
    | cons x r ih => simp only [PyData.showableAll, ih fun y hy => h y (List.mem_cons_of_mem _ hy), (okt_show (h x List.mem_cons_self)).1, Bool.and_self]
  · simp only [PyData.depth]
    have : PyData.depthAll ds ≤ 5 := by
      clear hl
      induction ds with
      | nil => simp only [PyData.depthAll]; decide
      | cons x r ih =>
        have h1 := (okt_show (h x List.mem_cons_self)).2.1
        have h2 := ih fun y hy => h y (List.mem_cons_of_mem _ hy)
        simp only [PyData.depthAll]; omega
    omega
  · have e : PyData.shownAll ds = ds.map PyData.shown := by
      clear hl h
      induction ds with
      | nil => simp only [List.map_nil, PyData.shownAll]
      | cons x r ih => simp only [List.map_cons, PyData.shownAll, ih]
    simp only [PyData.shown, e]
    have := listText_le (ds.map PyData.shown) 4000 fun t ht => by
      obtain ⟨n, hn, rfl⟩ := List.mem_map.mp ht
      exact (okt_show (h n hn)).2.2
    rw [List.length_map] at this
    rw [sizeLine_eq]
    omega
theorem okd_none : Okd .none := ⟨by decide, by decide, by decide +kernel⟩
theorem okd_bool (b : Bool) : Okd (.bool b) := by cases b <;> exact ⟨by decide, by decide, by decide +kernel⟩
theorem okd_s : Okd (.str "") := ⟨by decide, by decide, by decide +kernel⟩
theorem okd_s0 : Okd (.str "0") := ⟨by decide, by decide, by decide +kernel⟩
theorem okd_s1 : Okd (.str "1") := ⟨by decide, by decide, by decide +kernel⟩
theorem okd_l0 : Okd (.list [.int 0]) := ⟨by decide +kernel, by decide, by decide +kernel⟩
theorem okd_l : Okd (.list []) := ⟨by decide, by decide, by decide +kernel⟩
theorem okd_t1 : Okd (.tuple [.int 1]) := ⟨by decide +kernel, by decide, by decide +kernel⟩
theorem okd_d : Okd (.dict []) := ⟨by decide, by decide, by decide +kernel⟩

end Law

set_option Elab.async false
set_option linter.all false
set_option maxRecDepth 100000
set_option maxHeartbeats 4000000
namespace Law
open PySem L2
theorem odd_lst {K : PySem.W.Frag} {H : Hp} {a : Addr} {xs : List V} (h : H a = some (.lst xs)) : Odd K H (.ref a) := ⟨"list", .of (.lst h), by simp⟩
theorem odd_tup {K : PySem.W.Frag} {H : Hp} {a : Addr} {xs : List V} (h : H a = some (.tup xs)) : Odd K H (.ref a) := ⟨"tuple", .of (.tup h), by simp⟩
theorem odd_dK {K : PySem.W.Frag} {H : Hp} {a : Addr} {xs : List (Key × V)} (h : H a = some (.dK xs)) : Odd K H (.ref a) := ⟨"dict", .of (.dK h), by simp⟩
theorem odd_str {K : PySem.W.Frag} {H : Hp} {x : Str} : Odd K H (.str x) := ⟨"str", .of (.str x), by simp⟩
theorem odd_bl {K : PySem.W.Frag} {H : Hp} {x : Bool} : Odd K H (.bl x) := ⟨"bool", .of (.bl x), by simp⟩
theorem odd_non {K : PySem.W.Frag} {H : Hp} : Odd K H .non := ⟨"NoneType", .of .non, by simp⟩
theorem Odd.but {K : PySem.W.Frag} {H H' : Hp} {v : V} {p : Addr} (h : Odd K H v) (k : But p H H') (hh : Hand H p) (hh' : Hand H' p) : Odd K H' v := by
  obtain ⟨d, e1, hp, _⟩ := hh
  obtain ⟨d', e1', hp', _⟩ := hh'
  obtain ⟨T, ty, m⟩ := h
  generalize e : Value.type T = t at ty
  refine ⟨T, ?_, m⟩
  rw [e]
  cases ty with
  | of ty =>
    refine .of ?_
    cases ty with
    | non => exact .non
    | bl x => exact .bl x
    | int i => exact .int i
    | str x => exact .str x
    | flt x => exact .flt x
    | @lst a xs c =>
      by_cases z : a = p
      · rw [z]; exact .lst hp'
      · exact .lst (k _ _ z c)
    | frz c => exact .frz (k _ _ (fun z => by rw [z, hp] at c; cases c) c)
    | tup c => exact .tup (k _ _ (fun z => by rw [z, hp] at c; cases c) c)
    | dK c => exact .dK (k _ _ (fun z => by rw [z, hp] at c; cases c) c)
    | dT c => exact .dT (k _ _ (fun z => by rw [z, hp] at c; cases c) c)
    | ins c _ _ _ _ _ => cases e
  | verr c => exact .verr (k _ _ (fun z => by rw [z, hp] at c; cases c) c)
/-- a list of things that are no stretches -/
def BadAll (K : PySem.W.Frag) (H : Hp) (n : Nat) (ts : List Addr) : Prop := ∀ t ∈ ts, ∃ v1 v2 : V, H t = some (.tup [v1, v2]) ∧ BadSt K H n v1 v2
theorem BadAll.nil (K : PySem.W.Frag) (H : Hp) (n : Nat) : BadAll K H n [] := fun t ht => nomatch ht
theorem BadAll.same {K : PySem.W.Frag} {H H' : Hp} {n : Nat} {ts : List Addr} (h : BadAll K H n ts) (s : Same H H') : BadAll K H' n ts := fun t ht => by
  obtain ⟨v1, v2, c, b⟩ := h t ht
  exact ⟨v1, v2, s _ _ c, b.same s⟩
theorem BadSt.but {K : PySem.W.Frag} {H H' : Hp} {n : Nat} {v1 v2 : V} {p : Addr} (h : BadSt K H n v1 v2) (k : But p H H') (hh : Hand H p) (hh' : Hand H' p) : BadSt K H' n v1 v2 := by
  rcases h with h | ⟨hb, h⟩ | h
  · exact .inl (h.but k hh hh')
  · exact .inr (.inl ⟨hb, h.but k hh hh'⟩)
  · exact .inr (.inr h)
theorem BadAll.but {K : PySem.W.Frag} {H H' : Hp} {n : Nat} {ts : List Addr} {p : Addr} (h : BadAll K H n ts) (k : But p H H') (hh : Hand H p) (hh' : Hand H' p) : BadAll K H' n ts := fun t ht => by
  obtain ⟨v1, v2, c, b⟩ := h t ht
  refine ⟨v1, v2, k _ _ (fun z => ?_) c, b.but k hh hh'⟩
  obtain ⟨d, e1, hp, _⟩ := hh
  rw [z, hp] at c; cases c
theorem BadAll.put {K : PySem.W.Frag} {H : Hp} {n : Nat} {ts : List Addr} {T : Addr} {v1 v2 : V} (h : BadAll K H n ts) (hT : H T = none) (b : BadSt K H n v1 v2) : BadAll K (upd H T (.tup [v1, v2])) n (ts ++ [T]) := fun t ht => by
  have s := Same.new (o := .tup [v1, v2]) hT
  rcases List.mem_append.mp ht with z | z
  · exact h.same s t z
  · have e : t = T := by simpa using z
    rw [e]
    exact ⟨v1, v2, upd_same, b.same s⟩
theorem bad_ints {K : PySem.W.Frag} {H : Hp} {n : Nat} {b e : Int} (h : ¬ (0 ≤ b ∧ b < e ∧ e ≤ n)) : BadSt K H n (.int b) (.int e) := .inr (.inr ⟨b, e, rfl, rfl, fun z => h ⟨z.1, z.2, z.3⟩⟩)

structure NoS (K : PySem.W.Frag) (H : Hp) (n : Nat) (W : Addr → Prop) (ts : List Addr) (ds : List PyData) : Prop where
  bad : BadAll K H n ts
  dq : DqAll K H W (ts.map V.ref) ds
  ok : ∀ d ∈ ds, OkT d
  len : ds.length = ts.length
theorem NoS.nil (K : PySem.W.Frag) (H : Hp) (n : Nat) (W : Addr → Prop) : NoS K H n W [] [] := ⟨BadAll.nil K H n, .nil, fun d hd => (nomatch hd), rfl⟩
theorem dq_same {K : PySem.W.Frag} {H H' : Hp} {W : Addr → Prop} {v : V} {d : PyData} (h : Dq K H W v d) (s : Same H H') : Dq K H' W v d := Dq.mono (fun a xs c _ => s _ _ c) (fun a xs c => s _ _ c) (fun a c => s _ _ c) d v h
theorem NoS.same {K : PySem.W.Frag} {H H' : Hp} {n : Nat} {W : Addr → Prop} {ts : List Addr} {ds : List PyData} (h : NoS K H n W ts ds) (s : Same H H') : NoS K H' n W ts ds := ⟨h.bad.same s, DqAll.mono (fun a xs c _ => s _ _ c) (fun a xs c => s _ _ c) (fun a c => s _ _ c) _ _ h.dq, h.ok, h.len⟩
theorem NoS.but {K : PySem.W.Frag} {H H' : Hp} {n : Nat} {W : Addr → Prop} {ts : List Addr} {ds : List PyData} {p : Addr} (h : NoS K H n W ts ds) (k : But p H H') (hW : ∀ a, W a → a ≠ p) (hh : Hand H p) (hh' : Hand H' p) : NoS K H' n W ts ds := by
  obtain ⟨d, e, hp, _⟩ := id hh
  exact ⟨h.bad.but k hh hh', DqAll.mono (fun a xs c w => k _ _ (hW a w) c) (fun a xs c => k _ _ (fun z => by rw [z, hp] at c; cases c) c) (fun a c => k _ _ (fun z => by rw [z, hp] at c; cases c) c) _ _ h.dq, h.ok, h.len⟩
theorem NoS.put {K : PySem.W.Frag} {H : Hp} {n : Nat} {W : Addr → Prop} {ts : List Addr} {ds : List PyData} {T : Addr} {v1 v2 : V} {d1 d2 : PyData} (h : NoS K H n W ts ds) (hT : H T = none) (b : BadSt K H n v1 v2) (q1 : Dq K H W v1 d1) (o1 : Okd d1) (q2 : Dq K H W v2 d2) (o2 : Okd d2) : NoS K (upd H T (.tup [v1, v2])) n W (ts ++ [T]) (ds ++ [.tuple [d1, d2]]) := by
  have s := Same.new (o := .tup [v1, v2]) hT
  refine ⟨h.bad.put hT b, ?_, fun d hd => ?_, by rw [List.length_append, List.length_append, h.len]; rfl⟩
  · rw [List.map_append]
    exact dqAll_snoc (.tup upd_same (.cons (dq_same q1 s) (.cons (dq_same q2 s) .nil))) (h.same s).dq
  · rcases List.mem_append.mp hd with z | z
    · exact h.ok d z
    · exact ⟨d1, d2, by simpa using z, o1, o2⟩
theorem sml_int {n : Int} (h1 : -(10 ^ 31) ≤ n) (h2 : n ≤ 10 ^ 31) : Sml n := by
  unfold Sml
  have h : n.natAbs < 2 ^ 110 := by
    have : (2 : Nat) ^ 110 = 1298074214633706907132624082305024 := by decide
    omega
  by_cases h0 : n.natAbs = 0
  · rw [h0]; decide
  · have := (Nat.log2_lt h0).mpr h
    omega
theorem NoS.app {K : PySem.W.Frag} {H : Hp} {n : Nat} {W : Addr → Prop} {ts us : List Addr} {ds es : List PyData} (h : NoS K H n W ts ds) (k : NoS K H n W us es) : NoS K H n W (ts ++ us) (ds ++ es) := by
  refine ⟨fun t ht => (List.mem_append.mp ht).elim (h.bad t) (k.bad t), ?_, fun d hd => (List.mem_append.mp hd).elim (h.ok d) (k.ok d), by rw [List.length_append, List.length_append, h.len, k.len]⟩
  rw [List.map_append]
  exact dqAll_app k.dq h.dq
abbrev Apart (p : Addr) : Addr → Prop := fun a => a ≠ sysModules ∧ a ≠ p
def spNo (K : PySem.W.Frag) : Sp := fun vs H Q _ => ∃ (p : Addr) (n : Nat), vs = [.ref p, .int (n : Nat)] ∧ n ≤ 300 ∧ Hand H p ∧ ∀ (l : Addr) (H' : Hp) (ts : List Addr) (ds : List PyData), But p H H' → Hand H' p → H l = none → l ≠ sysModules → H' l = some (.lst (ts.map V.ref)) → ts.length = 28 → NoS K H' n (Apart p) ts ds → Q (.ref l) H'
section
variable {P : Program} {w : World} {K : PySem.W.Frag} {mg : Str → Option Value} {base : Heap}
def x_law_no_stretches : { t : Stmt // top 30 = t } := ⟨_, by conv => { lhs; whnf }⟩
abbrev s_law_no_stretches : Stmt := x_law_no_stretches.1
theorem sc_law_no_stretches : FnScope ["hand", "size", "begin", "end", "far", "some"] ["hand", "size"] (defScope s_law_no_stretches) := ⟨rfl, rfl, rfl, by decide +kernel, rfl, by decide +kernel, by decide +kernel⟩
theorem fn_no (B : Bl mg bls) (D : DefAt K mg "_law_no_stretches" s_law_no_stretches ["hand", "size"]) (F_law_draw : Fn P w K mg base 1 "_law_draw" ["hand", "limit"] spDraw) : Fn P w K mg base 2 "_law_no_stretches" ["hand", "size"] (spNo K) := by
  refine D.fn sc_law_no_stretches (fun vs H Q E h => ?_) (fun f cdv A outer s H vs Q E hr h => ?_)
  · obtain ⟨p, n, rfl, _⟩ := h; rfl
  · obtain ⟨p, n, rfl, hn, hh, q⟩ := h
    refine' ⟨_, ?tm, ?rd⟩
    (case tm =>
      (conv => { arg 2; whnf })
      refine' pss_cons ?s0 ?r0
      (case s0 =>
        exact (ps_set (i := 2) sc_law_no_stretches.nd (by rfl) (by first | exact Or.inl rfl | exact Or.inr rfl) (pe_fn F_law_draw hr (by rfl) (pa_cons (pv 0) (pa_cons (pe_op op_add (pv 1) pe_int) pa_nil)))))
      (case r0 =>
        refine' pss_cons ?s0x ?r0x
        (case s0x =>
          exact (ps_set (i := 3) sc_law_no_stretches.nd (by rfl) (by first | exact Or.inl rfl | exact Or.inr rfl) (pe_op op_add (pv 2) (pe_fn F_law_draw hr (by rfl) (pa_cons (pv 0) (pa_cons (pe_op op_sub (pe_op op_add (pv 1) pe_int) (pv 2)) pa_nil))))))
        (case r0x =>
          refine' pss_cons ?s0xx ?r0xx
          (case s0xx =>
            exact (ps_set (i := 4) sc_law_no_stretches.nd (by rfl) (by first | exact Or.inl rfl | exact Or.inr rfl) (pe_op op_add pe_int (pe_fn F_law_draw hr (by rfl) (pa_cons (pv 0) (pa_cons (pe_op op_pow pe_int pe_int) pa_nil))))))
          (case r0xx =>
            refine' pss_cons ?s0xxx ?r0xxx
            (case s0xxx =>
              refine' ps_set (i := 5) ?n0xxx ?h0xxx ?x0xxx ?e0xxx ?w0xxx ?f0xxx
              (case n0xxx => exact sc_law_no_stretches.nd)
              (case h0xxx => rfl)
              (case x0xxx => first | exact Or.inl rfl | exact Or.inr rfl)
              (case w0xxx => rfl)
              (case f0xxx => first | exact .inl rfl | exact .inr rfl)
              (case e0xxx =>
                refine' pe_lstN ?L0xxx
                (case L0xxx =>
                  refine' pa_cons ?a0xxx ?q0xxx ?z0xxx
                  (case z0xxx => rfl)
                  (case a0xxx => exact (pe_tup (pa_cons (pe_un un_neg pe_int) (pa_cons (pv 3) pa_nil))))
                  (case q0xxx =>
                  refine' pa_cons ?a0xxxq ?q0xxxq ?z0xxxq
                  (case z0xxxq => rfl)
                  (case a0xxxq => exact (pe_tup (pa_cons (pv 2) (pa_cons (pe_op op_add (pv 1) pe_int) pa_nil))))
                  (case q0xxxq =>
                  refine' pa_cons ?a0xxxqq ?q0xxxqq ?z0xxxqq
                  (case z0xxxqq => rfl)
                  (case a0xxxqq => exact (pe_tup (pa_cons (pv 2) (pa_cons (pv 2) pa_nil))))
                  (case q0xxxqq =>
                  refine' pa_cons ?a0xxxqqq ?q0xxxqqq ?z0xxxqqq
                  (case z0xxxqqq => rfl)
                  (case a0xxxqqq => exact (pe_tup (pa_cons (pv 3) (pa_cons (pv 2) pa_nil))))
                  (case q0xxxqqq =>
                  refine' pa_cons ?a0xxxqqqq ?q0xxxqqqq ?z0xxxqqqq
                  (case z0xxxqqqq => rfl)
                  (case a0xxxqqqq => exact (pe_tup (pa_cons (pv 1) (pa_cons (pe_op op_add (pv 1) pe_int) pa_nil))))
                  (case q0xxxqqqq =>
                  refine' pa_cons ?a0xxxqqqqq ?q0xxxqqqqq ?z0xxxqqqqq
                  (case z0xxxqqqqq => rfl)
                  (case a0xxxqqqqq => exact (pe_tup (pa_cons (pe_op op_sub pe_int (pv 4)) (pa_cons (pv 3) pa_nil))))
                  (case q0xxxqqqqq =>
                  refine' pa_cons ?a0xxxqqqqqq ?q0xxxqqqqqq ?z0xxxqqqqqq
                  (case z0xxxqqqqqq => rfl)
                  (case a0xxxqqqqqq => exact (pe_tup (pa_cons pe_int (pa_cons pe_int pa_nil))))
                  (case q0xxxqqqqqq =>
                  exact pa_nil))))))))))
            (case r0xxx =>
              refine' pss_cons ?s0xxxx ?r0xxxx
              (case s0xxxx =>
                refine' ps_set (i := 5) ?n0xxxx ?h0xxxx ?x0xxxx ?e0xxxx ?w0xxxx ?f0xxxx
                (case n0xxxx => exact sc_law_no_stretches.nd)
                (case h0xxxx => rfl)
                (case x0xxxx => first | exact Or.inl rfl | exact Or.inr rfl)
                (case w0xxxx => rfl)
                (case f0xxxx => first | exact .inl rfl | exact .inr rfl)
                (case e0xxxx =>
                  refine' pe_op op_catN ?A0xxxx ?B0xxxx
                  (case A0xxxx => exact (pv 5))
                  (case B0xxxx =>
                    refine' pe_lstN ?L0xxxx
                    (case L0xxxx =>
                      refine' pa_cons ?a0xxxx ?q0xxxx ?z0xxxx
                      (case z0xxxx => rfl)
                      (case a0xxxx => exact (pe_tup (pa_cons (pv 2) (pa_cons (pe_op op_add (pv 1) (pv 4)) pa_nil))))
                      (case q0xxxx =>
                      refine' pa_cons ?a0xxxxq ?q0xxxxq ?z0xxxxq
                      (case z0xxxxq => rfl)
                      (case a0xxxxq => exact (pe_tup (pa_cons pe_bl (pa_cons (pv 1) pa_nil))))
                      (case q0xxxxq =>
                      refine' pa_cons ?a0xxxxqq ?q0xxxxqq ?z0xxxxqq
                      (case z0xxxxqq => rfl)
                      (case a0xxxxqq => exact (pe_tup (pa_cons pe_int (pa_cons pe_bl pa_nil))))
                      (case q0xxxxqq =>
                      refine' pa_cons ?a0xxxxqqq ?q0xxxxqqq ?z0xxxxqqq
                      (case z0xxxxqqq => rfl)
                      (case a0xxxxqqq => exact (pe_tup (pa_cons pe_bl (pa_cons (pv 1) pa_nil))))
                      (case q0xxxxqqq =>
                      refine' pa_cons ?a0xxxxqqqq ?q0xxxxqqqq ?z0xxxxqqqq
                      (case z0xxxxqqqq => rfl)
                      (case a0xxxxqqqq => exact (pe_tup (pa_cons pe_non (pa_cons (pv 3) pa_nil))))
                      (case q0xxxxqqqq =>
                      refine' pa_cons ?a0xxxxqqqqq ?q0xxxxqqqqq ?z0xxxxqqqqq
                      (case z0xxxxqqqqq => rfl)
                      (case a0xxxxqqqqq => exact (pe_tup (pa_cons pe_int (pa_cons pe_non pa_nil))))
                      (case q0xxxxqqqqq =>
                      refine' pa_cons ?a0xxxxqqqqqq ?q0xxxxqqqqqq ?z0xxxxqqqqqq
                      (case z0xxxxqqqqqq => rfl)
                      (case a0xxxxqqqqqq => exact (pe_tup (pa_cons pe_str (pa_cons (pv 3) pa_nil))))
                      (case q0xxxxqqqqqq =>
                      exact pa_nil)))))))))))
              (case r0xxxx =>
                refine' pss_cons ?s0xxxxx ?r0xxxxx
                (case s0xxxxx =>
                  refine' ps_set (i := 5) ?n0xxxxx ?h0xxxxx ?x0xxxxx ?e0xxxxx ?w0xxxxx ?f0xxxxx
                  (case n0xxxxx => exact sc_law_no_stretches.nd)
                  (case h0xxxxx => rfl)
                  (case x0xxxxx => first | exact Or.inl rfl | exact Or.inr rfl)
                  (case w0xxxxx => rfl)
                  (case f0xxxxx => first | exact .inl rfl | exact .inr rfl)
                  (case e0xxxxx =>
                    refine' pe_op op_catN ?A0xxxxx ?B0xxxxx
                    (case A0xxxxx => exact (pv 5))
                    (case B0xxxxx =>
                      refine' pe_lstN ?L0xxxxx
                      (case L0xxxxx =>
                        refine' pa_cons ?a0xxxxx ?q0xxxxx ?z0xxxxx
                        (case z0xxxxx => rfl)
                        (case a0xxxxx => exact (pe_tup (pa_cons pe_int (pa_cons pe_str pa_nil))))
                        (case q0xxxxx =>
                        refine' pa_cons ?a0xxxxxq ?q0xxxxxq ?z0xxxxxq
                        (case z0xxxxxq => rfl)
                        (case a0xxxxxq => exact (pe_tup (pa_cons (pe_lstN (pa_cons pe_int pa_nil)) (pa_cons (pv 3) pa_nil))))
                        (case q0xxxxxq =>
                        refine' pa_cons ?a0xxxxxqq ?q0xxxxxqq ?z0xxxxxqq
                        (case z0xxxxxqq => rfl)
                        (case a0xxxxxqq => exact (pe_tup (pa_cons pe_int (pa_cons (pe_tup (pa_cons pe_int pa_nil)) pa_nil))))
                        (case q0xxxxxqq =>
                        refine' pa_cons ?a0xxxxxqqq ?q0xxxxxqqq ?z0xxxxxqqq
                        (case z0xxxxxqqq => rfl)
                        (case a0xxxxxqqq => exact (pe_tup (pa_cons pe_dnewK (pa_cons (pv 3) pa_nil))))
                        (case q0xxxxxqqq =>
                        refine' pa_cons ?a0xxxxxqqqq ?q0xxxxxqqqq ?z0xxxxxqqqq
                        (case z0xxxxxqqqq => rfl)
                        (case a0xxxxxqqqq => exact (pe_tup (pa_cons pe_int (pa_cons (pe_lstN pa_nil) pa_nil))))
                        (case q0xxxxxqqqq =>
                        refine' pa_cons ?a0xxxxxqqqqq ?q0xxxxxqqqqq ?z0xxxxxqqqqq
                        (case z0xxxxxqqqqq => rfl)
                        (case a0xxxxxqqqqq => exact (pe_tup (pa_cons (pe_op op_pow pe_int pe_int) (pa_cons (pv 3) pa_nil))))
                        (case q0xxxxxqqqqq =>
                        refine' pa_cons ?a0xxxxxqqqqqq ?q0xxxxxqqqqqq ?z0xxxxxqqqqqq
                        (case z0xxxxxqqqqqq => rfl)
                        (case a0xxxxxqqqqqq => exact (pe_tup (pa_cons pe_int (pa_cons (pe_op op_pow pe_int pe_int) pa_nil))))
                        (case q0xxxxxqqqqqq =>
                        refine' pa_cons ?a0xxxxxqqqqqqq ?q0xxxxxqqqqqqq ?z0xxxxxqqqqqqq
                        (case z0xxxxxqqqqqqq => rfl)
                        (case a0xxxxxqqqqqqq => exact (pe_tup (pa_cons pe_int (pa_cons (pe_un un_neg pe_int) pa_nil))))
                        (case q0xxxxxqqqqqqq =>
                        exact pa_nil))))))))))))
                (case r0xxxxx =>
                  refine' pss_one ?s0xxxxxx
                  (case s0xxxxxx =>
                    refine' ps_ret ?e0xxxxxx
                    (case e0xxxxxx =>
                      refine' pe_op op_catN ?A0xxxxxx ?B0xxxxxx
                      (case A0xxxxxx => exact (pv 5))
                      (case B0xxxxxx =>
                        refine' pe_lstN ?L0xxxxxx
                        (case L0xxxxxx =>
                          refine' pa_cons ?a0xxxxxx ?q0xxxxxx ?z0xxxxxx
                          (case z0xxxxxx => rfl)
                          (case a0xxxxxx => exact (pe_tup (pa_cons (pe_un un_neg pe_int) (pa_cons (pv 1) pa_nil))))
                          (case q0xxxxxx =>
                          refine' pa_cons ?a0xxxxxxq ?q0xxxxxxq ?z0xxxxxxq
                          (case z0xxxxxxq => rfl)
                          (case a0xxxxxxq => exact (pe_tup (pa_cons (pe_op op_sub pe_int (pv 1)) (pa_cons (pv 1) pa_nil))))
                          (case q0xxxxxxq =>
                          refine' pa_cons ?a0xxxxxxqq ?q0xxxxxxqq ?z0xxxxxxqq
                          (case z0xxxxxxqq => rfl)
                          (case a0xxxxxxqq => exact (pe_tup (pa_cons (pv 2) (pa_cons (pe_op op_sub (pe_op op_sub pe_int pe_int) (pv 2)) pa_nil))))
                          (case q0xxxxxxqq =>
                          refine' pa_cons ?a0xxxxxxqqq ?q0xxxxxxqqq ?z0xxxxxxqqq
                          (case z0xxxxxxqqq => rfl)
                          (case a0xxxxxxqqq => exact (pe_tup (pa_cons pe_str (pa_cons pe_str pa_nil))))
                          (case q0xxxxxxqqq =>
                          refine' pa_cons ?a0xxxxxxqqqq ?q0xxxxxxqqqq ?z0xxxxxxqqqq
                          (case z0xxxxxxqqqq => rfl)
                          (case a0xxxxxxqqqq => exact (pe_tup (pa_cons pe_non (pa_cons pe_non pa_nil))))
                          (case q0xxxxxxqqqq =>
                          refine' pa_cons ?a0xxxxxxqqqqq ?q0xxxxxxqqqqq ?z0xxxxxxqqqqq
                          (case z0xxxxxxqqqqq => rfl)
                          (case a0xxxxxxqqqqq => exact (pe_tup (pa_cons (pe_un un_neg pe_int) (pa_cons (pe_un un_neg pe_int) pa_nil))))
                          (case q0xxxxxxqqqqq =>
                          exact pa_nil)))))))))))))))))
    refine ⟨_, rfl, _, rfl, _, _, rfl, rfl, p, _, rfl, hh, by omega, by omega, fun b0 H1 b1 b2 hh1 k1 => ?_⟩
    dsimp only [gName]
    refine ⟨_, rfl, _, rfl, _, rfl, _, _, rfl, rfl, _, rfl, _, _, rfl, rfl, p, _, rfl, hh1, by omega, by omega, fun g H2 g0 g1 hh2 k2 => ?_⟩
    refine ⟨_, _, rfl, rfl, ?_⟩
    dsimp only [gName]
    obtain ⟨e0, he0⟩ : ∃ e0 : Int, e0 = b0 + g := ⟨_, rfl⟩
    rw [← he0]
    refine ⟨_, rfl, _, _, rfl, rfl, ⟨by decide, by decide, by decide⟩, p, _, rfl, hh2, by decide, by decide, fun fr H5 f0 f1 hh5 k5 => ?_⟩
    refine ⟨_, _, rfl, rfl, ?_⟩
    have h9 : (10 : Int) ^ (9 : Int).toNat = 1000000000 := by decide +kernel
    have f1' : fr < (10 : Int) ^ (9 : Int).toNat := f1
    rw [h9] at f1'
    set_option simprocs false in dsimp only [gName]
    obtain ⟨fa, hfa⟩ : ∃ fa : Int, fa = 1 + fr := ⟨_, rfl⟩
    rw [← hfa]
    clear f1 h9
    have kk5 : But p H H5 := (k1.trans k2).trans k5
    obtain ⟨t30, e30⟩ : ∃ t : Int, t = (10 : Int) ^ (30 : Int).toNat := ⟨_, rfl⟩
    have t300 : 1000 ≤ t30 := by rw [e30]; decide +kernel
    have t301 : t30 ≤ 10 ^ 31 := by rw [e30]; decide +kernel
    refine ⟨_, rfl, _, rfl, (by show 2 ≤ sizeLine; decide), fun T1 hT1 => ?_⟩
    set_option simprocs false in dsimp only [gName]
    have sT1 := Same.new (o := .tup [.int (-1), .int (e0)]) hT1
    have bT1 := NoS.put (v1 := .int (-1)) (v2 := .int (e0)) (NoS.nil K H5 n (Apart p)) hT1 (bad_ints (by omega)) (.int _) (okd_int (sml_int (by omega) (by omega))) (.int _) (okd_int (sml_int (by omega) (by omega)))
    generalize upd H5 T1 (.tup [.int (-1), .int (e0)]) = G1 at sT1 bT1 ⊢
    refine ⟨_, rfl, _, rfl, _, _, rfl, rfl, (by show 2 ≤ sizeLine; decide), fun T2 hT2 => ?_⟩
    set_option simprocs false in dsimp only [gName]
    have sT2 := Same.new (o := .tup [.int (b0), .int ((n : Int) + 1)]) hT2
    have bT2 := NoS.put (v1 := .int (b0)) (v2 := .int ((n : Int) + 1)) bT1 hT2 (bad_ints (by omega)) (.int _) (okd_int (sml_int (by omega) (by omega))) (.int _) (okd_int (sml_int (by omega) (by omega)))
    generalize upd G1 T2 (.tup [.int (b0), .int ((n : Int) + 1)]) = G2 at sT2 bT2 ⊢
    refine ⟨_, rfl, _, rfl, (by show 2 ≤ sizeLine; decide), fun T3 hT3 => ?_⟩
    set_option simprocs false in dsimp only [gName]
    have sT3 := Same.new (o := .tup [.int (b0), .int (b0)]) hT3
    have bT3 := NoS.put (v1 := .int (b0)) (v2 := .int (b0)) bT2 hT3 (bad_ints (by omega)) (.int _) (okd_int (sml_int (by omega) (by omega))) (.int _) (okd_int (sml_int (by omega) (by omega)))
    generalize upd G2 T3 (.tup [.int (b0), .int (b0)]) = G3 at sT3 bT3 ⊢
    refine ⟨_, rfl, _, rfl, (by show 2 ≤ sizeLine; decide), fun T4 hT4 => ?_⟩
    set_option simprocs false in dsimp only [gName]
    have sT4 := Same.new (o := .tup [.int (e0), .int (b0)]) hT4
    have bT4 := NoS.put (v1 := .int (e0)) (v2 := .int (b0)) bT3 hT4 (bad_ints (by omega)) (.int _) (okd_int (sml_int (by omega) (by omega))) (.int _) (okd_int (sml_int (by omega) (by omega)))
    generalize upd G3 T4 (.tup [.int (e0), .int (b0)]) = G4 at sT4 bT4 ⊢
    refine ⟨_, rfl, _, rfl, _, _, rfl, rfl, (by show 2 ≤ sizeLine; decide), fun T5 hT5 => ?_⟩
    set_option simprocs false in dsimp only [gName]
    have sT5 := Same.new (o := .tup [.int ((n : Nat)), .int ((n : Int) + 1)]) hT5
    have bT5 := NoS.put (v1 := .int ((n : Nat))) (v2 := .int ((n : Int) + 1)) bT4 hT5 (bad_ints (by omega)) (.int _) (okd_int (sml_int (by omega) (by omega))) (.int _) (okd_int (sml_int (by omega) (by omega)))
    generalize upd G4 T5 (.tup [.int ((n : Nat)), .int ((n : Int) + 1)]) = G5 at sT5 bT5 ⊢
    refine ⟨_, rfl, _, _, rfl, rfl, _, rfl, (by show 2 ≤ sizeLine; decide), fun T6 hT6 => ?_⟩
    set_option simprocs false in dsimp only [gName]
    have sT6 := Same.new (o := .tup [.int (0 - fa), .int (e0)]) hT6
    have bT6 := NoS.put (v1 := .int (0 - fa)) (v2 := .int (e0)) bT5 hT6 (bad_ints (by omega)) (.int _) (okd_int (sml_int (by omega) (by omega))) (.int _) (okd_int (sml_int (by omega) (by omega)))
    generalize upd G5 T6 (.tup [.int (0 - fa), .int (e0)]) = G6 at sT6 bT6 ⊢
    refine ⟨(by show 2 ≤ sizeLine; decide), fun T7 hT7 => ?_⟩
    set_option simprocs false in dsimp only [gName]
    have sT7 := Same.new (o := .tup [.int (0), .int (0)]) hT7
    have bT7 := NoS.put (v1 := .int (0)) (v2 := .int (0)) bT6 hT7 (bad_ints (by omega)) (.int _) (okd_int (sml_int (by omega) (by omega))) (.int _) (okd_int (sml_int (by omega) (by omega)))
    generalize upd G6 T7 (.tup [.int (0), .int (0)]) = G7 at sT7 bT7 ⊢
    refine ⟨(by show 7 ≤ sizeLine; decide), fun L1 hL1 gL1 => ?_⟩
    have sL1 := Same.new (o := .lst ([T1, T2, T3, T4, T5, T6, T7].map V.ref)) hL1
    have cL1 : upd G7 L1 (.lst ([T1, T2, T3, T4, T5, T6, T7].map V.ref)) L1 = some (.lst ([T1, T2, T3, T4, T5, T6, T7].map V.ref)) := upd_same
    show gName 5 _ _ (upd G7 L1 (.lst ([T1, T2, T3, T4, T5, T6, T7].map V.ref))) _
    have lL1 : ([T1, T2, T3, T4, T5, T6, T7] : List Addr).length = 7 := rfl
    have s7 : Same H5 G7 := sT1.trans (sT2.trans (sT3.trans (sT4.trans (sT5.trans (sT6.trans sT7)))))
    have b1' : NoS K G7 n (Apart p) [T1, T2, T3, T4, T5, T6, T7] _ := bT7
    generalize [T1, T2, T3, T4, T5, T6, T7] = ts1 at sL1 cL1 b1' lL1 ⊢
    have b1s := b1'.same sL1
    generalize upd G7 L1 (.lst (ts1.map V.ref)) = I0 at sL1 cL1 b1s ⊢
    clear bT1 bT2 bT3 bT4 bT5 bT6 bT7 b1'
    dsimp only [gName]
    refine ⟨_, rfl, _, rfl, _, rfl, _, rfl, _, _, rfl, rfl, (by show 2 ≤ sizeLine; decide), fun T8 hT8 => ?_⟩
    set_option simprocs false in dsimp only [gName]
    have sT8 := Same.new (o := .tup [.int (b0), .int ((n : Int) + fa)]) hT8
    have bT8 := NoS.put (v1 := .int (b0)) (v2 := .int ((n : Int) + fa)) (NoS.nil K I0 n (Apart p)) hT8 (bad_ints (by omega)) (.int _) (okd_int (sml_int (by omega) (by omega))) (.int _) (okd_int (sml_int (by omega) (by omega)))
    generalize upd I0 T8 (.tup [.int (b0), .int ((n : Int) + fa)]) = G8 at sT8 bT8 ⊢
    refine ⟨_, rfl, (by show 2 ≤ sizeLine; decide), fun T9 hT9 => ?_⟩
    set_option simprocs false in dsimp only [gName]
    have sT9 := Same.new (o := .tup [.bl true, .int ((n : Nat))]) hT9
    have bT9 := NoS.put (v1 := .bl true) (v2 := .int ((n : Nat))) bT8 hT9 (.inl odd_bl) (.bl true) (okd_bool true) (.int _) (okd_int (sml_int (by omega) (by omega)))
    generalize upd G8 T9 (.tup [.bl true, .int ((n : Nat))]) = G9 at sT9 bT9 ⊢
    refine ⟨(by show 2 ≤ sizeLine; decide), fun T10 hT10 => ?_⟩
    set_option simprocs false in dsimp only [gName]
    have sT10 := Same.new (o := .tup [.int (0), .bl true]) hT10
    have bT10 := NoS.put (v1 := .int (0)) (v2 := .bl true) bT9 hT10 (.inr (.inl ⟨⟨_, rfl⟩, odd_bl⟩)) (.int _) (okd_int (sml_int (by omega) (by omega))) (.bl true) (okd_bool true)
    generalize upd G9 T10 (.tup [.int (0), .bl true]) = G10 at sT10 bT10 ⊢
    refine ⟨_, rfl, (by show 2 ≤ sizeLine; decide), fun T11 hT11 => ?_⟩
    set_option simprocs false in dsimp only [gName]
    have sT11 := Same.new (o := .tup [.bl false, .int ((n : Nat))]) hT11
    have bT11 := NoS.put (v1 := .bl false) (v2 := .int ((n : Nat))) bT10 hT11 (.inl odd_bl) (.bl false) (okd_bool false) (.int _) (okd_int (sml_int (by omega) (by omega)))
    generalize upd G10 T11 (.tup [.bl false, .int ((n : Nat))]) = G11 at sT11 bT11 ⊢
    refine ⟨_, rfl, (by show 2 ≤ sizeLine; decide), fun T12 hT12 => ?_⟩
    set_option simprocs false in dsimp only [gName]
    have sT12 := Same.new (o := .tup [.non, .int (e0)]) hT12
    have bT12 := NoS.put (v1 := .non) (v2 := .int (e0)) bT11 hT12 (.inl odd_non) .non okd_none (.int _) (okd_int (sml_int (by omega) (by omega)))
    generalize upd G11 T12 (.tup [.non, .int (e0)]) = G12 at sT12 bT12 ⊢
    refine ⟨(by show 2 ≤ sizeLine; decide), fun T13 hT13 => ?_⟩
    set_option simprocs false in dsimp only [gName]
    have sT13 := Same.new (o := .tup [.int (0), .non]) hT13
    have bT13 := NoS.put (v1 := .int (0)) (v2 := .non) bT12 hT13 (.inr (.inl ⟨⟨_, rfl⟩, odd_non⟩)) (.int _) (okd_int (sml_int (by omega) (by omega))) .non okd_none
    generalize upd G12 T13 (.tup [.int (0), .non]) = G13 at sT13 bT13 ⊢
    refine ⟨_, rfl, (by show 2 ≤ sizeLine; decide), fun T14 hT14 => ?_⟩
    set_option simprocs false in dsimp only [gName]
    have sT14 := Same.new (o := .tup [.str "0", .int (e0)]) hT14
    have bT14 := NoS.put (v1 := .str "0") (v2 := .int (e0)) bT13 hT14 (.inl odd_str) (.str _) okd_s0 (.int _) (okd_int (sml_int (by omega) (by omega)))
    generalize upd G13 T14 (.tup [.str "0", .int (e0)]) = G14 at sT14 bT14 ⊢
    refine ⟨(by show 7 ≤ sizeLine; decide), fun L2 hL2 gL2 => ?_⟩
    have sL2 := Same.new (o := .lst ([T8, T9, T10, T11, T12, T13, T14].map V.ref)) hL2
    have cL2 : upd G14 L2 (.lst ([T8, T9, T10, T11, T12, T13, T14].map V.ref)) L2 = some (.lst ([T8, T9, T10, T11, T12, T13, T14].map V.ref)) := upd_same
    show rCatN _ _ (upd G14 L2 (.lst ([T8, T9, T10, T11, T12, T13, T14].map V.ref))) _
    have lL2 : ([T8, T9, T10, T11, T12, T13, T14] : List Addr).length = 7 := rfl
    have s14 : Same I0 G14 := sT8.trans (sT9.trans (sT10.trans (sT11.trans (sT12.trans (sT13.trans sT14)))))
    have bL2' : NoS K G14 n (Apart p) [T8, T9, T10, T11, T12, T13, T14] _ := bT14
    generalize [T8, T9, T10, T11, T12, T13, T14] = ts2 at sL2 cL2 bL2' lL2 ⊢
    have bL2s := bL2'.same sL2
    generalize upd G14 L2 (.lst (ts2.map V.ref)) = I1 at sL2 cL2 bL2s ⊢
    have zL2 := s14.trans sL2
    refine ⟨L1, L2, ts1.map V.ref, ts2.map V.ref, rfl, rfl, zL2 _ _ cL1, cL2, by rw [List.length_map, List.length_map, lL1, lL2, sizeLine_eq]; decide, fun L3 hL3 gL3 => ?_⟩
    rw [← List.map_append]
    have sL3 := Same.new (o := .lst ((ts1 ++ ts2).map V.ref)) hL3
    have cL3 : upd I1 L3 (.lst ((ts1 ++ ts2).map V.ref)) L3 = some (.lst ((ts1 ++ ts2).map V.ref)) := upd_same
    have bL3s := ((b1s.same zL2).app bL2s).same sL3
    have lL3 : (ts1 ++ ts2).length = 14 := by rw [List.length_append, lL1, lL2]
    generalize ts1 ++ ts2 = ts3 at sL3 cL3 bL3s lL3 ⊢
    generalize upd I1 L3 (.lst (ts3.map V.ref)) = I2 at sL3 cL3 bL3s ⊢
    have yL3 := zL2.trans sL3
    dsimp only [gName]
    refine ⟨_, rfl, (by show 2 ≤ sizeLine; decide), fun T15 hT15 => ?_⟩
    set_option simprocs false in dsimp only [gName]
    have sT15 := Same.new (o := .tup [.int (0), .str "1"]) hT15
    have bT15 := NoS.put (v1 := .int (0)) (v2 := .str "1") (NoS.nil K I2 n (Apart p)) hT15 (.inr (.inl ⟨⟨_, rfl⟩, odd_str⟩)) (.int _) (okd_int (sml_int (by omega) (by omega))) (.str _) okd_s1
    generalize upd I2 T15 (.tup [.int (0), .str "1"]) = G15 at sT15 bT15 ⊢
    refine ⟨(by show 1 ≤ sizeLine; decide), fun A1 hA1 gA1 => ?_⟩
    have sA1 := Same.new (o := .lst [.int 0]) hA1
    have cA1 : upd G15 A1 (.lst [.int 0]) A1 = some (.lst [.int 0]) := upd_same
    have bA1 := bT15.same sA1
    have wA1 : Apart p A1 := ⟨gA1, (hh5.same (s7.trans (sL1.trans (yL3.trans sT15)))).ne hA1⟩
    generalize upd G15 A1 (.lst [.int 0]) = M1 at sA1 cA1 bA1 ⊢
    refine ⟨_, rfl, (by show 2 ≤ sizeLine; decide), fun T16 hT16 => ?_⟩
    set_option simprocs false in dsimp only [gName]
    have sT16 := Same.new (o := .tup [.ref A1, .int (e0)]) hT16
    have bT16 := NoS.put (v1 := .ref A1) (v2 := .int (e0)) bA1 hT16 (.inl (odd_lst cA1)) (.lst cA1 wA1 (.cons (.int 0) .nil)) okd_l0 (.int _) (okd_int (sml_int (by omega) (by omega)))
    generalize upd M1 T16 (.tup [.ref A1, .int (e0)]) = G16 at sT16 bT16 ⊢
    refine ⟨(by show 1 ≤ sizeLine; decide), fun A2 hA2 => ?_⟩
    have sA2 := Same.new (o := .tup [.int 1]) hA2
    have cA2 : upd G16 A2 (.tup [.int 1]) A2 = some (.tup [.int 1]) := upd_same
    have bA2 := bT16.same sA2
    generalize upd G16 A2 (.tup [.int 1]) = M2 at sA2 cA2 bA2 ⊢
    refine ⟨(by show 2 ≤ sizeLine; decide), fun T17 hT17 => ?_⟩
    set_option simprocs false in dsimp only [gName]
    have sT17 := Same.new (o := .tup [.int (0), .ref A2]) hT17
    have bT17 := NoS.put (v1 := .int (0)) (v2 := .ref A2) bA2 hT17 (.inr (.inl ⟨⟨_, rfl⟩, (odd_tup cA2)⟩)) (.int _) (okd_int (sml_int (by omega) (by omega))) (.tup cA2 (.cons (.int 1) .nil)) okd_t1
    generalize upd M2 T17 (.tup [.int (0), .ref A2]) = G17 at sT17 bT17 ⊢
    refine fun A3 hA3 => ?_
    have sA3 := Same.new (o := .dK []) hA3
    have cA3 : upd G17 A3 (.dK []) A3 = some (.dK []) := upd_same
    have bA3 := bT17.same sA3
    generalize upd G17 A3 (.dK []) = M3 at sA3 cA3 bA3 ⊢
    refine ⟨_, rfl, (by show 2 ≤ sizeLine; decide), fun T18 hT18 => ?_⟩
    set_option simprocs false in dsimp only [gName]
    have sT18 := Same.new (o := .tup [.ref A3, .int (e0)]) hT18
    have bT18 := NoS.put (v1 := .ref A3) (v2 := .int (e0)) bA3 hT18 (.inl (odd_dK cA3)) (.emp cA3) okd_d (.int _) (okd_int (sml_int (by omega) (by omega)))
    generalize upd M3 T18 (.tup [.ref A3, .int (e0)]) = G18 at sT18 bT18 ⊢
    refine ⟨(by show 0 ≤ sizeLine; decide), fun A4 hA4 gA4 => ?_⟩
    have sA4 := Same.new (o := .lst []) hA4
    have cA4 : upd G18 A4 (.lst []) A4 = some (.lst []) := upd_same
    have bA4 := bT18.same sA4
    have s18 : Same I2 G18 := sT15.trans (sA1.trans (sT16.trans (sA2.trans (sT17.trans (sA3.trans sT18)))))
    have wA4 : Apart p A4 := ⟨gA4, (hh5.same (s7.trans (sL1.trans (yL3.trans s18)))).ne hA4⟩
    generalize upd G18 A4 (.lst []) = M4 at sA4 cA4 bA4 ⊢
    refine ⟨(by show 2 ≤ sizeLine; decide), fun T19 hT19 => ?_⟩
    set_option simprocs false in dsimp only [gName]
    have sT19 := Same.new (o := .tup [.int (0), .ref A4]) hT19
    have bT19 := NoS.put (v1 := .int (0)) (v2 := .ref A4) bA4 hT19 (.inr (.inl ⟨⟨_, rfl⟩, (odd_lst cA4)⟩)) (.int _) (okd_int (sml_int (by omega) (by omega))) (.lst cA4 wA4 .nil) okd_l
    generalize upd M4 T19 (.tup [.int (0), .ref A4]) = G19 at sT19 bT19 ⊢
    refine ⟨_, _, rfl, rfl, ⟨by decide, by decide, by decide⟩, _, rfl, (by show 2 ≤ sizeLine; decide), fun T20 hT20 => ?_⟩
    set_option simprocs false in dsimp only [gName]
    rw [← e30]
    have sT20 := Same.new (o := .tup [.int (t30), .int (e0)]) hT20
    have bT20 := NoS.put (v1 := .int (t30)) (v2 := .int (e0)) bT19 hT20 (bad_ints (by omega)) (.int _) (okd_int (sml_int (by omega) (by omega))) (.int _) (okd_int (sml_int (by omega) (by omega)))
    generalize upd G19 T20 (.tup [.int (t30), .int (e0)]) = G20 at sT20 bT20 ⊢
    refine ⟨_, _, rfl, rfl, ⟨by decide, by decide, by decide⟩, (by show 2 ≤ sizeLine; decide), fun T21 hT21 => ?_⟩
    set_option simprocs false in dsimp only [gName]
    rw [← e30]
    have sT21 := Same.new (o := .tup [.int (0), .int (t30)]) hT21
    have bT21 := NoS.put (v1 := .int (0)) (v2 := .int (t30)) bT20 hT21 (bad_ints (by omega)) (.int _) (okd_int (sml_int (by omega) (by omega))) (.int _) (okd_int (sml_int (by omega) (by omega)))
    generalize upd G20 T21 (.tup [.int (0), .int (t30)]) = G21 at sT21 bT21 ⊢
    refine ⟨_, rfl, (by show 2 ≤ sizeLine; decide), fun T22 hT22 => ?_⟩
    set_option simprocs false in dsimp only [gName]
    have sT22 := Same.new (o := .tup [.int (0), .int (-1)]) hT22
    have bT22 := NoS.put (v1 := .int (0)) (v2 := .int (-1)) bT21 hT22 (bad_ints (by omega)) (.int _) (okd_int (sml_int (by omega) (by omega))) (.int _) (okd_int (sml_int (by omega) (by omega)))
    generalize upd G21 T22 (.tup [.int (0), .int (-1)]) = G22 at sT22 bT22 ⊢
    refine ⟨(by show 8 ≤ sizeLine; decide), fun L4 hL4 gL4 => ?_⟩
    have sL4 := Same.new (o := .lst ([T15, T16, T17, T18, T19, T20, T21, T22].map V.ref)) hL4
    have cL4 : upd G22 L4 (.lst ([T15, T16, T17, T18, T19, T20, T21, T22].map V.ref)) L4 = some (.lst ([T15, T16, T17, T18, T19, T20, T21, T22].map V.ref)) := upd_same
    show rCatN _ _ (upd G22 L4 (.lst ([T15, T16, T17, T18, T19, T20, T21, T22].map V.ref))) _
    have lL4 : ([T15, T16, T17, T18, T19, T20, T21, T22] : List Addr).length = 8 := rfl
    have s22 : Same I2 G22 := s18.trans (sA4.trans (sT19.trans (sT20.trans (sT21.trans sT22))))
    have bL4' : NoS K G22 n (Apart p) [T15, T16, T17, T18, T19, T20, T21, T22] _ := bT22
    generalize [T15, T16, T17, T18, T19, T20, T21, T22] = ts4 at sL4 cL4 bL4' lL4 ⊢
    have bL4s := bL4'.same sL4
    generalize upd G22 L4 (.lst (ts4.map V.ref)) = I3 at sL4 cL4 bL4s ⊢
    have zL4 := s22.trans sL4
    refine ⟨L3, L4, ts3.map V.ref, ts4.map V.ref, rfl, rfl, zL4 _ _ cL3, cL4, by rw [List.length_map, List.length_map, lL3, lL4, sizeLine_eq]; decide, fun L5 hL5 gL5 => ?_⟩
    rw [← List.map_append]
    have sL5 := Same.new (o := .lst ((ts3 ++ ts4).map V.ref)) hL5
    have cL5 : upd I3 L5 (.lst ((ts3 ++ ts4).map V.ref)) L5 = some (.lst ((ts3 ++ ts4).map V.ref)) := upd_same
    have bL5s := ((bL3s.same zL4).app bL4s).same sL5
    have lL5 : (ts3 ++ ts4).length = 22 := by rw [List.length_append, lL3, lL4]
    generalize ts3 ++ ts4 = ts5 at sL5 cL5 bL5s lL5 ⊢
    generalize upd I3 L5 (.lst (ts5.map V.ref)) = I4 at sL5 cL5 bL5s ⊢
    have yL5 := zL4.trans sL5
    dsimp only [gName]
    refine ⟨_, rfl, _, rfl, _, rfl, (by show 2 ≤ sizeLine; decide), fun T23 hT23 => ?_⟩
    set_option simprocs false in dsimp only [gName]
    have sT23 := Same.new (o := .tup [.int (-1), .int ((n : Nat))]) hT23
    have bT23 := NoS.put (v1 := .int (-1)) (v2 := .int ((n : Nat))) (NoS.nil K I4 n (Apart p)) hT23 (bad_ints (by omega)) (.int _) (okd_int (sml_int (by omega) (by omega))) (.int _) (okd_int (sml_int (by omega) (by omega)))
    generalize upd I4 T23 (.tup [.int (-1), .int ((n : Nat))]) = G23 at sT23 bT23 ⊢
    refine ⟨_, rfl, _, _, rfl, rfl, _, rfl, (by show 2 ≤ sizeLine; decide), fun T24 hT24 => ?_⟩
    set_option simprocs false in dsimp only [gName]
    have sT24 := Same.new (o := .tup [.int (0 - (n : Int)), .int ((n : Nat))]) hT24
    have bT24 := NoS.put (v1 := .int (0 - (n : Int))) (v2 := .int ((n : Nat))) bT23 hT24 (bad_ints (by omega)) (.int _) (okd_int (sml_int (by omega) (by omega))) (.int _) (okd_int (sml_int (by omega) (by omega)))
    generalize upd G23 T24 (.tup [.int (0 - (n : Int)), .int ((n : Nat))]) = G24 at sT24 bT24 ⊢
    refine ⟨_, rfl, _, _, rfl, rfl, _, rfl, _, _, rfl, rfl, (by show 2 ≤ sizeLine; decide), fun T25 hT25 => ?_⟩
    set_option simprocs false in dsimp only [gName]
    have sT25 := Same.new (o := .tup [.int (b0), .int (0 - 1 - b0)]) hT25
    have bT25 := NoS.put (v1 := .int (b0)) (v2 := .int (0 - 1 - b0)) bT24 hT25 (bad_ints (by omega)) (.int _) (okd_int (sml_int (by omega) (by omega))) (.int _) (okd_int (sml_int (by omega) (by omega)))
    generalize upd G24 T25 (.tup [.int (b0), .int (0 - 1 - b0)]) = G25 at sT25 bT25 ⊢
    refine ⟨(by show 2 ≤ sizeLine; decide), fun T26 hT26 => ?_⟩
    set_option simprocs false in dsimp only [gName]
    have sT26 := Same.new (o := .tup [.str "", .str ""]) hT26
    have bT26 := NoS.put (v1 := .str "") (v2 := .str "") bT25 hT26 (.inl odd_str) (.str _) okd_s (.str _) okd_s
    generalize upd G25 T26 (.tup [.str "", .str ""]) = G26 at sT26 bT26 ⊢
    refine ⟨(by show 2 ≤ sizeLine; decide), fun T27 hT27 => ?_⟩
    set_option simprocs false in dsimp only [gName]
    have sT27 := Same.new (o := .tup [.non, .non]) hT27
    have bT27 := NoS.put (v1 := .non) (v2 := .non) bT26 hT27 (.inl odd_non) .non okd_none .non okd_none
    generalize upd G26 T27 (.tup [.non, .non]) = G27 at sT27 bT27 ⊢
    refine ⟨_, rfl, _, rfl, (by show 2 ≤ sizeLine; decide), fun T28 hT28 => ?_⟩
    set_option simprocs false in dsimp only [gName]
    have sT28 := Same.new (o := .tup [.int (-2), .int (-1)]) hT28
    have bT28 := NoS.put (v1 := .int (-2)) (v2 := .int (-1)) bT27 hT28 (bad_ints (by omega)) (.int _) (okd_int (sml_int (by omega) (by omega))) (.int _) (okd_int (sml_int (by omega) (by omega)))
    generalize upd G27 T28 (.tup [.int (-2), .int (-1)]) = G28 at sT28 bT28 ⊢
    refine ⟨(by show 6 ≤ sizeLine; decide), fun L6 hL6 gL6 => ?_⟩
    have sL6 := Same.new (o := .lst ([T23, T24, T25, T26, T27, T28].map V.ref)) hL6
    have cL6 : upd G28 L6 (.lst ([T23, T24, T25, T26, T27, T28].map V.ref)) L6 = some (.lst ([T23, T24, T25, T26, T27, T28].map V.ref)) := upd_same
    show rCatN _ _ (upd G28 L6 (.lst ([T23, T24, T25, T26, T27, T28].map V.ref))) _
    have lL6 : ([T23, T24, T25, T26, T27, T28] : List Addr).length = 6 := rfl
    have s28 : Same I4 G28 := sT23.trans (sT24.trans (sT25.trans (sT26.trans (sT27.trans sT28))))
    have bL6' : NoS K G28 n (Apart p) [T23, T24, T25, T26, T27, T28] _ := bT28
    generalize [T23, T24, T25, T26, T27, T28] = ts6 at sL6 cL6 bL6' lL6 ⊢
    have bL6s := bL6'.same sL6
    generalize upd G28 L6 (.lst (ts6.map V.ref)) = I5 at sL6 cL6 bL6s ⊢
    have zL6 := s28.trans sL6
    refine ⟨L5, L6, ts5.map V.ref, ts6.map V.ref, rfl, rfl, zL6 _ _ cL5, cL6, by rw [List.length_map, List.length_map, lL5, lL6, sizeLine_eq]; decide, fun L7 hL7 gL7 => ?_⟩
    rw [← List.map_append]
    have sL7 := Same.new (o := .lst ((ts5 ++ ts6).map V.ref)) hL7
    have cL7 : upd I5 L7 (.lst ((ts5 ++ ts6).map V.ref)) L7 = some (.lst ((ts5 ++ ts6).map V.ref)) := upd_same
    have bL7s := ((bL5s.same zL6).app bL6s).same sL7
    have w1 : Same H5 I4 := s7.trans (sL1.trans (yL3.trans yL5))
    have w2 : Same H5 I5 := w1.trans zL6
    have w3 := w2.trans sL7
    have hf7 : H L7 = none := by
      cases hz : H L7 with
      | none => rfl
      | some ob =>
        exfalso
        have n7 : L7 ≠ p := (hh5.same w2).ne hL7
        have := w2.ap (kk5 _ _ n7 hz)
        obtain ⟨u, hu⟩ := this.some
        rw [hL7] at hu; cases hu
    exact q L7 _ (ts5 ++ ts6) _ (kk5.trans w3.but) (hh5.same w3) hf7 gL7 cL7 (by rw [List.length_append, lL5, lL6]) bL7s
end

end Law

set_option Elab.async false
set_option linter.all false
set_option maxRecDepth 100000
set_option maxHeartbeats 4000000
namespace Law
open PySem L2
def told6 (rs : List Int) (b e : Int) : List Int := (List.range 6).map fun k => ask6 rs b e ((0 : Int) + (k : Nat))
def spFirst (C CL : Addr) : Sp := fun vs H Q _ => ∃ (p r pt tl : Addr) (rs : List Int) (b e : Int), vs = [.ref p, .ref r, .ref pt, .ref tl] ∧ Hand H p ∧ r ≠ p ∧ H r = some (.lst (rs.map V.int)) ∧ 0 < rs.length ∧ rs.length ≤ 300 ∧ H pt = some (.tup [.int b, .int e]) ∧ IsSt rs.length b e ∧ tl ≠ p ∧ H tl = some (.lst ((told6 rs b e).map V.int)) ∧ ∀ H', But p H H' → Hand H' p → Q (.bl true) H'
def spFresh (K : PySem.W.Frag) (C CL : Addr) : Sp := fun vs H Q _ => ∃ (p r lb pt tl : Addr) (rs : List Int) (us : List Addr) (b e : Int), vs = [.ref p, .ref r, .ref lb, .ref pt, .ref tl] ∧ Hand H p ∧ r ≠ p ∧ H r = some (.lst (rs.map V.int)) ∧ 0 < rs.length ∧ rs.length ≤ 300 ∧ lb ≠ p ∧ H lb = some (.lst (us.map V.ref)) ∧ us.length = 28 ∧ BadAll K H rs.length us ∧ H pt = some (.tup [.int b, .int e]) ∧ IsSt rs.length b e ∧ tl ≠ p ∧ H tl = some (.lst ((told6 rs b e).map V.int)) ∧ ∀ H', But p H H' → Hand H' p → Q (.bl true) H'
theorem told_at (rs : List Int) (b e : Int) {k : Nat} (hk : k < 6) : atI ((told6 rs b e).map V.int) ((0 : Int) + (k : Nat)) = some (.int (ask6 rs b e ((0 : Int) + (k : Nat)))) := by
  refine at_of (j := k) (by omega) ?_
  unfold told6
  rw [List.getElem?_map, List.getElem?_map, List.getElem?_range hk]
  rfl
section
variable {P : Program} {w : World} {K : PySem.W.Frag} {mg : Str → Option Value} {base : Heap} {C CL : Addr}
def x_law_first_right : { t : Stmt // top 35 = t } := ⟨_, by conv => { lhs; whnf }⟩
abbrev s_law_first_right : Stmt := x_law_first_right.1
theorem sc_law_first_right : FnScope ["hand", "row", "part", "told", "first", "way", "fresh", "begin", "end"] ["hand", "row", "part", "told"] (defScope s_law_first_right) := ⟨rfl, rfl, rfl, by decide +kernel, rfl, by decide +kernel, by decide +kernel⟩
theorem fn_first_right (B : Bl mg bls) (D : DefAt K mg "_law_first_right" s_law_first_right ["hand", "row", "part", "told"]) (F_law_stretch : Fn P w K mg base 2 "_law_stretch" ["hand", "size"] spStretch) (F_law_asked : Fn P w K mg base 8 "_law_asked" ["ready", "way", "begin", "end"] (spAsk6 C CL)) (IReady : IFn P w K mg base 4 "Ready" C ["self", "row"] (spRDI K C CL)) : Fn P w K mg base 9 "_law_first_right" ["hand", "row", "part", "told"] (spFirst C CL) := by
  refine D.fn sc_law_first_right (fun vs H Q E h => ?_) (fun f cdv A outer s H vs Q E hr h => ?_)
  · obtain ⟨p, r, pt, tl, rs, b, e, rfl, _⟩ := h; rfl
  · obtain ⟨p, r, pt, tl, rs, b, e, rfl, hh, nr, cr, hN0, hl, cpt, hst, ntl, ctl, q⟩ := h
    refine' ⟨_, ?tm, ?rd⟩
    (case tm =>
      (conv => { arg 2; whnf })
      refine' pss_cons ?s0 ?r0
      (case s0 =>
        refine' ps_for PassesOwn.never (by rfl) ?i0 ?g0 ?d0
        (case i0 => exact (pi_range1 (by rfl) (B "range" (by decide +kernel)) (pa_cons pe_int pa_nil)))
        (case g0 => exact (pg_name (i := 4) sc_law_first_right.nd (by rfl) (by first | exact Or.inl rfl | exact Or.inr rfl)))
        (case d0 =>
          refine' pss_one ?s0f
          (case s0f =>
            refine' ps_for PassesOwn.never (by rfl) ?i0f ?g0f ?d0f
            (case i0f => exact (pi_range1 (by rfl) (B "range" (by decide +kernel)) (pa_cons pe_int pa_nil)))
            (case g0f => exact (pg_name (i := 5) sc_law_first_right.nd (by rfl) (by first | exact Or.inl rfl | exact Or.inr rfl)))
            (case d0f =>
              refine' pss_cons ?s0ff ?r0ff
              (case s0ff =>
                exact (ps_set (i := 6) sc_law_first_right.nd (by rfl) (by first | exact Or.inl rfl | exact Or.inr rfl) (pe_makeC IReady hr (by rfl) (pa_cons (pv 1) pa_nil))))
              (case r0ff =>
                refine' pss_cons ?s0ffx ?r0ffx
                (case s0ffx =>
                  exact (ps_asg (pe_fn F_law_stretch hr (by rfl) (pa_cons (pv 0) (pa_cons (pe_callB call_len_seq (by rfl) (B "len" (by decide +kernel)) (by decide +kernel) (pa_cons (pv 1) pa_nil)) pa_nil))) (pg_tup (by rfl) (pgs_cons (pg_name (i := 7) sc_law_first_right.nd (by rfl) (by first | exact Or.inl rfl | exact Or.inr rfl)) (pgs_cons (pg_name (i := 8) sc_law_first_right.nd (by rfl) (by first | exact Or.inl rfl | exact Or.inr rfl)) pgs_nil)))))
                (case r0ffx =>
                  refine' pss_cons ?s0ffxx ?r0ffxx
                  (case s0ffxx =>
                    exact (ps_expr (pe_fn F_law_asked hr (by rfl) (pa_cons (pv 6) (pa_cons (pv 4) (pa_cons (pv 7) (pa_cons (pv 8) pa_nil)))))))
                  (case r0ffxx =>
                    refine' pss_cons ?s0ffxxx ?r0ffxxx
                    (case s0ffxxx =>
                      refine' ps_if ?c0ffxxx ?a0ffxxx ?b0ffxxx
                      (case c0ffxxx => exact (pt_cmpR op_ne (pe_fn F_law_asked hr (by rfl) (pa_cons (pv 6) (pa_cons (pv 5) (pa_cons (pe_ix ix_tup (pv 2) pe_int (fun _ _ => rfl)) (pa_cons (pe_ix ix_tup (pv 2) pe_int (fun _ _ => rfl)) pa_nil))))) (pe_ix ix_list (pv 3) (pv 5) (fun _ _ => rfl)) (nomark _)))
                      (case a0ffxxx =>
                        refine' pss_one ?s0ffxxxi
                        (case s0ffxxxi =>
                          exact (ps_ret pe_bl)))
                      (case b0ffxxx =>
                        exact pss_nil))
                    (case r0ffxxx =>
                      refine' pss_one ?s0ffxxxx
                      (case s0ffxxxx =>
                        refine' ps_if ?c0ffxxxx ?a0ffxxxx ?b0ffxxxx
                        (case c0ffxxxx => exact (pt_cmpR op_ne (pe_fn F_law_asked hr (by rfl) (pa_cons (pv 6) (pa_cons (pv 4) (pa_cons (pe_ix ix_tup (pv 2) pe_int (fun _ _ => rfl)) (pa_cons (pe_ix ix_tup (pv 2) pe_int (fun _ _ => rfl)) pa_nil))))) (pe_ix ix_list (pv 3) (pv 4) (fun _ _ => rfl)) (nomark _)))
                        (case a0ffxxxx =>
                          refine' pss_one ?s0ffxxxxi
                          (case s0ffxxxxi =>
                            exact (ps_ret pe_bl)))
                        (case b0ffxxxx =>
                          exact pss_nil))))))))))
      (case r0 =>
        refine' pss_one ?s0x
        (case s0x =>
          exact (ps_ret pe_bl))))
    have npt : pt ≠ p := fun z => by
      obtain ⟨d', e', hp', _⟩ := hh
      rw [z, hp'] at cpt; cases cpt
    refine seqJ (fun σ' H' => ∃ v4 v5 v6 v7 v8 : Option V, σ' = [some (.ref p), some (.ref r), some (.ref pt), some (.ref tl), v4, v5, v6, v7, v8] ∧ But p H H' ∧ Hand H' p) (fun fin => ?_) ?_
    · refine ⟨_, rfl, by decide, by decide, for_range (lo := 0) (n := 6) (fun i σ H' => ∃ v4 v5 v6 v7 v8 : Option V, σ = [some (.ref p), some (.ref r), some (.ref pt), some (.ref tl), v4, v5, v6, v7, v8] ∧ But p H H' ∧ Hand H' p) ⟨_, _, _, _, _, rfl, But.refl _ _, hh⟩ ?_ ?_⟩
      · rintro i σ H1 hi ⟨v4, v5, v6, v7, v8, rfl, k1, hh1⟩
        dsimp only [gName]
        refine ⟨_, rfl, by decide, by decide, for_range (lo := 0) (n := 6) (fun j σ H' => ∃ v5 v6 v7 v8 : Option V, σ = [some (.ref p), some (.ref r), some (.ref pt), some (.ref tl), some (.int (0 + (i : Nat))), v5, v6, v7, v8] ∧ But p H H' ∧ Hand H' p) ⟨_, _, _, _, rfl, k1, hh1⟩ ?_ ?_⟩
        · rintro j σ H2 hj ⟨v5, v6, v7, v8, rfl, k2, hh2⟩
          dsimp only [gName]
          have cr2 := k2 _ _ nr cr
          refine ⟨_, rfl, fun y dy ny ndy ney => made_ready ny ndy ney (SqL.of cr2) hl fun H3 s3 rd => ⟨rfl, ?_⟩⟩
          dsimp only [gName]
          have hh3 := hh2.same s3
          have cr3 := s3 _ _ cr2
          have npW : ¬ H2 p = none := hh2.some
          refine ⟨_, rfl, _, rfl, r, _, rfl, .inl (SqL.of cr3), p, rs.length, (by rw [List.length_map]; rfl), hh3, hN0, hl, fun st H4 b' e' hst' fst k4 hh4 cst => ?_⟩
          have rd4 := rd.but k4 npW
          refine ⟨st, _, rfl, SqT.of cst, rfl, _, _, rfl, _, _, rfl, rfl, ?_⟩
          refine ⟨_, rfl, _, rfl, _, rfl, _, rfl, y, rs, _, _, b', e', rfl, rd4, hst', hl, fun H5 s5 => ?_⟩
          have k5 : But p H H5 := ((k2.trans s3.but).trans k4).trans s5.but
          have rd5 := rd4.same s5
          have cpt5 := k5 _ _ npt cpt
          refine ⟨_, rfl, _, rfl, _, rfl, pt, _, _, _, rfl, rfl, SqT.of cpt5, rfl, _, rfl, pt, _, _, _, rfl, rfl, SqT.of cpt5, rfl, y, rs, _, _, b, e, rfl, rd5, hst, hl, fun H6 s6 => ?_⟩
          have k6 := k5.trans s6.but
          refine ⟨_, rfl, _, rfl, tl, _, _, _, rfl, rfl, SqL.of (k6 _ _ ntl ctl), told_at rs b e hj, rfl, _, rfl, ifNot rfl ?_⟩
          have cpt6 := k6 _ _ npt cpt
          refine ⟨_, rfl, _, rfl, _, rfl, pt, _, _, _, rfl, rfl, SqT.of cpt6, rfl, _, rfl, pt, _, _, _, rfl, rfl, SqT.of cpt6, rfl, y, rs, _, _, b, e, rfl, rd5.same s6, hst, hl, fun H7 s7 => ?_⟩
          have k7 := k6.trans s7.but
          refine ⟨_, rfl, _, rfl, tl, _, _, _, rfl, rfl, SqL.of (k7 _ _ ntl ctl), told_at rs b e hi, rfl, _, rfl, ifNot rfl ?_⟩
          exact ⟨_, _, _, _, rfl, k7, ((hh4.same s5).same s6).same s7⟩
        · rintro σ H2 ⟨v5, v6, v7, v8, rfl, k2, hh2⟩
          exact ⟨_, _, _, _, _, rfl, k2, hh2⟩
      · rintro σ H1 h1
        exact fin _ _ h1
    rintro _ H1 ⟨v4, v5, v6, v7, v8, rfl, k1, hh1⟩
    exact q _ k1 hh1
def x_law_fresh_right : { t : Stmt // top 34 = t } := ⟨_, by conv => { lhs; whnf }⟩
abbrev s_law_fresh_right : Stmt := x_law_fresh_right.1
theorem sc_law_fresh_right : FnScope ["hand", "row", "bad", "part", "told", "way", "fresh", "worse"] ["hand", "row", "bad", "part", "told"] (defScope s_law_fresh_right) := ⟨rfl, rfl, rfl, by decide +kernel, rfl, by decide +kernel, by decide +kernel⟩
theorem fn_fresh_right (B : Bl mg bls) (D : DefAt K mg "_law_fresh_right" s_law_fresh_right ["hand", "row", "bad", "part", "told"]) (F_law_draw : Fn P w K mg base 1 "_law_draw" ["hand", "limit"] spDraw) (F_law_asked : Fn P w K mg base 8 "_law_asked" ["ready", "way", "begin", "end"] (spAsk6 C CL)) (F_law_refused : Fn P w K mg base 9 "_law_refused" ["ready", "way", "begin", "end"] (spRef6 K C CL)) (F_law_first_right : Fn P w K mg base 9 "_law_first_right" ["hand", "row", "part", "told"] (spFirst C CL)) (IReady : IFn P w K mg base 4 "Ready" C ["self", "row"] (spRDI K C CL)) : Fn P w K mg base 10 "_law_fresh_right" ["hand", "row", "bad", "part", "told"] (spFresh K C CL) := by
  refine D.fn sc_law_fresh_right (fun vs H Q E h => ?_) (fun f cdv A outer s H vs Q E hr h => ?_)
  · obtain ⟨p, r, lb, pt, tl, rs, us, b, e, rfl, _⟩ := h; rfl
  · obtain ⟨p, r, lb, pt, tl, rs, us, b, e, rfl, hh, nr, cr, hN0, hl, nlb, clb, ul, bad, cpt, hst, ntl, ctl, q⟩ := h
    refine' ⟨_, ?tm, ?rd⟩
    (case tm =>
      (conv => { arg 2; whnf })
      refine' pss_cons ?s0 ?r0
      (case s0 =>
        refine' ps_for PassesOwn.never (by rfl) ?i0 ?g0 ?d0
        (case i0 => exact (pi_range1 (by rfl) (B "range" (by decide +kernel)) (pa_cons pe_int pa_nil)))
        (case g0 => exact (pg_name (i := 5) sc_law_fresh_right.nd (by rfl) (by first | exact Or.inl rfl | exact Or.inr rfl)))
        (case d0 =>
          refine' pss_cons ?s0f ?r0f
          (case s0f =>
            refine' ps_if ?c0f ?a0f ?b0f
            (case c0f => exact (pt_cmpR op_ne (pe_fn F_law_asked hr (by rfl) (pa_cons (pe_makeC IReady hr (by rfl) (pa_cons (pv 1) pa_nil)) (pa_cons (pv 5) (pa_cons (pe_ix ix_tup (pv 3) pe_int (fun _ _ => rfl)) (pa_cons (pe_ix ix_tup (pv 3) pe_int (fun _ _ => rfl)) pa_nil))))) (pe_ix ix_list (pv 4) (pv 5) (fun _ _ => rfl)) (nomark _)))
            (case a0f =>
              refine' pss_one ?s0fi
              (case s0fi =>
                exact (ps_ret pe_bl)))
            (case b0f =>
              exact pss_nil))
          (case r0f =>
            refine' pss_cons ?s0fx ?r0fx
            (case s0fx =>
              exact (ps_set (i := 6) sc_law_fresh_right.nd (by rfl) (by first | exact Or.inl rfl | exact Or.inr rfl) (pe_makeC IReady hr (by rfl) (pa_cons (pv 1) pa_nil))))
            (case r0fx =>
              refine' pss_cons ?s0fxx ?r0fxx
              (case s0fxx =>
                exact (ps_set (i := 7) sc_law_fresh_right.nd (by rfl) (by first | exact Or.inl rfl | exact Or.inr rfl) (pe_ix ix_list (pv 2) (pe_fn F_law_draw hr (by rfl) (pa_cons (pv 0) (pa_cons (pe_callB call_len_seq (by rfl) (B "len" (by decide +kernel)) (by decide +kernel) (pa_cons (pv 2) pa_nil)) pa_nil))) (fun _ _ => rfl))))
              (case r0fxx =>
                refine' pss_cons ?s0fxxx ?r0fxxx
                (case s0fxxx =>
                  refine' ps_if ?c0fxxx ?a0fxxx ?b0fxxx
                  (case c0fxxx => exact (pt_not (pt_val (pe_fn F_law_refused hr (by rfl) (pa_cons (pv 6) (pa_cons (pe_fn F_law_draw hr (by rfl) (pa_cons (pv 0) (pa_cons pe_int pa_nil))) (pa_cons (pe_ix ix_tup (pv 7) pe_int (fun _ _ => rfl)) (pa_cons (pe_ix ix_tup (pv 7) pe_int (fun _ _ => rfl)) pa_nil))))))))
                  (case a0fxxx =>
                    refine' pss_one ?s0fxxxi
                    (case s0fxxxi =>
                      exact (ps_ret pe_bl)))
                  (case b0fxxx =>
                    exact pss_nil))
                (case r0fxxx =>
                  refine' pss_one ?s0fxxxx
                  (case s0fxxxx =>
                    refine' ps_if ?c0fxxxx ?a0fxxxx ?b0fxxxx
                    (case c0fxxxx => exact (pt_cmpR op_ne (pe_fn F_law_asked hr (by rfl) (pa_cons (pv 6) (pa_cons (pv 5) (pa_cons (pe_ix ix_tup (pv 3) pe_int (fun _ _ => rfl)) (pa_cons (pe_ix ix_tup (pv 3) pe_int (fun _ _ => rfl)) pa_nil))))) (pe_ix ix_list (pv 4) (pv 5) (fun _ _ => rfl)) (nomark _)))
                    (case a0fxxxx =>
                      refine' pss_one ?s0fxxxxi
                      (case s0fxxxxi =>
                        exact (ps_ret pe_bl)))
                    (case b0fxxxx =>
                      exact pss_nil))))))))
      (case r0 =>
        refine' pss_one ?s0x
        (case s0x =>
          exact (ps_ret (pe_fn F_law_first_right hr (by rfl) (pa_cons (pv 0) (pa_cons (pv 1) (pa_cons (pv 3) (pa_cons (pv 4) pa_nil)))))))))
    have npt : pt ≠ p := fun z => by
      obtain ⟨d', e', hp', _⟩ := hh
      rw [z, hp'] at cpt; cases cpt
    refine seqJ (fun σ' H' => ∃ v5 v6 v7 : Option V, σ' = [some (.ref p), some (.ref r), some (.ref lb), some (.ref pt), some (.ref tl), v5, v6, v7] ∧ But p H H' ∧ Hand H' p) (fun fin => ?_) ?_
    · refine ⟨_, rfl, by decide, by decide, for_range (lo := 0) (n := 6) (fun i σ H' => ∃ v5 v6 v7 : Option V, σ = [some (.ref p), some (.ref r), some (.ref lb), some (.ref pt), some (.ref tl), v5, v6, v7] ∧ But p H H' ∧ Hand H' p) ⟨_, _, _, rfl, But.refl _ _, hh⟩ ?_ ?_⟩
      · rintro i σ H1 hi ⟨v5, v6, v7, rfl, k1, hh1⟩
        dsimp only [gName]
        have cr1 := k1 _ _ nr cr
        refine ⟨_, rfl, fun y dy ny ndy ney => made_ready ny ndy ney (SqL.of cr1) hl fun H2 s2 rd2 => ⟨rfl, ?_⟩⟩
        have k2 := k1.trans s2.but
        have cpt2 := k2 _ _ npt cpt
        refine ⟨_, rfl, _, rfl, pt, _, _, _, rfl, rfl, SqT.of cpt2, rfl, _, rfl, pt, _, _, _, rfl, rfl, SqT.of cpt2, rfl, y, rs, _, _, b, e, rfl, rd2, hst, hl, fun H3 s3 => ?_⟩
        have k3 := k2.trans s3.but
        have hh3 := (hh1.same s2).same s3
        refine ⟨_, rfl, _, rfl, tl, _, _, _, rfl, rfl, SqL.of (k3 _ _ ntl ctl), told_at rs b e hi, rfl, _, rfl, ifNot rfl ?_⟩
        have cr3 := k3 _ _ nr cr
        refine ⟨_, rfl, fun z dz nz ndz nez => made_ready nz ndz nez (SqL.of cr3) hl fun H4 s4 rd4 => ⟨rfl, ?_⟩⟩
        have hh4 := hh3.same s4
        have k4 := k3.trans s4.but
        have npW : ¬ H3 p = none := hh3.some
        have clb4 := k4 _ _ nlb clb
        dsimp only [gName]
        refine ⟨_, rfl, _, rfl, _, rfl, lb, _, rfl, .inl (SqL.of clb4), p, _, rfl, hh4, by rw [List.length_map, ul]; decide, by rw [List.length_map, ul]; decide, fun g H5 g0 g1 hh5 k5 => ?_⟩
        rw [List.length_map, ul] at g1
        have k05 := k4.trans k5
        have hg : g.toNat < us.length := by rw [ul]; omega
        have hat : atI (us.map V.ref) g = some (.ref us[g.toNat]) := at_of (j := g.toNat) (by omega) (by rw [List.getElem?_map, List.getElem?_eq_getElem hg]; rfl)
        obtain ⟨w1, w2, cu, bd⟩ := bad.but k05 hh hh5 _ (List.getElem_mem hg)
        refine ⟨lb, _, _, _, rfl, rfl, SqL.of (k05 _ _ nlb clb), hat, ?_⟩
        generalize us[g.toNat] = u at cu
        dsimp only [gName]
        have nu : u ≠ p := fun z => by
          obtain ⟨d', e', hp', _⟩ := hh5
          rw [z, hp'] at cu; cases cu
        have rd5 := rd4.but k5 npW
        refine ⟨_, rfl, _, rfl, p, _, rfl, hh5, by decide, by decide, fun g2 H6 h0 h1 hh6 k6 => ?_⟩
        have cu6 := k6 _ _ nu cu
        have rd6 := rd5.but k6 npW
        refine ⟨_, rfl, u, _, _, _, rfl, rfl, SqT.of cu6, rfl, _, rfl, u, _, _, _, rfl, rfl, SqT.of cu6, rfl, z, rs, _, _, w1, w2, rfl, rd6, bd.but k6 hh5 hh6, fun H7 s7 => ⟨_, rfl, ?_⟩⟩
        have k07 := (k05.trans k6).trans s7.but
        have cpt7 := k07 _ _ npt cpt
        refine ⟨_, rfl, _, rfl, _, rfl, pt, _, _, _, rfl, rfl, SqT.of cpt7, rfl, _, rfl, pt, _, _, _, rfl, rfl, SqT.of cpt7, rfl, z, rs, _, _, b, e, rfl, rd6.same s7, hst, hl, fun H8 s8 => ?_⟩
        have k08 := k07.trans s8.but
        refine ⟨_, rfl, _, rfl, tl, _, _, _, rfl, rfl, SqL.of (k08 _ _ ntl ctl), told_at rs b e hi, rfl, _, rfl, ifNot rfl ?_⟩
        exact ⟨_, _, _, rfl, k08, (hh6.same s7).same s8⟩
      · rintro σ H1 h1
        exact fin _ _ h1
    rintro _ H1 ⟨v5, v6, v7, rfl, k1, hh1⟩
    refine ⟨_, rfl, _, rfl, _, rfl, _, rfl, p, r, pt, tl, rs, b, e, rfl, hh1, nr, k1 _ _ nr cr, hN0, hl, k1 _ _ npt cpt, hst, ntl, k1 _ _ ntl ctl, fun H2 k2 hh2 => ?_⟩
    exact q _ (k1.trans k2) hh2
end

end Law

set_option Elab.async false
set_option linter.all false
set_option maxRecDepth 100000
set_option maxHeartbeats 4000000
namespace Law
open PySem L2
def spLaw (K : PySem.W.Frag) : Sp := fun vs H Q _ => ∃ (a : Addr) (ns : List Int), vs = [.ref a] ∧ SqL K H a (ns.map V.int) ∧ ns.length ≤ 63 ∧ ∀ H', Q (.bl true) H'
theorem cut_refs {ts : List Addr} {k : Nat} : cutV (ts.map V.ref) none (some (k : Int)) = (ts.take k).map V.ref := by
  unfold cutV
  show List.take (HT.sIx _ _ (some (k : Int)) - 0) (List.drop 0 (ts.map V.ref)) = _
  rw [List.drop_zero, Nat.sub_zero, HT.sIx_nat, List.map_take]
  by_cases h : k ≤ (ts.map V.ref).length
  · rw [Nat.min_eq_left h]
  · rw [Nat.min_eq_right (by omega), List.take_length, List.take_of_length_le (by omega)]
theorem lc_rngS {lo : Int} {n : Nat} {f : Nat → Int} {te : TE} {i : Nat} {vs : List Nat} {σ : St} {H : Hp} {D : Addr} {Qd : Hp → Prop} (hD : H D = none) (hlen : n ≤ 1000)
    (hw : ∀ v, wipe ((wipe σ vs).set i (some v)) vs = wipe σ vs)
    (ht : ∀ (j : Nat) (H' : Hp) (R : VK), j < n → Same H H' → (∀ H'', Same H' H'' → R (.int (f j)) H'') → te ((wipe σ vs).set i (some (.int (lo + j)))) H' R)
    (hd : ∀ H', H' D = some (.lst (((List.range n).map f).map V.int)) → Same H H' → Qd H') :
    ∃ W : Nat → Nat → Hp → Prop, (∃ m, W 0 m (upd H D (.lst []))) ∧ ∀ j m H, W j m H →
      ((Itr lo n).stop j H ∧ Qd H) ∨ ((Itr lo n).go j H ∧ ∃ Nx : Hp → Prop, (∀ H', Nx H' → ∃ m', m' < m ∧ W (j + 1) m' H') ∧ ∀ x H', (Itr lo n).yld j H x H' → gName i x (wipe σ vs) H' fun σ2 H2 => wipe σ2 vs = wipe σ vs ∧ tYes σ2 H2 fun b H3 =>
        if b = true then te σ2 H3 fun y H4 => ∃ acc, H4 D = some (.lst acc) ∧ acc.length < sizeLine ∧ Nx (upd H4 D (.lst (acc ++ [y]))) else Nx H3) := by
  refine lc_range (fun j H' => H' D = some (.lst (((List.range j).map f).map V.int)) ∧ Same H H') ⟨upd_same, Same.new hD⟩ ?_ (fun H' h => hd H' h.1 h.2)
  rintro j H' hj ⟨c, s⟩
  refine ⟨hw _, ht j H' _ hj s fun H'' s'' => ⟨_, s'' _ _ c, ?_, ?_, (s.trans s'').at hD⟩⟩
  · rw [List.length_map, List.length_map, List.length_range]
    have e : sizeLine = 16777216 := sizeLine_eq
    omega
  · rw [upd_same, List.range_succ, List.map_append, List.map_append]; rfl
theorem odd_verr {K : PySem.W.Frag} {H : Hp} {x : Addr} (h : H x = some (verrO x)) : Odd K H (.ref x) := ⟨"ValueError", .verr h, by simp⟩
theorem BadAll.app {K : PySem.W.Frag} {H : Hp} {n : Nat} {ts us : List Addr} (h : BadAll K H n ts) (k : BadAll K H n us) : BadAll K H n (ts ++ us) := fun t ht => (List.mem_append.mp ht).elim (h t) (k t)
section
variable {P : Program} {w : World} {K : PySem.W.Frag} {mg : Str → Option Value} {base : Heap} {C CL : Addr}
def xlaw : { t : Stmt // top 36 = t } := ⟨_, by conv => { lhs; whnf }⟩
abbrev slaw : Stmt := xlaw.1
theorem sclaw : FnScope ["script", "deep", "k", "cell", "hand", "row", "ready", "told", "part", "way", "bad", "kept", "refusal", "begin", "end", "again"] ["script"] (defScope slaw) := ⟨rfl, rfl, rfl, by decide +kernel, rfl, by decide +kernel, by decide +kernel⟩
theorem ok_law {f : Addr} {fd : FuncData} (B : Bl mg bls) (Fl : Fun K "law" "law" slaw f fd) (F_law_cells : Fn P w K mg base 1 "_law_cells" ["script", "many"] (spCells K)) (F_law_hand : Fn P w K mg base 1 "_law_hand" ["cell", "k"] spHand) (F_law_draw : Fn P w K mg base 1 "_law_draw" ["hand", "limit"] spDraw) (F_law_great : Fn P w K mg base 1 "_law_great" ["script"] (spGreat K))
    (F_law_row : Fn P w K mg base 3 "_law_row" ["hand", "long"] spRow) (F_law_stretch : Fn P w K mg base 2 "_law_stretch" ["hand", "size"] spStretch) (F_law_asked : Fn P w K mg base 8 "_law_asked" ["ready", "way", "begin", "end"] (spAsk6 C CL)) (F_law_no_stretches : Fn P w K mg base 2 "_law_no_stretches" ["hand", "size"] (spNo K)) (F_law_refused : Fn P w K mg base 9 "_law_refused" ["ready", "way", "begin", "end"] (spRef6 K C CL)) (F_law_fresh_right : Fn P w K mg base 10 "_law_fresh_right" ["hand", "row", "bad", "part", "told"] (spFresh K C CL)) (IReady : IFn P w K mg base 4 "Ready" C ["self", "row"] (spRDI K C CL)) : FnOk P w K mg base CX0 11 f fd ["script"] (spLaw K) := by
  refine Fl.ok sclaw (fun vs H Q E h => ?_) (fun cdv A outer s H vs Q E hr h => ?_)
  · obtain ⟨a, ns, rfl, _⟩ := h; rfl
  · obtain ⟨a, ns, rfl, hs, hl, q⟩ := h
    refine' ⟨_, ?tm, ?rd⟩
    (case tm =>
      (conv => { arg 2; whnf })
      refine' pss_cons ?s0 ?r0
      (case s0 =>
        exact (ps_set (i := 1) sclaw.nd (by rfl) (by first | exact Or.inl rfl | exact Or.inr rfl) (pe_lstN (pa_cons (pe_lstN pa_nil) (pa_cons (pe_tup pa_nil) pa_nil)))))
      (case r0 =>
        refine' pss_cons ?s0x ?r0x
        (case s0x =>
          refine' ps_for PassesOwn.never (by rfl) ?i0x ?g0x ?d0x
          (case i0x => exact (pi_range1 (by rfl) (B "range" (by decide +kernel)) (pa_cons pe_int pa_nil)))
          (case g0x => exact (pg_name (i := 2) sclaw.nd (by rfl) (by first | exact Or.inl rfl | exact Or.inr rfl)))
          (case d0x =>
            refine' pss_one ?s0xf
            (case s0xf =>
              exact (ps_set (i := 1) sclaw.nd (by rfl) (by first | exact Or.inl rfl | exact Or.inr rfl) (pe_lstN (pa_cons (pe_lstN (pa_cons (pe_ix ix_list (pv 1) pe_int (fun _ _ => rfl)) pa_nil)) (pa_cons (pe_tup (pa_cons (pe_ix ix_list (pv 1) pe_int (fun _ _ => rfl)) pa_nil)) pa_nil)))))))
        (case r0x =>
          refine' pss_cons ?s0xx ?r0xx
          (case s0xx =>
            refine' ps_for PassesOwn.never (by rfl) ?i0xx ?g0xx ?d0xx
            (case i0xx => exact (pi_list (pe_fn F_law_cells hr (by rfl) (pa_cons (pv 0) (pa_cons pe_int pa_nil)))))
            (case g0xx => exact (pg_tup (by rfl) (pgs_cons (pg_name (i := 2) sclaw.nd (by rfl) (by first | exact Or.inl rfl | exact Or.inr rfl)) (pgs_cons (pg_name (i := 3) sclaw.nd (by rfl) (by first | exact Or.inl rfl | exact Or.inr rfl)) pgs_nil))))
            (case d0xx =>
              refine' pss_cons ?s0xxf ?r0xxf
              (case s0xxf =>
                exact (ps_set (i := 4) sclaw.nd (by rfl) (by first | exact Or.inl rfl | exact Or.inr rfl) (pe_fn F_law_hand hr (by rfl) (pa_cons (pv 3) (pa_cons (pv 2) pa_nil)))))
              (case r0xxf =>
                refine' pss_cons ?s0xxfx ?r0xxfx
                (case s0xxfx =>
                  exact (ps_set (i := 5) sclaw.nd (by rfl) (by first | exact Or.inl rfl | exact Or.inr rfl) (pe_fn F_law_row hr (by rfl) (pa_cons (pv 4) (pa_cons (pe_and (pe_cmpR op_eq (pv 2) pe_int (nomark _)) (pe_one (pe_fn F_law_great hr (by rfl) (pa_cons (pv 0) pa_nil)))) pa_nil)))))
                (case r0xxfx =>
                  refine' pss_cons ?s0xxfxx ?r0xxfxx
                  (case s0xxfxx =>
                    exact (ps_set (i := 6) sclaw.nd (by rfl) (by first | exact Or.inl rfl | exact Or.inr rfl) (pe_makeC IReady hr (by rfl) (pa_cons (pv 5) pa_nil))))
                  (case r0xxfxx =>
                    refine' pss_cons ?s0xxfxxx ?r0xxfxxx
                    (case s0xxfxxx =>
                      exact (ps_set (i := 7) sclaw.nd (by rfl) (by first | exact Or.inl rfl | exact Or.inr rfl) (pe_lstN pa_nil)))
                    (case r0xxfxxx =>
                      refine' pss_cons ?s0xxfxxxx ?r0xxfxxxx
                      (case s0xxfxxxx =>
                        exact (ps_set (i := 8) sclaw.nd (by rfl) (by first | exact Or.inl rfl | exact Or.inr rfl) (pe_tup (pa_cons pe_int (pa_cons pe_int pa_nil)))))
                      (case r0xxfxxxx =>
                        refine' pss_cons ?s0xxfxxxxx ?r0xxfxxxxx
                        (case s0xxfxxxxx =>
                          refine' ps_if ?c0xxfxxxxx ?a0xxfxxxxx ?b0xxfxxxxx
                          (case c0xxfxxxxx => exact (pt_cmpR (op_neLI hr.units) (pv 5) (pe_lstN pa_nil) (nomark _)))
                          (case a0xxfxxxxx =>
                            refine' pss_cons ?s0xxfxxxxxi ?r0xxfxxxxxi
                            (case s0xxfxxxxxi =>
                              exact (ps_set (i := 8) sclaw.nd (by rfl) (by first | exact Or.inl rfl | exact Or.inr rfl) (pe_fn F_law_stretch hr (by rfl) (pa_cons (pv 4) (pa_cons (pe_callB call_len_seq (by rfl) (B "len" (by decide +kernel)) (by decide +kernel) (pa_cons (pv 5) pa_nil)) pa_nil)))))
                            (case r0xxfxxxxxi =>
                              refine' pss_one ?s0xxfxxxxxix
                              (case s0xxfxxxxxix =>
                                exact (ps_setLc (i := 7) (own := [("way", 9)]) (g := (gName 9)) (by rfl) sclaw.nd (by rfl) (by rfl) (sw_true (by rfl) (by rfl) (by rfl) (by decide +kernel)) (pi_range1 (by rfl) (B "range" (by decide +kernel)) (pa_cons pe_int pa_nil)) (blkOk_by (own := [("way", 9)]) (N := ["script", "deep", "k", "cell", "hand", "row", "ready", "told", "part", "way", "bad", "kept", "refusal", "begin", "end", "again"]) (sc := defScope slaw) (by decide +kernel)) (fun _ _ _ _ _ => (pg_name (i := 9) sclaw.nd (by rfl) (by first | exact Or.inl rfl | exact Or.inr rfl))) (fun _ _ _ _ _ => pts_nil) (fun _ _ _ _ _ => (pe_fn F_law_asked hr (by rfl) (pa_cons (pv 6) (pa_cons (pv 9) (pa_cons (pe_ix (ix_tupK (K := K) (by rfl)) (pv 8) pe_int (fun _ _ => rfl)) (pa_cons (pe_ix (ix_tupK (K := K) (by rfl)) (pv 8) pe_int (fun _ _ => rfl)) pa_nil))))))))))
                          (case b0xxfxxxxx =>
                            exact pss_nil))
                        (case r0xxfxxxxx =>
                          refine' pss_cons ?s0xxfxxxxxx ?r0xxfxxxxxx
                          (case s0xxfxxxxxx =>
                            exact (ps_set (i := 10) sclaw.nd (by rfl) (by first | exact Or.inl rfl | exact Or.inr rfl) (pe_fn F_law_no_stretches hr (by rfl) (pa_cons (pv 4) (pa_cons (pe_callB call_len_seq (by rfl) (B "len" (by decide +kernel)) (by decide +kernel) (pa_cons (pv 5) pa_nil)) pa_nil)))))
                          (case r0xxfxxxxxx =>
                            refine' pss_cons ?s0xxfxxxxxxx ?r0xxfxxxxxxx
                            (case s0xxfxxxxxxx =>
                              exact (ps_set (i := 11) sclaw.nd (by rfl) (by first | exact Or.inl rfl | exact Or.inr rfl) (pe_callB (call_reprD ⟨_, hr⟩) (by rfl) (B "repr" (by decide +kernel)) (by decide +kernel) (pa_cons (pv 10) pa_nil))))
                            (case r0xxfxxxxxxx =>
                              refine' pss_cons ?s0xxfxxxxxxxx ?r0xxfxxxxxxxx
                              (case s0xxfxxxxxxxx =>
                                refine' ps_if ?c0xxfxxxxxxxx ?a0xxfxxxxxxxx ?b0xxfxxxxxxxx
                                (case c0xxfxxxxxxxx => exact (PW.pt (pw_and (pt_cmpR (op_neLI hr.units) (pv 5) (pe_lstN pa_nil) (nomark _)) (pw_and1 (pt_not (pt_val (pe_fn F_law_fresh_right hr (by rfl) (pa_cons (pv 4) (pa_cons (pv 5) (pa_cons (pv 10) (pa_cons (pv 8) (pa_cons (pv 7) pa_nil))))))))))))
                                (case a0xxfxxxxxxxx =>
                                  refine' pss_one ?s0xxfxxxxxxxxi
                                  (case s0xxfxxxxxxxxi =>
                                    exact (ps_ret pe_bl)))
                                (case b0xxfxxxxxxxx =>
                                  exact pss_nil))
                              (case r0xxfxxxxxxxx =>
                                refine' pss_cons ?s0xxfxxxxxxxxx ?r0xxfxxxxxxxxx
                                (case s0xxfxxxxxxxxx =>
                                  exact (ps_set (i := 12) sclaw.nd (by rfl) (by first | exact Or.inl rfl | exact Or.inr rfl) (pe_callTy call_verr (by rfl) (B "ValueError" (by decide +kernel)) (by decide +kernel) (pa_cons pe_str pa_nil))))
                                (case r0xxfxxxxxxxxx =>
                                  refine' pss_cons ?s0xxfxxxxxxxxxx ?r0xxfxxxxxxxxxx
                                  (case s0xxfxxxxxxxxxx =>
                                    refine' ps_set (i := 10) ?n0xxfxxxxxxxxxx ?h0xxfxxxxxxxxxx ?x0xxfxxxxxxxxxx ?e0xxfxxxxxxxxxx ?w0xxfxxxxxxxxxx ?f0xxfxxxxxxxxxx
                                    (case n0xxfxxxxxxxxxx => exact sclaw.nd)
                                    (case h0xxfxxxxxxxxxx => rfl)
                                    (case x0xxfxxxxxxxxxx => first | exact Or.inl rfl | exact Or.inr rfl)
                                    (case w0xxfxxxxxxxxxx => rfl)
                                    (case f0xxfxxxxxxxxxx => first | exact .inl rfl | exact .inr rfl)
                                    (case e0xxfxxxxxxxxxx =>
                                      refine' pe_op op_catN ?A0xxfxxxxxxxxxx ?B0xxfxxxxxxxxxx
                                      (case A0xxfxxxxxxxxxx => exact (pv 10))
                                      (case B0xxfxxxxxxxxxx =>
                                        refine' pe_lstN ?L0xxfxxxxxxxxxx
                                        (case L0xxfxxxxxxxxxx =>
                                          refine' pa_cons ?a0xxfxxxxxxxxxx ?q0xxfxxxxxxxxxx ?z0xxfxxxxxxxxxx
                                          (case z0xxfxxxxxxxxxx => rfl)
                                          (case a0xxfxxxxxxxxxx => exact (pe_tup (pa_cons (pe_ix ix_list (pv 1) pe_int (fun _ _ => rfl)) (pa_cons (pe_callB call_len_seq (by rfl) (B "len" (by decide +kernel)) (by decide +kernel) (pa_cons (pv 5) pa_nil)) pa_nil))))
                                          (case q0xxfxxxxxxxxxx =>
                                          refine' pa_cons ?a0xxfxxxxxxxxxxq ?q0xxfxxxxxxxxxxq ?z0xxfxxxxxxxxxxq
                                          (case z0xxfxxxxxxxxxxq => rfl)
                                          (case a0xxfxxxxxxxxxxq => exact (pe_tup (pa_cons pe_int (pa_cons (pe_ix ix_list (pv 1) pe_int (fun _ _ => rfl)) pa_nil))))
                                          (case q0xxfxxxxxxxxxxq =>
                                          refine' pa_cons ?a0xxfxxxxxxxxxxqq ?q0xxfxxxxxxxxxxqq ?z0xxfxxxxxxxxxxqq
                                          (case z0xxfxxxxxxxxxxqq => rfl)
                                          (case a0xxfxxxxxxxxxxqq => exact (pe_tup (pa_cons (pe_ix ix_list (pv 1) pe_int (fun _ _ => rfl)) (pa_cons (pe_ix ix_list (pv 1) pe_int (fun _ _ => rfl)) pa_nil))))
                                          (case q0xxfxxxxxxxxxxqq =>
                                          refine' pa_cons ?a0xxfxxxxxxxxxxqqq ?q0xxfxxxxxxxxxxqqq ?z0xxfxxxxxxxxxxqqq
                                          (case z0xxfxxxxxxxxxxqqq => rfl)
                                          (case a0xxfxxxxxxxxxxqqq => exact (pe_tup (pa_cons (pv 12) (pa_cons (pe_callB call_len_seq (by rfl) (B "len" (by decide +kernel)) (by decide +kernel) (pa_cons (pv 5) pa_nil)) pa_nil))))
                                          (case q0xxfxxxxxxxxxxqqq =>
                                          refine' pa_cons ?a0xxfxxxxxxxxxxqqqq ?q0xxfxxxxxxxxxxqqqq ?z0xxfxxxxxxxxxxqqqq
                                          (case z0xxfxxxxxxxxxxqqqq => rfl)
                                          (case a0xxfxxxxxxxxxxqqqq => exact (pe_tup (pa_cons pe_int (pa_cons (pv 12) pa_nil))))
                                          (case q0xxfxxxxxxxxxxqqqq =>
                                          exact pa_nil)))))))))
                                  (case r0xxfxxxxxxxxxx =>
                                    refine' pss_cons ?s0xxfxxxxxxxxxxx ?r0xxfxxxxxxxxxxx
                                    (case s0xxfxxxxxxxxxxx =>
                                      refine' ps_for PassesOwn.never (by rfl) ?i0xxfxxxxxxxxxxx ?g0xxfxxxxxxxxxxx ?d0xxfxxxxxxxxxxx
                                      (case i0xxfxxxxxxxxxxx => exact (pi_list (pv 10)))
                                      (case g0xxfxxxxxxxxxxx => exact (pg_tup (by rfl) (pgs_cons (pg_name (i := 13) sclaw.nd (by rfl) (by first | exact Or.inl rfl | exact Or.inr rfl)) (pgs_cons (pg_name (i := 14) sclaw.nd (by rfl) (by first | exact Or.inl rfl | exact Or.inr rfl)) pgs_nil))))
                                      (case d0xxfxxxxxxxxxxx =>
                                        refine' pss_cons ?s0xxfxxxxxxxxxxxf ?r0xxfxxxxxxxxxxxf
                                        (case s0xxfxxxxxxxxxxxf =>
                                          refine' ps_if ?c0xxfxxxxxxxxxxxf ?a0xxfxxxxxxxxxxxf ?b0xxfxxxxxxxxxxxf
                                          (case c0xxfxxxxxxxxxxxf => exact (pt_cmpR (op_neLI hr.units) (pe_lc (own := [("way", 9)]) (g := (gName 9)) (by rfl) sclaw.nd (pi_range1 (by rfl) (B "range" (by decide +kernel)) (pa_cons pe_int pa_nil)) (blkOk_by (own := [("way", 9)]) (N := ["script", "deep", "k", "cell", "hand", "row", "ready", "told", "part", "way", "bad", "kept", "refusal", "begin", "end", "again"]) (sc := defScope slaw) (by decide +kernel)) (fun _ _ _ _ _ => (pg_name (i := 9) sclaw.nd (by rfl) (by first | exact Or.inl rfl | exact Or.inr rfl))) (fun _ _ _ _ _ => (pts_one (pt_not (pt_val (pe_fn F_law_refused hr (by rfl) (pa_cons (pv 6) (pa_cons (pv 9) (pa_cons (pv 13) (pa_cons (pv 14) pa_nil))))))))) (fun _ _ _ _ _ => (pv 9))) (pe_lstN pa_nil) (nomark _)))
                                          (case a0xxfxxxxxxxxxxxf =>
                                            refine' pss_one ?s0xxfxxxxxxxxxxxfi
                                            (case s0xxfxxxxxxxxxxxfi =>
                                              exact (ps_ret pe_bl)))
                                          (case b0xxfxxxxxxxxxxxf =>
                                            exact pss_nil))
                                        (case r0xxfxxxxxxxxxxxf =>
                                          refine' pss_one ?s0xxfxxxxxxxxxxxfx
                                          (case s0xxfxxxxxxxxxxxfx =>
                                            refine' ps_if ?c0xxfxxxxxxxxxxxfx ?a0xxfxxxxxxxxxxxfx ?b0xxfxxxxxxxxxxxfx
                                            (case c0xxfxxxxxxxxxxxfx => exact (pt_not (pt_val (pe_fn F_law_refused hr (by rfl) (pa_cons (pv 6) (pa_cons (pe_fn F_law_draw hr (by rfl) (pa_cons (pv 4) (pa_cons pe_int pa_nil))) (pa_cons (pv 13) (pa_cons (pv 14) pa_nil))))))))
                                            (case a0xxfxxxxxxxxxxxfx =>
                                              refine' pss_one ?s0xxfxxxxxxxxxxxfxi
                                              (case s0xxfxxxxxxxxxxxfxi =>
                                                exact (ps_ret pe_bl)))
                                            (case b0xxfxxxxxxxxxxxfx =>
                                              exact pss_nil)))))
                                    (case r0xxfxxxxxxxxxxx =>
                                      refine' pss_cons ?s0xxfxxxxxxxxxxxx ?r0xxfxxxxxxxxxxxx
                                      (case s0xxfxxxxxxxxxxxx =>
                                        refine' ps_if ?c0xxfxxxxxxxxxxxx ?a0xxfxxxxxxxxxxxx ?b0xxfxxxxxxxxxxxx
                                        (case c0xxfxxxxxxxxxxxx => exact (pt_cmpR op_ne (pe_callB (call_reprD ⟨_, hr⟩) (by rfl) (B "repr" (by decide +kernel)) (by decide +kernel) (pa_cons (pe_slice sl_listN (pv 10) po_none (po_some (pe_op op_sub (pe_callB call_len_seq (by rfl) (B "len" (by decide +kernel)) (by decide +kernel) (pa_cons (pv 10) pa_nil)) pe_int))) pa_nil)) (pv 11) (nomark _)))
                                        (case a0xxfxxxxxxxxxxxx =>
                                          refine' pss_one ?s0xxfxxxxxxxxxxxxi
                                          (case s0xxfxxxxxxxxxxxxi =>
                                            exact (ps_ret pe_bl)))
                                        (case b0xxfxxxxxxxxxxxx =>
                                          exact pss_nil))
                                      (case r0xxfxxxxxxxxxxxx =>
                                        refine' pss_one ?s0xxfxxxxxxxxxxxxx
                                        (case s0xxfxxxxxxxxxxxxx =>
                                          refine' ps_if ?c0xxfxxxxxxxxxxxxx ?a0xxfxxxxxxxxxxxxx ?b0xxfxxxxxxxxxxxxx
                                          (case c0xxfxxxxxxxxxxxxx => exact (pt_cmpR (op_neLI hr.units) (pv 5) (pe_lstN pa_nil) (nomark _)))
                                          (case a0xxfxxxxxxxxxxxxx =>
                                            refine' pss_cons ?s0xxfxxxxxxxxxxxxxi ?r0xxfxxxxxxxxxxxxxi
                                            (case s0xxfxxxxxxxxxxxxxi =>
                                              exact (ps_setLc (i := 15) (own := [("way", 9)]) (g := (gName 9)) (by rfl) sclaw.nd (by rfl) (by rfl) (sw_true (by rfl) (by rfl) (by rfl) (by decide +kernel)) (pi_range1 (by rfl) (B "range" (by decide +kernel)) (pa_cons pe_int pa_nil)) (blkOk_by (own := [("way", 9)]) (N := ["script", "deep", "k", "cell", "hand", "row", "ready", "told", "part", "way", "bad", "kept", "refusal", "begin", "end", "again"]) (sc := defScope slaw) (by decide +kernel)) (fun _ _ _ _ _ => (pg_name (i := 9) sclaw.nd (by rfl) (by first | exact Or.inl rfl | exact Or.inr rfl))) (fun _ _ _ _ _ => pts_nil) (fun _ _ _ _ _ => (pe_fn F_law_asked hr (by rfl) (pa_cons (pv 6) (pa_cons (pv 9) (pa_cons (pe_ix (ix_tupK (K := K) (by rfl)) (pv 8) pe_int (fun _ _ => rfl)) (pa_cons (pe_ix (ix_tupK (K := K) (by rfl)) (pv 8) pe_int (fun _ _ => rfl)) pa_nil))))))))
                                            (case r0xxfxxxxxxxxxxxxxi =>
                                              refine' pss_one ?s0xxfxxxxxxxxxxxxxix
                                              (case s0xxfxxxxxxxxxxxxxix =>
                                                refine' ps_if ?c0xxfxxxxxxxxxxxxxix ?a0xxfxxxxxxxxxxxxxix ?b0xxfxxxxxxxxxxxxxix
                                                (case c0xxfxxxxxxxxxxxxxix => exact (pt_cmpR (op_neLI hr.units) (pv 15) (pv 7) (nomark _)))
                                                (case a0xxfxxxxxxxxxxxxxix =>
                                                  refine' pss_one ?s0xxfxxxxxxxxxxxxxixi
                                                  (case s0xxfxxxxxxxxxxxxxixi =>
                                                    exact (ps_ret pe_bl)))
                                                (case b0xxfxxxxxxxxxxxxxix =>
                                                  exact pss_nil))))
                                          (case b0xxfxxxxxxxxxxxxx =>
                                            exact pss_nil)))))))))))))))))
          (case r0xx =>
            refine' pss_one ?s0xxx
            (case s0xxx =>
              exact (ps_ret (pe_and (pe_fn F_law_refused hr (by rfl) (pa_cons (pe_makeC IReady hr (by rfl) (pa_cons (pe_lstN pa_nil) pa_nil)) (pa_cons pe_int (pa_cons pe_int (pa_cons pe_int pa_nil))))) (pe_one (pe_fn F_law_refused hr (by rfl) (pa_cons (pe_makeC IReady hr (by rfl) (pa_cons (pe_lstN (pa_cons pe_int pa_nil)) pa_nil)) (pa_cons pe_int (pa_cons pe_int (pa_cons pe_int pa_nil)))))))))))))
    have esz : sizeLine = 16777216 := sizeLine_eq
    -- the deep things
    refine ⟨(by show 0 ≤ sizeLine; decide), fun x0 hx0 _ => ?_⟩
    have sx0 := Same.new (o := .lst []) hx0
    have cx0 : upd H x0 (.lst []) x0 = some (.lst []) := upd_same
    generalize upd H x0 (.lst []) = Ha at sx0 cx0 ⊢
    refine ⟨(by show 0 ≤ sizeLine; decide), fun y0 hy0 => ?_⟩
    have sy0 := Same.new (o := .tup []) hy0
    have cy0 : upd Ha y0 (.tup []) y0 = some (.tup []) := upd_same
    generalize upd Ha y0 (.tup []) = Hb at sy0 cy0 ⊢
    refine ⟨(by show 2 ≤ sizeLine; decide), fun d0 hd0 _ => ?_⟩
    have sd0 := Same.new (o := .lst [.ref x0, .ref y0]) hd0
    have cd0 : upd Hb d0 (.lst [.ref x0, .ref y0]) d0 = some (.lst [.ref x0, .ref y0]) := upd_same
    generalize upd Hb d0 (.lst [.ref x0, .ref y0]) = Hc at sd0 cd0 ⊢
    have sac := sx0.trans (sy0.trans sd0)
    have cx0' := (sy0.trans sd0) _ _ cx0
    have cy0' := sd0 _ _ cy0
    dsimp only [gName]
    refine seqJ (fun σ' H' => ∃ (dl dx dy : Addr) (xs ys : List V) (v2 : Option V), σ' = [some (.ref a), some (.ref dl), v2, none, none, none, none, none, none, none, none, none, none, none, none, none] ∧ H' dl = some (.lst [.ref dx, .ref dy]) ∧ H' dx = some (.lst xs) ∧ H' dy = some (.tup ys) ∧ Same H H') (fun fin => ?_) ?_
    · refine ⟨_, rfl, by decide, by decide, for_range (lo := 0) (n := 2000) (fun j σ' H' => ∃ (dl dx dy : Addr) (xs ys : List V) (v2 : Option V), σ' = [some (.ref a), some (.ref dl), v2, none, none, none, none, none, none, none, none, none, none, none, none, none] ∧ H' dl = some (.lst [.ref dx, .ref dy]) ∧ H' dx = some (.lst xs) ∧ H' dy = some (.tup ys) ∧ Same H H') ⟨d0, x0, y0, _, _, _, rfl, cd0, cx0', cy0', sac⟩ ?_ ?_⟩
      · rintro j σ' H1 hj ⟨dl, dx, dy, xs, ys, v2, rfl, c1, c2, c3, s1⟩
        dsimp only [gName]
        refine ⟨_, rfl, dl, _, _, _, rfl, rfl, SqL.of c1, rfl, (by show 1 ≤ sizeLine; decide), fun x1 hx1 _ => ?_⟩
        have t1 := Same.new (o := .lst [.ref dx]) hx1
        have e1 : upd H1 x1 (.lst [.ref dx]) x1 = some (.lst [.ref dx]) := upd_same
        generalize upd H1 x1 (.lst [.ref dx]) = H2 at t1 e1 ⊢
        refine ⟨_, rfl, dl, _, _, _, rfl, rfl, SqL.of (t1 _ _ c1), rfl, (by show 1 ≤ sizeLine; decide), fun y1 hy1 => ?_⟩
        have t2 := Same.new (o := .tup [.ref dy]) hy1
        have e2 : upd H2 y1 (.tup [.ref dy]) y1 = some (.tup [.ref dy]) := upd_same
        generalize upd H2 y1 (.tup [.ref dy]) = H3 at t2 e2 ⊢
        refine ⟨(by show 2 ≤ sizeLine; decide), fun d1 hd1 _ => ?_⟩
        have t3 := Same.new (o := .lst [.ref x1, .ref y1]) hd1
        exact ⟨d1, x1, y1, _, _, _, rfl, upd_same, (t2.trans t3) _ _ e1, t3 _ _ e2, s1.trans (t1.trans (t2.trans t3))⟩
      · rintro σ' H1 h1
        exact fin _ _ h1
    rintro _ Hd ⟨dl, dx, dy, xs, ys, v2, rfl, cdl, cdx, cdy, sd⟩
    refine seqJ (fun σ' H' => ∃ v2 v3 v4 v5 v6 v7 v8 v9 v10 v11 v12 v13 v14 v15 : Option V, σ' = [some (.ref a), some (.ref dl), v2, v3, v4, v5, v6, v7, v8, v9, v10, v11, v12, v13, v14, v15]) (fun fin => ?_) ?_
    · refine ⟨_, rfl, a, _, ns, rfl, sd.seq hs, hl, fun H1 l ts cs s1 f1 c1 tl tt => ?_⟩
      refine ⟨l, rfl, ⟨_, SqL.of c1⟩, for_list (K := K) (a := l) (xs := ts.map V.ref) (fun i σ H' => ∃ v2 v3 v4 v5 v6 v7 v8 v9 v10 v11 v12 v13 v14 v15 : Option V, σ = [some (.ref a), some (.ref dl), v2, v3, v4, v5, v6, v7, v8, v9, v10, v11, v12, v13, v14, v15] ∧ Same H1 H') ⟨_, _, _, _, _, _, _, _, _, _, _, _, _, _, rfl, Same.refl _⟩ (fun i σ H' _ ⟨_, _, _, _, _, _, _, _, _, _, _, _, _, _, _, s2⟩ => SqL.of (s2 _ _ c1)) ?_ ?_⟩
      · rintro i x σ H2 hx ⟨v2, v3, v4, v5, v6, v7, v8, v9, v10, v11, v12, v13, v14, v15, rfl, s2⟩
        obtain ⟨t, ht, rfl⟩ := get_refs hx
        refine ⟨t, _, rfl, SqT.of (s2 _ _ (tt i t ht)), rfl, _, _, rfl, _, _, rfl, rfl, ?_⟩
        refine ⟨_, rfl, _, rfl, _, _, rfl, fun p H3 fpp s3 hh3 => ?_⟩
        have s12 := s1.trans s2
        have cdl2 := s12 _ _ cdl
        have cdx2 := s12 _ _ cdx
        have cdy2 := s12 _ _ cdy
        have np : ∀ {c : Addr} {ob : HO}, H2 c = some ob → c ≠ p := fun {c ob} e z => by rw [z, fpp] at e; cases e
        dsimp only [gName]
        refine seqJ (fun σ' H' => ∃ (r : Addr) (rs : List Int), σ' = [some (.ref a), some (.ref dl), some (.int (i : Nat)), some (.int (cs.getD i 0)), some (.ref p), some (.ref r), v6, v7, v8, v9, v10, v11, v12, v13, v14, v15] ∧ But p H3 H' ∧ Hand H' p ∧ r ≠ p ∧ H' r = some (.lst (rs.map V.int)) ∧ rs.length ≤ 300 ∧ ∀ n ∈ rs, Sml n) (fun fin2 => ?_) ?_
        · refine ⟨_, rfl, _, rfl, rfl, _, rfl, ?_⟩
          refine ite2 (fun _ => ⟨_, rfl, a, ns, rfl, (sd.trans (s12.trans s3)).seq hs, fun bb => ?_⟩) (fun _ => ?_)
          all_goals
            refine ⟨p, _, rfl, hh3, fun r H4 rs fr nr k4 hh4 cr rl rb _ => ?_⟩
            exact fin2 _ _ ⟨r, rs, rfl, k4, hh4, nr, cr, rl, fun n hn => sml_of (rb n hn).1 (rb n hn).2⟩
        rintro _ H4' ⟨r, rs, rfl, k4', hh4', nr, cr', rl, rsm⟩
        refine ⟨_, rfl, fun x dx' nx ndx nex => made_ready nx ndx nex (SqL.of cr') rl fun H4 s4 rd4 => ⟨rfl, ?_⟩⟩
        have hh4 := hh4'.same s4
        have cr := s4 _ _ cr'
        have k4 := k4'.trans s4.but
        have npW : ¬ H4' p = none := hh4'.some
        dsimp only [gName]
        refine ⟨(by show 0 ≤ sizeLine; decide), fun t0 ht0 _ => ?_⟩
        have s5 := Same.new (o := .lst []) ht0
        have ct0 : upd H4 t0 (.lst []) t0 = some (.lst (([] : List Int).map V.int)) := upd_same
        have nt0 : t0 ≠ p := hh4.ne ht0
        generalize upd H4 t0 (.lst []) = H5 at s5 ct0 ⊢
        dsimp only [gName]
        refine ⟨(by show 2 ≤ sizeLine; decide), fun st0 hst0 => ?_⟩
        have s6 := Same.new (o := .tup [.int 0, .int 0]) hst0
        have cst0 : upd H5 st0 (.tup [.int 0, .int 0]) st0 = some (.tup [.int 0, .int 0]) := upd_same
        generalize upd H5 st0 (.tup [.int 0, .int 0]) = H6 at s6 cst0 ⊢
        have s46 := s5.trans s6
        have hh6 := hh4.same s46
        have cr6 := s46 _ _ cr
        dsimp only [gName]
        refine seqJ (fun σ' H' => ∃ (tl st : Addr) (tds : List Int) (b e : Int), σ' = [some (.ref a), some (.ref dl), some (.int (i : Nat)), some (.int (cs.getD i 0)), some (.ref p), some (.ref r), some (.ref x), some (.ref tl), some (.ref st), v9, v10, v11, v12, v13, v14, v15] ∧ But p H6 H' ∧ Hand H' p ∧ tl ≠ p ∧ H' tl = some (.lst (tds.map V.int)) ∧ H' st = some (.tup [.int b, .int e]) ∧ (rs ≠ [] → IsSt rs.length b e ∧ tds = told6 rs b e)) (fun fin2 => ?_) ?_
        · refine ⟨_, rfl, (by show 0 ≤ sizeLine; decide), fun q0 hq0 _ => ?_⟩
          have s7 := Same.new (o := .lst []) hq0
          refine ⟨r, q0, rs, [], rfl, rfl, SqL.of (s7 _ _ cr6), SqL.of upd_same, _, rfl, ?_⟩
          generalize upd H6 q0 (.lst []) = H7 at s7 ⊢
          have hh7 := hh6.same s7
          have cr7 := s7 _ _ cr6
          refine ite2 (fun z => ?_) (fun z => ?_)
          · have hN0 : 0 < rs.length := by
              cases rs with
              | nil => exact absurd z (by decide)
              | cons _ _ => exact Nat.succ_pos _
            refine ⟨_, rfl, _, rfl, r, _, rfl, .inl (SqL.of cr7), p, rs.length, (by rw [List.length_map]; rfl), hh7, hN0, rl, fun st H8 b e hst fst k8 hh8 cst => ?_⟩
            have cr8 := k8 _ _ nr cr7
            have rd8 := (rd4.same (s46.trans s7)).but k8 npW
            have nst : st ≠ p := fun z => by
              obtain ⟨d', e', hp', _⟩ := hh8
              rw [z, hp'] at cst; cases cst
            dsimp only [gName]
            refine ⟨_, rfl, by decide, by decide, fun G hG => lc_rngS (f := fun k => ask6 rs b e ((0 : Int) + (k : Nat))) hG (by decide) (fun v => rfl) (fun k H' R hk sk rr => ?_) (fun H9 cG s9 => ?_)⟩
            · exact ⟨_, rfl, _, rfl, _, rfl, st, _, _, _, rfl, rfl, SqT.of (sk _ _ cst), rfl, _, rfl, st, _, _, _, rfl, rfl, SqT.of (sk _ _ cst), rfl, x, rs, _, _, b, e, rfl, rd8.same sk, hst, rl, rr⟩
            exact fin2 _ _ ⟨G, st, _, b, e, rfl, (s7.but.trans k8).trans s9.but, hh8.same s9, hh8.ne hG, cG, s9 _ _ cst, fun _ => ⟨hst, rfl⟩⟩
          · have hnil : rs = [] := by
              cases rs with
              | nil => rfl
              | cons _ _ => exact absurd (by rfl) z
            exact fin2 _ _ ⟨t0, st0, [], 0, 0, rfl, s7.but, hh7, nt0, (s6.trans s7) _ _ ct0, s7 _ _ cst0, fun y => absurd hnil y⟩
        rintro _ H7 ⟨tl, st, tds, b, e, rfl, k7, hh7, ntl, ctl, cst, hrs⟩
        have cr7 := k7 _ _ nr cr6
        have rd7 := (rd4.same s46).but k7 npW
        have k37 : But p H3 H7 := (k4.trans s46.but).trans k7
        have cdl7 := k37 _ _ (np cdl2) (s3 _ _ cdl2)
        have cdx7 := k37 _ _ (np cdx2) (s3 _ _ cdx2)
        have cdy7 := k37 _ _ (np cdy2) (s3 _ _ cdy2)
        have nst : st ≠ p := fun z => by
          obtain ⟨d', e', hp', _⟩ := hh7
          rw [z, hp'] at cst; cases cst
        refine ⟨_, rfl, _, rfl, r, _, rfl, .inl (SqL.of cr7), p, rs.length, (by rw [List.length_map]; rfl), rl, hh7, fun l9 H8 us ds k8 hh8 fl9 gl9 cl9 ul nos => ?_⟩
        dsimp only [gName]
        have nl9 : l9 ≠ p := hh7.ne fl9
        obtain ⟨o1, o2, o3⟩ := okl (ds := ds) (by rw [nos.len, ul]; decide) nos.ok
        have hWp : ∀ a, Apart p a → a ≠ sysModules := fun a h => h.1
        refine ⟨_, rfl, _, .list ds, Apart p, rfl, .lst cl9 ⟨gl9, nl9⟩ nos.dq, hWp, ⟨_, rfl⟩, o1, o2, o3, ?_⟩
        dsimp only [gName]
        have cr8 := k8 _ _ nr cr7
        refine seqJ (fun σ' H' => σ' = [some (.ref a), some (.ref dl), some (.int (i : Nat)), some (.int (cs.getD i 0)), some (.ref p), some (.ref r), some (.ref x), some (.ref tl), some (.ref st), v9, some (.ref l9), some (.str (PyData.list ds).shown), v12, v13, v14, v15] ∧ But p H8 H' ∧ Hand H' p) (fun fin2 => ?_) ?_
        · refine ⟨_, rfl, (by show 0 ≤ sizeLine; decide), fun q0 hq0 _ => ?_⟩
          have s9 := Same.new (o := .lst []) hq0
          refine ⟨r, q0, rs, [], rfl, rfl, SqL.of (s9 _ _ cr8), SqL.of upd_same, _, rfl, ?_⟩
          generalize upd H8 q0 (.lst []) = H9 at s9 ⊢
          refine ite2 (fun z => ?_) (fun _ => fin2 _ _ ⟨rfl, s9.but, hh8.same s9⟩)
          have hne : rs ≠ [] := by
            cases rs with
            | nil => exact absurd z (by decide)
            | cons _ _ => exact List.cons_ne_nil _ _
          obtain ⟨hst, htd⟩ := hrs hne
          have k79 : But p H7 H9 := k8.trans s9.but
          refine ⟨_, rfl, _, rfl, _, rfl, _, rfl, _, rfl, p, r, l9, st, tl, rs, us, b, e, rfl, hh8.same s9, nr, s9 _ _ cr8, List.length_pos_iff.mpr hne, rl, nl9, s9 _ _ cl9, ul, nos.bad.same s9, k79 _ _ nst cst, hst, ntl, by rw [← htd]; exact k79 _ _ ntl ctl, fun H10 k10 hh10 => ⟨_, rfl, ?_⟩⟩
          exact fin2 _ _ ⟨rfl, s9.but.trans k10, hh10⟩
        rintro _ H8' ⟨rfl, k8', hh8'⟩
        have cl9' := k8' _ _ nl9 cl9
        have nos' := nos.but k8' (fun a h => h.2) hh8 hh8'
        have k8'' := k8.trans k8'
        refine ⟨_, rfl, fun rf hrf => ?_⟩
        have s9 := Same.new (o := verrO rf) hrf
        have crf : upd H8' rf (verrO rf) rf = some (verrO rf) := upd_same
        generalize upd H8' rf (verrO rf) = H9 at s9 crf ⊢
        have k89 : But p H7 H9 := k8''.trans s9.but
        have hh9 := hh8'.same s9
        have cr9 := k89 _ _ nr cr7
        have cdl9 := k89 _ _ (np cdl2) cdl7
        have cdx9 := k89 _ _ (np cdx2) cdx7
        have cdy9 := k89 _ _ (np cdy2) cdy7
        have cl99 := s9 _ _ cl9'
        have nos9 := nos'.same s9
        dsimp only [gName]
        have w0 : BadAll K H9 rs.length [] := BadAll.nil K H9 rs.length
        refine ⟨_, rfl, _, rfl, dl, _, _, _, rfl, rfl, SqL.of cdl9, rfl, _, rfl, r, _, rfl, .inl (SqL.of cr9), (by show 2 ≤ sizeLine; decide), fun T1 hT1 => ?_⟩
        rw [List.length_map]
        have sT1 := Same.new (o := .tup [.ref dx, .int (rs.length : Nat)]) hT1
        have w1 := w0.put hT1 (v1 := .ref dx) (v2 := .int (rs.length : Nat)) (.inl (odd_lst cdx9))
        generalize upd H9 T1 (.tup [.ref dx, .int (rs.length : Nat)]) = G1 at sT1 w1 ⊢
        refine ⟨_, rfl, dl, _, _, _, rfl, rfl, SqL.of (sT1 _ _ cdl9), rfl, (by show 2 ≤ sizeLine; decide), fun T2 hT2 => ?_⟩
        have sT2 := Same.new (o := .tup [.int 0, .ref dy]) hT2
        have w2 := w1.put hT2 (v1 := .int 0) (v2 := .ref dy) (.inr (.inl ⟨⟨_, rfl⟩, odd_tup (sT1 _ _ cdy9)⟩))
        generalize upd G1 T2 (.tup [.int 0, .ref dy]) = G2 at sT2 w2 ⊢
        have u2 := sT1.trans sT2
        refine ⟨_, rfl, dl, _, _, _, rfl, rfl, SqL.of (u2 _ _ cdl9), rfl, _, rfl, dl, _, _, _, rfl, rfl, SqL.of (u2 _ _ cdl9), rfl, (by show 2 ≤ sizeLine; decide), fun T3 hT3 => ?_⟩
        have sT3 := Same.new (o := .tup [.ref dy, .ref dx]) hT3
        have w3 := w2.put hT3 (v1 := .ref dy) (v2 := .ref dx) (.inl (odd_tup (u2 _ _ cdy9)))
        generalize upd G2 T3 (.tup [.ref dy, .ref dx]) = G3 at sT3 w3 ⊢
        have u3 := u2.trans sT3
        refine ⟨_, rfl, _, rfl, r, _, rfl, .inl (SqL.of (u3 _ _ cr9)), (by show 2 ≤ sizeLine; decide), fun T4 hT4 => ?_⟩
        rw [List.length_map]
        have sT4 := Same.new (o := .tup [.ref rf, .int (rs.length : Nat)]) hT4
        have w4 := w3.put hT4 (v1 := .ref rf) (v2 := .int (rs.length : Nat)) (.inl (odd_verr (u3 _ _ crf)))
        generalize upd G3 T4 (.tup [.ref rf, .int (rs.length : Nat)]) = G4 at sT4 w4 ⊢
        have u4 := u3.trans sT4
        refine ⟨_, rfl, (by show 2 ≤ sizeLine; decide), fun T5 hT5 => ?_⟩
        have sT5 := Same.new (o := .tup [.int 0, .ref rf]) hT5
        have w5 : BadAll K (upd G4 T5 (.tup [.int 0, .ref rf])) rs.length [T1, T2, T3, T4, T5] := w4.put hT5 (v1 := .int 0) (v2 := .ref rf) (.inr (.inl ⟨⟨_, rfl⟩, odd_verr (u4 _ _ crf)⟩))
        generalize upd G4 T5 (.tup [.int 0, .ref rf]) = G5 at sT5 w5 ⊢
        have u5 := u4.trans sT5
        refine ⟨(by show 5 ≤ sizeLine; decide), fun L5 hL5 _ => ?_⟩
        have sL5 := Same.new (o := .lst ([T1, T2, T3, T4, T5].map V.ref)) hL5
        have cL5 : upd G5 L5 (.lst ([T1, T2, T3, T4, T5].map V.ref)) L5 = some (.lst ([T1, T2, T3, T4, T5].map V.ref)) := upd_same
        show rCatN _ _ (upd G5 L5 (.lst ([T1, T2, T3, T4, T5].map V.ref))) _
        have lL5 : ([T1, T2, T3, T4, T5] : List Addr).length = 5 := rfl
        generalize [T1, T2, T3, T4, T5] = ws at sL5 cL5 w5 lL5 ⊢
        have w6 := w5.same sL5
        generalize upd G5 L5 (.lst (ws.map V.ref)) = G6 at sL5 cL5 w6 ⊢
        have u6 := u5.trans sL5
        refine ⟨l9, L5, us.map V.ref, ws.map V.ref, rfl, rfl, u6 _ _ cl99, cL5, by rw [List.length_map, List.length_map, ul, lL5, sizeLine_eq]; decide, fun lb hlb _ => ?_⟩
        rw [← List.map_append]
        have s10 := Same.new (o := .lst ((us ++ ws).map V.ref)) hlb
        have clb : upd G6 lb (.lst ((us ++ ws).map V.ref)) lb = some (.lst ((us ++ ws).map V.ref)) := upd_same
        have bad10 : BadAll K (upd G6 lb (.lst ((us ++ ws).map V.ref))) rs.length (us ++ ws) := ((nos9.bad.same u6).app w6).same s10
        generalize upd G6 lb (.lst ((us ++ ws).map V.ref)) = H10 at s10 clb bad10 ⊢
        have u10 := u6.trans s10
        have hh10 := hh9.same u10
        have nlb : lb ≠ p := (hh9.same u6).ne hlb
        have nos10 := nos9.same u10
        have cr10 := u10 _ _ cr9
        have k710 : But p H7 H10 := k89.trans u10.but
        have rd10 := rd7.but k710 npW
        have ctl10 := k710 _ _ ntl ctl
        have cst10 := k710 _ _ nst cst
        dsimp only [gName]
        refine seqJ (fun σ' H' => ∃ (v13 v14 : Option V), σ' = [some (.ref a), some (.ref dl), some (.int (i : Nat)), some (.int (cs.getD i 0)), some (.ref p), some (.ref r), some (.ref x), some (.ref tl), some (.ref st), v9, some (.ref lb), some (.str (PyData.list ds).shown), some (.ref rf), v13, v14, v15] ∧ But p H10 H' ∧ Hand H' p) (fun fin2 => ?_) ?_
        · refine ⟨_, rfl, lb, rfl, ⟨_, SqL.of clb⟩, for_list (K := K) (a := lb) (xs := (us ++ ws).map V.ref) (fun j σ H' => ∃ (v13 v14 : Option V), σ = [some (.ref a), some (.ref dl), some (.int (i : Nat)), some (.int (cs.getD i 0)), some (.ref p), some (.ref r), some (.ref x), some (.ref tl), some (.ref st), v9, some (.ref lb), some (.str (PyData.list ds).shown), some (.ref rf), v13, v14, v15] ∧ But p H10 H' ∧ Hand H' p) ⟨_, _, rfl, But.refl _ _, hh10⟩ (fun j σ H' _ ⟨_, _, _, k, _⟩ => SqL.of (k _ _ nlb clb)) ?_ ?_⟩
          · rintro j y σ H11 hy ⟨v13, v14, rfl, k11, hh11⟩
            obtain ⟨u, hu, rfl⟩ := get_refs hy
            obtain ⟨w1, w2, cu, bd⟩ := bad10.but k11 hh10 hh11 u (List.mem_of_getElem? hu)
            have cr11 := k11 _ _ nr cr10
            have rd11 := rd10.but k11 npW
            refine ⟨u, _, rfl, SqT.of cu, rfl, _, _, rfl, _, _, rfl, rfl, ?_⟩
            refine ⟨_, rfl, by decide, by decide, fun G hG => lc_range (lo := 0) (n := 6) (fun _ H' => H' G = some (.lst []) ∧ Same H11 H') ⟨upd_same, Same.new hG⟩ ?_ ?_⟩
            · rintro m H' hm ⟨cG, sG⟩
              refine ⟨rfl, ?_⟩
              refine ⟨_, rfl, _, rfl, _, rfl, _, rfl, x, rs, _, _, w1, w2, rfl, rd11.same sG, bd.same sG, fun H'' s'' => ⟨_, rfl, ?_⟩⟩
              exact ⟨s'' _ _ cG, sG.trans s''⟩
            rintro H12 ⟨cG, s12⟩
            refine ⟨(by show 0 ≤ sizeLine; decide), fun q1 hq1 _ => ?_⟩
            have s13 := Same.new (o := .lst []) hq1
            refine ⟨G, q1, [], [], rfl, rfl, SqL.of (s13 _ _ cG), SqL.of upd_same, _, rfl, ifNot rfl ?_⟩
            generalize upd H12 q1 (.lst []) = H13 at s13 ⊢
            have s1113 := s12.trans s13
            have hh13 := hh11.same s1113
            have cr13 := s1113 _ _ cr11
            refine ⟨_, rfl, _, rfl, p, _, rfl, hh13, by decide, by decide, fun g H14 g0 g1 hh14 k14 => ?_⟩
            have bd14 := (bd.same s1113).but k14 hh13 hh14
            refine ⟨_, rfl, _, rfl, x, rs, _, g, w1, w2, rfl, (rd11.same s1113).but k14 npW, bd14, fun H15 s15 => ⟨_, rfl, ?_⟩⟩
            exact ⟨_, _, rfl, ((k11.trans s1113.but).trans k14).trans s15.but, hh14.same s15⟩
          · rintro σ H11 h11
            exact fin2 _ _ h11
        rintro _ H11 ⟨v13', v14', rfl, k11, hh11⟩
        have clb11 := k11 _ _ nlb clb
        have nos11 := nos10.but k11 (fun a h => h.2) hh10 hh11
        have cr11 := k11 _ _ nr cr10
        have rd11 := rd10.but k11 npW
        have ctl11 := k11 _ _ ntl ctl10
        have cst11 := k11 _ _ nst cst10
        refine ⟨_, rfl, _, rfl, lb, _, rfl, .inl (SqL.of clb11), _, _, rfl, rfl, _, rfl, lb, _, rfl, SqL.of clb11, fun sl hsl gsl => ?_⟩
        have elen : ((((us ++ ws).map V.ref).length : Nat) : Int) - 5 = ((28 : Nat) : Int) := by
          rw [List.length_map, List.length_append, ul, lL5]; rfl
        have ecut : cutV ((us ++ ws).map V.ref) none (some (((((us ++ ws).map V.ref).length : Nat) : Int) - 5)) = us.map V.ref := by
          rw [elen, cut_refs, List.take_left' ul]
        dsimp only
        rw [ecut]
        have s12 := Same.new (o := .lst (us.map V.ref)) hsl
        have csl : upd H11 sl (.lst (us.map V.ref)) sl = some (.lst (us.map V.ref)) := upd_same
        have nsl : sl ≠ p := hh11.ne hsl
        generalize upd H11 sl (.lst (us.map V.ref)) = H12 at s12 csl ⊢
        refine ⟨_, .list ds, Apart p, rfl, .lst csl ⟨gsl, nsl⟩ (nos11.same s12).dq, hWp, ⟨_, rfl⟩, o1, o2, o3, _, rfl, rfl, _, rfl, ifNot rfl ?_⟩
        have hsuf : ∀ H20 : Hp, But p H12 H20 → Same H1 H20 := fun H20 k c ob e => by
          have e2 := s2 _ _ e
          have ncp : c ≠ p := SamO.ne e2 fpp
          exact k.ap ncp (s12.ap (k11.ap ncp (k710.ap ncp (k37.ap ncp (s3.ap e2)))))
        have cr12 := s12 _ _ cr11
        dsimp only [gName, tNext]
        refine ⟨_, rfl, (by show 0 ≤ sizeLine; decide), fun q0 hq0 _ => ?_⟩
        have s13 := Same.new (o := .lst []) hq0
        refine ⟨r, q0, rs, [], rfl, rfl, SqL.of (s13 _ _ cr12), SqL.of upd_same, _, rfl, ?_⟩
        generalize upd H12 q0 (.lst []) = H13 at s13 ⊢
        refine ite2 (fun z => ?_) (fun _ => ⟨_, _, _, _, _, _, _, _, _, _, _, _, _, _, rfl, hsuf _ s13.but⟩)
        have hne : rs ≠ [] := by
          cases rs with
          | nil => exact absurd z (by decide)
          | cons _ _ => exact List.cons_ne_nil _ _
        obtain ⟨hst, htd⟩ := hrs hne
        have s1113 := s12.trans s13
        have cr13 := s1113 _ _ cr11
        have rd13 := rd11.same s1113
        have ctl13 := s1113 _ _ ctl11
        have cst13 := s1113 _ _ cst11
        refine ⟨_, rfl, by decide, by decide, fun G hG => lc_rngS (f := fun k => ask6 rs b e ((0 : Int) + (k : Nat))) hG (by decide) (fun v => rfl) (fun k H' R hk sk rr => ?_) (fun H14 cG s14 => ?_)⟩
        · exact ⟨_, rfl, _, rfl, _, rfl, st, _, _, _, rfl, rfl, SqT.of (sk _ _ cst13), rfl, _, rfl, st, _, _, _, rfl, rfl, SqT.of (sk _ _ cst13), rfl, x, rs, _, _, b, e, rfl, rd13.same sk, hst, rl, rr⟩
        dsimp only [gName]
        refine ⟨_, rfl, _, rfl, G, tl, _, tds, rfl, rfl, SqL.of cG, SqL.of (s14 _ _ ctl13), _, rfl, ifNot htd.symm ?_⟩
        exact ⟨_, _, _, _, _, _, _, _, _, _, _, _, _, _, rfl, hsuf _ (s13.trans s14).but⟩
      · rintro σ H2 ⟨v2, v3, v4, v5, v6, v7, v8, v9, v10, v11, v12, v13, v14, v15, rfl, s2⟩
        exact fin _ _ ⟨v2, v3, v4, v5, v6, v7, v8, v9, v10, v11, v12, v13, v14, v15, rfl⟩
    rintro σ1 H1 ⟨v2, v3, v4, v5, v6, v7, v8, v9, v10, v11, v12, v13, v14, v15, rfl⟩
    refine ⟨(by show 0 ≤ sizeLine; decide), fun q1 hq1 _ => ?_⟩
    refine fun x dx nx ndx nex => made_ready (ns := []) nx ndx nex (SqL.of upd_same) (by decide) fun H2 s2 rd2 => ⟨rfl, ?_⟩
    refine ⟨x, [], _, 0, .int 0, .int 1, rfl, rd2, bad_ints (by decide), fun H3 s3 => ⟨_, rfl, ?_⟩⟩
    refine ⟨(by show 1 ≤ sizeLine; decide), fun q2 hq2 _ => ?_⟩
    refine fun y dy ny ndy ney => made_ready (ns := [5]) ny ndy ney (SqL.of upd_same) (by decide) fun H4 s4 rd4 => ⟨rfl, ?_⟩
    exact ⟨y, [5], _, 5, .int 1, .int 1, rfl, rd4, bad_ints (by decide), fun H5 s5 => q _⟩
end

section
variable {K : PySem.W.Frag} {mg : Str → Option Value}
theorem bl_mk {h : Heap} (X : K.In h) (G : h.Ns mainGlobals mg) (z : ∀ x ∈ bls, PySem.W.nsIn K mainGlobals x = some none) : Bl mg bls := fun x hx => PySem.W.mg_none_of X G (z x hx)
theorem all_mk {l : PySem.W.OpenLaw} {w : World} {h : Heap} {fa f4 : Addr} {CL C S CP C1 C2 C3 C4 C5 : Addr} (X : K.In h) (G : h.Ns mainGlobals mg) (hfa : mg "law" = some (.ref fa)) (B : Bl mg bls)
    (d1 : DefAt K mg "reaches" sreaches ["row"])
    (d2 : DefAt K mg "is_whole" sis_whole ["thing"])
    (d3 : DefAt K mg "is_stretch" sis_stretch ["row", "begin", "end"])
    (d4 : DefAt K mg "numbers_of" snumbers_of ["row", "begin", "end"])
    (d5 : DefAt K mg "least_of" sleast_of ["row", "begin", "end"])
    (d6 : DefAt K mg "greatest_of" sgreatest_of ["row", "begin", "end"])
    (d7 : DefAt K mg "least_place" sleast_place ["row", "begin", "end"])
    (d8 : DefAt K mg "sums_by_end" ssums_by_end ["row", "spans"])
    (d9 : DefAt K mg "sums_by_begin" ssums_by_begin ["row", "spans"])
    (d10 : DefI K mg "LeastSums" CL "LeastSums.__init__" sLeastSums___init__ ["self", "row"])
    (c_LeastSums : LSC K CL)
    (d12 : DefI K mg "Ready" C "Ready.__init__" sReady___init__ ["self", "row"])
    (c_Ready : RDC K C)
    (d14 : DefM K CL "within" "LeastSums.within" sLeastSums_within ["self", "begin", "end"])
    (d15 : DefM K C "leasts" "Ready.leasts" sReady_leasts ["self", "begin", "end"])
    (d16 : DefM K C "greatests" "Ready.greatests" sReady_greatests ["self", "begin", "end"])
    (d17 : DefM K C "spreads" "Ready.spreads" sReady_spreads ["self", "begin", "end"])
    (d18 : DefM K C "least" "Ready.least" sReady_least ["self", "begin", "end"])
    (d19 : DefM K C "greatest" "Ready.greatest" sReady_greatest ["self", "begin", "end"])
    (d20 : DefM K C "first_least" "Ready.first_least" sReady_first_least ["self", "begin", "end"])
    (d21 : DefAt K mg "_law_hand" s_law_hand ["cell", "k"])
    (d22 : DefAt K mg "_law_draw" s_law_draw ["hand", "limit"])
    (d23 : DefAt K mg "_law_cells" s_law_cells ["script", "many"])
    (d24 : DefAt K mg "_law_great" s_law_great ["script"])
    (d25 : DefAt K mg "_law_wide" s_law_wide ["hand", "most"])
    (d26 : DefAt K mg "_law_row" s_law_row ["hand", "long"])
    (d27 : DefAt K mg "_law_stretch" s_law_stretch ["hand", "size"])
    (d28 : DefAt K mg "_law_no_stretches" s_law_no_stretches ["hand", "size"])
    (er_SpanError : Err K mg "SpanError" S bmVE)
    (er_NoStretch : Err K mg "NoStretch" CP (.ref S :: bmVE))
    (er_NoCommand : Err K mg "NoCommand" C1 (.ref S :: bmVE))
    (er_NoMany : Err K mg "NoMany" C2 (.ref S :: bmVE))
    (er_NoNumber : Err K mg "NoNumber" C3 (.ref S :: bmVE))
    (er_NoPlace : Err K mg "NoPlace" C4 (.ref S :: bmVE))
    (er_NoText : Err K mg "NoText" C5 (.ref S :: bmVE))
    (q_NoStretch : ErrQ K CP)
    (nd : [S, CP, C1, C2, C3, C4, C5].Nodup)
    (d38 : DefAt K mg "_law_just" s_law_just ["caught", "at"])
    (d39 : DefAt K mg "_law_asked" s_law_asked ["ready", "way", "begin", "end"])
    (d40 : DefAt K mg "_law_refused" s_law_refused ["ready", "way", "begin", "end"])
    (d41 : DefAt K mg "_law_first_right" s_law_first_right ["hand", "row", "part", "told"])
    (d42 : DefAt K mg "_law_fresh_right" s_law_fresh_right ["hand", "row", "bad", "part", "told"])
    {od4 an4 : Option Addr} {sl4 : Array (Option Value)} {oc4 kV4 dc4 pm4 cd4 ct4 : Value}
    (a4 : PySem.W.nsIn K mainGlobals "law" = some (some (.ref f4))) (l4 : K.lookup f4 = some ⟨oc4, od4, .func (PySem.W.fnOf "law" "law" (defArgs slaw) (defBody slaw) (defScope slaw) .none kV4 dc4 pm4 an4 cd4 ct4), sl4⟩) (c4 : PySem.W.codeIn K cd4 "law" = true) (k4 : PySem.W.keepIn K (.ref f4) = true) :
    ∃ fd : FuncData, (∀ (s : Shared) (v : Value), BindsTo s fd ⟨[v], []⟩ [("script", v)]) ∧ ∀ base : Heap, K.In base → base.Ns mainGlobals mg → FnOk l.prog w K mg base CX0 11 fa fd ["script"] (spLaw K) := by
  have e := hfa.symm.trans (PySem.W.mg_of X G a4)
  cases e
  have F4 := fun_mk (st := slaw) l4 c4 k4
  refine ⟨PySem.W.fnOf "law" "law" (defArgs slaw) (defBody slaw) (defScope slaw) .none kV4 dc4 pm4 an4 cd4 ct4, fun s v => .of_eq rfl, fun base _ _ => ?_⟩
  have w_reaches := fn_reaches (P := l.prog) (w := w) (K := K) (mg := mg) (base := base) B d1
  have w_is_whole := fn_is_whole (P := l.prog) (w := w) (K := K) (mg := mg) (base := base) B d2
  have w_is_stretch := fn_is_stretch (P := l.prog) (w := w) (K := K) (mg := mg) (base := base) B d3 w_is_whole
  have w_numbers_of := fn_numbers_of (P := l.prog) (w := w) (K := K) (mg := mg) (base := base) B d4 w_is_stretch
  have w_least_of := fn_least_of (P := l.prog) (w := w) (K := K) (mg := mg) (base := base) B d5 w_numbers_of
  have w_greatest_of := fn_greatest_of (P := l.prog) (w := w) (K := K) (mg := mg) (base := base) B d6 w_numbers_of
  have w_least_place := fn_least_place (P := l.prog) (w := w) (K := K) (mg := mg) (base := base) B d7 w_numbers_of
  have w_sums_by_end := fn_sums_by_end (P := l.prog) (w := w) (K := K) (mg := mg) (base := base) B d8
  have w_sums_by_begin := fn_sums_by_begin (P := l.prog) (w := w) (K := K) (mg := mg) (base := base) B d9
  have w_I_LeastSums := fn_LSI (P := l.prog) (w := w) (K := K) (mg := mg) (base := base) (CL := CL) B c_LeastSums d10 w_reaches w_sums_by_end w_sums_by_begin
  have w_I_Ready := fn_RDI (P := l.prog) (w := w) (K := K) (mg := mg) (base := base) (C := C) (CL := CL) B c_Ready d12 w_I_LeastSums
  have w_M_LeastSums_within := fn_within (P := l.prog) (w := w) (K := K) (mg := mg) (base := base) (CL := CL) B c_LeastSums d14 w_least_place
  have w_M_Ready_leasts := fn_leasts (P := l.prog) (w := w) (K := K) (mg := mg) (base := base) (C := C) (CL := CL) B c_Ready d15 w_M_LeastSums_within
  have w_M_Ready_greatests := fn_greatests (P := l.prog) (w := w) (K := K) (mg := mg) (base := base) (C := C) (CL := CL) B c_Ready d16 w_M_LeastSums_within
  have w_M_Ready_spreads := fn_spreads (P := l.prog) (w := w) (K := K) (mg := mg) (base := base) (C := C) (CL := CL) B d17 w_M_Ready_leasts w_M_Ready_greatests
  have w_M_Ready_least := fn_least (P := l.prog) (w := w) (K := K) (mg := mg) (base := base) (C := C) (CL := CL) B c_Ready d18 w_least_of
  have w_M_Ready_greatest := fn_greatest (P := l.prog) (w := w) (K := K) (mg := mg) (base := base) (C := C) (CL := CL) B c_Ready d19 w_greatest_of
  have w_M_Ready_first_least := fn_first_least (P := l.prog) (w := w) (K := K) (mg := mg) (base := base) (C := C) (CL := CL) B c_Ready d20 w_least_place
  have w__law_hand := fn_hand (P := l.prog) (w := w) (K := K) (mg := mg) (base := base) d21
  have w__law_draw := fn_draw (P := l.prog) (w := w) (K := K) (mg := mg) (base := base) d22
  have w__law_cells := fn_cells (P := l.prog) (w := w) (K := K) (mg := mg) (base := base) B d23
  have w__law_great := fn_great (P := l.prog) (w := w) (K := K) (mg := mg) (base := base) B d24
  have w__law_wide := fn_wide (P := l.prog) (w := w) (K := K) (mg := mg) (base := base) d25 w__law_draw
  have w__law_row := fn_row (P := l.prog) (w := w) (K := K) (mg := mg) (base := base) B d26 w__law_draw w__law_wide
  have w__law_stretch := fn_stretch (P := l.prog) (w := w) (K := K) (mg := mg) (base := base) B d27 w__law_draw
  have w__law_no_stretches := fn_no (P := l.prog) (w := w) (K := K) (mg := mg) (base := base) B d28 w__law_draw
  have w__law_just := fn_just (P := l.prog) (w := w) (K := K) (mg := mg) (base := base) (S := S) (CP := CP) (C1 := C1) (C2 := C2) (C3 := C3) (C4 := C4) (C5 := C5) B er_NoStretch er_NoCommand er_NoMany er_NoNumber er_NoPlace er_NoText q_NoStretch nd d38
  have w__law_asked := fn_asked6 (P := l.prog) (w := w) (K := K) (mg := mg) (base := base) (C := C) (CL := CL) B d39 w_M_Ready_leasts w_M_Ready_greatests w_M_Ready_spreads w_M_Ready_least w_M_Ready_greatest w_M_Ready_first_least
  have w__law_refused := fn_refused6 (P := l.prog) (w := w) (K := K) (mg := mg) (base := base) (C := C) (CL := CL) (S := S) (CP := CP) B er_SpanError er_NoStretch d40 (fn_asked6X (C := C) (CL := CL) (CP := CP) B d39 (fn_leastsX (C := C) (CL := CL) (CS := CP) B c_Ready d15 (fn_withinX (CL := CL) (CS := CP) B c_LeastSums d14 (fn_least_placeX (CS := CP) B d7 (fn_numbers_ofX (CS := CP) B er_NoStretch d4 (fn_is_stretchX B d3 (fn_is_wholeX B d2)))))) (fn_greatestsX (C := C) (CL := CL) (CS := CP) B c_Ready d16 (fn_withinX (CL := CL) (CS := CP) B c_LeastSums d14 (fn_least_placeX (CS := CP) B d7 (fn_numbers_ofX (CS := CP) B er_NoStretch d4 (fn_is_stretchX B d3 (fn_is_wholeX B d2)))))) (fn_spreadsX (C := C) (CL := CL) (CS := CP) B d17 (fn_leastsX (C := C) (CL := CL) (CS := CP) B c_Ready d15 (fn_withinX (CL := CL) (CS := CP) B c_LeastSums d14 (fn_least_placeX (CS := CP) B d7 (fn_numbers_ofX (CS := CP) B er_NoStretch d4 (fn_is_stretchX B d3 (fn_is_wholeX B d2)))))) (fn_greatestsX (C := C) (CL := CL) (CS := CP) B c_Ready d16 (fn_withinX (CL := CL) (CS := CP) B c_LeastSums d14 (fn_least_placeX (CS := CP) B d7 (fn_numbers_ofX (CS := CP) B er_NoStretch d4 (fn_is_stretchX B d3 (fn_is_wholeX B d2))))))) (fn_leastX (C := C) (CL := CL) (CS := CP) B c_Ready d18 (fn_least_ofX (CS := CP) B d5 (fn_numbers_ofX (CS := CP) B er_NoStretch d4 (fn_is_stretchX B d3 (fn_is_wholeX B d2))))) (fn_greatestX (C := C) (CL := CL) (CS := CP) B c_Ready d19 (fn_greatest_ofX (CS := CP) B d6 (fn_numbers_ofX (CS := CP) B er_NoStretch d4 (fn_is_stretchX B d3 (fn_is_wholeX B d2))))) (fn_first_leastX (C := C) (CL := CL) (CS := CP) B c_Ready d20 (fn_least_placeX (CS := CP) B d7 (fn_numbers_ofX (CS := CP) B er_NoStretch d4 (fn_is_stretchX B d3 (fn_is_wholeX B d2)))))) w__law_just
  have w__law_first_right := fn_first_right (P := l.prog) (w := w) (K := K) (mg := mg) (base := base) (C := C) (CL := CL) B d41 w__law_stretch w__law_asked w_I_Ready
  have w__law_fresh_right := fn_fresh_right (P := l.prog) (w := w) (K := K) (mg := mg) (base := base) (C := C) (CL := CL) B d42 w__law_draw w__law_asked w__law_refused w__law_first_right w_I_Ready
  exact ok_law B F4 w__law_cells w__law_hand w__law_draw w__law_great w__law_row w__law_stretch w__law_asked w__law_no_stretches w__law_refused w__law_fresh_right w_I_Ready
end
theorem walk {l : PySem.W.OpenLaw} {q : Program} {loose : List Str} {XP : (Str → Option Value) → Heap → Prop} {YP : World → Heap → Prop} {d : DefRec} {K : Params → PySem.W.Frag} (hn : l.most = some 63) (hdf : d.params.defaults = []) (hq : PyProof.Rows.recsOf l.prog = PyProof.Rows.recsOf q) (hcl : ∀ w : World, PySem.W.kb_classed (K w.params) = true)
    (hY : ∀ (w : World) (h : Heap), YP w h → (K w.params).In h)
    (F : ∀ (w : World) (mg : Str → Option Value) (fa : Addr) (h : Heap), (K w.params).In h → h.Ns mainGlobals mg → mg d.name = some (.ref fa) →
      ∃ fd : FuncData, (∀ (s : Shared) (u : Value), BindsTo s fd ⟨[u], []⟩ [("script", u)]) ∧ ∀ base : Heap, (K w.params).In base → base.Ns mainGlobals mg → FnOk l.prog w (K w.params) mg base CX0 11 fa fd ["script"] (spLaw (K w.params))) :
    PySem.W.WalkO q loose XP YP l.row.toRowW d [] (fun f vs => PySem.call f vs) :=
  L2.walk_of (n := 63) (k := 11) (x := "script") (CX := fun _ => CX0) (sp := fun w => spLaw (K w.params)) hn (by decide) hdf ⟨rfl, by decide, by decide, rfl⟩ hq hcl hY F (fun _ _ a ns hl _ hS => ⟨a, ns, rfl, hS, hl, fun _ => rfl⟩) fun _ _ _ _ _ z => z


end Law

open PySem PySem.W PyProof.Rows
set_option maxRecDepth 100000 in
set_option maxHeartbeats 0 in
theorem PySem.Challenge.cw_stretchleast_k14_parts_refused_holds : PySem.Challenge.rw_stretchleast_k14_parts_refused.Holds := by
  w_on; o_law; k_head; (case hw => w_witness2)
  k_fill
  refine Law.walk (l := PySem.Challenge.rw_stretchleast_k14_parts_refused) rfl rfl rfl (fun w => by first | rfl | decide +kernel) (fun w h Y => PySem.W.kIn_of Y) ?F
  case F =>
    intro w mg fa h KX G hmg
    refine' Law.all_mk KX G hmg ?B ?d1 ?d2 ?d3 ?d4 ?d5 ?d6 ?d7 ?d8 ?d9 ?d10 ?d11 ?d12 ?d13 ?d14 ?d15 ?d16 ?d17 ?d18 ?d19 ?d20 ?d21 ?d22 ?d23 ?d24 ?d25 ?d26 ?d27 ?d28 ?d29 ?d30 ?d31 ?d32 ?d33 ?d34 ?d35 ?d36 ?d37 ?d38 ?d39 ?d40 ?d41 ?d42 ?a4 ?l4 ?c4 ?k4
    (case B => refine Law.bl_mk KX G ?_; intro x hx; simp only [Law.bls, List.mem_cons, List.not_mem_nil, or_false] at hx; rcases hx with rfl | rfl | rfl | rfl | rfl | rfl | rfl | rfl | rfl | rfl | rfl | rfl | rfl | rfl | rfl | rfl | rfl | rfl | rfl | rfl | rfl | rfl <;> k_is)
    (case d1 => refine' L2.defAt_mk KX G ?xa1 ?xl1 ?xc1 ?xk1 ?xb1; (case xa1 => k_is); (case xl1 => k_is); (case xc1 => k_is); (case xk1 => k_is); exact fun _ _ _ _ _ _ us hl => match us, hl with | [_], _ => rfl)
    (case d2 => refine' L2.defAt_mk KX G ?xa2 ?xl2 ?xc2 ?xk2 ?xb2; (case xa2 => k_is); (case xl2 => k_is); (case xc2 => k_is); (case xk2 => k_is); exact fun _ _ _ _ _ _ us hl => match us, hl with | [_], _ => rfl)
    (case d3 => refine' L2.defAt_mk KX G ?xa3 ?xl3 ?xc3 ?xk3 ?xb3; (case xa3 => k_is); (case xl3 => k_is); (case xc3 => k_is); (case xk3 => k_is); exact fun _ _ _ _ _ _ us hl => match us, hl with | [_, _, _], _ => rfl)
    (case d4 => refine' L2.defAt_mk KX G ?xa4 ?xl4 ?xc4 ?xk4 ?xb4; (case xa4 => k_is); (case xl4 => k_is); (case xc4 => k_is); (case xk4 => k_is); exact fun _ _ _ _ _ _ us hl => match us, hl with | [_, _, _], _ => rfl)
    (case d5 => refine' L2.defAt_mk KX G ?xa5 ?xl5 ?xc5 ?xk5 ?xb5; (case xa5 => k_is); (case xl5 => k_is); (case xc5 => k_is); (case xk5 => k_is); exact fun _ _ _ _ _ _ us hl => match us, hl with | [_, _, _], _ => rfl)
    (case d6 => refine' L2.defAt_mk KX G ?xa6 ?xl6 ?xc6 ?xk6 ?xb6; (case xa6 => k_is); (case xl6 => k_is); (case xc6 => k_is); (case xk6 => k_is); exact fun _ _ _ _ _ _ us hl => match us, hl with | [_, _, _], _ => rfl)
    (case d7 => refine' L2.defAt_mk KX G ?xa7 ?xl7 ?xc7 ?xk7 ?xb7; (case xa7 => k_is); (case xl7 => k_is); (case xc7 => k_is); (case xk7 => k_is); exact fun _ _ _ _ _ _ us hl => match us, hl with | [_, _, _], _ => rfl)
    (case d8 => refine' L2.defAt_mk KX G ?xa8 ?xl8 ?xc8 ?xk8 ?xb8; (case xa8 => k_is); (case xl8 => k_is); (case xc8 => k_is); (case xk8 => k_is); exact fun _ _ _ _ _ _ us hl => match us, hl with | [_, _], _ => rfl)
    (case d9 => refine' L2.defAt_mk KX G ?xa9 ?xl9 ?xc9 ?xk9 ?xb9; (case xa9 => k_is); (case xl9 => k_is); (case xc9 => k_is); (case xk9 => k_is); exact fun _ _ _ _ _ _ us hl => match us, hl with | [_, _], _ => rfl)
    (case d10 => refine' L2.defI_mk KX G ?xn10 ?xm10 ?xq10 ?xa10 ?xi10 ?xl10 ?xc10 ?xk10 ?xb10; (case xn10 => k_is); (case xm10 => k_is); (case xq10 => k_is); (case xa10 => k_is); (case xi10 => k_is); (case xl10 => k_is); (case xc10 => k_is); (case xk10 => k_is); exact fun _ _ _ _ _ _ us hl => match us, hl with | [_, _], _ => rfl)
    (case d11 => refine' ⟨⟨?p111, ?p211, ?p311, ?p411⟩, ?n011, ?n111, ?n211⟩; (case p111 => k_is); (case p211 => k_is); (case p311 => k_is); (case p411 => k_is); (case n011 => (unfold L2.NoAttr; k_is)); (case n111 => (unfold L2.NoAttr; k_is)); (case n211 => (unfold L2.NoAttr; k_is)))
    (case d12 => refine' L2.defI_mk KX G ?xn12 ?xm12 ?xq12 ?xa12 ?xi12 ?xl12 ?xc12 ?xk12 ?xb12; (case xn12 => k_is); (case xm12 => k_is); (case xq12 => k_is); (case xa12 => k_is); (case xi12 => k_is); (case xl12 => k_is); (case xc12 => k_is); (case xk12 => k_is); exact fun _ _ _ _ _ _ us hl => match us, hl with | [_, _], _ => rfl)
    (case d13 => refine' ⟨⟨?p113, ?p213, ?p313, ?p413⟩, ?n013, ?n113, ?n213⟩; (case p113 => k_is); (case p213 => k_is); (case p313 => k_is); (case p413 => k_is); (case n013 => (unfold L2.NoAttr; k_is)); (case n113 => (unfold L2.NoAttr; k_is)); (case n213 => (unfold L2.NoAttr; k_is)))
    (case d14 => refine' L2.defM_mk ⟨?p114, ?p214, ?p314, ?p414⟩ ?xa14 ?xi14 ?xl14 ?xc14 ?xk14 ?xb14; (case p114 => k_is); (case p214 => k_is); (case p314 => k_is); (case p414 => k_is); (case xa14 => k_is); (case xi14 => k_is); (case xl14 => k_is); (case xc14 => k_is); (case xk14 => k_is); exact fun _ _ _ _ _ _ us hl => match us, hl with | [_, _, _], _ => rfl)
    (case d15 => refine' L2.defM_mk ⟨?p115, ?p215, ?p315, ?p415⟩ ?xa15 ?xi15 ?xl15 ?xc15 ?xk15 ?xb15; (case p115 => k_is); (case p215 => k_is); (case p315 => k_is); (case p415 => k_is); (case xa15 => k_is); (case xi15 => k_is); (case xl15 => k_is); (case xc15 => k_is); (case xk15 => k_is); exact fun _ _ _ _ _ _ us hl => match us, hl with | [_, _, _], _ => rfl)
    (case d16 => refine' L2.defM_mk ⟨?p116, ?p216, ?p316, ?p416⟩ ?xa16 ?xi16 ?xl16 ?xc16 ?xk16 ?xb16; (case p116 => k_is); (case p216 => k_is); (case p316 => k_is); (case p416 => k_is); (case xa16 => k_is); (case xi16 => k_is); (case xl16 => k_is); (case xc16 => k_is); (case xk16 => k_is); exact fun _ _ _ _ _ _ us hl => match us, hl with | [_, _, _], _ => rfl)
    (case d17 => refine' L2.defM_mk ⟨?p117, ?p217, ?p317, ?p417⟩ ?xa17 ?xi17 ?xl17 ?xc17 ?xk17 ?xb17; (case p117 => k_is); (case p217 => k_is); (case p317 => k_is); (case p417 => k_is); (case xa17 => k_is); (case xi17 => k_is); (case xl17 => k_is); (case xc17 => k_is); (case xk17 => k_is); exact fun _ _ _ _ _ _ us hl => match us, hl with | [_, _, _], _ => rfl)
    (case d18 => refine' L2.defM_mk ⟨?p118, ?p218, ?p318, ?p418⟩ ?xa18 ?xi18 ?xl18 ?xc18 ?xk18 ?xb18; (case p118 => k_is); (case p218 => k_is); (case p318 => k_is); (case p418 => k_is); (case xa18 => k_is); (case xi18 => k_is); (case xl18 => k_is); (case xc18 => k_is); (case xk18 => k_is); exact fun _ _ _ _ _ _ us hl => match us, hl with | [_, _, _], _ => rfl)
    (case d19 => refine' L2.defM_mk ⟨?p119, ?p219, ?p319, ?p419⟩ ?xa19 ?xi19 ?xl19 ?xc19 ?xk19 ?xb19; (case p119 => k_is); (case p219 => k_is); (case p319 => k_is); (case p419 => k_is); (case xa19 => k_is); (case xi19 => k_is); (case xl19 => k_is); (case xc19 => k_is); (case xk19 => k_is); exact fun _ _ _ _ _ _ us hl => match us, hl with | [_, _, _], _ => rfl)
    (case d20 => refine' L2.defM_mk ⟨?p120, ?p220, ?p320, ?p420⟩ ?xa20 ?xi20 ?xl20 ?xc20 ?xk20 ?xb20; (case p120 => k_is); (case p220 => k_is); (case p320 => k_is); (case p420 => k_is); (case xa20 => k_is); (case xi20 => k_is); (case xl20 => k_is); (case xc20 => k_is); (case xk20 => k_is); exact fun _ _ _ _ _ _ us hl => match us, hl with | [_, _, _], _ => rfl)
    (case d21 => refine' L2.defAt_mk KX G ?xa21 ?xl21 ?xc21 ?xk21 ?xb21; (case xa21 => k_is); (case xl21 => k_is); (case xc21 => k_is); (case xk21 => k_is); exact fun _ _ _ _ _ _ us hl => match us, hl with | [_, _], _ => rfl)
    (case d22 => refine' L2.defAt_mk KX G ?xa22 ?xl22 ?xc22 ?xk22 ?xb22; (case xa22 => k_is); (case xl22 => k_is); (case xc22 => k_is); (case xk22 => k_is); exact fun _ _ _ _ _ _ us hl => match us, hl with | [_, _], _ => rfl)
    (case d23 => refine' L2.defAt_mk KX G ?xa23 ?xl23 ?xc23 ?xk23 ?xb23; (case xa23 => k_is); (case xl23 => k_is); (case xc23 => k_is); (case xk23 => k_is); exact fun _ _ _ _ _ _ us hl => match us, hl with | [_, _], _ => rfl)
    (case d24 => refine' L2.defAt_mk KX G ?xa24 ?xl24 ?xc24 ?xk24 ?xb24; (case xa24 => k_is); (case xl24 => k_is); (case xc24 => k_is); (case xk24 => k_is); exact fun _ _ _ _ _ _ us hl => match us, hl with | [_], _ => rfl)
    (case d25 => refine' L2.defAt_mk KX G ?xa25 ?xl25 ?xc25 ?xk25 ?xb25; (case xa25 => k_is); (case xl25 => k_is); (case xc25 => k_is); (case xk25 => k_is); exact fun _ _ _ _ _ _ us hl => match us, hl with | [_, _], _ => rfl)
    (case d26 => refine' L2.defAt_mk KX G ?xa26 ?xl26 ?xc26 ?xk26 ?xb26; (case xa26 => k_is); (case xl26 => k_is); (case xc26 => k_is); (case xk26 => k_is); exact fun _ _ _ _ _ _ us hl => match us, hl with | [_, _], _ => rfl)
    (case d27 => refine' L2.defAt_mk KX G ?xa27 ?xl27 ?xc27 ?xk27 ?xb27; (case xa27 => k_is); (case xl27 => k_is); (case xc27 => k_is); (case xk27 => k_is); exact fun _ _ _ _ _ _ us hl => match us, hl with | [_, _], _ => rfl)
    (case d28 => refine' L2.defAt_mk KX G ?xa28 ?xl28 ?xc28 ?xk28 ?xb28; (case xa28 => k_is); (case xl28 => k_is); (case xc28 => k_is); (case xk28 => k_is); exact fun _ _ _ _ _ _ us hl => match us, hl with | [_, _], _ => rfl)
    (case d29 => refine' L2.err_mk KX G ?xn29 ?xq29 ?xl29 ?xm29; (case xn29 => k_is); (case xq29 => k_exc); (case xl29 => k_is); (case xm29 => rfl))
    (case d30 => refine' L2.err_mk KX G ?xn30 ?xq30 ?xl30 ?xm30; (case xn30 => k_is); (case xq30 => k_exc); (case xl30 => k_is); (case xm30 => rfl))
    (case d31 => refine' L2.err_mk KX G ?xn31 ?xq31 ?xl31 ?xm31; (case xn31 => k_is); (case xq31 => k_exc); (case xl31 => k_is); (case xm31 => rfl))
    (case d32 => refine' L2.err_mk KX G ?xn32 ?xq32 ?xl32 ?xm32; (case xn32 => k_is); (case xq32 => k_exc); (case xl32 => k_is); (case xm32 => rfl))
    (case d33 => refine' L2.err_mk KX G ?xn33 ?xq33 ?xl33 ?xm33; (case xn33 => k_is); (case xq33 => k_exc); (case xl33 => k_is); (case xm33 => rfl))
    (case d34 => refine' L2.err_mk KX G ?xn34 ?xq34 ?xl34 ?xm34; (case xn34 => k_is); (case xq34 => k_exc); (case xl34 => k_is); (case xm34 => rfl))
    (case d35 => refine' L2.err_mk KX G ?xn35 ?xq35 ?xl35 ?xm35; (case xn35 => k_is); (case xq35 => k_exc); (case xl35 => k_is); (case xm35 => rfl))
    (case d36 => refine' ⟨?xa36, ?xb36, ?xc36⟩; (case xa36 => k_is); (case xb36 => k_is); (case xc36 => k_is))
    (case d37 => decide)
    (case d38 => refine' L2.defAt_mk KX G ?xa38 ?xl38 ?xc38 ?xk38 ?xb38; (case xa38 => k_is); (case xl38 => k_is); (case xc38 => k_is); (case xk38 => k_is); exact fun _ _ _ _ _ _ us hl => match us, hl with | [_, _], _ => rfl)
    (case d39 => refine' L2.defAt_mk KX G ?xa39 ?xl39 ?xc39 ?xk39 ?xb39; (case xa39 => k_is); (case xl39 => k_is); (case xc39 => k_is); (case xk39 => k_is); exact fun _ _ _ _ _ _ us hl => match us, hl with | [_, _, _, _], _ => rfl)
    (case d40 => refine' L2.defAt_mk KX G ?xa40 ?xl40 ?xc40 ?xk40 ?xb40; (case xa40 => k_is); (case xl40 => k_is); (case xc40 => k_is); (case xk40 => k_is); exact fun _ _ _ _ _ _ us hl => match us, hl with | [_, _, _, _], _ => rfl)
    (case d41 => refine' L2.defAt_mk KX G ?xa41 ?xl41 ?xc41 ?xk41 ?xb41; (case xa41 => k_is); (case xl41 => k_is); (case xc41 => k_is); (case xk41 => k_is); exact fun _ _ _ _ _ _ us hl => match us, hl with | [_, _, _, _], _ => rfl)
    (case d42 => refine' L2.defAt_mk KX G ?xa42 ?xl42 ?xc42 ?xk42 ?xb42; (case xa42 => k_is); (case xl42 => k_is); (case xc42 => k_is); (case xk42 => k_is); exact fun _ _ _ _ _ _ us hl => match us, hl with | [_, _, _, _, _], _ => rfl)
    (case a4 => k_is); (case l4 => k_is); (case c4 => k_is); (case k4 => k_is)
#print axioms PySem.Challenge.cw_stretchleast_k14_parts_refused_holds


