import PyProof.Rows.All
import Wide.All
import OpenK.AllK
import Wide.FinOn
import PyProof.EqAt
import PyProof.EqKinds
import PyProof.TupleCall
import KE.BitLaws
import PyProof.Rows.SortShellAny
import PyProof.ReprReads
import PyProof.WalksEnum
import KE.KRevSl
import KE.KRegrown
import PyProof.GenCompD
import PyProof.Rows.SumGenA
import PyProof.Rows.ZipGen
import KE.KItemsList
import PyProof.ListRange
import KE.KSortTupUse
import PyProof.WalkInts
import PyProof.Draws
import PyProof.DictCompW
import PyProof.Rows.CompDC
import OpenK.KOwn
import KE.KIsAll
import PyProof.ExcArgsOwn
import PyProof.ExcAttrAll.ValueError
import PyProof.ReprBulk
import PyProof.JoinWalk
import PyProof.WalksMore
import PyProof.StrBlock2
import KE.KIntText
import PySem.Challenge.RW_stretchleast_k54_texts_of_no_row
set_option Elab.async false
set_option linter.all false
set_option maxRecDepth 100000
namespace L2
open PySem PySem.Spec PyProof.Rows

/-- a key: an int or a str -/
abbrev Key := Sum Int Str
def keyIs : Key → Value → Bool
  | .inl k, v => Value.isInt k v
  | .inr x, v => Value.isStrOf x v
def keyH (w : World) : Key → Int
  | .inl k => hashInt k
  | .inr x => hashStr w x
theorem keyIs_shape : ∀ {k : Key} {v : Value}, keyIs k v = true → (∃ i t, k = Sum.inl i ∧ v = Value.int i t) ∨ (∃ x t, k = Sum.inr x ∧ v = Value.str x t)
  | .inl i, v, h => by
    obtain ⟨t, e⟩ := Value.isInt_shape (k := i) (v := v) h
    exact .inl ⟨i, t, rfl, e⟩
  | .inr x, v, h => by
    obtain ⟨t, e⟩ := Value.isStrOf_shape (x := x) (v := v) h
    exact .inr ⟨x, t, rfl, e⟩
theorem key_ll (a b : Int) : decide ((Sum.inl a : Key) = Sum.inl b) = (a == b) := by
  by_cases e : a = b
  · subst e; simp
  · have h : ¬ (Sum.inl a : Key) = Sum.inl b := fun q => e (Sum.inl.inj q)
    rw [decide_eq_false h]
    exact (beq_eq_false_iff_ne.mpr e).symm
theorem key_rr (a b : Str) : decide ((Sum.inr a : Key) = Sum.inr b) = decide (a = b) := by
  by_cases e : a = b
  · subst e; simp
  · have h : ¬ (Sum.inr a : Key) = Sum.inr b := fun q => e (Sum.inr.inj q)
    rw [decide_eq_false h, decide_eq_false e]
theorem key_lr (a : Int) (b : Str) : decide ((Sum.inl a : Key) = Sum.inr b) = false := decide_eq_false (fun q => nomatch q)
theorem key_rl (a : Str) (b : Int) : decide ((Sum.inr a : Key) = Sum.inl b) = false := decide_eq_false (fun q => nomatch q)

def mixKind (prog : Program) (w : World) : PySem.KeyKind prog w Key where
  is := keyIs
  hash := keyH w
  inj := fun v a b ha hb => by
    rcases keyIs_shape ha with ⟨i, t, rfl, rfl⟩ | ⟨x, t, rfl, rfl⟩
    · rcases keyIs_shape hb with ⟨j, u, rfl, e⟩ | ⟨y, u, rfl, e⟩
      · injection e with e1 _; rw [e1]
      · exact nomatch e
    · rcases keyIs_shape hb with ⟨j, u, rfl, e⟩ | ⟨y, u, rfl, e⟩
      · exact nomatch e
      · injection e with e1 _; rw [e1]
  byValue := fun k v h => by
    rcases keyIs_shape h with ⟨i, t, rfl, rfl⟩ | ⟨x, t, rfl, rfl⟩ <;> rfl
  pyHash := fun hv h => by
    rcases keyIs_shape hv with ⟨i, t, rfl, rfl⟩ | ⟨x, t, rfl, rfl⟩
    · exact wpAny_pyHash_int h
    · exact wpAny_pyHash_str h
  eqBool := fun hu hv h => by
    rcases keyIs_shape hu with ⟨i, t, rfl, rfl⟩ | ⟨x, t, rfl, rfl⟩
    · rcases keyIs_shape hv with ⟨j, u, rfl, rfl⟩ | ⟨y, u, rfl, rfl⟩
      · rw [key_ll] at h; exact wpAny_eqBool_int h
      · rw [key_lr] at h; exact SeqAt.EqAt.int_str i t y u _ _ _ _ h
    · rcases keyIs_shape hv with ⟨j, u, rfl, rfl⟩ | ⟨y, u, rfl, rfl⟩
      · rw [key_rl] at h; exact SeqAt.EqAt.str_int x t j u _ _ _ _ h
      · rw [key_rr] at h; exact wpAny_eqBool_str h
  «strs» := fun k x t v h => by
    rcases keyIs_shape h with ⟨i, u, rfl, e⟩ | ⟨y, u, rfl, e⟩
    · exact nomatch e
    · injection e with e1 _
      subst e1
      cases v <;> rfl

end L2

namespace L2
open PySem PySem.Spec PyProof.Rows

/-- a value, without the heap -/
inductive V where
  | non | bl (b : Bool) | int (i : Int) | str (x : Str) | byt (b : Array UInt8) | flt (b : UInt64) | ref (a : Addr) | ty (n : String)
  deriving DecidableEq

def RelV : V → Value → Prop
  | .non, u => u = Value.none
  | .bl b, u => u = Value.bool b
  | .int i, u => ∃ t, u = Value.int i t
  | .str x, u => ∃ t, u = Value.str x t
  | .byt b, u => ∃ t, u = Value.bytes b t
  | .flt b, u => ∃ t, u = Value.float b t
  | .ref a, u => u = Value.ref a
  | .ty n, u => u = Value.type n

abbrev Vals : List V → List Value → Prop := Paired RelV
theorem Vals.length {xs : List V} {us : List Value} (r : Vals xs us) : xs.length = us.length := Paired.length r
theorem Vals.get : ∀ {xs : List V} {us : List Value} {i : Nat} {x : V}, Vals xs us → xs[i]? = some x → ∃ u, us[i]? = some u ∧ RelV x u
  | _, _, _, _, .nil, e => by simp at e
  | _, _, 0, _, .cons r _, e => by simp at e; subst e; exact ⟨_, rfl, r⟩
  | _, _, i + 1, x, .cons _ t, e => by
    obtain ⟨u, h1, h2⟩ := Vals.get (i := i) (x := x) t (by simpa using e)
    exact ⟨u, by simpa using h1, h2⟩
theorem Vals.set {x : V} {u : Value} (r : RelV x u) : ∀ {xs : List V} {us : List Value} (i : Nat), Vals xs us → Vals (xs.set i x) (us.set i u)
  | _, _, _, .nil => .nil
  | _, _, 0, .cons _ t => .cons r t
  | _, _, i + 1, .cons q t => .cons q (Vals.set r i t)
theorem Vals.append : ∀ {xs ys : List V} {us ws : List Value}, Vals xs us → Vals ys ws → Vals (xs ++ ys) (us ++ ws)
  | _, _, _, _, .nil, s => s
  | _, _, _, _, .cons r t, s => .cons r (Vals.append t s)
theorem Vals.take : ∀ {xs : List V} {us : List Value} (n : Nat), Vals xs us → Vals (xs.take n) (us.take n)
  | _, _, 0, _ => .nil
  | _, _, _ + 1, .nil => .nil
  | _, _, n + 1, .cons r t => .cons r (Vals.take n t)
theorem Vals.drop : ∀ {xs : List V} {us : List Value} (n : Nat), Vals xs us → Vals (xs.drop n) (us.drop n)
  | _, _, 0, r => r
  | _, _, _ + 1, .nil => .nil
  | _, _, n + 1, .cons _ t => Vals.drop n t
def RelO : Option V → Option Value → Prop
  | some v, some u => RelV v u
  | none, none => True
  | _, _ => False
def KV {κ : Type} : List (κ × V) → List (κ × Value) → Prop := Paired fun (p : κ × V) (q : κ × Value) => p.1 = q.1 ∧ RelV p.2 q.2

/-- a key of a dict (00_mix): an int or a text -/
def kV : Key → V
  | .inl i => .int i
  | .inr x => .str x

/-- what stands at a tracked address -/
inductive HO where
  /-- a list -/
  | lst (xs : List V)
  /-- a tuple (never changes) -/
  | tup (xs : List V)
  /-- a dict whose keys are ints and texts; one whose keys are tuples of ints and texts (the empty one is both) -/
  | dK (kvs : List (Key × V)) | dT (kvs : List (List Key × V))
  /-- a set of ints: its members, its size -/
  | set (S : Int → Bool) (n : Nat)
  /-- an instance of the class at C, its dict at dx, its attributes -/
  | ins (C dx : Addr) (fs : List (Str × V))
  /-- the dict of the instance at x -/
  | own (x : Addr)
  /-- the dict of an exception -/
  | xd (fs : List (Str × V))
  /-- a bound method, f of x -/
  | met (f x : Addr)
  /-- a range object lo, lo + 1, .. below hi -/
  | rng (lo hi : Int)
  /-- a thing that is known to the object (the script; a dict while a loop walks it): read, never written while it is so -/
  | frz (o : Obj) (u : HO)
  /-- a code object's table -/
  | tbl (ps : Array Value)
  /-- any other thing, by what is true of its one object (a def of one's own: SetO a S n := HO.ext fun h => ..) -/
  | ext (φ : Heap → Prop)

abbrev Hp := Addr → Option HO
def upd (H : Hp) (a : Addr) (o : HO) : Hp := fun b => if b = a then some o else H b
theorem upd_same {H : Hp} {a : Addr} {o : HO} : upd H a o a = some o := by unfold upd; rw [if_pos rfl]
theorem upd_ne {H : Hp} {a b : Addr} {o : HO} (h : b ≠ a) : upd H a o b = H b := by unfold upd; rw [if_neg h]
theorem ne_of_none {H : Hp} {a b : Addr} {o : HO} (h : H a = some o) (h' : H b = none) : a ≠ b := by
  intro e; subst e; rw [h] at h'; cases h'

section
variable (P : Program) (w : World)
def ObjOk (H : Hp) (h : Heap) (a : Addr) : HO → Prop
  | .lst xs => xs.length ≤ sizeLine ∧ ∃ (its : List Value) (n : Nat), Vals xs its ∧ h.get? a = some { cls := .type "list", data := .seq its.toArray n }
  | .tup xs => xs.length ≤ sizeLine ∧ ∃ its : List Value, Vals xs its ∧ IsTup h a its.toArray
  | .dK kvs => kvs.length ≤ sizeLine ∧ (a == sysModules) = false ∧ ∃ vs, KV kvs vs ∧ h.DictOf (mixKind P w) a vs
  | .dT kvs => kvs.length ≤ sizeLine ∧ (a == sysModules) = false ∧ ∃ xs : List (List Key × Addr × Value),
      Paired (fun (p : List Key × V) (q : List Key × Addr × Value) => p.1 = q.1 ∧ H q.2.1 = some (.tup (p.1.map kV)) ∧ RelV p.2 q.2.2) kvs xs ∧
      ∃ o es ep, h.get? a = some o ∧ o.ExactDict ∧ o.data = .dict es ep ∧ es.toList = xs.map (entryOfKey (tupleKind (mixKind P w))) ∧ (xs.map (·.1)).Nodup
  | .set S n => h.SetOf (intKind P w) a S n
  | .ins C dx fs => H dx = some (.own a) ∧ fs.length ≤ 1000 ∧ dx ≠ a ∧ h.get? a = some (PySem.W.instObj C dx) ∧
      ∃ mA, h.Ns1 dx mA ∧ (∀ f, RelO (fs.lookup f) (mA f)) ∧ PySem.Within mA (fs.map (·.1))
  | .own _ => ∃ o, h.get? a = some o
  | .xd fs => ∃ mA, h.Ns1 a mA ∧ ∀ f, RelO (fs.lookup f) (mA f)
  | .rng lo hi => ∃ t u v, h.get? a = some { cls := .type "range", data := .fields #[.int lo t, .int hi u, .int 1 v] }
  | .frz o u => h.get? a = some o ∧ ObjOk H h a u
  | .tbl ps => h.get? a = some { cls := .none, data := .fields ps } ∧ TriplesOk ps.toList
  | .met f x => h.get? a = some (PySem.W.methodObj (.ref f) (.ref x))
  | .ext φ => φ h ∧ (∃ o, h.get? a = some o) ∧ ∀ h1 h2 : Heap, φ h1 → (∀ o, h1.get? a = some o → h2.get? a = some o) → φ h2
/-- the abstract heap is held -/
def HOk (H : Hp) (h : Heap) : Prop := ∀ a o, H a = some o → ObjOk P w H h a o
end

section
variable {P : Program} {w : World} {H H' : Hp} {h h' : Heap} {a : Addr} {o : HO}
theorem ObjOk.lt (x : ObjOk P w H h a o) : a < h.objs.size := by
  cases o with
  | lst xs => obtain ⟨_, _, _, _, e⟩ := x; exact Heap.lt_size e
  | tup xs => obtain ⟨_, _, _, p⟩ := x; exact p.lt
  | dK kvs => obtain ⟨_, _, _, _, o, _, _, e, _⟩ := x; exact Heap.lt_size e
  | dT kvs => obtain ⟨_, _, _, _, o, _, _, e, _⟩ := x; exact Heap.lt_size e
  | set S n => obtain ⟨o, _, _, _, e, _⟩ := x; exact Heap.lt_size e
  | ins C dx fs => obtain ⟨_, _, _, e, _⟩ := x; exact Heap.lt_size e
  | own y => obtain ⟨_, e⟩ := x; exact Heap.lt_size e
  | xd fs => obtain ⟨_, ⟨_, _, _, e, _⟩, _⟩ := x; exact Heap.lt_size e
  | rng lo hi => obtain ⟨_, _, _, e⟩ := x; exact Heap.lt_size e
  | frz ob u => obtain ⟨e, _⟩ := x; exact Heap.lt_size e
  | tbl ps => exact Heap.lt_size (show h.get? a = some _ from (show _ ∧ _ from x).1)
  | met f y => exact Heap.lt_size (show h.get? a = some _ from x)
  | ext φ => obtain ⟨_, ⟨_, e⟩, _⟩ := x; exact Heap.lt_size e
theorem Paired.mapP {α β : Type} {F G : α → β → Prop} : ∀ {l₁ : List α} {l₂ : List β}, Paired F l₁ l₂ → (∀ a b, F a b → G a b) → Paired G l₁ l₂
  | _, _, .nil, _ => .nil
  | _, _, .cons r t, f => .cons (f _ _ r) (Paired.mapP t f)
/-- what an object's description leans on: its own object, its own dict, the tuples -/
theorem ObjOk.stay (x : ObjOk P w H h a o) (k : ∀ b u, (b = a ∨ H b = some (.own a)) → h.get? b = some u → h'.get? b = some u)
    (ho : ∀ b, H b = some (.own a) → H' b = some (.own a)) (ht : ∀ b xs, H b = some (.tup xs) → H' b = some (.tup xs)) : ObjOk P w H' h' a o := by
  induction o with
  | lst xs => obtain ⟨z, its, n, r, e⟩ := x; exact ⟨z, its, n, r, k _ _ (.inl rfl) e⟩
  | tup xs => obtain ⟨z, its, r, ob, e, c⟩ := x; exact ⟨z, its, r, ob, k _ _ (.inl rfl) e, c⟩
  | dK kvs => obtain ⟨z, y, vs, r, ob, es, ep, e, c⟩ := x; exact ⟨z, y, vs, r, ob, es, ep, k _ _ (.inl rfl) e, c⟩
  | dT kvs =>
    obtain ⟨z, y, xs, r, ob, es, ep, e, c⟩ := x
    exact ⟨z, y, xs, Paired.mapP r fun p q z => ⟨z.1, ht _ _ z.2.1, z.2.2⟩, ob, es, ep, k _ _ (.inl rfl) e, c⟩
  | set S n => obtain ⟨ob, es, ep, t, e, c⟩ := x; exact ⟨ob, es, ep, t, k _ _ (.inl rfl) e, c⟩
  | ins C dx fs =>
    obtain ⟨d, z, ne, e, mA, ⟨od, es, ep, e2, c⟩, r⟩ := x
    exact ⟨ho _ d, z, ne, k _ _ (.inl rfl) e, mA, ⟨od, es, ep, k _ _ (.inr d) e2, c⟩, r⟩
  | own y => obtain ⟨ob, e⟩ := x; exact ⟨ob, k _ _ (.inl rfl) e⟩
  | xd fs => obtain ⟨mA, ⟨od, es, ep, e, c⟩, r⟩ := x; exact ⟨mA, ⟨od, es, ep, k _ _ (.inl rfl) e, c⟩, r⟩
  | rng lo hi => obtain ⟨t, u, v, e⟩ := x; exact ⟨t, u, v, k _ _ (.inl rfl) e⟩
  | frz ob u ih => obtain ⟨e, q⟩ := x; exact ⟨k _ _ (.inl rfl) e, ih q⟩
  | tbl ps =>
    have e : h.get? a = some { cls := .none, data := .fields ps } ∧ TriplesOk ps.toList := x
    show h'.get? a = some { cls := .none, data := .fields ps } ∧ TriplesOk ps.toList
    exact ⟨k a _ (.inl rfl) e.1, e.2⟩
  | met f y =>
    have e : h.get? a = some (PySem.W.methodObj (.ref f) (.ref y)) := x
    show h'.get? a = some (PySem.W.methodObj (.ref f) (.ref y))
    exact k a _ (.inl rfl) e
  | ext φ => obtain ⟨p, ⟨o, e⟩, st⟩ := x; exact ⟨st _ _ p fun o q => k _ _ (.inl rfl) q, ⟨o, k _ _ (.inl rfl) e⟩, st⟩
theorem HOk.lt (x : HOk P w H h) (e : H a = some o) : a < h.objs.size := (x a o e).lt
theorem HOk.fresh (x : HOk P w H h) (e : h.objs.size ≤ a) : H a = none := by
  cases q : H a with
  | none => rfl
  | some u => exact absurd (Nat.lt_of_lt_of_le (x.lt q) e) (Nat.lt_irrefl _)
/-- every object of the heap is kept -/
theorem HOk.kept (x : HOk P w H h) (k : ∀ b u, h.get? b = some u → h'.get? b = some u) : HOk P w H h' := fun a o e =>
  (x a o e).stay (fun b u _ q => k b u q) (fun _ q => q) fun _ _ q => q
/-- a new object is laid and tracked -/
theorem HOk.laid (x : HOk P w H h) (k : ∀ b u, h.get? b = some u → h'.get? b = some u) (hp : h.objs.size ≤ a) (new : ObjOk P w (upd H a o) h' a o) : HOk P w (upd H a o) h' := fun b u e => by
  have hn := x.fresh hp
  by_cases hb : b = a
  · subst hb; rw [upd_same] at e; cases e; exact new
  · rw [upd_ne hb] at e
    exact (x b u e).stay (fun c v _ q => k c v q) (fun c q => by rw [upd_ne (ne_of_none q hn)]; exact q) fun c xs q => by rw [upd_ne (ne_of_none q hn)]; exact q
end

/-- what may be read as u: it is u, or a known u -/
def Rd (H : Hp) (a : Addr) (u : HO) : Prop := H a = some u ∨ ∃ o, H a = some (.frz o u)
theorem Rd.of {H : Hp} {a : Addr} {u : HO} (h : H a = some u) : Rd H a u := .inl h
theorem Rd.ok {P : Program} {w : World} {H : Hp} {h : Heap} {a : Addr} {u : HO} (r : Rd H a u) (x : HOk P w H h) : ObjOk P w H h a u := by
  rcases r with r | ⟨o, r⟩
  · exact x a u r
  · obtain ⟨_, q⟩ := x a _ r
    exact q
/-- what may be written -/
def Mut : Option HO → Prop
  | some (.lst _) => True
  | some (.dK _) => True
  | some (.dT _) => True
  | some (.set _ _) => True
  | some (.ins _ _ _) => True
  | some (.ext _) => True
  | _ => False
section
variable {P : Program} {w : World} {H : Hp} {h h' : Heap} {x e : Addr} {o' : HO}
/-- the object at e is changed: x itself, or the dict of the instance x -/
theorem HOk.write (ok : HOk P w H h) (mu : Mut (H x)) (he : e = x ∨ H e = some (.own x)) (k : ∀ b u, b ≠ e → h.get? b = some u → h'.get? b = some u) (heo : ∃ u, h'.get? e = some u)
    (new : ObjOk P w (upd H x o') h' x o') : HOk P w (upd H x o') h' := fun b u q => by
  have nown : ∀ c y, H c = some (.own y) → c ≠ x := fun c y r z => by subst z; rw [r] at mu; exact mu
  have ntup : ∀ c xs, H c = some (.tup xs) → c ≠ x := fun c xs r z => by subst z; rw [r] at mu; exact mu
  by_cases hb : b = x
  · subst hb; rw [upd_same] at q; cases q; exact new
  · rw [upd_ne hb] at q
    by_cases hbe : b = e
    · have q' : H b = some (.own x) := by
        rcases he with z | z
        · exact absurd (hbe.trans z) hb
        · rw [hbe]; exact z
      rw [q] at q'; cases q'
      obtain ⟨v, hv⟩ := heo
      exact ⟨v, by rw [hbe]; exact hv⟩
    · refine (ok b u q).stay (fun c v hc r => k c v ?_ r) (fun c r => by rw [upd_ne (nown c b r)]; exact r) fun c xs r => by rw [upd_ne (ntup c xs r)]; exact r
      rcases hc with rfl | hc
      · exact hbe
      · rintro rfl
        rcases he with z | z
        · exact nown c b hc z
        · rw [hc] at z; cases z; exact hb rfl
end

structure Un (fs ex : List Addr) (H H' : Hp) (h h' : Heap) : Prop where
  keep : ∀ b o, h.get? b = some o → H b = none → b ∉ fs → b ∉ ex → h'.get? b = some o
  slot : ∀ b o, h.get? b = some o → H b = none → b ∈ fs → b ∉ ex → ∃ sl, h'.get? b = some { o with slots := sl }
  free : ∀ b o, h.get? b = some o → H b = none → b ∉ ex → H' b = none
  there : ∀ b o, h.get? b = some o → b ∉ ex → ∃ o', h'.get? b = some o'
  tups : ∀ b xs, H b = some (.tup xs) → H' b = some (.tup xs)
  frzs : ∀ b o u, H b = some (.frz o u) → H' b = some (.frz o u)
  tbls : ∀ b ps, H b = some (.tbl ps) → ∃ more, H' b = some (.tbl (ps ++ more))
section
variable {fs fs' ex ex' : List Addr} {H H1 H2 : Hp} {h h1 h2 h' : Heap} {a x e : Addr} {o : HO}
theorem Un.any (u : Un fs ex H H1 h h1) {b : Addr} {ob : Obj} (q : h.get? b = some ob) (n : H b = none) (hx : b ∉ ex) : ∃ sl, h1.get? b = some { ob with slots := sl } := by
  by_cases hb : b ∈ fs
  · exact u.slot b ob q n hb hx
  · exact ⟨ob.slots, u.keep b ob q n hb hx⟩
theorem Un.trans (a : Un fs ex H H1 h h1) (b : Un fs ex H1 H2 h1 h2) : Un fs ex H H2 h h2 where
  keep := fun c ob q n hc hx => b.keep c ob (a.keep c ob q n hc hx) (a.free c ob q n hx) hc hx
  slot := fun c ob q n hc hx => by
    obtain ⟨sl, e1⟩ := a.slot c ob q n hc hx
    obtain ⟨sl', e2⟩ := b.slot c _ e1 (a.free c ob q n hx) hc hx
    exact ⟨sl', e2⟩
  free := fun c ob q n hx => by
    obtain ⟨o', e1⟩ := a.there c ob q hx
    exact b.free c o' e1 (a.free c ob q n hx) hx
  there := fun c ob q hx => by
    obtain ⟨o', e1⟩ := a.there c ob q hx
    exact b.there c o' e1 hx
  tups := fun c xs q => b.tups c xs (a.tups c xs q)
  frzs := fun c ob xs q => b.frzs c ob xs (a.frzs c ob xs q)
  tbls := fun c ps q => by
    obtain ⟨m1, e1⟩ := a.tbls c ps q
    obtain ⟨m2, e2⟩ := b.tbls c _ e1
    exact ⟨m1 ++ m2, by rw [e2, Array.append_assoc]⟩
theorem Un.kept (k : ∀ b u, h.get? b = some u → h'.get? b = some u) : Un fs ex H H h h' :=
  ⟨fun b ob q _ _ _ => k b ob q, fun b ob q _ _ _ => ⟨ob.slots, k b ob q⟩, fun _ _ _ n _ => n, fun b ob q _ => ⟨ob, k b ob q⟩, fun _ _ q => q, fun _ _ _ q => q, fun _ ps q => ⟨#[], by rw [q]; simp⟩⟩
theorem Un.refl : Un fs ex H H h h := Un.kept fun _ _ q => q
theorem Un.laid (k : ∀ b u, h.get? b = some u → h'.get? b = some u) (hp : h.objs.size ≤ a) (hn : H a = none) : Un fs ex H (upd H a o) h h' where
  keep := fun b u q _ _ _ => k b u q
  slot := fun b u q _ _ _ => ⟨u.slots, k b u q⟩
  free := fun b u q n _ => by rw [upd_ne (Nat.ne_of_lt (Nat.lt_of_lt_of_le (Heap.lt_size q) hp))]; exact n
  there := fun b u q _ => ⟨u, k b u q⟩
  tups := fun b xs q => by rw [upd_ne (ne_of_none q hn)]; exact q
  frzs := fun b u xs q => by rw [upd_ne (ne_of_none q hn)]; exact q
  tbls := fun b ps q => ⟨#[], by rw [upd_ne (ne_of_none q hn), q]; simp⟩
theorem Un.write (mu : Mut (H x)) (he : e = x ∨ H e = some (.own x)) (k : ∀ b u, b ≠ e → h.get? b = some u → h'.get? b = some u) (heo : ∃ u, h'.get? e = some u) : Un fs ex H (upd H x o) h h' := by
  have hx : ∀ b, H b = none → b ≠ x := fun b n z => by subst z; rw [n] at mu; exact mu
  have hb : ∀ b, H b = none → b ≠ e := fun b n z => by
    subst z
    rcases he with r | r
    · exact hx b n r
    · rw [n] at r; cases r
  have hm : ∀ b u, H b = some u → ¬ Mut (some u) → b ≠ x := fun b u q nm z => by subst z; rw [q] at mu; exact nm mu
  refine ⟨fun b u q n _ _ => k b u (hb b n) q, fun b u q n _ _ => ⟨u.slots, k b u (hb b n) q⟩, fun b u q n _ => by rw [upd_ne (hx b n)]; exact n, fun b u q _ => ?_,
    fun b xs q => by rw [upd_ne (hm b _ q fun z => z)]; exact q, fun b u xs q => by rw [upd_ne (hm b _ q fun z => z)]; exact q, fun b ps q => ⟨#[], by rw [upd_ne (hm b _ q fun z => z), q]; simp⟩⟩
  by_cases hbe : b = e
  · subst hbe; exact heo
  · exact ⟨u, k b u hbe q⟩
theorem Un.mono (u : Un fs ex H H1 h h1) (hs : ∀ b ∈ fs, b ∈ fs') (hx : ∀ b ∈ ex, b ∈ ex') : Un fs' ex' H H1 h h1 :=
  ⟨fun b ob q n hb he => u.keep b ob q n (fun z => hb (hs b z)) fun z => he (hx b z), fun _ _ q n _ he => u.any q n fun z => he (hx _ z), fun b ob q n he => u.free b ob q n fun z => he (hx b z), fun b ob q he => u.there b ob q fun z => he (hx b z), u.tups, u.frzs, u.tbls⟩
end

def trk (h : Heap) (H : Hp) : List Addr := (List.range h.objs.size).filter fun a => (H a).isSome
def hidT (h : Heap) (H : Hp) : Heap := PySem.W.hideAll h (trk h H)
theorem hidT_size (h : Heap) (H : Hp) : (hidT h H).objs.size = h.objs.size := PySem.W.hideAll_size _ _
theorem hidT_get {h : Heap} {H : Hp} {b : Addr} {o : Obj} (e : h.get? b = some o) (n : H b = none) : (hidT h H).get? b = some o :=
  PySem.W.hideAll_get _ e fun hm => by
    have q : (H b).isSome = true := (List.mem_filter.mp hm).2
    rw [n] at q; simp at q
theorem of_hidT {h : Heap} {H : Hp} {b : Addr} {o : Obj} (e : (hidT h H).get? b = some o) : h.get? b = some o ∧ H b = none := by
  have e' : h.get? b = some o := PySem.W.of_hideAll (trk h H) e
  refine ⟨e', ?_⟩
  cases q : H b with
  | none => rfl
  | some x =>
    have hm : b ∈ trk h H := List.mem_filter.mpr ⟨List.mem_range.mpr (Heap.lt_size e'), by simp [q]⟩
    have z : (hidT h H).get? b = none := PySem.W.hideAll_none (trk h H) hm
    rw [z] at e; cases e

def allNews (g h : Heap) (L : Addr) : List (Addr × Obj) := (List.range h.objs.size).filterMap fun a => if a = L ∨ (g.get? a).isSome = true then none else (h.get? a).map fun o => (a, o)
def rest (g h : Heap) (L d : Addr) : List (Addr × Obj) := (allNews g h L).filter fun p => decide (p.1 ≠ d)
end L2

namespace L2
open PySem PySem.Spec PyProof.Rows

/-- the module's facts, over the base: the heap at the law's entry without what is tracked there -/
structure Mod (K : PySem.W.Frag) (mg : Str → Option Value) (base : Heap) : Prop where
  kin : K.In base
  glob : base.Ns mainGlobals mg
  blt : ∃ mb, base.Ns builtinsNs mb ∧ ∀ x : Str, x ≠ "__name__" → mb x = bootBuiltins x
  nolimit : base.NoLimit
  bmod : ∃ bm ob, BMod base mainGlobals mg bm ob

/-- the table of the code object of a def of the module's top -/
def TabOf (P : Program) (K : PySem.W.Frag) (mg : Str → Option Value) (Pt : Addr) : Prop :=
  ∃ d ∈ recsOf P, ∃ (f : Addr) (o : Obj) (fd : FuncData) (c : Addr) (oc : Obj) (vs : Array Value), mg d.name = some (.ref f) ∧ K.lookup f = some o ∧ o.data = .func fd ∧ fd.code = .ref c ∧ K.lookup c = some oc ∧ oc.data = .fields vs ∧ vs.getD 11 .none = .ref Pt
/-- all those tables are tracked -/
def Tabs (P : Program) (K : PySem.W.Frag) (mg : Str → Option Value) (H : Hp) : Prop := ∀ Pt, TabOf P K mg Pt → ∃ ps, H Pt = some (.tbl ps)
theorem Tabs.un {P : Program} {K : PySem.W.Frag} {mg : Str → Option Value} {fs ex : List Addr} {H H' : Hp} {h h' : Heap} (T : Tabs P K mg H) (u : Un fs ex H H' h h') : Tabs P K mg H' := fun Pt t => by
  obtain ⟨ps, e⟩ := T Pt t
  obtain ⟨more, e'⟩ := u.tbls Pt ps e
  exact ⟨_, e'⟩

/-- the context: a def's body (or a comprehension's block) running. base: fixed through the whole law; s₀, H₀: the entry; outer: the frames whose slots others may change (a def's callers); stack: all frames that run;
   ex: iterators that were made ahead of the entry and are walked here (a comprehension's); fn: the names whose cells were made at the entry (a def: all; a comprehension's block: its own); calm: not within an except suite; pn: pins that every state bears; xe: what is wanted of an exception that leaves the code -/
structure Cx where
  prog : Program
  w : World
  K : PySem.W.Frag
  mg : Str → Option Value
  base : Heap
  A : Around
  N : List Str
  s_0 : Shared
  H_0 : Hp
  env : Env
  outer : List Env
  stack : List Env
  ex : List Addr
  fn : Str → Bool
  calm : Bool
  pn : List (Addr × Obj)
  xe : Value → Shared → Prop
/-- the callers' frames -/
def frs (l : List Env) : List Addr := l.filterMap (·.frame)
abbrev Cx.fs (X : Cx) : List Addr := frs X.outer

def Vis (sc : Scope) (x : Str) : Prop := sc.names.lookup x = some .local ∨ sc.names.lookup x = some .cell ∨ sc.names.lookup x = some .free
def Loc (sc : Scope) (x : Str) : Prop := sc.names.lookup x = some .local ∨ sc.names.lookup x = some .cell
def Look (env : Env) (h : Heap) (m : Str → Option Value) (x : Str) (u : Value) : Prop :=
  (env.kindOf x = some .local ∧ m x = some u) ∨ ((env.kindOf x = some .cell ∨ env.kindOf x = some .free) ∧ ∃ c, env.cells.lookup x = some c ∧ h.IsCell c (some u))

structure Cx.Ok (X : Cx) : Prop where
  mod : Mod X.K X.mg X.base
  kind : X.env.scope.kind = .function
  glob : X.env.globals = mainGlobals
  blt : X.env.builtins = builtinsNs
  above : X.s_0.heap.objs.size ≤ X.env.locals
  inj : ∀ x y c, X.env.cells.lookup x = some c → X.env.cells.lookup y = some c → x = y
  has : ∀ x, (X.env.kindOf x = some .cell ∨ X.env.kindOf x = some .free) → ∃ c, X.env.cells.lookup x = some c
  cab : ∀ x c, X.fn x = true → X.env.cells.lookup x = some c → X.s_0.heap.objs.size ≤ c
  hd : X.calm = true → X.A.handled = none
  frames : X.A.frames = some X.stack
  stk : X.stack = X.outer ∨ (X.stack = X.env :: X.outer ∧ X.env.frame = some X.env.locals)
  exf : ∀ b ∈ X.ex, b ≠ X.env.locals ∧ ∀ x c, X.env.cells.lookup x = some c → c ≠ b
  bs : ∀ b o, X.base.get? b = some o → X.s_0.heap.get? b = some o ∧ X.H_0 b = none
  bsz : X.base.objs.size ≤ X.s_0.heap.objs.size
  noex : ∀ b o, X.base.get? b = some o → b ∉ X.ex
  exfs : ∀ b ∈ X.ex, b ∉ X.fs
  funs : X.s_0.heap.FunFrames X.base X.outer
  frf : ∀ b ∈ X.fs, X.H_0 b = none
  tb : Tabs X.prog X.K X.mg X.H_0

/-- all generators are bare, and there are no fewer -/
def BareG (g0 g : Array GenState) : Prop := AllBare g ∧ g0.size ≤ g.size
structure Inv (X : Cx) (pins : List (Addr × Obj)) (σ : List (Option V)) (H : Hp) (s : Shared) : Prop where
  ok : X.Ok
  os : s.os = X.s_0.os
  bare : BareG X.s_0.gens s.gens
  base : Un X.fs X.ex X.H_0 H X.s_0.heap s.heap
  loc : ∃ m, s.heap.Ns X.env.locals m ∧ ∀ (i : Nat) (x : Str) (v : V), X.N[i]? = some x → σ[i]? = some (some v) → Vis X.env.scope x → ∃ u, RelV v u ∧ Look X.env s.heap m x u
  cell : ∀ x c, X.env.cells.lookup x = some c → ∃ v, s.heap.IsCell c v
  free : H X.env.locals = none
  freeC : ∀ x c, X.env.cells.lookup x = some c → H c = none
  pin : ∀ p ∈ X.pn ++ pins, s.heap.get? p.1 = some p.2 ∧ H p.1 = none ∧ p.1 ≠ X.env.locals ∧ p.1 ∉ X.fs ∧ ∀ v, p.2.data ≠ .cell v
  hok : HOk X.prog X.w H s.heap
  len : σ.length = X.N.length

section
variable {X : Cx} {pins : List (Addr × Obj)} {σ : List (Option V)} {H H' : Hp} {s : Shared} {h' : Heap}

theorem Inv.bareS (I : Inv X pins σ H s) : BareG s.gens s.gens := ⟨I.bare.1, Nat.le_refl _⟩
theorem Cx.Ok.nofr (ok : X.Ok) {b : Addr} {o : Obj} (e : X.base.get? b = some o) : b ∉ X.fs := fun hb => by
  have := (ok.funs.mem hb).1
  rw [e] at this; cases this
theorem Inv.bs (I : Inv X pins σ H s) : ∀ b o, X.base.get? b = some o → s.heap.get? b = some o ∧ H b = none := fun b o e =>
  ⟨I.base.keep b o (I.ok.bs b o e).1 (I.ok.bs b o e).2 (I.ok.nofr e) (I.ok.noex b o e), I.base.free b o (I.ok.bs b o e).1 (I.ok.bs b o e).2 (I.ok.noex b o e)⟩
theorem Inv.bk (I : Inv X pins σ H s) : ∀ b o, X.base.get? b = some o → s.heap.get? b = some o := fun b o e => (I.bs b o e).1
theorem Inv.mod (I : Inv X pins σ H s) : Mod X.K X.mg X.base := I.ok.mod
theorem Inv.kIn (I : Inv X pins σ H s) : X.K.In s.heap := I.ok.mod.kin.keeps I.bk
theorem Inv.nolimit (I : Inv X pins σ H s) : s.heap.NoLimit := I.ok.mod.nolimit.keeps I.bk
/-- the frame over the base: for OpenK's rules (K.In X.base is I.mod.kin) -/
theorem Inv.fr (I : Inv X pins σ H s) : ∃ m, Fr X.base X.env.locals s.heap m :=
  let ⟨m, hn, _⟩ := I.loc
  ⟨m, hn, I.bk, Nat.le_trans I.ok.bsz I.ok.above⟩
theorem Inv.lt (I : Inv X pins σ H s) : X.env.locals < s.heap.objs.size := let ⟨_, hn, _⟩ := I.loc; hn.lt
theorem Inv.sz (I : Inv X pins σ H s) : X.s_0.heap.objs.size ≤ s.heap.objs.size := Nat.le_trans I.ok.above (Nat.le_of_lt I.lt)
theorem Inv.nofs (I : Inv X pins σ H s) {a : Addr} (h : s.heap.objs.size ≤ a) : a ∉ X.fs := fun hb => by
  obtain ⟨_, o, ho, _⟩ := I.ok.funs.mem hb
  exact absurd (Nat.lt_of_lt_of_le (Heap.lt_size ho) (Nat.le_trans I.sz h)) (Nat.lt_irrefl _)
theorem Inv.cne (I : Inv X pins σ H s) : ∀ x c, X.env.cells.lookup x = some c → c ≠ X.env.locals := fun x c e z => by
  obtain ⟨v, o, ho, hd⟩ := I.cell x c e
  obtain ⟨m, ⟨o', es, ep, ho', hd', _⟩, _⟩ := I.loc
  rw [z, ho'] at ho; cases ho; rw [hd'] at hd; cases hd
theorem Inv.funs (I : Inv X pins σ H s) : s.heap.FunFrames X.base X.outer := by
  have all : ∀ (l : List Env), (∀ b ∈ frs l, b ∈ X.fs) → X.s_0.heap.FunFrames X.base l → s.heap.FunFrames X.base l := by
    intro l
    induction l with
    | nil => intro _ _; trivial
    | cons env r ih =>
      intro hs hl
      obtain ⟨hk, ⟨L, o, hf, hn, ho, hd⟩, hr⟩ := hl
      have hL : L ∈ X.fs := hs L (by unfold frs; rw [List.filterMap_cons, hf]; exact List.mem_cons_self)
      obtain ⟨sl, e⟩ := I.base.slot L o ho (I.ok.frf L hL) hL fun z => I.ok.exfs L z hL
      exact ⟨hk, ⟨L, _, hf, hn, e, hd⟩, ih (fun b hb => hs b (by unfold frs; rw [List.filterMap_cons, hf]; exact List.mem_cons_of_mem _ hb)) hr⟩
  exact all X.outer (fun _ hb => hb) I.ok.funs

/-- the frames that run, for a call -/
theorem Inv.stack (I : Inv X pins σ H s) : s.heap.FunFrames X.base X.stack := by
  rcases I.ok.stk with e | ⟨e, hf⟩
  · rw [e]; exact I.funs
  · rw [e]
    obtain ⟨m, hn, _⟩ := I.loc
    refine .cons (by rw [I.ok.kind]; decide) hf hn ?_ I.funs
    exact Heap.get?_none_of_le (Nat.le_trans I.ok.bsz I.ok.above)
theorem Inv.stkSub (I : Inv X pins σ H s) : ∀ b ∈ frs X.stack, b ∈ X.env.locals :: X.fs := fun b hb => by
  rcases I.ok.stk with e | ⟨e, hf⟩
  · rw [e] at hb; exact List.mem_cons_of_mem _ hb
  · rw [e] at hb
    unfold frs at hb
    rw [List.filterMap_cons, hf] at hb
    exact hb
theorem Inv.stkFree (I : Inv X pins σ H s) : ∀ b ∈ frs X.stack, H b = none := fun b hb => by
  rcases List.mem_cons.mp (I.stkSub b hb) with e | hb
  · rw [e]; exact I.free
  · obtain ⟨_, o, ho, _⟩ := I.ok.funs.mem hb
    exact I.base.free b o ho (I.ok.frf b hb) fun z => I.ok.exfs b z hb

/-- THE STEP: the untracked objects but the frame and the records at ch are kept (the callers' frames up to slots), the frame's map is kept, the new abstract heap is held -/
theorem Inv.step {g' : Array GenState} {t' : Nat} {d' : Drawn} {ch : List Addr} (I : Inv X pins σ H s)
    (hch : ∀ b ∈ ch, (b ∈ X.ex ∨ X.s_0.heap.objs.size ≤ b) ∧ b ≠ X.env.locals ∧ (∀ x c, X.env.cells.lookup x = some c → c ≠ b) ∧ ∀ p ∈ X.pn ++ pins, p.1 ≠ b)
    (keep : ∀ b o, b ≠ X.env.locals → b ∉ X.fs → b ∉ ch → s.heap.get? b = some o → H b = none → h'.get? b = some o)
    (slot : ∀ b o, b ≠ X.env.locals → b ∈ X.fs → b ∉ ch → s.heap.get? b = some o → H b = none → ∃ sl, h'.get? b = some { o with slots := sl }) (free : ∀ b o, b ∉ ch → s.heap.get? b = some o → H b = none → H' b = none)
    (there : ∀ b o, b ∉ ch → s.heap.get? b = some o → ∃ o', h'.get? b = some o')
    (tups : ∀ b xs, H b = some (.tup xs) → H' b = some (.tup xs)) (frzs : ∀ b o u, H b = some (.frz o u) → H' b = some (.frz o u)) (tbls : ∀ b ps, H b = some (.tbl ps) → ∃ more, H' b = some (.tbl (ps ++ more)))
    (ns : ∀ m, s.heap.Ns X.env.locals m → h'.Ns X.env.locals m) (hok : HOk X.prog X.w H' h') (hg : BareG s.gens g') :
    Inv X pins σ H' { s with heap := h', gens := g', drawn := d', toks := t' } := by
  have neL : ∀ b o, X.s_0.heap.get? b = some o → b ≠ X.env.locals := fun b o e => Nat.ne_of_lt (Nat.lt_of_lt_of_le (Heap.lt_size e) I.ok.above)
  have neC : ∀ b o, X.s_0.heap.get? b = some o → b ∉ X.ex → b ∉ ch := fun b o e hx hb => by
    rcases (hch b hb).1 with z | z
    · exact hx z
    · exact absurd (Nat.lt_of_lt_of_le (Heap.lt_size e) z) (Nat.lt_irrefl _)
  have cellK : ∀ x c, X.env.cells.lookup x = some c → ∀ v, s.heap.IsCell c v → h'.IsCell c v := fun x c e v ⟨o, ho, hd⟩ => by
    have nch : c ∉ ch := fun z => (hch c z).2.2.1 x c e rfl
    by_cases hc : c ∈ X.fs
    · obtain ⟨sl, q⟩ := slot c o (I.cne x c e) hc nch ho (I.freeC x c e)
      exact ⟨_, q, hd⟩
    · exact ⟨o, keep c o (I.cne x c e) hc nch ho (I.freeC x c e), hd⟩
  refine ⟨I.ok, I.os, ⟨hg.1, Nat.le_trans I.bare.2 hg.2⟩, ⟨fun b o e n hb hx => ?_, fun b o e n hb hx => ?_, fun b o e n hx => ?_, fun b o e hx => ?_, fun b xs e => tups b xs (I.base.tups b xs e), fun b o xs e => frzs b o xs (I.base.frzs b o xs e), fun b ps e => ?_⟩, ?_, fun x c e => ?_, ?_, fun x c e => ?_, fun p hp => ?_, hok, I.len⟩
  · exact keep b o (neL b o e) hb (neC b o e hx) (I.base.keep b o e n hb hx) (I.base.free b o e n hx)
  · obtain ⟨sl, e1⟩ := I.base.slot b o e n hb hx
    obtain ⟨sl', e2⟩ := slot b _ (neL b o e) hb (neC b o e hx) e1 (I.base.free b o e n hx)
    exact ⟨sl', e2⟩
  · obtain ⟨o', e1⟩ := I.base.there b o e hx
    exact free b o' (neC b o e hx) e1 (I.base.free b o e n hx)
  · obtain ⟨o', e1⟩ := I.base.there b o e hx
    exact there b o' (neC b o e hx) e1
  · obtain ⟨m1, e1⟩ := I.base.tbls b ps e
    obtain ⟨m2, e2⟩ := tbls b _ e1
    exact ⟨m1 ++ m2, by rw [e2, Array.append_assoc]⟩
  · obtain ⟨m, hn, hl⟩ := I.loc
    refine ⟨m, ns m hn, fun i x v e1 e2 e3 => ?_⟩
    obtain ⟨u, r, l⟩ := hl i x v e1 e2 e3
    refine ⟨u, r, ?_⟩
    rcases l with l | ⟨k, c, e, z⟩
    · exact .inl l
    · exact .inr ⟨k, c, e, cellK x c e _ z⟩
  · obtain ⟨v, z⟩ := I.cell x c e
    exact ⟨v, cellK x c e v z⟩
  · obtain ⟨m, ⟨o, _, _, ho, _⟩, _⟩ := I.loc
    exact free _ o (fun z => (hch _ z).2.1 rfl) ho I.free
  · obtain ⟨v, o, ho, hd⟩ := I.cell x c e
    exact free c o (fun z => (hch c z).2.2.1 x c e rfl) ho (I.freeC x c e)
  · obtain ⟨e, n, ne, nf, d⟩ := I.pin p hp
    have nch : p.1 ∉ ch := fun z => (hch p.1 z).2.2.2 p hp rfl
    exact ⟨keep p.1 p.2 ne nf nch e n, free p.1 p.2 nch e n, ne, nf, d⟩
/-- .. where the frame's own object is kept too -/
theorem Inv.un {t' : Nat} (I : Inv X pins σ H s) (u : Un X.fs [] H H' s.heap h') (hok : HOk X.prog X.w H' h') : Inv X pins σ H' { s with heap := h', toks := t' } := by
  obtain ⟨m, ⟨o, es, ep, ho, r⟩, _⟩ := id I.loc
  obtain ⟨sl, hL⟩ := u.any ho I.free (by simp)
  exact I.step (g' := s.gens) (d' := s.drawn) (ch := []) (fun _ z => nomatch z) (fun b o _ hb _ e n => u.keep b o e n hb (by simp)) (fun b o _ hb _ e n => u.slot b o e n hb (by simp)) (fun b o _ e n => u.free b o e n (by simp)) (fun b o _ e => u.there b o e (by simp)) u.tups u.frzs u.tbls (fun m' hm => by
    obtain ⟨o', es', ep', ho', r'⟩ := hm
    rw [ho] at ho'; cases ho'
    exact ⟨_, es', ep', hL, r'⟩) hok I.bareS
/-- behind a call (or a comprehension's block): the slots of this frame may have changed too, the records at ch may have turned -/
theorem Inv.call {g' : Array GenState} {t' : Nat} {d' : Drawn} {ch : List Addr} (I : Inv X pins σ H s) (u : Un (frs X.stack) ch H H' s.heap h') (hok : HOk X.prog X.w H' h') (hg : BareG s.gens g')
    (hch : ∀ b ∈ ch, (b ∈ X.ex ∨ X.s_0.heap.objs.size ≤ b) ∧ b ≠ X.env.locals ∧ (∀ x c, X.env.cells.lookup x = some c → c ≠ b) ∧ ∀ p ∈ X.pn ++ pins, p.1 ≠ b) :
    Inv X pins σ H' { s with heap := h', gens := g', drawn := d', toks := t' } := by
  obtain ⟨m, ⟨o, es, ep, ho, r⟩, _⟩ := id I.loc
  obtain ⟨sl, hL⟩ := u.any ho I.free fun z => (hch _ z).2.1 rfl
  exact I.step (ch := ch) hch (fun b o hL hb hc e n => u.keep b o e n (fun z => (List.mem_cons.mp (I.stkSub b z)).elim hL hb) hc) (fun b o _ _ hc e n => u.any e n hc) (fun b o hc e n => u.free b o e n hc) (fun b o hc e => u.there b o e hc) u.tups u.frzs u.tbls (fun m' hm => by
    obtain ⟨o', es', ep', ho', r'⟩ := hm
    rw [ho] at ho'; cases ho'
    exact ⟨_, es', ep', hL, r'⟩) hok hg
/-- an untracked record of ours (an iterator) has turned -/
theorem Inv.turned {t' : Nat} {it : Addr} (I : Inv X pins σ H s) (k : ∀ b o, b ≠ it → s.heap.get? b = some o → h'.get? b = some o) (hn : H it = none) (hL : it ≠ X.env.locals)
    (h1 : it ∈ X.ex ∨ X.s_0.heap.objs.size ≤ it) (h2 : ∀ x c, X.env.cells.lookup x = some c → c ≠ it) (h3 : ∀ p ∈ X.pn ++ pins, p.1 ≠ it) : Inv X pins σ H { s with heap := h', toks := t' } := by
  have nit : ∀ b u, H b = some u → b ≠ it := fun b u e z => by rw [z, hn] at e; cases e
  refine I.step (g' := s.gens) (d' := s.drawn) (ch := [it]) (fun b hb => ?_) (fun b o _ _ hc e _ => k b o (fun z => hc (by simp [z])) e) (fun b o _ _ hc e _ => ⟨o.slots, k b o (fun z => hc (by simp [z])) e⟩) (fun _ _ _ _ n => n)
    (fun b o hc e => ⟨o, k b o (fun z => hc (by simp [z])) e⟩) (fun _ _ e => e) (fun _ _ _ e => e) (fun b ps e => ⟨#[], by rw [e]; simp⟩) (fun m hm => ?_) (fun b u e => ?_) I.bareS
  · have e : b = it := by simpa using hb
    subst e
    exact ⟨h1, hL, h2, h3⟩
  · obtain ⟨o, es, ep, ho, r⟩ := hm
    exact ⟨o, es, ep, k _ o (Ne.symm hL) ho, r⟩
  · refine (I.hok b u e).stay (fun c v hc q => k c v ?_ q) (fun _ q => q) fun _ _ q => q
    rcases hc with z | z
    · rw [z]; exact nit b u e
    · exact nit c _ z
theorem Inv.tok (I : Inv X pins σ H s) (t : Nat) : Inv X pins σ H { s with toks := t } := I.un (h' := s.heap) (t' := t) Un.refl I.hok
/-- all objects kept -/
theorem Inv.kept {t' : Nat} (I : Inv X pins σ H s) (k : ∀ b u, s.heap.get? b = some u → h'.get? b = some u) : Inv X pins σ H { s with heap := h', toks := t' } := I.un (Un.kept k) (I.hok.kept k)
/-- a new object laid and tracked -/
theorem Inv.laid {a : Addr} {o : HO} {t' : Nat} (I : Inv X pins σ H s) (k : ∀ b u, s.heap.get? b = some u → h'.get? b = some u) (hp : s.heap.objs.size ≤ a) (new : ObjOk X.prog X.w (upd H a o) h' a o) :
    Inv X pins σ (upd H a o) { s with heap := h', toks := t' } := I.un (Un.laid k hp (I.hok.fresh hp)) (I.hok.laid k hp new)
/-- an object written -/
theorem Inv.write {x e : Addr} {o : HO} {t' : Nat} (I : Inv X pins σ H s) (mu : Mut (H x)) (he : e = x ∨ H e = some (.own x)) (k : ∀ b u, b ≠ e → s.heap.get? b = some u → h'.get? b = some u) (heo : ∃ u, h'.get? e = some u)
    (new : ObjOk X.prog X.w (upd H x o) h' x o) : Inv X pins σ (upd H x o) { s with heap := h', toks := t' } := I.un (Un.write mu he k heo) (I.hok.write mu he k heo new)
/-- forgetting slots, pins -/
theorem Inv.weak {σ' : List (Option V)} (I : Inv X pins σ H s) (hl : σ'.length = σ.length) (w : ∀ (i : Nat) v, σ'[i]? = some (some v) → σ[i]? = some (some v)) : Inv X pins σ' H s :=
  ⟨I.ok, I.os, I.bare, I.base, let ⟨m, hn, hl'⟩ := I.loc; ⟨m, hn, fun i x v e1 e2 e3 => hl' i x v e1 (w i v e2) e3⟩, I.cell, I.free, I.freeC, I.pin, I.hok, hl.trans I.len⟩
theorem Inv.pins_of {pins' : List (Addr × Obj)} (I : Inv X pins σ H s) (h : ∀ p ∈ pins', s.heap.get? p.1 = some p.2 ∧ H p.1 = none ∧ p.1 ≠ X.env.locals ∧ p.1 ∉ X.fs ∧ ∀ v, p.2.data ≠ .cell v) : Inv X pins' σ H s :=
  ⟨I.ok, I.os, I.bare, I.base, I.loc, I.cell, I.free, I.freeC, fun p hp => (List.mem_append.mp hp).elim (fun z => I.pin p (List.mem_append_left _ z)) (h p), I.hok, I.len⟩

theorem nodup_ix {N : List Str} (hN : N.Nodup) {i j : Nat} {x : Str} (a : N[i]? = some x) (b : N[j]? = some x) : i = j := by
  obtain ⟨h1, e1⟩ := List.getElem?_eq_some_iff.mp a
  obtain ⟨h2, e2⟩ := List.getElem?_eq_some_iff.mp b
  exact (List.getElem_inj hN).mp (e1.trans e2.symm)

/-- a name is stored; what changed -/
theorem store_ok2 {M : Model} {A : Around} {E : Value → Shared → Prop} {i : Nat} {x : Str} {v : V} {u : Value} {Q : Unit → Shared → Prop} (I : Inv X pins σ H s) (hN : X.N.Nodup) (hi : X.N[i]? = some x) (hx : Loc X.env.scope x) (r : RelV v u)
    (h : ∀ s', Inv X pins (σ.set i (some v)) H s' → (∃ a, Heap.SameBut a s.heap s'.heap ∧ (a = X.env.locals ∨ X.env.cells.lookup x = some a)) → Q () s') (hf : X.fn x = true ∨ X.env.scope.names.lookup x = some .local := by first | exact .inl rfl | exact .inr rfl | assumption) : wpAny M A (storeName X.env x u) Q E s := by
  obtain ⟨m, hn, hl⟩ := id I.loc
  have hcls : (X.env.scope.kind == .class || (X.env.scope.kind == .module && X.env.locals != X.env.globals)) = false := by rw [I.ok.kind]; rfl
  have hiσ : i < σ.length := by rw [I.len]; exact (List.getElem?_eq_some_iff.mp hi).1
  have cne := I.cne
  have tracked : ∀ {a : Addr} {h' : Heap}, (∃ o, s.heap.get? a = some o ∧ H a = none) → Heap.SameBut a s.heap h' → HOk X.prog X.w H h' := fun {a h'} ha hs b ob e => by
    obtain ⟨_, _, hfree⟩ := ha
    refine (I.hok b ob e).stay (fun c w' hc q => (hs.2 c ?_).trans q) (fun _ q => q) fun _ _ q => q
    rintro rfl
    rcases hc with rfl | hc
    · rw [hfree] at e; cases e
    · rw [hfree] at hc; cases hc
  rcases hx with hk | hk
  · refine wpAny_storeName_local hk hn (fun h' hn' hs => ?_) hcls
    obtain ⟨oL, _, _, hoL, _⟩ := id hn
    refine h _ ⟨I.ok, I.os, I.bare, ⟨fun b o e n hb hx => ?_, fun b o e n hb hx => ?_, I.base.free, fun b o e hx => ?_, I.base.tups, I.base.frzs, I.base.tbls⟩, ⟨_, hn', fun j y v' e1 e2 e3 => ?_⟩, fun y c e => ?_, I.free, I.freeC, fun p hp => ?_, tracked ⟨oL, hoL, I.free⟩ hs, by simpa using I.len⟩ ⟨_, hs, .inl rfl⟩
    · exact (hs.2 b (Nat.ne_of_lt (Nat.lt_of_lt_of_le (Heap.lt_size e) I.ok.above))).trans (I.base.keep b o e n hb hx)
    · obtain ⟨sl, e1⟩ := I.base.slot b o e n hb hx
      exact ⟨sl, (hs.2 b (Nat.ne_of_lt (Nat.lt_of_lt_of_le (Heap.lt_size e) I.ok.above))).trans e1⟩
    · obtain ⟨o', e1⟩ := I.base.there b o e hx
      exact ⟨o', (hs.2 b (Nat.ne_of_lt (Nat.lt_of_lt_of_le (Heap.lt_size e) I.ok.above))).trans e1⟩
    · by_cases hj : j = i
      · subst hj
        rw [hi] at e1; cases e1
        rw [List.getElem?_set_self hiσ] at e2
        cases e2
        exact ⟨u, r, .inl ⟨hk, by simp⟩⟩
      · rw [List.getElem?_set_ne (Ne.symm hj)] at e2
        obtain ⟨u', r', q⟩ := hl j y v' e1 e2 e3
        refine ⟨u', r', ?_⟩
        rcases q with ⟨k, e⟩ | ⟨k, c, e, z⟩
        · refine .inl ⟨k, ?_⟩
          have : y ≠ x := fun e => hj (nodup_ix hN e1 (e ▸ hi))
          simp [this, e]
        · exact .inr ⟨k, c, e, z.sameBut hs (cne y c e)⟩
    · obtain ⟨w', z⟩ := I.cell y c e
      exact ⟨w', z.sameBut hs (cne y c e)⟩
    · obtain ⟨e, n, ne, nf, d⟩ := I.pin p hp
      exact ⟨(hs.2 p.1 ne).trans e, n, ne, nf, d⟩
  · have hfn : X.fn x = true := by
      rcases hf with z | z
      · exact z
      · rw [z] at hk; cases hk
    obtain ⟨c, hc⟩ := I.ok.has x (.inl hk)
    obtain ⟨w', z⟩ := I.cell x c hc
    refine wpAny_storeName_cell I.ok.kind hk hc z (fun h' hc' hs => ?_)
    obtain ⟨oc, hoc, hocd⟩ := id z
    refine h { s with heap := h' } ⟨I.ok, I.os, I.bare, ⟨fun b o e n hb hx => ?_, fun b o e n hb hx => ?_, I.base.free, fun b o e hx => ?_, I.base.tups, I.base.frzs, I.base.tbls⟩, ⟨m, hn.sameBut hs (Ne.symm (cne x c hc)), fun j y v' e1 e2 e3 => ?_⟩, fun y c' e => ?_, I.free, I.freeC, fun p hp => ?_, tracked ⟨oc, hoc, I.freeC x c hc⟩ hs, by simpa using I.len⟩ ⟨c, hs, .inr hc⟩
    · exact (hs.2 b (Nat.ne_of_lt (Nat.lt_of_lt_of_le (Heap.lt_size e) (I.ok.cab x c hfn hc)))).trans (I.base.keep b o e n hb hx)
    · obtain ⟨sl, e1⟩ := I.base.slot b o e n hb hx
      exact ⟨sl, (hs.2 b (Nat.ne_of_lt (Nat.lt_of_lt_of_le (Heap.lt_size e) (I.ok.cab x c hfn hc)))).trans e1⟩
    · obtain ⟨o', e1⟩ := I.base.there b o e hx
      exact ⟨o', (hs.2 b (Nat.ne_of_lt (Nat.lt_of_lt_of_le (Heap.lt_size e) (I.ok.cab x c hfn hc)))).trans e1⟩
    · by_cases hj : j = i
      · subst hj
        rw [hi] at e1; cases e1
        rw [List.getElem?_set_self hiσ] at e2
        cases e2
        exact ⟨u, r, .inr ⟨.inl hk, c, hc, hc'⟩⟩
      · rw [List.getElem?_set_ne (Ne.symm hj)] at e2
        obtain ⟨u', r', q⟩ := hl j y v' e1 e2 e3
        refine ⟨u', r', ?_⟩
        rcases q with q | ⟨k, c', e, z'⟩
        · exact .inl q
        · refine .inr ⟨k, c', e, z'.sameBut hs ?_⟩
          rintro rfl
          exact hj (nodup_ix hN e1 (I.ok.inj _ _ _ e hc ▸ hi))
    · by_cases hcc : c' = c
      · subst hcc; exact ⟨_, hc'⟩
      · obtain ⟨w2, z2⟩ := I.cell y c' e
        exact ⟨w2, z2.sameBut hs hcc⟩
    · obtain ⟨e, n, ne, nf, d⟩ := I.pin p hp
      refine ⟨(hs.2 p.1 ?_).trans e, n, ne, nf, d⟩
      intro q
      rw [q, hoc] at e
      have q' : oc = p.2 := Option.some.inj e
      exact d w' (by rw [← q']; exact hocd)
theorem store_ok {M : Model} {A : Around} {E : Value → Shared → Prop} {i : Nat} {x : Str} {v : V} {u : Value} {Q : Unit → Shared → Prop} (I : Inv X pins σ H s) (hN : X.N.Nodup) (hi : X.N[i]? = some x) (hx : Loc X.env.scope x) (r : RelV v u)
    (h : ∀ s', Inv X pins (σ.set i (some v)) H s' → Q () s') (hf : X.fn x = true ∨ X.env.scope.names.lookup x = some .local := by first | exact .inl rfl | exact .inr rfl | assumption) : wpAny M A (storeName X.env x u) Q E s :=
  store_ok2 I hN hi hx r (fun s' I' _ => h s' I') hf
/-- behind a call or a block, the state as it is -/
theorem Inv.call' {s' : Shared} {ch : List Addr} (I : Inv X pins σ H s) (ho : s'.os = s.os) (u : Un (frs X.stack) ch H H' s.heap s'.heap) (hok : HOk X.prog X.w H' s'.heap) (hg : BareG s.gens s'.gens)
    (hch : ∀ b ∈ ch, (b ∈ X.ex ∨ X.s_0.heap.objs.size ≤ b) ∧ b ≠ X.env.locals ∧ (∀ x c, X.env.cells.lookup x = some c → c ≠ b) ∧ ∀ p ∈ X.pn ++ pins, p.1 ≠ b) : Inv X pins σ H' s' := by
  obtain ⟨h', g', d', t', o'⟩ := s'
  have e : o' = s.os := ho
  subst e
  exact I.call (g' := g') (t' := t') (d' := d') u hok hg hch
end

/-- an exception: its class, its own dict's address (where it has one), the abstract heap behind it -/
abbrev XK := Value → Option Addr → Hp → Prop
abbrev St := List (Option V)
abbrev VK := V → Hp → Prop
/-- an expression's reading; a test's; an argument list's -/
abbrev TE := St → Hp → VK → Prop
abbrev TT := St → Hp → (Bool → Hp → Prop) → Prop
abbrev TA := St → Hp → (List V → Hp → Prop) → Prop
/-- what is wanted behind a statement -/
structure Ends where
  nx : St → Hp → Prop
  rt : VK
  bk : St → Hp → Prop := fun _ _ => False
  ct : St → Hp → Prop := fun _ _ => False
abbrev TS := Ends → St → Hp → Prop

def EP (X : Cx) (pins : List (Addr × Obj)) (σ : St) (Q : VK) (u : Value) (s' : Shared) : Prop := ∃ v H', Inv X pins σ H' s' ∧ RelV v u ∧ Q v H'
def TP (X : Cx) (pins : List (Addr × Obj)) (σ : St) (Q : Bool → Hp → Prop) (b : Bool) (s' : Shared) : Prop := ∃ H', Inv X pins σ H' s' ∧ Q b H'
def AP (X : Cx) (pins : List (Addr × Obj)) (σ : St) (Q : List V → Hp → Prop) (us : List Value) (s' : Shared) : Prop := ∃ vs H', Inv X pins σ H' s' ∧ Vals vs us ∧ Q vs H'
def SP (X : Cx) (pins : List (Addr × Obj)) (D : Ends) (f : Flow) (s' : Shared) : Prop :=
  match f with
  | .next => ∃ σ' H', Inv X pins σ' H' s' ∧ D.nx σ' H'
  | .brk => ∃ σ' H', Inv X pins σ' H' s' ∧ D.bk σ' H'
  | .cont => ∃ σ' H', Inv X pins σ' H' s' ∧ D.ct σ' H'
  | .ret u => ∃ v σ' H', Inv X pins σ' H' s' ∧ RelV v u ∧ D.rt v H'

def PE (X : Cx) (e : Expr) (t : TE) : Prop :=
  ∀ (pins : List (Addr × Obj)) (s : Shared) (σ : St) (H : Hp) (Q : VK), Inv X pins σ H s → t σ H Q → wpAny (model X.prog X.w) X.A (eval e X.env) (EP X pins σ Q) X.xe s
def PT (X : Cx) (e : Expr) (t : TT) : Prop :=
  ∀ (pins : List (Addr × Obj)) (s : Shared) (σ : St) (H : Hp) (Q : Bool → Hp → Prop), Inv X pins σ H s → t σ H Q → wpAny (model X.prog X.w) X.A (isTrue e X.env (eval e X.env)) (TP X pins σ Q) X.xe s
/-- a test whatever its 'whole' is (and, or) -/
def PW (X : Cx) (e : Expr) (t : TT) : Prop :=
  ∀ (whole : Sem Value) (pins : List (Addr × Obj)) (s : Shared) (σ : St) (H : Hp) (Q : Bool → Hp → Prop), Inv X pins σ H s → t σ H Q → wpAny (model X.prog X.w) X.A (isTrue e X.env whole) (TP X pins σ Q) X.xe s
theorem PW.pt {X : Cx} {e : Expr} {t : TT} (h : PW X e t) : PT X e t := h _
/-- an argument list (no star), from the left -/
def PA (X : Cx) (es : List Expr) (t : TA) : Prop :=
  ∀ (pos : Pos) (pins : List (Addr × Obj)) (s : Shared) (σ : St) (H : Hp) (Q : List V → Hp → Prop), Inv X pins σ H s → t σ H Q → wpAny (model X.prog X.w) X.A (spliced (backTo pos (starEach es X.env))) (AP X pins σ Q) X.xe s
def PS (X : Cx) (st : Stmt) (t : TS) : Prop :=
  ∀ (pins : List (Addr × Obj)) (s : Shared) (σ : St) (H : Hp) (D : Ends), Inv X pins σ H s → t D σ H → wpAny (model X.prog X.w) X.A (exec st X.env) (SP X pins D) X.xe s
def PSs (X : Cx) (st : List Stmt) (t : TS) : Prop :=
  ∀ (pins : List (Addr × Obj)) (s : Shared) (σ : St) (H : Hp) (D : Ends), Inv X pins σ H s → t D σ H → wpAny (model X.prog X.w) X.A (execs st X.env) (SP X pins D) X.xe s
/-- weaken the end -/
theorem thn {α : Type} {t : Sem α} {Q Q' : α → Shared → Prop} {M : Model} {A : Around} {E : Value → Shared → Prop} {s : Shared} (h : wpAny M A t Q E s) (hQ : ∀ a s, Q a s → Q' a s) : wpAny M A t Q' E s := wpAny_mono h hQ fun _ _ x => x
end L2

namespace L2
open PySem PySem.Spec PyProof.Rows
section
variable {X : Cx}

def tVar (i : Nat) : TE := fun σ H Q => ∃ v, σ[i]? = some (some v) ∧ Q v H
def tC (v : V) : TE := fun _ H Q => Q v H
theorem pe_var {i : Nat} {x : Str} {pos : Pos} (hN : X.N[i]? = some x) (hv : Vis X.env.scope x) (hd : (x == ("__debug__" : Str)) = false := by decide) (hcd : (x == ("__classdict__" : Str)) = false := by decide) : PE X (.Name x pos) (tVar i) := by
  intro pins s σ H Q I h
  obtain ⟨v, e, h⟩ := h
  obtain ⟨m, hn, hl⟩ := I.loc
  obtain ⟨u, r, l⟩ := hl i x v hN e hv
  have fin : EP X pins σ Q u s := ⟨v, H, I, r, h⟩
  rcases l with ⟨hk, hm⟩ | ⟨hk, c, hc, hcell⟩
  · exact wpAny_Name (wpAny_loadName_local I.ok.kind hk hn hm fin) hd
  · rcases hk with hk | hk
    · exact wpAny_Name (wpAny_loadName_cell I.ok.kind hk hc hcell fin) hd
    · exact wpAny_Name (wpAny_loadName_free I.ok.kind hk hc hcell fin hcd) hd
theorem pe_int {i j pos} : PE X (.Constant (.int i) j pos) (tC (.int i)) := fun _ _ _ H _ I h => wpAny_Constant_int ⟨.int i, H, I.tok _, ⟨_, rfl⟩, h⟩
theorem pe_bl {b j pos} : PE X (.Constant (.bool b) j pos) (tC (.bl b)) := fun _ _ _ H _ I h => Constant_bool ⟨.bl b, H, I, rfl, h⟩
theorem pe_non {j pos} : PE X (.Constant .none j pos) (tC .non) := fun _ _ _ H _ I h => Constant_none ⟨.non, H, I, rfl, h⟩
theorem pe_str {x j pos} : PE X (.Constant (.str x) j pos) (tC (.str x)) := fun _ _ _ H _ I h => Calls.Constant_str ⟨.str x, H, I.tok _, ⟨_, rfl⟩, h⟩

/-- a global name of the def -/
def Gl (X : Cx) (x : Str) : Prop := X.env.kindOf x = some .globalImplicit
theorem ld_glob {E : Value → Shared → Prop} {pins : List (Addr × Obj)} {s : Shared} {σ : St} {H : Hp} {x : Str} {u : Value} {pos : Pos} {Q : Value → Shared → Prop} (I : Inv X pins σ H s) (hg : Gl X x) (hm : X.mg x = some u) (h : Q u s)
    (hd : (x == ("__debug__" : Str)) = false := by decide) : wpAny (model X.prog X.w) X.A (eval (.Name x pos) X.env) Q E s :=
  Calls.Name_function_global I.ok.kind hg (Calls.loadGlobal_global (by rw [I.ok.glob]; exact I.mod.glob.keeps I.bk) hm h) hd
theorem ld_blt {E : Value → Shared → Prop} {pins : List (Addr × Obj)} {s : Shared} {σ : St} {H : Hp} {x : Str} {u : Value} {pos : Pos} {Q : Value → Shared → Prop} (I : Inv X pins σ H s) (hg : Gl X x) (hm : X.mg x = none) (hv : bootBuiltins x = some u) (h : Q u s)
    (hn : x ≠ "__name__" := by decide) (hd : (x == ("__debug__" : Str)) = false := by decide) : wpAny (model X.prog X.w) X.A (eval (.Name x pos) X.env) Q E s := by
  obtain ⟨mb, h1, h2⟩ := I.mod.blt
  exact Calls.Name_function_global I.ok.kind hg (Calls.loadGlobal_builtin (by rw [I.ok.glob]; exact I.mod.glob.keeps I.bk) hm (by rw [I.ok.blt]; exact h1.keeps I.bk) ((h2 x hn).trans hv) h) hd
/-- a module's constant, a class, a function, as a value -/
theorem pe_glob {x : Str} {v : V} {u : Value} {pos : Pos} (hg : Gl X x) (hm : X.mg x = some u) (r : RelV v u) (hd : (x == ("__debug__" : Str)) = false := by decide) : PE X (.Name x pos) (tC v) :=
  fun _ _ _ H _ I h => ld_glob I hg hm ⟨v, H, I, r, h⟩ hd
theorem pe_bltn {x : Str} {v : V} {u : Value} {pos : Pos} (hg : Gl X x) (hm : X.mg x = none) (hv : bootBuiltins x = some u) (r : RelV v u) (hn : x ≠ "__name__" := by decide) (hd : (x == ("__debug__" : Str)) = false := by decide) : PE X (.Name x pos) (tC v) :=
  fun _ _ _ H _ I h => ld_blt I hg hm hv ⟨v, H, I, r, h⟩ hn hd

variable {a b : Expr} {ta tb : TE} {pos : Pos}
/-- a comparison as a value, as a test -/
def tB (t : TE) : TT := fun σ H Q => t σ H fun x H1 => ∃ c, x = .bl c ∧ Q c H1
/-- an expression whose value is a bool, as a test -/
theorem pt_val {e : Expr} {t : TE} (h : PE X e t) (he : ∀ whole, isTrue e X.env whole = (do let v ← whole; standAt e.pos; holding [v] (truthy v)) := by intro _; rfl) : PT X e (tB t) := by
  intro pins s σ H Q I hw
  refine isTrue_plain (thn (h pins s σ H _ I hw) fun v s1 ⟨x, H1, I1, r1, q1⟩ => ?_) (he _)
  obtain ⟨d, rfl, q⟩ := q1
  cases r1
  exact wpAny_truthy_bool ⟨H1, I1, q⟩

variable {tA tB' : TT} {rest : List Expr}
def tAnd (t u : TT) : TT := fun σ H Q => t σ H fun c H1 => if c = true then u σ H1 Q else Q false H1
def tOr (t u : TT) : TT := fun σ H Q => t σ H fun c H1 => if c = true then Q true H1 else u σ H1 Q
def tNot (t : TT) : TT := fun σ H Q => t σ H fun c H1 => Q (!c) H1
theorem pw_and1 (ha : PT X a tA) : PW X (.BoolOp .And [a] pos) tA := by
  intro wh pins s σ H Q I h
  refine isTrue_and (thn (ha pins s σ H Q I h) fun c s1 e => ?_)
  cases c with
  | true => exact isTrue_and_nil e
  | false => exact e
theorem pw_or1 (ha : PT X a tA) : PW X (.BoolOp .Or [a] pos) tA := by
  intro wh pins s σ H Q I h
  refine isTrue_or (thn (ha pins s σ H Q I h) fun c s1 e => ?_)
  cases c with
  | false => exact isTrue_or_nil e
  | true => exact e
theorem pw_and (ha : PT X a tA) (hb : PW X (.BoolOp .And (b :: rest) pos) tB') : PW X (.BoolOp .And (a :: b :: rest) pos) (tAnd tA tB') := by
  intro wh pins s σ H Q I h
  refine isTrue_and (thn (ha pins s σ H _ I h) fun c s1 ⟨H1, I1, q1⟩ => ?_)
  cases c with
  | true => exact hb wh pins s1 σ H1 Q I1 q1
  | false => exact ⟨H1, I1, q1⟩
theorem pw_or (ha : PT X a tA) (hb : PW X (.BoolOp .Or (b :: rest) pos) tB') : PW X (.BoolOp .Or (a :: b :: rest) pos) (tOr tA tB') := by
  intro wh pins s σ H Q I h
  refine isTrue_or (thn (ha pins s σ H _ I h) fun c s1 ⟨H1, I1, q1⟩ => ?_)
  cases c with
  | true => exact ⟨H1, I1, q1⟩
  | false => exact hb wh pins s1 σ H1 Q I1 q1
theorem pt_not (ha : PT X a tA) : PT X (.UnaryOp .Not a pos) (tNot tA) := by
  intro pins s σ H Q I h
  exact isTrue_not (ha pins s σ H (fun c H1 => Q (!c) H1) I h)
/-- .. as values (bools) -/
def tAndV (ta tb : TE) : TE := fun σ H Q => ta σ H fun x H1 => ∃ c, x = .bl c ∧ if c = true then tb σ H1 Q else Q (.bl false) H1
def tOrV (ta tb : TE) : TE := fun σ H Q => ta σ H fun x H1 => ∃ c, x = .bl c ∧ if c = true then Q (.bl true) H1 else tb σ H1 Q
def tNotV (ta : TE) : TE := fun σ H Q => ta σ H fun x H1 => ∃ c, x = .bl c ∧ Q (.bl (!c)) H1
theorem pe_one {op} {t : TE} (h : PE X a t) : PE X (.BoolOp op [a] pos) t := fun pins s σ H Q I hw => BoolOp_one (h pins s σ H Q I hw)
theorem pe_and (ha : PE X a ta) (hb : PE X (.BoolOp .And (b :: rest) pos) tb) : PE X (.BoolOp .And (a :: b :: rest) pos) (tAndV ta tb) := by
  intro pins s σ H Q I h
  refine BoolOp_and (thn (ha pins s σ H _ I h) fun v s1 ⟨x, H1, I1, r1, q1⟩ => ?_)
  obtain ⟨c, rfl, q1⟩ := q1
  cases r1
  refine wpAny_truthy_bool ?_
  cases c with
  | true => exact hb pins s1 σ H1 Q I1 q1
  | false => exact ⟨.bl false, H1, I1, rfl, q1⟩
theorem pe_or (ha : PE X a ta) (hb : PE X (.BoolOp .Or (b :: rest) pos) tb) : PE X (.BoolOp .Or (a :: b :: rest) pos) (tOrV ta tb) := by
  intro pins s σ H Q I h
  refine BoolOp_or (thn (ha pins s σ H _ I h) fun v s1 ⟨x, H1, I1, r1, q1⟩ => ?_)
  obtain ⟨c, rfl, q1⟩ := q1
  cases r1
  refine wpAny_truthy_bool ?_
  cases c with
  | false => exact hb pins s1 σ H1 Q I1 q1
  | true => exact ⟨.bl true, H1, I1, rfl, q1⟩
theorem pe_not (ha : PE X a ta) : PE X (.UnaryOp .Not a pos) (tNotV ta) := by
  intro pins s σ H Q I h
  refine UnaryOp_ (thn (ha pins s σ H _ I h) fun v s1 ⟨x, H1, I1, r1, q1⟩ => ?_)
  obtain ⟨c, rfl, q1⟩ := q1
  cases r1
  exact not_of (wpAny_truthy_bool ⟨.bl (!c), H1, I1, rfl, q1⟩)
/-- a if t else b -/
def tIf (t : TT) (ta tb : TE) : TE := fun σ H Q => t σ H fun c H1 => if c = true then ta σ H1 Q else tb σ H1 Q
theorem pe_ifExp {c : Expr} (hc : PT X c tA) (ha : PE X a ta) (hb : PE X b tb) : PE X (.IfExp c a b pos) (tIf tA ta tb) := by
  intro pins s σ H Q I h
  refine wpAny_IfExp (thn (hc pins s σ H _ I h) fun d s1 ⟨H1, I1, q1⟩ => ?_)
  cases d with
  | true => exact ha pins s1 σ H1 Q I1 q1
  | false => exact hb pins s1 σ H1 Q I1 q1
end
end L2

namespace L2
open PySem PySem.Spec PyProof.Rows

def SqL (K : PySem.W.Frag) (H : Hp) (a : Addr) (xs : List V) : Prop :=
  Rd H a (.lst xs) ∨
    ∃ (o : Obj) (its : Array Value) (n : Nat), K.lookup a = some o ∧ o.cls = .type "list" ∧ o.dict = none ∧ o.data = .seq its n ∧ its.size ≤ sizeLine ∧ Vals xs its.toList
def SqT (K : PySem.W.Frag) (H : Hp) (a : Addr) (xs : List V) : Prop :=
  Rd H a (.tup xs) ∨
    ∃ (o : Obj) (its : Array Value) (n : Nat), K.lookup a = some o ∧ o.cls = .type "tuple" ∧ o.data = .seq its n ∧ its.size ≤ sizeLine ∧ Vals xs its.toList
def absV : Value → Option V
  | .none => some .non
  | .bool b => some (.bl b)
  | .int i _ => some (.int i)
  | .str x _ => some (.str x)
  | .bytes b _ => some (.byt b)
  | .float b _ => some (.flt b)
  | .ref a => some (.ref a)
  | .type n => some (.ty n)
  | _ => none
theorem RelV.abs {x : V} {u : Value} (r : RelV x u) : absV u = some x := by
  cases x with
  | non => cases r; rfl
  | bl _ => cases r; rfl
  | int _ => obtain ⟨t, rfl⟩ := r; rfl
  | str _ => obtain ⟨t, rfl⟩ := r; rfl
  | byt _ => obtain ⟨t, rfl⟩ := r; rfl
  | flt _ => obtain ⟨t, rfl⟩ := r; rfl
  | ref _ => cases r; rfl
  | ty _ => cases r; rfl
theorem RelV.inj {x y : V} {u : Value} (r : RelV x u) (q : RelV y u) : x = y := Option.some.inj (r.abs.symm.trans q.abs)
theorem Vals.inj : ∀ {xs ys : List V} {us : List Value}, Vals xs us → Vals ys us → xs = ys
  | _, _, _, .nil, .nil => rfl
  | _, _, _, .cons r t, .cons r' t' => by rw [r.inj r', Vals.inj t t']
section
variable {X : Cx} {pins : List (Addr × Obj)} {σ : St} {H : Hp} {s : Shared} {a : Addr} {xs ys : List V}
theorem SqL.of {K : PySem.W.Frag} (h : H a = some (.lst xs)) : SqL K H a xs := .inl (.inl h)
theorem SqT.of {K : PySem.W.Frag} (h : H a = some (.tup xs)) : SqT K H a xs := .inl (.inl h)
theorem Inv.list (I : Inv X pins σ H s) (h : SqL X.K H a xs) : ∃ its : List Value, Vals xs its ∧ PlainL s.heap a its.toArray ∧ xs.length ≤ sizeLine := by
  rcases h with h | ⟨o, its, n, hk, hc, hd, hs, hz, r⟩
  · obtain ⟨z, its, n, r, e⟩ := h.ok I.hok
    exact ⟨its, r, ⟨_, n, e, rfl, rfl, rfl⟩, z⟩
  · refine ⟨its.toList, r, ⟨o, n, I.kIn a o hk, hc, hd, by simpa using hs⟩, ?_⟩
    have e := r.length
    simp only [Array.length_toList] at e
    omega
theorem Inv.tuple (I : Inv X pins σ H s) (h : SqT X.K H a xs) : ∃ its : List Value, Vals xs its ∧ IsTup s.heap a its.toArray ∧ xs.length ≤ sizeLine := by
  rcases h with h | ⟨o, its, n, hk, hc, hs, hz, r⟩
  · obtain ⟨z, its, r, p⟩ := h.ok I.hok
    exact ⟨its, r, p, z⟩
  · refine ⟨its.toList, r, ⟨o, I.kIn a o hk, hc, n, by simpa using hs⟩, ?_⟩
    have e := r.length
    simp only [Array.length_toList] at e
    omega
theorem Inv.list_inj (I : Inv X pins σ H s) (h : SqL X.K H a xs) (h' : SqL X.K H a ys) : xs = ys := by
  obtain ⟨its, r, ⟨o, n, e, _, _, d⟩, _⟩ := I.list h
  obtain ⟨its', r', ⟨o', n', e', _, _, d'⟩, _⟩ := I.list h'
  rw [e] at e'; cases e'
  rw [d] at d'
  injection d' with d1 _
  have : its = its' := by simpa using congrArg Array.toList d1
  subst this
  exact r.inj r'
end

abbrev Cx.wish (X : Cx) (E : Value → Shared → Prop) : Cx := { X with xe := E }
/-- no exception leaves -/
abbrev Cx.nox (X : Cx) : Cx := X.wish fun _ _ => False
theorem Cx.Ok.wish {X : Cx} (ok : X.Ok) (E : Value → Shared → Prop) : (X.wish E).Ok :=
  ⟨ok.mod, ok.kind, ok.glob, ok.blt, ok.above, ok.inj, ok.has, ok.cab, ok.hd, ok.frames, ok.stk, ok.exf, ok.bs, ok.bsz, ok.noex, ok.exfs, ok.funs, ok.frf, ok.tb⟩
theorem Cx.Ok.unwish {X : Cx} {E : Value → Shared → Prop} (ok : (X.wish E).Ok) : X.Ok :=
  ⟨ok.mod, ok.kind, ok.glob, ok.blt, ok.above, ok.inj, ok.has, ok.cab, ok.hd, ok.frames, ok.stk, ok.exf, ok.bs, ok.bsz, ok.noex, ok.exfs, ok.funs, ok.frf, ok.tb⟩
section
variable {X : Cx} {pins : List (Addr × Obj)} {σ : St} {H : Hp} {s : Shared} {E : Value → Shared → Prop}
theorem Inv.wish (I : Inv X pins σ H s) (E : Value → Shared → Prop) : Inv (X.wish E) pins σ H s := ⟨I.ok.wish E, I.os, I.bare, I.base, I.loc, I.cell, I.free, I.freeC, I.pin, I.hok, I.len⟩
theorem Inv.unwish (I : Inv (X.wish E) pins σ H s) : Inv X pins σ H s := ⟨I.ok.unwish, I.os, I.bare, I.base, I.loc, I.cell, I.free, I.freeC, I.pin, I.hok, I.len⟩
theorem SP.unwish {D : Ends} {f : Flow} {s' : Shared} (h : SP (X.wish E) pins D f s') : SP X pins D f s' := by
  cases f with
  | next => obtain ⟨σ', H', I, q⟩ := h; exact ⟨σ', H', I.unwish, q⟩
  | brk => obtain ⟨σ', H', I, q⟩ := h; exact ⟨σ', H', I.unwish, q⟩
  | cont => obtain ⟨σ', H', I, q⟩ := h; exact ⟨σ', H', I.unwish, q⟩
  | ret u => obtain ⟨v, σ', H', I, r, q⟩ := h; exact ⟨v, σ', H', I.unwish, r, q⟩
theorem PE.nox {e : Expr} {t : TE} (h : PE X.nox e t) : PE X e t := fun pins s σ H Q I hw =>
  wpAny_mono (h pins s σ H Q (I.wish _) hw) (fun _ _ ⟨v, H', I', r, q⟩ => ⟨v, H', I'.unwish, r, q⟩) fun _ _ z => False.elim z
theorem PT.nox {e : Expr} {t : TT} (h : PT X.nox e t) : PT X e t := fun pins s σ H Q I hw =>
  wpAny_mono (h pins s σ H Q (I.wish _) hw) (fun _ _ ⟨H', I', q⟩ => ⟨H', I'.unwish, q⟩) fun _ _ z => False.elim z
theorem PSs.nox {st : List Stmt} {t : TS} (h : PSs X.nox st t) : PSs X st t := fun pins s σ H D I hw =>
  wpAny_mono (h pins s σ H D (I.wish _) hw) (fun _ _ q => q.unwish) fun _ _ z => False.elim z
end

section
variable {X : Cx} {st : Stmt} {rest : List Stmt} {t u : TS} {e : Expr} {te : TE} {pos : Pos}
def tNext : TS := fun D σ H => D.nx σ H
def tSeq (t u : TS) : TS := fun D σ H => t { D with nx := u D } σ H
theorem pss_nil : PSs X [] tNext := fun _ _ σ H _ I h => wpAny_execs_nil ⟨σ, H, I, h⟩
theorem pss_cons (h1 : PS X st t) (h2 : PSs X rest u) : PSs X (st :: rest) (tSeq t u) := by
  intro pins s σ H D I h
  refine wpAny_execs_cons (thn (h1 pins s σ H { D with nx := u D } I h) fun f s1 q => ?_)
  cases f with
  | next =>
    obtain ⟨σ', H', I', q⟩ := q
    exact h2 pins s1 σ' H' D I' q
  | ret v => exact q
  | brk => exact q
  | cont => exact q
theorem pss_one (h1 : PS X st t) : PSs X [st] t := by
  intro pins s σ H D I h
  refine wpAny_execs_cons (thn (h1 pins s σ H D I h) fun f s1 q => ?_)
  cases f with
  | next => exact wpAny_execs_nil q
  | ret v => exact q
  | brk => exact q
  | cont => exact q
/-- in a def's body nothing is shown -/
theorem Inv.quiet {pins : List (Addr × Obj)} {σ : St} {H : Hp} {s : Shared} (I : Inv X pins σ H s) : interactive X.env = false := by simp [interactive, I.ok.kind]
/-- an expression whose value is dropped -/
def tDrop (te : TE) : TS := fun D σ H => te σ H fun _ H1 => D.nx σ H1
theorem ps_expr (he : PE X e te) (hs : swapsWith e none pos.line X.env = pure false := by rfl) : PS X (.Expr e pos) (tDrop te) := by
  intro pins s σ H D I h
  exact wpAny_Expr_any (thn (he pins s σ H _ I h) fun v s1 ⟨x, H1, I1, r1, q1⟩ => ⟨σ, H1, I1, q1⟩) I.quiet hs
def tRet (te : TE) : TS := fun D σ H => te σ H D.rt
theorem ps_ret (he : PE X e te) : PS X (.Return (some e) pos) (tRet te) := by
  intro pins s σ H D I h
  exact wpAny_Return_some (thn (he pins s σ H _ I h) fun v s1 ⟨x, H1, I1, r1, q1⟩ => ⟨x, σ, H1, I1, r1, q1⟩)
def tIfS (c : TT) (t u : TS) : TS := fun D σ H => c σ H fun b H1 => if b = true then t D σ H1 else u D σ H1
theorem ps_if {c : Expr} {a b : List Stmt} {tc : TT} (hc : PT X c tc) (ha : PSs X a t) (hb : PSs X b u) : PS X (.If c a b pos) (tIfS tc t u) := by
  intro pins s σ H D I h
  refine wpAny_If (thn (hc pins s σ H _ I h) fun d s1 ⟨H1, I1, q1⟩ => ?_)
  cases d with
  | true => exact ha pins s1 σ H1 D I1 q1
  | false => exact hb pins s1 σ H1 D I1 q1
end

abbrev TG := V → St → Hp → (St → Hp → Prop) → Prop
def PG (X : Cx) (target : Expr) (t : TG) : Prop :=
  ∀ (pins : List (Addr × Obj)) (s : Shared) (σ : St) (H : Hp) (v : V) (u : Value) (Q : St → Hp → Prop), Inv X pins σ H s → RelV v u → t v σ H Q →
    wpAny (model X.prog X.w) X.A (assign target X.env u) (fun _ s' => ∃ σ' H', Inv X pins σ' H' s' ∧ Q σ' H') X.xe s
/-- o[i] = v, by values -/
abbrev TSet := V → V → V → Hp → (Hp → Prop) → Prop
def PSet (X : Cx) (t : TSet) : Prop :=
  ∀ (pins : List (Addr × Obj)) (s : Shared) (σ : St) (H : Hp) (o i v : V) (ov iv u : Value) (Q : Hp → Prop), Inv X pins σ H s → RelV o ov → RelV i iv → RelV v u → t o i v H Q →
    wpAny (model X.prog X.w) X.A (setItem ov iv u) (fun _ s' => ∃ H', Inv X pins σ H' s' ∧ Q H') X.xe s
section
variable {X : Cx} {pos : Pos}
def gName (i : Nat) : TG := fun v σ H Q => Q (σ.set i (some v)) H
theorem pg_name {i : Nat} {x : Str} (hN : X.N.Nodup) (hi : X.N[i]? = some x) (hx : Loc X.env.scope x) (hf : X.fn x = true ∨ X.env.scope.names.lookup x = some .local := by first | exact .inl rfl | exact .inr rfl | assumption) : PG X (.Name x pos) (gName i) := by
  intro pins s σ H v u Q I r h
  exact wpAny_assign_Name (store_ok I hN hi hx r (fun s' I' => ⟨_, H, I', h⟩) hf)
/-- o[i] = .. -/
def gSub (to ti : TE) (t : TSet) : TG := fun v σ H Q => to σ H fun o H1 => ti σ H1 fun i H2 => t o i v H2 fun H3 => Q σ H3
theorem pg_sub {o i : Expr} {to ti : TE} {t : TSet} (ho : PE X o to) (hi : PE X i ti) (hs : PSet X t)
    (ha : ∀ v, assign (.Subscript o i pos) X.env v = (do
      let ov ← holding [v] (eval o X.env)
      let iv ← holding [v, ov] (eval i X.env)
      standAt pos
      holding [v, ov, iv] (setItem ov iv v)
      release [v, ov, iv] []) := by intro _; rfl) : PG X (.Subscript o i pos) (gSub to ti t) := by
  intro pins s σ H v u Q I r h
  rw [ha]
  refine wpAny_bind (wpAny_holding (thn (ho pins s σ H _ I h) fun ov s1 ⟨x, H1, I1, r1, q1⟩ => ?_))
  refine wpAny_bind (wpAny_holding (thn (hi pins s1 σ H1 _ I1 q1) fun iv s2 ⟨y, H2, I2, r2, q2⟩ => ?_))
  refine wpAny_bind (wpAny_standAt (wpAny_bind (wpAny_holding (thn (hs pins s2 σ H2 x y v ov iv u _ I2 r1 r2 r q2) fun _ s3 ⟨H3, I3, q3⟩ => ?_))))
  exact wpAny_release ⟨σ, H3, I3, q3⟩
/-- target = value -/
def tAsg (te : TE) (g : TG) : TS := fun D σ H => te σ H fun x H1 => g x σ H1 D.nx
theorem ps_asg {tg e : Expr} {te : TE} {g : TG} (he : PE X e te) (hg : PG X tg g) (hs : swapsWithSole [tg] e pos.line X.env = pure false := by rfl) (hw : swappedStores [tg] e X.env = pure none := by rfl)
    (h1 : (assignEach [tg] X.env).map (·.2) = [assign tg X.env] := by rfl) : PS X (.Assign [tg] e pos) (tAsg te g) := by
  intro pins s σ H D I h
  refine wpAny_Assign_stores (thn (he pins s σ H _ I h) fun v s1 ⟨x, H1, I1, r1, q1⟩ => ?_) hs hw
  rw [h1]
  exact thn (hg pins s1 σ H1 x v _ I1 r1 q1) fun _ s2 q => q
/-- name = value -/
theorem ps_set {i : Nat} {x : Str} {e : Expr} {te : TE} {pos' : Pos} (hN : X.N.Nodup) (hi : X.N[i]? = some x) (hx : Loc X.env.scope x) (he : PE X e te) (hs : swapsWith e (some (.Name x pos')) pos.line X.env = pure false := by rfl) (hf : X.fn x = true ∨ X.env.scope.names.lookup x = some .local := by first | exact .inl rfl | exact .inr rfl | assumption) :
    PS X (.Assign [.Name x pos'] e pos) (tAsg te (gName i)) := by
  intro pins s σ H D I h
  refine wpAny_Assign_Name (thn (he pins s σ H _ I h) fun v s1 ⟨y, H1, I1, r1, q1⟩ => ?_) hs
  exact store_ok I1 hN hi hx r1 (fun s2 I2 => ⟨_, H1, I2, q1⟩) hf
end

section
variable {X : Cx} {pos : Pos}
end

/-- at turn i: it yields x (the heap may grow), or it stops -/
structure It where
  go : Nat → Hp → Prop
  yld : Nat → Hp → V → Hp → Prop
  stop : Nat → Hp → Prop
/-- the iterator's own objects may turn: they are not the frame's, not pinned, younger than the entry (or a comprehension's own) -/
def FpOk (X : Cx) (pins : List (Addr × Obj)) (H : Hp) (b : Addr) : Prop :=
  H b = none ∧ b ≠ X.env.locals ∧ b ∉ X.fs ∧ (b ∈ X.ex ∨ X.s_0.heap.objs.size ≤ b) ∧ (∀ x c, X.env.cells.lookup x = some c → c ≠ b) ∧ ∀ p ∈ X.pn ++ pins, p.1 ≠ b
theorem Inv.fpOk {X : Cx} {pins : List (Addr × Obj)} {σ : St} {H H' : Hp} {s : Shared} {b : Addr} (I : Inv X pins σ H s) (hb : s.heap.objs.size ≤ b) (hn : H' b = none) : FpOk X pins H' b := by
  refine ⟨hn, Nat.ne_of_gt (Nat.lt_of_lt_of_le I.lt hb), I.nofs hb, .inr (Nat.le_trans I.sz hb), fun x c e z => ?_, fun p hp z => ?_⟩
  · obtain ⟨v, q⟩ := I.cell x c e
    exact absurd (Nat.lt_of_lt_of_le q.lt (by rw [z]; exact hb)) (Nat.lt_irrefl _)
  · exact absurd (Nat.lt_of_lt_of_le (Heap.lt_size (I.pin p hp).1) (by rw [z]; exact hb)) (Nat.lt_irrefl _)
structure Turn (P : Program) (w : World) (K : PySem.W.Frag) (tg : Expr) (J : It) (fp : List Addr) (it : Addr) (tn : Nat → Heap → Prop) : Prop where
  mem : it ∈ fp
  obj : ∀ i h, tn i h → ∀ b ∈ fp, ∃ o, h.get? b = some o ∧ ∀ v, o.data ≠ .cell v
  keep : ∀ i h h', tn i h → (∀ b ∈ fp, ∀ o, h.get? b = some o → h'.get? b = some o) → tn i h'
  item : ∀ (X : Cx), X.prog = P → X.w = w → X.K = K → X.calm = true → ∀ (i : Nat) (pins : List (Addr × Obj)) (s : Shared) (σ : St) (H : Hp) (E : Value → Shared → Prop), Inv X pins σ H s → (∀ b ∈ fp, FpOk X pins H b) → tn i s.heap → J.go i H →
    wpAny (model P w) X.A (pyNext (.ref it)) (fun r s1 => ∃ u, r = some u ∧
      wpAny (model P w) X.A (letOwnedTupleGo tg (.ref it) u) (fun _ s2 => ∃ x H', Inv X pins σ H' s2 ∧ RelV x u ∧ J.yld i H x H' ∧ tn (i + 1) s2.heap ∧ ∀ b ∈ fp, H' b = none) E s1) E s
  done : ∀ (X : Cx), X.prog = P → X.w = w → X.K = K → X.calm = true → ∀ (i : Nat) (pins : List (Addr × Obj)) (s : Shared) (σ : St) (H : Hp) (E : Value → Shared → Prop), Inv X pins σ H s → (∀ b ∈ fp, FpOk X pins H b) → tn i s.heap → J.stop i H →
    wpAny (model P w) X.A (pyNext (.ref it)) (fun r s1 => r = none ∧ Inv X pins σ H s1) E s
  self : ∀ (A : Around) (i : Nat) (s : Shared) (Q : Value → Shared → Prop) (E : Value → Shared → Prop), tn i s.heap → Q (.ref it) s → wpAny (model P w) A (pyIter (.ref it)) Q E s
abbrev TI := St → Hp → (It → Hp → Prop) → Prop
/-- an iterator has come -/
def PIE (X : Cx) (pins : List (Addr × Obj)) (σ : St) (tg : Expr) (R : It → Hp → Prop) (itv : Value) (s2 : Shared) : Prop :=
  ∃ (it : Addr) (fp : List Addr) (tn : Nat → Heap → Prop) (J : It) (H' : Hp), itv = .ref it ∧ Inv X pins σ H' s2 ∧ Turn X.prog X.w X.K tg J fp it tn ∧ tn 0 s2.heap ∧ (∀ b ∈ fp, FpOk X pins H' b) ∧ R J H'
def PI (X : Cx) (tg iter : Expr) (wi : TI) : Prop :=
  ∀ (pins : List (Addr × Obj)) (s : Shared) (σ : St) (H : Hp) (R : It → Hp → Prop), Inv X pins σ H s → wi σ H R →
    wpAny (model X.prog X.w) X.A (eval iter X.env) (fun v s1 => wpAny (model X.prog X.w) X.A (pyIter v) (PIE X pins σ tg R) X.xe s1) X.xe s

/-- the step ahead of the store is nothing for an iterator that keeps no tuple -/
theorem go_of {M : Model} {A : Around} {E : Value → Shared → Prop} {s : Shared} {tg : Expr} {it : Addr} {u : Value} {o : Obj} {n : String} {vs : Array Value} {Q : Unit → Shared → Prop} (ho : s.heap.get? it = some o) (hc : o.cls = .type n) (hd : o.data = .fields vs)
    (hn : ["enumerate", "zip", "dict_itemiterator", "dict_reverseitemiterator", "odict_iterator", "itertools.zip_longest", "itertools.pairwise"].contains n = false) (hQ : Q () s) : wpAny M A (letOwnedTupleGo tg (.ref it) u) Q E s := by
  unfold letOwnedTupleGo
  cases tg <;> first
    | exact wpAny_pure hQ
    | (cases u <;> first
        | exact wpAny_pure hQ
        | (refine wpAny_bind (wpAny_load ho ?_)
           rw [hc, hd]
           show wpAny M A (if (["enumerate", "zip", "dict_itemiterator", "dict_reverseitemiterator", "odict_iterator", "itertools.zip_longest", "itertools.pairwise"].contains n && vs[0]? == some (rawInt _)) = true then _ else _) Q E s
           rw [if_neg (by intro h; rw [hn, Bool.false_and] at h; cases h)]
           exact wpAny_pure hQ))

/-- the list at a, as it stands at each turn (a loop may append to it) -/
def Itl (K : PySem.W.Frag) (a : Addr) : It :=
  ⟨fun i H => ∃ xs x, SqL K H a xs ∧ xs[i]? = some x, fun i H x H' => H' = H ∧ ∀ xs, SqL K H a xs → xs[i]? = some x, fun i H => ∃ xs, SqL K H a xs ∧ xs.length ≤ i⟩
/-- lo, lo + 1, .. (n of them) -/
def Itr (lo : Int) (n : Nat) : It := ⟨fun i _ => i < n, fun i H x H' => H' = H ∧ x = .int (lo + i), fun i _ => n ≤ i⟩
theorem turn_list {P : Program} {w : World} {K : PySem.W.Frag} {tg : Expr} (a it : Addr) : Turn P w K tg (Itl K a) [it] it (fun i h => h.IsListIter it a i) where
  mem := by simp
  obj := fun i h st b hb => by
    have e : b = it := by simpa using hb
    subst e
    obtain ⟨o, e, c, d⟩ := st
    exact ⟨o, e, fun v z => by rw [d] at z; cases z⟩
  keep := fun i h h' st k => st.at fun o e => k it (by simp) o e
  item := by
    intro X hP hw hK hc i pins s σ H E I hf st hg
    subst hP hw hK
    obtain ⟨xs, x, hq, hx⟩ := hg
    obtain ⟨its, rv, p, hz⟩ := I.list hq
    obtain ⟨u, hu, ru⟩ := rv.get hx
    obtain ⟨f0, f1, f2, f3, f4, f5⟩ := hf it (by simp)
    refine wpAny_pyNext_list_item st p.isList (x := u) (by simpa using hu) fun h' st' sb => ?_
    have I1 : Inv X pins σ H { s with heap := h' } := I.turned (t' := s.toks) (fun b o hb e => (sb.2 b hb).trans e) f0 f1 f3 f4 f5
    obtain ⟨o, e, c, d⟩ := id st'
    exact ⟨u, rfl, go_of (s := { s with heap := h' }) e c d (by decide) ⟨x, H, I1, ru, ⟨rfl, fun ys hy => by rw [I.list_inj hy hq]; exact hx⟩, st', fun b hb => (hf b hb).1⟩⟩
  done := by
    intro X hP hw hK hc i pins s σ H E I hf st hg
    subst hP hw hK
    obtain ⟨xs, hq, hx⟩ := hg
    obtain ⟨its, rv, p, hz⟩ := I.list hq
    obtain ⟨f0, f1, f2, f3, f4, f5⟩ := hf it (by simp)
    have hl := rv.length
    exact wpAny_pyNext_list_end (I.ok.hd hc) st p.isList (by simp; omega) fun h' eb => ⟨rfl, I.turned (t' := s.toks) (fun b o hb e => eb b o hb e) f0 f1 f3 f4 f5⟩
  self := fun _ _ _ _ _ st h => wpAny_pyIter_listiter st h
theorem turn_range {P : Program} {w : World} {K : PySem.W.Frag} {tg : Expr} (it : Addr) (lo : Int) (n : Nat) : Turn P w K tg (Itr lo n) [it] it (fun i h => IsRangeIter h it (lo + (i : Nat) * 1) ((n : Int) - (i : Nat)) 1) where
  mem := by simp
  obj := fun i h st b hb => by
    have e : b = it := by simpa using hb
    subst e
    exact ⟨_, st, fun v z => by
      have z' : Data.fields _ = Data.cell v := z
      cases z'⟩
  keep := fun i h h' st k => k it (by simp) _ st
  item := by
    intro X hP hw hK hc i pins s σ H E I hf st hg
    subst hP hw hK
    obtain ⟨f0, f1, f2, f3, f4, f5⟩ := hf it (by simp)
    have W := Walks.range (prog := X.prog) (w := X.w) (I.ok.hd hc) it lo 1 n
    refine W.item i s _ _ hg st fun v h' tk hv st' kk => ?_
    obtain ⟨t, rfl⟩ := hv
    have I1 : Inv X pins σ H { s with heap := h', toks := tk } := I.turned (fun b o hb e => kk b o (by simpa using hb) e) f0 f1 f3 f4 f5
    refine ⟨_, rfl, go_of (s := { s with heap := h', toks := tk }) (n := "range_iterator") st' rfl rfl (by decide) ⟨.int (lo + i), H, I1, ⟨t, ?_⟩, ⟨rfl, rfl⟩, st', fun b hb => (hf b hb).1⟩⟩
    rw [Int.mul_one]
  done := by
    intro X hP hw hK hc i pins s σ H E I hf st hg
    subst hP hw hK
    obtain ⟨f0, f1, f2, f3, f4, f5⟩ := hf it (by simp)
    exact wpAny_pyNext_range_end (I.ok.hd hc) st (by have : n ≤ i := hg; omega) fun h' eb => ⟨rfl, I.turned (t' := s.toks) (fun b o hb e => eb b o hb e) f0 f1 f3 f4 f5⟩
  self := fun _ _ _ _ _ st h => wpAny_pyIter_rangeiter st h
end L2

namespace L2
open PySem PySem.Spec PyProof.Rows
section
variable {X : Cx} {tg : Expr}
def iList (K : PySem.W.Frag) (tl : TE) : TI := fun σ H R => tl σ H fun x H1 => ∃ a, x = .ref a ∧ (∃ xs, SqL K H1 a xs) ∧ R (Itl K a) H1
theorem pi_list {l : Expr} {tl : TE} (hl : PE X l tl) : PI X tg l (iList X.K tl) := by
  intro pins s σ H R I h
  refine thn (hl pins s σ H _ I h) fun v s1 ⟨x, H1, I1, r1, q1⟩ => ?_
  obtain ⟨a, e, ⟨xs, hq⟩, q⟩ := q1
  subst e
  cases r1
  obtain ⟨its, rv, p, hz⟩ := I1.list hq
  refine wpAny_pyIter_list p.isList ?_
  refine ⟨s1.heap.objs.size, [s1.heap.objs.size], _, _, H1, rfl, I1.kept (t' := s1.toks) fun b o e => Heap.get?_push_of_some _ e, turn_list a _, ⟨_, Heap.get?_push_size _ rfl, rfl, rfl⟩, fun b hb => ?_, q⟩
  have e : b = s1.heap.objs.size := by simpa using hb
  subst e
  exact I1.fpOk (Nat.le_refl _) (I1.hok.fresh (Nat.le_refl _))
/-- a range object just made, walked -/
theorem range_it {pins : List (Addr × Obj)} {σ : St} {H : Hp} {s : Shared} {R : It → Hp → Prop} {E : Value → Shared → Prop} {lo hi : Int} {t u v : Tok} {tk : Nat} (I : Inv X pins σ H s) (h1 : -(2 ^ 62) ≤ lo) (h2 : lo < 2 ^ 62) (h3 : -(2 ^ 62) ≤ hi) (h4 : hi < 2 ^ 62)
    (q : R (Itr lo (hi - lo).toNat) H) : wpAny (model X.prog X.w) X.A (pyIter (.ref s.heap.objs.size)) (PIE X pins σ tg R) E { s with heap := s.heap.push { cls := .type "range", data := .fields #[.int lo t, .int hi u, .int 1 v] }, toks := tk } := by
  refine wpAny_pyIter_range (IsRange.new ..) (small_one h1 h2 h3 h4) ?_
  have I1 : Inv X pins σ H { s with heap := s.heap.push { cls := .type "range", data := .fields #[.int lo t, .int hi u, .int 1 v] }, toks := tk } := I.kept fun b o e => Heap.get?_push_of_some _ e
  refine ⟨(s.heap.push { cls := .type "range", data := .fields #[.int lo t, .int hi u, .int 1 v] }).objs.size, [(s.heap.push { cls := .type "range", data := .fields #[.int lo t, .int hi u, .int 1 v] }).objs.size], _, _, H, rfl,
    I1.kept (t' := tk) fun b o e => Heap.get?_push_of_some _ e, turn_range _ lo (hi - lo).toNat, ?_, fun b hb => ?_, q⟩
  · have e1 : lo + ((0 : Nat) : Int) * 1 = lo := by simp
    have e2 : (((hi - lo).toNat : Nat) : Int) - ((0 : Nat) : Int) = Builtin.Range.rangeSize lo hi 1 := by rw [rangeSize_one]; split <;> omega
    show IsRangeIter _ _ (lo + ((0 : Nat) : Int) * 1) ((((hi - lo).toNat : Nat) : Int) - ((0 : Nat) : Int)) 1
    rw [e1, e2]
    exact Heap.get?_push_size _ rfl
  · have e : b = (s.heap.push { cls := .type "range", data := .fields #[.int lo t, .int hi u, .int 1 v] }).objs.size := by simpa using hb
    subst e
    exact I1.fpOk (Nat.le_refl _) (I1.hok.fresh (Nat.le_refl _))
def iRng1 (ta : TA) : TI := fun σ H R => ta σ H fun vs H1 => ∃ j : Int, vs = [.int j] ∧ -(2 ^ 62) ≤ j ∧ j < 2 ^ 62 ∧ R (Itr 0 j.toNat) H1
theorem pi_range1 {a : Expr} {ta : TA} {p pos : Pos} (hg : Gl X "range") (hm : X.mg "range" = none) (ha : PA X [a] ta) (hs : starEach [a] X.env = [(false, eval a X.env)] := by rfl) : PI X tg (.Call (.Name "range" p) [a] [] pos) (iRng1 ta) := by
  intro pins s σ H R I h
  refine Call_ (ld_blt I hg hm boot_range (PyProof.Rows.callWith_type1 (thn (ha pos pins s σ H _ I h) fun us s1 ⟨vs, H1, I1, r1, q1⟩ => ?_) hs rfl))
  obtain ⟨j, e, q1, q2, q⟩ := q1
  subst e
  cases r1 with
  | cons r rr =>
    cases rr
    obtain ⟨t, rfl⟩ := r
    exact call_range_1 (range_it I1 (by omega) (by omega) q1 q2 (by simpa using q))
/-- W: the invariant by the turn and a measure; N: what the body is to reach -/
def tFor (wi : TI) (g : TG) (tb : TS) : TS := fun D σ H => wi σ H fun J H1 => ∃ W : Nat → Nat → St → Hp → Prop, (∃ m, W 0 m σ H1) ∧ ∀ i m σ H, W i m σ H →
  (J.stop i H ∧ D.nx σ H) ∨ (J.go i H ∧ ∃ N : St → Hp → Prop, (∀ σ' H', N σ' H' → ∃ m', m' < m ∧ W (i + 1) m' σ' H') ∧ ∀ x H', J.yld i H x H' → g x σ H' fun σ2 H2 => tb { D with nx := N, ct := N, bk := D.nx } σ2 H2)
/-- the records at fp as they stand -/
def pinsAt (fp : List Addr) (h : Heap) : List (Addr × Obj) := fp.filterMap fun b => (h.get? b).map fun o => (b, o)
theorem mem_pinsAt {fp : List Addr} {h : Heap} {b : Addr} {o : Obj} (hb : b ∈ fp) (e : h.get? b = some o) : (b, o) ∈ pinsAt fp h := List.mem_filterMap.mpr ⟨b, hb, by rw [e]; rfl⟩
theorem of_pinsAt {fp : List Addr} {h : Heap} {p : Addr × Obj} (hp : p ∈ pinsAt fp h) : p.1 ∈ fp ∧ h.get? p.1 = some p.2 := by
  obtain ⟨b, hb, e⟩ := List.mem_filterMap.mp hp
  cases q : h.get? b with
  | none => rw [q] at e; cases e
  | some o =>
    rw [q] at e
    have e' : (b, o) = p := Option.some.inj e
    subst e'
    exact ⟨hb, q⟩
theorem Inv.pinned {pins : List (Addr × Obj)} {σ : St} {H : Hp} {s : Shared} {fp : List Addr} (I : Inv X pins σ H s) (hf : ∀ b ∈ fp, FpOk X pins H b) (ho : ∀ b ∈ fp, ∃ o, s.heap.get? b = some o ∧ ∀ v, o.data ≠ .cell v) : Inv X (pins ++ pinsAt fp s.heap) σ H s :=
  I.pins_of fun p hp => (List.mem_append.mp hp).elim (fun z => I.pin p (List.mem_append_right _ z)) fun z => by
    obtain ⟨hb, e⟩ := of_pinsAt z
    obtain ⟨f0, f1, f2, _⟩ := hf p.1 hb
    obtain ⟨o, e', d⟩ := ho p.1 hb
    rw [e] at e'; cases e'
    exact ⟨e, f0, f1, f2, d⟩
theorem Inv.unpinned {pins pl : List (Addr × Obj)} {σ : St} {H : Hp} {s : Shared} (I : Inv X (pins ++ pl) σ H s) : Inv X pins σ H s := I.pins_of fun p hp => I.pin p (List.mem_append_right _ (List.mem_append_left _ hp))
theorem ps_for {iter : Expr} {body : List Stmt} {wi : TI} {g : TG} {tb : TS} {pos : Pos} (hp : PassesOwn (model X.prog X.w) X.A X.env X.xe) (hc : X.calm = true) (hi : PI X tg iter wi) (hg : PG X tg g) (hb : PSs X body tb)
    (hs : ∀ x, foldedSetIterable iter X.env x = pure x := by intro _; rfl) : PS X (.For tg iter body [] pos) (tFor wi g tb) := by
  intro pins s σ H D I h
  refine wpAny_For (thn (hi pins s σ H _ I h) fun v s1 h1 => thn h1 fun itv s2 h2 => ?_) hs
  obtain ⟨it, fp, tn, J, H2, e, I2, T, st2, f2, W, ⟨m0, w0⟩, turn⟩ := h2
  subst e
  -- what stays true of the iterator's objects through the loop
  have stat : ∀ {H' : Hp}, (∀ b ∈ fp, H' b = none) → ∀ b ∈ fp, FpOk X pins H' b := fun hn b hb => ⟨hn b hb, (f2 b hb).2⟩
  refine codeAny_forLoop_any (fun n s' => ∃ i σ' H', Inv X pins σ' H' s' ∧ tn i s'.heap ∧ (∀ b ∈ fp, H' b = none) ∧ W i n σ' H') ?_ m0 ⟨0, σ, H2, I2, st2, fun b hb => (f2 b hb).1, w0⟩
  rintro n s3 ⟨i, σ3, H3, I3, st3, fr3, w3⟩
  rcases turn i n σ3 H3 w3 with ⟨stop, qn⟩ | ⟨go, N, hN, step⟩
  · refine wpAny_passesOwn hp (thn (T.done X rfl rfl rfl hc i pins s3 σ3 H3 X.xe I3 (stat fr3) st3 stop) fun r s4 ⟨hr, I4⟩ => ?_)
    subst hr
    exact wpAny_execs_nil ⟨σ3, H3, I4, qn⟩
  · refine wpAny_passesOwn hp (thn (T.item X rfl rfl rfl hc i pins s3 σ3 H3 X.xe I3 (stat fr3) st3 go) fun r s4 ⟨u, hr, h4⟩ => ?_)
    subst hr
    refine wpAny_passesOwn hp (thn h4 fun _ s5 ⟨x, H5, I5, r5, y5, st5, fr5⟩ => ?_)
    have I5' := I5.pinned (stat fr5) (T.obj _ _ st5)
    refine wpAny_passesOwn hp (thn (hg _ s5 σ3 H5 x u _ I5' r5 (step x H5 y5)) fun _ s6 ⟨σ6, H6, I6, q6⟩ => ?_)
    refine wpAny_passesOwn hp (thn (hb _ s6 σ6 H6 _ I6 q6) fun f s7 q7 => ?_)
    have again : ∀ {σ7 : St} {H7 : Hp}, Inv X (pins ++ pinsAt fp s5.heap) σ7 H7 s7 → N σ7 H7 → ∃ m, m < n ∧ ∃ i σ' H', Inv X pins σ' H' s7 ∧ tn i s7.heap ∧ (∀ b ∈ fp, H' b = none) ∧ W i m σ' H' := fun {σ7 H7} I7 n7 => by
      obtain ⟨m', hm, w7⟩ := hN σ7 H7 n7
      refine ⟨m', hm, i + 1, σ7, H7, I7.unpinned, T.keep _ _ _ st5 fun b hb o e => (I7.pin (b, o) (List.mem_append_right _ (List.mem_append_right _ (mem_pinsAt hb e)))).1, fun b hb => ?_, w7⟩
      obtain ⟨o, e, d⟩ := T.obj _ _ st5 b hb
      exact (I7.pin (b, o) (List.mem_append_right _ (List.mem_append_right _ (mem_pinsAt hb e)))).2.1
    cases f with
    | next => obtain ⟨σ7, H7, I7, n7⟩ := q7; exact again I7 n7
    | cont => obtain ⟨σ7, H7, I7, n7⟩ := q7; exact again I7 n7
    | brk => obtain ⟨σ7, H7, I7, q7⟩ := q7; exact ⟨σ7, H7, I7.unpinned, q7⟩
    | ret v => obtain ⟨x7, σ7, H7, I7, r7, q7⟩ := q7; exact ⟨x7, σ7, H7, I7.unpinned, r7, q7⟩
end

/-- over a list that the body leaves as it is -/
theorem for_list {K : PySem.W.Frag} {a : Addr} {xs : List V} {g : TG} {tb : TS} {D : Ends} {σ : St} {H : Hp} (Pv : Nat → St → Hp → Prop) (h0 : Pv 0 σ H) (hl : ∀ i σ H, i ≤ xs.length → Pv i σ H → SqL K H a xs)
    (hs : ∀ i x σ H, xs[i]? = some x → Pv i σ H → g x σ H fun σ2 H2 => tb { D with nx := Pv (i + 1), ct := Pv (i + 1), bk := D.nx } σ2 H2) (hd : ∀ σ H, Pv xs.length σ H → D.nx σ H) :
    ∃ W : Nat → Nat → St → Hp → Prop, (∃ m, W 0 m σ H) ∧ ∀ i m σ H, W i m σ H →
      ((Itl K a).stop i H ∧ D.nx σ H) ∨ ((Itl K a).go i H ∧ ∃ N : St → Hp → Prop, (∀ σ' H', N σ' H' → ∃ m', m' < m ∧ W (i + 1) m' σ' H') ∧ ∀ x H', (Itl K a).yld i H x H' → g x σ H' fun σ2 H2 => tb { D with nx := N, ct := N, bk := D.nx } σ2 H2) := by
  refine ⟨fun i m σ H => m = xs.length - i ∧ i ≤ xs.length ∧ Pv i σ H, ⟨xs.length, by simp, Nat.zero_le _, h0⟩, ?_⟩
  rintro i m σ H ⟨rfl, hi, p⟩
  have q := hl i σ H hi p
  by_cases hlt : i < xs.length
  · refine .inr ⟨⟨xs, xs[i], q, by simp [hlt]⟩, Pv (i + 1), fun σ' H' p' => ⟨xs.length - (i + 1), by omega, rfl, hlt, p'⟩, fun x H' y => ?_⟩
    obtain ⟨e, y⟩ := y
    subst e
    exact hs i x σ _ (y xs q) p
  · have e : i = xs.length := by omega
    subst e
    exact .inl ⟨⟨xs, q, Nat.le_refl _⟩, hd σ H p⟩
theorem for_range {lo : Int} {n : Nat} {g : TG} {tb : TS} {D : Ends} {σ : St} {H : Hp} (Pv : Nat → St → Hp → Prop) (h0 : Pv 0 σ H)
    (hs : ∀ i σ H, i < n → Pv i σ H → g (.int (lo + i)) σ H fun σ2 H2 => tb { D with nx := Pv (i + 1), ct := Pv (i + 1), bk := D.nx } σ2 H2) (hd : ∀ σ H, Pv n σ H → D.nx σ H) :
    ∃ W : Nat → Nat → St → Hp → Prop, (∃ m, W 0 m σ H) ∧ ∀ i m σ H, W i m σ H →
      ((Itr lo n).stop i H ∧ D.nx σ H) ∨ ((Itr lo n).go i H ∧ ∃ N : St → Hp → Prop, (∀ σ' H', N σ' H' → ∃ m', m' < m ∧ W (i + 1) m' σ' H') ∧ ∀ x H', (Itr lo n).yld i H x H' → g x σ H' fun σ2 H2 => tb { D with nx := N, ct := N, bk := D.nx } σ2 H2) := by
  refine ⟨fun i m σ H => m = n - i ∧ i ≤ n ∧ Pv i σ H, ⟨n, by simp, Nat.zero_le _, h0⟩, ?_⟩
  rintro i m σ H ⟨rfl, hi, p⟩
  by_cases hlt : i < n
  · refine .inr ⟨hlt, Pv (i + 1), fun σ' H' p' => ⟨n - (i + 1), by omega, rfl, hlt, p'⟩, fun x H' y => ?_⟩
    obtain ⟨e, y⟩ := y
    subst e y
    exact hs i σ _ hlt p
  · have e : i = n := by omega
    subst e
    exact .inl ⟨Nat.le_refl _, hd σ H p⟩
end L2

namespace L2
open PySem PySem.Spec PyProof.Rows

abbrev R2 := V → V → Hp → VK → Prop
/-- a two-place operation on values: f is binaryOp op, inplaceOp op or compareOp op -/
def OpR (X : Cx) (f : Value → Value → Sem Value) (r : R2) : Prop :=
  ∀ (pins : List (Addr × Obj)) (s : Shared) (σ : St) (H : Hp) (x y : V) (v u : Value) (Q : VK), Inv X pins σ H s → RelV x v → RelV y u → r x y H Q →
    wpAny (model X.prog X.w) X.A (f v u) (EP X pins σ Q) X.xe s
/-- a call of a value that is known (a builtin, a type) with values -/
def CallR (X : Cx) (f : Value) (r : List V → Hp → VK → Prop) : Prop :=
  ∀ (pins : List (Addr × Obj)) (s : Shared) (σ : St) (H : Hp) (xs : List V) (us : List Value) (Q : VK), Inv X pins σ H s → Vals xs us → r xs H Q →
    wpAny (model X.prog X.w) X.A (call f us) (EP X pins σ Q) X.xe s
def tOp (r : R2) (ta tb : TE) : TE := fun σ H Q => ta σ H fun x H1 => tb σ H1 fun y H2 => r x y H2 Q
/-- ints in, under C, and a value out -/
def rI (C : Int → Int → Prop) (g : Int → Int → V) : R2 := fun x y H Q => ∃ i j, x = .int i ∧ y = .int j ∧ C i j ∧ Q (g i j) H
def rI0 (g : Int → Int → V) : R2 := fun x y H Q => ∃ i j, x = .int i ∧ y = .int j ∧ Q (g i j) H
section
variable {X : Cx} {a b c : Expr} {ta tb tc : TE} {pos : Pos}

theorem binT (ha : PE X a ta) (hb : PE X b tb) {pins : List (Addr × Obj)} {s : Shared} {σ : St} {H : Hp} {R : V → V → Hp → Prop} (I : Inv X pins σ H s)
    (h : ta σ H fun x H1 => tb σ H1 fun y H2 => R x y H2) {Q : Value → Shared → Prop} {f : Value → Value → Sem Value}
    (hf : ∀ v u s2 x y H2, Inv X pins σ H2 s2 → RelV x v → RelV y u → R x y H2 → wpAny (model X.prog X.w) X.A (f v u) Q X.xe s2) :
    wpAny (model X.prog X.w) X.A (eval a X.env) (fun v s₁ => wpAny (model X.prog X.w) X.A (eval b X.env) (fun u s₂ => wpAny (model X.prog X.w) X.A (f v u) Q X.xe s₂) X.xe s₁) X.xe s := by
  refine thn (ha pins s σ H _ I h) fun v s1 ⟨x, H1, I1, r1, q1⟩ => ?_
  refine thn (hb pins s1 σ H1 _ I1 q1) fun u s2 ⟨y, H2, I2, r2, q2⟩ => ?_
  exact hf v u s2 x y H2 I2 r1 r2 q2

theorem pe_op {op : Operator} {r : R2} (ho : OpR X (binaryOp op) r) (ha : PE X a ta) (hb : PE X b tb) : PE X (.BinOp a op b pos) (tOp r ta tb) := by
  intro pins s σ H Q I h
  exact wpAny_BinOp (binT ha hb I h fun v u s2 x y H2 I2 rx ry q => ho pins s2 σ H2 x y v u Q I2 rx ry q)
theorem opI {f : Value → Value → Sem Value} {C : Int → Int → Prop} {g : Int → Int → Int}
    (rule : ∀ (i j : Int) (t u : Tok) (s : Shared) (Q : Value → Shared → Prop) (E : Value → Shared → Prop), C i j → Q (.int (g i j) s.toks) { s with toks := s.toks + 1 } → wpAny (model X.prog X.w) X.A (f (.int i t) (.int j u)) Q E s) :
    OpR X f (rI C fun i j => .int (g i j)) := by
  intro pins s σ H x y v u Q I rx ry h
  obtain ⟨i, j, rfl, rfl, hc, q⟩ := h
  obtain ⟨t, rfl⟩ := rx
  obtain ⟨t', rfl⟩ := ry
  exact rule i j t t' s _ _ hc ⟨.int (g i j), H, I.tok _, ⟨_, rfl⟩, q⟩
theorem opI0 {f : Value → Value → Sem Value} {g : Int → Int → Int}
    (rule : ∀ (i j : Int) (t u : Tok) (s : Shared) (Q : Value → Shared → Prop) (E : Value → Shared → Prop), Q (.int (g i j) s.toks) { s with toks := s.toks + 1 } → wpAny (model X.prog X.w) X.A (f (.int i t) (.int j u)) Q E s) :
    OpR X f (rI0 fun i j => .int (g i j)) := by
  intro pins s σ H x y v u Q I rx ry h
  obtain ⟨i, j, rfl, rfl, q⟩ := h
  obtain ⟨t, rfl⟩ := rx
  obtain ⟨t', rfl⟩ := ry
  exact rule i j t t' s _ _ ⟨.int (g i j), H, I.tok _, ⟨_, rfl⟩, q⟩
theorem opB0 {f : Value → Value → Sem Value} {g : Int → Int → Bool}
    (rule : ∀ (i j : Int) (t u : Tok) (s : Shared) (Q : Value → Shared → Prop) (E : Value → Shared → Prop), Q (.bool (g i j)) s → wpAny (model X.prog X.w) X.A (f (.int i t) (.int j u)) Q E s) :
    OpR X f (rI0 fun i j => .bl (g i j)) := by
  intro pins s σ H x y v u Q I rx ry h
  obtain ⟨i, j, rfl, rfl, q⟩ := h
  obtain ⟨t, rfl⟩ := rx
  obtain ⟨t', rfl⟩ := ry
  exact rule i j t t' s _ _ ⟨.bl (g i j), H, I, rfl, q⟩

def CDiv (i j : Int) : Prop := 0 < j ∧ j < 1073741824
def CPow (i j : Int) : Prop := 0 ≤ j ∧ j ≤ 1000000 ∧ i.natAbs < 2 ^ 64
def CMul (i j : Int) : Prop := (-(2 ^ 64) < i ∧ i < 2 ^ 64) ∨ (-(2 ^ 64) < j ∧ j < 2 ^ 64)
theorem CMul.ok {i j : Int} (h : CMul i j) : IntMulOk i j := by
  rcases h with ⟨h1, h2⟩ | ⟨h1, h2⟩
  · exact .of_left (intBits_le_64 h1 h2)
  · exact .of_right (intBits_le_64 h1 h2)
theorem op_add : OpR X (binaryOp .Add) (rI0 fun i j => .int (i + j)) := opI0 fun _ _ _ _ _ _ _ q => add_int q
theorem op_sub : OpR X (binaryOp .Sub) (rI0 fun i j => .int (i - j)) := opI0 fun _ _ _ _ _ _ _ q => sub_int q
theorem op_mul : OpR X (binaryOp .Mult) (rI CMul fun i j => .int (i * j)) := opI fun _ _ _ _ _ _ _ hc q => mul_int q hc.ok
/-- // by a positive divisor -/
theorem op_fdiv : OpR X (binaryOp .FloorDiv) (rI CDiv fun i j => .int (i / j)) := opI fun i j _ _ _ _ _ hc q => by
  have h1 : (0 : Int) < j := hc.1
  have h2 : j < 1073741824 := hc.2
  exact floordiv_int (by omega) (by rw [Int.fdiv_eq_ediv_of_nonneg i (by omega)]; exact q) (.inl (PyProof.noPylong_small (by omega)))
/-- % by a positive divisor of any size -/
theorem op_mod : OpR X (binaryOp .Mod) (rI (fun _ j => 0 < j) fun i j => .int (i % j)) := opI fun i j _ _ _ _ _ hc q => by
  have h1 : (0 : Int) < j := hc
  exact mod_int' (by omega) (by rw [Int.fmod_eq_emod_of_nonneg i (by omega)]; exact q)
theorem op_pow : OpR X (binaryOp .Pow) (rI CPow fun i j => .int (i ^ j.toNat)) := opI fun _ _ _ _ _ _ _ hc q => pow_int_small hc.1 hc.2.1 hc.2.2 q
end

/-- the scalars that == tells apart as data does -/
def scal : V → V → Bool
  | .non, .non => true | .non, .int _ => true | .int _, .non => true | .non, .bl _ => true | .bl _, .non => true | .non, .str _ => true | .str _, .non => true
  | .int _, .int _ => true | .bl _, .bl _ => true | .str _, .str _ => true | .byt _, .byt _ => true
  | .int _, .str _ => true | .str _, .int _ => true | .bl _, .str _ => true | .str _, .bl _ => true
  | _, _ => false
def rEq : R2 := fun x y H Q => scal x y = true ∧ Q (.bl (decide (x = y))) H
def rNe : R2 := fun x y H Q => scal x y = true ∧ Q (.bl (!decide (x = y))) H

theorem dec_int {i j : Int} : decide (V.int i = V.int j) = (i == j) := by
  rw [Bool.eq_iff_iff]
  simp
theorem dec_bl {i j : Bool} : decide (V.bl i = V.bl j) = (i == j) := by
  rw [Bool.eq_iff_iff]
  simp
theorem dec_str {i j : Str} : decide (V.str i = V.str j) = (i == j) := by
  rw [Bool.eq_iff_iff]
  simp
theorem dec_byt {i j : Array UInt8} : decide (V.byt i = V.byt j) = (i.toList == j.toList) := by
  rw [Bool.eq_iff_iff]
  cases i
  cases j
  simp

section
variable {X : Cx} {a b c : Expr} {ta tb tc : TE} {pos : Pos}
theorem fin_bl {pins : List (Addr × Obj)} {σ : St} {H : Hp} {s : Shared} {Q : VK} {k k' : Bool} (I : Inv X pins σ H s) (q : Q (.bl k) H) (e : k = k') : EP X pins σ Q (.bool k') s := by
  subst e
  exact ⟨.bl k, H, I, rfl, q⟩
theorem op_eq : OpR X (compareOp .Eq) rEq := by
  intro pins s σ H x y v u Q I rx ry h
  obtain ⟨hs, q⟩ := h
  cases x with
  | non =>
    cases rx
    cases y with
    | non => cases ry; exact PySem.EqNone.eq_none_none (fin_bl I q (by simp))
    | bl j => cases ry; exact PySem.EqNone.eq_none_bool (fin_bl I q (by simp))
    | int j => obtain ⟨t', rfl⟩ := ry; exact PySem.EqNone.eq_none_int (fin_bl I q (by simp))
    | str j => obtain ⟨t', rfl⟩ := ry; exact PySem.EqNone.eq_none_str (fin_bl I q (by simp))
    | _ => exact absurd (show false = true from hs) Bool.false_ne_true
  | bl i =>
    cases rx
    cases y with
    | non => cases ry; exact PySem.EqNone.eq_bool_none (fin_bl I q (by simp))
    | bl j => cases ry; exact eq_bool (fin_bl I q dec_bl)
    | str j => obtain ⟨t', rfl⟩ := ry; exact PySem.EqMixed.eq_bool_str (fin_bl I q (by simp))
    | _ => exact absurd (show false = true from hs) Bool.false_ne_true
  | int i =>
    obtain ⟨t, rfl⟩ := rx
    cases y with
    | non => cases ry; exact PySem.EqNone.eq_int_none (fin_bl I q (by simp))
    | int j => obtain ⟨t', rfl⟩ := ry; exact eq_int (fin_bl I q dec_int)
    | str j => obtain ⟨t', rfl⟩ := ry; exact PySem.EqMixed.eq_int_str (fin_bl I q (by simp))
    | _ => exact absurd (show false = true from hs) Bool.false_ne_true
  | str i =>
    obtain ⟨t, rfl⟩ := rx
    cases y with
    | non => cases ry; exact PySem.EqNone.eq_str_none (fin_bl I q (by simp))
    | bl j => cases ry; exact PySem.EqMixed.eq_str_bool (fin_bl I q (by simp))
    | int j => obtain ⟨t', rfl⟩ := ry; exact PySem.EqMixed.eq_str_int (fin_bl I q (by simp))
    | str j => obtain ⟨t', rfl⟩ := ry; exact eq_str (fin_bl I q dec_str)
    | _ => exact absurd (show false = true from hs) Bool.false_ne_true
  | byt i =>
    obtain ⟨t, rfl⟩ := rx
    cases y with
    | byt j => obtain ⟨t', rfl⟩ := ry; exact PySem.W.eq_bytes (fin_bl I q dec_byt)
    | _ => exact absurd (show false = true from hs) Bool.false_ne_true
  | _ => cases y <;> exact absurd (show false = true from hs) Bool.false_ne_true
theorem op_ne : OpR X (compareOp .NotEq) rNe := by
  intro pins s σ H x y v u Q I rx ry h
  obtain ⟨hs, q⟩ := h
  cases x with
  | non =>
    cases rx
    cases y with
    | non => cases ry; exact PySem.EqNone.ne_none_none (fin_bl I q (by simp))
    | bl j => cases ry; exact PySem.EqNone.ne_none_bool (fin_bl I q (by simp))
    | int j => obtain ⟨t', rfl⟩ := ry; exact PySem.EqNone.ne_none_int (fin_bl I q (by simp))
    | str j => obtain ⟨t', rfl⟩ := ry; exact PySem.EqNone.ne_none_str (fin_bl I q (by simp))
    | _ => exact absurd (show false = true from hs) Bool.false_ne_true
  | bl i =>
    cases rx
    cases y with
    | non => cases ry; exact PySem.EqNone.ne_bool_none (fin_bl I q (by simp))
    | bl j => cases ry; exact ne_bool (fin_bl I q (congrArg not dec_bl))
    | str j => obtain ⟨t', rfl⟩ := ry; exact PySem.EqMixed.ne_bool_str (fin_bl I q (by simp))
    | _ => exact absurd (show false = true from hs) Bool.false_ne_true
  | int i =>
    obtain ⟨t, rfl⟩ := rx
    cases y with
    | non => cases ry; exact PySem.EqNone.ne_int_none (fin_bl I q (by simp))
    | int j => obtain ⟨t', rfl⟩ := ry; exact ne_int (fin_bl I q (congrArg not dec_int))
    | str j => obtain ⟨t', rfl⟩ := ry; exact PySem.EqMixed.ne_int_str (fin_bl I q (by simp))
    | _ => exact absurd (show false = true from hs) Bool.false_ne_true
  | str i =>
    obtain ⟨t, rfl⟩ := rx
    cases y with
    | non => cases ry; exact PySem.EqNone.ne_str_none (fin_bl I q (by simp))
    | bl j => cases ry; exact PySem.EqMixed.ne_str_bool (fin_bl I q (by simp))
    | int j => obtain ⟨t', rfl⟩ := ry; exact PySem.EqMixed.ne_str_int (fin_bl I q (by simp))
    | str j => obtain ⟨t', rfl⟩ := ry; exact ne_str (fin_bl I q (congrArg not dec_str))
    | _ => exact absurd (show false = true from hs) Bool.false_ne_true
  | byt i =>
    obtain ⟨t, rfl⟩ := rx
    cases y with
    | byt j => obtain ⟨t', rfl⟩ := ry; exact PySem.W.ne_bytes (fin_bl I q (congrArg not dec_byt))
    | _ => exact absurd (show false = true from hs) Bool.false_ne_true
  | _ => cases y <;> exact absurd (show false = true from hs) Bool.false_ne_true

theorem op_lt : OpR X (compareOp .Lt) (rI0 fun i j => .bl (decide (i < j))) := opB0 fun _ _ _ _ _ _ _ q => lt_int q
theorem op_le : OpR X (compareOp .LtE) (rI0 fun i j => .bl (decide (i ≤ j))) := opB0 fun _ _ _ _ _ _ _ q => le_int q
theorem op_gt : OpR X (compareOp .Gt) (rI0 fun i j => .bl (decide (j < i))) := opB0 fun _ _ _ _ _ _ _ q => gt_int q
theorem op_ge : OpR X (compareOp .GtE) (rI0 fun i j => .bl (decide (j ≤ i))) := opB0 fun _ _ _ _ _ _ _ q => ge_int q
/-- two rules for one operation: by cases -/
theorem OpR.or {f : Value → Value → Sem Value} {r r' : R2} (h : OpR X f r) (h' : OpR X f r') : OpR X f (fun x y H Q => r x y H Q ∨ r' x y H Q) := by
  intro pins s σ H x y v u Q I rx ry q
  rcases q with q | q
  · exact h pins s σ H x y v u Q I rx ry q
  · exact h' pins s σ H x y v u Q I rx ry q

theorem nomark (b : Expr) {op : CmpOp} (h : op ≠ .In := by decide) (h2 : op ≠ .NotIn := by decide) : behindInMarks op b = false := by
  have e1 : (op == CmpOp.In) = false := by cases op <;> first | rfl | exact absurd rfl h
  have e2 : (op == CmpOp.NotIn) = false := by cases op <;> first | rfl | exact absurd rfl h2
  cases b <;> simp [behindInMarks, e1, e2]
/-- a comparison as a value; hm: nomark b, or (for in, not in) by with_unfolding_all rfl -/
theorem pe_cmpR {op : CmpOp} {r : R2} (ho : OpR X (compareOp op) r) (ha : PE X a ta) (hb : PE X b tb) (hm : behindInMarks op b = false) : PE X (.Compare a [op] [b] pos) (tOp r ta tb) := by
  intro pins s σ H Q I h
  exact wpAny_Compare1 (binT ha hb I h fun v u s2 x y H2 I2 rx ry q => ho pins s2 σ H2 x y v u Q I2 rx ry q) hm
/-- a reading of a value as a test -/
def tTest (t : TE) : TT := fun σ H Q => t σ H fun x H' => ∃ k, x = .bl k ∧ Q k H'
theorem pt_cmpR {op : CmpOp} {r : R2} (ho : OpR X (compareOp op) r) (ha : PE X a ta) (hb : PE X b tb) (hm : behindInMarks op b = false) : PT X (.Compare a [op] [b] pos) (tTest (tOp r ta tb)) := by
  intro pins s σ H Q I h
  refine wpAny_isTrue_Compare1 (thn (ha pins s σ H _ I h) fun v s1 ⟨x, H1, I1, r1, q1⟩ => thn (hb pins s1 σ H1 _ I1 q1) fun u s2 ⟨y, H2, I2, r2, q2⟩ =>
    thn (ho pins s2 σ H2 x y v u _ I2 r1 r2 q2) fun c s3 ⟨z, H3, I3, r3, k, e, q3⟩ => ?_) hm
  subst e
  cases r3
  exact wpAny_truthy_bool ⟨H3, I3, q3⟩
/-- a op1 b op2 c -/
def tChain (r r' : R2) (ta tb tc : TE) : TE := fun σ H Q => ta σ H fun x H1 => tb σ H1 fun y H2 => r x y H2 fun z H3 => ∃ k, z = .bl k ∧
  (if k = true then tc σ H3 fun w' H4 => r' y w' H4 Q else Q (.bl false) H3)
theorem pt_chain {op op' : CmpOp} {r r' : R2} (ho : OpR X (compareOp op) r) (ho' : OpR X (compareOp op') r') (ha : PE X a ta) (hb : PE X b tb) (hc : PE X c tc)
    (hm : lastMarks [op, op'] [b, c] = false := by with_unfolding_all rfl) : PT X (.Compare a [op, op'] [b, c] pos) (tTest (tChain r r' ta tb tc)) := by
  intro pins s σ H Q I h
  refine isTrue_chain (thn (ha pins s σ H _ I h) fun v s1 ⟨x, H1, I1, r1, q1⟩ => test_link (thn (hb pins s1 σ H1 _ I1 q1) fun u s2 ⟨y, H2, I2, r2, q2⟩ =>
    thn (ho pins s2 σ H2 x y v u _ I2 r1 r2 q2) fun d s3 ⟨z, H3, I3, r3, k, e, q3⟩ => ?_)) hm
  subst e
  cases r3
  refine wpAny_truthy_bool ?_
  cases k with
  | false =>
    obtain ⟨k', e', q'⟩ := q3
    cases e'
    exact ite_ff ⟨H3, I3, q'⟩
  | true =>
    refine ite_tt (test_last (thn (hc pins s3 σ H3 _ I3 q3) fun w' s4 ⟨z', H4, I4, r4, q4⟩ => thn (ho' pins s4 σ H4 y z' u w' _ I4 r2 r4 q4) fun d' s5 ⟨z2, H5, I5, r5, k2, e2, q5⟩ => ?_))
    subst e2
    cases r5
    exact wpAny_truthy_bool ⟨H5, I5, q5⟩

theorem line63 : (sizeLine : Nat) < 2 ^ 63 := by rw [sizeLine_eq]; decide
theorem op_add_str : OpR X (binaryOp .Add) (fun x y H Q => ∃ i j, x = .str i ∧ y = .str j ∧ i.length + j.length ≤ sizeLine ∧ Q (.str (i ++ j)) H) := by
  intro pins s σ H x y v u Q I rx ry h
  obtain ⟨i, j, rfl, rfl, hz, q⟩ := h
  obtain ⟨t, rfl⟩ := rx
  obtain ⟨t', rfl⟩ := ry
  exact add_str (fun t' tk => ⟨.str (i ++ j), H, I.tok _, ⟨_, rfl⟩, q⟩) hz
theorem vals1 {x : V} {us : List Value} (r : Vals [x] us) : ∃ u, us = [u] ∧ RelV x u := by
  cases r with
  | cons r1 r2 => cases r2; exact ⟨_, rfl, r1⟩
theorem call_int1 : CallR X (.type "int") (fun xs H Q => (∃ i, xs = [.int i] ∧ Q (.int i) H) ∨ ∃ k, xs = [.bl k] ∧ Q (.int (if k then 1 else 0)) H) := by
  intro pins s σ H xs us Q I r h
  rcases h with ⟨i, rfl, q⟩ | ⟨k, rfl, q⟩
  · obtain ⟨u, rfl, t, rfl⟩ := vals1 r
    exact call_int_int ⟨.int i, H, I, ⟨_, rfl⟩, q⟩
  · obtain ⟨u, rfl, r1⟩ := vals1 r
    cases r1
    exact call_int_bool ⟨.int (if k then 1 else 0), H, I.tok _, ⟨_, rfl⟩, q⟩
theorem call_str_int : CallR X (.type "str") (fun xs H Q => ∃ i, xs = [.int i] ∧ i.natAbs.log2 < 1920 ∧ Q (.str (toString i)) H) := by
  intro pins s σ H xs us Q I r h
  obtain ⟨i, rfl, hz, q⟩ := h
  obtain ⟨u, rfl, t, rfl⟩ := vals1 r
  exact PySem.P.str_of_int hz ⟨.str _, H, I.tok _, ⟨_, rfl⟩, q⟩
end
end L2

namespace L2
open PySem PySem.Spec PyProof.Rows

structure ObjM (h : Heap) (x dx C : Addr) (mA : Str → Option Value) : Prop where
  obj : h.get? x = some (PySem.W.instObj C dx)
  ns : h.Ns1 dx mA
  ne : dx ≠ x

theorem lookIn_ns {h : Heap} {dx : Addr} {mA : Str → Option Value} (n : h.Ns1 dx mA) : ∃ od, h.get? dx = some od ∧ ∀ name, PySem.W.lookIn name od = some (mA name) := by
  obtain ⟨o, es, ep, ho, hd, hk, _, hm⟩ := n
  refine ⟨o, ho, fun name => ?_⟩
  have e := hm name
  unfold nsFind findBy at e
  rw [← Array.find?_toList] at e
  unfold PySem.W.lookIn
  rw [hd]
  dsimp only
  split
  · rename_i y q
    rw [q] at e
    exact congrArg some e
  · rename_i q
    rw [q] at e
    have a : es.toList.any (·.refKey) = false := by
      rw [List.any_eq_false]
      intro y hy
      obtain ⟨z, t, hkey⟩ := hk y (Array.mem_toList_iff.mp hy)
      simp [DictEntry.refKey, hkey]
    have a' : ¬ es.toList.any (·.refKey) = true := by rw [a]; exact Bool.false_ne_true
    rw [if_neg a']
    exact congrArg some e

theorem ObjM.look {h : Heap} {x dx C : Addr} {mA : Str → Option Value} (I : ObjM h x dx C mA) : ∃ od, PySem.W.InstAt h x (PySem.W.instObj C dx) C (some od) ∧ ∀ name, PySem.W.lookIn name od = some (mA name) :=
  let ⟨od, ho, hl⟩ := lookIn_ns I.ns
  ⟨od, ⟨I.obj, rfl, rfl, ho⟩, hl⟩

section
variable {prog : Program} {w : World} {A : Around} {E : Value → Shared → Prop} {s : Shared} {K : PySem.W.Frag} {x dx C f : Addr} {mA : Str → Option Value} {name : Str} {v : Value}

end

section
variable {P : Program} {w : World} {H H' : Hp} {h h' : Heap} {a C dx : Addr} {fs fs' : List (Str × V)}
theorem ins_get (hok : HOk P w H h) (e : H a = some (.ins C dx fs)) : ∃ mA, ObjM h a dx C mA ∧ (∀ f, RelO (fs.lookup f) (mA f)) ∧ PySem.Within mA (fs.map (·.1)) ∧ fs.length ≤ 1000 ∧ H dx = some (.own a) := by
  obtain ⟨d, z, ne, ob, mA, n, r, q⟩ := (show ObjOk P w H h a (.ins C dx fs) from hok a _ e)
  exact ⟨mA, ⟨ob, n, ne⟩, r, q, z, d⟩
end

structure Cls (K : PySem.W.Frag) (C : Addr) : Prop where
  pg : PySem.W.plainGet K C Str.empty = true
  hd : PySem.W.hasDictIn K C = true
  po : PySem.W.plainOver K C = true
  sa : PySem.W.findIn K (.ref C) "__setattr__" = some (some (.builtin "object.__setattr__"))
theorem Cls.get {K : PySem.W.Frag} {C : Addr} (c : Cls K C) (f : Str) : PySem.W.plainGet K C f = true := c.pg
/-- a constant of the class -/
structure Con (K : PySem.W.Frag) (C : Addr) (f : Str) (v : V) (u : Value) : Prop where
  at_ : PySem.W.findIn K (.ref C) f = some (some u)
  rel : RelV v u
  get : PySem.W.specialIn K u "__get__" = some none
  cp : PySem.W.copiedNames.contains f = false
/-- a method: a plain def of the class or of one above it -/
structure Meth (K : PySem.W.Frag) (C : Addr) (m : Str) (f : Addr) : Prop where
  at_ : PySem.W.findIn K (.ref C) m = some (some (.ref f))
  fn : PySem.W.isFn K (.ref f) = true
  kp : PySem.W.keepIn K (.ref f) = true

section
variable {X : Cx} {pins : List (Addr × Obj)} {σ : St} {H : Hp} {s : Shared} {a C dx : Addr} {fs : List (Str × V)} {f : Str} {v : V} {A : Around} {E : Value → Shared → Prop}

/-- a new instance, tracked, without attributes -/
theorem Inv.made (I : Inv X pins σ H s) : Inv X pins σ (upd (upd H s.heap.objs.size (.own (s.heap.objs.size + 1))) (s.heap.objs.size + 1) (.ins C s.heap.objs.size []))
    { s with heap := (s.heap.push PySem.W.emptyDict).push (PySem.W.instObj C s.heap.objs.size) } := by
  have e1 : (s.heap.push PySem.W.emptyDict).get? s.heap.objs.size = some PySem.W.emptyDict := Heap.get?_push_size s.heap rfl
  have e2 : ((s.heap.push PySem.W.emptyDict).push (PySem.W.instObj C s.heap.objs.size)).get? (s.heap.objs.size + 1) = some (PySem.W.instObj C s.heap.objs.size) := by
    have := Heap.get?_push_size (s.heap.push PySem.W.emptyDict) (o := PySem.W.instObj C s.heap.objs.size) rfl
    rwa [Heap.size_push] at this
  have e3 : (s.heap.push PySem.W.emptyDict).Ns s.heap.objs.size (fun _ => none) := ⟨PySem.W.emptyDict, #[], _, e1, rfl, (fun e he => absurd he (by simp)), fun _ => rfl⟩
  have I1 := I.laid (a := s.heap.objs.size) (o := .own (s.heap.objs.size + 1)) (h' := s.heap.push PySem.W.emptyDict) (t' := s.toks) (fun b u q => Heap.get?_push_of_some _ q) (Nat.le_refl _) ⟨_, e1⟩
  refine I1.laid (a := s.heap.objs.size + 1) (o := .ins C s.heap.objs.size []) (t' := s.toks) (fun b u q => Heap.get?_push_of_some _ q) (Nat.le_of_eq (Heap.size_push _ _)) ?_
  have ne : s.heap.objs.size ≠ s.heap.objs.size + 1 := Nat.ne_of_lt (Nat.lt_succ_self _)
  refine ⟨by rw [upd_ne ne, upd_same], Nat.zero_le _, ne, e2, fun _ => none, (Heap.Ns1.of_empty e3).at fun o q => Heap.get?_push_of_some _ q, fun _ => True.intro, fun y hy => absurd rfl hy⟩

end

section
variable {X : Cx} {o e value : Expr} {f : Str} {pos pos' tpos : Pos} {ta tv : TE}
end

section
variable {X : Cx} {pins : List (Addr × Obj)} {σ : St} {H : Hp} {s : Shared} {A : Around} {E : Value → Shared → Prop} {Q : Value → Shared → Prop} {c : Value} {b : Bool}
/-- the type of a value, as the fragment's deciders take it; for an instance its class -/
inductive TyOf (K : PySem.W.Frag) (H : Hp) : V → Value → Prop where
  | non : TyOf K H .non (.type "NoneType")
  | bl (x : Bool) : TyOf K H (.bl x) (.type "bool")
  | int (i : Int) : TyOf K H (.int i) (.type "int")
  | str (x : Str) : TyOf K H (.str x) (.type "str")
  | flt (x : UInt64) : TyOf K H (.flt x) (.type "float")
  | lst {a : Addr} {xs : List V} (e : H a = some (.lst xs)) : TyOf K H (.ref a) (.type "list")
  | frz {a : Addr} {o : Obj} {xs : List V} (e : H a = some (.frz o (.lst xs))) : TyOf K H (.ref a) (.type "list")
  | tup {a : Addr} {xs : List V} (e : H a = some (.tup xs)) : TyOf K H (.ref a) (.type "tuple")
  | dK {a : Addr} {kvs : List (Key × V)} (e : H a = some (.dK kvs)) : TyOf K H (.ref a) (.type "dict")
  | dT {a : Addr} {kvs : List (List Key × V)} (e : H a = some (.dT kvs)) : TyOf K H (.ref a) (.type "dict")
  | ins {a C dx : Addr} {fs : List (Str × V)} (e : H a = some (.ins C dx fs)) (cl : Cls K C) (ha : PySem.W.findIn K (.ref C) "__class__" = some (some (.builtin "object.__class__")))
      (hn : PySem.W.specialIn K (.builtin "object.__class__") "__get__" = some (some (.builtin "getset_descriptor.__get__"))) (htk : PySem.W.takesIn K (.builtin "object.__class__") = some true)
      (hm : PySem.W.mroIn K C (.type "object") = some true) : TyOf K H (.ref a) (.ref C)
/-- isinstance(x, c) for one class c, a built-in or an own one: kitOne's answer -/
theorem isinst_ok {x : V} {u t : Value} (I : Inv X pins σ H s) (rx : RelV x u) (ty : TyOf X.K H x t) (e : PySem.W.kitOne X.K t c = some b) (h : ∀ tk, Q (.bool b) { s with toks := tk }) :
    wpAny (model X.prog X.w) A (call (.builtin "isinstance") [u, c]) Q E s := by
  cases ty with
  | non => cases (show u = Value.none from rx); exact PySem.W.kia_one PySem.W.kitx_none I.kIn True.intro e (fun z => nomatch z) h
  | bl y => cases (show u = Value.bool y from rx); exact PySem.W.kia_one PySem.W.kitx_bool I.kIn True.intro e (fun z => nomatch z) h
  | int i => obtain ⟨t, q⟩ := (show ∃ t, u = Value.int i t from rx); cases q; exact PySem.W.kia_one PySem.W.kitx_int I.kIn True.intro e (fun z => nomatch z) h
  | str y => obtain ⟨t, q⟩ := (show ∃ t, u = Value.str y t from rx); cases q; exact PySem.W.kia_one PySem.W.kitx_str I.kIn True.intro e (fun z => nomatch z) h
  | flt y => obtain ⟨t, q⟩ := (show ∃ t, u = Value.float y t from rx); cases q; exact PySem.W.kia_one PySem.W.kitx_float I.kIn True.intro e (fun z => nomatch z) h
  | @lst a xs ea =>
    cases (show u = Value.ref a from rx)
    obtain ⟨_, _, n, _, h1⟩ := (show ObjOk X.prog X.w H s.heap a (.lst xs) from I.hok a _ ea)
    exact PySem.W.kia_one PySem.W.kitx_list I.kIn ⟨_, h1, rfl⟩ e (fun z => nomatch z) h
  | @frz a ob xs ea =>
    cases (show u = Value.ref a from rx)
    obtain ⟨_, _, _, n, _, h1⟩ := (show ObjOk X.prog X.w H s.heap a (.frz ob (.lst xs)) from I.hok a _ ea)
    exact PySem.W.kia_one PySem.W.kitx_list I.kIn ⟨_, h1, rfl⟩ e (fun z => nomatch z) h
  | @tup a xs ea =>
    cases (show u = Value.ref a from rx)
    obtain ⟨_, _, _, p⟩ := (show ObjOk X.prog X.w H s.heap a (.tup xs) from I.hok a _ ea)
    obtain ⟨o, h1, h2, _⟩ := p
    exact PySem.W.kia_one PySem.W.kitx_tuple I.kIn ⟨o, h1, h2⟩ e (fun z => nomatch z) h
  | @dK a kvs ea =>
    cases (show u = Value.ref a from rx)
    obtain ⟨_, _, vs, _, p⟩ := (show ObjOk X.prog X.w H s.heap a (.dK kvs) from I.hok a _ ea)
    obtain ⟨o, es, ep, h1, h2, _⟩ := p
    exact PySem.W.kia_one PySem.W.kitx_dict I.kIn ⟨o, h1, h2.1⟩ e (fun z => nomatch z) h
  | @dT a kvs ea =>
    cases (show u = Value.ref a from rx)
    obtain ⟨_, _, xs, _, o, es, ep, h1, h2, _⟩ := (show ObjOk X.prog X.w H s.heap a (.dT kvs) from I.hok a _ ea)
    exact PySem.W.kia_one PySem.W.kitx_dict I.kIn ⟨o, h1, h2.1⟩ e (fun z => nomatch z) h
  | @ins a C dx fs ea cl ha hn htk hm =>
    cases (show u = Value.ref a from rx)
    obtain ⟨mA, O, _⟩ := ins_get I.hok ea
    obtain ⟨od, J, _⟩ := O.look
    exact PySem.W.kia_one (PySem.W.kitx_own (cl.get _) cl.hd ha hn htk hm) I.kIn J e (fun z => nomatch z) h
end
end L2

namespace L2
open PySem PySem.Spec PyProof.Rows

structure Room (k : Nat) (A : Around) : Prop where
  hd : A.handled = none
  dp : A.depth + 3 * k + 5 < recursionLimit
  un : A.units + 16 * k + 200 < cLine
  gd : A.guards = some []
theorem Room.mono {j k : Nat} {A : Around} (r : Room k A) (h : j ≤ k) : Room j A := ⟨r.hd, by have := r.dp; omega, by have := r.un; omega, r.gd⟩
theorem Room.deeper {k : Nat} {A : Around} (r : Room (k + 1) A) (env : Env) : Room k (A.deeper env) :=
  ⟨r.hd, by have := r.dp; show A.depth + 1 + 3 * k + 5 < _; omega, by have := r.un; show A.units + 3 + 16 * k + 200 < _; omega, r.gd⟩
theorem Room.in1 {k : Nat} {A : Around} (r : Room (k + 1) A) : Room k A.in1 :=
  ⟨r.hd, by have := r.dp; show A.depth + 3 * k + 5 < _; omega, by have := r.un; show A.units + 1 + 16 * k + 200 < _; omega, r.gd⟩
theorem make_depth {A : Around} {C : Addr} {us : List Value} {kw : List (Str × Value)} : (A.under (.builtin "type.__call__" ⟨.ref C :: us, kw⟩)).depth = A.depth + 1 := by
  first | rfl | simp [Around.under, Code.weight, Code.isCreation, Code.isGuard, Code.isCaller, Code.frames, Code.isFrame, guardIds]
theorem make_units {A : Around} {C : Addr} {us : List Value} {kw : List (Str × Value)} : (A.under (.builtin "type.__call__" ⟨.ref C :: us, kw⟩)).units = A.units + 1 := by
  first | rfl | simp [Around.under, Code.cUnits, Code.frames, Code.isFrame]
theorem Room.make {k : Nat} {A : Around} (r : Room (k + 1) A) (C : Addr) (us : List Value) (kw : List (Str × Value)) : Room k (A.under (.builtin "type.__call__" ⟨.ref C :: us, kw⟩)) :=
  ⟨r.hd, by have := r.dp; rw [make_depth]; omega, by have := r.un; rw [make_units]; omega, (by first | exact r.gd | simpa [Around.under, Code.isGuard, guardIds] using r.gd)⟩
theorem Room.depth {k : Nat} {A : Around} (r : Room k A) : A.depth < recursionLimit := by have := r.dp; omega
theorem Room.units {k : Nat} {A : Around} (r : Room k A) : A.units + 64 < cLine := by have := r.un; omega
def tNil : TA := fun _ H Q => Q [] H
def tCons (ta : TE) (tr : TA) : TA := fun σ H Q => ta σ H fun x H1 => tr σ H1 fun xs H2 => Q (x :: xs) H2
section
variable {X : Cx} {e : Expr} {es : List Expr} {te : TE} {t : TA} {pos : Pos}
theorem pa_nil : PA X [] tNil := fun _ _ _ _ H Q I h => Calls.spliced_nil ⟨[], H, I, .nil, h⟩
theorem pa_cons (ha : PE X e te) (hr : PA X es t) (hs : starEach (e :: es) X.env = (false, eval e X.env) :: starEach es X.env := by rfl) : PA X (e :: es) (tCons te t) := by
  intro pos pins s σ H Q I h
  rw [hs]
  show wpAny _ _ (spliced ((false, eval e X.env) :: backTo pos (starEach es X.env))) _ _ s
  refine Calls.spliced_cons (thn (ha pins s σ H _ I h) fun u s1 ⟨x, H1, I1, r1, q1⟩ => ?_)
  exact thn (hr pos pins s1 σ H1 _ I1 q1) fun us s2 ⟨xs, H2, I2, r2, q2⟩ => ⟨x :: xs, H2, I2, .cons r1 r2, q2⟩

/-- a tuple, a list of written items -/
def tTup (t : TA) : TE := fun σ H Q => t σ H fun xs H1 => xs.length ≤ sizeLine ∧ ∀ p, H1 p = none → Q (.ref p) (upd H1 p (.tup xs))
def tLst (t : TA) : TE := fun σ H Q => t σ H fun xs H1 => xs.length ≤ sizeLine ∧ ∀ p, H1 p = none → Q (.ref p) (upd H1 p (.lst xs))
theorem pe_tup {x1} (h : PA X es t) : PE X (.Tuple es x1 pos) (tTup t) := by
  intro pins s σ H Q I hq
  refine wpAny_Tuple_spliced (thn (h pos pins s σ H _ I hq) fun us s1 ⟨xs, H1, I1, r, z, q⟩ => ⟨by rw [← r.length]; exact z, ?_⟩)
  have hf : H1 s1.heap.objs.size = none := I1.hok.fresh (Nat.le_refl _)
  refine ⟨.ref s1.heap.objs.size, upd H1 s1.heap.objs.size (.tup xs), I1.laid (t' := s1.toks) (fun b u e => Heap.get?_push_of_some _ e) (Nat.le_refl _) ?_, rfl, q _ hf⟩
  exact ⟨z, us, r, ⟨_, Heap.get?_push_size _ rfl, rfl, _, rfl⟩⟩
theorem pe_lst (h : PA X es t) : PE X (.List es pos) (tLst t) := by
  intro pins s σ H Q I hq
  refine wpAny_List_spliced (thn (h pos pins s σ H _ I hq) fun us s1 ⟨xs, H1, I1, r, z, q⟩ => ⟨by rw [← r.length]; exact z, ?_⟩)
  have hf : H1 s1.heap.objs.size = none := I1.hok.fresh (Nat.le_refl _)
  refine ⟨.ref s1.heap.objs.size, upd H1 s1.heap.objs.size (.lst xs), I1.laid (t' := s1.toks) (fun b u e => Heap.get?_push_of_some _ e) (Nat.le_refl _) ?_, rfl, q _ hf⟩
  exact ⟨z, us, 0, r, Heap.get?_push_size _ rfl⟩
end

/-- a def's promise: the bound arguments in the parameters' order, the heap, the wanted end, the wanted exception -/
abbrev Sp := List V → Hp → VK → XK → Prop
/-- how an exception lies behind a call (file 08 gives it): the callers' frames, abstract heap and state ahead of the call, the wish, the exception, the state -/
abbrev CXT := List Env → Hp → Shared → XK → Value → Shared → Prop

/-- the state at a call -/
structure Env0 (P : Program) (w : World) (K : PySem.W.Frag) (mg : Str → Option Value) (base : Heap) (A : Around) (outer : List Env) (s : Shared) (H : Hp) : Prop where
  frames : A.frames = some outer
  mod : Mod K mg base
  bs : ∀ b o, base.get? b = some o → s.heap.get? b = some o ∧ H b = none
  bsz : base.objs.size ≤ s.heap.objs.size
  funs : s.heap.FunFrames base outer
  frf : ∀ b ∈ frs outer, H b = none
  hok : HOk P w H s.heap
  bare : AllBare s.gens
  tb : Tabs P K mg H
/-- a call's end -/
def CE (outer : List Env) (P : Program) (w : World) (H : Hp) (s : Shared) (Q : VK) (u : Value) (s' : Shared) : Prop :=
  ∃ v H', s'.os = s.os ∧ BareG s.gens s'.gens ∧ Un (frs outer) [] H H' s.heap s'.heap ∧ HOk P w H' s'.heap ∧ RelV v u ∧ Q v H'
def CR (CX : CXT) (outer : List Env) (P : Program) (w : World) (H : Hp) (s : Shared) (Q : VK) (E : XK) (r : Result) (s' : Shared) : Prop :=
  match r with
  | .ok (.ret u) => CE outer P w H s Q u s'
  | .ok _ => False
  | .error e => CX outer H s E e s'
structure FnOk (P : Program) (w : World) (K : PySem.W.Frag) (mg : Str → Option Value) (base : Heap) (CX : CXT) (k : Nat) (f : Addr) (fd : FuncData) (ps : List Str) (sp : Sp) : Prop where
  len : ∀ vs H Q E, sp vs H Q E → vs.length = ps.length
  run : ∀ (A : Around) (outer : List Env) (s : Shared) (H : Hp) (args : Args) (us : List Value) (vs : List V) (Q : VK) (E : XK), Room k A → Env0 P w K mg base A outer s H → BindsTo s fd args (ps.zip us) → Vals vs us → sp vs H Q E →
    codeAny (model P w) A (.call (.ref f) args) (CR CX outer P w H s Q E) s
theorem FnOk.mono {P : Program} {w : World} {K : PySem.W.Frag} {mg : Str → Option Value} {base : Heap} {CX : CXT} {j k : Nat} {f : Addr} {fd : FuncData} {ps : List Str} {sp : Sp} (F : FnOk P w K mg base CX j f fd ps sp) (h : j ≤ k) :
    FnOk P w K mg base CX k f fd ps sp := ⟨F.len, fun A outer s H args us vs Q E hr => F.run A outer s H args us vs Q E (hr.mono h)⟩
/-- a weaker promise -/
theorem FnOk.imp {P : Program} {w : World} {K : PySem.W.Frag} {mg : Str → Option Value} {base : Heap} {CX : CXT} {k : Nat} {f : Addr} {fd : FuncData} {ps : List Str} {sp sp' : Sp} (F : FnOk P w K mg base CX k f fd ps sp)
    (h : ∀ vs H Q E, sp' vs H Q E → sp vs H Q E) : FnOk P w K mg base CX k f fd ps sp' :=
  ⟨fun vs H Q E q => F.len vs H Q E (h _ _ _ _ q), fun A outer s H args us vs Q E hr he hb hv hs => F.run A outer s H args us vs Q E hr he hb hv (h _ _ _ _ hs)⟩

theorem Env0.make {P : Program} {w : World} {K : PySem.W.Frag} {mg : Str → Option Value} {base : Heap} {A : Around} {outer : List Env} {s : Shared} {H : Hp} (e : Env0 P w K mg base A outer s H) (C : Addr) (us : List Value) (kw : List (Str × Value)) :
    Env0 P w K mg base (A.under (.builtin "type.__call__" ⟨.ref C :: us, kw⟩)) outer s H := ⟨by first | exact e.frames | (simpa [Around.under, Code.envs, Code.isFrame, pushEnvs] using e.frames), e.mod, e.bs, e.bsz, e.funs, e.frf, e.hok, e.bare, e.tb⟩
theorem Env0.in1 {P : Program} {w : World} {K : PySem.W.Frag} {mg : Str → Option Value} {base : Heap} {A : Around} {outer : List Env} {s : Shared} {H : Hp} (e : Env0 P w K mg base A outer s H) :
    Env0 P w K mg base A.in1 outer s H := ⟨e.frames, e.mod, e.bs, e.bsz, e.funs, e.frf, e.hok, e.bare, e.tb⟩

section
variable {X : Cx} {pins : List (Addr × Obj)} {σ : St} {H : Hp} {s s' : Shared}
/-- from a body: what a callee wants -/
theorem Inv.env0 (I : Inv X pins σ H s) : Env0 X.prog X.w X.K X.mg X.base X.A X.stack s H :=
  ⟨I.ok.frames, I.ok.mod, I.bs, Nat.le_trans I.ok.bsz I.sz, I.stack, I.stkFree, I.hok, I.bare.1, I.ok.tb.un I.base⟩
/-- behind a call -/
theorem Inv.after {Q : VK} {u : Value} (I : Inv X pins σ H s) (h : CE X.stack X.prog X.w H s Q u s') : EP X pins σ Q u s' := by
  obtain ⟨v, H', os, bare, un, hok, r, q⟩ := h
  obtain ⟨hh, g, d, t, os'⟩ := s'
  obtain rfl : os' = s.os := os
  exact ⟨v, H', I.call (h' := hh) (g' := g) (d' := d) (t' := t) (ch := []) un hok bare (fun b z => absurd z (by simp)), r, q⟩
end

/-- f(..): the written arguments, then the defaults dvs; E: what is wanted of an exception -/
def tCall (sp : Sp) (dvs : List V) (E : XK) (t : TA) : TE := fun σ H Q => t σ H fun vs H1 => sp (vs ++ dvs) H1 Q E
/-- how the parameters are bound: us the positional arguments, kw the keywords' values by name, ds the defaults that fill up -/
def Binds (K : PySem.W.Frag) (fd : FuncData) (ps : List Str) (ds : List Value) : Prop :=
  ∀ (s : Shared) (us : List Value), K.In s.heap → (us ++ ds).length = ps.length → BindsTo s fd ⟨us, []⟩ (ps.zip (us ++ ds))
/-- every parameter is given -/
theorem Binds.all {K : PySem.W.Frag} {fd : FuncData} {ps : List Str} (h : ∀ us : List Value, us.length = ps.length → bindArgs fd ⟨us, []⟩ = pure (ps.zip us)) : Binds K fd ps [] := fun s us _ hl => by
  rw [List.append_nil] at hl ⊢
  exact .of_eq (h us hl)

/-- an exception of a callee reaches what this body wants of exceptions -/
def Passes (CX : CXT) (X : Cx) (E : XK) : Prop := ∀ (pins : List (Addr × Obj)) (σ : St) (H : Hp) (s : Shared) (e : Value) (s' : Shared), Inv X pins σ H s → CX X.stack H s E e s' → X.xe e s'

section
variable {X : Cx} {CX : CXT} {k : Nat} {f C : Addr} {fd : FuncData} {ps : List Str} {sp : Sp} {dvs : List V} {ds : List Value} {E : XK} {x m : Str} {p pos apos : Pos} {e o : Expr} {es : List Expr} {ta : TE} {t : TA}

/-- the callee runs -/
theorem run_fn {pins : List (Addr × Obj)} {σ : St} {H : Hp} {s : Shared} {Q : VK} {us : List Value} {vs : List V} (F : FnOk X.prog X.w X.K X.mg X.base CX k f fd ps sp) (hr : Room k X.A) (hb : Binds X.K fd ps ds) (hd : Vals dvs ds) (hx : Passes CX X E)
    (I : Inv X pins σ H s) (r : Vals vs us) (h : sp (vs ++ dvs) H Q E) : wpAny (model X.prog X.w) X.A (call (.ref f) us) (EP X pins σ Q) X.xe s := by
  have r2 : Vals (vs ++ dvs) (us ++ ds) := r.append hd
  have hl : (us ++ ds).length = ps.length := by rw [← r2.length]; exact F.len _ _ _ _ h
  refine wpAny_call (codeAny_mono (F.run X.A X.stack s H ⟨us, []⟩ (us ++ ds) (vs ++ dvs) Q E hr I.env0 (hb s us I.kIn hl) r2 h) fun r s' hq => ?_)
  cases r with
  | error e => exact hx pins σ H s e s' I hq
  | ok fl =>
    cases fl with
    | ret u => exact I.after hq
    | next => exact False.elim hq
    | brk => exact False.elim hq
    | cont => exact False.elim hq

theorem pe_call (F : FnOk X.prog X.w X.K X.mg X.base CX k f fd ps sp) (hr : Room k X.A) (hg : Gl X x) (hm : X.mg x = some (.ref f)) (hk : PySem.W.keepIn X.K (.ref f) = true) (hb : Binds X.K fd ps ds) (hd : Vals dvs ds) (hx : Passes CX X E)
    (ha : PA X (e :: es) t) (hdb : (x == ("__debug__" : Str)) = false := by decide) (he : starEach (e :: es) X.env = (false, eval e X.env) :: starEach es X.env := by rfl) (hpl : (backTo pos (starEach es X.env)).any (·.1) = false := by rfl) :
    PE X (.Call (.Name x p) (e :: es) [] pos) (tCall sp dvs E t) := by
  intro pins s σ H Q I h
  refine wpAny_Call_Name_kw (ld_glob I hg hm ?_ hdb)
  refine PySem.W.callWith_K (h₀ := X.base) I.ok.mod.kin hk (thn (ha pos pins s σ H _ I h) fun us s1 ⟨vs, H1, I1, r, q⟩ => ⟨I1.kIn, ?_⟩) he hpl
  exact run_fn F hr hb hd hx I1 r q
/-- what a class must have to be made -/
structure Mk (K : PySem.W.Frag) (C f : Addr) : Prop where
  makes : PySem.W.makesIn K C = true
  init : PySem.W.findIn K (.ref C) "__init__" = some (some (.ref f))
  fn : PySem.W.isFn K (.ref f) = true
  kp : PySem.W.keepIn K (.ref C) = true

end

section
variable {X : Cx} {CX : CXT} {k : Nat} {f C : Addr} {fd : FuncData} {ps ks : List Str} {sp : Sp} {E : XK} {x m : Str} {p pos apos kpos : Pos} {e o : Expr} {es : List Expr} {kws : List Keyword} {te ta : TE} {t tk : TA} {nm : Option Str}
/-- how a call with keywords binds: g puts the positional values us and the keywords' values ws (names ks) in the parameters' order, defaults among them -/
structure KBinds (K : PySem.W.Frag) (fd : FuncData) (ps ks : List Str) (g : List Value → List Value → List Value) (gV : List V → List V → List V) : Prop where
  to : ∀ (s : Shared) (us ws : List Value), K.In s.heap → (g us ws).length = ps.length → BindsTo s fd ⟨us, ks.zip ws⟩ (ps.zip (g us ws))
  rel : ∀ {vs : List V} {us : List Value} {zs : List V} {ws : List Value}, Vals vs us → Vals zs ws → Vals (gV vs zs) (g us ws)
variable {g : List Value → List Value → List Value} {gV : List V → List V → List V}
end

/-- names: the parameters first -/
structure FnScope (N P : List Str) (sc : Scope) : Prop where
  kind : sc.kind = .function
  co : sc.isCoroutine = false
  gen : sc.isGenerator = false
  nd : N.Nodup
  pre : N.take P.length = P
  par : ∀ x ∈ P, sc.names.lookup x = some .local ∨ sc.names.lookup x = some .cell
  nofree : ∀ y ∈ sc.names, y.2 ≠ .free

theorem bindL_out {kindOf : Str → Option NameKind} {x : Str} : ∀ {binds : List (Str × Value)} {m : Str → Option Value}, (∀ v, (x, v) ∉ binds) → bindL kindOf binds m x = m x
  | [], _, _ => rfl
  | (n, v) :: r, m, h => by
    unfold bindL
    rw [bindL_out fun w hw => h w (List.mem_cons_of_mem _ hw)]
    split
    · have : x ≠ n := by rintro rfl; exact h v List.mem_cons_self
      simp [this]
    · rfl
theorem bindC_out {kindOf : Str → Option NameKind} {x : Str} : ∀ {binds : List (Str × Value)} {m : Str → Option Value}, (∀ v, (x, v) ∉ binds) → bindC kindOf binds m x = m x
  | [], _, _ => rfl
  | (n, v) :: r, m, h => by
    unfold bindC
    rw [bindC_out fun w hw => h w (List.mem_cons_of_mem _ hw)]
    split
    · rfl
    · have : x ≠ n := by rintro rfl; exact h v List.mem_cons_self
      simp [this]
theorem bindL_get {kindOf : Str → Option NameKind} {x : Str} {v : Value} : ∀ {P : List Str} {vs : List Value} {i : Nat} {m : Str → Option Value}, P.Nodup → P[i]? = some x → vs[i]? = some v → kindOf x = some .local →
    bindL kindOf (P.zip vs) m x = some v
  | [], _, _, _, _, h, _, _ => by simp at h
  | _ :: _, [], _, _, _, _, h, _ => by simp at h
  | p :: P, w :: vs, 0, m, nd, h1, h2, hk => by
    simp at h1 h2; subst h1; subst h2
    show bindL kindOf ((p, w) :: P.zip vs) m p = _
    unfold bindL
    rw [bindL_out fun v hv => (List.nodup_cons.mp nd).1 (List.of_mem_zip hv).1, if_pos hk]
    simp
  | p :: P, w :: vs, i + 1, m, nd, h1, h2, hk => by
    show bindL kindOf ((p, w) :: P.zip vs) m x = _
    unfold bindL
    exact bindL_get (i := i) (List.nodup_cons.mp nd).2 (by simpa using h1) (by simpa using h2) hk
theorem bindC_get {kindOf : Str → Option NameKind} {x : Str} {v : Value} : ∀ {P : List Str} {vs : List Value} {i : Nat} {m : Str → Option Value}, P.Nodup → P[i]? = some x → vs[i]? = some v → kindOf x ≠ some .local →
    bindC kindOf (P.zip vs) m x = some v
  | [], _, _, _, _, h, _, _ => by simp at h
  | _ :: _, [], _, _, _, _, h, _ => by simp at h
  | p :: P, w :: vs, 0, m, nd, h1, h2, hk => by
    simp at h1 h2; subst h1; subst h2
    show bindC kindOf ((p, w) :: P.zip vs) m p = _
    unfold bindC
    rw [bindC_out fun v hv => (List.nodup_cons.mp nd).1 (List.of_mem_zip hv).1, if_neg hk]
    simp
  | p :: P, w :: vs, i + 1, m, nd, h1, h2, hk => by
    show bindC kindOf ((p, w) :: P.zip vs) m x = _
    unfold bindC
    exact bindC_get (i := i) (List.nodup_cons.mp nd).2 (by simpa using h1) (by simpa using h2) hk

/-- the names' values at the entry -/
def start (N : List Str) (vs : List V) : St := vs.map some ++ List.replicate (N.length - vs.length) none

/-- the context of a def's body, at its entry; an exception leaves the frame, then lies as CX says -/
def cxOf (CX : CXT) (P : Program) (w : World) (K : PySem.W.Frag) (mg : Str → Option Value) (base : Heap) (N : List Str) (qual : Str) (scope : Scope) (f : Addr) (cd : Value) (A : Around) (outer : List Env) (s : Shared) (H : Hp) (E : XK) : Cx where
  prog := P
  w := w
  K := K
  mg := mg
  base := base
  A := A.deeper (envOfC qual scope s.heap.objs.size f cd)
  N := N
  s_0 := s
  H_0 := H
  env := envOfC qual scope s.heap.objs.size f cd
  outer := outer
  stack := envOfC qual scope s.heap.objs.size f cd :: outer
  ex := []
  calm := true
  fn := fun _ => true
  pn := []
  xe := fun e s' => wpAny (model P w) (A.deeper (envOfC qual scope s.heap.objs.size f cd)) (leaving (envOfC qual scope s.heap.objs.size f cd) e) (fun _ s'' => CX outer H s E e s'') (fun e' s'' => CX outer H s E e' s'') s'

theorem cell_has {sc : Scope} {n : Nat} {x : Str} (h : sc.names.lookup x = some .cell) : ∃ c, (cellsFrom n sc.names []).lookup x = some c := by
  have q := PySem.W.cellsFrom_some sc.names n [] (.inl h)
  exact Option.isSome_iff_exists.mp q

theorem inv_start {CX : CXT} {P : Program} {w : World} {K : PySem.W.Frag} {mg : Str → Option Value} {base : Heap} {N ps : List Str} {qual : Str} {scope : Scope} {f : Addr} {cd : Value} {A : Around} {outer : List Env} {s s1 : Shared} {H : Hp} {E : XK} {us : List Value} {vs : List V}
    (S : FnScope N ps scope) (hd : A.handled = none) (e0 : Env0 P w K mg base A outer s H) (hl : vs.length = ps.length) (r : Vals vs us)
    (x : InCallC s s.heap.objs.size (bindL (envOfC qual scope s.heap.objs.size f cd).kindOf (ps.zip us) fun _ => none) (cellsFrom (s.heap.objs.size + 1) scope.names []) (bindC (envOfC qual scope s.heap.objs.size f cd).kindOf (ps.zip us) fun _ => none) s1) :
    Inv (cxOf CX P w K mg base N qual scope f cd A outer s H E) [] (start N vs) H s1 := by
  have hpl : ps.length ≤ N.length := by have := congrArg List.length S.pre; rw [List.length_take] at this; omega
  obtain ⟨h1, tk, rfl, hk⟩ := x.done
  have noA : ∀ b : Addr, b ∉ (cxOf CX P w K mg base N qual scope f cd A outer s H E).ex := fun b z => absurd (show b ∈ ([] : List Addr) from z) (by simp)
  refine ⟨⟨e0.mod, S.kind, rfl, rfl, Nat.le_refl _, fun y z c h1 h2 => ?_, fun y hy => ?_, fun y c _ h => ?_, fun _ => hd, Around.frames_deeper e0.frames, .inr ⟨rfl, rfl⟩, fun b z => absurd z (noA b), e0.bs, e0.bsz, fun b _ _ => noA b, fun b z => absurd z (noA b), e0.funs, e0.frf, e0.tb⟩,
    rfl, ⟨e0.bare, Nat.le_refl _⟩, Un.kept hk, ⟨_, x.toInCall.ns, fun i y v h1 h2 h3 => ?_⟩, fun y c h => ⟨_, x.cell y c h⟩, e0.hok.fresh (Nat.le_refl _), fun y c h => ?_, fun p hp => absurd (show p ∈ ([] : List (Addr × Obj)) from hp) (by simp), e0.hok.kept hk, ?_⟩
  · exact name_of_addr x.apart (PySem.mem_of_lookup h1) (PySem.mem_of_lookup h2)
  · have hy : scope.names.lookup y = some .cell ∨ scope.names.lookup y = some .free := hy
    rcases hy with hy | hy
    · exact cell_has hy
    · exact absurd rfl (S.nofree _ (PySem.mem_of_lookup hy))
  · exact Nat.le_of_lt (x.above y c (PySem.mem_of_lookup h))
  · have hi : i < vs.length := by
      unfold start at h2
      by_cases hi : i < vs.length
      · exact hi
      · rw [List.getElem?_append_right (by simpa using hi)] at h2
        rw [List.getElem?_replicate] at h2
        split at h2 <;> cases h2
    have ha : vs[i]? = some v := by
      unfold start at h2
      rw [List.getElem?_append_left (by simpa using hi), List.getElem?_map] at h2
      cases e : vs[i]? with
      | none => rw [e] at h2; cases h2
      | some a => rw [e] at h2; cases h2; rfl
    obtain ⟨u, hu, rv⟩ := r.get ha
    have hp : ps[i]? = some y := by
      rw [← S.pre, List.getElem?_take_of_lt (by omega)]; exact h1
    have ndP : ps.Nodup := by rw [← S.pre]; exact S.nd.sublist (List.take_sublist _ _)
    refine ⟨u, rv, ?_⟩
    rcases S.par y (List.mem_of_getElem? hp) with k | k
    · exact .inl ⟨k, bindL_get ndP hp hu k⟩
    · obtain ⟨c, e⟩ := cell_has (n := s.heap.objs.size + 1) k
      refine .inr ⟨.inl k, c, e, ?_⟩
      have q := x.cell y c e
      rw [bindC_get ndP hp hu (by show scope.names.lookup y ≠ _; rw [k]; decide)] at q
      exact q
  · exact e0.hok.fresh (Nat.le_of_lt (x.above y c (PySem.mem_of_lookup h)))
  · unfold start
    show _ = N.length
    rw [List.length_append, List.length_map, List.length_replicate]
    omega

/-- THE RULE: a def (or a method) of the text, by its body. The body's reading t is chosen for each entry; it is run at the parameters' values -/
theorem fn_of {CX : CXT} {P : Program} {w : World} {K : PySem.W.Frag} {mg : Str → Option Value} {base : Heap} {k : Nat} {f : Addr} {name qual : Str} {params : Arguments} {body : List Stmt} {scope : Scope} {dV kV doc pm cdv ct oc : Value} {an od : Option Addr}
    {osl : Array (Option Value)} {N ps : List Str} {sp : Sp} (lk : K.lookup f = some ⟨oc, od, .func (PySem.W.fnOf name qual params body scope dV kV doc pm an cdv ct), osl⟩) (hcd : PySem.W.codeIn K cdv qual = true) (S : FnScope N ps scope)
    (len : ∀ vs H Q E, sp vs H Q E → vs.length = ps.length)
    (hbody : ∀ (A : Around) (outer : List Env) (s : Shared) (H : Hp) (vs : List V) (Q : VK) (E : XK), Room k (A.deeper (envOfC qual scope s.heap.objs.size f cdv)) → sp vs H Q E →
      ∃ t, PSs (cxOf CX P w K mg base N qual scope f cdv A outer s H E) body t ∧ t { nx := fun _ H' => Q .non H', rt := Q } (start N vs) H) :
    FnOk P w K mg base CX (k + 1) f (PySem.W.fnOf name qual params body scope dV kV doc pm an cdv ct) ps sp := by
  refine ⟨len, fun A outer s H args us vs Q E hr e0 hb r hsp => ?_⟩
  have hl := len _ _ _ _ hsp
  have KX : K.In s.heap := e0.mod.kin.keeps fun b o e => (e0.bs b o e).1
  have lim : s.heap.NoLimit := e0.mod.nolimit.keeps fun b o e => (e0.bs b o e).1
  have hkind : ∀ y ∈ ps.zip us, scope.names.lookup y.1 = some .local ∨ (scope.names.lookup y.1 = some .cell ∧ ((cellsFrom (s.heap.objs.size + 1) scope.names []).lookup y.1).isSome = true) := fun ⟨n, v⟩ hy => by
    rcases S.par n (List.of_mem_zip hy).1 with q | q
    · exact .inl q
    · exact .inr ⟨q, PySem.W.cellsFrom_some _ _ _ (.inl q)⟩
  refine codeAny_call_function hr.depth (KX _ _ lk) rfl S.co S.gen rfl (PySem.W.codeRec_of KX hcd) (hb _ _ _ _ ?_)
  refine wpAny_newFunctionEnv_cells S.kind hkind fun env he s1 x => ?_
  subst he
  refine ⟨lim.keeps x.toInCall.keep, codeAny_func ?_⟩
  obtain ⟨t, ht, hq⟩ := hbody A outer s H vs Q E (hr.deeper _) hsp
  have I : Inv (cxOf CX P w K mg base N qual scope f cdv A outer s H E) [] (start N vs) H s1 := inv_start S hr.hd e0 hl r x
  refine wpAny_mono (ht [] s1 (start N vs) H _ I hq) (fun fl s' hs => ?_) fun e s' hs => hs
  have fin : ∀ {σ' : St} {H' : Hp} {v : V} {u : Value}, Inv (cxOf CX P w K mg base N qual scope f cdv A outer s H E) [] σ' H' s' → RelV v u → Q v H' → CE outer P w H s Q u s' :=
    fun {σ' H' v u} J rv q => ⟨v, H', J.os, J.bare, J.base, J.hok, rv, q⟩
  cases fl with
  | ret u =>
    obtain ⟨v, σ', H', J, rv, q⟩ := hs
    exact fin J rv q
  | next =>
    obtain ⟨σ', H', J, q⟩ := hs
    exact fin (v := V.non) (u := Value.none) J rfl q
  | brk =>
    obtain ⟨_, _, _, q⟩ := hs
    exact False.elim q
  | cont =>
    obtain ⟨_, _, _, q⟩ := hs
    exact False.elim q
end L2

namespace L2
open PySem PySem.Spec PyProof.Rows
section
variable {X : Cx} {x : Str} {p pos : Pos} {e : Expr} {es : List Expr} {t : TA} {id T : String} {r : List V → Hp → VK → Prop}

def tCB (r : List V → Hp → VK → Prop) (t : TA) : TE := fun σ H Q => t σ H fun vs H1 => r vs H1 Q
/-- f(e, ..), f a built-in function -/
theorem pe_callB (hc : CallR X (.builtin id) r) (hg : Gl X x) (hm : X.mg x = none) (hv : bootBuiltins x = some (.builtin id)) (ha : PA X (e :: es) t) (hn : x ≠ "__name__" := by decide) (hdb : (x == ("__debug__" : Str)) = false := by decide)
    (he : starEach (e :: es) X.env = (false, eval e X.env) :: starEach es X.env := by rfl) (hpl : (backTo pos (starEach es X.env)).any (·.1) = false := by rfl) : PE X (.Call (.Name x p) (e :: es) [] pos) (tCB r t) := by
  intro pins s σ H Q I h
  refine wpAny_Call_Name_kw (ld_blt I hg hm hv ?_ hn hdb)
  exact PyProof.Rows.callWith_builtin1 (thn (ha pos pins s σ H _ I h) fun us s1 ⟨vs, H1, I1, r1, q1⟩ => hc pins s1 σ H1 vs us Q I1 r1 q1) he hpl
/-- T(e, ..), T a built-in type -/
theorem pe_callTy (hc : CallR X (.type T) r) (hg : Gl X x) (hm : X.mg x = none) (hv : bootBuiltins x = some (.type T)) (ha : PA X (e :: es) t) (hn : x ≠ "__name__" := by decide) (hdb : (x == ("__debug__" : Str)) = false := by decide)
    (he : starEach (e :: es) X.env = (false, eval e X.env) :: starEach es X.env := by rfl) (hpl : (backTo pos (starEach es X.env)).any (·.1) = false := by rfl) : PE X (.Call (.Name x p) (e :: es) [] pos) (tCB r t) := by
  intro pins s σ H Q I h
  refine wpAny_Call_Name_kw (ld_blt I hg hm hv ?_ hn hdb)
  exact PyProof.Rows.callWith_type1 (thn (ha pos pins s σ H _ I h) fun us s1 ⟨vs, H1, I1, r1, q1⟩ => hc pins s1 σ H1 vs us Q I1 r1 q1) he hpl
end
end L2

namespace HT
open PySem PyProof.Rows

section
open PySem.SeqAt
open PySem.AutoSeq1 (wpAny_loadPart')
open PySem.MeetsSeq PySem.MeetsSeq2 PySem.MeetsSeq3

end

section
variable {prog : Program} {w : World} {A : Around} {E : Value → Shared → Prop} {s : Shared}

/-- a slice's bound as a place among n (d where it is left out) -/
def sIx (n d : Nat) : Option Int → Nat
  | none => d
  | some v => if v < 0 then (v + (n : Int)).toNat else min v.toNat n
theorem sIx_le (n d : Nat) (hd : d ≤ n) (o : Option Int) : sIx n d o ≤ n := by
  cases o with
  | none => exact hd
  | some v =>
    show (if v < 0 then (v + (n : Int)).toNat else min v.toNat n) ≤ n
    by_cases hv : v < 0
    · rw [if_pos hv]; omega
    · rw [if_neg hv]; exact Nat.min_le_right _ _
end
end HT

namespace L2
open PySem PySem.Spec PyProof.Rows

abbrev TO := St → Hp → (Option Int → Hp → Prop) → Prop
/-- a slice's part (left out, or an int) -/
def PO (X : Cx) (e : Option Expr) (t : TO) : Prop :=
  ∀ (pins : List (Addr × Obj)) (s : Shared) (σ : St) (H : Hp) (Q : Option Int → Hp → Prop), Inv X pins σ H s → t σ H Q →
    wpAny (model X.prog X.w) X.A (evalPart e X.env) (fun u s' => ∃ o H', Inv X pins σ H' s' ∧ IsPart u o ∧ Q o H') X.xe s
def tNoPart : TO := fun _ H Q => Q none H
def tPart (t : TE) : TO := fun σ H Q => t σ H fun x H1 => ∃ i, x = .int i ∧ Q (some i) H1

section
variable {X : Cx} {e : Expr} {te : TE} {lo hi : Option Expr} {tl th : TO} {pos p2 : Pos}

theorem po_none : PO X none tNoPart := by
  intro pins s σ H Q I h
  rw [evalPart_none]
  exact wpAny_pure ⟨none, H, I, .none, h⟩
theorem po_some (h : PE X e te) : PO X (some e) (tPart te) := by
  intro pins s σ H Q I hw
  rw [evalPart_some]
  refine thn (h pins s σ H _ I hw) fun u s1 ⟨x, H1, I1, r1, q1⟩ => ?_
  obtain ⟨i, rfl, q⟩ := q1
  obtain ⟨t, rfl⟩ := r1
  exact ⟨some i, H1, I1, .int i t, q⟩

/-- what a slice of a value is, by values: the slice object stands at sl -/
def SlR (X : Cx) (r : V → Option Int → Option Int → Hp → VK → Prop) : Prop :=
  ∀ (pins : List (Addr × Obj)) (s : Shared) (σ : St) (H : Hp) (x : V) (v vl vu : Value) (lo hi : Option Int) (sl : Addr) (Q : VK), Inv X pins σ H s → RelV x v → s.heap.IsSliceOf sl vl vu .none → IsPart vl lo → IsPart vu hi → r x lo hi H Q →
    ∃ T id, typeLookup (.type T) "__getitem__" = pure (some (.builtin id)) ∧ s.TypeIs v T ∧ wpAny (model X.prog X.w) X.A (getItem v (.ref sl)) (EP X pins σ Q) X.xe s
theorem SlR.or {r r' : V → Option Int → Option Int → Hp → VK → Prop} (h : SlR X r) (h' : SlR X r') : SlR X (fun x lo hi H Q => r x lo hi H Q ∨ r' x lo hi H Q) := by
  intro pins s σ H x v vl vu lo hi sl Q I rx hs pl pu q
  rcases q with q | q
  · exact h pins s σ H x v vl vu lo hi sl Q I rx hs pl pu q
  · exact h' pins s σ H x v vl vu lo hi sl Q I rx hs pl pu q
def tSl (r : V → Option Int → Option Int → Hp → VK → Prop) (te : TE) (tl th : TO) : TE := fun σ H Q => te σ H fun x H1 => tl σ H1 fun l H2 => th σ H2 fun u H3 => r x l u H3 Q
/-- a[lo:hi], any a -/
theorem pe_slice {r : V → Option Int → Option Int → Hp → VK → Prop} (hr : SlR X r) (he : PE X e te) (hl : PO X lo tl) (hu : PO X hi th) : PE X (.Subscript e (.Slice lo hi none p2) pos) (tSl r te tl th) := by
  intro pins s σ H Q I h
  refine Subscript_ (thn (he pins s σ H _ I h) fun v s1 ⟨x, H1, I1, r1, q1⟩ => ?_)
  refine wpAny_Slice (thn (hl pins s1 σ H1 _ I1 q1) fun vl s2 ⟨l, H2, I2, pl, q2⟩ => thn (hu pins s2 σ H2 _ I2 q2) fun vu s3 ⟨u, H3, I3, pu, q3⟩ => ?_)
  rw [evalPart_none]
  refine wpAny_pure ?_
  have I4 : Inv X pins σ H3 { s3 with heap := s3.heap.push { cls := .type "slice", data := .fields #[vl, vu, .none] } } := I3.kept (t' := s3.toks) fun b ob q => Heap.get?_push_of_some _ q
  obtain ⟨T, id, hT, ht, hg⟩ := hr pins { s3 with heap := s3.heap.push { cls := .type "slice", data := .fields #[vl, vu, .none] } } σ H3 x v vl vu l u s3.heap.objs.size Q I4 r1 (Heap.IsSliceOf.new ..) pl pu q3
  show wpAny (model X.prog X.w) X.A (subscriptTail e (.Slice lo hi none p2) v (.ref s3.heap.objs.size)) (EP X pins σ Q) X.xe { s3 with heap := s3.heap.push { cls := .type "slice", data := .fields #[vl, vu, .none] } }
  exact tail_any (ops := [.ref s3.heap.objs.size, v]) ht hT hg (by with_unfolding_all rfl)

/-- the items of xs[lo:hi] -/
def cutV (xs : List V) (lo hi : Option Int) : List V := (xs.drop (HT.sIx xs.length 0 lo)).take (HT.sIx xs.length xs.length hi - HT.sIx xs.length 0 lo)
theorem cutV_length (xs : List V) (lo hi : Option Int) : (cutV xs lo hi).length ≤ xs.length := by
  unfold cutV
  rw [List.length_take, List.length_drop]
  omega
end
end L2

namespace L2
open PySem PySem.Spec PyProof.Rows

/-- the place that an index of any sign means -/
def ixN (n : Nat) (i : Int) : Option Nat := if 0 ≤ i then (if i < n then some i.toNat else none) else if -(n : Int) ≤ i then some (i + n).toNat else none
def atI {α : Type} (xs : List α) (i : Int) : Option α := (ixN xs.length i).bind fun j => xs[j]?
theorem ixN_seq {n : Nat} {i : Int} {j : Nat} (h : ixN n i = some j) : seqIndex? i n = some j ∧ j < n ∧ -(n : Int) ≤ i ∧ i < n := by
  unfold ixN at h
  by_cases h0 : 0 ≤ i
  · rw [if_pos h0] at h
    by_cases h1 : i < n
    · rw [if_pos h1] at h
      have e : i.toNat = j := Option.some.inj h
      exact ⟨by rw [seqIndex_of h0 h1, e], by omega, by omega, h1⟩
    · rw [if_neg h1] at h; cases h
  · rw [if_neg h0] at h
    by_cases h1 : -(n : Int) ≤ i
    · rw [if_pos h1] at h
      have e : (i + n).toNat = j := Option.some.inj h
      exact ⟨by rw [seqIndex_neg (by omega) h1, e], by omega, h1, by omega⟩
    · rw [if_neg h1] at h; cases h
theorem atI_get {α : Type} {xs : List α} {i : Int} {v : α} (h : atI xs i = some v) : ∃ j, seqIndex? i xs.length = some j ∧ xs[j]? = some v ∧ j < xs.length ∧ -(xs.length : Int) ≤ i ∧ i < xs.length := by
  unfold atI at h
  cases e : ixN xs.length i with
  | none => rw [e] at h; cases h
  | some j =>
    rw [e] at h
    obtain ⟨h1, h2, h3, h4⟩ := ixN_seq e
    exact ⟨j, h1, h, h2, h3, h4⟩
theorem atI_nat {α : Type} {xs : List α} {j : Nat} {v : α} (h : xs[j]? = some v) : atI xs (j : Int) = some v := by
  have hj : j < xs.length := (List.getElem?_eq_some_iff.mp h).1
  have e : ixN xs.length (j : Int) = some j := by
    unfold ixN
    rw [if_pos (by omega), if_pos (by omega)]; simp
  unfold atI; rw [e]; exact h
/-- what stands as an index of a plain subscript -/
def PlainIx (b : Expr) : Prop := ∀ o i, subscripted b false o i = operate [o, i] (getItem o i)
/-- a subscript by values -/
def IxR (X : Cx) (r : R2) : Prop :=
  ∀ (value slice : Expr) (pins : List (Addr × Obj)) (s : Shared) (σ : St) (H : Hp) (x y : V) (v u : Value) (Q : VK), Inv X pins σ H s → RelV x v → RelV y u → r x y H Q →
    subscripted slice false v u = operate [v, u] (getItem v u) → wpAny (model X.prog X.w) X.A (subscriptTail value slice v u) (EP X pins σ Q) X.xe s
/-- a call of a builtin's method by values: the receiver, the arguments -/
def MtR (X : Cx) (id : String) (r : V → List V → Hp → VK → Prop) : Prop :=
  ∀ (pins : List (Addr × Obj)) (s : Shared) (σ : St) (H : Hp) (x : V) (xs : List V) (v : Value) (us : List Value) (Q : VK), Inv X pins σ H s → RelV x v → Vals xs us → r x xs H Q →
    wpAny (model X.prog X.w) X.A (call (.builtin id) (v :: us)) (EP X pins σ Q) X.xe s
section
variable {X : Cx} {a b : Expr} {ta tb : TE} {pos : Pos}
theorem IxR.or {r r' : R2} (h : IxR X r) (h' : IxR X r') : IxR X (fun x y H Q => r x y H Q ∨ r' x y H Q) := by
  intro value slice pins s σ H x y v u Q I rx ry q hs
  rcases q with q | q
  · exact h value slice pins s σ H x y v u Q I rx ry q hs
  · exact h' value slice pins s σ H x y v u Q I rx ry q hs
theorem MtR.or {id : String} {r r' : V → List V → Hp → VK → Prop} (h : MtR X id r) (h' : MtR X id r') : MtR X id (fun x xs H Q => r x xs H Q ∨ r' x xs H Q) := by
  intro pins s σ H x xs v us Q I rx rs q
  rcases q with q | q
  · exact h pins s σ H x xs v us Q I rx rs q
  · exact h' pins s σ H x xs v us Q I rx rs q
/-- a[b] -/
theorem pe_ix {r : R2} (hr : IxR X r) (ha : PE X a ta) (hb : PE X b tb) (hs : PlainIx b) : PE X (.Subscript a b pos) (tOp r ta tb) := by
  intro pins s σ H Q I h
  exact Subscript_ (binT ha hb I h fun v u s2 x y H2 I2 rx ry q => hr a b pins s2 σ H2 x y v u Q I2 rx ry q (hs _ _))

def rIxL (K : PySem.W.Frag) : R2 := fun x y H Q => ∃ p xs i v, x = .ref p ∧ y = .int i ∧ SqL K H p xs ∧ atI xs i = some v ∧ Q v H
def rIxS : R2 := fun x y H Q => ∃ z i c, x = .str z ∧ y = .int i ∧ z.length ≤ sizeLine ∧ atI z.cps.toList i = some c ∧ Q (.str ⟨#[c]⟩) H
theorem ix_list : IxR X (rIxL X.K) := by
  intro value slice pins s σ H x y v u Q I rx ry h hs
  obtain ⟨p, xs, i, z, rfl, rfl, hq, he, q⟩ := h
  cases rx
  obtain ⟨t, rfl⟩ := ry
  obtain ⟨its, r, pl, hz⟩ := I.list hq
  obtain ⟨j, h1, h2, h3, h4, h5⟩ := atI_get he
  obtain ⟨w, ew, rw'⟩ := r.get h2
  have hl := r.length
  have hn := line63
  have fin : EP X pins σ Q w s := ⟨z, H, I, rw', q⟩
  by_cases h0 : 0 ≤ i
  · have hj : i.toNat = j := by
      rw [seqIndex_of h0 h5] at h1
      exact Option.some.inj h1
    exact item_listR pl.isList h0 (by omega) (by rw [hj]; simpa using ew) fin hs
  · have hj : (i + (its.toArray.size : Int)).toNat = j := by
      rw [seqIndex_neg (by omega) h4] at h1
      rw [List.size_toArray, ← hl]
      exact Option.some.inj h1
    exact subscriptTail_builtinR (x := w) pl.isList.typeIs slot_list_getitem.lookup
      (wpAny_getItem_list_neg (Q := fun r s' => r = w ∧ EP X pins σ Q r s') pl.isList (by omega) (by rw [List.size_toArray] <;> omega) (by omega) (by rw [hj]; simpa using ew) ⟨rfl, fin⟩) hs
theorem ix_str : IxR X rIxS := by
  intro value slice pins s σ H x y v u Q I rx ry h hs
  obtain ⟨z, i, c, rfl, rfl, hz, he, q⟩ := h
  obtain ⟨t, rfl⟩ := rx
  obtain ⟨t', rfl⟩ := ry
  obtain ⟨j, h1, h2, h3, h4, h5⟩ := atI_get he
  have hl : z.cps.toList.length = z.length := by simp [Str.length]
  rw [hl] at h1 h4 h5
  have hn := line63
  exact tail_any (typeIs_str s z t) slot_str_getitem.lookup (getItem_str (c := c) (by
    have e1 : decide (i < -(2 ^ 63 : Int)) = false := decide_eq_false (by omega)
    have e2 : decide (i ≥ 2 ^ 63) = false := decide_eq_false (by omega)
    rw [e1, e2, Bool.or_false]) (by rw [h1]; simpa using h2) ⟨.str ⟨#[c]⟩, H, I.tok _, ⟨_, rfl⟩, q⟩) hs
/-- the list's object behind a store -/
theorem mapSeq_set (its : List Value) (n j : Nat) (u : Value) : Obj.mapSeq (·.setIfInBounds j u) { cls := .type "list", data := .seq its.toArray n } = { cls := .type "list", data := .seq (its.set j u).toArray n } := by
  simp [Obj.mapSeq]
theorem Inv.lst {pins : List (Addr × Obj)} {σ : St} {H : Hp} {s : Shared} {p : Addr} {xs : List V} (I : Inv X pins σ H s) (h : H p = some (.lst xs)) :
    ∃ (its : List Value) (n : Nat), Vals xs its ∧ s.heap.get? p = some { cls := .type "list", data := .seq its.toArray n } ∧ xs.length ≤ sizeLine := by
  obtain ⟨z, its, n, r, e⟩ := I.hok p _ h
  exact ⟨its, n, r, e, z⟩
/-- the list at p is written by an update of its object -/
theorem Inv.lstUpd {pins : List (Addr × Obj)} {σ : St} {H : Hp} {s : Shared} {p : Addr} {xs ys : List V} {its its' : List Value} {n n' : Nat} {f : Obj → Obj} (I : Inv X pins σ H s) (h : H p = some (.lst xs))
    (ho : s.heap.get? p = some { cls := .type "list", data := .seq its.toArray n }) (hf : f { cls := .type "list", data := .seq its.toArray n } = { cls := .type "list", data := .seq its'.toArray n' }) (r : Vals ys its') (hz : ys.length ≤ sizeLine) (t : Nat) :
    Inv X pins σ (upd H p (.lst ys)) { s with heap := s.heap.update p f, toks := t } := by
  have e : (s.heap.update p f).get? p = some { cls := .type "list", data := .seq its'.toArray n' } := by
    rw [Heap.get?_update_self f ho (by rw [hf] <;> rfl), hf]
  refine I.write (x := p) (e := p) (by rw [h]; trivial) (.inl rfl) (fun b u hb q => (Heap.get?_update_other _ _ (Ne.symm hb)).trans q) ⟨_, e⟩ ?_
  exact ⟨hz, its', n', r, e⟩
def rSetL : V → V → V → Hp → (Hp → Prop) → Prop := fun o i v H Q => ∃ p xs k j, o = .ref p ∧ i = .int k ∧ H p = some (.lst xs) ∧ ixN xs.length k = some j ∧ Q (upd H p (.lst (xs.set j v)))
theorem set_list : PSet X rSetL := by
  intro pins s σ H o i v ov iv u Q I ro ri rv h
  obtain ⟨p, xs, k, j, rfl, rfl, hp, hj, q⟩ := h
  cases ro
  obtain ⟨t, rfl⟩ := ri
  obtain ⟨its, n, r, ho, hz⟩ := I.lst hp
  obtain ⟨h1, h2, h3, h4⟩ := ixN_seq hj
  have hl := r.length
  have hn := line63
  have I' : Inv X pins σ (upd H p (.lst (xs.set j v))) { s with heap := s.heap.update p (Obj.mapSeq (·.setIfInBounds j u)) } :=
    I.lstUpd hp ho (mapSeq_set its n j u) (r.set rv j) (by rw [List.length_set]; exact hz) s.toks
  by_cases h0 : 0 ≤ k
  · have hk : k.toNat = j := by
      rw [seqIndex_of h0 h4] at h1
      exact Option.some.inj h1
    exact PySem.W.ki_setAt ho h0 (by omega) (by rw [List.size_toArray, ← hl]; exact h4) (by rw [hk]; exact ⟨_, I', q⟩)
  · have hk : (k + (its.toArray.size : Int)).toNat = j := by
      rw [seqIndex_neg (by omega) h3] at h1
      rw [List.size_toArray, ← hl]
      exact Option.some.inj h1
    exact PySem.W.ki_setBack ho (by omega) (by rw [List.size_toArray, ← hl]; exact h3) (by omega) (by rw [hk]; exact ⟨_, I', q⟩)

theorem slice_bounds (lo hi : Option Int) (n : Nat) : (sliceBounds lo hi none n).1 = ((HT.sIx n 0 lo : Nat) : Int) ∧ (sliceBounds lo hi none n).2.1 = ((HT.sIx n n hi : Nat) : Int) ∧ (sliceBounds lo hi none n).2.2 = 1 := by
  refine ⟨?_, ?_, rfl⟩
  · cases lo with
    | none => simp [sliceBounds, HT.sIx]
    | some i =>
      simp only [sliceBounds, HT.sIx, Option.getD_none, show (1 : Int) > 0 by decide, if_true]
      by_cases h : i < 0
      · simp only [h, if_true] <;> omega
      · simp only [h, if_false] <;> omega
  · cases hi with
    | none => simp [sliceBounds, HT.sIx]
    | some i =>
      simp only [sliceBounds, HT.sIx, Option.getD_none, show (1 : Int) > 0 by decide, if_true]
      by_cases h : i < 0
      · simp only [h, if_true] <;> omega
      · simp only [h, if_false] <;> omega
theorem slicePick_cut (its : List Value) (lo hi : Option Int) : slicePick its.toArray lo hi none = ((its.drop (HT.sIx its.length 0 lo)).take (HT.sIx its.length its.length hi - HT.sIx its.length 0 lo)).toArray := by
  obtain ⟨h1, h2, h3⟩ := slice_bounds lo hi its.toArray.size
  unfold slicePick
  rw [h1, h2, h3]
  simp only [sliceRange_one, pick_run, List.size_toArray] <;> rfl
/-- xs[lo:hi] of a list: a new list -/
def rSlL (K : PySem.W.Frag) : V → Option Int → Option Int → Hp → VK → Prop := fun x lo hi H Q => ∃ a xs, x = .ref a ∧ SqL K H a xs ∧ ∀ p, H p = none → Q (.ref p) (upd H p (.lst (cutV xs lo hi)))
theorem sl_list : SlR X (rSlL X.K) := by
  intro pins s σ H x v vl vu lo hi sl Q I rx hs pl pu h
  obtain ⟨a, xs, rfl, hx, q⟩ := h
  cases rx
  obtain ⟨its, r, ht, hz⟩ := I.list hx
  have hlen := r.length
  refine ⟨"list", _, slot_list_getitem.lookup, ht.isList.typeIs, ?_⟩
  refine wpAny_getItem_list_slice ht.isList hs pl pu .none (by simp) ?_ (by rw [List.size_toArray] <;> omega)
  rw [slicePick_cut, ← hlen]
  refine ⟨.ref s.heap.objs.size, _, I.laid (t' := s.toks) (o := .lst (cutV xs lo hi)) (fun b ob q => Heap.get?_push_of_some _ q) (Nat.le_refl _) ?_, rfl, q _ (I.hok.fresh (Nat.le_refl _))⟩
  exact ⟨Nat.le_trans (cutV_length xs lo hi) hz, _, 0, (r.drop (HT.sIx xs.length 0 lo)).take (HT.sIx xs.length xs.length hi - HT.sIx xs.length 0 lo), Heap.get?_push_size _ rfl⟩

def flatV : V → Bool
  | .non => true
  | .bl _ => true
  | .int _ => true
  | .str _ => true
  | _ => false
/-- == of flat values -/
def eqV : V → V → Bool
  | .non, .non => true
  | .bl a, .bl b => a == b
  | .bl a, .int b => (if a then 1 else 0) == b
  | .int a, .bl b => a == (if b then 1 else 0)
  | .int a, .int b => a == b
  | .str a, .str b => a == b
  | _, _ => false
theorem eqAt_V {A : Around} {s : Shared} {y x : V} {u v : Value} (ry : RelV y u) (rx : RelV x v) (fy : flatV y = true) (fx : flatV x = true) : SeqAt.EqAt A s u v (eqV y x) := by
  cases y with
  | non =>
    cases ry
    cases x with
    | non => cases rx; exact SeqAt.EqAt.same _
    | bl b => cases rx; exact SeqAt.EqAt.none_bool b
    | int b => obtain ⟨t, rfl⟩ := rx; exact SeqAt.EqAt.none_int b t
    | str b => obtain ⟨t, rfl⟩ := rx; exact SeqAt.EqAt.none_str b t
    | _ => exact absurd (show false = true from fx) Bool.false_ne_true
  | bl a =>
    cases ry
    cases x with
    | non => cases rx; exact SeqAt.EqAt.bool_none a
    | bl b => cases rx; exact SeqAt.EqAt.bool_bool a b
    | int b => obtain ⟨t, rfl⟩ := rx; exact SeqAt.EqAt.bool_int a b t
    | str b => obtain ⟨t, rfl⟩ := rx; exact SeqAt.EqAt.bool_str a b t
    | _ => exact absurd (show false = true from fx) Bool.false_ne_true
  | int a =>
    obtain ⟨t', rfl⟩ := ry
    cases x with
    | non => cases rx; exact SeqAt.EqAt.int_none a t'
    | bl b => cases rx; exact SeqAt.EqAt.int_bool a t' b
    | int b => obtain ⟨t, rfl⟩ := rx; exact SeqAt.EqAt.int_int a t' b t
    | str b => obtain ⟨t, rfl⟩ := rx; exact SeqAt.EqAt.int_str a t' b t
    | _ => exact absurd (show false = true from fx) Bool.false_ne_true
  | str a =>
    obtain ⟨t', rfl⟩ := ry
    cases x with
    | non => cases rx; exact SeqAt.EqAt.str_none a t'
    | bl b => cases rx; exact SeqAt.EqAt.str_bool a t' b
    | int b => obtain ⟨t, rfl⟩ := rx; exact SeqAt.EqAt.str_int a t' b t
    | str b => obtain ⟨t, rfl⟩ := rx; exact SeqAt.EqAt.str_str a t' b t
    | _ => exact absurd (show false = true from fx) Bool.false_ne_true
  | _ => exact absurd (show false = true from fy) Bool.false_ne_true
/-- the items' answers, read off the values (a value's own answer does not lean on its token) -/
def eqU (x : V) (u : Value) : Bool := match u with
  | .none => eqV .non x
  | .bool b => eqV (.bl b) x
  | .int i _ => eqV (.int i) x
  | .str z _ => eqV (.str z) x
  | _ => false
theorem eqU_of {x y : V} {u : Value} (r : RelV y u) (f : flatV y = true) : eqU x u = eqV y x := by
  cases y with
  | non => cases r; rfl
  | bl b => cases r; rfl
  | int i => obtain ⟨t, rfl⟩ := r; rfl
  | str z => obtain ⟨t, rfl⟩ := r; rfl
  | _ => exact absurd (show false = true from f) Bool.false_ne_true
theorem any_eqU {x : V} : ∀ {xs : List V} {us : List Value}, Vals xs us → xs.all flatV = true → us.any (eqU x) = xs.any fun y => eqV y x
  | _, _, .nil, _ => rfl
  | y :: xs, u :: us, .cons r t, f => by
    rw [List.all_cons, Bool.and_eq_true] at f
    rw [List.any_cons, List.any_cons, eqU_of r f.1, any_eqU t f.2]
theorem mem_eqAt {A : Around} {s : Shared} {x : V} {v : Value} (rx : RelV x v) (fx : flatV x = true) : ∀ {xs : List V} {us : List Value}, Vals xs us → xs.all flatV = true → ∀ u ∈ us, SeqAt.EqAt A s u v (eqU x u)
  | _, _, .nil, _ => fun u hu => by cases hu
  | y :: xs, u :: us, .cons r t, f => fun u' hu => by
    rw [List.all_cons, Bool.and_eq_true] at f
    rcases List.mem_cons.mp hu with rfl | hu
    · rw [eqU_of r f.1]; exact eqAt_V r rx f.1 fx
    · exact mem_eqAt rx fx t f.2 u' hu
def inV (x : V) (xs : List V) : Bool := xs.any fun y => eqV y x
/-- x in a list or tuple of flat items -/
def rIn (K : PySem.W.Frag) (neg : Bool) : R2 := fun x y H Q => ∃ p xs, y = .ref p ∧ (SqL K H p xs ∨ SqT K H p xs) ∧ flatV x = true ∧ xs.all flatV = true ∧ Q (.bl (if neg then !inV x xs else inV x xs)) H
theorem op_in_seq : OpR X (compareOp .In) (rIn X.K false) := by
  intro pins s σ H x y v u Q I rx ry h
  obtain ⟨p, xs, rfl, hq, fx, fs, q⟩ := h
  cases ry
  rcases hq with hq | hq
  · obtain ⟨its, r, pl, hz⟩ := I.list hq
    refine SeqAt.in_listAt (eqU x) pl.isList (fun w hw => mem_eqAt rx fx r fs w (by simpa using hw)) ⟨.bl _, H, I, rfl, ?_⟩
    rw [show its.toArray.any (eqU x) = its.any (eqU x) by simp, any_eqU r fs]
    exact q
  · obtain ⟨its, r, pl, hz⟩ := I.tuple hq
    refine SeqAt.in_tupleAt (eqU x) pl (fun w hw => mem_eqAt rx fx r fs w (by simpa using hw)) ⟨.bl _, H, I, rfl, ?_⟩
    rw [show its.toArray.any (eqU x) = its.any (eqU x) by simp, any_eqU r fs]
    exact q
theorem call_len_seq : CallR X (.builtin "len") (fun xs H Q => ∃ p ys, xs = [.ref p] ∧ (SqL X.K H p ys ∨ SqT X.K H p ys) ∧ Q (.int ys.length) H) := by
  intro pins s σ H xs us Q I r h
  obtain ⟨p, ys, rfl, hq, q⟩ := h
  obtain ⟨u, rfl, rx⟩ := vals1 r
  cases rx
  have hn := line63
  rcases hq with hq | hq
  · obtain ⟨its, r', pl, hz⟩ := I.list hq
    have hlen := r'.length
    exact Calls.call_len_list pl.isList (by simp only [List.size_toArray] <;> omega) ⟨.int ys.length, H, I.tok _, ⟨s.toks + 1, by rw [List.size_toArray, hlen]⟩, q⟩
  · obtain ⟨its, r', pl, hz⟩ := I.tuple hq
    have hlen := r'.length
    exact len_tuple pl (by simp only [List.size_toArray] <;> omega) ⟨.int ys.length, H, I.tok _, ⟨s.toks + 1, by rw [List.size_toArray, hlen]⟩, q⟩
theorem call_len_str : CallR X (.builtin "len") (fun xs H Q => ∃ z, xs = [.str z] ∧ z.length ≤ sizeLine ∧ Q (.int z.length) H) := by
  intro pins s σ H xs us Q I r h
  obtain ⟨z, rfl, hz, q⟩ := h
  obtain ⟨u, rfl, t, rfl⟩ := vals1 r
  have hn := line63
  exact len_str (by omega) ⟨.int z.length, H, I.tok _, ⟨_, rfl⟩, q⟩
theorem CallR.or {f : Value} {r r' : List V → Hp → VK → Prop} (h : CallR X f r) (h' : CallR X f r') : CallR X f (fun xs H Q => r xs H Q ∨ r' xs H Q) := by
  intro pins s σ H xs us Q I rs q
  rcases q with q | q
  · exact h pins s σ H xs us Q I rs q
  · exact h' pins s σ H xs us Q I rs q
/-- the value is of that builtin type -/
def tyV (K : PySem.W.Frag) (T : String) (x : V) (H : Hp) : Prop := match x with
  | .str _ => T = "str"
  | .int _ => T = "int"
  | .ref p => (T = "list" ∧ ∃ xs, SqL K H p xs) ∨ (T = "tuple" ∧ ∃ o, K.lookup p = some o ∧ o.cls = .type "tuple" ∧ o.dict = none) ∨
      (T = "dict" ∧ ((∃ kvs, H p = some (.dK kvs)) ∨ ∃ kvs, H p = some (.dT kvs))) ∨ (T = "set" ∧ ∃ S n, H p = some (.set S n))
  | _ => False
theorem tyV_is {pins : List (Addr × Obj)} {σ : St} {H : Hp} {s : Shared} {T : String} {x : V} {v : Value} (I : Inv X pins σ H s) (r : RelV x v) (ty : tyV X.K T x H) :
    s.TypeIs v T ∧ ∀ a, v = .ref a → ∃ ob, s.heap.get? a = some ob ∧ ob.dict = none := by
  cases x with
  | str z =>
    obtain ⟨t, rfl⟩ := r
    cases (show T = "str" from ty)
    exact ⟨typeIs_str s z t, fun _ e => nomatch e⟩
  | int i =>
    obtain ⟨t, rfl⟩ := r
    cases (show T = "int" from ty)
    exact ⟨typeIs_int s i t, fun _ e => nomatch e⟩
  | ref p =>
    cases r
    rcases ty with ⟨rfl, xs, hq⟩ | ⟨rfl, o, hk, hc, hd⟩ | ⟨rfl, hk⟩ | ⟨rfl, S, n, hk⟩
    · obtain ⟨its, _, pl, _⟩ := I.list hq
      refine ⟨pl.isList.typeIs, fun a e => ?_⟩
      cases e
      obtain ⟨o, n, e, c, hd, _⟩ := pl
      exact ⟨o, e, hd⟩
    · refine ⟨⟨o, I.kIn p o hk, hc⟩, fun a e => ?_⟩
      cases e
      exact ⟨o, I.kIn _ o hk, hd⟩
    · have z : ∃ o, s.heap.get? p = some o ∧ o.ExactDict := by
        rcases hk with ⟨kvs, hk⟩ | ⟨kvs, hk⟩
        · obtain ⟨_, _, _, _, o, _, _, e, ex, _⟩ := I.hok p _ hk
          exact ⟨o, e, ex⟩
        · obtain ⟨_, _, _, _, o, _, _, e, ex, _⟩ := I.hok p _ hk
          exact ⟨o, e, ex⟩
      obtain ⟨o, e, ex⟩ := z
      refine ⟨⟨o, e, ex.1⟩, fun a e2 => ?_⟩
      cases e2
      exact ⟨o, e, ex.2.1⟩
    · obtain ⟨o, _, _, _, e, ex, _⟩ := I.hok p _ hk
      refine ⟨⟨o, e, ex.1⟩, fun a e2 => ?_⟩
      cases e2
      exact ⟨o, e, ex.2.1⟩
  | _ => exact False.elim ty
def tBM (K : PySem.W.Frag) (T : String) (r : V → List V → Hp → VK → Prop) (to : TE) (t : TA) : TE := fun σ H Q => to σ H fun x H1 => tyV K T x H1 ∧ t σ H1 fun xs H2 => r x xs H2 Q
variable {o e : Expr} {es : List Expr} {to : TE} {t : TA} {name : Str} {apos cpos : Pos} {T id : String} {r : V → List V → Hp → VK → Prop}
theorem pe_bm (pa : PlainAttrs T) (slot : Slot T name id) (hty : typeOf (.builtin id) = pure (.type "method_descriptor")) (hm : MtR X id r) (ho : PE X o to) (ha : PA X (e :: es) t)
    (hbase : attributeBase o name X.env (eval o X.env) = eval o X.env := by rfl)
    (hfew : ((backTo cpos (starEach (e :: es) X.env)).all (fun x => !x.1) && (backToKw cpos (keywordEach [] X.env)).all (fun x => x.1.isSome)
      && decide ((e :: es).length + ([] : List Keyword).length + (if ([] : List Keyword).isEmpty then 0 else 1) < 30)) = true := by rfl)
    (hline : (apos.endLine == cpos.line) = true := by rfl) (hs : starEach (e :: es) X.env = (false, eval e X.env) :: starEach es X.env := by rfl) (hplain : (backTo cpos (starEach es X.env)).any (·.1) = false := by rfl) :
    PE X (.Call (.Attribute o name apos) (e :: es) [] cpos) (tBM X.K T r to t) := by
  intro pins s σ H Q I h
  refine wpAny_Call_method_late hbase hfew hline rfl (thn (ho pins s σ H _ I h) fun v s1 ⟨x, H1, I1, r1, ty, q1⟩ => ?_)
  obtain ⟨h1, h2⟩ := tyV_is I1 r1 ty
  refine ⟨T, id, pa, slot, hty, h1, h2, ?_⟩
  have hA := ha cpos pins s1 σ H1 _ I1 q1
  rw [hs] at hA ⊢
  refine Calls.callWith_builtin (by show (false || (backTo cpos (starEach es X.env)).any (·.1)) = false; rw [hplain] <;> rfl) (Calls.evalArgs_plain ?_)
  exact thn hA fun us s2 ⟨vs, H2, I2, r2, q2⟩ => hm pins s2 σ H2 x vs v us Q I2 r1 r2 q2
end
end L2

namespace L2
open PySem PySem.Spec PyProof.Rows

def MtM (X : Cx) (id : String) (r : V → List V → Hp → VK → Prop) : Prop :=
  ∀ (pins : List (Addr × Obj)) (s : Shared) (σ : St) (H : Hp) (x : V) (xs : List V) (v : Value) (us : List Value) (Q : VK), Inv X pins σ H s → RelV x v → Vals xs us → r x xs H Q →
    wpAny (model X.prog X.w) X.A (call (.builtin id) (v :: us)) (EP X pins σ Q) X.xe s

theorem Vals.one : ∀ {x : V} {us : List Value}, Vals [x] us → ∃ u, us = [u] ∧ RelV x u
  | _, _, .cons r .nil => ⟨_, rfl, r⟩
theorem Vals.two : ∀ {x y : V} {us : List Value}, Vals [x, y] us → ∃ u v, us = [u, v] ∧ RelV x u ∧ RelV y v
  | _, _, _, .cons r (.cons q .nil) => ⟨_, _, rfl, r, q⟩
theorem Vals.zero : ∀ {us : List Value}, Vals [] us → us = []
  | _, .nil => rfl
theorem Vals.rep {xs : List V} {us : List Value} (h : Vals xs us) : ∀ k : Nat, Vals (List.replicate k xs).flatten (List.replicate k us).flatten
  | 0 => .nil
  | k + 1 => by
    rw [List.replicate_succ, List.replicate_succ, List.flatten_cons, List.flatten_cons]
    exact Vals.append h (Vals.rep h k)
theorem foldl_rep (its : List Value) : ∀ (k : Nat) (acc : List Value),
    List.foldl (fun x1 x2 => x1 ++ x2) acc.toArray (List.replicate k its.toArray) = (acc ++ (List.replicate k its).flatten).toArray
  | 0, acc => by simp
  | k + 1, acc => by
    have e : acc.toArray ++ its.toArray = (acc ++ its).toArray := by simp
    have e2 : (acc ++ its) ++ (List.replicate k its).flatten = acc ++ (List.replicate (k + 1) its).flatten := by
      rw [List.replicate_succ, List.flatten_cons, List.append_assoc]
    rw [← e2, ← foldl_rep its k (acc ++ its), ← e, List.replicate_succ, List.foldl_cons]

section
variable {X : Cx} {pins : List (Addr × Obj)} {σ : St} {H : Hp} {s : Shared} {l b : Addr} {xs ys zs : List V}

theorem Inv.lset {its its' : List Value} {n : Nat} {f : Array Value → Array Value} {t' : Nat} (I : Inv X pins σ H s) (hH : H l = some (.lst xs))
    (e : s.heap.get? l = some { cls := .type "list", data := .seq its.toArray n }) (hf : f its.toArray = its'.toArray) (hv : Vals ys its') (hz : ys.length ≤ sizeLine) :
    Inv X pins σ (upd H l (.lst ys)) { s with heap := s.heap.update l (Obj.mapSeq f), toks := t' } := by
  have q := PySem.IsL.update e f
  rw [hf] at q
  refine I.write (x := l) (e := l) (by rw [hH]; exact trivial) (.inl rfl) (fun b' u hb hu => (Heap.get?_update_other s.heap (Obj.mapSeq f) (Ne.symm hb)).trans hu) ⟨_, q⟩ ?_
  exact ⟨hz, its', _, hv, q⟩
theorem Inv.lnew {its : List Value} {t' : Nat} (I : Inv X pins σ H s) (hv : Vals ys its) (hz : ys.length ≤ sizeLine) :
    Inv X pins σ (upd H s.heap.objs.size (.lst ys)) { s with heap := s.heap.push { cls := .type "list", data := .seq its.toArray }, toks := t' } :=
  I.laid (fun _ _ q => Heap.get?_push_of_some _ q) (Nat.le_refl _) ⟨hz, its, 0, hv, Heap.get?_push_size _ rfl⟩
theorem Inv.fresh (I : Inv X pins σ H s) : H s.heap.objs.size = none := I.hok.fresh (Nat.le_refl _)
theorem Inv.lstM (I : Inv X pins σ H s) (hH : H l = some (.lst xs)) : xs.length ≤ sizeLine ∧ ∃ (its : List Value) (n : Nat), Vals xs its ∧ xs.length = its.length ∧ s.heap.get? l = some { cls := .type "list", data := .seq its.toArray n } := by
  obtain ⟨z, its, n, r, e⟩ := I.hok l _ hH
  exact ⟨z, its, n, r, r.length, e⟩

theorem notLongL {n : Nat} (h : n ≤ sizeLine) : Builtin.List.listTooLong n = false := by
  unfold Builtin.List.listTooLong
  exact decide_eq_false (by omega)
end

section
variable {X : Cx}

def rAppend : V → List V → Hp → VK → Prop := fun x vs H Q => ∃ l xs y, x = .ref l ∧ vs = [y] ∧ H l = some (.lst xs) ∧ xs.length < sizeLine ∧ Q .non (upd H l (.lst (xs ++ [y])))
theorem mt_append : MtM X "list.append" rAppend := by
  intro pins s σ H x vs v us Q I rx rv h
  obtain ⟨l, xs, y, rfl, rfl, hH, hz, q⟩ := h
  cases rx
  obtain ⟨u, rfl, ru⟩ := rv.one
  obtain ⟨z, its, n, r, hl, e⟩ := I.lstM hH
  refine call_meets F.slot_list_append ⟨_, e, rfl⟩ F.entry_list_append (F.args_list_append_2 _ _) (PySem.list_append l its.toArray n u (by rw [List.size_toArray]; omega)) ⟨e, ?_⟩
  refine ⟨.non, _, I.lset (its' := its ++ [u]) hH e (by simp) (r.append (.cons ru .nil)) ?_, rfl, q⟩
  rw [List.length_append, List.length_singleton]
  omega

def rCat : R2 := fun x y H Q => ∃ l b xs zs, x = .ref l ∧ y = .ref b ∧ H l = some (.lst xs) ∧ H b = some (.lst zs) ∧ xs.length + zs.length ≤ sizeLine ∧ ∀ p, H p = none → Q (.ref p) (upd H p (.lst (xs ++ zs)))
theorem op_cat : OpR X (binaryOp .Add) rCat := by
  intro pins s σ H x y v u Q I rx ry h
  obtain ⟨l, b, xs, zs, rfl, rfl, hH, hB, hz, q⟩ := h
  cases rx
  cases ry
  obtain ⟨z, its, n, r, hl, e⟩ := I.lstM hH
  obtain ⟨z2, its2, n2, r2, hl2, e2⟩ := I.lstM hB
  refine PySem.P.add_list e e2 ?_ (by rw [List.size_toArray, List.size_toArray]; omega)
  have ea : its.toArray ++ its2.toArray = (its ++ its2).toArray := by simp
  rw [ea]
  exact ⟨.ref _, _, I.lnew (t' := s.toks) (r.append r2) (by rw [List.length_append]; omega), rfl, q _ I.fresh⟩
/-- a list times an int (a negative one is nothing) -/
def rRep : R2 := fun x y H Q => ∃ l k xs, x = .ref l ∧ y = .int k ∧ H l = some (.lst xs) ∧ -(2 ^ 63) ≤ k ∧ k < 2 ^ 63 ∧ xs.length * k.toNat ≤ sizeLine ∧
  ∀ p, H p = none → Q (.ref p) (upd H p (.lst (List.replicate k.toNat xs).flatten))
theorem len_rep {α : Type} (xs : List α) (k : Nat) : (List.replicate k xs).flatten.length = k * xs.length := by
  induction k with
  | zero => simp
  | succ k ih => rw [List.replicate_succ, List.flatten_cons, List.length_append, ih, Nat.succ_mul, Nat.add_comm]
theorem op_rep : OpR X (binaryOp .Mult) rRep := by
  intro pins s σ H x y v u Q I rx ry h
  obtain ⟨l, k, xs, rfl, rfl, hH, h1, h2, hz, q⟩ := h
  cases rx
  obtain ⟨t, rfl⟩ := ry
  obtain ⟨z, its, n, r, hl, e⟩ := I.lstM hH
  have hlen : its.toArray.size * k.toNat ≤ sizeLine := by rw [List.size_toArray, ← hl]; exact hz
  have hcap : ¬ its.toArray.size * k.toNat > (2 ^ 63 - 1) / 8 := by
    have : (sizeLine : Nat) ≤ (2 ^ 63 - 1) / 8 := by decide
    omega
  have hfit : ¬ (!Builtin.List.listFitsIndex k) = true := by
    rw [fitsIndex_both h1 h2]
    exact Bool.false_ne_true
  have hlong : ¬ Builtin.List.listTooLong (its.toArray.size * k.toNat) = true := by
    rw [notLongL hlen]
    exact Bool.false_ne_true
  have hnew : List.foldl (fun x1 x2 => x1 ++ x2) #[] (List.replicate (if its.toArray.isEmpty = true then 0 else k.toNat) its.toArray) = (List.replicate k.toNat its).flatten.toArray := by
    have f0 : ∀ m : Nat, List.foldl (fun x1 x2 => x1 ++ x2) #[] (List.replicate m its.toArray) = (List.replicate m its).flatten.toArray := fun m => by
      have := foldl_rep its m []
      rw [List.nil_append] at this
      exact this
    rw [f0]
    cases its with
    | nil => simp
    | cons a r' => rw [if_neg (by simp)]
  refine wpAny_binaryOp_repeat_ref (T := "list") (U := "int") (by decide) ⟨_, e, rfl⟩ (fun s' => typeIs_int s' k t) noFill_list_mul F.fills_int_mul F.slot_int_rmul repeat_list F.slot_int_index.lookup
    (call_meets F.slot_int_rmul (typeIs_int s k t) F.entry_int_rmul (F.args_int_rmul_2 _ _) (int___rmul___int_list k t l its.toArray n)
      ⟨e, rfl, ⟨_, e, rfl⟩, call_meets F.slot_list_mul ⟨_, e, rfl⟩ F.entry_list_mul (F.args_list_mul_2 _ _) (AutoListH.list___mul___list_int_3 l its.toArray n k t hfit hcap hlong) ⟨e, ?_⟩⟩)
  rw [hnew]
  exact ⟨.ref _, _, I.lnew (t' := s.toks) (r.rep k.toNat) (by rw [len_rep, Nat.mul_comm]; exact hz), rfl, q _ I.fresh⟩

end

section
variable {prog : Program} {w : World} {A : Around} {E : Value → Shared → Prop} {s : Shared}
end

section
variable {X : Cx}
end
end L2

namespace L2
open PySem PySem.Spec PyProof.Rows

theorem Vals.ints : ∀ {ns : List Int} {us : List Value}, Vals (ns.map V.int) us → IntsAre us ns
  | [], us, h => by
    rw [List.map_nil] at h
    cases h
    exact IntsAre.nil
  | n :: ns, us, h => by
    rw [List.map_cons] at h
    cases h with
    | cons r t =>
      obtain ⟨k, rfl⟩ := r
      exact IntsAre.cons n k (Vals.ints t)
theorem Vals.strs : ∀ {xs : List Str} {us : List Value}, Vals (xs.map V.str) us → StrsAre us xs
  | [], us, h => by
    rw [List.map_nil] at h
    cases h
    exact StrsAre.nil
  | x :: xs, us, h => by
    rw [List.map_cons] at h
    cases h with
    | cons r t =>
      obtain ⟨k, rfl⟩ := r
      exact StrsAre.cons x k (Vals.strs t)
theorem Vals.bls : ∀ {bs : List Bool} {us : List Value}, Vals (bs.map V.bl) us → us = bs.map Value.bool
  | [], us, h => by
    rw [List.map_nil] at h
    cases h
    rfl
  | b :: bs, us, h => by
    rw [List.map_cons] at h
    cases h with
    | cons r t =>
      cases r
      rw [Vals.bls t, List.map_cons]
theorem Vals.ref1 {a : Addr} {us : List Value} (r : Vals [V.ref a] us) : us = [Value.ref a] := by
  cases r with
  | cons r t =>
    cases t
    cases r
    rfl
section
variable {prog : Program} {w : World} {A : Around} {E : Value → Shared → Prop} {s : Shared} {l : Addr} {its : List Value} {ns : List Int} {Q : Value → Shared → Prop}
end

section
variable {X : Cx}
end

section
variable {X : Cx}
end

section
variable {X : Cx}
end

theorem iter_any {prog : Program} {w : World} {A : Around} {E : Value → Shared → Prop} {s : Shared} {l : Addr} {items : Array Value} {Q : Value → Shared → Prop} (hl : s.heap.IsList l items)
    (h : ∀ s₂ : Shared, s₂ = { s with heap := s.heap.push { cls := .type "list_iterator", data := .fields #[.ref l, .int 0 0] } } →
      (s₂.heap.IsListIter s.heap.objs.size l 0 ∧ s₂.heap.IsList l items) → l ≠ s.heap.objs.size → Q (.ref s.heap.objs.size) s₂) : wpAny (model prog w) A (pyIter (.ref l)) Q E s := by
  have hlt : l < s.heap.objs.size := by obtain ⟨_, e, _⟩ := hl; exact Heap.lt_size e
  exact wpAny_pyIter_list hl (h _ rfl ⟨⟨_, Heap.get?_push_size _ rfl, rfl, rfl⟩, hl.push _⟩ (Nat.ne_of_lt hlt))
theorem truth_bools {prog : Program} {w : World} {A : Around} {bs : List Bool} {its : List Value} (e : its = bs.map Value.bool) :
    TruthOf prog w A (fun i v => its.toArray[i]? = some v) (fun i => bs.getD i false) := fun i v s Q E hv hq => by
  have hv' : its[i]? = some v := by simpa using hv
  rw [e, List.getElem?_map] at hv'
  obtain ⟨b, hb, rfl⟩ := Option.map_eq_some_iff.mp hv'
  have hg : bs.getD i false = b := by rw [List.getD_eq_getElem?_getD, hb] <;> rfl
  have hq' : Q (bs.getD i false) s := hq
  rw [hg] at hq'
  exact wpAny_truthy_bool hq'
theorem all_range : ∀ bs : List Bool, (List.range bs.length).all (fun i => bs.getD i false) = bs.all id
  | [] => rfl
  | b :: bs => by
    rw [List.length_cons, List.range_succ_eq_map, List.all_cons, List.all_map, List.all_cons, ← all_range bs]
    all_goals rfl
section
variable {X : Cx}
def rAll (K : PySem.W.Frag) : List V → Hp → VK → Prop := fun vs H Q => ∃ (a : Addr) (bs : List Bool), vs = [V.ref a] ∧ SqL K H a (bs.map V.bl) ∧ Q (.bl (bs.all id)) H
theorem cr_all (hc : X.calm = true) : CallR X (.builtin "all") (rAll X.K) := by
  intro pins s σ H vs us Q I r h
  obtain ⟨a, bs, rfl, hs, q⟩ := h
  obtain ⟨its, rv, hl, _⟩ := I.list hs
  rw [Vals.ref1 r]
  have hb := rv.bls
  refine call_all_walk (iter_any hl.isList fun s₂ e2 st hne => ?_)
  subst e2
  refine ⟨_, _, _, _, _, _, _, rfl, Walks.list (A := X.A.in1) (I.ok.hd hc) _ a hne its.toArray, st, truth_bools hb, fun h' tk hk => ?_⟩
  refine ⟨.bl _, H, I.kept fun b o eo => hk b o (fun hmem => ?_) (Heap.get?_push_of_some _ eo), ?_, q⟩
  · rcases List.mem_cons.mp hmem with e1 | hmem
    · exact absurd (e1 ▸ Heap.lt_size eo) (Nat.lt_irrefl _)
    · cases hmem
  · show Value.bool _ = Value.bool _
    rw [← all_range, hb, List.size_toArray, List.length_map]
end

mutual
inductive Dp (K : PySem.W.Frag) (H : Hp) : V → PyData → Prop
  | non : Dp K H .non .none
  | bl (b : Bool) : Dp K H (.bl b) (.bool b)
  | int (i : Int) : Dp K H (.int i) (.int i)
  | str (x : Str) : Dp K H (.str x) (.str x)
  | lst {a : Addr} {xs : List V} {ds : List PyData} : SqL K H a xs → DpAll K H xs ds → Dp K H (.ref a) (.list ds)
  | tup {a : Addr} {xs : List V} {ds : List PyData} : SqT K H a xs → DpAll K H xs ds → Dp K H (.ref a) (.tuple ds)
inductive DpAll (K : PySem.W.Frag) (H : Hp) : List V → List PyData → Prop
  | nil : DpAll K H [] []
  | cons {v : V} {vs : List V} {d : PyData} {ds : List PyData} : Dp K H v d → DpAll K H vs ds → DpAll K H (v :: vs) (d :: ds)
end
section
variable {X : Cx} {pins : List (Addr × Obj)} {σ : St} {H : Hp} {s : Shared}
mutual
theorem Dp.reads (I : Inv X pins σ H s) : ∀ (d : PyData) (v : V) (u : Value), Dp X.K H v d → RelV v u → ∃ as, Reads s.heap u d as
  | .none, _, _, h, r => by
    cases h
    cases r
    exact ⟨_, Reads.none⟩
  | .bool b, _, _, h, r => by
    cases h
    cases r
    exact ⟨_, Reads.bool b⟩
  | .int i, _, _, h, r => by
    cases h
    obtain ⟨t, rfl⟩ := r
    exact ⟨_, Reads.int i t⟩
  | .str x, _, _, h, r => by
    cases h
    obtain ⟨t, rfl⟩ := r
    exact ⟨_, Reads.str x t⟩
  | .list ds, _, _, h, r => by
    cases h with
    | lst hs ha =>
      cases r
      obtain ⟨its, rv, ⟨o, n, ho, hc, _, hd⟩, _⟩ := I.list hs
      obtain ⟨as, hr⟩ := Dp.readsAll I ds _ its ha rv
      exact ⟨_, Reads.list ho hc hd hr⟩
  | .tuple ds, _, _, h, r => by
    cases h with
    | tup hs ha =>
      cases r
      obtain ⟨its, rv, ⟨o, ho, hc, n, hd⟩, _⟩ := I.tuple hs
      obtain ⟨as, hr⟩ := Dp.readsAll I ds _ its ha rv
      exact ⟨_, Reads.tuple ho hc hd hr⟩
  | .dict _, _, _, h, _ => by cases h
theorem Dp.readsAll (I : Inv X pins σ H s) : ∀ (ds : List PyData) (vs : List V) (us : List Value), DpAll X.K H vs ds → Vals vs us → ∃ as, ReadsAll s.heap us ds as
  | [], _, _, h, r => by
    cases h
    cases r
    exact ⟨_, ReadsAll.nil⟩
  | d :: ds, _, _, h, r => by
    cases h with
    | cons h1 h2 =>
      cases r with
      | cons r1 r2 =>
        obtain ⟨as, q1⟩ := Dp.reads I d _ _ h1 r1
        obtain ⟨bs, q2⟩ := Dp.readsAll I ds _ _ h2 r2
        exact ⟨_, ReadsAll.cons q1 q2⟩
end
end
section
variable {X : Cx}
def rEqD (K : PySem.W.Frag) : R2 := fun x y H Q => ∃ d e, Dp K H x d ∧ Dp K H y e ∧ SeqAt.shaped d = true ∧ SeqAt.shaped e = true ∧ Q (.bl (PyData.eqv d e)) H
theorem op_eqD (hu : X.A.units + 64 < cLine) : OpR X (compareOp .Eq) (rEqD X.K) := by
  intro pins s σ H x y v u Q I rx ry h
  obtain ⟨d, e, hd, he, sd, se, q⟩ := h
  obtain ⟨as, r1⟩ := Dp.reads I d x v hd rx
  obtain ⟨bs, r2⟩ := Dp.reads I e y u he ry
  exact SeqAt.compareEq_shaped r1 r2 sd se hu ⟨.bl _, H, I, rfl, q⟩
end
end L2

namespace L2
open PySem PySem.Spec PyProof.Rows
abbrev CellAt (h : Heap) (c : Addr) (v : Option Value) : Prop := h.IsCell c v
def relS (scope sc : Scope) : Scope :=
  { scope with names := scope.names.map fun (n, k) => if (k == .free && sc.kind == .function && sc.names.lookup n == some .cell) then (n, .cell) else (n, k) }

def cloFrom (cells : List (Str × Addr)) : List (Str × NameKind) → List (Str × Addr) → List (Str × Addr)
  | [], acc => acc
  | (n, k) :: r, acc => if k == .free then cloFrom cells r ((n, (cells.lookup n).getD 0) :: acc) else cloFrom cells r acc

theorem closure_loop (env : Env) (f : Str × NameKind → List (Str × Addr) → Sem (ForInStep (List (Str × Addr))))
    (hf : ∀ n k c, f (n, k) c = if k == .free then (do let a ← cellOf env n; pure (.yield ((n, a) :: c))) else pure (.yield c)) :
    ∀ (names : List (Str × NameKind)) (acc : List (Str × Addr)), (∀ y ∈ names, y.2 = .free → ∃ c, env.cells.lookup y.1 = some c) → forIn names acc f = pure (cloFrom env.cells names acc)
  | [], acc, _ => by rw [List.forIn_nil]; rfl
  | (n, k) :: r, acc, h => by
    rw [List.forIn_cons, hf]
    have ih := fun acc => closure_loop env f hf r acc fun y hy => h y (List.mem_cons_of_mem _ hy)
    unfold cloFrom
    by_cases hk : (k == NameKind.free) = true
    · rw [if_pos hk, if_pos hk]
      obtain ⟨c, hc⟩ := h (n, k) List.mem_cons_self (by simpa using hk)
      have e : cellOf env n = pure c := by unfold cellOf; rw [hc]
      rw [e]
      have e2 : (env.cells.lookup n).getD 0 = c := by rw [hc]; rfl
      rw [e2]
      exact ih _
    · rw [if_neg hk, if_neg hk]
      exact ih _
theorem closure_ok {scope : Scope} {env : Env} (h : ∀ y ∈ scope.names, y.2 = .free → ∃ c, env.cells.lookup y.1 = some c) : closureFor scope env = pure (cloFrom env.cells scope.names []) := by
  simp only [closureFor]
  rw [closure_loop env _ (fun n k c => rfl) scope.names [] h]
  rfl

theorem mem_lookup {α : Type} : ∀ {l : List (Str × α)} {n : Str} {c : α}, (n, c) ∈ l → ∃ c', l.lookup n = some c'
  | (k, v) :: r, n, c, h => by
    rw [List.lookup_cons]
    cases hb : n == k with
    | true => exact ⟨_, rfl⟩
    | false =>
      rcases List.mem_cons.mp h with e | h
      · cases e; simp at hb
      · exact mem_lookup h

theorem cloFrom_mem {cells : List (Str × Addr)} : ∀ {names : List (Str × NameKind)} {acc : List (Str × Addr)} {n : Str} {c : Addr}, (n, c) ∈ cloFrom cells names acc → (n, c) ∈ acc ∨ ((n, .free) ∈ names ∧ c = (cells.lookup n).getD 0)
  | [], _, _, _, h => .inl h
  | (m, k) :: r, acc, n, c, h => by
    unfold cloFrom at h
    split at h
    · rename_i hk
      have hk : k = .free := by simpa using hk
      rcases cloFrom_mem h with h | ⟨h1, h2⟩
      · rcases List.mem_cons.mp h with e | h
        · cases e; exact .inr ⟨hk ▸ List.mem_cons_self, rfl⟩
        · exact .inl h
      · exact .inr ⟨List.mem_cons_of_mem _ h1, h2⟩
    · rcases cloFrom_mem h with h | ⟨h1, h2⟩
      · exact .inl h
      · exact .inr ⟨List.mem_cons_of_mem _ h1, h2⟩
theorem cloFrom_acc {cells : List (Str × Addr)} : ∀ {names : List (Str × NameKind)} {acc : List (Str × Addr)} {p : Str × Addr}, p ∈ acc → p ∈ cloFrom cells names acc
  | [], _, _, h => h
  | (m, k) :: r, acc, p, h => by
    unfold cloFrom
    split
    · exact cloFrom_acc (List.mem_cons_of_mem _ h)
    · exact cloFrom_acc h
theorem cloFrom_has {cells : List (Str × Addr)} : ∀ {names : List (Str × NameKind)} {acc : List (Str × Addr)} {n : Str}, (n, .free) ∈ names → (n, (cells.lookup n).getD 0) ∈ cloFrom cells names acc
  | (m, k) :: r, acc, n, h => by
    unfold cloFrom
    rcases List.mem_cons.mp h with e | h
    · cases e
      exact cloFrom_acc List.mem_cons_self
    · split
      · exact cloFrom_has h
      · exact cloFrom_has h

theorem cells_mem : ∀ {names : List (Str × NameKind)} {h : Heap} {acc : List (Str × Addr)} {x : Str} {c : Addr}, (x, c) ∈ cellsFrom h.objs.size names acc →
    (x, c) ∈ acc ∨ ((x, .cell) ∈ names ∧ h.objs.size ≤ c ∧ CellAt (pushCells h names) c none)
  | [], _, _, _, _, h => .inl h
  | (n, k) :: r, h, acc, x, c, hm => by
    unfold cellsFrom at hm
    unfold pushCells
    split at hm
    · rename_i hk
      rw [if_pos hk]
      have hk : k = .cell := by simpa using hk
      rw [← Heap.size_push h { cls := .type "cell", data := .cell none }] at hm
      rcases cells_mem hm with hm | ⟨h1, h2, h3⟩
      · rcases List.mem_cons.mp hm with e | hm
        · cases e
          exact .inr ⟨hk ▸ List.mem_cons_self, Nat.le_refl _, _, pushCells_keeps r _ _ _ (Heap.get?_push_size _ rfl), rfl⟩
        · exact .inl hm
      · rw [Heap.size_push] at h2
        exact .inr ⟨List.mem_cons_of_mem _ h1, Nat.le_of_succ_le h2, h3⟩
    · rename_i hk
      rw [if_neg hk]
      rcases cells_mem hm with hm | ⟨h1, h2, h3⟩
      · exact .inl hm
      · exact .inr ⟨List.mem_cons_of_mem _ h1, h2, h3⟩
theorem cells_acc : ∀ {names : List (Str × NameKind)} {n : Nat} {acc : List (Str × Addr)} {p : Str × Addr}, p ∈ acc → p ∈ cellsFrom n names acc
  | [], _, _, _, h => h
  | (m, k) :: r, n, acc, p, h => by
    unfold cellsFrom
    split
    · exact cells_acc (List.mem_cons_of_mem _ h)
    · exact cells_acc h
theorem cells_has : ∀ {names : List (Str × NameKind)} {n : Nat} {acc : List (Str × Addr)} {x : Str}, (x, .cell) ∈ names → ∃ c, (x, c) ∈ cellsFrom n names acc
  | (m, k) :: r, n, acc, x, h => by
    unfold cellsFrom
    rcases List.mem_cons.mp h with e | h
    · cases e
      exact ⟨n, cells_acc List.mem_cons_self⟩
    · split
      · exact cells_has h
      · exact cells_has h
theorem cells_inj : ∀ {names : List (Str × NameKind)} {h : Heap} {acc : List (Str × Addr)} {x y : Str} {c : Addr}, (∀ p ∈ acc, p.2 < h.objs.size) → (∀ x y c, (x, c) ∈ acc → (y, c) ∈ acc → x = y) →
    (x, c) ∈ cellsFrom h.objs.size names acc → (y, c) ∈ cellsFrom h.objs.size names acc → x = y
  | [], _, _, _, _, _, _, hi, h1, h2 => hi _ _ _ h1 h2
  | (n, k) :: r, h, acc, x, y, c, hl, hi, h1, h2 => by
    unfold cellsFrom at h1 h2
    split at h1
    · rename_i hk
      rw [if_pos hk] at h2
      rw [← Heap.size_push h { cls := .type "cell", data := .cell none }] at h1 h2
      refine cells_inj (h := h.push _) (fun p hp => ?_) (fun x y c a b => ?_) h1 h2
      · rw [Heap.size_push]
        rcases List.mem_cons.mp hp with rfl | hp
        · exact Nat.lt_succ_self _
        · exact Nat.lt_succ_of_lt (hl p hp)
      · rcases List.mem_cons.mp a with e | a <;> rcases List.mem_cons.mp b with e' | b
        · cases e; cases e'; rfl
        · cases e; exact absurd (hl _ b) (Nat.lt_irrefl _)
        · cases e'; exact absurd (hl _ a) (Nat.lt_irrefl _)
        · exact hi _ _ _ a b
    · rename_i hk
      rw [if_neg hk] at h2
      exact cells_inj hl hi h1 h2

theorem newEnv_comp {M : Model} {A : Around} {E : Value → Shared → Prop} {s : Shared} {scope : Scope} {globals : Addr} {closure : List (Str × Addr)} {qual : Str} {func : Option Addr} {code : Value} {around : Env} {builtins : Addr} {Q : Env → Shared → Prop}
    (h : Q (newEnv scope s.heap.objs.size globals (cellsFrom (s.heap.objs.size + 1) scope.names closure) qual func code (some around) builtins)
      { s with heap := pushCells (s.heap.push { cls := .type "dict", data := .dict #[] }) scope.names }) :
    wpAny M A (newFunctionEnv scope globals closure [] qual func code (some around) builtins) Q E s := by
  simp only [newFunctionEnv, Option.isSome_some, if_true]
  refine wpAny_bind (wpAny_alloc ?_)
  refine wpAny_bind (wpAny_layCells _ (fun n k c => rfl) scope.names closure _ _ ?_)
  rw [show ({ s with heap := s.heap.push { cls := .type "dict", data := .dict #[] } } : Shared).heap.objs.size = s.heap.objs.size + 1 from Heap.size_push ..]
  rw [List.forIn_nil]
  exact wpAny_bind (wpAny_pure (wpAny_pure h))

/-- every name of the written scope, in the scope that runs -/
theorem lookup_relS {sc : Scope} : ∀ {names : List (Str × NameKind)} {x : Str} {k : NameKind},
    (names.map fun (n, k) => if (k == NameKind.free && sc.kind == .function && sc.names.lookup n == some .cell) then (n, NameKind.cell) else (n, k)).lookup x = some k →
    ∃ k', names.lookup x = some k' ∧ (k = k' ∨ (k' = .free ∧ k = .cell))
  | [], _, _, h => by simp at h
  | (n, k₀) :: r, x, k, h => by
    have ih := @lookup_relS sc r x k
    have h' : List.lookup x ((if (k₀ == NameKind.free && sc.kind == .function && sc.names.lookup n == some .cell) = true then (n, NameKind.cell) else (n, k₀)) :: (r.map _)) = some k := h
    cases hx : x == n with
    | true =>
      simp only [List.lookup_cons, hx]
      by_cases hc : (k₀ == NameKind.free && sc.kind == .function && sc.names.lookup n == some .cell) = true
      · rw [if_pos hc] at h'
        simp only [List.lookup_cons, hx] at h'
        cases h'
        simp only [Bool.and_eq_true, beq_iff_eq] at hc
        exact ⟨k₀, rfl, .inr ⟨hc.1.1, rfl⟩⟩
      · rw [if_neg hc] at h'
        simp only [List.lookup_cons, hx] at h'
        cases h'
        exact ⟨_, rfl, .inl rfl⟩
    | false =>
      simp only [List.lookup_cons, hx]
      by_cases hc : (k₀ == NameKind.free && sc.kind == .function && sc.names.lookup n == some .cell) = true
      · rw [if_pos hc] at h'
        simp only [List.lookup_cons, hx] at h'
        exact ih h'
      · rw [if_neg hc] at h'
        simp only [List.lookup_cons, hx] at h'
        exact ih h'
/-- the names of a comprehension's block: its own (with their places in N), or captured -/
structure BlkOk (N : List Str) (sc scope : Scope) (own : List (Str × Nat)) : Prop where
  kind : scope.kind = .function
  uniq : ∀ y ∈ scope.names, scope.names.lookup y.1 = some y.2
  ix : ∀ p ∈ own, N[p.2]? = some p.1
  free : ∀ y ∈ scope.names, y.2 = .free → sc.names.lookup y.1 = some .cell ∨ sc.names.lookup y.1 = some .free
  own : ∀ y ∈ scope.names, y.2 = .local ∨ y.2 = .cell → y.1 ∈ own.map (·.1) ∨ y.1 ∉ N
/-- the slots of the block's own names forgotten -/
def wipe (σ : St) : List Nat → St
  | [] => σ
  | v :: vs => (wipe σ vs).set v none
theorem wipe_length (σ : St) : ∀ vs : List Nat, (wipe σ vs).length = σ.length
  | [] => rfl
  | v :: vs => by unfold wipe; rw [List.length_set, wipe_length σ vs]
theorem wipe_some {σ : St} {i : Nat} {x : V} : ∀ {vs : List Nat}, (wipe σ vs)[i]? = some (some x) → σ[i]? = some (some x) ∧ i ∉ vs
  | [], h => ⟨h, by simp⟩
  | v :: vs, h => by
    unfold wipe at h
    by_cases hi : v = i
    · subst hi
      by_cases hv : v < (wipe σ vs).length
      · rw [List.getElem?_set_self hv] at h; cases h
      · rw [List.getElem?_eq_none (by simpa using hv)] at h; cases h
    · rw [List.getElem?_set_ne hi] at h
      obtain ⟨h1, h2⟩ := wipe_some h
      exact ⟨h1, by simp only [List.mem_cons, not_or]; exact ⟨fun e => hi e.symm, h2⟩⟩

/-- the context of a block that starts at s, its iterator's objects at fp -/
abbrev Cx.blk (X : Cx) (s : Shared) (H : Hp) (scope : Scope) (cenv : Env) (fp : List Addr) : Cx := { X with s_0 := s, H_0 := H, env := cenv, outer := X.stack, ex := fp, fn := fun x => scope.names.lookup x == some .cell, pn := [], xe := fun _ _ => False }
section
variable {X : Cx} {pins : List (Addr × Obj)} {σ : St} {H : Hp} {s : Shared}
theorem block_start {scope : Scope} {own : List (Str × Nat)} {fp : List Addr} (I : Inv X pins σ H s) (ok : BlkOk X.N X.env.scope scope own) (hN : X.N.Nodup) (hfp : ∀ b ∈ fp, FpOk X pins H b ∧ b < s.heap.objs.size) :
    Inv (X.blk s H scope (compEnvC scope (cellsFrom (s.heap.objs.size + 1) scope.names (cloFrom X.env.cells scope.names [])) s.heap.objs.size X.env) fp) [] (wipe σ (own.map (·.2))) H { s with heap := pushCells (s.heap.push { cls := .type "dict", data := .dict #[] }) scope.names } := by
  have hfree : ∀ y ∈ scope.names, y.2 = .free → ∃ c, X.env.cells.lookup y.1 = some c := fun y hy e => by
    rcases ok.free y hy e with k | k
    · exact I.ok.has _ (.inl k)
    · exact I.ok.has _ (.inr k)
  generalize hcenv : compEnvC scope (cellsFrom (s.heap.objs.size + 1) scope.names (cloFrom X.env.cells scope.names [])) s.heap.objs.size X.env = cenv
  have kp : ∀ b o, s.heap.get? b = some o → (pushCells (s.heap.push { cls := .type "dict", data := .dict #[] }) scope.names).get? b = some o := fun b o e => pushCells_keeps _ _ _ _ (Heap.get?_push_of_some _ e)
  have hL : cenv.locals = s.heap.objs.size := by rw [← hcenv]; rfl
  have hcl : cenv.cells = cellsFrom (s.heap.objs.size + 1) scope.names (cloFrom X.env.cells scope.names []) := by rw [← hcenv]; rfl
  have hsc : cenv.scope = relS scope X.env.scope := by rw [← hcenv]; rfl
  rw [← Heap.size_push s.heap { cls := .type "dict", data := .dict #[] }] at hcl
  have cm : ∀ {y c}, (y, c) ∈ cloFrom X.env.cells scope.names [] → X.env.cells.lookup y = some c ∧ c < s.heap.objs.size := fun {y c} hm => by
    rcases cloFrom_mem hm with hm | ⟨h1, rfl⟩
    · cases hm
    · obtain ⟨c, hc⟩ := hfree _ h1 rfl
      rw [hc]
      obtain ⟨w, z⟩ := I.cell _ _ hc
      exact ⟨rfl, z.lt⟩
  have mem : ∀ {y c}, cenv.cells.lookup y = some c → (X.env.cells.lookup y = some c ∧ c < s.heap.objs.size) ∨ (s.heap.objs.size + 1 ≤ c ∧ CellAt (pushCells (s.heap.push { cls := .type "dict", data := .dict #[] }) scope.names) c none) := fun {y c} e => by
    rw [hcl] at e
    rcases cells_mem (PySem.mem_of_lookup e) with hm | ⟨_, h2, h3⟩
    · exact .inl (cm hm)
    · rw [Heap.size_push] at h2; exact .inr ⟨h2, h3⟩
  have look : ∀ {y}, scope.names.lookup y = some .free → ∃ c, cenv.cells.lookup y = some c ∧ X.env.cells.lookup y = some c := fun {y} hl => by
    have hy : (y, NameKind.free) ∈ scope.names := PySem.mem_of_lookup hl
    obtain ⟨c', e'⟩ := mem_lookup (cells_acc (names := scope.names) (n := (s.heap.push { cls := .type "dict", data := .dict #[] }).objs.size) (cloFrom_has (cells := X.env.cells) (acc := []) hy))
    rw [← hcl] at e'
    refine ⟨c', e', ?_⟩
    rw [hcl] at e'
    rcases cells_mem (PySem.mem_of_lookup e') with hm | ⟨h1, _, _⟩
    · exact (cm hm).1
    · have := ok.uniq _ h1
      rw [hl] at this; cases this
  have okB : (X.blk s H scope cenv fp).Ok := by
    refine ⟨I.ok.mod, by show cenv.scope.kind = _; rw [hsc]; exact ok.kind, by show cenv.globals = _; rw [← hcenv]; exact I.ok.glob, by show cenv.builtins = _; rw [← hcenv]; exact I.ok.blt, by show s.heap.objs.size ≤ cenv.locals; rw [hL]; exact Nat.le_refl _,
      fun y z c e1 e2 => ?_, fun y hy => ?_, fun y c z e => ?_, I.ok.hd, I.ok.frames, .inl rfl, fun b hb => ⟨?_, fun y c e z => ?_⟩, I.bs, Nat.le_trans I.ok.bsz I.sz, fun b o e hb => ?_, fun b hb z => ?_, I.stack, I.stkFree, I.ok.tb.un I.base⟩
    · have e1 : cenv.cells.lookup y = some c := e1
      have e2 : cenv.cells.lookup z = some c := e2
      rw [hcl] at e1 e2
      refine cells_inj (fun p hp => ?_) (fun y z c a b => I.ok.inj y z c (cm a).1 (cm b).1) (PySem.mem_of_lookup e1) (PySem.mem_of_lookup e2)
      rw [Heap.size_push]
      exact Nat.lt_succ_of_lt (cm (y := p.1) (c := p.2) hp).2
    · show ∃ c, cenv.cells.lookup y = some c
      have key : ∀ k, cenv.kindOf y = some k → (k = .cell ∨ k = .free) → ∃ c, cenv.cells.lookup y = some c := fun k hk hk' => by
        unfold Env.kindOf at hk
        rw [hsc] at hk
        obtain ⟨k', e, r⟩ := lookup_relS hk
        have : k' = .cell ∨ k' = .free := by
          rcases r with rfl | ⟨rfl, _⟩
          · exact hk'
          · exact .inr rfl
        rcases this with rfl | rfl
        · obtain ⟨c, hm⟩ := cells_has (n := (s.heap.push { cls := .type "dict", data := .dict #[] }).objs.size) (acc := cloFrom X.env.cells scope.names []) (PySem.mem_of_lookup e)
          obtain ⟨c', e'⟩ := mem_lookup hm
          exact ⟨c', by rw [hcl]; exact e'⟩
        · obtain ⟨c, h1, _⟩ := look e
          exact ⟨c, h1⟩
      rcases hy with hy | hy
      · exact key _ hy (.inl rfl)
      · exact key _ hy (.inr rfl)
    · have z : (scope.names.lookup y == some NameKind.cell) = true := z
      have z : scope.names.lookup y = some .cell := by simpa using z
      have e : cenv.cells.lookup y = some c := e
      rw [hcl] at e
      rcases cells_mem (PySem.mem_of_lookup e) with hm | ⟨_, h2, _⟩
      · rcases cloFrom_mem hm with hm | ⟨h1, _⟩
        · cases hm
        · have q := ok.uniq _ h1
          rw [z] at q; cases q
      · rw [Heap.size_push] at h2
        exact Nat.le_of_succ_le h2
    · show b ≠ cenv.locals
      rw [hL]; exact Nat.ne_of_lt (hfp b hb).2
    · have e : cenv.cells.lookup y = some c := e
      rcases mem e with ⟨h1, _⟩ | ⟨h1, _⟩
      · exact (hfp b hb).1.2.2.2.2.1 y c h1 z
      · have h2 : s.heap.objs.size + 1 ≤ b := by rw [← z]; exact h1
        exact absurd (Nat.lt_of_lt_of_le (hfp b hb).2 (Nat.le_of_succ_le h2)) (Nat.lt_irrefl _)
    · rcases (hfp b hb).1.2.2.2.1 with z | z
      · exact I.ok.noex b o e z
      · exact absurd (Nat.lt_of_lt_of_le (Heap.lt_size e) (Nat.le_trans I.ok.bsz z)) (Nat.lt_irrefl _)
    · rcases List.mem_cons.mp (I.stkSub b z) with z | z
      · exact (hfp b hb).1.2.1 z
      · exact (hfp b hb).1.2.2.1 z
  refine ⟨okB, rfl, I.bareS, Un.kept kp, ⟨fun _ => none, ?_, fun i y av e1 e2 e3 => ?_⟩, fun y c e => ?_, ?_, fun y c e => ?_, fun p hp => ?_, I.hok.kept kp, by rw [wipe_length]; exact I.len⟩
  · show Heap.Ns _ cenv.locals _
    rw [hL]
    exact Heap.Ns.keeps (Heap.Ns.new ..) fun b o e => pushCells_keeps _ _ _ _ e
  · obtain ⟨e2, hne⟩ := wipe_some e2
    have hfr : scope.names.lookup y = some .free ∧ (cenv.kindOf y = some .cell ∨ cenv.kindOf y = some .free) := by
      have key : ∀ k, cenv.scope.names.lookup y = some k → k = .local ∨ k = .cell ∨ k = .free → scope.names.lookup y = some .free ∧ (cenv.kindOf y = some .cell ∨ cenv.kindOf y = some .free) := fun k hk hk' => by
        have hk0 := hk
        rw [hsc] at hk
        obtain ⟨k', e, r⟩ := lookup_relS hk
        have no : ¬ (k' = .local ∨ k' = .cell) := fun hh => by
          rcases ok.own _ (PySem.mem_of_lookup e) hh with e' | e'
          · obtain ⟨p, hp, hpy⟩ := List.mem_map.mp e'
            have e3 := ok.ix p hp
            have : p.1 = y := hpy
            rw [this] at e3
            exact hne (List.mem_map.mpr ⟨p, hp, nodup_ix hN e3 e1⟩)
          · exact e' (List.mem_of_getElem? e1)
        rcases r with rfl | ⟨rfl, rfl⟩
        · rcases hk' with rfl | rfl | rfl
          · exact absurd (.inl rfl) no
          · exact absurd (.inr rfl) no
          · exact ⟨e, .inr hk0⟩
        · exact ⟨e, .inl hk0⟩
      have e3 : Vis cenv.scope y := e3
      rcases e3 with e3 | e3 | e3
      · exact key _ e3 (.inl rfl)
      · exact key _ e3 (.inr (.inl rfl))
      · exact key _ e3 (.inr (.inr rfl))
    obtain ⟨m, hn, hl⟩ := I.loc
    have hvis : Vis X.env.scope y := (ok.free _ (PySem.mem_of_lookup hfr.1) rfl).elim (fun k => .inr (.inl k)) (fun k => .inr (.inr k))
    obtain ⟨w, r, q⟩ := hl i y av e1 e2 hvis
    refine ⟨w, r, .inr ⟨hfr.2, ?_⟩⟩
    obtain ⟨c, h1, h2⟩ := look hfr.1
    rcases q with ⟨k, _⟩ | ⟨_, c', e', z⟩
    · have k : X.env.scope.names.lookup y = some .local := k
      rcases ok.free _ (PySem.mem_of_lookup hfr.1) rfl with k' | k' <;> rw [show X.env.scope.names.lookup y = _ from k'] at k <;> cases k
    · rw [h2] at e'; cases e'
      exact ⟨c, h1, z.keeps kp⟩
  · have e : cenv.cells.lookup y = some c := e
    rcases mem e with ⟨h1, _⟩ | ⟨_, z⟩
    · obtain ⟨w, z⟩ := I.cell y c h1
      exact ⟨w, z.keeps kp⟩
    · exact ⟨_, z⟩
  · show H cenv.locals = none
    rw [hL]; exact I.hok.fresh (Nat.le_refl _)
  · have e : cenv.cells.lookup y = some c := e
    rcases mem e with ⟨h1, _⟩ | ⟨h1, _⟩
    · exact I.freeC y c h1
    · exact I.hok.fresh (Nat.le_of_succ_le h1)
  · exact absurd (show p ∈ ([] : List (Addr × Obj)) ++ [] from hp) (by simp)

/-- an item appended to a tracked list -/
theorem app_ok {E : Value → Shared → Prop} {D : Addr} {xs : List V} {y : V} {v : Value} {Q : Value → Shared → Prop} (I : Inv X pins σ H s) (hD : H D = some (.lst xs)) (hz : xs.length < sizeLine) (r : RelV y v)
    (h : ∀ s', Inv X pins σ (upd H D (.lst (xs ++ [y]))) s' → Q .none s') : wpAny (model X.prog X.w) X.A (call (.builtin "list.append") [.ref D, v]) Q E s := by
  obtain ⟨hz', its, n, ri, e⟩ := I.hok D _ hD
  have hl := ri.length
  refine append_at (hsz := by rw [List.size_toArray]; omega) e fun h' sb ho' => ?_
  refine h { s with heap := h' } (I.write (t' := s.toks) (by rw [hD]; trivial) (.inl rfl) (fun b u hb q => (sb.2 b hb).trans q) ⟨_, ho'⟩ ⟨by rw [List.length_append]; exact hz, its ++ [v], n + 1, ri.append (.cons r .nil), ?_⟩)
  rw [ho']
  simp

/-- a clause's tests -/
def PTs (X : Cx) (ifs : List Expr) (t : TT) : Prop :=
  ∀ (pins : List (Addr × Obj)) (s : Shared) (σ : St) (H : Hp) (Q : Bool → Hp → Prop), Inv X pins σ H s → t σ H Q →
    wpAny (model X.prog X.w) X.A (forIn ifs true fun c r => if r = true then do let ok ← isTrue c X.env (eval c X.env); pure (ForInStep.yield ok) else pure (ForInStep.yield r)) (TP X pins σ Q) X.xe s
def tYes : TT := fun _ H Q => Q true H
theorem pts_nil : PTs X [] tYes := fun _ _ _ H _ I h => wpAny_tests_nil ⟨H, I, h⟩
end

theorem thnF {α : Type} {t : Sem α} {Q Q' : α → Shared → Prop} {M : Model} {A : Around} {E : Value → Shared → Prop} {s : Shared} (h : wpAny M A t Q (fun _ _ => False) s) (hQ : ∀ a s, Q a s → Q' a s) : wpAny M A t Q' E s := wpAny_mono h hQ fun _ _ z => False.elim z

/-- the loop of a list comprehension's block, the target of any form (codeAny_compLoop_tests asks a target that no tuple goes to; statement and proof follow it, PyProof/CompMap.lean:41-61, with the step letOwnedTupleGo kept) -/
theorem compLoop_any {prog : Program} {w : World} {A : Around} {R : Result → Shared → Prop} {s : Shared} {elt target iter : Expr} {ifs : List Expr} {scope : Scope} {pos : Pos} {it acc : Value} {env : Env} (I : Nat → Shared → Prop)
    (turn : ∀ n s, I n s → wpAny (model prog w) A (pyNext it) (fun r s₁ => match r with
      | none => R (.ok .next) s₁
      | some v => wpAny (model prog w) A (letOwnedTupleGo target it v) (fun _ s₁' => wpAny (model prog w) A (assign target env v) (fun _ s₂ =>
          wpAny (model prog w) A (forIn ifs true fun c r => if r = true then do let ok ← isTrue c env (eval c env); pure (ForInStep.yield ok) else pure (ForInStep.yield r)) (fun ok s₃ =>
            if ok = true then wpAny (model prog w) A (eval elt env) (fun x s₄ =>
              wpAny (model prog w) A (call (.builtin "list.append") [acc, x]) (fun _ s₅ => ∃ m, m < n ∧ I m s₅) (notedBy (model prog w) A env fun e s' => R (.error e) s') s₄) (notedBy (model prog w) A env fun e s' => R (.error e) s') s₃
            else ∃ m, m < n ∧ I m s₃) (notedBy (model prog w) A env fun e s' => R (.error e) s') s₂) (notedBy (model prog w) A env fun e s' => R (.error e) s') s₁') (notedBy (model prog w) A env fun e s' => R (.error e) s') s₁) (notedBy (model prog w) A env fun e s' => R (.error e) s') s)
    (n : Nat) (h : I n s) :
    codeAny (model prog w) A (.compLoop (.ListComp elt [⟨target, iter, ifs, 0⟩] scope pos) 0 it acc env) R s := by
  refine codeAny_loop rfl I (fun n s hI => ?_) n h
  show wpAny _ A ((compTurn (.ListComp elt [⟨target, iter, ifs, 0⟩] scope pos) 0 it acc env).onRaise (fun x => do noteFrame x env; theTreesLotGoes x)) _ _ s
  refine wpAny_noted ?_
  rw [compTurn_list]
  refine wpAny_bind (wpAny_standAt (wpAny_bind (wpAny_mono (turn n s hI) (fun r s₁ h₁ => ?_) fun _ _ h' => h')))
  cases r with
  | none => exact wpAny_pure h₁
  | some v =>
    refine wpAny_bind (wpAny_mono h₁ (fun _ s₁' h₁' => ?_) fun _ _ h' => h')
    refine wpAny_bind (wpAny_mono h₁' (fun _ s₂ h₂ => wpAny_bind (wpAny_mono h₂ (fun ok s₃ h₃ => ?_) fun _ _ h' => h')) fun _ _ h' => h')
    cases ok with
    | false => exact wpAny_pure ⟨rfl, h₃⟩
    | true =>
      exact wpAny_bind (wpAny_bind (wpAny_mono h₃ (fun x s₄ h₄ => wpAny_bind (wpAny_mono h₄ (fun _ s₅ h₅ => wpAny_pure (wpAny_pure ⟨rfl, h₅⟩)) fun _ _ h' => h')) fun _ _ h' => h'))

section
variable {X : Cx}
/-- [elt for target in iter if ..]: D the new list; W by the turn and a measure, Nx what a turn is to reach -/
def tLc (wi : TI) (g : TG) (tt : TT) (te : TE) (vs : List Nat) : TE := fun σ H Q => wi σ H fun J H1 => ∀ D, H1 D = none → ∃ W : Nat → Nat → Hp → Prop, (∃ m, W 0 m (upd H1 D (.lst []))) ∧ ∀ i m H, W i m H →
  (J.stop i H ∧ Q (.ref D) H) ∨ (J.go i H ∧ ∃ Nx : Hp → Prop, (∀ H', Nx H' → ∃ m', m' < m ∧ W (i + 1) m' H') ∧ ∀ x H', J.yld i H x H' → g x (wipe σ vs) H' fun σ2 H2 => wipe σ2 vs = wipe σ vs ∧ tt σ2 H2 fun b H3 =>
    if b = true then te σ2 H3 fun y H4 => ∃ acc, H4 D = some (.lst acc) ∧ acc.length < sizeLine ∧ Nx (upd H4 D (.lst (acc ++ [y]))) else Nx H3)
theorem lc_core {pins : List (Addr × Obj)} {s : Shared} {σ : St} {H : Hp} {Q : VK} {elt tg iter : Expr} {ifs : List Expr} {scope : Scope} {own : List (Str × Nat)} {pos pos' : Pos} {wi : TI} {g : TG} {tt : TT} {te : TE} {use : Option (Value → Sem Unit)} {Qf : Value → Shared → Prop}
    (hc : X.calm = true) (hN : X.N.Nodup) (I : Inv X pins σ H s) (hi : PI X tg iter wi) (ok : BlkOk X.N X.env.scope scope own)
    (hg : ∀ (s : Shared) (H : Hp) (C : Addr) (cl : List (Str × Addr)) (fp : List Addr), PG (X.blk s H scope (compEnvC scope cl C X.env) fp) tg g) (ht : ∀ (s : Shared) (H : Hp) (C : Addr) (cl : List (Str × Addr)) (fp : List Addr), PTs (X.blk s H scope (compEnvC scope cl C X.env) fp) ifs tt)
    (he : ∀ (s : Shared) (H : Hp) (C : Addr) (cl : List (Str × Addr)) (fp : List Addr), PE (X.blk s H scope (compEnvC scope cl C X.env) fp) elt te) (hs : ∀ x, foldedSetIterable iter X.env x = pure x)
    (h : tLc wi g tt te (own.map (·.2)) σ H Q)
    (hRR : ∀ D C s' m H', Inv X pins σ H' s' → Q (.ref D) H' → s'.heap.Ns C m → FpOk X pins H' C → compPost (model X.prog X.w) X.A X.xe use Qf (.ref D) C (.ok .next) s') :
    wpAny (model X.prog X.w) X.A (comprehension (.ListComp elt [⟨tg, iter, ifs, 0⟩] scope pos) scope X.env pos' (newList []) false (eval iter X.env) use) Qf X.xe s := by
  have hfree : ∀ y ∈ scope.names, y.2 = .free → ∃ c, X.env.cells.lookup y.1 = some c := fun y hy e => by
    rcases ok.free y hy e with k | k
    · exact I.ok.has _ (.inl k)
    · exact I.ok.has _ (.inr k)
  refine wpAny_comprehension_free (use := use) rfl hs (closure_ok hfree) ok.kind (fun y hy e => by rw [ok.uniq y hy, e])
    (thn (hi pins s σ H _ I h) fun xv s1 hx => thn hx fun itv s2 h2 => ?_)
  obtain ⟨it, fp, tn, J, H2, e, I2, T, st2, f2, q⟩ := h2
  subst e
  refine wpAny_newObj_type (newEnv_comp ?_) (by show 0 ≤ sizeLine; decide)
  generalize hD : s2.heap.objs.size = D
  have hDn : H2 D = none := I2.hok.fresh (Nat.le_of_eq hD)
  obtain ⟨W, ⟨m0, w0⟩, turn⟩ := q D hDn
  -- the new list
  generalize hs3 : ({ s2 with heap := s2.heap.push { cls := .type "list", data := .seq ([] : List Value).toArray } } : Shared) = s3
  have I3 : Inv X pins σ (upd H2 D (.lst [])) s3 := by
    rw [← hs3]
    refine I2.laid (t' := s2.toks) (fun b o e => Heap.get?_push_of_some _ e) (Nat.le_of_eq hD) ⟨Nat.zero_le _, [], 0, .nil, ?_⟩
    rw [← hD]
    exact Heap.get?_push_size _ rfl
  have h3 : s3.heap = s2.heap.push { cls := .type "list", data := .seq ([] : List Value).toArray } := by rw [← hs3]
  have sz : ∀ b ∈ fp, b < s2.heap.objs.size := fun b hb => by
    obtain ⟨o, e, _⟩ := T.obj _ _ st2 b hb
    exact Heap.lt_size e
  have f3 : ∀ b ∈ fp, FpOk X pins (upd H2 D (.lst [])) b ∧ b < s3.heap.objs.size := fun b hb => by
    have hlt := sz b hb
    refine ⟨⟨?_, (f2 b hb).2⟩, by rw [h3, Heap.size_push]; exact Nat.lt_succ_of_lt hlt⟩
    rw [upd_ne (by rw [← hD]; exact Nat.ne_of_lt hlt)]
    exact (f2 b hb).1
  have st3 : tn 0 s3.heap := T.keep _ _ _ st2 fun b _ o e => by rw [h3]; exact Heap.get?_push_of_some _ e
  have I4 := block_start I3 ok hN f3
  have pg := hg s3 (upd H2 D (.lst [])) s3.heap.objs.size (cellsFrom (s3.heap.objs.size + 1) scope.names (cloFrom X.env.cells scope.names [])) fp
  have pt := ht s3 (upd H2 D (.lst [])) s3.heap.objs.size (cellsFrom (s3.heap.objs.size + 1) scope.names (cloFrom X.env.cells scope.names [])) fp
  have pe := he s3 (upd H2 D (.lst [])) s3.heap.objs.size (cellsFrom (s3.heap.objs.size + 1) scope.names (cloFrom X.env.cells scope.names [])) fp
  show codeAny _ _ (.compStart (.ListComp elt [⟨tg, iter, ifs, 0⟩] scope pos) 0 (.ref it) (.ref D) (compEnvC scope (cellsFrom (s3.heap.objs.size + 1) scope.names (cloFrom X.env.cells scope.names [])) s3.heap.objs.size X.env)) (compPost (model X.prog X.w) X.A X.xe use Qf (.ref D) s3.heap.objs.size) { s3 with heap := pushCells (s3.heap.push { cls := .type "dict", data := .dict #[] }) scope.names }
  have nfp : ∀ b ∈ fp, (upd H2 D (.lst [])) b = none := fun b hb => (f3 b hb).1.1
  generalize hce : compEnvC scope (cellsFrom (s3.heap.objs.size + 1) scope.names (cloFrom X.env.cells scope.names [])) s3.heap.objs.size X.env = ce at I4 pg pt pe ⊢
  have cL : ce.locals = s3.heap.objs.size := by subst hce; rfl
  generalize hH3 : upd H2 D (.lst []) = H3 at I3 I4 pg pt pe w0 nfp f3
  generalize hs4 : ({ s3 with heap := pushCells (s3.heap.push { cls := .type "dict", data := .dict #[] }) scope.names } : Shared) = s4 at I4 ⊢
  have st4 : tn 0 s4.heap := T.keep _ _ _ st3 fun b _ o e => by rw [← hs4]; exact pushCells_keeps _ _ _ _ (Heap.get?_push_of_some _ e)
  have stat : ∀ {σ' : St} {H' : Hp} {s' : Shared}, Inv (X.blk s3 H3 scope ce fp) [] σ' H' s' → (∀ b ∈ fp, H' b = none) → ∀ b ∈ fp, FpOk (X.blk s3 H3 scope ce fp) [] H' b := fun {σ' H' s'} I' hn b hb =>
    ⟨hn b hb, (I'.ok.exf b hb).1, I'.ok.exfs b hb, .inl hb, fun x c e => (I'.ok.exf b hb).2 x c e, fun p hp => absurd (show p ∈ ([] : List (Addr × Obj)) ++ [] from hp) (by simp)⟩
  have loop : codeAny (model X.prog X.w) X.A (.compLoop (.ListComp elt [⟨tg, iter, ifs, 0⟩] scope pos) 0 (.ref it) (.ref D) ce) (compPost (model X.prog X.w) X.A X.xe use Qf (.ref D) s3.heap.objs.size) s4 := by
    refine compLoop_any (fun n s' => ∃ i H', Inv (X.blk s3 H3 scope ce fp) [] (wipe σ (own.map (·.2))) H' s' ∧ tn i s'.heap ∧ (∀ b ∈ fp, H' b = none) ∧ W i n H') ?_ m0 ⟨0, H3, I4, st4, nfp, w0⟩
    rintro n s5 ⟨i, H5, I5, st5, n5, w5⟩
    rcases turn i n H5 w5 with ⟨stop, qq⟩ | ⟨go, Nx, hNx, step⟩
    · have td := T.done (X.blk s3 H3 scope ce fp) rfl rfl rfl hc i [] s5 _ H5 (fun _ _ => False) I5 (stat I5 n5) st5 stop
      refine thnF td fun r s6 ⟨hr, I6⟩ => ?_
      subst hr
      -- back in the def's context
      have I7 : Inv X pins σ H5 s6 := I3.call' (ch := fp) I6.os I6.base I6.hok I6.bare fun b hb => ⟨(f3 b hb).1.2.2.2.1, (f3 b hb).1.2.1, (f3 b hb).1.2.2.2.2.1, (f3 b hb).1.2.2.2.2.2⟩
      have nC : H5 s3.heap.objs.size = none := by
        have z : H5 ce.locals = none := I6.free
        rw [cL] at z
        exact z
      obtain ⟨m, hn, _⟩ := I6.loc
      have hn : s6.heap.Ns ce.locals m := hn
      rw [cL] at hn
      exact hRR D s3.heap.objs.size s6 m H5 I7 qq hn (I3.fpOk (Nat.le_refl _) nC)
    · have ti := T.item (X.blk s3 H3 scope ce fp) rfl rfl rfl hc i [] s5 _ H5 (fun _ _ => False) I5 (stat I5 n5) st5 go
      refine thnF ti fun r s6 ⟨u, hr, h6⟩ => ?_
      subst hr
      refine thnF h6 fun _ s7 ⟨x, H7, I7, r7, y7, st7, n7⟩ => ?_
      have I7' := I7.pinned (stat I7 n7) (T.obj _ _ st7)
      refine thnF (pg _ s7 _ H7 x u _ I7' r7 (step x H7 y7)) fun _ s8 ⟨σ8, H8, I8, hw8, q8⟩ => ?_
      refine thnF (pt _ s8 σ8 H8 _ I8 q8) fun b s9 ⟨H9, I9, q9⟩ => ?_
      -- the turn's end
      have fin : ∀ {s' : Shared} {H' : Hp}, Inv (X.blk s3 H3 scope ce fp) ([] ++ pinsAt fp s7.heap) σ8 H' s' → Nx H' → ∃ m, m < n ∧ ∃ i H', Inv (X.blk s3 H3 scope ce fp) [] (wipe σ (own.map (·.2))) H' s' ∧ tn i s'.heap ∧ (∀ b ∈ fp, H' b = none) ∧ W i m H' := fun {s' H'} I' nx => by
        obtain ⟨m', hm, w'⟩ := hNx H' nx
        have pin' : ∀ b ∈ fp, ∀ o, s7.heap.get? b = some o → s'.heap.get? b = some o ∧ H' b = none := fun b hb o e =>
          let z := I'.pin (b, o) (List.mem_append_right _ (List.mem_append_right _ (mem_pinsAt hb e)))
          ⟨z.1, z.2.1⟩
        have hl : (wipe σ (own.map (·.2))).length = σ8.length := by rw [← hw8, wipe_length]
        refine ⟨m', hm, i + 1, H', (I'.unpinned (pins := [])).weak hl (fun j v e => ?_), T.keep _ _ _ st7 fun b hb o e => (pin' b hb o e).1, fun b hb => ?_, w'⟩
        · rw [← hw8] at e
          exact (wipe_some e).1
        · obtain ⟨o, e, _⟩ := T.obj _ _ st7 b hb
          exact (pin' b hb o e).2
      cases b with
      | false =>
        simp only [Bool.false_eq_true, if_false] at q9 ⊢
        exact fin I9 q9
      | true =>
        simp only [if_true] at q9 ⊢
        refine thnF (pe _ s9 σ8 H9 _ I9 q9) fun z s10 ⟨yv, H10, I10, r10, acc, hD10, hz10, nx⟩ => ?_
        exact app_ok (X := X.blk s3 H3 scope ce fp) I10 hD10 hz10 r10 fun s11 I11 => fin I11 nx
  exact codeAny_compStart_list loop (T.self X.A 0 _ _ _ st4 loop)
/-- as a value -/
theorem pe_lc {elt tg iter : Expr} {ifs : List Expr} {scope : Scope} {own : List (Str × Nat)} {pos : Pos} {wi : TI} {g : TG} {tt : TT} {te : TE} (hc : X.calm = true) (hN : X.N.Nodup) (hi : PI X tg iter wi) (ok : BlkOk X.N X.env.scope scope own)
    (hg : ∀ (s : Shared) (H : Hp) (C : Addr) (cl : List (Str × Addr)) (fp : List Addr), PG (X.blk s H scope (compEnvC scope cl C X.env) fp) tg g) (ht : ∀ (s : Shared) (H : Hp) (C : Addr) (cl : List (Str × Addr)) (fp : List Addr), PTs (X.blk s H scope (compEnvC scope cl C X.env) fp) ifs tt)
    (he : ∀ (s : Shared) (H : Hp) (C : Addr) (cl : List (Str × Addr)) (fp : List Addr), PE (X.blk s H scope (compEnvC scope cl C X.env) fp) elt te) (hs : ∀ x, foldedSetIterable iter X.env x = pure x := by intro _; rfl) :
    PE X (.ListComp elt [⟨tg, iter, ifs, 0⟩] scope pos) (tLc wi g tt te (own.map (·.2))) := by
  intro pins s σ H Q I h
  rw [eval_ListComp]
  refine lc_core hc hN I hi ok hg ht he hs h fun D C s' m H' I' q hn f => ⟨m, hn, fun h'' sb => ?_⟩
  obtain ⟨f0, f1, f2, f3, f4, f5⟩ := f
  exact ⟨.ref D, H', I'.turned (t' := s'.toks) (fun b o hb e => (sb.2 b hb).trans e) f0 f1 f3 f4 f5, rfl, q⟩
end

/-- over a list that the block leaves as it is -/
theorem lc_list {K : PySem.W.Frag} {a : Addr} {xs : List V} {g : TG} {tt : TT} {te : TE} {vs : List Nat} {σ : St} {H1 : Hp} {D : Addr} {Qd : Hp → Prop} (Pv : Nat → Hp → Prop) (h0 : Pv 0 (upd H1 D (.lst []))) (hl : ∀ i H, i ≤ xs.length → Pv i H → SqL K H a xs)
    (hs : ∀ i x H, xs[i]? = some x → Pv i H → g x (wipe σ vs) H fun σ2 H2 => wipe σ2 vs = wipe σ vs ∧ tt σ2 H2 fun b H3 =>
      if b = true then te σ2 H3 fun y H4 => ∃ acc, H4 D = some (.lst acc) ∧ acc.length < sizeLine ∧ Pv (i + 1) (upd H4 D (.lst (acc ++ [y]))) else Pv (i + 1) H3) (hd : ∀ H, Pv xs.length H → Qd H) :
    ∃ W : Nat → Nat → Hp → Prop, (∃ m, W 0 m (upd H1 D (.lst []))) ∧ ∀ i m H, W i m H →
      ((Itl K a).stop i H ∧ Qd H) ∨ ((Itl K a).go i H ∧ ∃ Nx : Hp → Prop, (∀ H', Nx H' → ∃ m', m' < m ∧ W (i + 1) m' H') ∧ ∀ x H', (Itl K a).yld i H x H' → g x (wipe σ vs) H' fun σ2 H2 => wipe σ2 vs = wipe σ vs ∧ tt σ2 H2 fun b H3 =>
        if b = true then te σ2 H3 fun y H4 => ∃ acc, H4 D = some (.lst acc) ∧ acc.length < sizeLine ∧ Nx (upd H4 D (.lst (acc ++ [y]))) else Nx H3) := by
  refine ⟨fun i m H => m = xs.length - i ∧ i ≤ xs.length ∧ Pv i H, ⟨xs.length, by simp, Nat.zero_le _, h0⟩, ?_⟩
  rintro i m H ⟨rfl, hi, p⟩
  have q := hl i H hi p
  by_cases hlt : i < xs.length
  · refine .inr ⟨⟨xs, xs[i], q, by simp [hlt]⟩, Pv (i + 1), fun H' p' => ⟨xs.length - (i + 1), by omega, rfl, hlt, p'⟩, fun x H' y => ?_⟩
    obtain ⟨e, y⟩ := y
    subst e
    exact hs i x _ (y xs q) p
  · have e : i = xs.length := by omega
    subst e
    exact .inl ⟨⟨xs, q, Nat.le_refl _⟩, hd H p⟩
def blkC (N : List Str) (sc scope : Scope) (own : List (Str × Nat)) : Bool :=
  (match scope.kind with | .function => true | _ => false) && (scope.names.all fun y => decide (scope.names.lookup y.1 = some y.2)) && (own.all fun p => decide (N[p.2]? = some p.1)) &&
    (scope.names.all fun y => match y.2 with
      | .free => (match sc.names.lookup y.1 with | some .cell => true | some .free => true | _ => false)
      | .local => decide (y.1 ∈ own.map (·.1)) || decide (y.1 ∉ N)
      | .cell => decide (y.1 ∈ own.map (·.1)) || decide (y.1 ∉ N)
      | _ => true)
theorem blkOk_by {N : List Str} {sc scope : Scope} {own : List (Str × Nat)} (h : blkC N sc scope own = true) : BlkOk N sc scope own := by
  unfold blkC at h
  simp only [Bool.and_eq_true, List.all_eq_true, decide_eq_true_eq] at h
  obtain ⟨⟨⟨h1, h2⟩, h3⟩, h4⟩ := h
  refine ⟨?_, h2, h3, fun y hy e => ?_, fun y hy e => ?_⟩
  · split at h1
    · assumption
    · cases h1
  · have q := h4 y hy
    simp only [e] at q
    split at q <;> first | exact .inl (by assumption) | exact .inr (by assumption) | cases q
  · have q := h4 y hy
    rcases e with e | e <;> (simp only [e, Bool.or_eq_true, decide_eq_true_eq] at q; exact q)
end L2

namespace L2
open PySem PySem.Spec PyProof.Rows

section
variable {prog : Program} {w : World} {A : Around} {R : Result → Shared → Prop} {s : Shared} {elt t0 i0 t1 i1 : Expr} {ifs0 ifs1 : List Expr} {scope : Scope} {pos : Pos} {it acc : Value} {env : Env}
end

section
variable {X : Cx}
end
end L2

namespace L2
open PySem PySem.Spec PyProof.Rows

section
variable {κ : Type} [DecidableEq κ]
def valV (kvs : List (κ × V)) (k : κ) : Option V := (kvs.find? fun kv => decide (kv.1 = k)).map (·.2)
/-- in its place, or at the end -/
def putK (kvs : List (κ × V)) (k : κ) (v : V) : List (κ × V) :=
  if (kvs.any fun kv => decide (kv.1 = k)) = true then kvs.map (fun kv => if kv.1 = k then (kv.1, v) else kv) else kvs ++ [(k, v)]
def dropK (kvs : List (κ × V)) (k : κ) : List (κ × V) := kvs.filter fun kv => decide (kv.1 ≠ k)

theorem valV_pos {p : κ × V} {r : List (κ × V)} {k : κ} (e : p.1 = k) : valV (p :: r) k = some p.2 := by simp [valV, List.find?_cons, e]
theorem valV_neg {p : κ × V} {r : List (κ × V)} {k : κ} (e : ¬ p.1 = k) : valV (p :: r) k = valV r k := by simp [valV, List.find?_cons, e]
theorem RelO.getD {o : Option V} {u : Option Value} {d : V} {d' : Value} (r : RelO o u) (rd : RelV d d') : RelV (o.getD d) (u.getD d') := by
  cases o with
  | none => cases u with
    | none => exact rd
    | some _ => exact (show False from r).elim
  | some _ => cases u with
    | none => exact (show False from r).elim
    | some _ => exact r

/-- raw tables of the same keys -/
theorem KV.val {kvs : List (κ × V)} {vs : List (κ × Value)} (r : KV kvs vs) (k : κ) : RelO (valV kvs k) (valueAt vs k) := by
  unfold KV at r
  induction r with
  | nil => exact True.intro
  | @cons p q ps qs h t ih =>
    obtain ⟨h1, h2⟩ := h
    by_cases e : p.1 = k
    · have e' : q.1 = k := h1.symm.trans e
      have b : valueAt (q :: qs) k = some q.2 := by simp [valueAt, List.find?_cons, e']
      rw [valV_pos e, b]; exact h2
    · have e' : ¬ q.1 = k := fun z => e (h1.trans z)
      have b : valueAt (q :: qs) k = valueAt qs k := by simp [valueAt, List.find?_cons, e']
      rw [valV_neg e, b]; exact ih
theorem KV.any {kvs : List (κ × V)} {vs : List (κ × Value)} (r : KV kvs vs) (k : κ) : (kvs.any fun kv => decide (kv.1 = k)) = vs.any fun kv => decide (kv.1 = k) := by
  unfold KV at r
  induction r with
  | nil => rfl
  | cons h t ih => rw [List.any_cons, List.any_cons, ih, h.1]
theorem KV.drop {kvs : List (κ × V)} {vs : List (κ × Value)} (r : KV kvs vs) (k : κ) : KV (dropK kvs k) (without vs k) := by
  unfold KV at r ⊢
  unfold dropK without
  induction r with
  | nil => exact .nil
  | @cons p q ps qs h t ih =>
    obtain ⟨h1, h2⟩ := h
    rw [List.filter_cons, List.filter_cons]
    by_cases e : p.1 = k
    · have a : ¬ decide (p.1 ≠ k) = true := by simp [e]
      have b : ¬ decide (q.1 ≠ k) = true := by simp [h1.symm.trans e]
      rw [if_neg a, if_neg b]; exact ih
    · have e' : ¬ q.1 = k := fun z => e (h1.trans z)
      have a : decide (p.1 ≠ k) = true := by simp [e]
      have b : decide (q.1 ≠ k) = true := by simp [e']
      rw [if_pos a, if_pos b]; exact .cons ⟨h1, h2⟩ ih
theorem KV.keys {kvs : List (κ × V)} {vs : List (κ × Value)} (r : KV kvs vs) : kvs.map (·.1) = vs.map (·.1) := by
  unfold KV at r
  induction r with
  | nil => rfl
  | cons h t ih => rw [List.map_cons, List.map_cons, ih, h.1]
theorem KV.length {kvs : List (κ × V)} {vs : List (κ × Value)} (r : KV kvs vs) : kvs.length = vs.length := Paired.length r
end


/-- raw entries of a dict with tuple keys -/
abbrev KT (H : Hp) : List (List Key × V) → List (List Key × Addr × Value) → Prop := Paired fun p q => p.1 = q.1 ∧ H q.2.1 = some (.tup (p.1.map kV)) ∧ RelV p.2 q.2.2
theorem KT.val {H : Hp} {kvs : List (List Key × V)} {xs : List (List Key × Addr × Value)} (r : KT H kvs xs) (k : List Key) : RelO (valV kvs k) ((atKey xs k).map (·.2)) := by
  induction r with
  | nil => exact True.intro
  | @cons p q ps qs h t ih =>
    obtain ⟨h1, _, h2⟩ := h
    by_cases e : p.1 = k
    · have e' : q.1 = k := h1.symm.trans e
      have b : atKey (q :: qs) k = some q.2 := by simp [atKey, List.find?_cons, e']
      rw [valV_pos e, b]; exact h2
    · have e' : ¬ q.1 = k := fun z => e (h1.trans z)
      have b : atKey (q :: qs) k = atKey qs k := by simp [atKey, List.find?_cons, e']
      rw [valV_neg e, b]; exact ih
theorem KT.keeps {H H' : Hp} {kvs : List (List Key × V)} {xs : List (List Key × Addr × Value)} (r : KT H kvs xs) (ht : ∀ b ys, H b = some (.tup ys) → H' b = some (.tup ys)) : KT H' kvs xs :=
  Paired.mapP r fun _ _ z => ⟨z.1, ht _ _ z.2.1, z.2.2⟩

section
variable {P : Program} {w : World} {H : Hp} {h : Heap} {a : Addr}
theorem rd_of {u : HO} (ok : HOk P w H h) (e : Rd H a u) : ObjOk P w H h a u := e.ok ok
theorem dk_rd {kvs : List (Key × V)} (ok : HOk P w H h) (e : Rd H a (.dK kvs)) : kvs.length ≤ sizeLine ∧ (a == sysModules) = false ∧ ∃ vs, KV kvs vs ∧ h.DictOf (mixKind P w) a vs :=
  show ObjOk P w H h a (.dK kvs) from rd_of ok e
theorem dk_of {kvs : List (Key × V)} (ok : HOk P w H h) (e : H a = some (.dK kvs)) : kvs.length ≤ sizeLine ∧ (a == sysModules) = false ∧ ∃ vs, KV kvs vs ∧ h.DictOf (mixKind P w) a vs := dk_rd ok (.inl e)
end

/-- what the dict at a holds at the key y -/
def DGet (H : Hp) (a : Addr) (y : V) (r : Option V) : Prop :=
  (∃ kvs k, Rd H a (.dK kvs) ∧ y = kV k ∧ r = valV kvs k) ∨ ∃ kvs k b, Rd H a (.dT kvs) ∧ y = .ref b ∧ H b = some (.tup (k.map kV)) ∧ r = valV kvs k
/-- the heap behind a[y] = v -/
def DPut (H : Hp) (a : Addr) (y v : V) (H' : Hp) : Prop :=
  (∃ kvs k, H a = some (.dK kvs) ∧ y = kV k ∧ kvs.length < sizeLine ∧ H' = upd H a (.dK (putK kvs k v))) ∨
  ∃ kvs k b, H a = some (.dT kvs) ∧ y = .ref b ∧ H b = some (.tup (k.map kV)) ∧ kvs.length < sizeLine ∧ H' = upd H a (.dT (putK kvs k v))
theorem DGet.k {H : Hp} {a : Addr} {kvs : List (Key × V)} {k : Key} (e : H a = some (.dK kvs)) : DGet H a (kV k) (valV kvs k) := .inl ⟨kvs, k, .inl e, rfl, rfl⟩
theorem DGet.t {H : Hp} {a b : Addr} {kvs : List (List Key × V)} {k : List Key} (e : H a = some (.dT kvs)) (eb : H b = some (.tup (k.map kV))) : DGet H a (.ref b) (valV kvs k) := .inr ⟨kvs, k, b, .inl e, rfl, eb, rfl⟩
theorem DPut.k {H : Hp} {a : Addr} {kvs : List (Key × V)} {k : Key} {v : V} (e : H a = some (.dK kvs)) (hl : kvs.length < sizeLine) : DPut H a (kV k) v (upd H a (.dK (putK kvs k v))) := .inl ⟨kvs, k, e, rfl, hl, rfl⟩
theorem DPut.t {H : Hp} {a b : Addr} {kvs : List (List Key × V)} {k : List Key} {v : V} (e : H a = some (.dT kvs)) (eb : H b = some (.tup (k.map kV))) (hl : kvs.length < sizeLine) :
    DPut H a (.ref b) v (upd H a (.dT (putK kvs k v))) := .inr ⟨kvs, k, b, e, rfl, eb, hl, rfl⟩


section
variable {X : Cx} {pins : List (Addr × Obj)} {σ : St} {H : Hp} {s : Shared} {a : Addr} {y v : V} {u r : Value} {o : Option V} {A : Around} {E : Value → Shared → Prop}

end

section
variable {X : Cx} {pins : List (Addr × Obj)} {σ : St} {H : Hp} {s : Shared} {a : Addr} {kvs : List (Key × V)} {k : Key} {u : Value} {A : Around} {E : Value → Shared → Prop}
end


section
variable {X : Cx} {o i e value : Expr} {pos pos' tpos : Pos} {td ty tv : TE}
end


section
variable {X : Cx} {pos : Pos}
end

/-- a method call o.m(e) of a built-in, with one argument: what must be seen of the text -/
structure M1 (X : Cx) (o : Expr) (m : Str) (apos : Pos) (e : Expr) (cpos : Pos) : Prop where
  base : attributeBase o m X.env (eval o X.env) = eval o X.env
  few : ((backTo cpos (starEach [e] X.env)).all (fun x => !x.1) && (backToKw cpos (keywordEach [] X.env)).all (fun x => x.1.isSome)
    && decide (([e] : List Expr).length + ([] : List Keyword).length + (if ([] : List Keyword).isEmpty then 0 else 1) < 30)) = true
  line : (apos.endLine == cpos.line) = true
  trees : backTo cpos (starEach [e] X.env) = [(false, eval e X.env)]
structure M2 (X : Cx) (o : Expr) (m : Str) (apos : Pos) (e f : Expr) (cpos : Pos) : Prop where
  base : attributeBase o m X.env (eval o X.env) = eval o X.env
  few : ((backTo cpos (starEach [e, f] X.env)).all (fun x => !x.1) && (backToKw cpos (keywordEach [] X.env)).all (fun x => x.1.isSome)
    && decide (([e, f] : List Expr).length + ([] : List Keyword).length + (if ([] : List Keyword).isEmpty then 0 else 1) < 30)) = true
  line : (apos.endLine == cpos.line) = true
  trees : backTo cpos (starEach [e, f] X.env) = [(false, eval e X.env), (false, eval f X.env)]

section
variable {X : Cx} {pins : List (Addr × Obj)} {σ : St} {H : Hp} {s : Shared} {a : Addr} {y d : V} {u r : Value} {o : Option V} {A : Around} {E : Value → Shared → Prop}
end

section
variable {X : Cx} {o e f : Expr} {apos cpos : Pos} {td ty tx : TE}
end

section
variable {X : Cx} {pins : List (Addr × Obj)} {σ : St} {H : Hp} {s : Shared} {a : Addr} {kvs : List (Key × V)} {A : Around} {E : Value → Shared → Prop}
end


section
variable {X : Cx} {pins : List (Addr × Obj)} {σ : St} {H : Hp} {s : Shared} {a : Addr} {y : V} {u : Value} {A : Around} {E : Value → Shared → Prop}
end
end L2

namespace L2
open PySem PySem.Spec PyProof.Rows

section
variable {prog : Program} {w : World} {A : Around} {E : Value → Shared → Prop}
end

section
variable {X : Cx}
end
end L2

namespace L2
open PySem PySem.Spec PyProof.Rows

section
variable {X : Cx} {pins : List (Addr × Obj)} {σ : St} {H : Hp} {s : Shared} {h' : Heap}
end
section
variable {X : Cx}
theorem pi_one {tg : Expr} {pins : List (Addr × Obj)} {σ : St} {H : Hp} {s : Shared} {R : It → Hp → Prop} {J : It} {tn : Nat → Heap → Prop} {tk : Nat} (I : Inv X pins σ H s) (o : Obj)
    (T : Turn X.prog X.w X.K tg J [s.heap.objs.size] s.heap.objs.size tn) (st : tn 0 (s.heap.push o)) (q : R J H) : PIE X pins σ tg R (.ref s.heap.objs.size) { s with heap := s.heap.push o, toks := tk } := by
  refine ⟨s.heap.objs.size, [s.heap.objs.size], tn, J, H, rfl, I.kept fun b ob e => Heap.get?_push_of_some _ e, T, st, fun b hb => ?_, q⟩
  have e : b = s.heap.objs.size := by simpa using hb
  subst e
  exact I.fpOk (Nat.le_refl _) (I.hok.fresh (Nat.le_refl _))
end

/-- range(i, j, c): small bounds, n items -/
def RgC (i j c : Int) (n : Nat) : Prop := c ≠ 0 ∧ c.natAbs < 1073741824 ∧ Builtin.Range.small i j c = true ∧ Builtin.Range.rangeSize i j c = n
theorem RgC.neg {i j : Int} (ha : -(2 ^ 62) ≤ i) (ha' : i < 2 ^ 62) (hb : -(2 ^ 62) ≤ j) (hb' : j < 2 ^ 62) : RgC i j (-1) (i - j).toNat :=
  ⟨by decide, by decide, PySem.W.small_down ha ha' hb hb', PySem.W.rangeSize_downNat i j⟩
section
variable {X : Cx} {tg : Expr}
end
section
variable {X : Cx} {tg : Expr}
end

def Its (x : Str) : It := ⟨fun i _ => i < x.cps.size, fun i H v H' => H' = H ∧ ∃ c, x.cps[i]? = some c ∧ v = .str ⟨#[c]⟩, fun i _ => x.cps.size ≤ i⟩
theorem turn_str {P : Program} {w : World} {K : PySem.W.Frag} {tg : Expr} (it : Addr) (x : Str) (t : Tok) (ty : String) (hty : ty = "str_ascii_iterator" ∨ ty = "str_iterator") :
    Turn P w K tg (Its x) [it] it (fun i h => h.IsStrIter it ty x t i) where
  mem := by simp
  obj := fun i h st b hb => by
    have e : b = it := by simpa using hb
    subst e
    obtain ⟨o, e, c, d⟩ := st
    exact ⟨o, e, fun v z => by rw [d] at z; cases z⟩
  keep := fun i h h' st k => let ⟨o, ho, r⟩ := st; ⟨o, k it (by simp) o ho, r⟩
  item := by
    intro X hP hw hK hc i pins s σ H E I hf st hg
    subst hP hw hK
    obtain ⟨f0, f1, f2, f3, f4, f5⟩ := hf it (by simp)
    have W : Walks X.prog X.w X.A it [it] [it] x.cps.size (SignAt x) (fun i h => h.IsStrIter it ty x t i) := by
      rcases hty with e | e
      · rw [e]; exact Walks.strAscii (I.ok.hd hc) it x t
      · rw [e]; exact Walks.strWide (I.ok.hd hc) it x t
    have hno : ["enumerate", "zip", "dict_itemiterator", "dict_reverseitemiterator", "odict_iterator", "itertools.zip_longest", "itertools.pairwise"].contains ty = false := by
      rcases hty with e | e
      · rw [e]; decide
      · rw [e]; decide
    refine W.item i s _ _ hg st fun v h' tk hv st' kk => ?_
    obtain ⟨c, u, hcx, rfl⟩ := hv
    have I1 : Inv X pins σ H { s with heap := h', toks := tk } := I.turned (fun b o hb e => kk b o (by simpa using hb) e) f0 f1 f3 f4 f5
    obtain ⟨oi, e, cc, dd⟩ := id st'
    exact ⟨_, rfl, go_of (s := { s with heap := h', toks := tk }) e cc dd hno ⟨.str ⟨#[c]⟩, H, I1, ⟨u, rfl⟩, ⟨rfl, c, hcx, rfl⟩, st', fun b hb => (hf b hb).1⟩⟩
  done := by
    intro X hP hw hK hc i pins s σ H E I hf st hg
    subst hP hw hK
    obtain ⟨f0, f1, f2, f3, f4, f5⟩ := hf it (by simp)
    have hx : x.cps[i]? = none := Array.getElem?_eq_none hg
    rcases hty with e | e
    · rw [e] at st
      exact wpAny_pyNext_ascii_end (I.ok.hd hc) st hx fun h' eb => ⟨rfl, I.turned (t' := s.toks) (fun b o hb e => eb b o hb e) f0 f1 f3 f4 f5⟩
    · rw [e] at st
      exact wpAny_pyNext_wide_end (I.ok.hd hc) st hx fun h' eb => ⟨rfl, I.turned (t' := s.toks) (fun b o hb e => eb b o hb e) f0 f1 f3 f4 f5⟩
  self := fun A i s Q E st h => by
    rcases hty with e | e
    · rw [e] at st; exact wpAny_pyIter_striter_ascii st h
    · rw [e] at st; exact wpAny_pyIter_striter_wide st h
def iStr (te : TE) : TI := fun σ H R => te σ H fun v H1 => ∃ x, v = .str x ∧ R (Its x) H1
theorem pi_str {X : Cx} {tg e : Expr} {te : TE} (he : PE X e te) : PI X tg e (iStr te) := by
  intro pins s σ H R I h
  refine thn (he pins s σ H _ I h) fun v s1 ⟨y, H1, I1, r1, x, ex, q⟩ => ?_
  subst ex
  obtain ⟨t, rfl⟩ := r1
  cases ha : x.cps.all (· < 128)
  · exact wpAny_pyIter_wide ha (pi_one (tk := s1.toks) I1 _ (turn_str _ x t "str_iterator" (.inr rfl)) ⟨_, Heap.get?_push_size _ rfl, rfl, rfl⟩ q)
  · exact wpAny_pyIter_ascii ha (pi_one (tk := s1.toks) I1 _ (turn_str _ x t "str_ascii_iterator" (.inl rfl)) ⟨_, Heap.get?_push_size _ rfl, rfl, rfl⟩ q)

section
variable {prog : Program} {w : World} {A : Around} {E : Value → Shared → Prop} {s : Shared}
end

section
variable {X : Cx} {pins : List (Addr × Obj)} {σ : St} {H : Hp} {s : Shared} {d : Addr} {o : Obj}
end

section
variable {P : Program} {w : World} {K : PySem.W.Frag} {tg : Expr} {d : Addr} {o : Obj} {es : Array DictEntry} {ep : Nat}
end

section
variable {X : Cx} {tg e : Expr} {td : TE} {apos cpos : Pos}
end

end L2

section 
namespace Bits
open PySem PyProof.Rows

end Bits
end 

section 
namespace TL
open PySem PySem.Builtin PySem.Builtin.Str PySem.StrLaws

abbrev tl (x : Str) : List Nat := x.cps.toList
/-- S stands at the head of l -/
def pre (S l : List Nat) : Bool := l.take S.length == S
/-- what stands before the first S, and behind it -/
def par (S : List Nat) : List Nat → List Nat → Option (List Nat × List Nat)
  | _, [] => none
  | acc, c :: r => if pre S (c :: r) = true then some (acc, (c :: r).drop S.length) else par S (acc ++ [c]) r

end TL
end 

namespace L2
open PySem PySem.Spec PyProof.Rows

/-- a list of texts, of numbered texts -/
theorem vals_strs : ∀ l : List (Str × Tok), Vals ((l.map (·.1)).map V.str) (strValues l)
  | [] => .nil
  | p :: r => .cons ⟨p.2, rfl⟩ (vals_strs r)
theorem strs_of_vals : ∀ {ys : List Str} {us : List Value}, Vals (ys.map V.str) us → StrsAre us ys
  | [], _, .nil => .nil
  | y :: ys, _, .cons r t => by
    obtain ⟨k, rfl⟩ := r
    exact .cons y k (strs_of_vals t)

/-- a new list of texts, tracked -/
def rNewStrs (ys : List Str) : Hp → VK → Prop := fun H Q => ∀ p, H p = none → Q (.ref p) (upd H p (.lst (ys.map V.str)))

section
variable {X : Cx} {pins : List (Addr × Obj)} {σ : St} {H : Hp} {s : Shared} {Q : VK}
theorem laid_strs {l : List (Str × Tok)} {ys : List Str} {k : Nat} (I : Inv X pins σ H s) (e : l.map (·.1) = ys) (hz : ys.length ≤ sizeLine) (h : rNewStrs ys H Q) :
    EP X pins σ Q (.ref s.heap.objs.size) { s with toks := k, heap := s.heap.push { cls := .type "list", data := .seq (strValues l).toArray } } := by
  have hp := I.hok.fresh (Nat.le_refl _)
  refine ⟨.ref s.heap.objs.size, upd H s.heap.objs.size (.lst (ys.map V.str)), I.laid (fun b u q => Heap.get?_push_of_some _ q) (Nat.le_refl _) ⟨by rw [List.length_map]; exact hz, strValues l, _, ?_, Heap.get?_push_size _ rfl⟩, rfl, h _ hp⟩
  rw [← e]
  exact vals_strs l
end

section
variable {X : Cx}

/-- x.split(sep) -/
theorem mt_split : MtR X "str.split" (fun x xs H Q => ∃ a b, x = .str a ∧ xs = [.str b] ∧ (b.length == 0) = false ∧ a.length + 2 ≤ sizeLine ∧ rNewStrs (Txt.split a b) H Q) := by
  intro pins s σ H x xs v us Q I rx rs h
  obtain ⟨a, b, rfl, rfl, hb, hz, h⟩ := h
  obtain ⟨t, rfl⟩ := rx
  cases rs with
  | cons r1 rs =>
    cases rs
    obtain ⟨u, rfl⟩ := r1
    have hl : (Txt.split a b).length ≤ sizeLine := Nat.le_trans (PyProof.Rows.split_le a b) hz
    have hn : (Builtin.Str.partsBetween a (Builtin.Str.occurrences a b 0 a.length (a.length + 1)) b.length).length ≤ sizeLine := by
      have e1 := StrLaws.occ_length_le a b 0 a.length (a.length + 1)
      rw [length_partsBetween]; omega
    cases h1 : (decide (a.length < b.length) || decide (Builtin.Str.strKind a < Builtin.Str.strKind b))
    · cases hf : (Builtin.Str.occurrences a b 0 a.length (a.length + 1)).isEmpty
      · refine call_meets F.slot_str_split (typeIs_str _ _ _) F.entry_str_split (F.args_str_split_2 _ _) (meets_str_split_sep a b t u h1 hb hf (by omega) hn) ?_
        show EP X pins σ Q (.ref s.heap.objs.size) { s with toks := _, heap := s.heap.push { cls := .type "list", data := .seq (strsFrom s.toks (Builtin.Str.partsBetween a (Builtin.Str.occurrences a b 0 a.length (a.length + 1)) b.length)).toArray } }
        rw [strsFrom_eq]
        exact laid_strs (ys := Txt.split a b) I ((numbered_texts _ _).trans ((if_neg (ne_true_of_eq_false h1)).trans (if_neg (ne_true_of_eq_false hf))).symm) hl h
      · refine call_meets F.slot_str_split (typeIs_str _ _ _) F.entry_str_split (F.args_str_split_2 _ _) (meets_str_split_not_found a b t u h1 hb hf) ?_
        exact laid_strs (l := [(a, t)]) (ys := Txt.split a b) (k := s.toks) I ((if_neg (ne_true_of_eq_false h1)).trans (if_pos hf)).symm hl h
    · refine call_meets F.slot_str_split (typeIs_str _ _ _) F.entry_str_split (F.args_str_split_2 _ _) (meets_str_split_cannot_occur a b t u h1) ?_
      exact laid_strs (l := [(a, t)]) (ys := Txt.split a b) (k := s.toks) I (if_pos h1).symm hl h

/-- sep.join(a list | a tuple of texts) -/
theorem mt_join : MtR X "str.join" (fun x xs H Q => ∃ a p, ∃ ys : List Str, x = .str a ∧ xs = [.ref p] ∧ (SqL X.K H p (ys.map V.str) ∨ SqT X.K H p (ys.map V.str)) ∧
    (ys.map (·.length)).sum + ys.length * a.length ≤ 16777216 ∧ Q (.str (Txt.join a ys)) H) := by
  intro pins s σ H x xs v us Q I rx rs h
  obtain ⟨a, p, ys, rfl, rfl, hp, hz, h⟩ := h
  obtain ⟨t, rfl⟩ := rx
  cases rs with
  | cons r1 rs =>
    cases rs
    cases r1
    rcases hp with hp | hp
    · obtain ⟨its, r, ⟨o, n, ho, hc, _, hd⟩, _⟩ := I.list hp
      exact PyProof.Rows.join_list (items := its.toArray) ⟨o, ho, hc, n, hd⟩ (by rw [List.toList_toArray]; exact strs_of_vals r) hz fun t' k => ⟨.str _, H, I.tok k, ⟨t', rfl⟩, h⟩
    · obtain ⟨its, r, ht, _⟩ := I.tuple hp
      exact PyProof.Rows.join_tuple (items := its.toArray) ht (by rw [List.toList_toArray]; exact strs_of_vals r) hz fun t' k => ⟨.str _, H, I.tok k, ⟨t', rfl⟩, h⟩

theorem mt0 {id : String} {C : Str → Prop} {g : Str → V} (rule : ∀ (a : Str) (t : Tok) (s : Shared) (Q : Value → Shared → Prop), C a → (∀ (u : Value) (k : Nat), RelV (g a) u → Q u { s with toks := k }) →
    wpAny (model X.prog X.w) X.A (call (.builtin id) [.str a t]) Q X.xe s) : MtR X id (fun x xs H Q => ∃ a, x = .str a ∧ xs = [] ∧ C a ∧ Q (g a) H) := by
  intro pins s σ H x xs v us Q I rx rs h
  obtain ⟨a, rfl, rfl, hc, h⟩ := h
  obtain ⟨t, rfl⟩ := rx
  cases rs
  exact rule a t s _ hc fun u k r => ⟨g a, H, I.tok k, r, h⟩
theorem mt_isdigit : MtR X "str.isdigit" (fun x xs H Q => ∃ a, x = .str a ∧ xs = [] ∧ True ∧ Q (.bl (Txt.isdigit a)) H) :=
  mt0 (C := fun _ => True) (g := fun a => .bl (Txt.isdigit a)) fun _ _ s _ _ h => PySem.SC.isdigit (h _ s.toks rfl)
theorem mt1 {id : String} {g : Str → Str → V} (rule : ∀ (a b : Str) (t u : Tok) (s : Shared) (Q : Value → Shared → Prop), (∀ (v : Value) (k : Nat), RelV (g a b) v → Q v { s with toks := k }) →
    wpAny (model X.prog X.w) X.A (call (.builtin id) [.str a t, .str b u]) Q X.xe s) : MtR X id (fun x xs H Q => ∃ a b, x = .str a ∧ xs = [.str b] ∧ Q (g a b) H) := by
  intro pins s σ H x xs v us Q I rx rs h
  obtain ⟨a, b, rfl, rfl, h⟩ := h
  obtain ⟨t, rfl⟩ := rx
  cases rs with
  | cons r1 rs =>
    cases rs
    obtain ⟨u, rfl⟩ := r1
    exact rule a b t u s _ fun v k r => ⟨g a b, H, I.tok k, r, h⟩
theorem mt_startswith : MtR X "str.startswith" (fun x xs H Q => ∃ a b, x = .str a ∧ xs = [.str b] ∧ Q (.bl (Txt.startswith a b)) H) :=
  mt1 (g := fun a b => .bl (Txt.startswith a b)) fun _ _ _ _ s _ h => PySem.SC.startswith (h _ s.toks rfl)
/-- int(text) -/
theorem call_int_str : CallR X (.type "int") (fun xs H Q => ∃ a n, xs = [.str a] ∧ PySem.intText? a = some n ∧ a.length ≤ 640 ∧ Q (.int n) H) := by
  intro pins s σ H xs us Q I rs h
  obtain ⟨a, n, rfl, hn, hl, h⟩ := h
  cases rs with
  | cons r1 rs =>
    cases rs
    obtain ⟨t, rfl⟩ := r1
    exact PySem.W.KIN.call_text hn hl ⟨.int n, H, I.tok _, ⟨_, rfl⟩, h⟩
end

section
variable {X : Cx} {o e : Expr} {to te : TE}
def tM0 (r : V → List V → Hp → VK → Prop) (to : TE) : TE := fun σ H Q => to σ H fun x H1 => (∃ a, x = .str a) ∧ r x [] H1 Q
def tM1 (r : V → List V → Hp → VK → Prop) (to te : TE) : TE := fun σ H Q => to σ H fun x H1 => (∃ a, x = .str a) ∧ te σ H1 fun y H2 => r x [y] H2 Q
theorem pe_m0 {id : String} {name : Str} {apos pos : Pos} {r : V → List V → Hp → VK → Prop} (slot : Slot "str" name id) (ty : typeOf (.builtin id) = pure (.type "method_descriptor")) (rule : MtR X id r) (ho : PE X o to)
    (hbase : attributeBase o name X.env (eval o X.env) = eval o X.env := by rfl) (hline : (apos.endLine == pos.line) = true := by rfl) : PE X (.Call (.Attribute o name apos) [] [] pos) (tM0 r to) := by
  intro pins s σ H Q I h
  refine PySem.Call_method0 hbase hline (thn (ho pins s σ H _ I h) fun v s1 ⟨x, H1, I1, r1, q1⟩ => ?_)
  obtain ⟨⟨a, rfl⟩, q1⟩ := q1
  obtain ⟨t, rfl⟩ := _root_.id r1
  exact ⟨"str", _, F.plainAttrs_str, slot, ty, typeIs_str _ _ _, (fun _ e => nomatch e), Calls.callWith_builtin rfl (PySem.evalArgs_none (rule pins s1 σ H1 _ [] _ [] Q I1 r1 .nil q1))⟩
theorem pe_m1 {id : String} {name : Str} {apos pos : Pos} {r : V → List V → Hp → VK → Prop} (slot : Slot "str" name id) (ty : typeOf (.builtin id) = pure (.type "method_descriptor")) (rule : MtR X id r) (ho : PE X o to) (he : PE X e te)
    (hs : starEach [e] X.env = [(false, eval e X.env)] := by rfl) (hbase : attributeBase o name X.env (eval o X.env) = eval o X.env := by rfl) (hline : (apos.endLine == pos.line) = true := by rfl) :
    PE X (.Call (.Attribute o name apos) [e] [] pos) (tM1 r to te) := by
  intro pins s σ H Q I h
  refine PySem.Call_method1 hbase hs hline (thn (ho pins s σ H _ I h) fun v s1 ⟨x, H1, I1, r1, q1⟩ => ?_)
  obtain ⟨⟨a, rfl⟩, q1⟩ := q1
  obtain ⟨t, rfl⟩ := _root_.id r1
  refine ⟨"str", _, F.plainAttrs_str, slot, ty, typeIs_str _ _ _, (fun _ e => nomatch e), Calls.callWith_builtin rfl (Calls.evalArgs_plain (Calls.spliced_cons ?_))⟩
  exact thn (he pins s1 σ H1 _ I1 q1) fun u s2 ⟨y, H2, I2, r2, q2⟩ => Calls.spliced_nil (rule pins s2 σ H2 _ [y] _ [u] Q I2 r1 (.cons r2 .nil) q2)

theorem pe_split {apos pos : Pos} (ho : PE X o to) (he : PE X e te) (hs : starEach [e] X.env = [(false, eval e X.env)] := by rfl) (hbase : attributeBase o "split" X.env (eval o X.env) = eval o X.env := by rfl) (hline : (apos.endLine == pos.line) = true := by rfl) :
    PE X (.Call (.Attribute o "split" apos) [e] [] pos) (tM1 (fun x xs H Q => ∃ a b, x = .str a ∧ xs = [.str b] ∧ (b.length == 0) = false ∧ a.length + 2 ≤ sizeLine ∧ rNewStrs (Txt.split a b) H Q) to te) :=
  pe_m1 F.slot_str_split F.type_str_split mt_split ho he hs hbase hline
theorem pe_join {apos pos : Pos} (ho : PE X o to) (he : PE X e te) (hs : starEach [e] X.env = [(false, eval e X.env)] := by rfl) (hbase : attributeBase o "join" X.env (eval o X.env) = eval o X.env := by rfl) (hline : (apos.endLine == pos.line) = true := by rfl) :
    PE X (.Call (.Attribute o "join" apos) [e] [] pos) (tM1 (fun x xs H Q => ∃ a p, ∃ ys : List Str, x = .str a ∧ xs = [.ref p] ∧ (SqL X.K H p (ys.map V.str) ∨ SqT X.K H p (ys.map V.str)) ∧
      (ys.map (·.length)).sum + ys.length * a.length ≤ 16777216 ∧ Q (.str (Txt.join a ys)) H) to te) :=
  pe_m1 F.slot_str_join F.type_str_join mt_join ho he hs hbase hline
end
end L2

namespace L2
open PySem PySem.Spec PyProof.Rows

section
variable {X : Cx}
/-- one sign in a text -/
theorem op_in_sign : OpR X (compareOp .In) (fun x y H Q => ∃ (c : Nat) (z : Str), x = .str ⟨#[c]⟩ ∧ y = .str z ∧ Q (.bl (decide (c ∈ z.cps.toList))) H) := by
  intro pins s σ H x y v u Q I rx ry h
  obtain ⟨c, z, rfl, rfl, q⟩ := h
  obtain ⟨t, rfl⟩ := rx
  obtain ⟨t', rfl⟩ := ry
  exact PyProof.Rows.in_str (fin_bl I q (PySem.StrLaws.found_one z c).symm)
end

theorem IsPart.raw {v : Value} {o : Option Int} (p : IsPart v o) : ∃ l : Option (Int × Tok), v = partValue l ∧ l.map (·.1) = o := by
  cases p with
  | none => exact ⟨none, rfl, rfl⟩
  | int i t => exact ⟨some (i, t), rfl, rfl⟩

/-- a part, clipped, as the text's slice reckons it -/
def clipS (n d : Nat) : Option Int → Int
  | none => (d : Int)
  | some i => max 0 (min (if i < 0 then i + (n : Int) else i) (n : Int))
theorem clipS_eq (n d : Nat) (o : Option Int) : clipS n d o = ((HT.sIx n d o : Nat) : Int) := by
  cases o with
  | none => rfl
  | some v =>
    show max (0 : Int) (min (if v < 0 then v + (n : Int) else v) (n : Int)) = (((if v < 0 then (v + (n : Int)).toNat else min v.toNat n) : Nat) : Int)
    by_cases hv : v < 0
    · simp only [if_pos hv]
      omega
    · simp only [if_neg hv]
      omega
theorem sidx_clip (a b : Option Int) (n : Nat) : Builtin.Str.strSliceIndices a b 1 n = sliceRange (clipS n 0 a) (clipS n n b) 1 := by
  have h1 : ((1 : Int) > 0) = True := by simp
  cases a <;> cases b <;> first
    | rfl
    | (simp only [Builtin.Str.strSliceIndices, clipS, h1, if_true]; rfl)
    | simp [Builtin.Str.strSliceIndices, clipS]
theorem sidx (a b : Option Int) (n : Nat) : Builtin.Str.strSliceIndices a b 1 n = (List.range (HT.sIx n n b - HT.sIx n 0 a)).map (fun k => HT.sIx n 0 a + k) := by
  rw [sidx_clip, clipS_eq, clipS_eq]
  generalize HT.sIx n 0 a = p
  generalize HT.sIx n n b = q
  simp only [sliceRange, show ((1 : Int) > 0) = True from by simp, if_true]
  by_cases hlt : (p : Int) < q
  · have e3 : (((q : Int) - p + 1 - 1) / 1).toNat = q - p := by first | omega | (simp; done) | (simp; omega)
    simp only [hlt, if_true, e3]
    refine List.map_congr_left fun k _ => ?_
    omega
  · have : q - p = 0 := by omega
    simp [hlt, this]

/-- z[lo:hi] -/
def cutS (z : Str) (lo hi : Option Int) : Str :=
  ⟨((z.cps.toList.drop (HT.sIx z.length 0 lo)).take (HT.sIx z.length z.length hi - HT.sIx z.length 0 lo)).toArray⟩
theorem sliceText_cut (z : Str) (lo hi : Option Int) : PySem.StrLaws.sliceText z lo hi = cutS z lo hi := by
  have h1 : HT.sIx z.length 0 lo ≤ z.length := HT.sIx_le _ _ (Nat.zero_le _) _
  have h2 : HT.sIx z.length z.length hi ≤ z.length := HT.sIx_le _ _ (Nat.le_refl _) _
  have hp : HT.sIx z.length 0 lo ≤ max (HT.sIx z.length 0 lo) (HT.sIx z.length z.length hi) := Nat.le_max_left _ _
  have hq : max (HT.sIx z.length 0 lo) (HT.sIx z.length z.length hi) ≤ z.length := Nat.max_le.mpr ⟨h1, h2⟩
  have hd : max (HT.sIx z.length 0 lo) (HT.sIx z.length z.length hi) - HT.sIx z.length 0 lo = HT.sIx z.length z.length hi - HT.sIx z.length 0 lo := by omega
  have e : Builtin.Str.strSliceIndices lo hi 1 z.length =
      Builtin.Str.strSliceIndices (some ((HT.sIx z.length 0 lo : Nat) : Int)) (some ((max (HT.sIx z.length 0 lo) (HT.sIx z.length z.length hi) : Nat) : Int)) 1 z.length := by
    rw [PySem.StrLaws.strSliceIndices_plain hp hq, hd, sidx]
  have e2 : PySem.StrLaws.sliceText z lo hi =
      PySem.StrLaws.sliceText z (some ((HT.sIx z.length 0 lo : Nat) : Int)) (some ((max (HT.sIx z.length 0 lo) (HT.sIx z.length z.length hi) : Nat) : Int)) := by
    unfold PySem.StrLaws.sliceText
    rw [e]
  rw [e2, PySem.StrLaws.sliceText_nat z hp hq, hd]
  rfl
theorem cutS_length (z : Str) (lo hi : Option Int) : (cutS z lo hi).length ≤ z.length := by
  show (((z.cps.toList.drop (HT.sIx z.length 0 lo)).take (HT.sIx z.length z.length hi - HT.sIx z.length 0 lo)).toArray).size ≤ z.cps.size
  rw [List.size_toArray, List.length_take, List.length_drop, Array.length_toList]
  omega
def rSlS : V → Option Int → Option Int → Hp → VK → Prop := fun x lo hi H Q => ∃ z, x = .str z ∧ z.length ≤ sizeLine ∧ Q (.str (cutS z lo hi)) H
theorem sl_str {X : Cx} : SlR X rSlS := by
  intro pins s σ H x v vl vu lo hi sl Q I rx hs pl pu h
  obtain ⟨z, rfl, hz, q⟩ := h
  obtain ⟨t, rfl⟩ := rx
  obtain ⟨os, hos, hcs, hds⟩ := hs
  obtain ⟨l, rfl, rfl⟩ := IsPart.raw pl
  obtain ⟨u, rfl, rfl⟩ := IsPart.raw pu
  refine ⟨"str", _, F.slot_str_getitem.lookup, typeIs_str _ _ _, ?_⟩
  refine wpAny_getItem_str_slice (l := l) (u := u) (st := none) ⟨os, hos, hcs, hds⟩ rfl ?_
  have hl : (PySem.StrLaws.sliceText z (l.map (·.1)) (u.map (·.1))).length ≤ sizeLine := by
    rw [sliceText_cut]
    exact Nat.le_trans (cutS_length z _ _) hz
  rw [← sliceText_cut] at q
  unfold PySem.StrLaws.sliceText at q hl
  show Made.post (if ((1 : Int) == 1 && (Builtin.Str.strSliceIndices (l.map (·.1)) (u.map (·.1)) 1 z.length).length == z.length) = true then Made.val (.str z t)
    else Made.str ⟨((Builtin.Str.strSliceIndices (l.map (·.1)) (u.map (·.1)) 1 z.length).filterMap (z.cps[·]?)).toArray⟩) (EP X pins σ Q) s
  by_cases c : ((1 : Int) == 1 && (Builtin.Str.strSliceIndices (l.map (·.1)) (u.map (·.1)) 1 z.length).length == z.length) = true
  · rw [if_pos c] at q ⊢
    exact ⟨.str z, H, I, ⟨t, rfl⟩, q⟩
  · rw [if_neg c] at q hl ⊢
    exact ⟨hl, .str _, H, I.tok _, ⟨_, rfl⟩, q⟩
end L2

namespace Att
open PySem PySem.W PySem.Calls PyProof.Rows

theorem ints_of_wellAll {P : Params} {h : Heap} : ∀ (ns : List Int) (vs : List Value), WellAll P h vs (ns.map WData.int) → IntsAre vs ns := by
  intro ns
  induction ns with
  | nil =>
    intro vs w
    rw [List.map_nil] at w
    cases w
    exact .nil
  | cons n ns ih =>
    intro vs w
    rw [List.map_cons] at w
    cases w with
    | cons a b =>
      cases a
      exact .cons _ _ (ih _ b)

theorem script_of {l : OpenLaw} {n : Nat} (hn : l.most = some n) {P : Params} {h : Heap} {args : List WData} {vals : List Value}
    (hpre : l.row.toRowW.claim.pre args = true) (hwl : WellAll P h vals args) :
    ∃ a vs ns, vals = [Value.ref a] ∧ args = [WData.list (ns.map WData.int)] ∧ h.get? a = some { cls := .type "list", data := .seq vs.toArray } ∧ IntsAre vs ns ∧ ns.length ≤ n := by
  have hsh : WShape.hasAll [] args [.list .int] = true := (pre_splitW hpre).1
  have hc : l.pre.holds [] { args := args } = true := (pre_splitW hpre).2
  obtain ⟨d, r, rfl, h1, h2⟩ := hasAllW_cons hsh
  obtain rfl := hasAllW_nil h2
  obtain ⟨xs, rfl, h3⟩ := hasW_list h1
  obtain ⟨ns, rfl⟩ := items_int h3
  have hlen : ns.length ≤ n := by
    unfold OpenLaw.pre at hc
    have h4 : (WTm.not (.lt (.lit (.int (n : Int))) (.len (.arg 0)))).holds [] { args := [.list (ns.map .int)] } = true := by
      have h4 := (holds_andW hc).1
      rw [hn] at h4
      exact h4
    have h5 := condW_of h4 (w_not (w_lt w_lit (w_len_list (w_arg rfl))))
    rw [List.length_map] at h5
    refine Nat.le_of_not_lt fun q => ?_
    have q' : (n : Int) < ((ns.length : Nat) : Int) := by omega
    first
      | (rw [decide_eq_true q'] at h5; exact absurd h5 (by decide))
      | (simp at h5; omega)
  cases hwl with
  | cons w1 w2 =>
    cases w2
    cases w1 with
    | list ho hall => exact ⟨_, _, ns, rfl, rfl, ho, ints_of_wellAll ns _ hall, hlen⟩

theorem post_true (l : OpenLaw) (args : List WData) : l.row.toRowW.claim.post args (.bool true) args = true :=
  postW_of (r := l.row.toRowW) (X := (true == true))
    (show WShape.has [] (.bool true) .bool = true by first | rfl | decide | simp [WShape.has, WShape.arms, WShape.armsAll])
    (show (WTm.eq .res (.lit (.bool true))).value [] { args := args, res := some (.bool true), after := args } = some (.bool (true == true)) from w_eq_bool (w_res rfl) w_lit) rfl

/-- the same from a codeAny of the CALL (for a layer whose function contracts speak of calls) -/
theorem attach_call {l : OpenLaw} {n : Nat} {q : Program} {loose : List Str} {XP : (Str → Option Value) → Heap → Prop} {YP : World → Heap → Prop} {d : DefRec}
    (hn : l.most = some n) (hdf : d.params.defaults = [])
    (call : ∀ (w : World) (s₀ s₁ : Shared) (mg mb : Str → Option Value) (fa : Addr) (o : Obj) (pm cd doc : Value) (a : Addr) (vs : List Value) (ns : List Int),
      Ground q loose [] XP w s₀ mg mb s₁.heap → YP w s₁.heap →
      s₁.heap.get? fa = some o → o.data = .func (docDef d.name d.params d.body d.scope pm cd doc) → s₁.heap.CodeRec cd d.name → mg d.name = some (.ref fa) →
      s₁.heap.get? a = some { cls := .type "list", data := .seq vs.toArray } → IntsAre vs ns → ns.length ≤ n → s₁.gens = #[] →
      codeAny (model l.prog w) callerA (.call (.ref fa) ⟨[.ref a], []⟩) (fun r s' => r = .ok (.ret (.bool true)) ∧ OldK s₁.heap s'.heap ∧ s'.os = s₁.os ∧ AllBare s'.gens) s₁) :
    WalkO q loose XP YP l.row.toRowW d [] (fun f vs => PySem.call f vs) := by
  intro w s₀ s₁ mg mb G Y fa o pm cd doc dV kV ho hd hcd hD hmg hg args vals as hpre hlay hrd hwl hlo
  obtain rfl : dV = .none := Dflts.none hD hdf
  obtain rfl : kV = .none := Dflts.noKw hD
  obtain ⟨a, vs, ns, rfl, rfl, hobj, hints, hlen⟩ := script_of hn hpre hwl
  refine enter_call (codeAny_mono (call w s₀ s₁ mg mb fa o pm cd doc a vs ns G Y ho (fd_plain hd) hcd hmg hobj hints hlen hg) fun r s' hq => ?_)
  obtain ⟨rfl, h2, h3, h4⟩ := hq
  exact ⟨.inl ⟨.bool true, .bool true, [], rfl, fun _ => rfl, .bool true, post_true l _, fun _ => ⟨List.Pairwise.nil, fun _ hm => (nomatch hm)⟩⟩, h2, h3, h4⟩

section
variable {prog : Program} {w : World} {A : Around} {E : Value → Shared → Prop} {s : Shared} {K : Frag}

end
end Att

namespace L2
open PySem PySem.Spec PyProof.Rows

theorem vals_ints : ∀ {vs : List Value} {ns : List Int}, IntsAre vs ns → Vals (ns.map V.int) vs
  | _, _, .nil => .nil
  | _, _, .cons n t h => .cons ⟨t, rfl⟩ (vals_ints h)

/-- nothing is tracked but the script, known to the object (or it is an object of the module) -/
def Only (H : Hp) : Prop := ∀ b, H b = none ∨ (∃ o xs, H b = some (.frz o (.lst xs))) ∨ H b = some (.tbl #[])

/-- THE HEAD, with the tables of the top's defs tracked -/
theorem law_call {P : Program} {w : World} {K : PySem.W.Frag} {mg mb : Str → Option Value} {CX : CXT} {k : Nat} {fa a : Addr} {fd : FuncData} {x : Str} {sp : Sp} {s₁ : Shared} {vs : List Value} {ns : List Int}
    (KX : K.In s₁.heap) (hns : s₁.heap.Ns mainGlobals mg) (hb : s₁.heap.Ns builtinsNs mb) (hbb : ∀ x : Str, x ≠ "__name__" → mb x = bootBuiltins x) (hlim : s₁.heap.NoLimit) (hg : s₁.gens = #[])
    (ha : s₁.heap.get? a = some { cls := .type "list", data := .seq vs.toArray }) (hi : IntsAre vs ns) (hl : ns.length ≤ sizeLine) (hr : Room k callerA)
    (hbm : ∃ bm ob, BMod s₁.heap mainGlobals mg bm ob) (hT : ∀ Pt, TabOf P K mg Pt → K.lookup Pt = none ∧ ∃ c, s₁.heap.TableAt c Pt #[])
    (F : ∀ base : Heap, K.In base → base.Ns mainGlobals mg → FnOk P w K mg base CX k fa fd [x] sp) (hbind : ∀ (s : Shared) (u : Value), BindsTo s fd ⟨[u], []⟩ [(x, u)])
    (hsp : ∀ H : Hp, Only H → SqL K H a (ns.map V.int) → sp [.ref a] H (fun v _ => v = .bl true) fun _ _ _ => False)
    (hCX : ∀ H e s', CX [] H s₁ (fun _ _ _ => False) e s' → False) :
    codeAny (model P w) callerA (.call (.ref fa) ⟨[.ref a], []⟩) (fun r s' => r = .ok (.ret (.bool true)) ∧ OldK s₁.heap s'.heap ∧ s'.os = s₁.os ∧ AllBare s'.gens) s₁ := by
  have rv := vals_ints hi
  have lenV := hi.length
  have noTa : ¬ TabOf P K mg a := fun t => by
    obtain ⟨_, c, _, ht⟩ := hT a t
    rw [ha] at ht
    cases ht
  have core : ∀ H : Hp, Only H → SqL K H a (ns.map V.int) → HOk P w H s₁.heap → (∀ b, H b ≠ none → (b = a ∧ ∃ o xs, H b = some (.frz o (.lst xs))) ∨ (TabOf P K mg b ∧ H b = some (.tbl #[]))) → Tabs P K mg H → (H a ≠ none → K.lookup a = none) →
      codeAny (model P w) callerA (.call (.ref fa) ⟨[.ref a], []⟩) (fun r s' => r = .ok (.ret (.bool true)) ∧ OldK s₁.heap s'.heap ∧ s'.os = s₁.os ∧ AllBare s'.gens) s₁ := by
    intro H hO hS hok hA hTb hK
    have base_of : ∀ {b : Addr} {o : Obj}, s₁.heap.get? b = some o → H b = none → (hidT s₁.heap H).get? b = some o := fun e n => hidT_get e n
    have noA : ∀ {b : Addr} {o : Obj} {es : Array DictEntry} {ep : Nat}, s₁.heap.get? b = some o → o.data = .dict es ep → H b = none := fun {b o es ep} e d => by
      cases q : H b with
      | none => rfl
      | some u =>
        rcases hA b (by rw [q]; simp) with ⟨e', _⟩ | ⟨tb, _⟩
        · subst e'
          rw [ha] at e; cases e
          have d' : Data.seq vs.toArray _ = Data.dict es ep := d
          cases d'
        · obtain ⟨_, c, _, ht⟩ := hT b tb
          rw [ht] at e; cases e
          have d' : Data.fields _ = Data.dict es ep := d
          cases d'
    have nsK : ∀ {b : Addr} {m : Str → Option Value}, s₁.heap.Ns b m → (hidT s₁.heap H).Ns b m := fun {b m} ⟨o, es, ep, e, d, r⟩ => ⟨o, es, ep, base_of e (noA e d), d, r⟩
    have hKb : K.In (hidT s₁.heap H) := fun b o e => base_of (KX b o e) (by
      cases q : H b with
      | none => rfl
      | some u =>
        rcases hA b (by rw [q]; simp) with ⟨e', _⟩ | ⟨tb, _⟩
        · subst e'
          rw [hK (by rw [q]; simp)] at e; cases e
        · rw [(hT b tb).1] at e; cases e)
    have hM : Mod K mg (hidT s₁.heap H) := ⟨hKb, nsK hns, ⟨mb, nsK hb, hbb⟩, let ⟨mc, h1, h2⟩ := hlim; ⟨mc, nsK h1, h2⟩, by
      obtain ⟨bm, ob, M⟩ := hbm
      refine ⟨bm, ob, nsK M.ns, M.name, M.ne, base_of M.obj ?_, M.cls, M.dict, M.data⟩
      cases q : H bm with
      | none => rfl
      | some u =>
        have hob := M.obj
        have hda := M.data
        rcases hA bm (by rw [q]; simp) with ⟨e', _⟩ | ⟨tb, _⟩
        · rw [e', ha] at hob
          cases hob
          cases hda
        · obtain ⟨_, c, _, ht⟩ := hT bm tb
          rw [ht] at hob
          cases hob
          cases hda⟩
    have e0 : Env0 P w K mg (hidT s₁.heap H) callerA [] s₁ H := ⟨rfl, hM, fun b o e => of_hidT e, Nat.le_of_eq (hidT_size _ _), trivial, fun b hb => absurd (show b ∈ ([] : List Addr) from hb) (by simp), hok, .of_eq hg, hTb⟩
    refine codeAny_mono ((F _ hKb (nsK hns)).run callerA [] s₁ H ⟨[.ref a], []⟩ [.ref a] [.ref a] _ _ hr e0 (hbind s₁ (.ref a)) (.cons rfl .nil) (hsp H hO hS)) fun r s' h => ?_
    cases r with
    | error e => exact (hCX H e s' h).elim
    | ok fl =>
      cases fl with
      | next => exact False.elim h
      | brk => exact False.elim h
      | cont => exact False.elim h
      | ret u =>
        obtain ⟨v, H', os, bare, un, hok', r', q⟩ := h
        have q' : v = .bl true := q
        subst q'
        obtain rfl : u = Value.bool true := r'
        refine ⟨rfl, ⟨fun b o e => ?_, fun b o e => un.there b o e (by simp)⟩, os, bare.1⟩
        cases q : H b with
        | none => exact .inl (un.keep b o e q (by intro z; exact absurd (show b ∈ ([] : List Addr) from z) (by simp)) (by simp))
        | some u =>
          rcases hA b (by rw [q]; simp) with ⟨_, ob, xs, z⟩ | ⟨tb, z⟩
          · have z2 := un.frzs b ob _ z
            obtain ⟨e1, _⟩ := hok b _ z
            obtain ⟨e2, _⟩ := hok' b _ z2
            rw [e] at e1; cases e1
            exact .inl e2
          · obtain ⟨_, c, ht⟩ := hT b tb
            obtain ⟨more, z2⟩ := un.tbls b _ z
            have e2 : s'.heap.get? b = some { cls := .none, data := .fields (#[] ++ more) } := (show _ ∧ _ from hok' b _ z2).1
            have eo : o = { cls := .none, data := .fields #[] } := Option.some.inj (e.symm.trans ht.2)
            subst eo
            exact .inr (.inl ⟨ht.isCodeTable, rfl, #[], more, rfl, e2⟩)
  classical
  cases hk : K.lookup a with
  | some o =>
    -- the script is one of the module's own objects
    have e := KX a o hk
    rw [ha] at e
    cases e
    refine core (fun b => if TabOf P K mg b then some (.tbl #[]) else none) (fun b => ?_) (.inr ⟨_, vs.toArray, _, hk, rfl, rfl, rfl, by rw [List.size_toArray, lenV]; exact hl, by simpa using rv⟩) (fun b u z => ?_) (fun b z => ?_) (fun Pt t => ⟨_, if_pos t⟩) fun z => absurd (if_neg noTa) z
    · by_cases hb : TabOf P K mg b
      · exact .inr (.inr (if_pos hb))
      · exact .inl (if_neg hb)
    · by_cases hb : TabOf P K mg b
      · have z' := (if_pos hb).symm.trans z
        cases z'
        obtain ⟨_, c, ht⟩ := hT b hb
        exact ⟨ht.2, trivial⟩
      · have z' := (if_neg hb).symm.trans z
        cases z'
    · by_cases hb : TabOf P K mg b
      · exact .inr ⟨hb, if_pos hb⟩
      · exact absurd (if_neg hb) z
  | none =>
    refine core (fun b => if b = a then some (.frz { cls := .type "list", data := .seq vs.toArray } (.lst (ns.map V.int))) else if TabOf P K mg b then some (.tbl #[]) else none) (fun b => ?_) (.inl (.inr ⟨{ cls := .type "list", data := .seq vs.toArray }, if_pos rfl⟩)) (fun b u z => ?_) (fun b z => ?_)
      (fun Pt t => ⟨#[], by show (if Pt = a then _ else if TabOf P K mg Pt then _ else _) = _; rw [if_neg (show ¬ Pt = a from fun z => noTa (by rw [← z]; exact t)), if_pos t]⟩) fun _ => hk
    · by_cases hb : b = a
      · exact .inr (.inl ⟨_, _, if_pos hb⟩)
      · by_cases ht : TabOf P K mg b
        · exact .inr (.inr ((if_neg hb).trans (if_pos ht)))
        · exact .inl ((if_neg hb).trans (if_neg ht))
    · by_cases hb : b = a
      · have z' := (if_pos hb).symm.trans z
        cases z'
        subst hb
        exact ⟨ha, by rw [List.length_map]; exact hl, vs, _, rv, ha⟩
      · by_cases ht : TabOf P K mg b
        · have z' := ((if_neg hb).trans (if_pos ht)).symm.trans z
          cases z'
          obtain ⟨_, c, ht⟩ := hT b ht
          exact ⟨ht.2, trivial⟩
        · have z' := ((if_neg hb).trans (if_neg ht)).symm.trans z
          cases z'
    · by_cases hb : b = a
      · exact .inl ⟨hb, _, _, if_pos hb⟩
      · by_cases ht : TabOf P K mg b
        · exact .inr ⟨ht, (if_neg hb).trans (if_pos ht)⟩
        · exact absurd ((if_neg hb).trans (if_neg ht)) z
end L2

namespace L2
open PySem PySem.Spec PyProof.Rows

/-- the tables at the law's entry -/
theorem tabs_at {l q : Program} {loose : List Str} {R : PySem.W.WRecords} {XP : (Str → Option Value) → Heap → Prop} {w : World} {s₀ : Shared} {mg mb : Str → Option Value} {h : Heap} {K : PySem.W.Frag} (G : PySem.W.Ground q loose R XP w s₀ mg mb h)
    (KX : K.In h) (hq : recsOf l = recsOf q) (hcl : PySem.W.kb_classed K = true) : ∀ Pt, TabOf l K mg Pt → K.lookup Pt = none ∧ ∃ c, h.TableAt c Pt #[] := by
  rintro Pt ⟨d, hd, f, o, fd, c, oc, vs, h1, h2, h3, h4, h5, h6, h7⟩
  rw [hq] at hd
  obtain ⟨a', o', fd', c', P', t1, t2, t3, t4, t5, t6⟩ := G.T.tab d hd
  rw [h1] at t1
  cases t1
  have e1 := KX _ _ h2
  rw [t2] at e1
  cases e1
  rw [h3] at t3
  cases t3
  rw [h4] at t4
  cases t4
  obtain ⟨oq, vq, _, _, _, _, _, _, _, _, g1, g2, g3, _⟩ := t5
  have e2 := KX _ _ h5
  rw [g1] at e2
  cases e2
  rw [h6] at g2
  cases g2
  rw [h7] at g3
  cases g3
  refine ⟨?_, c, t6⟩
  cases hk : K.lookup Pt with
  | none => rfl
  | some op =>
    exfalso
    have e3 := KX _ _ hk
    have q := List.all_eq_true.mp hcl (Pt, op) (PySem.W.kb_mem hk)
    simp only [Bool.or_eq_true, decide_eq_true_eq, beq_iff_eq] at q
    have e4 := t6.2
    rw [e3] at e4
    cases e4
    rcases q with (q | q) | q
    · exact q rfl
    · obtain ⟨mc, ⟨ox, es, ep, n1, n2, _⟩, _⟩ := G.T.nodigits
      rw [← q, e3] at n1
      cases n1
      cases n2
    · obtain ⟨ox, es, ep, n1, n2, _⟩ := G.T.g
      rw [← q, e3] at n1
      cases n1
      cases n2
/-- the goal that k_head leaves, from the law's promise -/
theorem walk_of {l : PySem.W.OpenLaw} {n k : Nat} {q : Program} {loose : List Str} {XP : (Str → Option Value) → Heap → Prop} {YP : World → Heap → Prop} {d : DefRec} {K : Params → PySem.W.Frag} {CX : World → CXT} {sp : World → Sp} {x : Str}
    (hn : l.most = some n) (hn2 : n ≤ sizeLine) (hdf : d.params.defaults = []) (hr : Room k callerA)
    (hq : recsOf l.prog = recsOf q) (hcl : ∀ w : World, PySem.W.kb_classed (K w.params) = true)
    (hY : ∀ (w : World) (h : Heap), YP w h → (K w.params).In h)
    (F : ∀ (w : World) (mg : Str → Option Value) (fa : Addr) (h : Heap), (K w.params).In h → h.Ns mainGlobals mg → mg d.name = some (.ref fa) →
      ∃ fd : FuncData, (∀ (s : Shared) (u : Value), BindsTo s fd ⟨[u], []⟩ [(x, u)]) ∧
        ∀ base : Heap, (K w.params).In base → base.Ns mainGlobals mg → FnOk l.prog w (K w.params) mg base (CX w) k fa fd [x] (sp w))
    (hsp : ∀ (w : World) (H : Hp) (a : Addr) (ns : List Int), ns.length ≤ n → Only H → SqL (K w.params) H a (ns.map V.int) → sp w [.ref a] H (fun v _ => v = .bl true) fun _ _ _ => False)
    (hCX : ∀ (w : World) (H : Hp) (s : Shared) (e : Value) (s' : Shared), CX w [] H s (fun _ _ _ => False) e s' → False) :
    PySem.W.WalkO q loose XP YP l.row.toRowW d [] (fun f vs => PySem.call f vs) := by
  refine Att.attach_call hn hdf fun w s₀ s₁ mg mb fa o pm cd doc a vs ns G Y ho hd hcd hmg hobj hints hlen hg => ?_
  have KX := hY w _ Y
  obtain ⟨fd, hb, hF⟩ := F w mg fa _ KX G.T.g hmg
  exact law_call KX G.T.g G.T.b G.T.builtins G.T.nolimit hg hobj hints (Nat.le_trans hlen hn2) hr (PySem.W.bmod_of_top G.T) (tabs_at G KX hq (hcl w)) hF hb (fun H hO hS => hsp w H a ns hlen hO hS) fun H e s' => hCX w H s₁ e s'
end L2


namespace L2
open PySem PySem.Spec PyProof.Rows

def defArgs (s : Stmt) : Arguments := match s with
  | .FunctionDef _ a _ _ _ _ _ _ _ _ => a
  | _ => { posonlyargs := [], args := [], vararg := none, kwonlyargs := [], kw_defaults := [], kwarg := none, defaults := [] }
def defBody (s : Stmt) : List Stmt := match s with
  | .FunctionDef _ _ b _ _ _ _ _ _ _ => b
  | _ => []
def defScope (s : Stmt) : Scope := match s with
  | .FunctionDef _ _ _ _ _ _ sc _ _ _ => sc
  | _ => { kind := .function, names := [], isGenerator := false, isCoroutine := false }

abbrev CX0 : CXT := fun _ _ _ _ _ _ => False
abbrev E0 : XK := fun _ _ _ => False
theorem pass0 {X : Cx} : Passes CX0 X E0 := fun _ _ _ _ _ _ _ h => h.elim

structure Fun (K : PySem.W.Frag) (x qual : Str) (st : Stmt) (f : Addr) (fd : FuncData) : Prop where
  ex : ∃ (oc : Value) (od : Option Addr) (kV doc pm : Value) (an : Option Addr) (cdv ct : Value) (osl : Array (Option Value)),
    fd = PySem.W.fnOf x qual (defArgs st) (defBody st) (defScope st) .none kV doc pm an cdv ct ∧ K.lookup f = some ⟨oc, od, .func fd, osl⟩ ∧ PySem.W.codeIn K cdv qual = true
  kp : PySem.W.keepIn K (.ref f) = true
section
variable {P : Program} {w : World} {K : PySem.W.Frag} {mg : Str → Option Value} {base : Heap}
/-- THE RULE for a def: its body as a term of rules, and the reading of that term -/
theorem Fun.ok {x qual : Str} {st : Stmt} {f : Addr} {fd : FuncData} {N ps : List Str} {k : Nat} {sp : Sp} (F : Fun K x qual st f fd) (S : FnScope N ps (defScope st)) (len : ∀ vs H Q E, sp vs H Q E → vs.length = ps.length)
    (hbody : ∀ (cdv : Value) (A : Around) (outer : List Env) (s : Shared) (H : Hp) (vs : List V) (Q : VK) (E : XK), Room k (A.deeper (envOfC qual (defScope st) s.heap.objs.size f cdv)) → sp vs H Q E →
      ∃ t, PSs (cxOf CX0 P w K mg base N qual (defScope st) f cdv A outer s H E).nox (defBody st) t ∧ t { nx := fun _ H' => Q .non H', rt := Q } (start N vs) H) : FnOk P w K mg base CX0 (k + 1) f fd ps sp := by
  obtain ⟨oc, od, kV, doc, pm, an, cdv, ct, osl, rfl, lk, hcd⟩ := F.ex
  refine fn_of lk hcd S len fun A outer s H vs Q E hr hsp => ?_
  obtain ⟨t, h, q⟩ := hbody cdv A outer s H vs Q E hr hsp
  exact ⟨t, h.nox, q⟩
/-- how its arguments bind (no defaults): h is «fun _ _ _ _ _ _ us hl => match us, hl with | [_, _], _ => rfl», one _ a parameter -/
theorem Fun.binds {x qual : Str} {st : Stmt} {f : Addr} {fd : FuncData} {ps : List Str} (F : Fun K x qual st f fd)
    (h : ∀ (kV doc pm : Value) (an : Option Addr) (cdv ct : Value) (us : List Value), us.length = ps.length → bindArgs (PySem.W.fnOf x qual (defArgs st) (defBody st) (defScope st) .none kV doc pm an cdv ct) ⟨us, []⟩ = pure (ps.zip us)) : Binds K fd ps [] := by
  obtain ⟨oc, od, kV, doc, pm, an, cdv, ct, osl, rfl, lk, hcd⟩ := F.ex
  exact .all (h kV doc pm an cdv ct)
theorem fun_mk {x qual : Str} {st : Stmt} {f : Addr} {oc : Value} {od an : Option Addr} {osl : Array (Option Value)} {kV doc pm cdv ct : Value} (l : K.lookup f = some ⟨oc, od, .func (PySem.W.fnOf x qual (defArgs st) (defBody st) (defScope st) .none kV doc pm an cdv ct), osl⟩)
    (c : PySem.W.codeIn K cdv qual = true) (k : PySem.W.keepIn K (.ref f) = true) : Fun K x qual st f (PySem.W.fnOf x qual (defArgs st) (defBody st) (defScope st) .none kV doc pm an cdv ct) := ⟨⟨oc, od, kV, doc, pm, an, cdv, ct, osl, rfl, l, c⟩, k⟩
end
theorem small1000 {n : Nat} (h : n ≤ 1000) : n < sizeLine := Nat.lt_of_le_of_lt h (by decide)

section
variable {X : Cx}
theorem pv (i : Nat) {x : Str} {pos : Pos} (hN : X.N[i]? = some x := by rfl) (hv : Vis X.env.scope x := by first | exact Or.inl rfl | exact Or.inr (Or.inl rfl) | exact Or.inr (Or.inr rfl)) (hd : (x == ("__debug__" : Str)) = false := by decide)
    (hcd : (x == ("__classdict__" : Str)) = false := by decide) : PE X (.Name x pos) (tVar i) := pe_var hN hv hd hcd
end

theorem iteT {A B : Prop} (h : A) : if true = true then A else B := by
  rw [if_pos rfl]
  exact h
theorem ite2 {c A B : Prop} [Decidable c] (h1 : c → A) (h2 : ¬ c → B) : if c then A else B := by
  by_cases h : c
  · rw [if_pos h]
    exact h1 h
  · rw [if_neg h]
    exact h2 h
/-- all that was tracked is as it was -/
def SamO (o : HO) (x : Option HO) : Prop := match o with | .tbl _ => ∃ qs, x = some (.tbl qs) | o => x = some o
theorem SamO.refl (o : HO) : SamO o (some o) := by cases o <;> first | rfl | exact ⟨_, rfl⟩
theorem SamO.of {o : HO} {x : Option HO} (h : x = some o) : SamO o x := by rw [h]; exact SamO.refl o
theorem SamO.some {o : HO} {x : Option HO} (h : SamO o x) : ∃ u, x = some u := by cases o <;> first | exact ⟨_, h⟩ | exact let ⟨_, e⟩ := h; ⟨_, e⟩
theorem SamO.ne {o : HO} {H : Hp} {c p : Addr} (h : SamO o (H c)) (f : H p = none) : c ≠ p := fun z => by
  obtain ⟨u, e⟩ := h.some
  rw [z, f] at e
  cases e
/-- all that was tracked is as it was (code tables may have grown) -/
def Same (H H' : Hp) : Prop := ∀ b o, H b = some o → SamO o (H' b)
theorem Same.ap {H H' : Hp} (s : Same H H') {c : Addr} {o : HO} (h : SamO o (H c)) : SamO o (H' c) := by
  cases o <;> first
    | exact s c _ h
    | (obtain ⟨qs, e⟩ := h; have z : ∃ r, H' c = Option.some (.tbl r) := s c (.tbl qs) e; exact z)
theorem Same.refl (H : Hp) : Same H H := fun _ _ h => SamO.of h
theorem Same.trans {H H1 H2 : Hp} (a : Same H H1) (b : Same H1 H2) : Same H H2 := fun c o h => b.ap (a c o h)
theorem Same.free {H H' : Hp} (e : Same H H') {l : Addr} (h : H' l = Option.none) : H l = Option.none := by
  cases q : H l with
  | none => rfl
  | some o =>
    obtain ⟨u, z⟩ := (e l o q).some
    rw [z] at h
    cases h
theorem Same.tb {H : Hp} {p : Addr} {ps qs : Array Value} (h : H p = Option.some (.tbl ps)) : Same H (upd H p (.tbl qs)) := fun b o e => by
  by_cases hb : b = p
  · subst hb
    rw [h] at e
    cases e
    exact ⟨qs, upd_same⟩
  · rw [upd_ne hb]
    exact SamO.of e
theorem Same.seq {K : PySem.W.Frag} {H H' : Hp} {a : Addr} {xs : List V} (e : Same H H') (h : SqL K H a xs) : SqL K H' a xs := by
  rcases h with (h | ⟨o, h⟩) | h
  · exact .inl (.inl (e _ _ h))
  · exact .inl (.inr ⟨o, e _ _ h⟩)
  · exact .inr h

section
variable {κ : Type} [DecidableEq κ]
end
theorem at_of {xs : List V} {z : Int} {j : Nat} {v : V} (e : z = (j : Int)) (h : xs[j]? = some v) : atI xs z = some v := by
  rw [e]
  exact atI_nat h
theorem sum_take : ∀ {l : List Int} {i : Nat} {z : Int}, l[i]? = some z → (l.take (i + 1)).sum = (l.take i).sum + z
  | [], i, z, h => by simp at h
  | a :: r, 0, z, h => by
    have e : a = z := Option.some.inj h
    subst e
    show ([a] : List Int).sum = ([] : List Int).sum + a
    rw [List.sum_cons]
    exact Int.add_comm _ _
  | a :: r, i + 1, z, h => by
    have ih := sum_take (l := r) (i := i) (z := z) h
    show (a :: r.take (i + 1)).sum = (a :: r.take i).sum + z
    rw [List.sum_cons, List.sum_cons, ih]
    omega
/-- a new instance and its __init__ leave all that was tracked as it was -/
theorem Same.made {H H1 : Hp} {x dx C : Addr} (nx : H x = Option.none) (nd : H dx = Option.none) (k : ∀ b o, (upd (upd H dx (.own x)) x (.ins C dx [])) b = some o → b ≠ x → H1 b = some o) : Same H H1 := fun b o e => SamO.of <|
  k b o (by rw [upd_ne (ne_of_none e nx), upd_ne (ne_of_none e nd)]; exact e) (ne_of_none e nx)
end L2

set_option Elab.async false
set_option linter.all false
set_option maxRecDepth 100000
set_option maxHeartbeats 4000000
namespace L2
open PySem PySem.Spec PyProof.Rows

section
variable {X : Cx}
theorem call_repr (hr : ∃ k, Room k X.A) : CallR X (.builtin "repr") (fun xs H Q => ∃ x d, xs = [x] ∧ Dp X.K H x d ∧ (∃ a, x = .ref a) ∧ d.showable = true ∧ d.hasDict = false ∧ d.depth ≤ 60 ∧ d.shown.length ≤ sizeLine ∧ Q (.str d.shown) H) := by
  intro pins s σ H xs us Q I r h
  obtain ⟨x, d, rfl, hd, ⟨a, rfl⟩, h1, h2, h3, h4, q⟩ := h
  obtain ⟨k, hr⟩ := hr
  obtain ⟨u, rfl, rx⟩ := vals1 r
  cases rx
  obtain ⟨as, rd⟩ := Dp.reads I d _ _ hd rfl
  have hu := hr.units
  refine PySem.repr_of_reads' rd h1 (PyData.noDict_hsm h2) hr.gd (by omega) (fun _ _ e => e) (fun h' u tk hk => ⟨.str d.shown, H, I.kept hk, ⟨_, rfl⟩, q⟩) h4
end
end L2

set_option Elab.async false
set_option linter.all false
set_option maxRecDepth 100000
set_option maxHeartbeats 4000000
namespace L2
open PySem PySem.Spec PyProof.Rows

def over (H N : Hp) : Hp := fun b => match N b with | some o => some o | none => H b
section
variable {X : Cx} {pins : List (Addr × Obj)} {σ : St} {H N : Hp} {s : Shared} {h' : Heap} {t' : Nat}
end

abbrev EnO (h : Heap) (e it : Addr) (f0 : Value) (f1 : Bool) (i : Int) (old : Value) : Prop :=
  h.get? e = some { cls := .type "enumerate", dict := none, data := .fields #[f0, .bool f1, .ref it, rawInt i, .none, old], slots := #[] }
/-- the enumerate object at e: its tuple is free, or was handed out and still stands -/
def EnSt (h : Heap) (e it : Addr) (i : Int) : Prop := (∃ old, IsEnum h e it i old) ∨ ∃ (a : Addr) (o : Obj) (f1 : Bool) (old : Value), EnO h e it (rawInt a) f1 i old ∧ h.get? a = some o ∧ a ≠ e ∧ a ≠ it
section
variable {prog : Program} {w : World} {A : Around} {E : Value → Shared → Prop} {s : Shared}
theorem EnSt.obj {h : Heap} {e it : Addr} {i : Int} (x : EnSt h e it i) : ∃ o, h.get? e = some o ∧ o.cls = .type "enumerate" := by
  rcases x with ⟨old, x⟩ | ⟨a, o, f1, old, x, _⟩
  · exact ⟨_, x, rfl⟩
  · exact ⟨_, x, rfl⟩
end
end L2
namespace L2
open PySem PySem.Spec PyProof.Rows
section
variable {prog : Program} {w : World} {A : Around} {E : Value → Shared → Prop} {s : Shared}
namespace FF
end FF
end
end L2
namespace L2
open PySem PySem.Spec PyProof.Rows
section
variable {X : Cx} {pins : List (Addr × Obj)} {σ : St} {H : Hp} {s : Shared}
end

end L2

set_option Elab.async false
set_option linter.all false
set_option maxRecDepth 100000
set_option maxHeartbeats 4000000
namespace L2
open PySem PySem.Spec PyProof.Rows
def Fn (P : Program) (w : World) (K : PySem.W.Frag) (mg : Str → Option Value) (base : Heap) (k : Nat) (x : Str) (ps : List Str) (sp : Sp) : Prop :=
  ∃ (f : Addr) (fd : FuncData), mg x = some (.ref f) ∧ PySem.W.keepIn K (.ref f) = true ∧ Binds K fd ps [] ∧ FnOk P w K mg base CX0 k f fd ps sp
/-- where a def stands -/
def DefAt (K : PySem.W.Frag) (mg : Str → Option Value) (x : Str) (st : Stmt) (ps : List Str) : Prop :=
  ∃ (f : Addr) (fd : FuncData), mg x = some (.ref f) ∧ Fun K x x st f fd ∧ Binds K fd ps []
section
variable {P : Program} {w : World} {K : PySem.W.Frag} {mg : Str → Option Value} {base : Heap}
theorem DefAt.fn {x : Str} {st : Stmt} {N ps : List Str} {k : Nat} {sp : Sp} (D : DefAt K mg x st ps) (S : FnScope N ps (defScope st)) (len : ∀ vs H Q E, sp vs H Q E → vs.length = ps.length)
    (hbody : ∀ (f : Addr) (cdv : Value) (A : Around) (outer : List Env) (s : Shared) (H : Hp) (vs : List V) (Q : VK) (E : XK), Room k (A.deeper (envOfC x (defScope st) s.heap.objs.size f cdv)) → sp vs H Q E →
      ∃ t, PSs (cxOf CX0 P w K mg base N x (defScope st) f cdv A outer s H E).nox (defBody st) t ∧ t { nx := fun _ H' => Q .non H', rt := Q } (start N vs) H) : Fn P w K mg base (k + 1) x ps sp := by
  obtain ⟨f, fd, hm, F, b⟩ := D
  exact ⟨f, fd, hm, F.kp, b, F.ok S len fun cdv A outer s H vs Q E hr h => hbody f cdv A outer s H vs Q E hr h⟩
theorem defAt_mk {h : Heap} (X : K.In h) (G : h.Ns mainGlobals mg) {x : Str} {st : Stmt} {ps : List Str} {f : Addr} {oc : Value} {od an : Option Addr} {osl : Array (Option Value)} {kV doc pm cdv ct : Value}
    (a : PySem.W.nsIn K mainGlobals x = some (some (.ref f))) (l : K.lookup f = some ⟨oc, od, .func (PySem.W.fnOf x x (defArgs st) (defBody st) (defScope st) .none kV doc pm an cdv ct), osl⟩)
    (c : PySem.W.codeIn K cdv x = true) (k : PySem.W.keepIn K (.ref f) = true)
    (hb : ∀ (kV doc pm : Value) (an : Option Addr) (cdv ct : Value) (us : List Value), us.length = ps.length → bindArgs (PySem.W.fnOf x x (defArgs st) (defBody st) (defScope st) .none kV doc pm an cdv ct) ⟨us, []⟩ = pure (ps.zip us)) : DefAt K mg x st ps :=
  have F := fun_mk (st := st) l c k
  ⟨f, _, PySem.W.mg_of X G a, F, F.binds hb⟩
end
/-- a call of a def of the text -/
theorem pe_fn {X : Cx} {j k : Nat} {x : Str} {ps : List Str} {sp : Sp} {p pos : Pos} {e : Expr} {es : List Expr} {t : TA} (F : Fn X.prog X.w X.K X.mg X.base k x ps sp) (hr : Room j X.A) (hg : Gl X x) (ha : PA X (e :: es) t) (hx : ∀ v s, ¬ X.xe v s → X.xe = X.xe := by intros; rfl)
    (hjk : k ≤ j := by decide) (hdb : (x == ("__debug__" : Str)) = false := by decide) (he : starEach (e :: es) X.env = (false, eval e X.env) :: starEach es X.env := by rfl) (hpl : (backTo pos (starEach es X.env)).any (·.1) = false := by rfl) :
    PE X (.Call (.Name x p) (e :: es) [] pos) (tCall sp [] E0 t) := by
  obtain ⟨f, fd, hm, kp, b, G⟩ := F
  exact pe_call G (hr.mono hjk) hg hm kp b .nil pass0 ha hdb he hpl
/-- the built-ins that are used, not hidden by the text -/
def Bl (mg : Str → Option Value) (l : List Str) : Prop := ∀ x, x ∈ l → mg x = none

/-- all but the list at p is as it was; p is a hand -/
def Hand (H : Hp) (p : Addr) : Prop := ∃ d e : Int, H p = some (.lst [.int d, .int e]) ∧ 0 ≤ e ∧ e < 2147483587
/-- what was there but at p is as it was -/
def But (p : Addr) (H H' : Hp) : Prop := ∀ b o, b ≠ p → H b = some o → SamO o (H' b)
theorem But.refl (p : Addr) (H : Hp) : But p H H := fun _ _ _ h => SamO.of h
theorem But.ap {p : Addr} {H H' : Hp} (s : But p H H') {c : Addr} {o : HO} (n : c ≠ p) (h : SamO o (H c)) : SamO o (H' c) := by
  cases o <;> first
    | exact s c _ n h
    | (obtain ⟨qs, e⟩ := h; have z : ∃ r, H' c = Option.some (.tbl r) := s c (.tbl qs) n e; exact z)
theorem But.trans {p : Addr} {H H1 H2 : Hp} (a : But p H H1) (b : But p H1 H2) : But p H H2 := fun c o n h => b.ap n (a c o n h)
theorem But.same {p : Addr} {H H1 H2 : Hp} (s : Same H H1) (f : H p = none) (b : But p H1 H2) : Same H H2 := fun c o e => b.ap (ne_of_none e f) (s c o e)
theorem But.upd {p : Addr} {H : Hp} (o : HO) : But p H (upd H p o) := fun b _ n h => by rw [upd_ne n]; exact SamO.of h
theorem But.new {p q : Addr} {H : Hp} {o : HO} (h : H q = none) : But p H (L2.upd H q o) := fun b u n e => by rw [upd_ne (ne_of_none e h)]; exact SamO.of e
theorem Same.new {q : Addr} {H : Hp} {o : HO} (h : H q = none) : Same H (L2.upd H q o) := fun b u e => by rw [upd_ne (ne_of_none e h)]; exact SamO.of e
theorem Same.but {p : Addr} {H H' : Hp} (s : Same H H') : But p H H' := fun b o _ e => s b o e
theorem Hand.new {H : Hp} {p q : Addr} {o : HO} (h : Hand H p) (n : H q = none) : Hand (L2.upd H q o) p := by
  obtain ⟨d, e, h, r⟩ := h
  exact ⟨d, e, by rw [upd_ne (ne_of_none h n)]; exact h, r⟩
theorem Hand.same {H H' : Hp} {p : Addr} (h : Hand H p) (s : Same H H') : Hand H' p := by
  obtain ⟨d, e, h, r⟩ := h
  exact ⟨d, e, s _ _ h, r⟩
theorem But.lst {p a : Addr} {H H' : Hp} {xs : List V} (s : But p H H') (n : a ≠ p) (h : H a = some (.lst xs)) : H' a = some (.lst xs) := s _ _ n h
theorem But.seq {K : PySem.W.Frag} {p a : Addr} {H H' : Hp} {xs : List V} (s : But p H H') (n : a ≠ p) (h : SqL K H a xs) : SqL K H' a xs := by
  rcases h with (h | ⟨o, h⟩) | h
  · exact .inl (.inl (s _ _ n h))
  · exact .inl (.inr ⟨o, s _ _ n h⟩)
  · exact .inr h
theorem Hand.ne {H : Hp} {p q : Addr} (h : Hand H p) (n : H q = none) : q ≠ p := by
  obtain ⟨d, e, h, _⟩ := h
  exact (ne_of_none h n).symm
/-- a store at an address that was free in H -/
theorem But.at {p D : Addr} {H H' : Hp} {o : HO} (s : But p H H') (f : H D = none) : But p H (L2.upd H' D o) := fun b u n e => by
  rw [upd_ne (ne_of_none e f)]; exact s b u n e
theorem Hand.at {H : Hp} {p D : Addr} {o : HO} (h : Hand H p) (n : D ≠ p) : Hand (L2.upd H D o) p := by
  obtain ⟨d, e, h, r⟩ := h
  exact ⟨d, e, by rw [upd_ne n.symm]; exact h, r⟩
theorem Hand.some {H : Hp} {p : Addr} (h : Hand H p) : H p ≠ none := by
  obtain ⟨d, e, h, _⟩ := h
  rw [h]; simp
end L2

set_option Elab.async false
set_option linter.all false
set_option maxRecDepth 100000
set_option maxHeartbeats 4000000
namespace L2
open PySem PySem.Spec PyProof.Rows
abbrev intsD (ns : List Int) : PyData := .list (ns.map PyData.int)
abbrev prD (p : Int × Int) : PyData := .tuple [.int p.1, .int p.2]
abbrev prsD (ps : List (Int × Int)) : PyData := .list (ps.map prD)
section
variable {K : PySem.W.Frag} {H : Hp}
theorem dpInts (ns : List Int) : DpAll K H (ns.map V.int) (ns.map PyData.int) := by
  induction ns with
  | nil => exact .nil
  | cons n r ih => exact .cons (.int n) ih
theorem dpInts' {a : Addr} {ns : List Int} (h : SqL K H a (ns.map V.int)) : Dp K H (.ref a) (intsD ns) := .lst h (dpInts ns)
mutual
theorem Dp.same {H' : Hp} (s : Same H H') : ∀ (d : PyData) (v : V), Dp K H v d → Dp K H' v d
  | .none, _, h => by cases h; exact .non
  | .bool b, _, h => by cases h; exact .bl b
  | .int i, _, h => by cases h; exact .int i
  | .str x, _, h => by cases h; exact .str x
  | .list ds, _, h => by
    cases h with
    | lst hs ha => exact .lst (s.seq hs) (DpAll.same s ds _ ha)
  | .tuple ds, _, h => by
    cases h with
    | tup hs ha =>
      refine .tup ?_ (DpAll.same s ds _ ha)
      rcases hs with (h | ⟨o, h⟩) | h
      · exact .inl (.inl (s _ _ h))
      · exact .inl (.inr ⟨o, s _ _ h⟩)
      · exact .inr h
  | .dict _, _, h => by cases h
theorem DpAll.same {H' : Hp} (s : Same H H') : ∀ (ds : List PyData) (vs : List V), DpAll K H vs ds → DpAll K H' vs ds
  | [], _, h => by cases h; exact .nil
  | d :: ds, _, h => by
    cases h with
    | cons h1 h2 => exact .cons (Dp.same s d _ h1) (DpAll.same s ds _ h2)
end
end
theorem canLayInts (ns : List Int) : PyData.canLayAll0 (ns.map PyData.int) = true := by
  induction ns with
  | nil => rfl
  | cons n r ih =>
    rw [List.map_cons]
    simp [PyData.canLayAll0, PyData.canLay0, ih]
theorem depthInts (ns : List Int) : PyData.depthAll (ns.map PyData.int) ≤ 1 := by
  induction ns with
  | nil => simp [PyData.depthAll]
  | cons n r ih =>
    rw [List.map_cons]
    simp only [PyData.depthAll, PyData.depth]
    omega
theorem shapedInts (ns : List Int) : SeqAt.shaped (intsD ns) = true := by
  have h1 := canLayInts ns
  have h2 := depthInts ns
  unfold SeqAt.shaped
  simp only [PyData.canLay0, PyData.depth, h1, Bool.true_and]
  exact decide_eq_true (by omega)
theorem eqvAllInts : ∀ (ns ms : List Int), PyData.eqvAll (ns.map PyData.int) (ms.map PyData.int) = decide (ns = ms)
  | [], [] => by simp [PyData.eqvAll]
  | [], _ :: _ => by simp [PyData.eqvAll]
  | _ :: _, [] => by simp [PyData.eqvAll]
  | n :: ns, m :: ms => by
    rw [List.map_cons, List.map_cons]
    simp only [PyData.eqvAll, PyData.eqv, eqvAllInts ns ms, List.cons.injEq, Bool.decide_and]
    rfl
theorem eqvInts (ns ms : List Int) : PyData.eqv (intsD ns) (intsD ms) = decide (ns = ms) := by
  simp only [PyData.eqv]; exact eqvAllInts ns ms
section
variable {X : Cx}
def rEqLI (K : PySem.W.Frag) : R2 := fun x y H Q => ∃ (a b : Addr) (ns ms : List Int), x = .ref a ∧ y = .ref b ∧ SqL K H a (ns.map V.int) ∧ SqL K H b (ms.map V.int) ∧ Q (.bl (decide (ns = ms))) H
theorem op_eqLI (hu : X.A.units + 64 < cLine) : OpR X (compareOp .Eq) (rEqLI X.K) := by
  intro pins s σ H x y v u Q I rx ry h
  obtain ⟨a, b, ns, ms, rfl, rfl, h1, h2, q⟩ := h
  exact op_eqD hu pins s σ H _ _ v u Q I rx ry ⟨_, _, dpInts' h1, dpInts' h2, shapedInts _, shapedInts _, by rw [eqvInts]; exact q⟩
end
/-- a slice of a list of ints -/
def cutI (ns : List Int) (lo hi : Option Int) : List Int := (ns.drop (HT.sIx ns.length 0 lo)).take (HT.sIx ns.length ns.length hi - HT.sIx ns.length 0 lo)
theorem cut_ints (ns : List Int) (lo hi : Option Int) : cutV (ns.map V.int) lo hi = (cutI ns lo hi).map V.int := by
  unfold cutV cutI
  rw [List.length_map, List.map_take, List.map_drop]
theorem cutI_len (ns : List Int) (lo hi : Option Int) : (cutI ns lo hi).length ≤ ns.length := by
  unfold cutI
  rw [List.length_take, List.length_drop]
  omega
theorem line1000 {n : Nat} (h : n ≤ 1000) : n ≤ sizeLine := Nat.le_of_lt (small1000 h)
theorem at_pick {ns : List Int} {i : Int} (h0 : 0 ≤ i) (h1 : i < ns.length) : ∃ v, v ∈ ns ∧ atI (ns.map V.int) i = some (V.int v) := by
  have hl : i.toNat < ns.length := by omega
  refine ⟨ns[i.toNat], List.getElem_mem hl, at_of (j := i.toNat) (by omega) ?_⟩
  rw [List.getElem?_map, List.getElem?_eq_getElem hl]
  rfl
theorem at_pickV {xs : List V} {i : Int} (h0 : 0 ≤ i) (h1 : i < xs.length) : ∃ v, v ∈ xs ∧ atI xs i = some v := by
  have hl : i.toNat < xs.length := by omega
  exact ⟨xs[i.toNat], List.getElem_mem hl, at_of (j := i.toNat) (by omega) (List.getElem?_eq_getElem hl)⟩
theorem seqJ {t rest : TS} {D : Ends} {σ : St} {H : Hp} (J : St → Hp → Prop) (h1 : (∀ σ' H', J σ' H' → rest D σ' H') → t { D with nx := rest D } σ H) (h2 : ∀ σ' H', J σ' H' → rest D σ' H') : tSeq t rest D σ H := h1 h2
end L2

set_option Elab.async false
set_option linter.all false
set_option maxRecDepth 100000
set_option maxHeartbeats 4000000
namespace L2
open PySem PySem.Spec PyProof.Rows
def minL : List Int → Int
  | [] => 0
  | [a] => a
  | a :: b :: r => if minL (b :: r) < a then minL (b :: r) else a
theorem minL_spec : ∀ {l : List Int}, l ≠ [] → minL l ∈ l ∧ ∀ y ∈ l, minL l ≤ y
  | [], h => absurd rfl h
  | [a], _ => ⟨List.mem_singleton.mpr rfl, fun y hy => by rw [List.mem_singleton.mp hy]; exact Int.le_refl _⟩
  | a :: b :: r, _ => by
    have ih := minL_spec (l := b :: r) (by simp)
    have e : minL (a :: b :: r) = if minL (b :: r) < a then minL (b :: r) else a := rfl
    by_cases h : minL (b :: r) < a
    · rw [if_pos h] at e
      rw [e]
      refine ⟨List.mem_cons_of_mem _ ih.1, fun y hy => ?_⟩
      rcases List.mem_cons.mp hy with z | z
      · omega
      · exact ih.2 y z
    · rw [if_neg h] at e
      rw [e]
      refine ⟨List.mem_cons_self, fun y hy => ?_⟩
      rcases List.mem_cons.mp hy with z | z
      · omega
      · have := ih.2 y z; omega
theorem minL_uniq {l : List Int} {m : Int} (h1 : m ∈ l) (h2 : ∀ y ∈ l, m ≤ y) : minL l = m := by
  have hne : l ≠ [] := fun e => by rw [e] at h1; cases h1
  have := minL_spec hne
  have a := this.2 m h1
  have b := h2 _ this.1
  omega
theorem minL_add {x : List Int} (hx : x ≠ []) (c : Int) : minL (x.map fun n => n + c) = minL x + c := by
  have a := minL_spec hx
  refine minL_uniq (List.mem_map.mpr ⟨_, a.1, rfl⟩) fun y hy => ?_
  obtain ⟨z, hz, rfl⟩ := List.mem_map.mp hy
  have := a.2 z hz; omega
/-- the first place of n in a list -/
def fst (n : Int) : List Int → Nat
  | [] => 0
  | a :: r => if a = n then 0 else fst n r + 1
/-- a stretch -/
def seg (ns : List Int) (b e : Int) : List Int := (ns.drop b.toNat).take (e.toNat - b.toNat)
/-- begin and end of a stretch of so many -/
structure IsSt (n : Nat) (b e : Int) : Prop where
  b0 : 0 ≤ b
  be : b < e
  en : e ≤ n
theorem seg_len {ns : List Int} {b e : Int} (h : IsSt ns.length b e) : (seg ns b e).length = e.toNat - b.toNat := by
  have := h.b0; have := h.be; have := h.en
  unfold seg
  rw [List.length_take, List.length_drop]
  omega
theorem seg_ne {ns : List Int} {b e : Int} (h : IsSt ns.length b e) : seg ns b e ≠ [] := fun z => by
  have := seg_len h
  rw [z] at this
  have := h.b0; have := h.be
  simp at *
  omega
theorem seg_map (f : Int → Int) (ns : List Int) (b e : Int) : seg (ns.map f) b e = (seg ns b e).map f := by
  unfold seg
  rw [List.map_take, List.map_drop]
/-- the first place of the least, within the stretch -/
def pl (l : List Int) : Nat := fst (minL l) l
end L2

set_option Elab.async false
set_option linter.all false
set_option maxRecDepth 100000
set_option maxHeartbeats 4000000
namespace L2
open PySem PySem.Spec PyProof.Rows
theorem get_ints {ns : List Int} {k : Nat} {x : V} (h : (ns.map V.int)[k]? = some x) : ∃ n, ns[k]? = some n ∧ x = .int n := by
  rw [List.getElem?_map] at h
  cases e : ns[k]? with
  | none => rw [e] at h; cases h
  | some n => rw [e] at h; exact ⟨n, rfl, (Option.some.inj h).symm⟩
theorem take_snoc {α : Type} {l : List α} {k : Nat} {n : α} (h : l[k]? = some n) : l.take (k + 1) = l.take k ++ [n] := by
  rw [List.take_succ, h]; rfl
end L2

set_option Elab.async false
set_option linter.all false
set_option maxRecDepth 100000
set_option maxHeartbeats 4000000
namespace L2
open PySem PySem.Spec PyProof.Rows
def Sml (n : Int) : Prop := n.natAbs.log2 < 1920
theorem textFrom_le : ∀ (ts : List Str) (k m : Nat) (acc : Str), (∀ t ∈ ts, t.length ≤ m) → (textFrom k acc ts).length ≤ acc.length + ts.length * (m + 2)
  | [], k, m, acc, _ => by show acc.length ≤ _; omega
  | t :: r, k, m, acc, h => by
    have ih := textFrom_le r (k + 1) m (acc ++ (if k > 0 then ", " else "" : String) ++ t) fun x hx => h x (List.mem_cons_of_mem _ hx)
    have ht := h t List.mem_cons_self
    have hl : (acc ++ ((if k > 0 then ", " else "" : String) : Str) ++ t).length ≤ acc.length + 2 + t.length := by
      rw [Str.length_append, Str.length_append]
      have : ((if k > 0 then ", " else "" : String) : Str).length ≤ 2 := by split <;> decide
      omega
    show (textFrom (k + 1) (acc ++ (if k > 0 then ", " else "" : String) ++ t) r).length ≤ _
    rw [List.length_cons, Nat.succ_mul]
    omega
theorem listText_le (ts : List Str) (m : Nat) (h : ∀ t ∈ ts, t.length ≤ m) : (listText ts).length ≤ 2 + ts.length * (m + 2) := by
  unfold listText
  rw [Str.length_append]
  have := textFrom_le ts 0 m "[" h
  have h1 : ("[" : Str).length = 1 := by decide
  have h2 : ("]" : Str).length = 1 := by decide
  omega
theorem shownAll_map (ns : List Int) : PyData.shownAll (ns.map PyData.int) = ns.map fun i => (Str.ofString (toString i)) := by
  induction ns with
  | nil => simp only [List.map_nil, PyData.shownAll]
  | cons n r ih => simp only [List.map_cons, PyData.shownAll, PyData.shown, ih]
theorem showInts {ns : List Int} (h : ∀ n ∈ ns, Sml n) : PyData.showableAll (ns.map PyData.int) = true := by
  induction ns with
  | nil => simp only [List.map_nil, PyData.showableAll]
  | cons n r ih =>
    have h1 : decide (n.natAbs.log2 < 1920) = true := decide_eq_true (h n List.mem_cons_self)
    simp only [List.map_cons, PyData.showableAll, PyData.showable, ih fun x hx => h x (List.mem_cons_of_mem _ hx), h1, Bool.and_self]
theorem noDictInts (ns : List Int) : PyData.hasDictAll (ns.map PyData.int) = false := by
  induction ns with
  | nil => simp only [List.map_nil, PyData.hasDictAll]
  | cons n r ih => simp only [List.map_cons, PyData.hasDictAll, PyData.hasDict, ih, Bool.or_self]
section
variable {X : Cx}
end
end L2

set_option Elab.async false
set_option linter.all false
set_option maxRecDepth 100000
set_option maxHeartbeats 4000000
namespace L2
open PySem PySem.Spec PyProof.Rows
section
variable {prog : Program} {w : World} {A : Around} {E : Value → Shared → Prop} {s : Shared}
end
section
variable {prog : Program} {w : World} {A : Around} {E : Value → Shared → Prop} {s : Shared}
end
end L2

set_option Elab.async false
set_option linter.all false
set_option maxRecDepth 100000
set_option maxHeartbeats 4000000
namespace L2
open PySem PySem.Spec PyProof.Rows
abbrev vl (ns : List Int) (i : Nat) : Int := ns.getD i 0
structure IsReach (ns : List Int) (i b e : Nat) : Prop where
  bi : b ≤ i
  ie : i < e
  en : e ≤ ns.length
  bg : ∀ j, b ≤ j → j < i → vl ns i < vl ns j
  b0 : b = 0 ∨ vl ns (b - 1) ≤ vl ns i
  eg : ∀ j, i ≤ j → j < e → vl ns i ≤ vl ns j
  e0 : e = ns.length ∨ vl ns e < vl ns i
theorem IsReach.uniq {ns : List Int} {i b e b' e' : Nat} (h : IsReach ns i b e) (h' : IsReach ns i b' e') : b = b' ∧ e = e' := by
  constructor
  · rcases Nat.lt_trichotomy b b' with z | z | z
    · rcases h'.b0 with q | q
      · omega
      · have := h.bg (b' - 1) (by omega) (by have := h'.bi; omega)
        omega
    · exact z
    · rcases h.b0 with q | q
      · omega
      · have := h'.bg (b - 1) (by omega) (by have := h.bi; omega)
        omega
  · rcases Nat.lt_trichotomy e e' with z | z | z
    · rcases h.e0 with q | q
      · have := h'.en; omega
      · have := h'.eg e (by have := h.ie; omega) z
        omega
    · exact z
    · rcases h'.e0 with q | q
      · have := h.en; omega
      · have := h.eg e' (by have := h'.ie; omega) z
        omega
/-- the reaches of all places -/
def AreReaches (ns : List Int) (ps : List (Int × Int)) : Prop := ps.length = ns.length ∧ ∀ (i : Nat) (p : Int × Int), ps[i]? = some p → ∃ b e : Nat, p = ((b : Int), (e : Int)) ∧ IsReach ns i b e
theorem AreReaches.uniq {ns : List Int} {ps qs : List (Int × Int)} (h : AreReaches ns ps) (h' : AreReaches ns qs) : ps = qs := by
  apply List.ext_getElem?
  intro i
  by_cases hi : i < ns.length
  · have hp : ps[i]? = some (ps[i]'(by rw [h.1]; exact hi)) := List.getElem?_eq_getElem _
    have hq : qs[i]? = some (qs[i]'(by rw [h'.1]; exact hi)) := List.getElem?_eq_getElem _
    obtain ⟨b, e, e1, r⟩ := h.2 i _ hp
    obtain ⟨b', e', e1', r'⟩ := h'.2 i _ hq
    obtain ⟨z1, z2⟩ := r.uniq r'
    rw [hp, hq, e1, e1', z1, z2]
  · rw [List.getElem?_eq_none (by rw [h.1]; omega), List.getElem?_eq_none (by rw [h'.1]; omega)]
structure Stk (ns : List Int) (m : Nat) (top : Nat) (ws es : List Nat) : Prop where
  lenE : es.length = ns.length
  mn : m ≤ ns.length
  inc : ws.Pairwise (· < ·)
  lt : ∀ j ∈ ws, j < m
  gone : ∀ j, j < m → j ∉ ws → ∃ k, es[j]? = some k ∧ j < k ∧ k < top ∧ vl ns k < vl ns j ∧ ∀ i, j ≤ i → i < k → vl ns j ≤ vl ns i
  wait : ∀ j ∈ ws, es[j]? = some ns.length ∧ ∀ i, j ≤ i → i < m → vl ns j ≤ vl ns i
  rest : ∀ j, m ≤ j → j < ns.length → es[j]? = some ns.length
theorem Stk.start (ns : List Int) : Stk ns 0 0 [] (List.replicate ns.length ns.length) where
  lenE := List.length_replicate
  mn := Nat.zero_le _
  inc := .nil
  lt := fun j hj => nomatch hj
  gone := fun j hj => absurd hj (Nat.not_lt_zero _)
  wait := fun j hj => nomatch hj
  rest := fun j _ hj => by rw [List.getElem?_replicate, if_pos hj]
theorem Stk.mono {ns : List Int} {m t t' : Nat} {ws es : List Nat} (h : Stk ns m t ws es) (ht : t ≤ t') : Stk ns m t' ws es :=
  ⟨h.lenE, h.mn, h.inc, h.lt, fun j hj hn => by obtain ⟨k, a, b, c, d⟩ := h.gone j hj hn; exact ⟨k, a, b, by omega, d⟩, h.wait, h.rest⟩
/-- m waits -/
theorem Stk.push {ns : List Int} {m : Nat} {ws es : List Nat} (h : Stk ns m (m + 1) ws es) (hm : m < ns.length) (hv : ∀ w, ws.getLast? = some w → vl ns w ≤ vl ns m) : Stk ns (m + 1) (m + 1) (ws ++ [m]) es := by
  refine ⟨h.lenE, hm, ?_, fun j hj => ?_, fun j hj hn => ?_, fun j hj => ?_, fun j hj hl => h.rest j (by omega) hl⟩
  · exact List.pairwise_append.mpr ⟨h.inc, List.pairwise_singleton _ _, fun a ha b hb => by
      have h1 := h.lt a ha
      have h2 : b = m := (by simpa using hb)
      omega⟩
  · rcases List.mem_append.mp hj with z | z
    · have := h.lt j z; omega
    · have : j = m := by simpa using z
      omega
  · have hn' : j ∉ ws ∧ j ≠ m := by simpa using hn
    exact h.gone j (by omega) hn'.1
  · rcases List.mem_append.mp hj with z | z
    · obtain ⟨a, b⟩ := h.wait j z
      refine ⟨a, fun i h1 h2 => ?_⟩
      rcases Nat.lt_succ_iff_lt_or_eq.mp h2 with q | q
      · exact b i h1 q
      · subst q
        cases e : ws.getLast? with
        | none => rw [List.getLast?_eq_none_iff.mp e] at z; cases z
        | some w =>
          have hw := hv w e
          obtain ⟨ys, hys⟩ := List.getLast?_eq_some_iff.mp e
          have hjw : j ≤ w := by
            rw [hys] at z
            rcases List.mem_append.mp z with q | q
            · have hi := h.inc
              rw [hys] at hi
              have := (List.pairwise_append.mp hi).2.2 j q w (by simp)
              omega
            · have : j = w := by simpa using q
              omega
          have hwm := h.lt w (by rw [hys]; simp)
          have := b w hjw hwm
          omega
    · have : j = m := by simpa using z
      subst this
      exact ⟨h.rest j (Nat.le_refl _) hm, fun i h1 h2 => by
        have e : i = j := (by omega)
        rw [e]; exact Int.le_refl _⟩
def PrAt (H : Hp) (ts : List Addr) (ps : List (Int × Int)) : Prop := ts.length = ps.length ∧ ∀ (j : Nat) (t : Addr) (p : Int × Int), ts[j]? = some t → ps[j]? = some p → H t = some (.tup [.int p.1, .int p.2])
theorem PrAt.same {H H' : Hp} {ts : List Addr} {ps : List (Int × Int)} (h : PrAt H ts ps) (s : Same H H') : PrAt H' ts ps := ⟨h.1, fun j t p h1 h2 => s _ _ (h.2 j t p h1 h2)⟩
theorem PrAt.at {H : Hp} {ts : List Addr} {ps : List (Int × Int)} {D : Addr} {xs ys : List V} (h : PrAt H ts ps) (hD : H D = some (.lst xs)) : PrAt (L2.upd H D (.lst ys)) ts ps := ⟨h.1, fun j t p h1 h2 => by
  have c := h.2 j t p h1 h2
  rw [upd_ne fun z => by rw [z, hD] at c; cases c]
  exact c⟩
theorem PrAt.but {H H' : Hp} {p : Addr} {ts : List Addr} {ps : List (Int × Int)} (h : PrAt H ts ps) (k : But p H H') (hh : Hand H p) : PrAt H' ts ps := ⟨h.1, fun j t q h1 h2 => by
  have c := h.2 j t q h1 h2
  refine k _ _ (fun z => ?_) c
  obtain ⟨d, e', hp, _⟩ := hh
  rw [z, hp] at c; cases c⟩
theorem PrAt.dpAll {K : PySem.W.Frag} {H : Hp} : ∀ {ts : List Addr} {ps : List (Int × Int)}, PrAt H ts ps → DpAll K H (ts.map V.ref) (ps.map prD)
  | [], [], _ => .nil
  | [], _ :: _, h => by have := h.1; simp at this
  | _ :: _, [], h => by have := h.1; simp at this
  | t :: ts, p :: ps, h => by
    have c := h.2 0 t p rfl rfl
    refine .cons (.tup (SqT.of c) (.cons (.int _) (.cons (.int _) .nil))) (PrAt.dpAll (ts := ts) (ps := ps) ⟨by have := h.1; simpa using this, fun j t' p' h1 h2 => h.2 (j + 1) t' p' (by simpa using h1) (by simpa using h2)⟩)
theorem PrAt.dp {K : PySem.W.Frag} {H : Hp} {a : Addr} {ts : List Addr} {ps : List (Int × Int)} (h : PrAt H ts ps) (ha : SqL K H a (ts.map V.ref)) : Dp K H (.ref a) (prsD ps) := .lst ha h.dpAll
theorem Same.at {D : Addr} {H H' : Hp} {o : HO} (s : Same H H') (f : H D = none) : Same H (L2.upd H' D o) := fun b u e => by
  rw [upd_ne (ne_of_none e f)]; exact s b u e
end L2

set_option Elab.async false
set_option linter.all false
set_option maxRecDepth 100000
set_option maxHeartbeats 4000000
namespace L2
open PySem PySem.Spec PyProof.Rows
def sumN : Nat → (Nat → Int) → Int
  | 0, _ => 0
  | n + 1, g => sumN n g + g n
theorem sumN_congr : ∀ {n : Nat} {g h : Nat → Int}, (∀ i, i < n → g i = h i) → sumN n g = sumN n h
  | 0, _, _, _ => rfl
  | n + 1, g, h, e => by
    show sumN n g + g n = sumN n h + h n
    rw [sumN_congr fun i hi => e i (by omega), e n (by omega)]
end L2

set_option Elab.async false
set_option linter.all false
set_option maxRecDepth 100000
set_option maxHeartbeats 4000000
namespace L2
open PySem PySem.Spec PyProof.Rows
def dd (ns : List Int) : Nat := (PyProof.Rows.firstMet (fun i => ns.getD i 0) ns.length).length
section
variable {X : Cx}
end
theorem vl_map {f : Int → Int} {ns : List Int} {i : Nat} (h : i < ns.length) : vl (ns.map f) i = f (vl ns i) := by
  unfold vl
  rw [List.getD_eq_getElem?_getD, List.getD_eq_getElem?_getD, List.getElem?_map, List.getElem?_eq_getElem h]
  rfl
theorem IsReach.map {f : Int → Int} (hf : ∀ x y, f x < f y ↔ x < y) {ns : List Int} {i b e : Nat} (h : IsReach ns i b e) : IsReach (ns.map f) i b e := by
  have hie := h.ie; have hen := h.en; have hbi := h.bi
  have hle : ∀ x y, f x ≤ f y ↔ x ≤ y := fun x y => by
    have := hf y x
    constructor <;> intro q <;> omega
  refine ⟨hbi, hie, by rw [List.length_map]; exact hen, fun j h1 h2 => ?_, ?_, fun j h1 h2 => ?_, ?_⟩
  · rw [vl_map (by omega), vl_map (by omega)]; exact (hf _ _).mpr (h.bg j h1 h2)
  · rcases h.b0 with q | q
    · exact .inl q
    · right; rw [vl_map (by omega), vl_map (by omega)]; exact (hle _ _).mpr q
  · rw [vl_map (by omega), vl_map (by omega)]; exact (hle _ _).mpr (h.eg j h1 h2)
  · rcases h.e0 with q | q
    · left; rw [List.length_map]; exact q
    · by_cases z : e = ns.length
      · left; rw [List.length_map]; exact z
      · right; rw [vl_map (by omega), vl_map (by omega)]; exact (hf _ _).mpr q
theorem AreReaches.map {f : Int → Int} (hf : ∀ x y, f x < f y ↔ x < y) {ns : List Int} {ps : List (Int × Int)} (h : AreReaches ns ps) : AreReaches (ns.map f) ps :=
  ⟨by rw [List.length_map]; exact h.1, fun i p hp => let ⟨b, e, e1, r⟩ := h.2 i p hp; ⟨b, e, e1, r.map hf⟩⟩
end L2

set_option Elab.async false
set_option linter.all false
set_option maxRecDepth 100000
set_option maxHeartbeats 4000000
namespace L2
open PySem PySem.Spec PyProof.Rows
end L2

set_option Elab.async false
set_option linter.all false
set_option maxRecDepth 100000
set_option maxHeartbeats 4000000
namespace L2
open PySem PySem.Spec PyProof.Rows
def sumSt (ns : List Int) (g : List Int → Int) : Int := sumN ns.length fun b => sumN (ns.length - b) fun j => g (seg ns (b : Int) ((b + j + 1 : Nat) : Int))
end L2

set_option Elab.async false
set_option linter.all false
set_option maxRecDepth 100000
set_option maxHeartbeats 4000000
namespace L2
open PySem PySem.Spec PyProof.Rows
theorem sumSt_congr {ns : List Int} {g h : List Int → Int} (e : ∀ l, l ≠ [] → g l = h l) : sumSt ns g = sumSt ns h := by
  unfold sumSt
  exact sumN_congr fun b hb => sumN_congr fun j hj => e _ (seg_ne ⟨by omega, by omega, by omega⟩)
theorem sumSt_map {ns : List Int} {f : Int → Int} {g : List Int → Int} : sumSt (ns.map f) g = sumSt ns fun l => g (l.map f) := by
  unfold sumSt
  rw [List.length_map]
  exact sumN_congr fun b hb => sumN_congr fun j hj => by rw [seg_map]
end L2

set_option Elab.async false
set_option linter.all false
set_option maxRecDepth 100000
set_option maxHeartbeats 4000000
namespace L2
open PySem PySem.Spec PyProof.Rows
section
variable {X : Cx} {tg : Expr}
end
end L2

set_option Elab.async false
set_option linter.all false
set_option maxRecDepth 100000
set_option maxHeartbeats 4000000
namespace L2
open PySem PySem.Spec PyProof.Rows

/-- the code object that runs: all that a generator expression wants of it -/
def CodeK (P : Program) (K : PySem.W.Frag) (mg : Str → Option Value) (cdv : Value) : Prop :=
  ∃ (c Pt : Addr) (oc : Obj) (vs : Array Value) (file : Str) (tf : Tok) (flags : Int) (tg : Tok) (inF : Bool) (text : Int) (tt : Tok), cdv = .ref c ∧ TabOf P K mg Pt ∧ K.lookup c = some oc ∧ oc.cls = .type "code" ∧ oc.data = .fields vs ∧
    vs.getD 11 .none = .ref Pt ∧ vs[11]? = some (.ref Pt) ∧ vs.getD 18 .none = .str file tf ∧ vs.getD 7 .none = .int flags tg ∧ vs.getD 9 .none = .bool inF ∧ vs.getD 10 .none = .int text tt
section
variable {X : Cx} {pins : List (Addr × Obj)} {σ : St} {H : Hp} {s : Shared}
theorem Inv.tabs (I : Inv X pins σ H s) : Tabs X.prog X.K X.mg H := I.ok.tb.un I.base

end
end L2

set_option Elab.async false
set_option linter.all false
set_option maxRecDepth 100000
set_option maxHeartbeats 4000000
namespace L2
open PySem PySem.Spec PyProof.Rows

section
variable {scope : Scope} {cl : List (Str × Addr)} {env : Env} {prog : Program} {w : World} {xa xb : Str}
end

def fullV (vs : Array Value) : Bool := match vs[11]?, vs[18]?, vs[7]?, vs[9]?, vs[10]? with
  | Option.some (Value.ref _), Option.some (Value.str _ _), Option.some (Value.int _ _), Option.some (Value.bool _), Option.some (Value.int _ _) => true
  | _, _, _, _, _ => false
def codeFull (K : PySem.W.Frag) (cd : Value) : Bool := match cd with
  | .ref c => (match K.lookup c with
    | some ⟨oc, _, .fields vs, _⟩ => oc == .type "code" && fullV vs
    | _ => false)
  | _ => false
theorem getD_some {vs : Array Value} {i : Nat} {v : Value} (h : vs[i]? = some v) : vs.getD i .none = v := by
  obtain ⟨h1, h2⟩ := Array.getElem?_eq_some_iff.mp h
  simp [Array.getD, h1, h2]
theorem codeK_of {P : Program} {K : PySem.W.Frag} {mg : Str → Option Value} {x : Str} {f : Addr} {o : Obj} {fd : FuncData} (hm : mg x = some (.ref f)) (l : K.lookup f = some o) (hd : o.data = .func fd)
    (rc : (recsOf P).any (fun d => d.name == x) = true) (cf : codeFull K fd.code = true) : CodeK P K mg fd.code := by
  obtain ⟨d, hdm, hdn⟩ := List.any_eq_true.mp rc
  have hdn := beq_iff_eq.mp hdn
  unfold codeFull at cf
  split at cf
  · rename_i c hc
    split at cf
    · rename_i oc od vs sl lk
      rw [Bool.and_eq_true] at cf
      obtain ⟨c1, c2⟩ := cf
      unfold fullV at c2
      split at c2
      · rename_i Pt file tf flags tg inF text tt h11 h18 h7 h9 h10
        exact ⟨c, Pt, _, vs, file, tf, flags, tg, inF, text, tt, hc, ⟨d, hdm, f, o, fd, c, _, vs, by rw [hdn]; exact hm, l, hd, hc, lk, rfl, getD_some h11⟩, lk, beq_iff_eq.mp c1, rfl, getD_some h11, h11, getD_some h18, getD_some h7, getD_some h9, getD_some h10⟩
      · cases c2
    · cases cf
  · cases cf
def DefG (P : Program) (K : PySem.W.Frag) (mg : Str → Option Value) (x : Str) (st : Stmt) (ps : List Str) : Prop :=
  ∃ (f : Addr) (fd : FuncData), mg x = some (.ref f) ∧ Fun K x x st f fd ∧ Binds K fd ps [] ∧ CodeK P K mg fd.code
section
variable {P : Program} {w : World} {K : PySem.W.Frag} {mg : Str → Option Value} {base : Heap}
theorem DefG.fn {x : Str} {st : Stmt} {N ps : List Str} {k : Nat} {sp : Sp} (D : DefG P K mg x st ps) (S : FnScope N ps (defScope st)) (len : ∀ vs H Q E, sp vs H Q E → vs.length = ps.length)
    (hbody : ∀ (f : Addr) (cdv : Value) (A : Around) (outer : List Env) (s : Shared) (H : Hp) (vs : List V) (Q : VK) (E : XK), CodeK P K mg cdv → Room k (A.deeper (envOfC x (defScope st) s.heap.objs.size f cdv)) → sp vs H Q E →
      ∃ t, PSs (cxOf CX0 P w K mg base N x (defScope st) f cdv A outer s H E).nox (defBody st) t ∧ t { nx := fun _ H' => Q .non H', rt := Q } (start N vs) H) : Fn P w K mg base (k + 1) x ps sp := by
  obtain ⟨f, fd, hm, F, b, ck⟩ := D
  refine ⟨f, fd, hm, F.kp, b, ?_⟩
  obtain ⟨oc, od, kV, doc, pm, an, cdv, ct, osl, rfl, lk, hcd⟩ := F.ex
  refine fn_of lk hcd S len fun A outer s H vs Q E hr hsp => ?_
  obtain ⟨t, h, q⟩ := hbody f cdv A outer s H vs Q E ck hr hsp
  exact ⟨t, h.nox, q⟩
theorem defG_mk {h : Heap} (X : K.In h) (G : h.Ns mainGlobals mg) {x : Str} {st : Stmt} {ps : List Str} {f : Addr} {oc : Value} {od an : Option Addr} {osl : Array (Option Value)} {kV doc pm cdv ct : Value}
    (a : PySem.W.nsIn K mainGlobals x = some (some (.ref f))) (l : K.lookup f = some ⟨oc, od, .func (PySem.W.fnOf x x (defArgs st) (defBody st) (defScope st) .none kV doc pm an cdv ct), osl⟩)
    (c : PySem.W.codeIn K cdv x = true) (k : PySem.W.keepIn K (.ref f) = true) (rc : (recsOf P).any (fun d => d.name == x) = true) (cf : codeFull K cdv = true)
    (hb : ∀ (kV doc pm : Value) (an : Option Addr) (cdv ct : Value) (us : List Value), us.length = ps.length → bindArgs (PySem.W.fnOf x x (defArgs st) (defBody st) (defScope st) .none kV doc pm an cdv ct) ⟨us, []⟩ = pure (ps.zip us)) : DefG P K mg x st ps :=
  have F := fun_mk (st := st) l c k
  ⟨f, _, PySem.W.mg_of X G a, F, F.binds hb, codeK_of (PySem.W.mg_of X G a) l rfl rc cf⟩
end
end L2

set_option Elab.async false
set_option linter.all false
set_option maxRecDepth 100000
set_option maxHeartbeats 4000000
namespace L2
open PySem PySem.Spec PyProof.Rows
namespace FF
end FF
section
variable {prog : Program} {w : World} {A : Around} {E : Value → Shared → Prop} {s : Shared}
end
def MFn (P : Program) (w : World) (K : PySem.W.Frag) (mg : Str → Option Value) (base : Heap) (k : Nat) (C : Addr) (m : Str) (ps : List Str) (sp : Sp) : Prop :=
  ∃ (f : Addr) (fd : FuncData), Cls K C ∧ Meth K C m f ∧ Binds K fd ps [] ∧ FnOk P w K mg base CX0 k f fd ps sp
def IFn (P : Program) (w : World) (K : PySem.W.Frag) (mg : Str → Option Value) (base : Heap) (k : Nat) (x : Str) (C : Addr) (ps : List Str) (sp : Sp) : Prop :=
  ∃ (f : Addr) (fd : FuncData), mg x = some (.ref C) ∧ Mk K C f ∧ Binds K fd ps [] ∧ FnOk P w K mg base CX0 k f fd ps sp
def DefM (K : PySem.W.Frag) (C : Addr) (m qual : Str) (st : Stmt) (ps : List Str) : Prop :=
  ∃ (f : Addr) (fd : FuncData), Cls K C ∧ Meth K C m f ∧ Fun K m qual st f fd ∧ Binds K fd ps []
def DefI (K : PySem.W.Frag) (mg : Str → Option Value) (x : Str) (C : Addr) (qual : Str) (st : Stmt) (ps : List Str) : Prop :=
  ∃ (f : Addr) (fd : FuncData), mg x = some (.ref C) ∧ Mk K C f ∧ Fun K "__init__" qual st f fd ∧ Binds K fd ps []
section
variable {P : Program} {w : World} {K : PySem.W.Frag} {mg : Str → Option Value} {base : Heap} {C : Addr}
theorem DefM.fn {m qual : Str} {st : Stmt} {N ps : List Str} {k : Nat} {sp : Sp} (D : DefM K C m qual st ps) (S : FnScope N ps (defScope st)) (len : ∀ vs H Q E, sp vs H Q E → vs.length = ps.length)
    (hbody : ∀ (f : Addr) (cdv : Value) (A : Around) (outer : List Env) (s : Shared) (H : Hp) (vs : List V) (Q : VK) (E : XK), Room k (A.deeper (envOfC qual (defScope st) s.heap.objs.size f cdv)) → sp vs H Q E →
      ∃ t, PSs (cxOf CX0 P w K mg base N qual (defScope st) f cdv A outer s H E).nox (defBody st) t ∧ t { nx := fun _ H' => Q .non H', rt := Q } (start N vs) H) : MFn P w K mg base (k + 1) C m ps sp := by
  obtain ⟨f, fd, c, hm, F, b⟩ := D
  exact ⟨f, fd, c, hm, b, F.ok S len fun cdv A outer s H vs Q E hr h => hbody f cdv A outer s H vs Q E hr h⟩
theorem DefI.fn {x qual : Str} {st : Stmt} {N ps : List Str} {k : Nat} {sp : Sp} (D : DefI K mg x C qual st ps) (S : FnScope N ps (defScope st)) (len : ∀ vs H Q E, sp vs H Q E → vs.length = ps.length)
    (hbody : ∀ (f : Addr) (cdv : Value) (A : Around) (outer : List Env) (s : Shared) (H : Hp) (vs : List V) (Q : VK) (E : XK), Room k (A.deeper (envOfC qual (defScope st) s.heap.objs.size f cdv)) → sp vs H Q E →
      ∃ t, PSs (cxOf CX0 P w K mg base N qual (defScope st) f cdv A outer s H E).nox (defBody st) t ∧ t { nx := fun _ H' => Q .non H', rt := Q } (start N vs) H) : IFn P w K mg base (k + 1) x C ps sp := by
  obtain ⟨f, fd, hm, mk, F, b⟩ := D
  exact ⟨f, fd, hm, mk, b, F.ok S len fun cdv A outer s H vs Q E hr h => hbody f cdv A outer s H vs Q E hr h⟩
end
section
variable {X : Cx} {j k : Nat} {C : Addr} {x m : Str} {ps : List Str} {sp : Sp} {p pos apos : Pos} {o e : Expr} {es : List Expr} {ta : TE} {t : TA}
end
end L2

set_option Elab.async false
set_option linter.all false
set_option maxRecDepth 100000
set_option maxHeartbeats 4000000
namespace L2
open PySem PySem.Spec PyProof.Rows
abbrev mn (ns : List Int) (i j : Nat) : Int := minL (seg ns (i : Int) (j : Int))
end L2

set_option Elab.async false
set_option linter.all false
set_option maxRecDepth 100000
set_option maxHeartbeats 4000000
namespace L2
open PySem PySem.Spec PyProof.Rows
end L2

set_option Elab.async false
set_option linter.all false
set_option maxRecDepth 100000
set_option maxHeartbeats 4000000
namespace L2
open PySem PySem.Spec PyProof.Rows
section
variable {X : Cx}
end
end L2

set_option Elab.async false
set_option linter.all false
set_option maxRecDepth 100000
set_option maxHeartbeats 4000000
namespace L2
open PySem PySem.Spec PyProof.Rows
section
variable {X : Cx}
end
end L2

set_option Elab.async false
set_option linter.all false
set_option maxRecDepth 100000
set_option maxHeartbeats 4000000
namespace L2
open PySem PySem.Spec PyProof.Rows PySem.W PySem.Calls
section
variable {P : Program} {w : World} {H H' : Hp} {h h' : Heap} {a : Addr} {o : HO}
theorem ObjOk.live (x : ObjOk P w H h a o) : ∃ u, h.get? a = some u := by
  cases o with
  | lst xs => obtain ⟨_, _, _, _, e⟩ := x; exact ⟨_, e⟩
  | tup xs => obtain ⟨_, _, _, p⟩ := x; obtain ⟨o, e, _⟩ := p; exact ⟨_, e⟩
  | dK kvs => obtain ⟨_, _, _, _, o, _, _, e, _⟩ := x; exact ⟨_, e⟩
  | dT kvs => obtain ⟨_, _, _, _, o, _, _, e, _⟩ := x; exact ⟨_, e⟩
  | set S n => obtain ⟨o, _, _, _, e, _⟩ := x; exact ⟨_, e⟩
  | ins C dx fs => obtain ⟨_, _, _, e, _⟩ := x; exact ⟨_, e⟩
  | own y => obtain ⟨_, e⟩ := x; exact ⟨_, e⟩
  | xd fs => obtain ⟨_, ⟨_, _, _, e, _⟩, _⟩ := x; exact ⟨_, e⟩
  | rng lo hi => obtain ⟨_, _, _, e⟩ := x; exact ⟨_, e⟩
  | frz ob u => obtain ⟨e, _⟩ := x; exact ⟨_, e⟩
  | tbl ps => exact ⟨_, (show h.get? a = some _ ∧ _ from x).1⟩
  | met f y => exact ⟨_, show h.get? a = some _ from x⟩
  | ext φ => obtain ⟨_, ⟨_, e⟩, _⟩ := x; exact ⟨_, e⟩
theorem HOk.dead (x : HOk P w H h) (e : h.get? a = none) : H a = none := by
  cases q : H a with
  | none => rfl
  | some u => obtain ⟨v, z⟩ := (x a u q).live; rw [e] at z; cases z
end
section
variable {X : Cx} {pins : List (Addr × Obj)} {σ : St} {H N : Hp} {s : Shared} {h' : Heap} {t' : Nat}
end
section
variable {X : Cx} {pins : List (Addr × Obj)} {σ : St} {H : Hp} {s : Shared}
end


section
variable {prog : Program} {w : World} {A : Around} {E : Value → Shared → Prop} {s : Shared}
end
end L2

set_option Elab.async false
set_option linter.all false
set_option maxRecDepth 100000
set_option maxHeartbeats 4000000
namespace L2
open PySem PySem.Spec PyProof.Rows PySem.W PySem.Calls
section
variable {X : Cx} {e : Expr} {td : TE} {apos cpos : Pos}
end
def cntSt (ns : List Int) (v : Int) : Int := sumSt ns fun s => if minL s = v then 1 else 0
/-- the unlike leasts, rising, with how many stretches have each -/
structure IsBL (ns : List Int) (ps : List (Int × Int)) : Prop where
  rise : ps.Pairwise fun p q => p.1 < q.1
  each : ∀ p ∈ ps, p.1 ∈ ns ∧ p.2 = cntSt ns p.1
  all : ∀ n ∈ ns, ∃ p ∈ ps, p.1 = n
/-- they are just one list -/
theorem IsBL.one {ns : List Int} : ∀ {ps qs : List (Int × Int)}, ps.Pairwise (fun p q => p.1 < q.1) → qs.Pairwise (fun p q => p.1 < q.1) → (∀ p, p ∈ ps ↔ p ∈ qs) → ps = qs := by
  intro ps
  induction ps with
  | nil =>
    intro qs _ _ h
    cases qs with
    | nil => rfl
    | cons q r => exact absurd ((h q).mpr List.mem_cons_self) (by simp)
  | cons p r ih =>
    intro qs h1 h2 h
    cases qs with
    | nil => exact absurd ((h p).mp List.mem_cons_self) (by simp)
    | cons q t =>
      rw [List.pairwise_cons] at h1 h2
      have e : p = q := by
        rcases List.mem_cons.mp ((h p).mp List.mem_cons_self) with z | z
        · exact z
        · rcases List.mem_cons.mp ((h q).mpr List.mem_cons_self) with y | y
          · exact y.symm
          · have := h1.1 q y; have := h2.1 p z; omega
      subst e
      rw [ih h1.2 h2.2 fun x => ?_]
      constructor
      · intro hx
        rcases List.mem_cons.mp ((h x).mp (List.mem_cons_of_mem _ hx)) with z | z
        · subst z; have := h1.1 x hx; omega
        · exact z
      · intro hx
        rcases List.mem_cons.mp ((h x).mpr (List.mem_cons_of_mem _ hx)) with z | z
        · subst z; have := h2.1 x hx; omega
        · exact z
theorem IsBL.uniq {ns : List Int} {ps qs : List (Int × Int)} (h : IsBL ns ps) (k : IsBL ns qs) : ps = qs := by
  have go : ∀ {ps qs : List (Int × Int)}, IsBL ns ps → IsBL ns qs → ∀ p, p ∈ ps → p ∈ qs := fun h k p hp => by
    obtain ⟨h1, h2⟩ := h.each p hp
    obtain ⟨q, hq, e⟩ := k.all p.1 h1
    have h3 := (k.each q hq).2
    have : q = p := Prod.ext e (by rw [h3, h2, e])
    rw [← this]; exact hq
  exact IsBL.one (ns := ns) h.rise k.rise fun p => ⟨go h k p, go k h p⟩
end L2

set_option Elab.async false
set_option linter.all false
set_option maxRecDepth 100000
set_option maxHeartbeats 4000000
namespace L2
open PySem PySem.Spec PyProof.Rows PySem.W PySem.Calls
section
variable {X : Cx} {pins : List (Addr × Obj)} {σ : St} {H : Hp} {s : Shared} {h' : Heap} {t' : Nat}
end
section
variable {X : Cx}
end
end L2

set_option Elab.async false
set_option linter.all false
set_option maxRecDepth 100000
set_option maxHeartbeats 4000000
namespace L2
open PySem
/-- all but what S holds stays -/
def ButS (S : Addr → Prop) (H H' : Hp) : Prop := ∀ b o, ¬ S b → H b = some o → SamO o (H' b)
theorem ButS.refl (S : Addr → Prop) (H : Hp) : ButS S H H := fun _ _ _ h => SamO.of h
theorem ButS.ap {S : Addr → Prop} {H H' : Hp} (s : ButS S H H') {c : Addr} {o : HO} (n : ¬ S c) (h : SamO o (H c)) : SamO o (H' c) := by
  cases o <;> first
    | exact s c _ n h
    | (obtain ⟨qs, e⟩ := h; have z : ∃ r, H' c = Option.some (.tbl r) := s c (.tbl qs) n e; exact z)
theorem ButS.trans {S : Addr → Prop} {H H1 H2 : Hp} (a : ButS S H H1) (b : ButS S H1 H2) : ButS S H H2 := fun c o n h => b.ap n (a c o n h)
theorem ButS.upd {S : Addr → Prop} {H : Hp} {p : Addr} {o : HO} (hp : S p) : ButS S H (L2.upd H p o) := by
  intro b u n h
  have nb : b ≠ p := fun z => n (by rw [z]; exact hp)
  rw [upd_ne nb]
  exact SamO.of h
theorem ButS.mono {S S' : Addr → Prop} {H H' : Hp} (s : ButS S H H') (h : ∀ b, S b → S' b) : ButS S' H H' := fun b o n e => s b o (fun z => n (h b z)) e
theorem ButS.same {S : Addr → Prop} {H H' : Hp} (s : ButS S H H') (h : ∀ b, S b → H b = none) : Same H H' := fun b o e => s b o (fun z => by rw [h b z] at e; cases e) e
/-- but for what was new ahead -/
theorem ButS.old {S S' : Addr → Prop} {H H' : Hp} (s : ButS S H H') (h : ∀ b, S b → S' b ∨ H b = none) : ButS S' H H' := fun b o n e => s b o (fun z => (h b z).elim n fun y => by rw [y] at e; cases e) e
theorem ButS.seq {K : PySem.W.Frag} {S : Addr → Prop} {a : Addr} {H H' : Hp} {xs : List V} (s : ButS S H H') (n : ¬ S a) (h : SqL K H a xs) : SqL K H' a xs := by
  rcases h with (h | ⟨o, h⟩) | h
  · exact .inl (.inl (s _ _ n h))
  · exact .inl (.inr ⟨o, s _ _ n h⟩)
  · exact .inr h
section
variable {X : Cx} {K : PySem.W.Frag}
end
end L2

set_option Elab.async false
set_option linter.all false
set_option maxRecDepth 100000
set_option maxHeartbeats 4000000
namespace HT
open PySem PyProof.Rows
section
open PySem.SeqAt
open PySem.AutoSeq1 (wpAny_loadPart')
open PySem.MeetsSeq PySem.MeetsSeq2 PySem.MeetsSeq3
end
section
variable {prog : Program} {w : World} {A : Around} {E : Value → Shared → Prop} {s : Shared}
end
end HT
namespace L2
open PySem PyProof.Rows
section
variable {prog : Program} {w : World} {A : Around} {R : Result → Shared → Prop} {I : Addr} {fp wr : List Addr} {n : Nat} {P : Nat → Value → Prop} {St : Nat → Heap → Prop} {h0 : Heap}
end
section
variable {prog : Program} {w : World} {A : Around} {E : Value → Shared → Prop} {s : Shared}
end
section
variable {prog : Program} {w : World} {A : Around} {R : Result → Shared → Prop} {I : Addr} {fp wr : List Addr} {n : Nat} {P : Nat → Value → Prop} {St : Nat → Heap → Prop} {h0 : Heap}
end
section
variable {prog : Program} {w : World} {A : Around} {E : Value → Shared → Prop} {s : Shared}
end
end L2

set_option Elab.async false
set_option linter.all false
set_option maxRecDepth 100000
set_option maxHeartbeats 4000000
namespace L2
open PySem PyProof.Rows
section
variable {X : Cx}
end
end L2

set_option Elab.async false
set_option linter.all false
set_option maxRecDepth 100000
set_option maxHeartbeats 4000000
namespace L2
open PySem
def wrth (ns : List Int) (b e : Nat) : Int := mn ns b e * ((e : Int) - b)
structure IsBest (ns : List Int) (W : Int) (b e : Nat) : Prop where
  be : b < e
  en : e ≤ ns.length
  w : W = wrth ns b e
  top : ∀ b' e', b' < e' → e' ≤ ns.length → wrth ns b' e' < W ∨ (wrth ns b' e' = W ∧ (b < b' ∨ (b = b' ∧ e ≤ e')))
theorem IsBest.uniq {ns : List Int} {W W' : Int} {b e b' e' : Nat} (h : IsBest ns W b e) (h' : IsBest ns W' b' e') : W = W' ∧ b = b' ∧ e = e' := by
  have h1 := h.top b' e' h'.be h'.en
  have h2 := h'.top b e h.be h.en
  rw [← h'.w] at h1
  rw [← h.w] at h2
  omega
end L2

set_option Elab.async false
set_option linter.all false
set_option maxRecDepth 100000
set_option maxHeartbeats 4000000
namespace L2
open PySem
section
variable {X : Cx} {K : PySem.W.Frag}
end
end L2

set_option Elab.async false
set_option linter.all false
set_option maxRecDepth 100000
set_option maxHeartbeats 4000000
namespace L2
open PySem PyProof.Rows PySem.W PySem.Calls
section
variable {X : Cx}
end
end L2

set_option Elab.async false
set_option linter.all false
set_option maxRecDepth 100000
set_option maxHeartbeats 4000000
namespace L2
open PySem
section
variable {X : Cx} {j k : Nat} {C : Addr} {x m : Str} {ps : List Str} {sp : Sp} {p pos apos : Pos} {o : Expr} {ta : TE}
end
end L2

set_option Elab.async false
set_option linter.all false
set_option maxRecDepth 100000
set_option maxHeartbeats 4000000
namespace L2
open PySem
theorem seg_front {ns ms : List Int} {i j : Nat} (h : j ≤ ns.length) : seg (ns ++ ms) (i : Int) (j : Int) = seg ns (i : Int) (j : Int) := by
  unfold seg
  simp only [Int.toNat_natCast]
  by_cases hi : i ≤ ns.length
  · rw [List.drop_append_of_le_length hi, List.take_append_of_le_length (by rw [List.length_drop]; omega)]
  · rw [show j - i = 0 by omega]; simp
end L2

set_option Elab.async false
set_option linter.all false
set_option maxRecDepth 100000
set_option maxHeartbeats 4000000
namespace L2
open PySem
end L2

set_option Elab.async false
set_option linter.all false
set_option maxRecDepth 100000
set_option maxHeartbeats 4000000
namespace L2
open PySem
end L2

set_option Elab.async false
set_option linter.all false
set_option maxRecDepth 100000
set_option maxHeartbeats 4000000
namespace HT
open PySem PyProof.Rows
section
open PySem.SeqAt
open PySem.AutoSeq1 (wpAny_loadPart')
open PySem.MeetsSeq PySem.MeetsSeq2 PySem.MeetsSeq3
end
section
variable {prog : Program} {w : World} {A : Around} {E : Value → Shared → Prop} {s : Shared}
end
end HT
namespace L2
open PySem
end L2

set_option Elab.async false
set_option linter.all false
set_option maxRecDepth 100000
set_option maxHeartbeats 4000000
namespace L2
open PySem
theorem IsBest.more {ns : List Int} {x W W' : Int} {b e b' e' : Nat} (h : IsBest ns W b e) (h' : IsBest (ns ++ [x]) W' b' e') : W ≤ W' := by
  have l := h'.top b e h.be (by rw [List.length_append]; have := h.en; omega)
  have ew : wrth (ns ++ [x]) b e = wrth ns b e := by unfold wrth mn; rw [seg_front h.en]
  rw [ew, ← h.w] at l
  omega
end L2

set_option Elab.async false
set_option linter.all false
set_option maxRecDepth 100000
set_option maxHeartbeats 4000000
namespace L2
open PySem
end L2

set_option Elab.async false
set_option linter.all false
set_option maxRecDepth 100000
set_option maxHeartbeats 4000000
namespace L2
open PySem PySem.Spec PyProof.Rows PySem.W PySem.Calls
end L2

set_option Elab.async false
set_option linter.all false
set_option maxRecDepth 100000
set_option maxHeartbeats 4000000
namespace L2
open PySem PySem.Spec PyProof.Rows PySem.W PySem.Calls
end L2

set_option Elab.async false
set_option linter.all false
set_option maxRecDepth 100000
set_option maxHeartbeats 4000000
namespace L2
open PySem PySem.Spec PyProof.Rows PySem.W PySem.Calls
end L2

set_option Elab.async false
set_option linter.all false
set_option maxRecDepth 100000
set_option maxHeartbeats 4000000
namespace L2
open PySem PySem.Spec PyProof.Rows PySem.W PySem.Calls
/-- leasts of rows raised by one number -/
theorem cnt_add (ns : List Int) (c v : Int) : cntSt (ns.map fun n => n + c) (v + c) = cntSt ns v := by
  unfold cntSt
  rw [sumSt_map]
  refine sumSt_congr fun l hl => ?_
  rw [minL_add hl]
  by_cases z : minL l = v
  · rw [if_pos z, if_pos (by omega)]
  · rw [if_neg z, if_neg (by omega)]
theorem IsBL.add {ns : List Int} {ps : List (Int × Int)} (h : IsBL ns ps) (c : Int) : IsBL (ns.map fun n => n + c) (ps.map fun p => (p.1 + c, p.2)) := by
  refine ⟨?_, fun p hp => ?_, fun n hn => ?_⟩
  · rw [List.pairwise_map]
    exact h.rise.imp fun h => by show _ + _ < _ + _; omega
  · obtain ⟨q, hq, rfl⟩ := List.mem_map.mp hp
    obtain ⟨h1, h2⟩ := h.each q hq
    exact ⟨List.mem_map_of_mem h1, by show q.2 = _; rw [cnt_add]; exact h2⟩
  · obtain ⟨m, hm, rfl⟩ := List.mem_map.mp hn
    obtain ⟨q, hq, rfl⟩ := h.all m hm
    exact ⟨_, List.mem_map_of_mem hq, rfl⟩
theorem IsBL.len {ns : List Int} {ps : List (Int × Int)} (h : IsBL ns ps) : ps.length ≤ ns.length := by
  have hnd : (ps.map (·.1)).Nodup := by
    rw [List.Nodup, List.pairwise_map]
    exact h.rise.imp fun h z => by omega
  have hsub : ∀ v ∈ ps.map (·.1), v ∈ ns := fun v hv => by
    obtain ⟨p', hp', rfl⟩ := List.mem_map.mp hv
    exact (h.each p' hp').1
  have := hnd.length_le_of_subset hsub
  rwa [List.length_map] at this
theorem IsBL.nd {ns : List Int} {ps : List (Int × Int)} (h : IsBL ns ps) : (ps.map (·.1)).Nodup := by
  rw [List.Nodup, List.pairwise_map]
  exact h.rise.imp fun h z => by omega
end L2

set_option Elab.async false
set_option linter.all false
set_option maxRecDepth 100000
set_option maxHeartbeats 4000000
namespace L2
open PySem PySem.Spec PyProof.Rows PySem.W PySem.Calls
theorem PrAt.app {H : Hp} {ts us : List Addr} {ps qs : List (Int × Int)} (h : PrAt H ts ps) (k : PrAt H us qs) : PrAt H (ts ++ us) (ps ++ qs) := by
  refine ⟨by rw [List.length_append, List.length_append, h.1, k.1], fun j t p h1 h2 => ?_⟩
  by_cases z : j < ts.length
  · rw [List.getElem?_append_left z] at h1
    rw [List.getElem?_append_left (by rw [← h.1]; exact z)] at h2
    exact h.2 j t p h1 h2
  · rw [List.getElem?_append_right (by omega)] at h1
    rw [List.getElem?_append_right (by rw [← h.1]; omega), ← h.1] at h2
    exact k.2 _ t p h1 h2
end L2

set_option Elab.async false
set_option linter.all false
set_option maxRecDepth 100000
set_option maxHeartbeats 4000000
namespace L2
open PySem PySem.Spec PyProof.Rows
open AutoSeq1 (wpAny_loadPart')

section
variable {prog : Program} {w : World} {A : Around} {E : Value → Shared → Prop} {s : Shared}
end
end L2

set_option Elab.async false
set_option linter.all false
set_option maxRecDepth 100000
set_option maxHeartbeats 4000000
namespace L2
open PySem PySem.Spec PyProof.Rows

section
variable {scope : Scope} {cl : List (Str × Addr)} {env : Env} {prog : Program} {w : World} {xa xb : Str}
end
end L2

set_option Elab.async false
set_option linter.all false
set_option maxRecDepth 100000
set_option maxHeartbeats 4000000
namespace L2
open PySem
end L2

set_option Elab.async false
set_option linter.all false
set_option maxRecDepth 100000
set_option maxHeartbeats 4000000
namespace L2
open PySem PySem.Spec PyProof.Rows

structure GenOk (N : List Str) (sc scope : Scope) : Prop where
  kind : scope.kind = .function
  co : scope.isCoroutine = false
  zero : scope.names.lookup (".0" : Str) = some NameKind.local
  uniq : ∀ y ∈ scope.names, scope.names.lookup y.1 = some y.2
  nocell : ∀ y ∈ scope.names, y.2 ≠ .cell
  free : ∀ y ∈ scope.names, y.2 = .free → sc.names.lookup y.1 = some .cell ∨ sc.names.lookup y.1 = some .free
  own : ∀ y ∈ scope.names, y.2 = .local → y.1 ∉ N
abbrev Cx.gen (X : Cx) (A' : Around) (s : Shared) (H : Hp) (own : List Str) (cenv : Env) (fp : List Addr) : Cx :=
  { X with A := A', N := X.N ++ own, s_0 := { s with gens := s.gens.push .running }, H_0 := H, env := cenv, outer := X.stack, stack := cenv :: X.stack, ex := fp, fn := fun _ => false, calm := true, pn := [], xe := fun _ _ => False }
abbrev genCl (X : Cx) (scope : Scope) : List (Str × Addr) := cloFrom X.env.cells scope.names []
section
variable {X : Cx} {pins : List (Addr × Obj)} {σ : St} {H H' : Hp} {s s' : Shared}
theorem Inv.gens {g' : Array GenState} (I : Inv X pins σ H s) (hb : BareG s.gens g') : Inv X pins σ H { s with gens := g' } := ⟨I.ok, I.os, ⟨hb.1, Nat.le_trans I.bare.2 hb.2⟩, I.base, I.loc, I.cell, I.free, I.freeC, I.pin, I.hok, I.len⟩
theorem gen_back {own : List Str} {fp : List Addr} {A' : Around} {cenv : Env} {pins' : List (Addr × Obj)} {σ' : St} (I : Inv X pins σ H s) (hfp : ∀ b ∈ fp, FpOk X pins H b ∧ b < s.heap.objs.size) (I' : Inv (X.gen A' s H own cenv fp) pins' σ' H' s') : Inv X pins σ H' s' :=
  I.call' (ch := fp) I'.os I'.base I'.hok ⟨I'.bare.1, by
    have z : (s.gens.push .running).size ≤ s'.gens.size := I'.bare.2
    rw [Array.size_push] at z
    omega⟩ fun b hb => ⟨(hfp b hb).1.2.2.2.1, (hfp b hb).1.2.1, (hfp b hb).1.2.2.2.2.1, (hfp b hb).1.2.2.2.2.2⟩
end
end L2

set_option Elab.async false
set_option linter.all false
set_option maxRecDepth 100000
set_option maxHeartbeats 4000000
namespace L2
open PySem PySem.Spec PyProof.Rows

/-- a generator that waits ahead of its turn i -/
def GS (G : Cx) (a : Addr) (go : Obj) (σ : St) (tn : Nat → Heap → Prop) (fp : List Addr) (i : Nat) (H : Hp) (s : Shared) : Prop := Inv G [(a, go)] σ H s ∧ tn i s.heap ∧ ∀ b ∈ fp, H b = none
def allEnd (G : Cx) (a : Addr) (go : Obj) (σ : St) (Fin : Hp → Prop) : Nat → Shared → Shared → Prop := fun _ _ s₁ => ∃ H, Inv G [(a, go)] σ H s₁ ∧ Fin H
def allY (G : Cx) (a : Addr) (go : Obj) (σ : St) (tn : Nat → Heap → Prop) (fp : List Addr) (W : Nat → Nat → Hp → Prop) (No : Hp → Prop) : Protocol := fun n _ v s₁ k =>
  ∃ b : Bool, v = .bool b ∧ ∃ H, (b = false → Inv G [(a, go)] σ H s₁ ∧ No H) ∧ (b = true → ∃ i m, m < n ∧ W i m H ∧ GS G a go σ tn fp i H s₁ ∧ ∀ s'', GS G a go σ tn fp i H s'' → k (.send .none) s'')
section
variable {G : Cx} {B : Around} {a it : Addr} {go : Obj} {σ : St} {tn : Nat → Heap → Prop} {fp : List Addr} {W : Nat → Nat → Hp → Prop} {Fin No : Hp → Prop}
variable {elt tg iter : Expr} {ifs : List Expr} {scope : Scope} {pos : Pos} {J : It} {g : TG} {tt : TT} {te : TE} {vs : List Nat}
abbrev genX (elt tg iter : Expr) (ifs : List Expr) (scope : Scope) (pos : Pos) : Expr := .GeneratorExp elt [⟨tg, iter, ifs, 0⟩] scope pos
theorem gen_loop (hc : G.calm = true) (hx : G.xe = fun _ _ => False) (hco : G.env.scope.isCoroutine = false) (hex : G.ex = fp) (hpn : G.pn = []) (hfa : ∀ b ∈ fp, a ≠ b)
    (hGA : B.over (.compLoop (genX elt tg iter ifs scope pos) 0 (.ref it) .none G.env) [] = G.A)
    (T : Turn G.prog G.w G.K tg J fp it tn) (pg : PG G tg g) (pt : PTs G ifs tt) (pe : PE G elt te)
    (turn : ∀ i m H, W i m H → (J.stop i H ∧ Fin H) ∨ (J.go i H ∧ ∃ Nx : Hp → Prop, (∀ H', Nx H' → ∃ m', m' < m ∧ W (i + 1) m' H') ∧ ∀ x H', J.yld i H x H' → g x σ H' fun σ2 H2 => wipe σ2 vs = σ ∧ tt σ2 H2 fun b H3 =>
      if b = true then te σ2 H3 fun v H4 => ∃ b', v = .bl b' ∧ (b' = true → Nx H4) ∧ (b' = false → No H4) else Nx H3)) :
    ∀ (m n : Nat), m < n → ∀ (i : Nat) (H : Hp) (s₀ s : Shared), W i m H → GS G a go σ tn fp i H s →
      Seg (model G.prog G.w) B (fun n s₀ r s₁ => r = .ok .next ∧ allEnd G a go σ Fin n s₀ s₁) (allY G a go σ tn fp W No) n s₀
        (.compLoop (genX elt tg iter ifs scope pos) 0 (.ref it) .none G.env) ((model G.prog G.w).den (.compLoop (genX elt tg iter ifs scope pos) 0 (.ref it) .none G.env)) [] s := by
  have stat : ∀ {σ' : St} {H' : Hp} {s' : Shared}, Inv G [(a, go)] σ' H' s' → (∀ b ∈ fp, H' b = none) → ∀ b ∈ fp, FpOk G [(a, go)] H' b := fun {σ' H' s'} I' hn b hb => by
    have hb' : b ∈ G.ex := by rw [hex]; exact hb
    refine ⟨hn b hb, (I'.ok.exf b hb').1, I'.ok.exfs b hb', .inl hb', fun x c e => (I'.ok.exf b hb').2 x c e, fun p hp => ?_⟩
    rw [hpn] at hp
    have : p = (a, go) := by simpa using hp
    rw [this]; exact hfa b hb
  intro m
  induction m using Nat.strongRecOn with
  | ind m ih =>
    intro n hmn i H s₀ s w ⟨I, st, nf⟩
    show Seg _ B _ _ n s₀ _ ((compTurn (genX elt tg iter ifs scope pos) 0 (.ref it) .none G.env).onRaise (leaving G.env)) [] s
    rw [compTurn_gen, Sem.onRaise_eq_wrap]
    refine seg_bind_wrap (wpAny_standAt ?_)
    rcases turn i m H w with ⟨stop, fin⟩ | ⟨go', Nx, hNx, step⟩
    · have td := T.done G rfl rfl rfl hc i [(a, go)] s _ H (fun _ _ => False) I (stat I nf) st stop
      rw [← hGA] at td
      refine seg_bind_wrap (thnF td fun r s6 ⟨hr, I6⟩ => ?_)
      subst hr
      exact seg_end (.ok .next) ⟨rfl, H, I6, fin⟩
    · have ti := T.item G rfl rfl rfl hc i [(a, go)] s _ H (fun _ _ => False) I (stat I nf) st go'
      rw [← hGA] at ti
      refine seg_bind_wrap (thnF ti fun r s6 ⟨u, hr, h6⟩ => ?_)
      subst hr
      refine seg_bind_wrap (thnF h6 fun _ s7 ⟨x, H7, I7, r7, y7, st7, n7⟩ => ?_)
      have I7' := I7.pinned (stat I7 n7) (T.obj _ _ st7)
      have hg := pg _ s7 _ H7 x u _ I7' r7 (step x H7 y7)
      rw [hx, ← hGA] at hg
      refine seg_bind_wrap (thnF hg fun _ s8 ⟨σ8, H8, I8, hw8, q8⟩ => ?_)
      have ht := pt _ s8 σ8 H8 _ I8 q8
      rw [hx, ← hGA] at ht
      refine seg_bind_wrap (thnF ht fun b s9 ⟨H9, I9, q9⟩ => ?_)
      have fin : ∀ {s' : Shared} {H' : Hp}, Inv G ([(a, go)] ++ pinsAt fp s7.heap) σ8 H' s' → GS G a go σ tn fp (i + 1) H' s' := fun {s' H'} I' => by
        have pin' : ∀ b ∈ fp, ∀ o, s7.heap.get? b = some o → s'.heap.get? b = some o ∧ H' b = none := fun b hb o e =>
          let z := I'.pin (b, o) (List.mem_append_right _ (List.mem_append_right _ (mem_pinsAt hb e)))
          ⟨z.1, z.2.1⟩
        have hl : σ.length = σ8.length := by rw [← hw8, wipe_length]
        refine ⟨(I'.unpinned (pins := [(a, go)])).weak hl (fun j v e => ?_), T.keep _ _ _ st7 fun b hb o e => (pin' b hb o e).1, fun b hb => ?_⟩
        · rw [← hw8] at e
          exact (wipe_some e).1
        · obtain ⟨o, e, _⟩ := T.obj _ _ st7 b hb
          exact (pin' b hb o e).2
      cases b with
      | false =>
        simp only [Bool.false_eq_true, if_false] at q9 ⊢
        obtain ⟨m', hm', w'⟩ := hNx _ q9
        exact seg_again rfl (ih m' hm' n (by omega) (i + 1) H9 s₀ s9 w' (fin I9))
      | true =>
        simp only [if_true] at q9 ⊢
        have hy : ∀ v, yieldOut G.env v = yieldValue v := fun v => by simp only [yieldOut, hco, Bool.false_eq_true, if_false]
        simp only [hy]
        rw [Sem.bind_eq_wrap', Sem.bind_eq_wrap', Sem.wrap_wrap, Sem.wrap_wrap]
        have he := pe _ s9 σ8 H9 _ I9 q9
        rw [hx, ← hGA] at he
        refine seg_wrap (thnF he fun z s10 ⟨yv, H10, I10, r10, b', e', y1, y0⟩ => ?_)
        subst e'
        obtain rfl : z = .bool b' := r10
        obtain ⟨n', rfl⟩ : ∃ n', n = n' + 1 := by
          cases n with
          | succ n' => exact ⟨n', rfl⟩
          | zero => omega
        refine seg_at (seg_yield rfl rfl rfl ⟨b', rfl, H10, fun e => ⟨(fin I10).1, y0 e⟩, fun e => ?_⟩)
        obtain ⟨m', hm', w'⟩ := hNx _ (y1 e)
        refine ⟨i + 1, m', by omega, w', fin I10, fun s'' gs'' => ?_⟩
        exact seg_again rfl (ih m' hm' n' (by omega) (i + 1) H10 s'' s'' w' gs'')

theorem gen_begin {n : Nat} {s₀ s : Shared} {i : Nat} {H : Hp} (T : Turn G.prog G.w G.K tg J fp it tn) (gs : GS G a go σ tn fp i H s)
    (loop : Seg (model G.prog G.w) B (fun n s₀ r s₁ => r = .ok .next ∧ allEnd G a go σ Fin n s₀ s₁) (allY G a go σ tn fp W No) n s₀
        (.compLoop (genX elt tg iter ifs scope pos) 0 (.ref it) .none G.env) ((model G.prog G.w).den (.compLoop (genX elt tg iter ifs scope pos) 0 (.ref it) .none G.env)) [] s) :
    Seg (model G.prog G.w) B (fun n s₀ r s₁ => r = .ok .next ∧ allEnd G a go σ Fin n s₀ s₁) (allY G a go σ tn fp W No) n s₀
        (.compStart (genX elt tg iter ifs scope pos) 0 (.ref it) .none G.env) ((model G.prog G.w).den (.compStart (genX elt tg iter ifs scope pos) 0 (.ref it) .none G.env)) [] s := by
  show Seg _ B _ _ n s₀ _ ((compStart (genX elt tg iter ifs scope pos) 0 (.ref it) .none G.env).onRaise (leaving G.env)) [] s
  unfold compStart
  rw [Sem.onRaise_eq_wrap]
  show Seg _ B _ _ n s₀ _ ((ask >>= _).wrap _ _ _ _) [] s
  refine seg_bind_wrap (wpAny_askSetting ?_)
  split
  · exact seg_again rfl loop
  · first
      | exact seg_bind_wrap (wpAny_rule (seg_bind_wrap (wpAny_standAt (seg_bind_wrap (T.self _ i s _ _ gs.2.1 (seg_again rfl loop))))))
      | (refine seg_bind_wrap (wpAny_rule ?_); show Seg _ B _ _ n s₀ _ ((standAt iter.pos >>= _).wrap _ _ _ _) [] s; exact seg_bind_wrap (wpAny_standAt (seg_bind_wrap (T.self _ i s _ _ gs.2.1 (seg_again rfl loop)))))
theorem bare_set {s : Shared} {g : Nat} {x : GenState} (h : AllBare s.gens) (hx : x.bare = true) : AllBare (s.setGen g x).gens := fun y hy => by
  have hy : y ∈ s.gens.setIfInBounds g x := hy
  obtain ⟨j, hj, e⟩ := Array.mem_iff_getElem.mp hy
  rw [Array.getElem_setIfInBounds (by simpa using hj)] at e
  split at e
  · rw [← e]; exact hx
  · rw [← e]; exact h _ (Array.getElem_mem _)
theorem bareG_set {s : Shared} {g : Nat} {x : GenState} (h : AllBare s.gens) (hx : x.bare = true) : BareG s.gens (s.setGen g x).gens := ⟨bare_set h hx, by simp [Shared.setGen]⟩
theorem GS.set {s : Shared} {i : Nat} {H : Hp} {k : Nat} {x : GenState} (h : GS G a go σ tn fp i H s) (hx : x.bare = true) : GS G a go σ tn fp i H (s.setGen k x) := ⟨h.1.gens (bareG_set h.1.bare.1 hx), h.2.1, h.2.2⟩
theorem Inv.isGen {s : Shared} {H : Hp} {k : Nat} {nm qn : Value} (I : Inv G [(a, go)] σ H s) (hgo : go.cls = .type "generator" ∧ go.data = .fields #[.int (k : Nat) 0, nm, qn] ∧ go.slots = #[]) : s.heap.IsGen a k :=
  ⟨go, nm, qn, (I.pin (a, go) (List.mem_append_right _ (List.mem_singleton.mpr rfl))).1, hgo.1, hgo.2.1, hgo.2.2⟩
end
section
variable {X : Cx} {pins : List (Addr × Obj)} {σX : St} {G : Cx} {B : Around} {a : Addr} {k : Nat} {nm qn : Value} {go : Obj} {σ : St} {tn : Nat → Heap → Prop} {fp : List Addr} {W : Nat → Nat → Hp → Prop} {Fin No : Hp → Prop} {R : Result → Shared → Prop}
theorem all_loopG (hgo : go.cls = .type "generator" ∧ go.data = .fields #[.int (k : Nat) 0, nm, qn] ∧ go.slots = #[]) (hk0 : k < G.s_0.gens.size) (hB : B.handled = none) (hroom : B.depth < recursionLimit)
    (hT : ∀ H s', Inv G [(a, go)] σ H s' → Fin H → R (.ok (.ret (.bool true))) s') (hF : ∀ H s', Inv G [(a, go)] σ H s' → No H → R (.ok (.ret (.bool false))) s') :
    ∀ (n i : Nat) (m : Nat) (H : Hp) (s : Shared) (gs : GenState), m < n → W i m H → GS G a go σ tn fp i H s → s.gens[k]? = some gs →
      (∀ s'', GS G a go σ tn fp i H s'' → gs.Goes (model G.prog G.w) B.in1.in1 (fun n s₀ r s₁ => r = .ok .next ∧ allEnd G a go σ Fin n s₀ s₁) (allY G a go σ tn fp W No) n (.send .none) s'') →
      codeAny (model G.prog G.w) B (.builtin "all.loop" ⟨[.ref a], []⟩) R s := by
  intro n
  induction n with
  | zero => intro i m H s gs hm; exact absurd hm (Nat.not_lt_zero _)
  | succ n ih =>
    intro i m H s gs hm w hG hgs hgo'
    refine codeAny_builtin F.entry_all_loop ?_
    rw [Around.under_plainId F.plain_all_loop _]
    show wpAny _ B.in1 (pyNext (.ref a) >>= _) _ _ s
    refine wpAny_bind (wpAny_pyNext_genexpQ (A := B.in1) (n := n + 1) hB hG.1.nolimit hroom (hG.1.isGen hgo) hgs (hgo' _ (hG.set rfl)) (fun v s₁ gs' hb hy => ?_) (fun s₁ hp h' hk => ?_))
    · obtain ⟨b, rfl, H1, y0, y1⟩ := hy
      refine wpAny_bind (wpAny_holding (wpAny_truthy_bool ?_))
      refine wpAny_bind (wpAny_letGo ?_)
      cases b with
      | true =>
        simp only [if_true]
        obtain ⟨i', m', hm', w', hG', hk'⟩ := y1 rfl
        have hlt : k < s₁.gens.size := Nat.lt_of_lt_of_le hk0 hG'.1.bare.2
        refine wpAny_pure ⟨plainId_quiet F.plain_all_loop _, ih i' m' H1 _ gs' hm' w' (hG'.set hb) ?_ fun s'' hG'' => hk' s'' hG''⟩
        simp [Shared.setGen, hlt]
      | false =>
        simp only [Bool.false_eq_true, if_false]
        refine wpAny_bind (wpAny_rule (wpAny_pure ?_))
        obtain ⟨I1, no⟩ := y0 rfl
        exact hF H1 _ (I1.gens (bareG_set I1.bare.1 hb)) no
    · refine wpAny_bind (wpAny_rule (wpAny_pure ?_))
      obtain ⟨H1, I1, fin⟩ := hp
      exact hT H1 _ ((I1.kept (t' := s₁.toks) hk).gens (bareG_set (s := { s₁ with heap := h', toks := s₁.toks }) I1.bare.1 rfl)) fin
end
end L2

set_option Elab.async false
set_option linter.all false
set_option maxRecDepth 100000
set_option maxHeartbeats 4000000
namespace L2
open PySem PySem.Spec PyProof.Rows

/-- the code of a generator expression: what is untracked stays -/
theorem gen_codeB {X : Cx} {pins : List (Addr × Obj)} {σ : St} {H : Hp} {s : Shared} {M : Model} {A : Around} {E : Value → Shared → Prop} {pos : Pos} {qual : Str} {scope : Scope} {Q : Value → Shared → Prop} (I : Inv X pins σ H s) (ck : CodeK X.prog X.K X.mg X.env.code)
    (hQ : ∀ code h' tk H', Inv X pins σ H' { s with heap := h', toks := tk } → Same H H' → (∀ b, H b = none → H' b = none) → (∀ b o, H b = none → s.heap.get? b = some o → h'.get? b = some o) → s.heap.objs.size ≤ h'.objs.size → Q code { s with heap := h', toks := tk }) :
    wpAny M A (genexprCode X.env pos qual scope) Q E s := by
  obtain ⟨c, Pt, oc, vs, file, tf, flags, tg, inF, text, tt, ec, tb, lk, hcl, hd, h11, h11', h18, h7, h9, h10⟩ := ck
  obtain ⟨ps, hps⟩ := I.tabs Pt tb
  have hob : s.heap.get? Pt = some { cls := .none, data := .fields ps } ∧ TriplesOk ps.toList := I.hok Pt _ hps
  obtain ⟨hP, htr⟩ := hob
  have hc := I.kIn c oc lk
  have hcn : H c = none := (I.bs c oc (I.mod.kin c oc lk)).2
  have ne : c ≠ Pt := fun z => by rw [z, hps] at hcn; cases hcn
  have code : s.heap.IsCode c Pt ps := ⟨oc, vs, file, tf, flags, tg, inF, text, tt, _, hc, hd, h11, h18, h7, h9, h10, hP, rfl, htr, ne⟩
  have tab : s.heap.TableAt c Pt ps := ⟨⟨oc, vs, hc, hcl, hd, h11'⟩, hP⟩
  cases hf : codeAmong pos ps.toList with
  | some cv =>
    refine wpAny_genexprCode_hit ec code hf ?_
    exact hQ cv s.heap s.toks H (I.tok s.toks) (Same.refl H) (fun _ q => q) (fun _ _ _ q => q) (Nat.le_refl _)
  | none =>
    refine wpAny_genexprCodeX ec code tab hf fun c' h' tk hx hge hlt hcode' _ htab' _ => ?_
    have nP : ∀ b u, H b = some u → (∀ qs, u ≠ .tbl qs) → b ≠ Pt := fun b u e n z => by
      rw [z, hps] at e
      cases e
      exact n _ rfl
    have fr : ∀ b, H b = none → b ≠ Pt := fun b q z => by rw [z, hps] at q; cases q
    have tr' : TriplesOk (ps ++ #[rawInt pos.line, rawInt pos.col, Value.ref c']).toList := by
      obtain ⟨_, _, _, _, _, _, _, _, _, _, _, _, _, _, _, _, _, _, _, z, _⟩ := hcode'
      exact z
    have inv : Inv X pins σ (upd H Pt (.tbl (ps ++ #[rawInt pos.line, rawInt pos.col, .ref c']))) { s with heap := h', toks := tk } := by
      refine I.un ⟨fun b o q n _ _ => hx b o (fr b n) q, fun b o q n _ _ => ⟨o.slots, hx b o (fr b n) q⟩, fun b o q n _ => by rw [upd_ne (fr b n)]; exact n, fun b o q _ => ?_, fun b xs q => ?_, fun b o u q => ?_, fun b qs q => ?_⟩ fun b u e => ?_
      · by_cases hb : b = Pt
        · exact ⟨_, by rw [hb]; exact htab'.2⟩
        · exact ⟨o, hx b o hb q⟩
      · rw [upd_ne (nP b _ q fun _ z => nomatch z)]; exact q
      · rw [upd_ne (nP b _ q fun _ z => nomatch z)]; exact q
      · by_cases hb : b = Pt
        · subst hb
          rw [hps] at q
          cases q
          exact ⟨_, upd_same⟩
        · exact ⟨#[], by rw [upd_ne hb, q]; simp⟩
      · by_cases hb : b = Pt
        · subst hb
          rw [upd_same] at e
          cases e
          exact ⟨htab'.2, tr'⟩
        · rw [upd_ne hb] at e
          refine (I.hok b u e).stay (fun d v hd' q => hx d v ?_ q) (fun d q => ?_) fun d xs q => ?_
          · rcases hd' with z | z
            · rw [z]; exact hb
            · exact nP d _ z fun _ y => nomatch y
          · rw [upd_ne (nP d _ q fun _ z => nomatch z)]; exact q
          · rw [upd_ne (nP d _ q fun _ z => nomatch z)]; exact q
    exact hQ _ h' tk _ inv (Same.tb hps) (fun b q => by rw [upd_ne (fr b q)]; exact q) (fun b o n q => hx b o (fr b n) q) (Nat.le_trans hge (Nat.le_of_lt hlt))

/-- all(e for tg in it if ..), its parts by rules within the generator's frame; k names of its own at the places vs -/
def tAll (wi : TI) (g : TG) (tt : TT) (te : TE) (k : Nat) (vs : List Nat) : TE := fun σ H Q => wi σ H fun J H1 => ∃ W : Nat → Nat → Hp → Prop, (∀ H2, Same H1 H2 → (∀ b, H1 b = none → H2 b = none) → ∃ m, W 0 m H2) ∧ ∀ i m H, W i m H →
  (J.stop i H ∧ Q (.bl true) H) ∨ (J.go i H ∧ ∃ Nx : Hp → Prop, (∀ H', Nx H' → ∃ m', m' < m ∧ W (i + 1) m' H') ∧ ∀ x H', J.yld i H x H' → g x (σ ++ List.replicate k none) H' fun σ2 H2 => wipe σ2 vs = σ ++ List.replicate k none ∧ tt σ2 H2 fun b H3 =>
    if b = true then te σ2 H3 fun v H4 => ∃ b', v = .bl b' ∧ (b' = true → Nx H4) ∧ (b' = false → Q (.bl false) H4) else Nx H3)
theorem boot_all9 : bootBuiltins "all" = some (.builtin "all") := by decide +kernel
end L2

set_option Elab.async false
set_option linter.all false
set_option maxRecDepth 100000
set_option maxHeartbeats 4000000
namespace L2
open PySem PySem.Spec PyProof.Rows
section
variable {X : Cx}
end
end L2

set_option Elab.async false
set_option linter.all false
set_option maxRecDepth 100000
set_option maxHeartbeats 4000000
namespace L2
open PySem PySem.Spec PyProof.Rows
section
variable {X : Cx}
end
end L2

set_option Elab.async false
set_option linter.all false
set_option maxRecDepth 100000
set_option maxHeartbeats 4000000
namespace L2
open PySem PySem.Spec PyProof.Rows
section
variable {X : Cx}
end
/-- what all(..) asks of what it runs over -/
def AllG (J : It) (g : TG) (tt : TT) (te : TE) (k : Nat) (vs : List Nat) (σ : St) (H1 : Hp) (Q : VK) : Prop := ∃ W : Nat → Nat → Hp → Prop, (∀ H2, Same H1 H2 → (∀ b, H1 b = none → H2 b = none) → ∃ m, W 0 m H2) ∧ ∀ i m H, W i m H →
  (J.stop i H ∧ Q (.bl true) H) ∨ (J.go i H ∧ ∃ Nx : Hp → Prop, (∀ H', Nx H' → ∃ m', m' < m ∧ W (i + 1) m' H') ∧ ∀ x H', J.yld i H x H' → g x (σ ++ List.replicate k none) H' fun σ2 H2 => wipe σ2 vs = σ ++ List.replicate k none ∧ tt σ2 H2 fun b H3 =>
    if b = true then te σ2 H3 fun v H4 => ∃ b', v = .bl b' ∧ (b' = true → Nx H4) ∧ (b' = false → Q (.bl false) H4) else Nx H3)
theorem all_snoc {α : Type} {ms : List α} {i : Nat} (hi : i < ms.length) {p : α → Prop} (h : ∀ n ∈ ms.take i, p n) (k : p ms[i]) : ∀ n ∈ ms.take (i + 1), p n := fun n hn => by
  rw [List.take_succ, List.getElem?_eq_getElem hi] at hn
  rcases List.mem_append.mp hn with z | z
  · exact h n z
  · have : n = ms[i] := by simpa using z
    rw [this]; exact k
end L2

set_option Elab.async false
set_option linter.all false
set_option maxRecDepth 100000
set_option maxHeartbeats 4000000
namespace L2
open PySem PySem.Spec PyProof.Rows PySem.W PySem.Calls
section
variable {X : Cx}
end
end L2

set_option Elab.async false
set_option linter.all false
set_option maxRecDepth 100000
set_option maxHeartbeats 4000000
namespace L2
open PySem PySem.Spec PyProof.Rows
abbrev bmVE : List Value := [.type "ValueError", .type "Exception", .type "BaseException", .type "object"]
/-- the class at C is an error of one's own, bm what it is made from -/
def ErrAt (K : PySem.W.Frag) (C : Addr) (bm : List Value) : Prop :=
  PySem.W.excIn K C bmVE "ValueError.__new__" = true ∧ ∃ c0 dd cd sl, K.lookup C = some ⟨c0, dd, .cls cd, sl⟩ ∧ cd.mro = .ref C :: bm
def Err (K : PySem.W.Frag) (mg : Str → Option Value) (x : Str) (C : Addr) (bm : List Value) : Prop := mg x = some (.ref C) ∧ ErrAt K C bm
theorem errObj {K : PySem.W.Frag} {h : Heap} {C : Addr} {bm : List Value} (X : K.In h) (q : ErrAt K C bm) :
    ∃ N nm q bs hdct sn sub ab col dd k0 k1 k2 k3 k5 mN, h.get? C = some (excClassObj nm q C N bs bm hdct sn sub ab col dd k0 k1 k2 k3 k5 "ValueError.__new__") ∧ h.Ns N mN ∧ mN "__init__" = none ∧ OwnTail h bmVE bm := by
  obtain ⟨q, c0, dd, cd, sl, hl, hm⟩ := q
  unfold PySem.W.excIn at q
  rw [hl] at q
  split at q
  · rename_i dd' cd' sl' ho
    cases ho
    split at q
    · rename_i C' bm' k0 k1 k2 k3 n k5 hm' hs
      simp only [Bool.and_eq_true, beq_iff_eq, Bool.not_eq_true'] at q
      obtain ⟨⟨⟨⟨⟨rfl, rfl⟩, hdel⟩, ht⟩, hok⟩, hni⟩ := q
      obtain ⟨nm, bs, mro, ns, qn, hd, sn, sub, ab, col, del⟩ := cd
      dsimp only at hm hm' hdel hok hni
      subst hm' hdel
      cases hm
      have hsl : sl = #[k0, k1, k2, k3, some (.builtin "ValueError.__new__"), k5] := by
        obtain ⟨l⟩ := sl
        simp only at hs
        rw [hs]
      subst hsl
      exact ⟨ns, nm, qn, bs, hd, sn, sub, ab, col, dd, k0, k1, k2, k3, k5, _, X _ _ hl, .of_isNs (PySem.W.isNs_of_in X hok), PySem.W.nsMap_none_of_in X hok hni, PySem.W.tail_of_in X ht⟩
    · cases q
  · cases q
/-- an error in flight -/
def CXo (P : Program) (w : World) : CXT := fun outer H s E e s' => ∃ (x C t : Addr) (B : Heap) (H' : Hp), e = .ref x ∧ s'.os = s.os ∧ BareG s.gens s'.gens ∧ Un (frs outer) [] H H' s.heap s'.heap ∧ HOk P w H' B ∧
  (∀ b o, s.heap.get? b = some o → H b = none → b ∉ frs outer → B.get? b = some o) ∧ (∀ b o, s.heap.get? b = some o → b ∉ frs outer → ∃ o', B.get? b = some o') ∧
  Heap.FlyingW B outer x (.ref C) (.ref t) s'.heap ∧ E (.ref C) none H'
theorem Un.fly {st : List Env} {H H' : Hp} {h h1 h2 B : Heap} (u : Un (frs st) [] H H' h h1) (kB : ∀ b o, h.get? b = some o → H b = none → b ∉ frs st → B.get? b = some o) (tB : ∀ b o, h.get? b = some o → b ∉ frs st → ∃ o', B.get? b = some o')
    (hs : B.StaysIn h2) (sm : h1.UpToSlots h2) (ff : ∀ b ∈ frs st, H b = none ∧ ∃ o, h.get? b = some o ∧ ∀ vs, o.data ≠ .fields vs) : Un (frs st) [] H H' h h2 where
  keep b o e n nf _ := hs b o (kB b o e n nf)
  slot b o e n hf hx := by
    obtain ⟨sl, e1⟩ := u.slot b o e n hf hx
    obtain ⟨_, o', e', nf⟩ := ff b hf
    rw [e] at e'; cases e'
    obtain ⟨sl2, e2⟩ := sm b _ e1 nf
    exact ⟨sl2, e2⟩
  free := u.free
  there b o e hx := by
    by_cases hf : b ∈ frs st
    · obtain ⟨n, o', e', nf⟩ := ff b hf
      rw [e] at e'; cases e'
      obtain ⟨sl, e1⟩ := u.slot b o e n hf hx
      obtain ⟨sl2, e2⟩ := sm b _ e1 nf
      exact ⟨_, e2⟩
    · obtain ⟨o', e'⟩ := tB b o e hf
      exact ⟨o', hs _ _ e'⟩
  tups := u.tups
  frzs := u.frzs
  tbls := u.tbls
section
variable {X : Cx} {pins : List (Addr × Obj)} {σ : St} {H : Hp} {s : Shared}
theorem Inv.ff (I : Inv X pins σ H s) : ∀ b ∈ frs X.stack, H b = none ∧ ∃ o, s.heap.get? b = some o ∧ ∀ vs, o.data ≠ .fields vs := fun b hb => ⟨I.stkFree b hb, (I.stack.mem hb).2⟩
theorem Inv.nstk (I : Inv X pins σ H s) {b : Addr} {o : Obj} (e : X.s_0.heap.get? b = some o) (n : b ∉ frs X.outer) : b ∉ frs X.stack := fun z => by
  rcases List.mem_cons.mp (I.stkSub b z) with q | q
  · exact absurd (Nat.lt_of_lt_of_le (Heap.lt_size e) I.ok.above) (by rw [q]; exact Nat.lt_irrefl _)
  · exact n q
end
section
variable {P : Program} {w : World} {K : PySem.W.Frag} {mg : Str → Option Value} {base : Heap} {N : List Str} {qual : Str} {scope : Scope} {f : Addr} {cd : Value} {A : Around} {outer : List Env} {s0 : Shared} {H0 : Hp} {E : XK}
/-- raised here -/
theorem xe_made {pins : List (Addr × Obj)} {σ : St} {H : Hp} {s : Shared} {h' : Heap} {e C : Addr} {args : List Value} {tk : Nat} (I : Inv (cxOf (CXo P w) P w K mg base N qual scope f cd A outer s0 H0 E) pins σ H s)
    (hm : Heap.MadeExcOf s.heap h' e (.ref C) args) (hE : E (.ref C) none H) : (cxOf (CXo P w) P w K mg base N qual scope f cd A outer s0 H0 E).xe (.ref e) { s with heap := h', toks := tk } := by
  have hin : ∀ env ∈ (envOfC qual scope s0.heap.objs.size f cd :: outer), ∀ b, env.frame = some b → b ∈ frs (envOfC qual scope s0.heap.objs.size f cd :: outer) := fun env he b hb => List.mem_filterMap.mpr ⟨env, he, hb⟩
  refine wpAny_leaves_madeW (base := PySem.W.hideAll s.heap (frs (envOfC qual scope s0.heap.objs.size f cd :: outer))) (h := s.heap) I.ok.frames rfl (fun b o q => PySem.W.of_hideAll _ q) (PySem.W.funFrames_hide I.stack hin) hm fun h2 t fl _ _ sm => ?_
  have hB : HOk P w H (PySem.W.hideAll s.heap (frs (envOfC qual scope s0.heap.objs.size f cd :: outer))) := fun a o ea => (I.hok a o ea).stay (fun b u hb q => PySem.W.hideAll_get _ q fun z => by
    have hn := I.stkFree b z
    rcases hb with rfl | hb
    · rw [ea] at hn; cases hn
    · rw [hb] at hn; cases hn) (fun _ q => q) fun _ _ q => q
  have u : Un (frs (envOfC qual scope s0.heap.objs.size f cd :: outer)) [] H H s.heap h2 := Un.fly (Un.kept hm.keeps) (fun b o e n nf => PySem.W.hideAll_get _ e nf) (fun b o e nf => ⟨o, PySem.W.hideAll_get _ e nf⟩) fl.1 sm I.ff
  have I2 := I.call' (s' := { s with heap := h2, toks := tk }) rfl u (hB.kept fl.1) I.bareS (fun b z => by simp at z)
  refine ⟨e, C, t, _, H, rfl, I2.os, I2.bare, I2.base, hB, fun b o e0 n0 nf0 => PySem.W.hideAll_get _ (I.base.keep b o e0 n0 nf0 (fun z => nomatch z)) (I.nstk e0 nf0), fun b o e0 nf0 => ?_, fl, hE⟩
  obtain ⟨o', e'⟩ := I.base.there b o e0 (fun z => nomatch z)
  exact ⟨o', PySem.W.hideAll_get _ e' (I.nstk e0 nf0)⟩
/-- raise C("..") -/
def tRaise (C : Addr) (E : XK) : TS := fun _ _ H => E (.ref C) none H
theorem ps_raise {x : Str} {C : Addr} {bm : List Value} {m : Str} {j : Nat} {np cpos ppos pos : Pos} (er : Err K mg x C bm) (hr : (A.deeper (envOfC qual scope s0.heap.objs.size f cd)).handled = none)
    (hg : Gl (cxOf (CXo P w) P w K mg base N qual scope f cd A outer s0 H0 E) x) (hd : (x == ("__debug__" : Str)) = false := by decide) :
    PS (cxOf (CXo P w) P w K mg base N qual scope f cd A outer s0 H0 E) (.Raise (some (.Call (.Name x np) [.Constant (.str m) j ppos] [] cpos)) none pos) (tRaise C E) := by
  intro pins s σ H D I h
  obtain ⟨N', nm, q, bs, hdct, sn, sub, ab, col, dd, k0, k1, k2, k3, k5, mN, hC, hN, hni, T⟩ := errObj I.kIn er.2
  refine wpAny_Raise_call_subU (bmB := bmVE) (nm := nm) (q := q) (C := C) (N := N') (bs := bs) (hdct := hdct) (sn := sn) (sub := sub) (ab := ab) (col := col) (dd := dd) (k0 := k0) (k1 := k1) (k2 := k2) (k3 := k3) (k5 := k5) PySem.F.excBase_ValueError (by decide) PySem.F.excBase_ValueError (T.hasType (by decide)) hr (by rfl) hni ?_
  refine ld_glob I hg er.1 ⟨rfl, ?_⟩ hd
  refine Calls.evalArgs_plain (Calls.spliced_cons (Calls.Constant_str (k := j) (pos := ppos) (Calls.spliced_nil ?_)))
  exact ⟨rfl, (by show 1 ≤ sizeLine; decide), hC, hN, T, fun h' e hm => xe_made (I.tok _) hm h⟩
end
def FnX (P : Program) (w : World) (K : PySem.W.Frag) (mg : Str → Option Value) (base : Heap) (k : Nat) (x : Str) (ps : List Str) (sp : Sp) : Prop :=
  ∃ (f : Addr) (fd : FuncData), mg x = some (.ref f) ∧ PySem.W.keepIn K (.ref f) = true ∧ Binds K fd ps [] ∧ FnOk P w K mg base (CXo P w) k f fd ps sp
def MFnX (P : Program) (w : World) (K : PySem.W.Frag) (mg : Str → Option Value) (base : Heap) (k : Nat) (C : Addr) (m : Str) (ps : List Str) (sp : Sp) : Prop :=
  ∃ (f : Addr) (fd : FuncData), Cls K C ∧ Meth K C m f ∧ Binds K fd ps [] ∧ FnOk P w K mg base (CXo P w) k f fd ps sp
section
variable {P : Program} {w : World} {K : PySem.W.Frag} {mg : Str → Option Value} {base : Heap} {C : Addr}
theorem Fun.okX {x qual : Str} {st : Stmt} {f : Addr} {fd : FuncData} {N ps : List Str} {k : Nat} {sp : Sp} (F : Fun K x qual st f fd) (S : FnScope N ps (defScope st)) (len : ∀ vs H Q E, sp vs H Q E → vs.length = ps.length)
    (hbody : ∀ (cdv : Value) (A : Around) (outer : List Env) (s : Shared) (H : Hp) (vs : List V) (Q : VK) (E : XK), Room k (A.deeper (envOfC qual (defScope st) s.heap.objs.size f cdv)) → sp vs H Q E →
      ∃ t, PSs (cxOf (CXo P w) P w K mg base N qual (defScope st) f cdv A outer s H E) (defBody st) t ∧ t { nx := fun _ H' => Q .non H', rt := Q } (start N vs) H) : FnOk P w K mg base (CXo P w) (k + 1) f fd ps sp := by
  obtain ⟨oc, od, kV, doc, pm, an, cdv, ct, osl, rfl, lk, hcd⟩ := F.ex
  exact fn_of lk hcd S len fun A outer s H vs Q E hr hsp => hbody cdv A outer s H vs Q E hr hsp
theorem DefAt.fnX {x : Str} {st : Stmt} {N ps : List Str} {k : Nat} {sp : Sp} (D : DefAt K mg x st ps) (S : FnScope N ps (defScope st)) (len : ∀ vs H Q E, sp vs H Q E → vs.length = ps.length)
    (hbody : ∀ (f : Addr) (cdv : Value) (A : Around) (outer : List Env) (s : Shared) (H : Hp) (vs : List V) (Q : VK) (E : XK), Room k (A.deeper (envOfC x (defScope st) s.heap.objs.size f cdv)) → sp vs H Q E →
      ∃ t, PSs (cxOf (CXo P w) P w K mg base N x (defScope st) f cdv A outer s H E) (defBody st) t ∧ t { nx := fun _ H' => Q .non H', rt := Q } (start N vs) H) : FnX P w K mg base (k + 1) x ps sp := by
  obtain ⟨f, fd, hm, F, b⟩ := D
  exact ⟨f, fd, hm, F.kp, b, F.okX S len fun cdv A outer s H vs Q E hr h => hbody f cdv A outer s H vs Q E hr h⟩
theorem DefM.fnX {m qual : Str} {st : Stmt} {N ps : List Str} {k : Nat} {sp : Sp} (D : DefM K C m qual st ps) (S : FnScope N ps (defScope st)) (len : ∀ vs H Q E, sp vs H Q E → vs.length = ps.length)
    (hbody : ∀ (f : Addr) (cdv : Value) (A : Around) (outer : List Env) (s : Shared) (H : Hp) (vs : List V) (Q : VK) (E : XK), Room k (A.deeper (envOfC qual (defScope st) s.heap.objs.size f cdv)) → sp vs H Q E →
      ∃ t, PSs (cxOf (CXo P w) P w K mg base N qual (defScope st) f cdv A outer s H E) (defBody st) t ∧ t { nx := fun _ H' => Q .non H', rt := Q } (start N vs) H) : MFnX P w K mg base (k + 1) C m ps sp := by
  obtain ⟨f, fd, c, hm, F, b⟩ := D
  exact ⟨f, fd, c, hm, b, F.okX S len fun cdv A outer s H vs Q E hr h => hbody f cdv A outer s H vs Q E hr h⟩
end
def tCallX (sp : Sp) (EE : St → XK) (t : TA) : TE := fun σ H Q => t σ H fun vs H1 => sp vs H1 Q (EE σ)
def PassX (X : Cx) (EE : St → XK) : Prop := ∀ (pins : List (Addr × Obj)) (σ : St) (H : Hp) (s : Shared) (e : Value) (s' : Shared), Inv X pins σ H s → CXo X.prog X.w X.stack H s (EE σ) e s' → X.xe e s'
section
variable {X : Cx} {EE : St → XK} {k : Nat} {f : Addr} {fd : FuncData} {ps : List Str} {sp : Sp} {pins : List (Addr × Obj)} {σ : St} {H : Hp} {s : Shared} {Q : VK} {us : List Value} {vs : List V}
theorem run_may (F : FnOk X.prog X.w X.K X.mg X.base (CXo X.prog X.w) k f fd ps sp) (hr : Room k X.A) (hb : Binds X.K fd ps []) (hx : PassX X EE) (I : Inv X pins σ H s) (r : Vals vs us) (h : sp vs H Q (EE σ)) :
    wpAny (model X.prog X.w) X.A (call (.ref f) us) (EP X pins σ Q) X.xe s := by
  have hl : (us ++ []).length = ps.length := by rw [List.append_nil, ← r.length]; exact F.len _ _ _ _ h
  have hb' := hb s us I.kIn hl
  rw [List.append_nil] at hb'
  have go := F.run X.A X.stack s H ⟨us, []⟩ us vs Q (EE σ) hr I.env0 hb' r h
  refine wpAny_call (codeAny_mono go ?_)
  rintro (e | fl) s' hq
  · exact hx pins σ H s e s' I hq
  · cases fl with
    | ret u => exact I.after hq
    | _ => exact False.elim hq
variable {j : Nat} {x m : Str} {C : Addr} {p pos apos : Pos} {e o : Expr} {es : List Expr} {t : TA} {ta : TE}
theorem pe_fnX (F : FnX X.prog X.w X.K X.mg X.base k x ps sp) (hr : Room j X.A) (hg : Gl X x) (hx : PassX X EE) (ha : PA X (e :: es) t)
    (hjk : k ≤ j := by decide) (hdb : (x == ("__debug__" : Str)) = false := by decide) (he : starEach (e :: es) X.env = (false, eval e X.env) :: starEach es X.env := by rfl) (hpl : (backTo pos (starEach es X.env)).any (·.1) = false := by rfl) :
    PE X (.Call (.Name x p) (e :: es) [] pos) (tCallX sp EE t) := by
  obtain ⟨f, fd, hm, kp, b, G⟩ := F
  intro pins s σ H Q I h
  refine wpAny_Call_Name_kw (ld_glob I hg hm ?_ hdb)
  exact PySem.W.callWith_K (h₀ := X.base) I.ok.mod.kin kp (thn (ha pos pins s σ H _ I h) fun us s1 ⟨vs, H1, I1, r, q⟩ => ⟨I1.kIn, run_may G (hr.mono hjk) b hx I1 r q⟩) he hpl
end
end L2

set_option Elab.async false
set_option linter.all false
set_option maxRecDepth 100000
set_option maxHeartbeats 4000000
namespace L2
open PySem PySem.Spec PyProof.Rows
abbrev Cx.more (X : Cx) (p0 : List (Addr × Obj)) : Cx := { X with pn := X.pn ++ p0 }
abbrev Cx.tr (X : Cx) (p0 : List (Addr × Obj)) (EE : St → XK) : Cx := { X with pn := X.pn ++ p0, xe := fun e s' => ∃ (pins : List (Addr × Obj)) (σ : St) (H : Hp) (s : Shared), Inv (X.more p0) pins σ H s ∧ CXo X.prog X.w X.stack H s (EE σ) e s' }
abbrev Cx.hold (X : Cx) (x : Addr) : Cx := { X with A := X.A.mark (some (.ref x)), calm := false, xe := fun _ _ => False }
section
variable {X : Cx} {p0 pins : List (Addr × Obj)} {EE : St → XK} {σ : St} {H : Hp} {s : Shared} {x : Addr}
theorem Cx.Ok.more (ok : X.Ok) : (X.more p0).Ok := ⟨ok.mod, ok.kind, ok.glob, ok.blt, ok.above, ok.inj, ok.has, ok.cab, ok.hd, ok.frames, ok.stk, ok.exf, ok.bs, ok.bsz, ok.noex, ok.exfs, ok.funs, ok.frf, ok.tb⟩
theorem Cx.Ok.tr (ok : X.Ok) : (X.tr p0 EE).Ok := ⟨ok.mod, ok.kind, ok.glob, ok.blt, ok.above, ok.inj, ok.has, ok.cab, ok.hd, ok.frames, ok.stk, ok.exf, ok.bs, ok.bsz, ok.noex, ok.exfs, ok.funs, ok.frf, ok.tb⟩
theorem Cx.Ok.hold (ok : X.Ok) : (X.hold x).Ok := ⟨ok.mod, ok.kind, ok.glob, ok.blt, ok.above, ok.inj, ok.has, ok.cab, (fun z => nomatch z), ok.frames, ok.stk, ok.exf, ok.bs, ok.bsz, ok.noex, ok.exfs, ok.funs, ok.frf, ok.tb⟩
theorem Cx.Ok.untr (ok : (X.tr p0 EE).Ok) : X.Ok := ⟨ok.mod, ok.kind, ok.glob, ok.blt, ok.above, ok.inj, ok.has, ok.cab, ok.hd, ok.frames, ok.stk, ok.exf, ok.bs, ok.bsz, ok.noex, ok.exfs, ok.funs, ok.frf, ok.tb⟩
theorem Cx.Ok.unmore (ok : (X.more p0).Ok) : X.Ok := ⟨ok.mod, ok.kind, ok.glob, ok.blt, ok.above, ok.inj, ok.has, ok.cab, ok.hd, ok.frames, ok.stk, ok.exf, ok.bs, ok.bsz, ok.noex, ok.exfs, ok.funs, ok.frf, ok.tb⟩
theorem Inv.tr (I : Inv X pins σ H s) : Inv (X.tr pins EE) [] σ H s := ⟨I.ok.tr, I.os, I.bare, I.base, I.loc, I.cell, I.free, I.freeC, (fun p hp => I.pin p (by simpa using hp)), I.hok, I.len⟩
theorem Inv.untr (I : Inv (X.tr p0 EE) pins σ H s) : Inv X p0 σ H s := ⟨I.ok.untr, I.os, I.bare, I.base, I.loc, I.cell, I.free, I.freeC, (fun p hp => I.pin p (List.mem_append_left _ hp)), I.hok, I.len⟩
theorem Inv.unmore (I : Inv (X.more p0) pins σ H s) : Inv X p0 σ H s := ⟨I.ok.unmore, I.os, I.bare, I.base, I.loc, I.cell, I.free, I.freeC, (fun p hp => I.pin p (List.mem_append_left _ hp)), I.hok, I.len⟩
theorem Inv.trMore (I : Inv (X.tr p0 EE) pins σ H s) : Inv (X.more p0) pins σ H s := ⟨I.ok.untr.more, I.os, I.bare, I.base, I.loc, I.cell, I.free, I.freeC, I.pin, I.hok, I.len⟩
theorem Inv.hold (I : Inv X pins σ H s) : Inv (X.hold x) pins σ H s := ⟨I.ok.hold, I.os, I.bare, I.base, I.loc, I.cell, I.free, I.freeC, I.pin, I.hok, I.len⟩
theorem Inv.unhold (ok : X.Ok) (I : Inv (X.hold x) pins σ H s) : Inv X pins σ H s := ⟨ok, I.os, I.bare, I.base, I.loc, I.cell, I.free, I.freeC, I.pin, I.hok, I.len⟩
theorem passTr : PassX (X.tr p0 EE) EE := fun pins σ H s e s' I h => ⟨pins, σ, H, s, I.trMore, h⟩
theorem SP.untr {D : Ends} {f : Flow} {s' : Shared} (h : SP (X.tr p0 EE) pins D f s') : SP X p0 D f s' := by
  cases f with
  | next => obtain ⟨σ', H', I, q⟩ := h; exact ⟨σ', H', I.untr, q⟩
  | brk => obtain ⟨σ', H', I, q⟩ := h; exact ⟨σ', H', I.untr, q⟩
  | cont => obtain ⟨σ', H', I, q⟩ := h; exact ⟨σ', H', I.untr, q⟩
  | ret u => obtain ⟨v, σ', H', I, r, q⟩ := h; exact ⟨v, σ', H', I.untr, r, q⟩
/-- a name is given up -/
theorem name_goes {M : Model} {A : Around} {E : Value → Shared → Prop} {j : Nat} {n : Str} {pos : Pos} {Q : Unit → Shared → Prop} (I : Inv X pins σ H s) (hN : X.N.Nodup) (hi : X.N[j]? = some n) (hk : X.env.kindOf n = some .local)
    (h : ∀ s', Inv X pins (σ.set j none) H s' → Q () s') : wpAny M A (do bindName X.env n .none; unbindBehindTheSuite X.env n pos) Q E s := by
  obtain ⟨m, hn, hl⟩ := I.loc
  refine wpAny_nameGoes_keeps hk hn (by rw [I.ok.kind]; rfl) fun h' v hn' hs => ?_
  have lt0 : ∀ b o, X.s_0.heap.get? b = some o → b ≠ X.env.locals := fun b o e => Nat.ne_of_lt (Nat.lt_of_lt_of_le (Heap.lt_size e) I.ok.above)
  refine h _ ⟨I.ok, I.os, I.bare, ⟨fun b o e n hb hx => ?_, fun b o e n hb hx => ?_, I.base.free, fun b o e hx => ?_, I.base.tups, I.base.frzs, I.base.tbls⟩, ⟨_, hn', fun i y v' e1 e2 e3 => ?_⟩, fun y c e => ?_, I.free, I.freeC, fun p hp => ?_, fun a o e => ?_, by simpa using I.len⟩
  · exact (hs.2 b (lt0 b o e)).trans (I.base.keep b o e n hb hx)
  · obtain ⟨sl, e1⟩ := I.base.slot b o e n hb hx
    exact ⟨sl, (hs.2 b (lt0 b o e)).trans e1⟩
  · obtain ⟨o', e1⟩ := I.base.there b o e hx
    exact ⟨o', (hs.2 b (lt0 b o e)).trans e1⟩
  · by_cases hj : i = j
    · subst hj
      rw [List.getElem?_set] at e2
      simp at e2
    · rw [List.getElem?_set_ne (Ne.symm hj)] at e2
      obtain ⟨u', r', q⟩ := hl i y v' e1 e2 e3
      refine ⟨u', r', ?_⟩
      rcases q with ⟨k, e⟩ | ⟨k, c, e, z⟩
      · refine .inl ⟨k, ?_⟩
        have ne : y ≠ n := fun e => hj (nodup_ix hN e1 (e ▸ hi))
        show (if y = n then v else m y) = some u'
        rw [if_neg ne]
        exact e
      · exact .inr ⟨k, c, e, z.sameBut hs (I.cne y c e)⟩
  · obtain ⟨w', z⟩ := I.cell y c e
    exact ⟨w', z.sameBut hs (I.cne y c e)⟩
  · obtain ⟨e, n, ne, nf, d⟩ := I.pin p hp
    exact ⟨(hs.2 p.1 ne).trans e, n, ne, nf, d⟩
  · refine (I.hok a o e).stay (fun b u hb q => (hs.2 b ?_).trans q) (fun _ q => q) fun _ _ q => q
    rcases hb with rfl | hb
    · intro z; rw [z, I.free] at e; cases e
    · intro z; rw [z, I.free] at hb; cases hb
end
/-- the error at x, of the class C -/
def errO (x C : Addr) : HO := .ext fun h => ∃ o vs, h.get? x = some o ∧ o.cls = .ref C ∧ o.data = .fields vs
section
variable {M : Model} {A : Around} {E : Value → Shared → Prop}
theorem excMatches_own {K : PySem.W.Frag} {C S : Addr} {bm bmS : List Value} {h : Heap} {g : Array GenState} {d : Drawn} {t : Nat} {os : OsState} {e : Addr} {oe : Obj} {Q : Bool → Shared → Prop} (X : K.In h) (eC : ErrAt K C bm) (eS : ErrAt K S bmS)
    (he : h.get? e = some oe) (hcls : oe.cls = .ref C) (hm : (Value.ref C :: bm).contains (.ref S) = true) (hq : Q true ⟨h, g, d, t, os⟩) : wpAny M A (excMatches (.ref e) (.ref S)) Q E ⟨h, g, d, t, os⟩ := by
  obtain ⟨N, nm, q, bs, hdct, sn, sub, ab, col, dd, k0, k1, k2, k3, k5, mN, hC, hN, hni, T⟩ := errObj X eC
  obtain ⟨N', nm', q', bs', hdct', sn', sub', ab', col', dd', l0, l1, l2, l3, l5, mN', hS, hN', hni', T'⟩ := errObj X eS
  have hcB : (Value.ref S :: bmS).contains (.type "BaseException") = true := by rw [List.contains_cons, T'.hasType (X := "BaseException") (b := true) (by decide), Bool.or_true]
  have f := tc_notTuple
  unfold excMatches
  repeat (first | (with_reducible refine wpAny_loadPart_at he ?_; rw [hcls]) | with_reducible refine wpAny_loadPart_at hS ?_ | with_reducible refine wpAny_loadPart_at hC ?_ | (with_reducible refine wpAny_isSubtype_exc hS ?_; rw [hcB]) | (with_reducible refine wpAny_isSubtype_exc hC ?_; rw [hm]) | wp_step)
  exact hq
end
/-- what the body may raise: an error of a class that is caught; the suite goes on with it at the name -/
def tTry (K : PySem.W.Frag) (S : Addr) (j : Nat) (tb : (St → XK) → TS) (ts : TS) : TS := fun D σ H =>
  tb (fun σ' cls _ H' => ∃ (C : Addr) (bm : List Value), cls = .ref C ∧ ErrAt K C bm ∧ (Value.ref C :: bm).contains (.ref S) = true ∧
    ∀ x, H' x = none → ts { nx := fun σ2 H2 => D.nx (σ2.set j none) H2, rt := D.rt, bk := fun σ2 H2 => D.bk (σ2.set j none) H2, ct := fun σ2 H2 => D.ct (σ2.set j none) H2 } (σ'.set j (some (.ref x))) (upd H' x (errO x C))) D σ H
theorem ps_try {X : Cx} {body suite : List Stmt} {b₀ : Stmt} {se n : Str} {S : Addr} {bmS : List Value} {j : Nat} {np hpos pos : Pos} {tb : (St → XK) → TS} {ts : TS} (hb : ∀ p0 EE, PSs (X.tr p0 EE) body (tb EE)) (hsu : ∀ x, PSs (X.hold x) (b₀ :: suite) ts)
    (er : Err X.K X.mg se S bmS) (hg : Gl X se) (hN : X.N.Nodup) (hi : X.N[j]? = some n) (hk : X.env.kindOf n = some .local) (hst : X.stack = X.env :: X.outer) (hfr : X.env.frame = some X.env.locals) (hd : (se == ("__debug__" : Str)) = false := by decide) :
    PS X (.Try body [.ExceptHandler (some (.Name se np)) (some n) (b₀ :: suite) hpos] [] [] pos) (tTry X.K S j tb ts) := by
  intro pins s σ H D I h
  refine wpAny_Try_except (wpAny_mono (hb pins _ [] s σ H D I.tr h) (fun f s1 hs => ?_) fun e s1 he => ?_)
  · have hs' := hs.untr
    cases f with
    | next => exact wpAny_pure hs'
    | _ => exact hs'
  obtain ⟨pins', σ', H1, s2, I2, x, C, t, B, H', rfl, ho, hg', u, hB, kB, tB, fl, C', bm, eC, eE, hm, go⟩ := he
  obtain rfl : C = C' := by cases eC; rfl
  have I1 := I2.unmore
  clear I2
  rw [hst] at fl
  refine wpAny_looks_onW (L := X.env.locals) (by rw [← hst]; exact I1.ok.frames) hfr fl fun h4 held sm4 => ?_
  refine wpAny_landsW held fun h5 fl5 sm5 => ?_
  rw [← hst] at fl5
  have I5 := I1.call' (s' := { s1 with heap := h5 }) ho (u.fly kB tB fl5.1 (sm4.trans sm5) I1.ff) (hB.kept fl5.1) hg' (fun b z => by simp at z)
  refine wpAny_handleBy_cons (codeAny_handlers_test ?_) (by intro q; cases q)
  refine ld_glob (X := X.hold x) I5.hold hg er.1 ?_ hd
  obtain ⟨ob, hob, hobc⟩ := fl5.there
  refine excMatches_own I5.kIn eE er.2 hob hobc hm (codeAny_handlers_suite_as ?_)
  refine lands_againW fl5 fun h6 fl6 sm6 => ?_
  have hxB : B.get? x = none := fl6.2.1
  have hx' : H' x = none := hB.dead hxB
  have hxs : ∀ o, s2.heap.get? x ≠ some o := fun o e => by
    by_cases hf : x ∈ frs X.stack
    · obtain ⟨_, o', e', nf⟩ := fl6.2.2.1.mem hf
      obtain ⟨oe, vs, q1, q2, q3, _⟩ := fl6.first
      rw [e'] at q1; cases q1
      exact nf vs q3
    · obtain ⟨o', e'⟩ := tB x o e hf
      rw [hxB] at e'; cases e'
  have u6 := u.fly kB tB fl6.1 ((sm4.trans sm5).trans sm6) I1.ff
  have u7 : Un (frs X.stack) [] H1 (upd H' x (errO x C)) s2.heap h6 := ⟨u6.keep, u6.slot, fun b o e n hx => by have nb : b ≠ x := (fun z => by subst z; exact hxs o e); rw [upd_ne nb]; exact u6.free b o e n hx, u6.there,
    fun b xs e => by have q := u6.tups b xs e; rw [upd_ne (ne_of_none q hx')]; exact q, fun b o y e => by have q := u6.frzs b o y e; rw [upd_ne (ne_of_none q hx')]; exact q,
    fun b ps e => by obtain ⟨more, q⟩ := u6.tbls b ps e; exact ⟨more, by rw [upd_ne (ne_of_none q hx')]; exact q⟩⟩
  have hok7 : HOk X.prog X.w (upd H' x (errO x C)) h6 := fun a o e => by
    by_cases ha : a = x
    · subst ha
      rw [upd_same] at e; cases e
      obtain ⟨oe, vs, q1, q2, q3, _⟩ := fl6.first
      exact ⟨⟨oe, vs, q1, q2, q3⟩, ⟨oe, q1⟩, fun h1 h2 ⟨o, vs, a1, a2, a3⟩ k => ⟨o, vs, k o a1, a2, a3⟩⟩
    · rw [upd_ne ha] at e
      exact (hB a o e).stay (fun b u _ q => fl6.1 b u q) (fun b q => by rw [upd_ne (ne_of_none q hx')]; exact q) fun b xs q => by rw [upd_ne (ne_of_none q hx')]; exact q
  have I7 := I1.call' (s' := { s1 with heap := h6 }) ho u7 hok7 hg' (fun b z => by simp at z)
  refine store_ok I7 hN hi (.inl hk) (v := .ref x) rfl (fun s8 I8 => ?_) (.inr hk)
  refine wpAny_mono (hsu x pins s8 _ _ _ I8.hold (go x hx')) (fun f s9 hs => ?_) fun _ _ z => z.elim
  cases f with
  | next => obtain ⟨σ2, H2, I9, q⟩ := hs; exact name_goes (I9.unhold I1.ok) hN hi hk fun s' I' => ⟨_, H2, I', q⟩
  | brk => obtain ⟨σ2, H2, I9, q⟩ := hs; exact name_goes (I9.unhold I1.ok) hN hi hk fun s' I' => ⟨_, H2, I', q⟩
  | cont => obtain ⟨σ2, H2, I9, q⟩ := hs; exact name_goes (I9.unhold I1.ok) hN hi hk fun s' I' => ⟨_, H2, I', q⟩
  | ret v => obtain ⟨v', σ2, H2, I9, r, q⟩ := hs; exact name_goes (I9.unhold I1.ok) hN hi hk fun s' I' => ⟨v', _, H2, I', r, q⟩
theorem PS.nox {X : Cx} {st : Stmt} {t : TS} (h : PS X.nox st t) : PS X st t := fun pins s σ H D I hw => wpAny_mono (h pins s σ H D (I.wish _) hw) (fun _ _ q => q.unwish) fun _ _ z => False.elim z
theorem err_mk {K : PySem.W.Frag} {mg : Str → Option Value} {h : Heap} (X : K.In h) (G : h.Ns mainGlobals mg) {x : Str} {C : Addr} {bm : List Value} {c0 : Value} {dd : Option Addr} {cd : ClassData} {sl : Array (Option Value)}
    (n : PySem.W.nsIn K mainGlobals x = some (some (.ref C))) (q : PySem.W.excIn K C bmVE "ValueError.__new__" = true) (l : K.lookup C = some ⟨c0, dd, .cls cd, sl⟩) (m : cd.mro = .ref C :: bm) : Err K mg x C bm :=
  ⟨PySem.W.mg_of X G n, q, c0, dd, cd, sl, l, m⟩
end L2

set_option Elab.async false
set_option linter.all false
set_option maxRecDepth 100000
set_option maxHeartbeats 4000000
namespace L2
open PySem PySem.Spec PyProof.Rows PySem.W PySem.Calls Builtin.ObjectAttr Builtin.Getset_descriptor
section
variable {prog : Program} {w : World} {A : Around} {E : Value → Shared → Prop} {s : Shared} {K : PySem.W.Frag} {x C : Addr} {ox : Obj}
theorem looksTy {M : Model} {h : Heap} (hx : h.get? x = some ox) (hc : ox.cls = .ref C) : Looks M h (typeOf (.ref x)) (.ref C) := by
  rw [← hc]
  exact (Looks.ld hx).andThen .now
theorem cls_get {R : Result → Shared → Prop} {tp : Value} (L0 : Looks (model prog w) s.heap (typeOf (.ref x)) (.ref C)) (L1 : Looks (model prog w) s.heap (isSubtype (.ref C) (.type "object")) true)
    (h : R (.ok (.ret (.ref C))) s) : codeAny (model prog w) A (.call (.builtin "getset_descriptor.__get__") ⟨[.builtin "object.__class__", .ref x, tp], []⟩) R s := by
  obtain ⟨hh, g, dr, t, os⟩ := s
  refine codeAny_call_builtin KF.slot_gs.plain KF.entry_gs (KF.slot_gs.check _ _ _ _ _ _ _ _ KF.type_class (KF.args_gs _ _ _) ?_)
  unfold Builtin.«getset_descriptor.__get__» descrGet
  rw [dga_obj]
  refine wpAny_bind (wpAny_pure ?_)
  unfold descrGetter descrCheckInstance descrNameAndClass isInstance
  simp only [KF.owner_class]
  repeat lk
  refine ⟨Code.quiet_builtin _ (by decide +kernel), codeAny_builtin KF.entry_class ?_⟩
  unfold Builtin.«object.__class__» shownTypeOf
  repeat lk
  exact h
theorem cls_entry {tk : Tok} {Q : Fin → Shared → Prop} (L0 : Looks (model prog w) s.heap (typeOf (.ref x)) (.ref C)) (L1 : Looks (model prog w) s.heap (isSubtype (.ref C) (.type "object")) true)
    (L2 : Looks (model prog w) s.heap (typeLookup (.ref C) "__class__") (some (.builtin "object.__class__"))) (h : Q (.done (.ret (.ref C))) s) :
    wpAny (model prog w) A (Builtin.«object.__getattribute__» ⟨[.ref x, .str "__class__" tk], []⟩) Q E s := by
  obtain ⟨hh, g, dr, t, os⟩ := s
  have f6 := F.slot_gs_get.lookup
  have f7 := F.slot_gs_set.lookup
  unfold Builtin.«object.__getattribute__»
  repeat lk
  show wpAny _ A (run (.call (.builtin "getset_descriptor.__get__") ⟨[.builtin "object.__class__", .ref x, .ref C], []⟩)) _ _ _
  refine wpAny_run ?_
  rw [Around.mark_none]
  refine cls_get L0 L1 ?_
  exact wpAny_pure (wpAny_pure h)
theorem ga_check {M : Model} {nameV : Value} {Q : Unit → Shared → Prop} (L0 : Looks M s.heap (typeOf (.ref x)) (.ref C)) (L3 : Looks M s.heap (isSubtype (.ref C) (.type "BaseException")) true) (hq : Q () s) :
    wpAny M A (checkBuiltinCall "BaseException.__getattribute__" ⟨[.ref x, nameV], []⟩) Q E s := by
  have hk : builtinKind "BaseException.__getattribute__" = some .slot := by decide +kernel
  have hsplit : splitId "BaseException.__getattribute__" = some ("BaseException", "__getattribute__") := by decide +kernel
  have ha := F.args_bexc_ga (.ref x) nameV
  obtain ⟨hh, g, dr, t, os⟩ := s
  simp only [checkBuiltinCall, hk, hsplit]
  refine wpAny_bind ((L0.andThen L3 : Looks M hh (isInstance (.ref x) (.type "BaseException")) true).at ?_)
  repeat (first | wp_step)
  exact hq
theorem cls_call {tk : Tok} {R : Result → Shared → Prop} (L0 : Looks (model prog w) s.heap (typeOf (.ref x)) (.ref C)) (L1 : Looks (model prog w) s.heap (isSubtype (.ref C) (.type "object")) true) (L3 : Looks (model prog w) s.heap (isSubtype (.ref C) (.type "BaseException")) true)
    (L2 : Looks (model prog w) s.heap (typeLookup (.ref C) "__class__") (some (.builtin "object.__class__"))) (h : R (.ok (.ret (.ref C))) s) :
    codeAny (model prog w) A (.call (.builtin "BaseException.__getattribute__") ⟨[.ref x, .str "__class__" tk], []⟩) R s :=
  codeAny_call_builtin F.attr_ValueError.ga.plain F.entry_bexc_ga (ga_check L0 L3 (cls_entry L0 L1 L2 h))
theorem cls_attr {Q : Option Value → Shared → Prop} (L0 : Looks (model prog w) s.heap (typeOf (.ref x)) (.ref C)) (L1 : Looks (model prog w) s.heap (isSubtype (.ref C) (.type "object")) true) (L3 : Looks (model prog w) s.heap (isSubtype (.ref C) (.type "BaseException")) true)
    (L2 : Looks (model prog w) s.heap (typeLookup (.ref C) "__class__") (some (.builtin "object.__class__"))) (L4 : Looks (model prog w) s.heap (typeLookup (.ref C) "__getattribute__") (some (.builtin "BaseException.__getattribute__"))) (L5 : Looks (model prog w) s.heap (typeLookup (.ref C) "__getattr__") none)
    (h : Q (some (.ref C)) { s with toks := s.toks + 1 }) : wpAny (model prog w) A (getAttr? (.ref x) "__class__") Q E s := by
  obtain ⟨hh, g, d, t, os⟩ := s
  have f3 := F.attr_ValueError.ga.bind (.ref x)
  unfold getAttr? getAttrBy? getAttrBy
  refine wpAny_bind (wpAny_mkText (wpAny_bind (wpAny_attempt (wpAny_holding (wpAny_bind (L0.at (wpAny_bind (L4.at ?_))))))))
  show wpAny _ _ (getAttrByItsOwn _ _ _ _ _ _) _ _ _
  unfold getAttrByItsOwn hookBefore
  refine wpAny_bind (L5.at ?_)
  refine wpAny_bind (wpAny_attempt (wpAny_holding ?_))
  show wpAny _ _ (boundAndCalled _ _ _) _ _ _
  unfold boundAndCalled
  rw [f3]
  refine wpAny_bind (wpAny_pure ?_)
  refine wpAny_call (cls_call L0 L1 L3 L2 ?_)
  exact handed_on rfl (wpAny_pure h)
end
/-- what an error's class finds of these names -/
structure ErrQ (K : PySem.W.Frag) (C : Addr) : Prop where
  ga : findIn K (.ref C) "__getattribute__" = some (some (.builtin "BaseException.__getattribute__"))
  gt : findIn K (.ref C) "__getattr__" = some none
  cl : findIn K (.ref C) "__class__" = some (some (.builtin "object.__class__"))
section
variable {K : PySem.W.Frag} {x C S : Addr} {bm bmS : List Value}
theorem ErrAt.cls (e : ErrAt K C bm) : ∃ dd cd sl, K.lookup C = some ⟨.type "type", dd, .cls cd, sl⟩ ∧ cd.mro = .ref C :: bm := by
  obtain ⟨q, c0, dd, cd, sl, hl, hm⟩ := e
  unfold PySem.W.excIn at q
  rw [hl] at q
  split at q
  · rename_i dd' cd' sl' ho
    cases ho
    exact ⟨dd, cd, sl, hl, hm⟩
  · cases q
theorem ErrAt.mro (e : ErrAt K C bm) (v : Value) : mroIn K C v = some ((Value.ref C :: bm).contains v) := by
  obtain ⟨dd, cd, sl, hl, hm⟩ := e.cls
  unfold mroIn clsIn
  rw [hl]
  simp [hm]
theorem kit_err (e : ErrAt K C bm) (e' : ErrAt K S bmS) : kitOne K (.ref C) (.ref S) = some ((Value.ref C :: bm).contains (.ref S)) := by
  unfold kitOne
  by_cases z : ((Value.ref C : Value) == .ref S) = true
  · rw [if_pos z]
    have : C = S := by have := beq_iff_eq.mp z; cases this; rfl
    subst this
    simp
  · rw [if_neg z]
    obtain ⟨dd, cd, sl, hl, hm⟩ := e'.cls
    have h1 : ((clsIn K S).isSome && typeIn K (.ref S) == some (.type "type")) = true := by
      simp [clsIn, typeIn, hl]
    unfold kitCls
    dsimp only
    rw [if_pos h1]
    exact e.mro _
theorem kit_errT (e : ErrAt K C bm) {T : String} (hT : kitMeta T = true) : kitOne K (.ref C) (.type T) = some ((Value.ref C :: bm).contains (.type T)) := by
  unfold kitOne
  rw [if_neg (by intro z; cases (beq_iff_eq.mp z))]
  unfold kitCls
  dsimp only
  rw [if_pos hT]
  exact e.mro _
theorem kitx_err (e : ErrAt K C bm) (q : ErrQ K C) : KitX K (.ref x) (.ref C) (fun h => ∃ o, h.get? x = some o ∧ o.cls = .ref C) where
  ty := fun M h X p => by obtain ⟨o, h1, h2⟩ := p; exact looksTy h1 h2
  it := fun M h X _ => by
    obtain ⟨dd, cd, sl, hl, hm⟩ := e.cls
    intro A' Q' E' s' k q
    unfold isType loadHead
    exact wpAny_bind (wpAny_loadPart (k _ _ (X _ _ hl)) (wpAny_pure q))
  ne := fun h tp dd its n sl X htp => by
    obtain ⟨dd', cd, sl', hl, hm⟩ := e.cls
    refine Bool.eq_false_iff.mpr fun z => ?_
    have e : C = tp := Value.ref.inj (beq_iff_eq.mp z)
    subst e
    have z2 := congrArg Obj.cls (Option.some.inj ((X _ _ hl).symm.trans htp))
    exact absurd (Value.type.inj z2) (by decide)
  ca := fun X p k => by
    obtain ⟨o, h1, h2⟩ := p
    obtain ⟨N, nm, qq, bs, hdct, sn, sub, ab, col, dd, k0, k1, k2, k3, k5, mN, hC, hN, hni, T⟩ := errObj X e
    have m1 := e.mro (.type "object")
    have m2 := e.mro (.type "BaseException")
    rw [List.contains_cons, T.hasType (X := "object") (b := true) (by decide), Bool.or_true] at m1
    rw [List.contains_cons, T.hasType (X := "BaseException") (b := true) (by decide), Bool.or_true] at m2
    exact cls_attr (looksTy h1 h2) (looks_mroIn X m1) (looks_mroIn X m2) (looks_findIn X q.cl) (looks_findIn X q.ga) (looks_findIn X q.gt) k
end
/-- isinstance(error, class) -/
theorem call_isinstE {X : Cx} : CallR X (.builtin "isinstance") (fun xs H Q => ∃ x C bm c b, xs = [.ref x, c] ∧ H x = some (errO x C) ∧ ErrAt X.K C bm ∧ ErrQ X.K C ∧
    ((∃ T, c = .ty T ∧ kitOne X.K (.ref C) (.type T) = some b) ∨ (∃ S, c = .ref S ∧ kitOne X.K (.ref C) (.ref S) = some b) ∨ (∃ (tp : Addr) (Ss : List Addr), c = .ref tp ∧ H tp = some (.tup (Ss.map V.ref)) ∧ kitAny X.K (.ref C) (Ss.map Value.ref) = some b)) ∧ Q (.bl b) H) := by
  intro pins s σ H xs us Q I r h
  obtain ⟨x, C, bm, c, b, rfl, hx, e, q, hc, hq⟩ := h
  cases r with
  | cons r rr =>
    cases rr with
    | cons r' rr =>
      cases rr
      cases r
      obtain ⟨⟨o, vs, o1, o2, o3⟩, _⟩ := (show ObjOk X.prog X.w H s.heap x (errO x C) from I.hok x _ hx)
      rcases hc with ⟨T, rfl, hk⟩ | ⟨S, rfl, hk⟩ | ⟨tp, Ss, rfl, htp, hk⟩
      · cases r'
        exact kia_one (kitx_err e q) I.kIn ⟨o, o1, o2⟩ hk (fun z => nomatch z) fun tk => ⟨.bl b, H, I.tok tk, rfl, hq⟩
      · cases r'
        exact kia_one (kitx_err e q) I.kIn ⟨o, o1, o2⟩ hk (fun z => nomatch z) fun tk => ⟨.bl b, H, I.tok tk, rfl, hq⟩
      · cases r'
        obtain ⟨_, its, rv, ot, t1, t2, n, t3⟩ := (show ObjOk X.prog X.w H s.heap tp (.tup (Ss.map V.ref)) from I.hok tp _ htp)
        have eits : ∀ (Ss : List Addr) (its : List Value), Vals (Ss.map V.ref) its → its = Ss.map Value.ref := by
          intro Ss
          induction Ss with
          | nil => intro its rv; cases rv; rfl
          | cons a r ih => intro its rv; cases rv with | cons h1 h2 => cases h1; rw [ih _ h2]; rfl
        have := eits Ss its rv
        subst this
        obtain ⟨oc, od, odt, osl⟩ := ot
        dsimp only at t2 t3
        subst t2 t3
        exact kia_tup (kitx_err e q) I.kIn ⟨o, o1, o2⟩ t1 hk (fun z => nomatch z) fun tk => ⟨.bl b, H, I.tok tk, rfl, hq⟩
end L2

set_option Elab.async false
set_option linter.all false
set_option maxRecDepth 100000
set_option maxHeartbeats 4000000
namespace L2
open PySem PySem.Spec PyProof.Rows PySem.W PySem.Calls Builtin.ObjectAttr Builtin.Getset_descriptor
section
variable {prog : Program} {w : World} {A : Around} {E : Value → Shared → Prop} {s : Shared} {K : PySem.W.Frag} {x : Addr} {ox : Obj}
theorem looksTyV {M : Model} {h : Heap} (hx : h.get? x = some ox) (hc : ox.cls = .type "ValueError") : Looks M h (typeOf (.ref x)) (.type "ValueError") := by
  rw [← hc]
  exact (Looks.ld hx).andThen .now
theorem cls_getV {R : Result → Shared → Prop} {tp : Value} (L0 : Looks (model prog w) s.heap (typeOf (.ref x)) (.type "ValueError")) (L1 : Looks (model prog w) s.heap (isSubtype (.type "ValueError") (.type "object")) true)
    (h : R (.ok (.ret (.type "ValueError"))) s) : codeAny (model prog w) A (.call (.builtin "getset_descriptor.__get__") ⟨[.builtin "object.__class__", .ref x, tp], []⟩) R s := by
  obtain ⟨hh, g, dr, t, os⟩ := s
  refine codeAny_call_builtin KF.slot_gs.plain KF.entry_gs (KF.slot_gs.check _ _ _ _ _ _ _ _ KF.type_class (KF.args_gs _ _ _) ?_)
  unfold Builtin.«getset_descriptor.__get__» descrGet
  rw [dga_obj]
  refine wpAny_bind (wpAny_pure ?_)
  unfold descrGetter descrCheckInstance descrNameAndClass isInstance
  simp only [KF.owner_class]
  repeat lk
  refine ⟨Code.quiet_builtin _ (by decide +kernel), codeAny_builtin KF.entry_class ?_⟩
  unfold Builtin.«object.__class__» shownTypeOf
  repeat lk
  exact h
theorem cls_entryV {tk : Tok} {Q : Fin → Shared → Prop} (L0 : Looks (model prog w) s.heap (typeOf (.ref x)) (.type "ValueError")) (L1 : Looks (model prog w) s.heap (isSubtype (.type "ValueError") (.type "object")) true)
    (L2 : Looks (model prog w) s.heap (typeLookup (.type "ValueError") "__class__") (some (.builtin "object.__class__"))) (h : Q (.done (.ret (.type "ValueError"))) s) :
    wpAny (model prog w) A (Builtin.«object.__getattribute__» ⟨[.ref x, .str "__class__" tk], []⟩) Q E s := by
  obtain ⟨hh, g, dr, t, os⟩ := s
  have f6 := F.slot_gs_get.lookup
  have f7 := F.slot_gs_set.lookup
  unfold Builtin.«object.__getattribute__»
  repeat lk
  show wpAny _ A (run (.call (.builtin "getset_descriptor.__get__") ⟨[.builtin "object.__class__", .ref x, .type "ValueError"], []⟩)) _ _ _
  refine wpAny_run ?_
  rw [Around.mark_none]
  refine cls_getV L0 L1 ?_
  exact wpAny_pure (wpAny_pure h)
theorem ga_checkV {M : Model} {nameV : Value} {Q : Unit → Shared → Prop} (L0 : Looks M s.heap (typeOf (.ref x)) (.type "ValueError")) (L3 : Looks M s.heap (isSubtype (.type "ValueError") (.type "BaseException")) true) (hq : Q () s) :
    wpAny M A (checkBuiltinCall "BaseException.__getattribute__" ⟨[.ref x, nameV], []⟩) Q E s := by
  have hk : builtinKind "BaseException.__getattribute__" = some .slot := by decide +kernel
  have hsplit : splitId "BaseException.__getattribute__" = some ("BaseException", "__getattribute__") := by decide +kernel
  have ha := F.args_bexc_ga (.ref x) nameV
  obtain ⟨hh, g, dr, t, os⟩ := s
  simp only [checkBuiltinCall, hk, hsplit]
  refine wpAny_bind ((L0.andThen L3 : Looks M hh (isInstance (.ref x) (.type "BaseException")) true).at ?_)
  repeat (first | wp_step)
  exact hq
theorem cls_callV {tk : Tok} {R : Result → Shared → Prop} (L0 : Looks (model prog w) s.heap (typeOf (.ref x)) (.type "ValueError")) (L1 : Looks (model prog w) s.heap (isSubtype (.type "ValueError") (.type "object")) true) (L3 : Looks (model prog w) s.heap (isSubtype (.type "ValueError") (.type "BaseException")) true)
    (L2 : Looks (model prog w) s.heap (typeLookup (.type "ValueError") "__class__") (some (.builtin "object.__class__"))) (h : R (.ok (.ret (.type "ValueError"))) s) :
    codeAny (model prog w) A (.call (.builtin "BaseException.__getattribute__") ⟨[.ref x, .str "__class__" tk], []⟩) R s :=
  codeAny_call_builtin F.attr_ValueError.ga.plain F.entry_bexc_ga (ga_checkV L0 L3 (cls_entryV L0 L1 L2 h))
theorem cls_attrV {Q : Option Value → Shared → Prop} (L0 : Looks (model prog w) s.heap (typeOf (.ref x)) (.type "ValueError")) (L1 : Looks (model prog w) s.heap (isSubtype (.type "ValueError") (.type "object")) true) (L3 : Looks (model prog w) s.heap (isSubtype (.type "ValueError") (.type "BaseException")) true)
    (L2 : Looks (model prog w) s.heap (typeLookup (.type "ValueError") "__class__") (some (.builtin "object.__class__"))) (L4 : Looks (model prog w) s.heap (typeLookup (.type "ValueError") "__getattribute__") (some (.builtin "BaseException.__getattribute__")))
    (h : Q (some (.type "ValueError")) { s with toks := s.toks + 1 }) : wpAny (model prog w) A (getAttr? (.ref x) "__class__") Q E s := by
  obtain ⟨hh, g, d, t, os⟩ := s
  have f3 := F.attr_ValueError.ga.bind (.ref x)
  unfold getAttr? getAttrBy? getAttrBy
  refine wpAny_bind (wpAny_mkText (wpAny_bind (wpAny_attempt (wpAny_holding (wpAny_bind (L0.at (wpAny_bind (L4.at ?_))))))))
  show wpAny _ _ (getAttrByItsOwn _ _ _ _ _ _) _ _ _
  unfold getAttrByItsOwn hookBefore
  refine wpAny_bind (wpAny_pure ?_)
  refine wpAny_bind (wpAny_attempt (wpAny_holding ?_))
  show wpAny _ _ (boundAndCalled _ _ _) _ _ _
  unfold boundAndCalled
  rw [f3]
  refine wpAny_bind (wpAny_pure ?_)
  refine wpAny_call (cls_callV L0 L1 L3 L2 ?_)
  exact handed_on rfl (wpAny_pure h)
end

/-- the ValueError at x -/
def verrO (x : Addr) : HO := .ext fun h => ∃ o vs, h.get? x = some o ∧ o.cls = .type "ValueError" ∧ o.data = .fields vs
theorem kitx_verr {K : PySem.W.Frag} {x : Addr} : KitX K (.ref x) (.type "ValueError") (fun h => ∃ o, h.get? x = some o ∧ o.cls = .type "ValueError") :=
  kitx_of (fun M h p => by obtain ⟨o, h1, h2⟩ := p; exact looksTyV h1 h2) (fun {_ _ _ _ _ s} p k => by
    obtain ⟨o, h1, h2⟩ := p
    exact cls_attrV (looksTyV h1 h2) (Looks.of_pure (by rw [isSubtype_type]; kernel_rfl)) (Looks.of_pure (by rw [isSubtype_type]; kernel_rfl)) (Looks.of_pure (by rw [typeLookup_type, builtinLookup_eq_fast]; kernel_rfl)) (Looks.of_pure F.attr_ValueError.ga.lookup) k)
/-- the type of a thing, errors among them -/
inductive TyX (K : PySem.W.Frag) (H : Hp) : V → Value → Prop where
  | of {v : V} {t : Value} (h : TyOf K H v t) : TyX K H v t
  | verr {x : Addr} (h : H x = some (verrO x)) : TyX K H (.ref x) (.type "ValueError")
theorem call_isinstX {X : Cx} : CallR X (.builtin "isinstance") (fun xs H Q => ∃ x c t b, xs = [x, .ty c] ∧ TyX X.K H x t ∧ kitOne X.K t (.type c) = some b ∧ Q (.bl b) H) := by
  intro pins s σ H xs us Q I r h
  obtain ⟨x, c, t, b, rfl, ty, e, q⟩ := h
  cases r with
  | cons r rr =>
    cases rr with
    | cons r' rr =>
      cases rr
      cases r'
      cases ty with
      | of ty => exact isinst_ok I r ty e fun tk => ⟨.bl b, H, I.tok tk, rfl, q⟩
      | @verr x hx =>
        cases r
        obtain ⟨⟨o, vs, o1, o2, o3⟩, _⟩ := (show ObjOk X.prog X.w H s.heap x (verrO x) from I.hok x _ hx)
        exact kia_one kitx_verr I.kIn ⟨o, o1, o2⟩ e (fun z => nomatch z) fun tk => ⟨.bl b, H, I.tok tk, rfl, q⟩
end L2

set_option Elab.async false
set_option linter.all false
set_option maxRecDepth 100000
set_option maxHeartbeats 4000000
namespace L2
open PySem PySem.Spec PyProof.Rows
end L2

set_option Elab.async false
set_option linter.all false
set_option maxRecDepth 100000
set_option maxHeartbeats 4000000
namespace L2
open PySem PySem.Spec PyProof.Rows
/-- the first least place of the stretch from b to e -/
abbrev fp (ns : List Int) (b e : Nat) : Nat := b + pl (seg ns (b : Int) (e : Int))
/-- one stretch ahead of another -/
def Ahead (ns : List Int) (b e b0 e0 : Nat) : Prop := vl ns (fp ns b e) < vl ns (fp ns b0 e0) ∨ (vl ns (fp ns b e) = vl ns (fp ns b0 e0) ∧ (b < b0 ∨ (b = b0 ∧ e < e0)))
instance (ns : List Int) (b e b0 e0 : Nat) : Decidable (Ahead ns b e b0 e0) := by unfold Ahead; infer_instance
/-- one place ahead of another -/
def PAhead (ns : List Int) (g f : Nat) : Prop := vl ns g < vl ns f ∨ (vl ns g = vl ns f ∧ g < f)
instance (ns : List Int) (g f : Nat) : Decidable (PAhead ns g f) := by unfold PAhead; infer_instance
end L2

set_option Elab.async false
set_option linter.all false
set_option maxRecDepth 100000
set_option maxHeartbeats 4000000
namespace L2
open PySem PySem.Spec PyProof.Rows
def TAt (H : Hp) (ts : List Addr) (l : List (List Int)) : Prop := ts.length = l.length ∧ ∀ (j : Nat) (t : Addr) (x : List Int), ts[j]? = some t → l[j]? = some x → H t = some (.tup (x.map V.int))
theorem TAt.same {H H' : Hp} {ts : List Addr} {xs : List (List Int)} (h : TAt H ts xs) (s : Same H H') : TAt H' ts xs := ⟨h.1, fun j t x h1 h2 => s _ _ (h.2 j t x h1 h2)⟩
theorem TAt.at {H : Hp} {ts : List Addr} {xs : List (List Int)} {D : Addr} {us ys : List V} (h : TAt H ts xs) (hD : H D = some (.lst us)) : TAt (upd H D (.lst ys)) ts xs := ⟨h.1, fun j t x h1 h2 => by
  have c := h.2 j t x h1 h2
  rw [upd_ne fun z => by rw [z, hD] at c; cases c]
  exact c⟩
def intOf : V → Int
  | .int n => n
  | _ => 0
def keyAt (H : Hp) (t : Addr) : List Int := match H t with
  | some (.tup vs) => vs.map intOf
  | _ => []
theorem keyAt_tup {H : Hp} {t : Addr} {x : List Int} (h : H t = some (.tup (x.map V.int))) : keyAt H t = x := by
  unfold keyAt
  rw [h]
  show (x.map V.int).map intOf = x
  rw [List.map_map]
  exact List.map_id' x
theorem TAt.keys {H : Hp} {ts : List Addr} {l : List (List Int)} (h : TAt H ts l) : ts.map (keyAt H) = l := by
  apply List.ext_getElem?
  intro i
  rw [List.getElem?_map]
  by_cases hi : i < ts.length
  · have hi2 : i < l.length := by rw [← h.1]; exact hi
    rw [List.getElem?_eq_getElem hi, List.getElem?_eq_getElem hi2]
    have := h.2 i _ _ (List.getElem?_eq_getElem hi) (List.getElem?_eq_getElem hi2)
    show some (keyAt H ts[i]) = _
    rw [keyAt_tup this]
  · rw [List.getElem?_eq_none (by omega), List.getElem?_eq_none (by rw [← h.1]; omega)]; rfl
theorem TAt.mem {H : Hp} {ts : List Addr} {l : List (List Int)} (h : TAt H ts l) {t : Addr} (ht : t ∈ ts) : ∃ x ∈ l, H t = some (.tup (x.map V.int)) := by
  obtain ⟨i, hi, rfl⟩ := List.mem_iff_getElem.mp ht
  have hi2 : i < l.length := by rw [← h.1]; exact hi
  exact ⟨l[i], List.getElem_mem hi2, h.2 i _ _ (List.getElem?_eq_getElem hi) (List.getElem?_eq_getElem hi2)⟩
end L2

set_option Elab.async false
set_option linter.all false
set_option maxRecDepth 100000
set_option maxHeartbeats 4000000
namespace L2
open PySem PySem.Spec PyProof.Rows
/-- how many stretches a place holds -/
def held (ps : List (Int × Int)) (f : Nat) : Int := ((f : Int) - (ps.getD f (0, 0)).1 + 1) * ((ps.getD f (0, 0)).2 - f)
end L2

set_option Elab.async false
set_option linter.all false
set_option maxRecDepth 100000
set_option maxHeartbeats 4000000
namespace L2
open PySem PySem.Spec PyProof.Rows
section
variable {X : Cx}
end
theorem TAt.nil (H : Hp) : TAt H [] [] := ⟨rfl, fun j t x h _ => nomatch h⟩
end L2

set_option Elab.async false
set_option linter.all false
set_option maxRecDepth 100000
set_option maxHeartbeats 4000000
namespace L2
open PySem PySem.Spec PyProof.Rows
end L2

set_option Elab.async false
set_option linter.all false
set_option maxRecDepth 100000
set_option maxHeartbeats 4000000
namespace L2
open PySem PySem.Spec PyProof.Rows
end L2

set_option Elab.async false
set_option linter.all false
set_option maxRecDepth 100000
set_option maxHeartbeats 4000000
namespace L2
open PySem PySem.Spec PyProof.Rows
end L2

set_option Elab.async false
set_option linter.all false
set_option maxRecDepth 100000
set_option maxHeartbeats 4000000
namespace L2
open PySem PySem.Spec PyProof.Rows
end L2

set_option Elab.async false
set_option linter.all false
namespace L2
open PySem
end L2

set_option Elab.async false
set_option linter.all false
set_option maxRecDepth 100000
set_option maxHeartbeats 4000000
namespace L2
open PySem PySem.Spec PyProof.Rows PySem.W PySem.Calls
section
variable {X : Cx}
end
end L2

set_option Elab.async false
set_option linter.all false
set_option maxRecDepth 100000
set_option maxHeartbeats 4000000
namespace L2
open PySem PySem.Spec PyProof.Rows
section
variable {M : Model} {A : Around} {E : Value → Shared → Prop}
end
end L2

set_option Elab.async false
set_option linter.all false
set_option maxRecDepth 100000
set_option maxHeartbeats 4000000
namespace L2
open PySem PySem.Spec PyProof.Rows PySem.Calls
section
variable {X : Cx}
end
mutual
inductive Dq (K : PySem.W.Frag) (H : Hp) (W : Addr → Prop) : V → PyData → Prop
  | non : Dq K H W .non .none
  | bl (b : Bool) : Dq K H W (.bl b) (.bool b)
  | int (i : Int) : Dq K H W (.int i) (.int i)
  | str (x : Str) : Dq K H W (.str x) (.str x)
  | lst {a : Addr} {xs : List V} {ds : List PyData} : H a = some (.lst xs) → W a → DqAll K H W xs ds → Dq K H W (.ref a) (.list ds)
  | tup {a : Addr} {xs : List V} {ds : List PyData} : H a = some (.tup xs) → DqAll K H W xs ds → Dq K H W (.ref a) (.tuple ds)
  | emp {a : Addr} : H a = some (.dK []) → Dq K H W (.ref a) (.dict [])
inductive DqAll (K : PySem.W.Frag) (H : Hp) (W : Addr → Prop) : List V → List PyData → Prop
  | nil : DqAll K H W [] []
  | cons {v : V} {vs : List V} {d : PyData} {ds : List PyData} : Dq K H W v d → DqAll K H W vs ds → DqAll K H W (v :: vs) (d :: ds)
end
section
variable {X : Cx} {pins : List (Addr × Obj)} {σ : St} {H : Hp} {s : Shared} {W : Addr → Prop}
mutual
theorem Dq.reads (I : Inv X pins σ H s) (hW : ∀ a, W a → a ≠ sysModules) : ∀ (d : PyData) (v : V) (u : Value), Dq X.K H W v d → RelV v u → ∃ as, Reads s.heap u d as ∧ sysModules ∉ as
  | .none, _, _, h, r => by
    cases h
    cases r
    exact ⟨_, Reads.none, by simp⟩
  | .bool b, _, _, h, r => by
    cases h
    cases r
    exact ⟨_, Reads.bool b, by simp⟩
  | .int i, _, _, h, r => by
    cases h
    obtain ⟨t, rfl⟩ := r
    exact ⟨_, Reads.int i t, by simp⟩
  | .str x, _, _, h, r => by
    cases h
    obtain ⟨t, rfl⟩ := r
    exact ⟨_, Reads.str x t, by simp⟩
  | .list ds, _, _, h, r => by
    cases h with
    | lst hs w ha =>
      cases r
      obtain ⟨its, rv, ⟨o, n, ho, hc, _, hd⟩, _⟩ := I.list (SqL.of hs)
      obtain ⟨as, hr, hn⟩ := Dq.readsAll I hW ds _ its ha rv
      refine ⟨_, Reads.list ho hc hd hr, fun z => ?_⟩
      rcases List.mem_cons.mp z with e | e
      · exact hW _ w e.symm
      · exact hn e
  | .tuple ds, _, _, h, r => by
    cases h with
    | tup hs ha =>
      cases r
      obtain ⟨its, rv, ⟨o, ho, hc, n, hd⟩, _⟩ := I.tuple (SqT.of hs)
      obtain ⟨as, hr, hn⟩ := Dq.readsAll I hW ds _ its ha rv
      exact ⟨_, Reads.tuple ho hc hd hr, hn⟩
  | .dict _, _, _, h, r => by
    cases h with
    | emp hs =>
      cases r
      obtain ⟨_, hne, vs, kv, o, es, ep, ho, hc, hd, _, hp, _⟩ := dk_of I.hok hs
      unfold KV at kv
      cases kv
      have he : es.toList = [] := by
        generalize es.toList = l at hp ⊢
        cases hp
        rfl
      refine ⟨_, Reads.dict (kvs := []) ho hc.1 hd (by rw [he]; exact ReadsAll.nil) (by rw [he]; exact ReadsAll.nil), fun z => ?_⟩
      have e := List.mem_singleton.mp (by simpa using z)
      rw [e] at hne
      simp at hne
theorem Dq.readsAll (I : Inv X pins σ H s) (hW : ∀ a, W a → a ≠ sysModules) : ∀ (ds : List PyData) (vs : List V) (us : List Value), DqAll X.K H W vs ds → Vals vs us → ∃ as, ReadsAll s.heap us ds as ∧ sysModules ∉ as
  | [], _, _, h, r => by
    cases h
    cases r
    exact ⟨_, ReadsAll.nil, by simp⟩
  | d :: ds, _, _, h, r => by
    cases h with
    | cons h1 h2 =>
      cases r with
      | cons r1 r2 =>
        obtain ⟨as, q1, n1⟩ := Dq.reads I hW d _ _ h1 r1
        obtain ⟨bs, q2, n2⟩ := Dq.readsAll I hW ds _ _ h2 r2
        exact ⟨_, ReadsAll.cons q1 q2, fun z => (List.mem_append.mp z).elim n1 n2⟩
end
end
section
variable {X : Cx}
end
end L2

set_option Elab.async false
set_option linter.all false
set_option maxRecDepth 100000
set_option maxHeartbeats 4000000
namespace L2
open PySem PySem.Spec PyProof.Rows
abbrev cc (s : Str) : List Nat := s.cps.toList
/-- the texts behind the first -/
def more (ds : List PyData) : List Nat := ds.flatMap fun d => [44, 32] ++ cc d.shown
end L2

set_option Elab.async false
set_option linter.all false
set_option maxRecDepth 100000
set_option maxHeartbeats 4000000
namespace L2
open PySem PySem.Spec PyProof.Rows PySem.Calls
section
variable {X : Cx}
end
end L2

set_option Elab.async false
set_option linter.all false
set_option maxRecDepth 100000
set_option maxHeartbeats 4000000
namespace L2
open PySem PySem.Spec PyProof.Rows PySem.Calls
section
variable {prog : Program} {w : World} {A : Around} {E : Value → Shared → Prop}
end
end L2

set_option Elab.async false
set_option linter.all false
set_option maxRecDepth 100000
set_option maxHeartbeats 4000000
namespace L2
open PySem PySem.Spec PyProof.Rows PySem.Calls
def keyD : Key → PyData
  | .inl i => .int i
  | .inr x => .str x
mutual
inductive Dd (H : Hp) (W : Addr → Prop) : V → PyData → Prop
  | non : Dd H W .non .none
  | bl (b : Bool) : Dd H W (.bl b) (.bool b)
  | int (i : Int) : Dd H W (.int i) (.int i)
  | str (x : Str) : Dd H W (.str x) (.str x)
  | lst {a : Addr} {xs : List V} {ds : List PyData} : H a = some (.lst xs) → W a → DdAll H W xs ds → Dd H W (.ref a) (.list ds)
  | tup {a : Addr} {xs : List V} {ds : List PyData} : H a = some (.tup xs) → DdAll H W xs ds → Dd H W (.ref a) (.tuple ds)
  | dct {a : Addr} {kvs : List (Key × V)} {kds : List (PyData × PyData)} : H a = some (.dK kvs) → kds.map (·.1) = kvs.map (fun kv => keyD kv.1) → DdAll H W (kvs.map (·.2)) (kds.map (·.2)) → Dd H W (.ref a) (.dict kds)
inductive DdAll (H : Hp) (W : Addr → Prop) : List V → List PyData → Prop
  | nil : DdAll H W [] []
  | cons {v : V} {vs : List V} {d : PyData} {ds : List PyData} : Dd H W v d → DdAll H W vs ds → DdAll H W (v :: vs) (d :: ds)
end
theorem pairs_keys {P : Program} {w : World} (h : Heap) : ∀ {es : List DictEntry} {kvs : List (Key × V)} {vs : List (Key × Value)}, Pairs (mixKind P w) es vs → KV kvs vs → ∃ as, ReadsAll h (es.map (·.key)) (kvs.map fun kv => keyD kv.1) as ∧ sysModules ∉ as
  | _, _, _, .nil, .nil => ⟨_, ReadsAll.nil, by simp⟩
  | _, _, _, .cons (e := e) h1 h2 h3, .cons (a := p) ⟨e1, e2⟩ t => by
    obtain ⟨as, r, hn⟩ := pairs_keys h h3 t
    have h1' : keyIs p.1 e.key = true := by rw [e1]; exact h1
    have key : ∀ {u : Value}, keyIs p.1 u = true → Reads h u (keyD p.1) [] := fun {u} h1' => by
      rcases keyIs_shape h1' with ⟨i, tk, q1, q2⟩ | ⟨x, tk, q1, q2⟩
      · rw [q1, q2]; exact Reads.int i tk
      · rw [q1, q2]; exact Reads.str x tk
    exact ⟨_, ReadsAll.cons (key h1') r, by simpa using hn⟩
theorem pairs_vals {P : Program} {w : World} : ∀ {es : List DictEntry} {kvs : List (Key × V)} {vs : List (Key × Value)}, Pairs (mixKind P w) es vs → KV kvs vs → Vals (kvs.map (·.2)) (es.map (·.val))
  | _, _, _, .nil, .nil => .nil
  | _, _, _, .cons h1 h2 h3, .cons ⟨e1, e2⟩ t => by
    refine .cons ?_ (pairs_vals h3 t)
    show RelV _ _
    dsimp only
    rw [h2]; exact e2
section
variable {X : Cx} {pins : List (Addr × Obj)} {σ : St} {H : Hp} {s : Shared} {W : Addr → Prop}
mutual
theorem Dd.reads (I : Inv X pins σ H s) : ∀ {v : V} {d : PyData}, Dd H W v d → ∀ u, RelV v u → ∃ as, Reads s.heap u d as ∧ ∀ b ∈ as, W b ∨ b ≠ sysModules
  | _, _, .non, _, r => by
    cases r
    exact ⟨_, Reads.none, by simp⟩
  | _, _, .bl b, _, r => by
    cases r
    exact ⟨_, Reads.bool b, by simp⟩
  | _, _, .int i, _, r => by
    obtain ⟨t, rfl⟩ := r
    exact ⟨_, Reads.int i t, by simp⟩
  | _, _, .str x, _, r => by
    obtain ⟨t, rfl⟩ := r
    exact ⟨_, Reads.str x t, by simp⟩
  | _, _, .lst hs w ha, _, r => by
    cases r
    obtain ⟨its, rv, ⟨o, n, ho, hc, _, hd⟩, _⟩ := I.list (SqL.of hs)
    obtain ⟨as, hr, hn⟩ := DdAll.reads I ha its rv
    refine ⟨_, Reads.list ho hc hd hr, fun b z => ?_⟩
    rcases List.mem_cons.mp z with e | e
    · rw [e]; exact .inl w
    · exact hn b e
  | _, _, .tup hs ha, _, r => by
    cases r
    obtain ⟨its, rv, ⟨o, ho, hc, n, hd⟩, _⟩ := I.tuple (SqT.of hs)
    obtain ⟨as, hr, hn⟩ := DdAll.reads I ha its rv
    exact ⟨_, Reads.tuple ho hc hd hr, hn⟩
  | _, _, .dct hs hk ha, _, r => by
    cases r
    obtain ⟨_, hne, vs, kv, o, es, ep, ho, hc, hd, _, hp, _⟩ := dk_of I.hok hs
    obtain ⟨as, r1, n1⟩ := pairs_keys s.heap hp kv
    obtain ⟨bs, r2, n2⟩ := DdAll.reads I ha _ (pairs_vals hp kv)
    rw [← hk] at r1
    refine ⟨_, Reads.dict ho hc.1 hd r1 r2, fun b z => ?_⟩
    rcases List.mem_append.mp z with z | z
    · rcases List.mem_cons.mp z with e | e
      · exact .inr (by rw [e]; exact beq_eq_false_iff_ne.mp hne)
      · exact .inr fun y => n1 (by rw [← y]; exact e)
    · exact n2 b z
theorem DdAll.reads (I : Inv X pins σ H s) : ∀ {vs : List V} {ds : List PyData}, DdAll H W vs ds → ∀ us, Vals vs us → ∃ as, ReadsAll s.heap us ds as ∧ ∀ b ∈ as, W b ∨ b ≠ sysModules
  | _, _, .nil, _, r => by
    cases r
    exact ⟨_, ReadsAll.nil, by simp⟩
  | _, _, .cons h1 h2, _, r => by
    cases r with
    | cons r1 r2 =>
      obtain ⟨as, q1, n1⟩ := Dd.reads I h1 _ r1
      obtain ⟨bs, q2, n2⟩ := DdAll.reads I h2 _ r2
      exact ⟨_, ReadsAll.cons q1 q2, fun b z => (List.mem_append.mp z).elim (n1 b) (n2 b)⟩
end
end
mutual
theorem Dd.mono {H H' : Hp} {W : Addr → Prop} (hl : ∀ a xs, H a = some (.lst xs) → W a → H' a = some (.lst xs)) (ht : ∀ a xs, H a = some (.tup xs) → H' a = some (.tup xs)) (hd : ∀ a kvs, H a = some (.dK kvs) → H' a = some (.dK kvs)) : ∀ {v : V} {d : PyData}, Dd H W v d → Dd H' W v d
  | _, _, .non => .non
  | _, _, .bl b => .bl b
  | _, _, .int i => .int i
  | _, _, .str x => .str x
  | _, _, .lst c w ha => .lst (hl _ _ c w) w (DdAll.mono hl ht hd ha)
  | _, _, .tup c ha => .tup (ht _ _ c) (DdAll.mono hl ht hd ha)
  | _, _, .dct c hk ha => .dct (hd _ _ c) hk (DdAll.mono hl ht hd ha)
theorem DdAll.mono {H H' : Hp} {W : Addr → Prop} (hl : ∀ a xs, H a = some (.lst xs) → W a → H' a = some (.lst xs)) (ht : ∀ a xs, H a = some (.tup xs) → H' a = some (.tup xs)) (hd : ∀ a kvs, H a = some (.dK kvs) → H' a = some (.dK kvs)) : ∀ {vs : List V} {ds : List PyData}, DdAll H W vs ds → DdAll H' W vs ds
  | _, _, .nil => .nil
  | _, _, .cons h1 h2 => .cons (Dd.mono hl ht hd h1) (DdAll.mono hl ht hd h2)
end
theorem Dd.same {H H' : Hp} {W : Addr → Prop} {v : V} {d : PyData} (h : Dd H W v d) (s : Same H H') : Dd H' W v d := h.mono (fun a xs c _ => s _ _ c) (fun a xs c => s _ _ c) (fun a kvs c => s _ _ c)
theorem DdAll.same {H H' : Hp} {W : Addr → Prop} {vs : List V} {ds : List PyData} (h : DdAll H W vs ds) (s : Same H H') : DdAll H' W vs ds := h.mono (fun a xs c _ => s _ _ c) (fun a xs c => s _ _ c) (fun a kvs c => s _ _ c)
theorem DdAll.app {H : Hp} {W : Addr → Prop} {ws : List V} {es : List PyData} (h : DdAll H W ws es) : ∀ {vs : List V} {ds : List PyData}, DdAll H W vs ds → DdAll H W (vs ++ ws) (ds ++ es)
  | _, _, .nil => h
  | _, _, .cons h1 h2 => .cons h1 (h.app h2)
theorem DdAll.take {H : Hp} {W : Addr → Prop} : ∀ {vs : List V} {ds : List PyData} (n : Nat), DdAll H W vs ds → DdAll H W (vs.take n) (ds.take n)
  | _, _, 0, _ => by rw [List.take_zero, List.take_zero]; exact .nil
  | _, _, _ + 1, .nil => .nil
  | _, _, n + 1, .cons h1 h2 => .cons h1 (h2.take n)
theorem DdAll.drop {H : Hp} {W : Addr → Prop} : ∀ {vs : List V} {ds : List PyData} (n : Nat), DdAll H W vs ds → DdAll H W (vs.drop n) (ds.drop n)
  | _, _, 0, h => h
  | _, _, _ + 1, .nil => .nil
  | _, _, n + 1, .cons h1 h2 => h2.drop n
theorem DdAll.len {H : Hp} {W : Addr → Prop} : ∀ {vs : List V} {ds : List PyData}, DdAll H W vs ds → ds.length = vs.length
  | _, _, .nil => rfl
  | _, _, .cons h1 h2 => by rw [List.length_cons, List.length_cons, h2.len]
theorem DdAll.mem {H : Hp} {W : Addr → Prop} : ∀ {vs : List V} {ds : List PyData}, DdAll H W vs ds → ∀ v ∈ vs, ∃ d ∈ ds, Dd H W v d
  | _, _, .nil, v, hv => nomatch hv
  | _, _, .cons h1 h2, v, hv => by
    rcases List.mem_cons.mp hv with e | e
    · rw [e]; exact ⟨_, List.mem_cons_self, h1⟩
    · obtain ⟨d, m, q⟩ := h2.mem v e
      exact ⟨d, List.mem_cons_of_mem _ m, q⟩
theorem DdAll.ints {H : Hp} {W : Addr → Prop} : ∀ ns : List Int, DdAll H W (ns.map V.int) (ns.map PyData.int)
  | [] => .nil
  | n :: r => .cons (.int n) (DdAll.ints r)
section
variable {X : Cx}
end
structure Fit (m n : Nat) (d : PyData) : Prop where
  sh : d.showable = true
  le : d.leavesShort 60 = true
  bk : d.bulk ≤ m
  dp : d.depth ≤ n
structure FitL (m n : Nat) (ds : List PyData) : Prop where
  sh : PyData.showableAll ds = true
  le : PyData.leavesShortAll 60 ds = true
  bk : PyData.bulkAll ds ≤ m
  dp : PyData.depthAll ds ≤ n
theorem Fit.up {m n m' n' : Nat} {d : PyData} (h : Fit m n d) (h1 : m ≤ m') (h2 : n ≤ n') : Fit m' n' d := ⟨h.sh, h.le, Nat.le_trans h.bk h1, Nat.le_trans h.dp h2⟩
theorem FitL.up {m n m' n' : Nat} {d : List PyData} (h : FitL m n d) (h1 : m ≤ m') (h2 : n ≤ n') : FitL m' n' d := ⟨h.sh, h.le, Nat.le_trans h.bk h1, Nat.le_trans h.dp h2⟩
theorem FitL.nil : FitL 0 0 [] := ⟨by decide, by decide, by decide, by decide⟩
theorem FitL.cons {m m' n : Nat} {d : PyData} {ds : List PyData} (h : Fit m n d) (k : FitL m' n ds) : FitL (m + 1 + m') n (d :: ds) := by
  refine ⟨?_, ?_, ?_, ?_⟩
  · simp only [PyData.showableAll, h.sh, k.sh, Bool.and_self]
  · simp only [PyData.leavesShortAll, h.le, k.le, Bool.and_self]
  · have := h.bk; have := k.bk
    simp only [PyData.bulkAll]; omega
  · have := h.dp; have := k.dp
    simp only [PyData.depthAll]; omega
theorem FitL.uncons {m n : Nat} {d : PyData} {ds : List PyData} (k : FitL m n (d :: ds)) : Fit d.bulk n d ∧ FitL (PyData.bulkAll ds) n ds ∧ d.bulk + 1 + PyData.bulkAll ds ≤ m := by
  obtain ⟨h1, h2, h3, h4⟩ := k
  simp only [PyData.showableAll, Bool.and_eq_true] at h1
  simp only [PyData.leavesShortAll, Bool.and_eq_true] at h2
  simp only [PyData.bulkAll] at h3
  simp only [PyData.depthAll] at h4
  exact ⟨⟨h1.1, h2.1, Nat.le_refl _, by omega⟩, ⟨h1.2, h2.2, Nat.le_refl _, by omega⟩, h3⟩
theorem FitL.app {m' n : Nat} {es : List PyData} (k : FitL m' n es) : ∀ {m : Nat} {ds : List PyData}, FitL m n ds → FitL (m + m') n (ds ++ es)
  | m, [], h => k.up (by omega) (Nat.le_refl _)
  | m, d :: r, h => by
    obtain ⟨h1, h2, h3⟩ := h.uncons
    exact (FitL.cons h1 (k.app h2)).up (by omega) (Nat.le_refl _)
theorem FitL.take {n : Nat} : ∀ {m : Nat} {ds : List PyData} (j : Nat), FitL m n ds → FitL m n (ds.take j)
  | m, _, 0, h => by rw [List.take_zero]; exact FitL.nil.up (Nat.zero_le _) (Nat.zero_le _)
  | m, [], _ + 1, h => h
  | m, d :: r, j + 1, h => by
    obtain ⟨h1, h2, h3⟩ := h.uncons
    exact (FitL.cons h1 (h2.take j)).up h3 (Nat.le_refl _)
theorem FitL.drop {n : Nat} : ∀ {m : Nat} {ds : List PyData} (j : Nat), FitL m n ds → FitL m n (ds.drop j)
  | m, _, 0, h => h
  | m, [], _ + 1, h => h
  | m, d :: r, j + 1, h => by
    obtain ⟨h1, h2, h3⟩ := h.uncons
    exact (h2.drop j).up (by omega) (Nat.le_refl _)
theorem FitL.list {m n : Nat} {ds : List PyData} (h : FitL m n ds) : Fit m (n + 1) (.list ds) := ⟨by simpa only [PyData.showable] using h.sh, by simpa only [PyData.leavesShort] using h.le, by simpa only [PyData.bulk] using h.bk, by have := h.dp; simp only [PyData.depth]; omega⟩
theorem FitL.tuple {m n : Nat} {ds : List PyData} (h : FitL m n ds) : Fit m (n + 1) (.tuple ds) := ⟨by simpa only [PyData.showable] using h.sh, by simpa only [PyData.leavesShort] using h.le, by simpa only [PyData.bulk] using h.bk, by have := h.dp; simp only [PyData.depth]; omega⟩
theorem Fit.text {m n : Nat} {d : PyData} (h : Fit m n d) (hm : m ≤ 200000) : d.shown.length ≤ sizeLine := by
  have h1 := PyData.shown_le_bulk 60 (by decide) d h.le
  have h2 := h.bk
  rw [sizeLine_eq]
  have : (60 + 2) * d.bulk ≤ 62 * 200000 := Nat.mul_le_mul (by decide) (by omega)
  omega
theorem fit_int {i : Int} (h : i.natAbs < 10 ^ 45) : Fit 0 0 (.int i) := by
  have h1 : i.natAbs.log2 < 1920 := by
    by_cases h0 : i.natAbs = 0
    · rw [h0]; decide
    · have := (Nat.log2_lt h0).mpr (show i.natAbs < 2 ^ 150 from Nat.lt_of_lt_of_le h (by decide))
      omega
  refine ⟨by simp only [PyData.showable]; exact decide_eq_true h1, ?_, by simp only [PyData.bulk]; decide, by simp only [PyData.depth]; decide⟩
  simp only [PyData.leavesShort]
  refine decide_eq_true ?_
  have := int_text_length_le10 (a := i) (k := 45) (by decide) h
  simp only [PyData.shown]
  rw [PySem.ofString_length]
  omega
end L2

set_option Elab.async false
set_option linter.all false
set_option maxRecDepth 100000
set_option maxHeartbeats 4000000
namespace L2
open PySem PySem.Spec PyProof.Rows PySem.Calls
section
variable {X : Cx}
end
end L2

set_option Elab.async false
set_option linter.all false
set_option maxRecDepth 100000
set_option maxHeartbeats 4000000
namespace L2
open PySem PySem.Spec PyProof.Rows PySem.Calls
end L2

set_option Elab.async false
set_option linter.all false
set_option maxRecDepth 100000
set_option maxHeartbeats 4000000
namespace L2
open PySem PySem.Spec PyProof.Rows PySem.Calls
section
variable {X : Cx}
end
section
variable {prog : Program} {w : World} {A : Around} {E : Value → Shared → Prop} {s : Shared}
end
section
variable {X : Cx}
end
end L2

set_option Elab.async false
set_option linter.all false
set_option maxRecDepth 100000
set_option maxHeartbeats 4000000
namespace L2
open PySem PySem.Spec PyProof.Rows
theorem FitL.mem {m n : Nat} {ds : List PyData} (h : FitL m n ds) : ∀ d ∈ ds, Fit m n d := by
  induction ds generalizing m with
  | nil => intro d hd; cases hd
  | cons x r ih =>
    obtain ⟨h1, h2, h3⟩ := h.uncons
    intro d hd
    rcases List.mem_cons.mp hd with e | e
    · rw [e]; exact h1.up (by omega) (Nat.le_refl _)
    · exact (ih h2 d e).up (by omega) (Nat.le_refl _)
theorem FitL.one {m n : Nat} {d : PyData} (h : Fit m n d) : FitL (m + 1) n [d] := (FitL.cons h (FitL.nil.up (Nat.zero_le 0) (Nat.zero_le n))).up (by omega) (Nat.le_refl _)
theorem FitL.ints : ∀ {ns : List Int}, (∀ n ∈ ns, n.natAbs < 10 ^ 45) → FitL ns.length 0 (ns.map PyData.int)
  | [], _ => FitL.nil
  | n :: r, h => (FitL.cons (fit_int (h n List.mem_cons_self)) (FitL.ints fun x hx => h x (List.mem_cons_of_mem _ hx))).up (by rw [List.length_cons]; omega) (Nat.le_refl _)
theorem DdAll.rep {H : Hp} {W : Addr → Prop} {v : V} {d : PyData} (h : Dd H W v d) : ∀ k : Nat, DdAll H W (List.replicate k v) (List.replicate k d)
  | 0 => .nil
  | k + 1 => .cons h (DdAll.rep h k)
theorem DdAll.get {H : Hp} {W : Addr → Prop} : ∀ {vs : List V} {ds : List PyData}, DdAll H W vs ds → ∀ {i : Nat} {v : V}, vs[i]? = some v → ∃ d, ds[i]? = some d ∧ Dd H W v d
  | _, _, .nil, i, v, h => by simp at h
  | _, _, .cons h1 h2, 0, v, h => by obtain rfl := Option.some.inj h; exact ⟨_, rfl, h1⟩
  | _, _, .cons h1 h2, i + 1, v, h => DdAll.get h2 h
open PySem.Calls
end L2

set_option Elab.async false
set_option linter.all false
set_option maxRecDepth 100000
set_option maxHeartbeats 4000000
namespace L2
open PySem PySem.Spec PyProof.Rows PySem.Calls
section
variable {X : Cx}
end
end L2

set_option Elab.async false
set_option linter.all false
set_option maxRecDepth 100000
set_option maxHeartbeats 4000000
namespace L2
open PySem PySem.Spec PyProof.Rows PySem.Calls
section
open PySem.SeqAt
open PySem.AutoSeq1 (wpAny_loadPart')
open PySem.MeetsSeq PySem.MeetsSeq2 PySem.MeetsSeq3
end
section
variable {X : Cx}
end
end L2

set_option Elab.async false
set_option linter.all false
set_option maxRecDepth 100000
set_option maxHeartbeats 4000000
namespace L2
open PySem PySem.Spec PyProof.Rows

section
variable {X : Cx} {pins : List (Addr × Obj)} {σ : St} {H : Hp} {s : Shared}
end

/-- the texts of numbers -/
abbrev txtOf (n : Int) : Str := Str.ofString (toString n)
section
variable {X : Cx}
theorem mt_isascii : MtR X "str.isascii" (fun x xs H Q => ∃ a, x = .str a ∧ xs = [] ∧ True ∧ Q (.bl (Txt.isascii a)) H) :=
  mt0 (C := fun _ => True) (g := fun a => .bl (Txt.isascii a)) fun _ _ s _ _ h => PySem.SC.isascii (h _ s.toks rfl)
theorem mt_removeprefix : MtR X "str.removeprefix" (fun x xs H Q => ∃ a b, x = .str a ∧ xs = [.str b] ∧ a.length ≤ sizeLine ∧ Q (.str (Txt.removeprefix a b)) H) := by
  intro pins s σ H x xs v us Q I rx rs h
  obtain ⟨a, b, rfl, rfl, hz, h⟩ := h
  obtain ⟨t, rfl⟩ := rx
  cases rs with
  | cons r1 rs =>
    cases rs
    obtain ⟨u, rfl⟩ := r1
    exact PySem.SC.removeprefix (fun t' k => ⟨.str _, H, I.tok k, ⟨t', rfl⟩, h⟩) hz
/-- text * number -/
theorem op_rep_str : OpR X (binaryOp .Mult) (fun x y H Q => ∃ (a : Str) (n : Int), x = .str a ∧ y = .int n ∧ MulOk a n ∧ Q (.str (Txt.mul a n)) H) := by
  intro pins s σ H x y v u Q I rx ry h
  obtain ⟨a, n, rfl, rfl, hok, h⟩ := h
  obtain ⟨t, rfl⟩ := rx
  obtain ⟨t', rfl⟩ := ry
  exact PySem.SB.mul hok fun t' k => ⟨.str _, H, I.tok k, ⟨t', rfl⟩, h⟩
end
/-- a constant of a module -/
def Kst (mg : Str → Option Value) (x : Str) (v : V) : Prop := ∃ u, mg x = some u ∧ RelV v u
theorem kst_mk {K : PySem.W.Frag} {mg : Str → Option Value} {h : Heap} (X : K.In h) (G : h.Ns mainGlobals mg) {x : Str} {u : Value} {v : V} (n : PySem.W.nsIn K mainGlobals x = some (some u)) (r : RelV v u) : Kst mg x v := ⟨u, PySem.W.mg_of X G n, r⟩
theorem pe_kst {X : Cx} {x : Str} {v : V} {pos : Pos} (hg : Gl X x) (k : Kst X.mg x v) (hd : (x == ("__debug__" : Str)) = false := by decide) : PE X (.Name x pos) (tC v) := by
  obtain ⟨u, h, r⟩ := k
  exact pe_glob hg h r hd
/-- // by a positive number below 2 ^ 62 -/
def CDivW (_ j : Int) : Prop := 0 < j ∧ j < 4611686018427387904
theorem op_fdivW {X : Cx} : OpR X (binaryOp .FloorDiv) (rI CDivW fun i j => .int (i / j)) := opI fun i j _ _ _ _ _ hc q => by
  have h1 : (0 : Int) < j := hc.1
  have h2 : j < 4611686018427387904 := hc.2
  refine floordiv_int (by omega) (by rw [Int.fdiv_eq_ediv_of_nonneg i (by omega)]; exact q) (.inl (PyProof.noPylong_of_log2 ?_))
  have h62 : j.natAbs.log2 < 62 := (Nat.log2_lt (by omega)).mpr (by omega)
  omega
end L2

set_option Elab.async false
set_option linter.all false
set_option maxRecDepth 100000
set_option maxHeartbeats 4000000
namespace L2
open PySem PySem.Spec PyProof.Rows PySem.NumText PySem.W.KIN PySem.StrLaws PySem.Builtin.Str
abbrev sg (x : Str) : List Nat := x.cps.toList
theorem str_ext {a b : Str} (h : sg a = sg b) : a = b := Str.ext' (Array.toList_inj.mp h)
theorem len_sg (x : Str) : (sg x).length = x.length := by simp [Str.length, sg]
theorem dig128 : ∀ c, c < 128 → Unicode.isDigit c = decide (48 ≤ c ∧ c ≤ 57) := by decide +kernel
theorem digs_iff (x : Str) : (Txt.isascii x = true ∧ Txt.isdigit x = true) ↔ (AllDigits (sg x) ∧ sg x ≠ []) := by
  have a1 : ∀ p : Nat → Bool, x.cps.all p = (sg x).all p := fun p => by rw [Array.all_toList]
  unfold Txt.isascii Txt.isdigit
  rw [a1, a1, ← len_sg x]
  generalize sg x = L
  rw [List.all_eq_true, Bool.and_eq_true, List.all_eq_true, decide_eq_true_iff]
  constructor
  · rintro ⟨h1, h2, h3⟩
    refine ⟨fun c hc => ?_, fun e => by rw [e] at h2; exact absurd h2 (by decide)⟩
    have l := h1 c hc
    have d := h3 c hc
    have l : c < 128 := by simpa using l
    rw [dig128 c l] at d
    exact of_decide_eq_true d
  · rintro ⟨h1, h2⟩
    refine ⟨fun c hc => ?_, List.length_pos_iff.mpr h2, fun c hc => ?_⟩
    · have := h1 c hc
      simp; omega
    · have := h1 c hc
      rw [dig128 c (by omega)]; exact decide_eq_true this
def figsOf (w : Str) : Str := Txt.removeprefix w "-"
theorem figs_minus {w : Str} {cs : List Nat} (h : sg w = 45 :: cs) : sg (figsOf w) = cs := by
  have e1 : subAt w "-" 0 = true := by
    rw [subAt_eq]
    show ((List.drop 0 (sg w)).take 1 == [45]) = true
    rw [h]; rfl
  unfold figsOf Txt.removeprefix
  rw [e1]
  have hl := len_sg w
  rw [h] at hl
  show sg (if w.length - (1 : Nat) == w.length then w else strSub w 1 w.length) = cs
  rw [if_neg (by rw [← hl]; simp)]
  show (strSub w 1 w.length).cps.toList = cs
  rw [strSub_toList]
  show (List.drop 1 (sg w)).take _ = cs
  rw [h, ← hl]
  simp
theorem figs_else {w : Str} (h : ∀ cs, sg w ≠ 45 :: cs) : figsOf w = w := by
  have e1 : subAt w "-" 0 = false := by
    cases e : subAt w "-" 0 with
    | false => rfl
    | true =>
      rw [subAt_eq] at e
      have e : ((List.drop 0 (sg w)).take 1 == [45]) = true := e
      cases hw : sg w with
      | nil => rw [hw] at e; cases e
      | cons c cs =>
        rw [hw] at e
        have : c = 45 := by simpa using e
        exact absurd (by rw [hw, this]) (h cs)
  unfold figsOf Txt.removeprefix
  rw [e1]
  rfl
theorem figs_len (w : Str) : (figsOf w).length ≤ w.length ∧ w.length ≤ (figsOf w).length + 1 := by
  by_cases h : ∃ cs, sg w = 45 :: cs
  · obtain ⟨cs, h⟩ := h
    have h1 := figs_minus h
    have h2 := len_sg w
    have h3 := len_sg (figsOf w)
    rw [h1] at h3
    rw [h] at h2
    simp at h2
    omega
  · rw [figs_else fun cs e => h ⟨cs, e⟩]; omega
theorem starts0 (w : Str) : Txt.startswith w "0" = true ↔ ∃ cs, sg w = 48 :: cs := by
  unfold Txt.startswith
  rw [Bool.and_eq_true, subAt_eq]
  show (decide (0 + 1 ≤ w.length) = true ∧ ((List.drop 0 (sg w)).take 1 == [48]) = true) ↔ _
  rw [← len_sg w]
  cases sg w with
  | nil => simp
  | cons c cs => simp
/-- what is_number tells -/
def isNum (w : Str) : Bool := Txt.isascii (figsOf w) && Txt.isdigit (figsOf w) && decide ((figsOf w).length ≤ 13) && (decide (w = "0") || !Txt.startswith (figsOf w) "0")
/-- the number that a word is, if it is one -/
def numOf (w : Str) : Int := match sg w with
  | 45 :: cs => -((digitsVal cs : Nat) : Int)
  | _ => ((digitsVal (sg w) : Nat) : Int)
theorem isNum_iff (w : Str) : isNum w = true ↔ (AllDigits (sg (figsOf w)) ∧ sg (figsOf w) ≠ []) ∧ (figsOf w).length ≤ 13 ∧ (w = "0" ∨ ¬ ∃ cs, sg (figsOf w) = 48 :: cs) := by
  unfold isNum
  rw [Bool.and_eq_true, Bool.and_eq_true, Bool.and_eq_true, Bool.or_eq_true, decide_eq_true_iff, decide_eq_true_iff, ← starts0, ← digs_iff]
  simp only [Bool.not_eq_true', Bool.not_eq_true, and_assoc]
theorem isNum_reads {w : Str} (h : isNum w = true) : intText? w = some (numOf w) ∧ w.length ≤ 14 := by
  obtain ⟨⟨h1, h2⟩, h3, _⟩ := (isNum_iff w).mp h
  have hl := figs_len w
  refine ⟨?_, by omega⟩
  unfold numOf
  split
  · rename_i cs e
    rw [figs_minus e] at h1 h2
    exact intText_neg e h1 h2 (by omega)
  · rename_i hn
    rw [figs_else fun cs e => hn cs e] at h1 h2
    exact intText_digits h1 h2 (by omega)

abbrev dgs (m : Nat) : List Nat := (Nat.toDigits 10 m).map Char.toNat
theorem sg_nat (m : Nat) : sg (txtOf (m : Int)) = dgs m := signs_num m
theorem sg_neg (k : Nat) : sg (txtOf (Int.negSucc k)) = 45 :: dgs (k + 1) := by
  show (Str.ofString (toString (Int.negSucc k))).cps.toList = _
  rw [signs_ofString]
  show ("-" ++ Nat.repr (k + 1)).toList.map Char.toNat = _
  rw [String.toList_append, List.map_append, Nat.toList_repr]
  rfl
theorem dgs_len {m k : Nat} (hk : 1 ≤ k) (h : m < 10 ^ k) : (dgs m).length ≤ k := by
  unfold dgs
  rw [List.length_map]
  exact toDigits_len_pow (by decide) hk h
theorem txtOf_len {n : Int} {k : Nat} (hk : 1 ≤ k) (h : n.natAbs < 10 ^ k) : (txtOf n).length ≤ k + 1 := by
  rw [← len_sg]
  cases n with
  | ofNat m =>
    rw [show Int.ofNat m = (m : Int) from rfl, sg_nat]
    have := dgs_len (m := m) hk h
    omega
  | negSucc m =>
    rw [sg_neg]
    have := dgs_len (m := m + 1) hk h
    simp only [List.length_cons]
    omega
theorem sum_le (f : Str → Nat) (b : Nat) : ∀ ts : List Str, (∀ t ∈ ts, f t ≤ b) → (ts.map f).sum ≤ ts.length * b
  | [], _ => by simp
  | t :: ts, h => by
    have h1 := h t List.mem_cons_self
    have h2 := sum_le f b ts fun z hz => h z (List.mem_cons_of_mem _ hz)
    simp only [List.map_cons, List.sum_cons, List.length_cons]
    rw [Nat.succ_mul]; omega
theorem join_len {ts : List Str} {b : Nat} (h : ∀ t ∈ ts, t.length ≤ b) : (Txt.join " " ts).length ≤ ts.length * (b + 1) := by
  have h1 := join_length_le " " ts
  have h2 := sum_le (·.length) b ts h
  show (glued " " ts).length ≤ _
  rw [glued_eq_join, Nat.mul_add]
  have h3 : ts.length * (" " : Str).length = ts.length * 1 := rfl
  omega
theorem natAbs_log {n : Int} {k : Nat} (h : n.natAbs < 2 ^ k) (hk : k < 1920) : n.natAbs.log2 < 1920 := by
  rcases Nat.eq_zero_or_pos n.natAbs with z | z
  · rw [z]; decide
  · have := (Nat.log2_lt (by omega)).mpr h
    omega
end L2

set_option Elab.async false
set_option linter.all false
set_option maxRecDepth 100000
set_option maxHeartbeats 4000000
namespace L2
open PySem PySem.Spec PyProof.Rows
/-- [f(x) for x in xs]: a list of anything, by parts that may make things -/
theorem lc_mapV {α : Type} {K : PySem.W.Frag} {a : Addr} {xs : List α} {inj : α → V} {out : α → V} {te : TE} {i : Nat} {vs : List Nat} {σ : St} {H : Hp} {D : Addr} {Qd : Hp → Prop} (hs : SqL K H a (xs.map inj)) (hD : H D = none) (hlen : xs.length ≤ 1000000)
    (hw : ∀ v, wipe ((wipe σ vs).set i (some v)) vs = wipe σ vs)
    (ht : ∀ (x : α) (H' : Hp) (R : VK), x ∈ xs → Same H H' → (∀ H'', Same H' H'' → R (out x) H'') → te ((wipe σ vs).set i (some (inj x))) H' R)
    (hd : ∀ H', H' D = some (.lst (xs.map out)) → Same H H' → Qd H') :
    ∃ W : Nat → Nat → Hp → Prop, (∃ m, W 0 m (upd H D (.lst []))) ∧ ∀ j m H, W j m H →
      ((Itl K a).stop j H ∧ Qd H) ∨ ((Itl K a).go j H ∧ ∃ Nx : Hp → Prop, (∀ H', Nx H' → ∃ m', m' < m ∧ W (j + 1) m' H') ∧ ∀ x H', (Itl K a).yld j H x H' → gName i x (wipe σ vs) H' fun σ2 H2 => wipe σ2 vs = wipe σ vs ∧ tYes σ2 H2 fun b H3 =>
        if b = true then te σ2 H3 fun y H4 => ∃ acc, H4 D = some (.lst acc) ∧ acc.length < sizeLine ∧ Nx (upd H4 D (.lst (acc ++ [y]))) else Nx H3) := by
  refine lc_list (K := K) (a := a) (xs := xs.map inj) (fun k H' => H' D = some (.lst ((xs.take k).map out)) ∧ Same H H') ⟨upd_same, Same.new hD⟩ (fun k H' _ e => e.2.seq hs) ?_ ?_
  · rintro k v H' hx ⟨c, s⟩
    rw [List.getElem?_map] at hx
    cases hk : xs[k]? with
    | none => rw [hk] at hx; cases hx
    | some x =>
      rw [hk] at hx
      obtain rfl : inj x = v := by simpa using hx
      refine ⟨hw _, ?_⟩
      show te ((wipe σ vs).set i (some (inj x))) _ _
      refine ht x _ _ (List.mem_of_getElem? hk) s fun H'' s'' => ⟨_, s'' _ _ c, ?_, ?_, (s.trans s'').at hD⟩
      · rw [List.length_map]
        have := List.length_take_le' k xs
        have e : sizeLine = 16777216 := sizeLine_eq
        omega
      · rw [upd_same, take_snoc hk, List.map_append]; rfl
  · rintro H' ⟨c, s⟩
    rw [List.length_map, List.take_length] at c
    exact hd H' c s
/-- [f(c) for c in text] -/
theorem lc_signs {x : Str} {out : Nat → V} {te : TE} {i : Nat} {vs : List Nat} {σ : St} {H : Hp} {D : Addr} {Qd : Hp → Prop} (hD : H D = none) (hlen : x.length ≤ 1000000)
    (hw : ∀ v, wipe ((wipe σ vs).set i (some v)) vs = wipe σ vs)
    (ht : ∀ (c : Nat) (H' : Hp) (R : VK), c ∈ sg x → Same H H' → (∀ H'', Same H' H'' → R (out c) H'') → te ((wipe σ vs).set i (some (.str ⟨#[c]⟩))) H' R)
    (hd : ∀ H', H' D = some (.lst ((sg x).map out)) → Same H H' → Qd H') :
    ∃ W : Nat → Nat → Hp → Prop, (∃ m, W 0 m (upd H D (.lst []))) ∧ ∀ j m H, W j m H →
      ((Its x).stop j H ∧ Qd H) ∨ ((Its x).go j H ∧ ∃ Nx : Hp → Prop, (∀ H', Nx H' → ∃ m', m' < m ∧ W (j + 1) m' H') ∧ ∀ v H', (Its x).yld j H v H' → gName i v (wipe σ vs) H' fun σ2 H2 => wipe σ2 vs = wipe σ vs ∧ tYes σ2 H2 fun b H3 =>
        if b = true then te σ2 H3 fun y H4 => ∃ acc, H4 D = some (.lst acc) ∧ acc.length < sizeLine ∧ Nx (upd H4 D (.lst (acc ++ [y]))) else Nx H3) := by
  have hsz : (sg x).length = x.cps.size := by simp [sg]
  have hl2 := len_sg x
  refine ⟨fun j m H' => m = x.length - j ∧ j ≤ x.length ∧ H' D = some (.lst (((sg x).take j).map out)) ∧ Same H H', ⟨_, rfl, Nat.zero_le _, upd_same, Same.new hD⟩, ?_⟩
  rintro j m H3 ⟨rfl, hj, c3, s3⟩
  by_cases hlt : j < x.length
  · have hlt' : j < (sg x).length := by omega
    refine .inr ⟨by show j < x.cps.size; omega, fun H' => H' D = some (.lst (((sg x).take (j + 1)).map out)) ∧ Same H H', fun H' ⟨a1, a2⟩ => ⟨x.length - (j + 1), by omega, rfl, hlt, a1, a2⟩, fun v H' y => ?_⟩
    obtain ⟨rfl, c, hc, rfl⟩ := y
    have hc' : (sg x)[j]? = some c := by rw [← hc]; simp [sg]
    refine ⟨hw _, ?_⟩
    show te ((wipe σ vs).set i (some (.str ⟨#[c]⟩))) _ _
    refine ht c _ _ (List.mem_of_getElem? hc') s3 fun H'' s'' => ⟨_, s'' _ _ c3, ?_, ?_, (s3.trans s'').at hD⟩
    · rw [List.length_map]
      have := List.length_take_le' j (sg x)
      have e : sizeLine = 16777216 := sizeLine_eq
      omega
    · rw [upd_same, take_snoc hc', List.map_append]; rfl
  · have e : j = x.length := by omega
    subst e
    refine .inl ⟨by show x.cps.size ≤ x.length; omega, ?_⟩
    rw [← hl2, List.take_length] at c3
    exact hd H3 c3 s3
/-- all(..) over a list of texts -/
theorem all_strs {K : PySem.W.Frag} {q : Addr} {ms : List Str} {H1 : Hp} {g : TG} {tt : TT} {te : TE} {k : Nat} {vs : List Nat} {σ : St} {Q : VK} (p : Str → Bool) (cq : H1 q = some (.lst (ms.map V.str)))
    (step : ∀ (n : Str) (H' : Hp) (Nx F : Hp → Prop), n ∈ ms → Same H1 H' → (p n = true → ∀ H'', Same H1 H'' → Nx H'') → (p n = false → ∀ H'', Same H1 H'' → F H'') → g (.str n) (σ ++ List.replicate k none) H' fun σ2 H2 => wipe σ2 vs = σ ++ List.replicate k none ∧ tt σ2 H2 fun b H3 =>
      if b = true then te σ2 H3 fun v H4 => ∃ b', v = .bl b' ∧ (b' = true → Nx H4) ∧ (b' = false → F H4) else Nx H3)
    (fin : ∀ H', Same H1 H' → Q (.bl (ms.all p)) H') : AllG (Itl K q) g tt te k vs σ H1 Q := by
  refine ⟨fun i m H' => m = ms.length - i ∧ i ≤ ms.length ∧ Same H1 H' ∧ ∀ n ∈ ms.take i, p n = true, fun H2 s2 _ => ⟨_, rfl, Nat.zero_le _, s2, fun n hn => by simp at hn⟩, ?_⟩
  rintro i m H3 ⟨rfl, hi, s3, hp⟩
  have c3 := s3 _ _ cq
  by_cases hlt : i < ms.length
  · have e0 : (ms.map V.str)[i]? = some (.str ms[i]) := by rw [List.getElem?_map, List.getElem?_eq_getElem hlt]; rfl
    refine .inr ⟨⟨_, .str ms[i], SqL.of c3, e0⟩, fun H' => Same H1 H' ∧ p ms[i] = true, fun H' ⟨a1, a2⟩ => ⟨ms.length - (i + 1), by omega, rfl, hlt, a1, all_snoc hlt hp a2⟩, fun x H' y => ?_⟩
    obtain ⟨rfl, hx⟩ := y
    have := hx _ (SqL.of c3)
    rw [e0] at this
    obtain rfl : V.str ms[i] = x := Option.some.inj this
    refine step _ _ _ _ (List.getElem_mem hlt) s3 (fun z H'' s'' => ⟨s'', z⟩) (fun z H'' s'' => ?_)
    have e : ms.all p = false := by
      rw [List.all_eq_false]
      exact ⟨ms[i], List.getElem_mem hlt, by rw [z]; decide⟩
    have := fin H'' s''
    rw [e] at this
    exact this
  · have e : i = ms.length := by omega
    subst e
    refine .inl ⟨⟨_, SqL.of c3, by rw [List.length_map]; exact Nat.le_refl _⟩, ?_⟩
    have e : ms.all p = true := by
      rw [List.all_eq_true]
      rw [List.take_length] at hp
      exact hp
    have := fin H3 s3
    rw [e] at this
    exact this
end L2

set_option Elab.async false
set_option linter.all false
set_option maxRecDepth 100000
set_option maxHeartbeats 4000000
namespace L2
open PySem PySem.Spec PyProof.Rows
structure GenOk2 (N : List Str) (vs2 : List Nat) (sc scope : Scope) : Prop where
  kind : scope.kind = .function
  co : scope.isCoroutine = false
  zero : scope.names.lookup (".0" : Str) = some NameKind.local
  uniq : ∀ y ∈ scope.names, scope.names.lookup y.1 = some y.2
  nocell : ∀ y ∈ scope.names, y.2 ≠ .cell
  free : ∀ y ∈ scope.names, y.2 = .free → sc.names.lookup y.1 = some .cell ∨ sc.names.lookup y.1 = some .free
  own : ∀ y ∈ scope.names, y.2 = .local → y.1 ∉ N ∨ ∃ i ∈ vs2, N[i]? = some y.1
  nd : N.Nodup
section
variable {X : Cx} {pins : List (Addr × Obj)} {σ : St} {H H' : Hp} {s s' : Shared}
theorem gen_start2 {vs2 : List Nat} {scope : Scope} {own : List Str} {fp : List Addr} {A' : Around} {code : Value} (I : Inv X pins σ H s) (ok : GenOk2 X.N vs2 X.env.scope scope) (hv2 : ∀ i ∈ vs2, ∀ v, σ[i]? ≠ some (some v)) (hfp : ∀ b ∈ fp, FpOk X pins H b ∧ b < s.heap.objs.size) (hA : A'.handled = none)
    (hF : A'.frames = some (genEnv scope (genCl X scope) s.heap.objs.size code builtinsNs X.env :: X.stack)) {s5 : Shared} {m : Str → Option Value} {a : Addr} {go : Obj} (hos : s5.os = s.os) (hb : BareG (s.gens.push .running) s5.gens)
    (kp : ∀ b o, s.heap.get? b = some o → s5.heap.get? b = some o) (hn : s5.heap.Ns s.heap.objs.size m) (ha : s5.heap.get? a = some go) (haC : s.heap.objs.size < a) (hgo : ∀ v, go.data ≠ .cell v) :
    Inv (X.gen A' s H own (genEnv scope (genCl X scope) s.heap.objs.size code builtinsNs X.env) fp) [(a, go)] (σ ++ List.replicate own.length none) H s5 := by
  have hfree : ∀ y ∈ scope.names, y.2 = .free → ∃ c, X.env.cells.lookup y.1 = some c := fun y hy e => by
    rcases ok.free y hy e with k | k
    · exact I.ok.has _ (.inl k)
    · exact I.ok.has _ (.inr k)
  generalize hcenv : genEnv scope (genCl X scope) s.heap.objs.size code builtinsNs X.env = cenv at hF
  have hL : cenv.locals = s.heap.objs.size := by rw [← hcenv]; rfl
  have hcl : cenv.cells = genCl X scope := by rw [← hcenv]; rfl
  have hsc : cenv.scope = scope := by rw [← hcenv]; rfl
  have cm : ∀ {y c}, (y, c) ∈ genCl X scope → X.env.cells.lookup y = some c ∧ c < s.heap.objs.size := fun {y c} hm => by
    rcases cloFrom_mem hm with hm | ⟨h1, rfl⟩
    · cases hm
    · obtain ⟨c, hc⟩ := hfree _ h1 rfl
      rw [hc]
      obtain ⟨w, z⟩ := I.cell _ _ hc
      exact ⟨rfl, z.lt⟩
  have mem : ∀ {y c}, cenv.cells.lookup y = some c → X.env.cells.lookup y = some c ∧ c < s.heap.objs.size := fun {y c} e => by
    rw [hcl] at e
    exact cm (PySem.mem_of_lookup e)
  have look : ∀ {y}, scope.names.lookup y = some .free → ∃ c, cenv.cells.lookup y = some c ∧ X.env.cells.lookup y = some c := fun {y} hl => by
    have hy : (y, NameKind.free) ∈ scope.names := PySem.mem_of_lookup hl
    obtain ⟨c', e'⟩ := mem_lookup (cloFrom_has (cells := X.env.cells) (acc := []) hy)
    refine ⟨c', by rw [hcl]; exact e', (cm (PySem.mem_of_lookup e')).1⟩
  have okG : (X.gen A' s H own cenv fp).Ok := by
    refine ⟨I.ok.mod, by show cenv.scope.kind = _; rw [hsc]; exact ok.kind, by show cenv.globals = _; rw [← hcenv]; exact I.ok.glob, by show cenv.builtins = _; rw [← hcenv]; rfl, by show s.heap.objs.size ≤ cenv.locals; rw [hL]; exact Nat.le_refl _,
      fun y z c e1 e2 => I.ok.inj y z c (mem e1).1 (mem e2).1, fun y hy => ?_, fun y c z e => absurd z (by simp), fun _ => hA, hF, .inr ⟨rfl, by show cenv.frame = some cenv.locals; rw [← hcenv]; rfl⟩, fun b hb => ⟨?_, fun y c e => ?_⟩, I.bs, Nat.le_trans I.ok.bsz I.sz, fun b o e hb => ?_, fun b hb z => ?_, I.stack, I.stkFree, I.ok.tb.un I.base⟩
    · have hy' : scope.names.lookup y = some .cell ∨ scope.names.lookup y = some .free := by
        have : cenv.kindOf y = some .cell ∨ cenv.kindOf y = some .free := hy
        unfold Env.kindOf at this
        rw [hsc] at this
        exact this
      rcases hy' with k | k
      · exact absurd rfl (ok.nocell _ (PySem.mem_of_lookup k))
      · obtain ⟨c, h1, _⟩ := look k
        exact ⟨c, h1⟩
    · show b ≠ cenv.locals
      rw [hL]; exact Nat.ne_of_lt (hfp b hb).2
    · exact (hfp b hb).1.2.2.2.2.1 y c (mem e).1
    · rcases (hfp b hb).1.2.2.2.1 with z | z
      · exact I.ok.noex b o e z
      · exact absurd (Nat.lt_of_lt_of_le (Heap.lt_size e) (Nat.le_trans I.ok.bsz z)) (Nat.lt_irrefl _)
    · rcases List.mem_cons.mp (I.stkSub b z) with z | z
      · exact (hfp b hb).1.2.1 z
      · exact (hfp b hb).1.2.2.1 z
  refine ⟨okG, hos, hb, Un.kept kp, ⟨m, by show s5.heap.Ns cenv.locals m; rw [hL]; exact hn, fun i y av e1 e2 e3 => ?_⟩, fun y c e => ?_, ?_, fun y c e => I.freeC y c (mem e).1, fun p hp => ?_, I.hok.kept kp, ?_⟩
  · have hi : i < σ.length := by
      rcases Nat.lt_or_ge i σ.length with z | z
      · exact z
      · rw [List.getElem?_append_right z, List.getElem?_replicate] at e2
        split at e2 <;> cases e2
    rw [List.getElem?_append_left hi] at e2
    have e1 : X.N[i]? = some y := by
      have e1 : (X.N ++ own)[i]? = some y := e1
      rw [List.getElem?_append_left (by rw [← I.len]; exact hi)] at e1
      exact e1
    have e3 : Vis scope y := by
      have e3 : Vis cenv.scope y := e3
      rw [hsc] at e3; exact e3
    rcases e3 with e3 | e3 | e3
    · rcases ok.own _ (PySem.mem_of_lookup e3) rfl with z | ⟨i2, h2, e2'⟩
      · exact absurd (List.mem_of_getElem? e1) z
      · have hi2 : i2 < X.N.length := (List.getElem?_eq_some_iff.mp e2').1
        have : i2 = i := (List.getElem?_inj hi2 ok.nd).mp (e2'.trans e1.symm)
        rw [this] at h2
        exact absurd e2 (hv2 i h2 av)
    · exact absurd rfl (ok.nocell _ (PySem.mem_of_lookup e3))
    · obtain ⟨m', hn', hl'⟩ := I.loc
      have hvis : Vis X.env.scope y := (ok.free _ (PySem.mem_of_lookup e3) rfl).elim (fun k => .inr (.inl k)) (fun k => .inr (.inr k))
      obtain ⟨w, r, q⟩ := hl' i y av e1 e2 hvis
      refine ⟨w, r, .inr ⟨.inr (by show cenv.kindOf y = some .free; unfold Env.kindOf; rw [hsc]; exact e3), ?_⟩⟩
      obtain ⟨c, h1, h2⟩ := look e3
      rcases q with ⟨k, _⟩ | ⟨_, c', e', z⟩
      · have k : X.env.scope.names.lookup y = some .local := k
        rcases ok.free _ (PySem.mem_of_lookup e3) rfl with k' | k' <;> rw [show X.env.scope.names.lookup y = _ from k'] at k <;> cases k
      · rw [h2] at e'; cases e'
        exact ⟨c, h1, z.keeps kp⟩
  · obtain ⟨w, z⟩ := I.cell y c (mem e).1
    exact ⟨w, z.keeps kp⟩
  · show H cenv.locals = none
    rw [hL]; exact I.hok.fresh (Nat.le_refl _)
  · have hp' : p = (a, go) := by
      have : p ∈ ([] : List (Addr × Obj)) ++ [(a, go)] := hp
      simpa using this
    subst hp'
    refine ⟨ha, I.hok.fresh (Nat.le_of_lt haC), by show a ≠ cenv.locals; rw [hL]; exact Nat.ne_of_gt haC, fun z => ?_, hgo⟩
    obtain ⟨_, o, ho, _⟩ := I.stack.mem z
    exact absurd (Nat.lt_trans (Heap.lt_size ho) haC) (Nat.lt_irrefl _)
  · show (σ ++ List.replicate own.length none).length = (X.N ++ own).length
    rw [List.length_append, List.length_append, List.length_replicate, I.len]
end
/-- as tAll, where names of the generator stand in the def's list too, empty now (at vs2), its parts by rules within the generator's frame; k names of its own at the places vs -/
def tAll2 (vs2 : List Nat) (wi : TI) (g : TG) (tt : TT) (te : TE) (k : Nat) (vs : List Nat) : TE := fun σ H Q => (∀ i ∈ vs2, ∀ v, σ[i]? ≠ some (some v)) ∧ wi σ H fun J H1 => ∃ W : Nat → Nat → Hp → Prop, (∀ H2, Same H1 H2 → (∀ b, H1 b = none → H2 b = none) → ∃ m, W 0 m H2) ∧ ∀ i m H, W i m H →
  (J.stop i H ∧ Q (.bl true) H) ∨ (J.go i H ∧ ∃ Nx : Hp → Prop, (∀ H', Nx H' → ∃ m', m' < m ∧ W (i + 1) m' H') ∧ ∀ x H', J.yld i H x H' → g x (σ ++ List.replicate k none) H' fun σ2 H2 => wipe σ2 vs = σ ++ List.replicate k none ∧ tt σ2 H2 fun b H3 =>
    if b = true then te σ2 H3 fun v H4 => ∃ b', v = .bl b' ∧ (b' = true → Nx H4) ∧ (b' = false → Q (.bl false) H4) else Nx H3)
theorem all_over2 {vs2 : List Nat} {wi : TI} {g : TG} {tt : TT} {te : TE} {k : Nat} {vs : List Nat} {σ : St} {H : Hp} {Q : VK} (hv : ∀ i ∈ vs2, ∀ v, σ[i]? ≠ some (some v)) (h : wi σ H fun J H1 => AllG J g tt te k vs σ H1 Q) : tAll2 vs2 wi g tt te k vs σ H Q := ⟨hv, h⟩
theorem pe_all2 {X : Cx} {vs2 : List Nat} {k : Nat} {own : List Str} {elt tg iter : Expr} {ifs : List Expr} {scope : Scope} {wi : TI} {g : TG} {tt : TT} {te : TE} {vs : List Nat} {p pos gpos : Pos} (hr : Room (k + 1) X.A) (ck : CodeK X.prog X.K X.mg X.env.code) (hc : X.calm = true) (hg : Gl X "all") (hm : X.mg "all" = none)
    (ok : GenOk2 X.N vs2 X.env.scope scope) (hi : PI X tg iter wi)
    (hpg : ∀ (A' : Around) (s : Shared) (H : Hp) (C : Addr) (code : Value) (fp : List Addr), PG (X.gen A' s H own (genEnv scope (genCl X scope) C code builtinsNs X.env) fp) tg g)
    (hpt : ∀ (A' : Around) (s : Shared) (H : Hp) (C : Addr) (code : Value) (fp : List Addr), Room k A' → PTs (X.gen A' s H own (genEnv scope (genCl X scope) C code builtinsNs X.env) fp) ifs tt)
    (hpe : ∀ (A' : Around) (s : Shared) (H : Hp) (C : Addr) (code : Value) (fp : List Addr), Room k A' → PE (X.gen A' s H own (genEnv scope (genCl X scope) C code builtinsNs X.env) fp) elt te)
    (hs2 : starEach [genX elt tg iter ifs scope gpos] X.env = [(false, eval (genX elt tg iter ifs scope gpos) X.env)] := by rfl) (hfold : ∀ x, genFold iter X.env x = pure x := by intro x; rfl) :
    PE X (.Call (.Name "all" p) [genX elt tg iter ifs scope gpos] [] pos) (tAll2 vs2 wi g tt te own.length vs) := by
  intro pins s σ H Q I h
  obtain ⟨hv2, h⟩ := h
  refine wpAny_Call_Name_kw (ld_blt I hg hm boot_all9 (PyProof.Rows.callWith_builtin1 ?_ hs2 rfl))
  rw [hs2]
  show wpAny _ _ (spliced ((false, eval (genX elt tg iter ifs scope gpos) X.env) :: backTo pos (starEach [] X.env))) _ _ s
  have hfree : ∀ y ∈ scope.names, y.2 = .free → ∃ c, X.env.cells.lookup y.1 = some c := fun y hy e => by
    rcases ok.free y hy e with z | z
    · exact I.ok.has _ (.inl z)
    · exact I.ok.has _ (.inr z)
  have hroom : X.A.depth < recursionLimit := by have := hr.dp; omega
  refine Calls.spliced_cons (thn (Q := fun v s5 => wpAny (model X.prog X.w) X.A (call (.builtin "all") [v]) (EP X pins σ Q) X.xe s5) (wpAny_GeneratorExp_make ok.co (closure_ok hfree) ok.nocell ok.zero ok.kind hroom (thn (hi pins s σ H _ I h) fun xv s1 hx => thn hx fun itv s2 h2 => ?_) hfold) fun v s5 h5 => Calls.spliced_nil h5)
  obtain ⟨it, fp, tn, J, H2, e, I2, T, st2, f2, W, w0, turn⟩ := h2
  subst e
  refine ⟨I2.nolimit, gen_codeB I2 ck fun code h₃ tk₃ H₃ I₃ sm fr keep sz => ?_⟩
  obtain ⟨bm, ob, M⟩ := I₃.mod.bmod
  have M₃ : BMod h₃ mainGlobals X.mg bm ob := M.keeps I₃.bk
  refine wpAny_builtinsFor (by rw [I₃.ok.glob]; exact M₃.ns) M₃.name M₃.ne M₃.obj M₃.cls M₃.dict M₃.data ?_
  intro h' hn' hs'
  obtain ⟨m0, hm0⟩ := w0 H₃ sm fr
  have I₃ : Inv X pins σ H₃ { s2 with heap := h₃, toks := tk₃ } := I₃
  have hn' : h'.Ns h₃.objs.size (fun y => if y = ".0" then some (.ref it) else none) := hn'
  have hs' : Heap.SameBut h₃.objs.size (h₃.push { cls := .type "frame", data := .dict #[] }) h' := hs'
  have f3 : ∀ b ∈ fp, FpOk X pins H₃ b ∧ b < h₃.objs.size := fun b hb => by
    obtain ⟨o, eo, _⟩ := T.obj _ _ st2 b hb
    exact ⟨⟨fr b (f2 b hb).1, (f2 b hb).2⟩, Nat.lt_of_lt_of_le (Heap.lt_size eo) sz⟩
  have st3 : tn 0 h₃ := T.keep _ _ _ st2 fun b hb o eo => keep b o (f2 b hb).1 eo
  have szC : h'.objs.size = h₃.objs.size + 1 := by rw [hs'.1, Heap.size_push]
  have kp1 : ∀ b o, h₃.get? b = some o → h'.get? b = some o := fun b o e => hs'.extBut b o (Nat.ne_of_lt (Heap.lt_size e)) (Heap.get?_push_of_some _ e)
  generalize hgo : ({ cls := .type "generator", data := .fields #[.int (s2.gens.size : Nat) 0, .str "<genexpr>" (tk₃ + 1), .str (X.env.qual ++ "<genexpr>") (tk₃ + 1 + 1)] } : Obj) = go
  have hgo1 : go.cls = .type "generator" ∧ go.data = .fields #[.int (s2.gens.size : Nat) 0, .str "<genexpr>" (tk₃ + 1), .str (X.env.qual ++ "<genexpr>") (tk₃ + 1 + 1)] ∧ go.slots = #[] := by rw [← hgo]; exact ⟨rfl, rfl, rfl⟩
  have hgoc : ∀ v, go.data ≠ .cell v := fun v z => by rw [hgo1.2.1] at z; cases z
  generalize hce : genEnv scope (genCl X scope) h₃.objs.size code builtinsNs X.env = cenv
  generalize hA' : X.A.in1.in1.over (.compLoop (genX elt tg iter ifs scope gpos) 0 (.ref it) .none cenv) [] = A'
  have hAh : A'.handled = none := by rw [← hA']; exact hr.hd
  have hAf : A'.frames = some (cenv :: X.stack) := by
    rw [← hA']
    have hz : (X.A.in1.in1.over (.compLoop (genX elt tg iter ifs scope gpos) 0 (.ref it) .none cenv) []).frames = pushEnvs [cenv] X.A.frames := rfl
    rw [hz, I₃.ok.frames]; rfl
  have hAr : Room k A' := by
    rw [← hA']
    refine ⟨hr.hd, ?_, ?_, ?_⟩
    · have := hr.dp
      show X.A.depth + 0 + 1 + 3 * k + 5 < _
      omega
    · have := hr.un
      show X.A.units + 1 + 1 + 0 + 3 + 16 * k + 200 < _
      omega
    · have hz : (X.A.in1.in1.over (.compLoop (genX elt tg iter ifs scope gpos) 0 (.ref it) .none cenv) []).guards = pushGuards [] X.A.guards := rfl
      rw [hz, hr.gd]; rfl
  have a1 : (h'.push go).get? h'.objs.size = some go := Heap.get?_push_size _ (by rw [← hgo]; rfl)
  have start : ∀ g' : Array GenState, BareG (s2.gens.push .running) g' → ∀ tk, Inv (X.gen A' { s2 with heap := h₃, toks := tk₃ } H₃ own cenv fp) [(h'.objs.size, go)] (σ ++ List.replicate own.length none) H₃ { s2 with gens := g', toks := tk, heap := h'.push go } := fun g' hb tk => by
    rw [← hce]
    exact gen_start2 (code := code) I₃ ok hv2 f3 hAh (by rw [hce]; exact hAf) (m := fun y => if y = ".0" then some (.ref it) else none) rfl hb (fun b o e => Heap.get?_push_of_some _ (kp1 b o e)) (hn'.push _) a1 (by show h₃.objs.size < h'.objs.size; omega) hgoc
  have pgG := hpg A' { s2 with heap := h₃, toks := tk₃ } H₃ h₃.objs.size code fp
  have ptG := hpt A' { s2 with heap := h₃, toks := tk₃ } H₃ h₃.objs.size code fp hAr
  have peG := hpe A' { s2 with heap := h₃, toks := tk₃ } H₃ h₃.objs.size code fp hAr
  rw [hce] at pgG ptG peG
  have hcs : cenv.scope.isCoroutine = false := by rw [← hce]; exact ok.co
  have hGS : ∀ g' : Array GenState, BareG (s2.gens.push .running) g' → ∀ tk, GS (X.gen A' { s2 with heap := h₃, toks := tk₃ } H₃ own cenv fp) h'.objs.size go (σ ++ List.replicate own.length none) tn fp 0 H₃ { s2 with gens := g', toks := tk, heap := h'.push go } := fun g' hb tk =>
    ⟨start g' hb tk, T.keep _ _ _ st3 fun b hb o e => Heap.get?_push_of_some _ (kp1 b o e), fun b hb => (f3 b hb).1.1⟩
  have loop := gen_loop (G := X.gen A' { s2 with heap := h₃, toks := tk₃ } H₃ own cenv fp) (B := X.A.in1.in1) (a := h'.objs.size) (it := it) (go := go) (σ := σ ++ List.replicate own.length none) (tn := tn) (fp := fp) (W := W) (Fin := fun H => Q (.bl true) H) (No := fun H => Q (.bl false) H) (elt := elt) (tg := tg) (iter := iter) (ifs := ifs) (scope := scope) (pos := gpos) (J := J) (g := g) (tt := tt) (te := te) (vs := vs)
    rfl rfl hcs rfl rfl (fun b hb z => absurd (f3 b hb).2 (by rw [← z, szC]; exact Nat.not_lt.mpr (Nat.le_succ _))) hA' T pgG ptG peG turn
  show wpAny (model X.prog X.w) X.A (call (.builtin "all") [.ref h'.objs.size]) (EP X pins σ Q) X.xe _
  refine call_function_tree F.kind_all F.plain_all F.entry_all (F.args_all1 _) ?_
  unfold Builtin.«all»
  refine wpAny_bind (m := oneArg "all" _) (wpAny_pure ?_)
  have hb0 : BareG (s2.gens.push .running) (s2.gens.push (.fresh (.compStart (genX elt tg iter ifs scope gpos) 0 (.ref it) .none cenv))) := ⟨I₃.bare.1.push rfl, by simp⟩
  have G0 := hGS _ hb0 (tk₃ + 1 + 1 + 1)
  refine wpAny_bind (wpAny_pyIter_gen (G0.1.isGen hgo1) ?_)
  refine wpAny_pure ⟨plainId_quiet F.plain_all_loop _, ?_⟩
  refine all_loopG (G := X.gen A' { s2 with heap := h₃, toks := tk₃ } H₃ own cenv fp) (B := X.A) (k := s2.gens.size) (W := W) (Fin := fun H => Q (.bl true) H) (No := fun H => Q (.bl false) H) hgo1 (by show _ < (s2.gens.push .running).size; simp) hr.hd hroom (fun H1 s' I1 q1 => ?_) (fun H1 s' I1 q1 => ?_) (m0 + 1) 0 m0 H₃ _ (.fresh (.compStart (genX elt tg iter ifs scope gpos) 0 (.ref it) .none cenv)) (Nat.lt_succ_self _) hm0 G0 (by simp) (fun s'' G'' => ⟨rfl, gen_begin T G'' (loop m0 (m0 + 1) (Nat.lt_succ_self _) 0 H₃ s'' s'' hm0 G'')⟩)
  · exact ⟨.bl true, H1, gen_back I₃ f3 I1, rfl, q1⟩
  · exact ⟨.bl false, H1, gen_back I₃ f3 I1, rfl, q1⟩
end L2

set_option Elab.async false
set_option linter.all false
set_option maxRecDepth 100000
set_option maxHeartbeats 4000000
namespace L2
open PySem PySem.Spec PyProof.Rows
section
variable {X : Cx}
/-- repr of a long row of numbers below 10 ^ 13 -/
theorem call_reprIW (hr : ∃ k, Room k X.A) : CallR X (.builtin "repr") (fun xs H Q => ∃ (a : Addr) (ns : List Int), xs = [.ref a] ∧ SqL X.K H a (ns.map V.int) ∧ ns.length ≤ 1000000 ∧ (∀ n ∈ ns, n.natAbs < 10 ^ 13) ∧ Q (.str (intsD ns).shown) H) := by
  intro pins s σ H xs us Q I r h
  obtain ⟨a, ns, rfl, h1, h2, h3, q⟩ := h
  have hs : ∀ n ∈ ns, Sml n := fun n hn => natAbs_log (k := 44) (Nat.lt_of_lt_of_le (h3 n hn) (by decide)) (by decide)
  refine call_repr hr pins s σ H _ us Q I r ⟨_, intsD ns, rfl, dpInts' h1, ⟨a, rfl⟩, ?_, ?_, ?_, ?_, q⟩
  · simp only [PyData.showable]; exact showInts hs
  · simp only [PyData.hasDict]; exact noDictInts ns
  · have := depthInts ns
    simp only [PyData.depth]; omega
  · simp only [PyData.shown, shownAll_map]
    have := listText_le (ns.map fun i => (Str.ofString (toString i))) 14 fun t ht => by
      obtain ⟨n, hn, rfl⟩ := List.mem_map.mp ht
      exact txtOf_len (by decide) (h3 n hn)
    rw [List.length_map] at this
    rw [sizeLine_eq]
    omega
end
theorem DefG.fnX {P : Program} {w : World} {K : PySem.W.Frag} {mg : Str → Option Value} {base : Heap} {x : Str} {st : Stmt} {N ps : List Str} {k : Nat} {sp : Sp} (D : DefG P K mg x st ps) (S : FnScope N ps (defScope st)) (len : ∀ vs H Q E, sp vs H Q E → vs.length = ps.length)
    (hbody : ∀ (f : Addr) (cdv : Value) (A : Around) (outer : List Env) (s : Shared) (H : Hp) (vs : List V) (Q : VK) (E : XK), CodeK P K mg cdv → Room k (A.deeper (envOfC x (defScope st) s.heap.objs.size f cdv)) → sp vs H Q E →
      ∃ t, PSs (cxOf (CXo P w) P w K mg base N x (defScope st) f cdv A outer s H E) (defBody st) t ∧ t { nx := fun _ H' => Q .non H', rt := Q } (start N vs) H) : FnX P w K mg base (k + 1) x ps sp := by
  obtain ⟨f, fd, hm, F, b, ck⟩ := D
  refine ⟨f, fd, hm, F.kp, b, ?_⟩
  obtain ⟨oc, od, kV, doc, pm, an, cdv, ct, osl, rfl, lk, hcd⟩ := F.ex
  exact fn_of lk hcd S len fun A outer s H vs Q E hr hsp => hbody f cdv A outer s H vs Q E ck hr hsp
theorem call_isinstEK {X : Cx} {K : PySem.W.Frag} (hK : X.K = K) : CallR X (.builtin "isinstance") (fun xs H Q => ∃ x C bm c b, xs = [.ref x, c] ∧ H x = some (errO x C) ∧ ErrAt K C bm ∧ ErrQ K C ∧
    ((∃ T, c = .ty T ∧ PySem.W.kitOne K (.ref C) (.type T) = some b) ∨ (∃ S, c = .ref S ∧ PySem.W.kitOne K (.ref C) (.ref S) = some b) ∨ (∃ (tp : Addr) (Ss : List Addr), c = .ref tp ∧ H tp = some (.tup (Ss.map V.ref)) ∧ PySem.W.kitAny K (.ref C) (Ss.map Value.ref) = some b)) ∧ Q (.bl b) H) := by
  subst hK
  exact call_isinstE
theorem pe_bmK {X : Cx} {K : PySem.W.Frag} {T id : String} {name : Str} {apos cpos : Pos} {o e : Expr} {es : List Expr} {to : TE} {t : TA} {r : V → List V → Hp → VK → Prop} (hK : X.K = K) (pa : PlainAttrs T) (slot : Slot T name id) (hty : typeOf (.builtin id) = pure (.type "method_descriptor")) (hm : MtR X id r) (ho : PE X o to) (ha : PA X (e :: es) t)
    (hbase : attributeBase o name X.env (eval o X.env) = eval o X.env := by rfl)
    (hfew : ((backTo cpos (starEach (e :: es) X.env)).all (fun x => !x.1) && (backToKw cpos (keywordEach [] X.env)).all (fun x => x.1.isSome)
      && decide ((e :: es).length + ([] : List Keyword).length + (if ([] : List Keyword).isEmpty then 0 else 1) < 30)) = true := by rfl)
    (hline : (apos.endLine == cpos.line) = true := by rfl) (hs : starEach (e :: es) X.env = (false, eval e X.env) :: starEach es X.env := by rfl) (hplain : (backTo cpos (starEach es X.env)).any (·.1) = false := by rfl) :
    PE X (.Call (.Attribute o name apos) (e :: es) [] cpos) (tBM K T r to t) := by
  subst hK
  exact pe_bm pa slot hty hm ho ha hbase hfew hline hs hplain
end L2

set_option Elab.async false
set_option linter.all false
set_option maxRecDepth 100000
set_option maxHeartbeats 4000000
namespace Law
open PySem L2
def top (i : Nat) : Stmt := PySem.Challenge.pw_stretchleast_k54_texts_of_no_row.main.body.getD i (.Pass ⟨0, 0, 0, 0⟩)
abbrev bls : List Str := ["list", "enumerate", "int", "sum", "sorted", "range", "len", "min", "max", "isinstance", "bool", "repr", "zip", "set", "tuple", "dict", "reversed", "divmod", "str", "all", "abs", "ValueError"]
def spIsNumber : Sp := fun vs H Q _ => ∃ (w : Str), vs = [.str w] ∧ w.length ≤ 1000000 ∧ Q (.bl (isNum w)) H
def rdOf (x : Str) : Option (List Int) := if x = "-" then some [] else if (Txt.split x " ").all isNum then some ((Txt.split x " ").map numOf) else none
theorem split_len (x : Str) : (Txt.split x " ").length ≤ x.length + 2 := PyProof.Rows.split_le x " "
theorem split_part (x : Str) : ∀ p ∈ Txt.split x " ", p.length ≤ x.length := fun p hp => by
  have h := PyProof.Rows.split_weight x " " (by decide)
  have h2 : ∀ (l : List Str), p ∈ l → p.length + l.length ≤ (l.map (·.length)).sum + l.length := fun l => by
    induction l with
    | nil => intro z; cases z
    | cons a l ih =>
      intro z
      rcases List.mem_cons.mp z with rfl | z
      · simp
      · have := ih z; simp; omega
  have h3 := h2 _ hp
  have h4 := List.length_pos_of_mem hp
  omega
section
variable {P : Program} {w : World} {K : PySem.W.Frag} {mg : Str → Option Value} {base : Heap}
theorem str_dec (a b : Str) : decide (V.str a = V.str b) = decide (a = b) := by
  by_cases z : a = b
  · rw [z, decide_eq_true rfl, decide_eq_true rfl]
  · rw [decide_eq_false z, decide_eq_false fun y => z (by injection y)]
def xis_number : { t : Stmt // top 11 = t } := ⟨_, by conv => { lhs; whnf }⟩
abbrev sis_number : Stmt := xis_number.1
theorem scis_number : FnScope ["word", "figures"] ["word"] (defScope sis_number) := ⟨rfl, rfl, rfl, by decide +kernel, rfl, by decide +kernel, by decide +kernel⟩
theorem fn_is_number (B : Bl mg bls) (D : DefAt K mg "is_number" sis_number ["word"]) (kn_MOST_FIGURES : Kst mg "MOST_FIGURES" (.int 13)) : Fn P w K mg base 1 "is_number" ["word"] spIsNumber := by
  refine D.fn scis_number (fun vs H Q E h => ?_) (fun f cdv A outer s H vs Q E hr h => ?_)
  · obtain ⟨a, rfl, _⟩ := h; rfl
  · obtain ⟨w, rfl, hl, q⟩ := h
    refine' ⟨_, ?tm, ?rd⟩
    (case tm =>
      (conv => { arg 2; whnf })
      refine' pss_cons ?s0 ?r0
      (case s0 =>
        exact (ps_set (i := 1) scis_number.nd (by rfl) (by first | exact Or.inl rfl | exact Or.inr rfl) (pe_m1 PySem.F.slot_str_removeprefix PySem.F.type_str_removeprefix mt_removeprefix (pv 0) pe_str)))
      (case r0 =>
        refine' pss_cons ?s0x ?r0x
        (case s0x =>
          refine' ps_if ?c0x ?a0x ?b0x
          (case c0x => exact (PW.pt (pw_or (pt_not (pt_val (pe_m0 PySem.F.slot_str_isascii PySem.F.type_str_isascii mt_isascii (pv 1)))) (pw_or (pt_not (pt_val (pe_m0 PySem.F.slot_str_isdigit PySem.F.type_str_isdigit mt_isdigit (pv 1)))) (pw_or1 (pt_cmpR op_gt (pe_callB call_len_str (by rfl) (B "len" (by decide +kernel)) (by decide +kernel) (pa_cons (pv 1) pa_nil)) (pe_kst (by rfl) kn_MOST_FIGURES) (nomark _)))))))
          (case a0x =>
            refine' pss_one ?s0xi
            (case s0xi =>
              exact (ps_ret pe_bl)))
          (case b0x =>
            exact pss_nil))
        (case r0x =>
          refine' pss_one ?s0xx
          (case s0xx =>
            exact (ps_ret (pe_or (pe_cmpR op_eq (pv 0) pe_str (nomark _)) (pe_one (pe_not (pe_m1 PySem.F.slot_str_startswith PySem.F.type_str_startswith mt_startswith (pv 1) pe_str)))))))))
    have e : sizeLine = 16777216 := sizeLine_eq
    have hfl := figs_len w
    refine ⟨_, rfl, ⟨_, rfl⟩, w, "-", rfl, rfl, by omega, ?_⟩
    dsimp only [gName]
    have ev := str_dec w "0"
    have rf : Txt.removeprefix w "-" = figsOf w := rfl
    rw [rf]
    have un : isNum w = (Txt.isascii (figsOf w) && Txt.isdigit (figsOf w) && decide ((figsOf w).length ≤ 13) && (decide (w = "0") || !Txt.startswith (figsOf w) "0")) := rfl
    rw [un] at q
    refine ⟨_, rfl, ⟨_, rfl⟩, _, rfl, rfl, trivial, _, rfl, ?_⟩
    cases h1 : Txt.isascii (figsOf w)
    · rw [h1] at q; exact q
    refine ⟨_, rfl, ⟨_, rfl⟩, _, rfl, rfl, trivial, _, rfl, ?_⟩
    cases h2 : Txt.isdigit (figsOf w)
    · rw [h1, h2] at q; exact q
    refine ⟨_, rfl, _, rfl, by omega, _, _, rfl, rfl, _, rfl, ?_⟩
    rw [h1, h2] at q
    refine ite2 (fun z => ?_) (fun z => ?_)
    · rw [decide_eq_true_iff] at z
      rw [decide_eq_false (by omega)] at q
      exact q
    · rw [decide_eq_true_iff] at z
      rw [decide_eq_true (by omega)] at q
      refine ⟨_, rfl, rfl, ?_⟩
      rw [ev]
      refine ⟨_, rfl, ?_⟩
      by_cases y : w = "0"
      · rw [decide_eq_true y] at q ⊢; exact q
      · rw [decide_eq_false y] at q ⊢
        exact ⟨_, rfl, ⟨_, rfl⟩, _, _, rfl, rfl, _, rfl, q⟩
end

def spReadX (K : PySem.W.Frag) (CT : Addr) : Sp := fun vs H Q E => ∃ (x : Str), vs = [.str x] ∧ x.length ≤ 900000 ∧ (∀ ns, rdOf x = some ns → ∀ p H', H p = none → Same H H' → H' p = some (.lst (ns.map V.int)) → Q (.ref p) H') ∧ (rdOf x = none → ∀ H', Same H H' → E (.ref CT) none H')
section
variable {P : Program} {w : World} {K : PySem.W.Frag} {mg : Str → Option Value} {base : Heap} {CT : Addr} {bmT : List Value}
def xread_row : { t : Stmt // top 12 = t } := ⟨_, by conv => { lhs; whnf }⟩
abbrev sread_row : Stmt := xread_row.1
theorem scread_row : FnScope ["text", "words", "word"] ["text"] (defScope sread_row) := ⟨rfl, rfl, rfl, by decide +kernel, rfl, by decide +kernel, by decide +kernel⟩
theorem fn_read_rowX (B : Bl mg bls) (er_NoText : Err K mg "NoText" CT bmT) (D : DefG P K mg "read_row" sread_row ["text"]) (kn_TEXT_OF_NONE : Kst mg "TEXT_OF_NONE" (.str "-")) (Fis_number : Fn P w K mg base 1 "is_number" ["word"] spIsNumber) : FnX P w K mg base 3 "read_row" ["text"] (spReadX K CT) := by
  refine D.fnX scread_row (fun vs H Q E h => ?_) (fun f cdv A outer s H vs Q E ck hr h => ?_)
  · obtain ⟨x, rfl, _⟩ := h; rfl
  · obtain ⟨x, rfl, hl, q, qe⟩ := h
    refine' ⟨_, ?tm, ?rd⟩
    (case tm =>
      (conv => { arg 2; whnf })
      refine' pss_cons ?s0 ?r0
      (case s0 =>
        refine' ps_if ?c0 ?a0 ?b0
        (case c0 => exact (pt_not (pt_val (pe_callB call_isinstX (by rfl) (B "isinstance" (by decide +kernel)) (by decide +kernel) (pa_cons (pv 0) (pa_cons (pe_bltn (v := .ty "str") (by rfl) (B "str" (by decide +kernel)) (by decide +kernel) rfl) pa_nil))))))
        (case a0 =>
          refine' pss_one ?s0i
          (case s0i =>
            exact (ps_raise er_NoText hr.hd (by rfl))))
        (case b0 =>
          exact pss_nil))
      (case r0 =>
        refine' pss_cons ?s0x ?r0x
        (case s0x =>
          refine' ps_if ?c0x ?a0x ?b0x
          (case c0x => exact (pt_cmpR op_eq (pv 0) (pe_kst (by rfl) kn_TEXT_OF_NONE) (nomark _)))
          (case a0x =>
            refine' pss_one ?s0xi
            (case s0xi =>
              exact (ps_ret (pe_lst pa_nil))))
          (case b0x =>
            exact pss_nil))
        (case r0x =>
          refine' pss_cons ?s0xx ?r0xx
          (case s0xx =>
            exact (ps_set (i := 1) scread_row.nd (by rfl) (by first | exact Or.inl rfl | exact Or.inr rfl) (pe_split (pv 0) pe_str)))
          (case r0xx =>
            refine' pss_cons ?s0xxx ?r0xxx
            (case s0xxx =>
              refine' ps_if ?c0xxx ?a0xxx ?b0xxx
              (case c0xxx => exact (pt_not (pt_val (pe_all2 (vs2 := [2]) (own := []) (vs := [2]) (g := (gName 2)) hr ck (by rfl) (by rfl) (B "all" (by decide +kernel)) (GenOk2.mk (vs2 := [2]) (N := ["text", "words", "word"]) (sc := defScope sread_row) (by rfl) (by rfl) (by rfl) (by decide +kernel) (by decide +kernel) (by decide +kernel) (by decide +kernel) (by decide +kernel)) (pi_list (pv 1)) (fun _ _ _ _ _ _ => (pg_name (i := 2) (id (by decide +kernel : (["text", "words", "word"] : List Str).Nodup)) (by rfl) (by first | exact Or.inl rfl | exact Or.inr rfl))) (fun _ _ _ _ _ _ hr => pts_nil) (fun _ _ _ _ _ _ hr => (pe_fn Fis_number hr (by rfl) (pa_cons (pv 2) pa_nil)))))))
              (case a0xxx =>
                refine' pss_one ?s0xxxi
                (case s0xxxi =>
                  exact (ps_raise er_NoText hr.hd (by rfl))))
              (case b0xxx =>
                exact pss_nil))
            (case r0xxx =>
              refine' pss_one ?s0xxxx
              (case s0xxxx =>
                exact (ps_ret (pe_lc (own := [("word", 2)]) (g := (gName 2)) (by rfl) scread_row.nd (pi_list (pv 1)) (blkOk_by (own := [("word", 2)]) (N := ["text", "words", "word"]) (sc := defScope sread_row) (by decide +kernel)) (fun _ _ _ _ _ => (pg_name (i := 2) scread_row.nd (by rfl) (by first | exact Or.inl rfl | exact Or.inr rfl))) (fun _ _ _ _ _ => pts_nil) (fun _ _ _ _ _ => (pe_callTy call_int_str (by rfl) (B "int" (by decide +kernel)) (by decide +kernel) (pa_cons (pv 2) pa_nil)))))))))))
    have e : sizeLine = 16777216 := sizeLine_eq
    refine ⟨_, rfl, _, _, _, _, rfl, .of (.str x), rfl, _, rfl, ?_⟩
    refine ⟨_, rfl, rfl, _, rfl, ?_⟩
    rw [str_dec]
    unfold rdOf at q qe
    refine ite2 (fun z => ?_) (fun z => ?_)
    · have z := of_decide_eq_true z
      rw [if_pos z] at q
      exact ⟨by show 0 ≤ sizeLine; omega, fun p hp => q [] rfl p _ hp (Same.new hp) upd_same⟩
    have z : x ≠ "-" := fun y => z (decide_eq_true y)
    rw [if_neg z] at q qe
    refine ⟨_, rfl, ⟨_, rfl⟩, x, " ", rfl, rfl, rfl, by omega, fun p1 hp1 => ?_⟩
    have hsl := split_len x
    have hsp := split_part x
    generalize Txt.split x " " = ts at q qe hp1 hsl hsp ⊢
    generalize ep1 : upd H p1 _ = H1; have sp1 : Same H H1 := (by rw [← ep1]; exact Same.new hp1); have cp1 := (congrFun ep1.symm p1).trans upd_same; clear ep1
    dsimp only [gName]
    unfold tSeq tIfS tNot tB
    refine all_over2 (fun i hi v => by rw [List.mem_singleton.mp hi]; intro z; cases z) ?_
    refine ⟨_, rfl, p1, rfl, ⟨_, SqL.of cp1⟩, all_strs isNum cp1 (fun n H' Nx F hn s' h1 h2 => ?_) (fun H2 s2 => ?_)⟩
    · exact ⟨rfl, _, rfl, n, rfl, by have := hsp n hn; omega, _, rfl, fun z => h1 z _ s', fun z => h2 z _ s'⟩
    cases hal : ts.all isNum with
    | false =>
      refine ⟨_, rfl, ?_⟩
      exact qe (by rw [if_neg (by rw [hal]; decide)]) H2 (sp1.trans s2)
    | true =>
      refine ⟨_, rfl, _, rfl, ?_⟩
      refine ⟨p1, rfl, ⟨_, SqL.of (s2 _ _ cp1)⟩, fun p2 hp2 => ?_⟩
      refine lc_mapV (out := fun t => V.int (numOf t)) (SqL.of (s2 _ _ cp1)) hp2 (by omega) (fun _ => rfl) (fun t H3 R ht s3 hR => ?_) (fun H3 c3 s3 => ?_)
      · obtain ⟨e1, e2⟩ := isNum_reads (List.all_eq_true.mp hal t ht)
        exact ⟨_, rfl, t, _, rfl, e1, by omega, hR H3 (Same.refl H3)⟩
      · have e3 : ts.map (fun t => V.int (numOf t)) = (ts.map numOf).map V.int := by rw [List.map_map]; rfl
        rw [e3] at c3
        exact q _ (by rw [if_pos hal]) p2 H3 ((sp1.trans s2).free hp2) (sp1.trans (s2.trans s3)) c3
end

end Law

set_option Elab.async false
set_option linter.all false
set_option maxRecDepth 100000
set_option maxHeartbeats 4000000
namespace Law
open PySem L2
def oI54 (w : Str) : V := if isNum w then .int (numOf w) else .non
def spNumIn : Sp := fun vs H Q _ => ∃ (w : Str), vs = [.str w] ∧ w.length ≤ 1000000 ∧ ∀ H', Same H H' → Q (oI54 w) H'
theorem cut_first (w : Str) : cutS w none (some 1) = (⟨((sg w).take 1).toArray⟩ : Str) := by
  unfold cutS
  have e0 : HT.sIx w.length 0 none = 0 := rfl
  rw [e0]
  show (⟨(((sg w).drop 0).take (HT.sIx w.length w.length (some 1) - 0)).toArray⟩ : Str) = _
  rw [List.drop_zero, Nat.sub_zero]
  have h : (sg w).length = w.length := len_sg w
  have e1 : HT.sIx w.length w.length (some 1) = min 1 w.length := by
    show HT.sIx _ _ (some ((1 : Nat) : Int)) = _
    first
      | rfl
      | (unfold HT.sIx; simp; omega)
      | (unfold HT.sIx; simp)
  rw [e1, ← h]
  cases sg w with
  | nil => rfl
  | cons c r => simp
theorem cut_rest (w : Str) : sg (cutS w (some 1) none) = (sg w).drop 1 := by
  unfold cutS
  have h : (sg w).length = w.length := len_sg w
  have e1 : HT.sIx w.length w.length none = w.length := rfl
  have e2 : HT.sIx w.length 0 (some 1) = min 1 w.length := by
    show HT.sIx _ _ (some ((1 : Nat) : Int)) = _
    first
      | rfl
      | (unfold HT.sIx; simp; omega)
      | (unfold HT.sIx; simp)
  rw [e1, e2]
  show ((sg w).drop (min 1 w.length)).take (w.length - min 1 w.length) = (sg w).drop 1
  rw [← h]
  cases sg w with
  | nil => rfl
  | cons c r => simp
theorem hd_iff {l : List Nat} {c : Nat} : l[0]? = some c ↔ ∃ cs, l = c :: cs := by
  cases l with
  | nil => simp
  | cons d r =>
    constructor
    · intro h
      have : d = c := by simpa using h
      exact ⟨r, by rw [this]⟩
    · rintro ⟨cs, h⟩
      rw [h]; rfl
theorem first_minus (w : Str) : decide (V.str (cutS w none (some 1)) = V.str "-") = decide ((sg w)[0]? = some 45) := by
  rw [cut_first, str_dec]
  apply decide_eq_decide.mpr
  rw [hd_iff]
  constructor
  · intro h
    have h := congrArg sg h
    have h : (sg w).take 1 = [45] := h
    cases hw : sg w with
    | nil => rw [hw] at h; cases h
    | cons c r =>
      rw [hw] at h
      have : c = 45 := by simpa using h
      exact ⟨r, by rw [this]⟩
  · rintro ⟨cs, h⟩
    rw [h]; rfl
theorem cut_figs {w : Str} {cs : List Nat} (h : sg w = 45 :: cs) : cutS w (some 1) none = figsOf w := by
  apply str_ext
  rw [cut_rest, figs_minus h, h]; rfl
theorem isNum_cases (w : Str) : isNum w = (decide (1 ≤ (sg (figsOf w)).length ∧ (sg (figsOf w)).length ≤ 13) && !(decide ((sg (figsOf w))[0]? = some 48) && !decide (w = "0")) && (sg (figsOf w)).all fun c => decide (48 ≤ c ∧ c ≤ 57)) := by
  rw [Bool.eq_iff_iff, isNum_iff]
  simp only [Bool.and_eq_true, decide_eq_true_iff, Bool.not_eq_true', Bool.and_eq_false_iff, Bool.not_eq_false', decide_eq_false_iff_not, List.all_eq_true]
  rw [← len_sg, hd_iff]
  constructor
  · rintro ⟨⟨h1, h2⟩, h3, h4⟩
    refine ⟨⟨⟨List.length_pos_iff.mpr h2, h3⟩, ?_⟩, fun c hc => h1 c hc⟩
    rcases h4 with h4 | h4
    · exact Or.inr h4
    · exact Or.inl h4
  · rintro ⟨⟨⟨h1, h2⟩, h3⟩, h4⟩
    refine ⟨⟨fun c hc => h4 c hc, List.length_pos_iff.mp h1⟩, h2, ?_⟩
    rcases h3 with h3 | h3
    · exact Or.inr h3
    · exact Or.inl h3
theorem dig_in : ∀ c : Nat, decide (c ∈ ("0123456789" : Str).cps.toList) = decide (48 ≤ c ∧ c ≤ 57) := by
  intro c
  apply decide_eq_decide.mpr
  have e : ("0123456789" : Str).cps.toList = [48, 49, 50, 51, 52, 53, 54, 55, 56, 57] := by decide +kernel
  rw [e]
  simp only [List.mem_cons, List.not_mem_nil, or_false]
  omega
section
variable {P : Program} {w : World} {K : PySem.W.Frag} {mg : Str → Option Value} {base : Heap}
def x_law_number_in : { t : Stmt // top 21 = t } := ⟨_, by conv => { lhs; whnf }⟩
abbrev s_law_number_in : Stmt := x_law_number_in.1
theorem sc_law_number_in : FnScope ["word", "figures", "figure"] ["word"] (defScope s_law_number_in) := ⟨rfl, rfl, rfl, by decide +kernel, rfl, by decide +kernel, by decide +kernel⟩
theorem fn_number_in (B : Bl mg bls) (D : DefAt K mg "_law_number_in" s_law_number_in ["word"]) : Fn P w K mg base 1 "_law_number_in" ["word"] spNumIn := by
  refine D.fn sc_law_number_in (fun vs H Q E h => ?_) (fun f cdv A outer s H vs Q E hr h => ?_)
  · obtain ⟨x, rfl, _⟩ := h; rfl
  · obtain ⟨w, rfl, hl, q⟩ := h
    refine' ⟨_, ?tm, ?rd⟩
    (case tm =>
      (conv => { arg 2; whnf })
      refine' pss_cons ?s0 ?r0
      (case s0 =>
        exact (ps_set (i := 1) sc_law_number_in.nd (by rfl) (by first | exact Or.inl rfl | exact Or.inr rfl) (pe_ifExp (pt_cmpR op_eq (pe_slice sl_str (pv 0) po_none (po_some pe_int)) pe_str (nomark _)) (pe_slice sl_str (pv 0) (po_some pe_int) po_none) (pv 0))))
      (case r0 =>
        refine' pss_cons ?s0x ?r0x
        (case s0x =>
          refine' ps_if ?c0x ?a0x ?b0x
          (case c0x => exact (PW.pt (pw_or (pt_not (pt_chain op_le op_le pe_int (pe_callB call_len_str (by rfl) (B "len" (by decide +kernel)) (by decide +kernel) (pa_cons (pv 1) pa_nil)) pe_int)) (pw_or1 (PW.pt (pw_and (pt_cmpR op_eq (pe_ix ix_str (pv 1) pe_int (fun _ _ => rfl)) pe_str (nomark _)) (pw_and1 (pt_cmpR op_ne (pv 0) pe_str (nomark _)))))))))
          (case a0x =>
            refine' pss_one ?s0xi
            (case s0xi =>
              exact (ps_ret pe_non)))
          (case b0x =>
            exact pss_nil))
        (case r0x =>
          refine' pss_one ?s0xx
          (case s0xx =>
            exact (ps_ret (pe_ifExp (pt_val (pe_callB (cr_all rfl) (by rfl) (B "all" (by decide +kernel)) (by decide +kernel) (pa_cons (pe_lc (own := [("figure", 2)]) (g := (gName 2)) (by rfl) sc_law_number_in.nd (pi_str (pv 1)) (blkOk_by (own := [("figure", 2)]) (N := ["word", "figures", "figure"]) (sc := defScope s_law_number_in) (by decide +kernel)) (fun _ _ _ _ _ => (pg_name (i := 2) sc_law_number_in.nd (by rfl) (by first | exact Or.inl rfl | exact Or.inr rfl))) (fun _ _ _ _ _ => pts_nil) (fun _ _ _ _ _ => (pe_cmpR op_in_sign (pv 2) pe_str (by rfl)))) pa_nil))) (pe_callTy call_int_str (by rfl) (B "int" (by decide +kernel)) (by decide +kernel) (pa_cons (pv 0) pa_nil)) pe_non))))))
    have e : sizeLine = 16777216 := sizeLine_eq
    have hfl := figs_len w
    refine seqJ (fun σ' H' => σ' = [some (.str w), some (.str (figsOf w)), none] ∧ H' = H) (fun fin => ?_) ?_
    · refine ⟨_, rfl, 1, rfl, w, rfl, by omega, rfl, _, rfl, ?_⟩
      rw [first_minus]
      refine ite2 (fun z => ?_) (fun z => ?_)
      · obtain ⟨cs, z⟩ := hd_iff.mp (of_decide_eq_true z)
        refine ⟨_, rfl, 1, rfl, w, rfl, by omega, ?_⟩
        rw [cut_figs z]
        exact fin _ _ ⟨rfl, rfl⟩
      · refine ⟨_, rfl, ?_⟩
        have hf : figsOf w = w := figs_else fun cs y => z (decide_eq_true (hd_iff.mpr ⟨cs, y⟩))
        have := fin [some (.str w), some (.str w), none] H ⟨by rw [hf], rfl⟩
        exact this
    rintro _ H1 ⟨rfl, e1⟩
    obtain rfl := e1.symm
    have hI := isNum_cases w
    have qN : isNum w = false → ∀ H', Same H H' → Q .non H' := fun z H' s' => by
      have := q H' s'
      unfold oI54 at this
      rw [if_neg (by rw [z]; decide)] at this
      exact this
    have qY : isNum w = true → ∀ H', Same H H' → Q (.int (numOf w)) H' := fun z H' s' => by
      have := q H' s'
      unfold oI54 at this
      rw [if_pos z] at this
      exact this
    clear q
    generalize figsOf w = fg at hfl hI ⊢
    have hfg := len_sg fg
    have rej : isNum w = false → tRet (tC .non) { nx := fun _ H' => Q .non H', rt := Q } [some (.str w), some (.str fg), none] H := fun z => qN z H (Same.refl H)
    refine seqJ (fun σ' H' => σ' = [some (.str w), some (.str fg), none] ∧ H' = H ∧ 1 ≤ fg.length ∧ fg.length ≤ 13 ∧ (decide ((sg fg)[0]? = some 48) && !decide (w = "0")) = false) (fun fin => ?_) ?_
    · refine ⟨_, rfl, fg, rfl, by omega, _, _, rfl, rfl, _, rfl, ?_⟩
      refine ite2 (fun h1 => ?_) (fun h1 => ?_)
      · have h1 := of_decide_eq_true h1
        refine ⟨_, _, rfl, rfl, _, rfl, ?_⟩
        by_cases h2 : (fg.length : Int) ≤ 13
        · rw [decide_eq_true h2]
          have hc : ∃ c, (sg fg)[0]? = some c := ⟨(sg fg)[0]'(by omega), List.getElem?_eq_getElem _⟩
          obtain ⟨c, hc⟩ := hc
          refine ⟨_, rfl, fg, 0, c, rfl, rfl, by omega, (show atI (sg fg) ((0 : Nat) : Int) = some c from atI_nat hc), rfl, _, rfl, ?_⟩
          have ec : decide (V.str ⟨#[c]⟩ = V.str "0") = decide ((sg fg)[0]? = some 48) := by
            rw [str_dec, hc]
            apply decide_eq_decide.mpr
            constructor
            · intro h
              have h := congrArg sg h
              have h : [c] = [48] := h
              rw [(List.cons.inj h).1]
            · intro h
              cases h; rfl
          rw [ec]
          refine ite2 (fun z => ?_) (fun z => ?_)
          · have z := of_decide_eq_true z
            refine ⟨_, rfl, rfl, _, rfl, ?_⟩
            rw [str_dec]
            by_cases z2 : w = "0"
            · rw [decide_eq_true z2]
              exact fin _ _ ⟨rfl, rfl, by omega, by omega, by rw [decide_eq_true z2]; cases decide ((sg fg)[0]? = some 48) <;> rfl⟩
            · rw [decide_eq_false z2]
              exact rej (by rw [hI, decide_eq_true z, decide_eq_false z2]; cases decide (1 ≤ (sg fg).length ∧ (sg fg).length ≤ 13) <;> rfl)
          · have z : ¬ (sg fg)[0]? = some 48 := fun y => z (decide_eq_true y)
            exact fin _ _ ⟨rfl, rfl, by omega, by omega, by rw [decide_eq_false z]; rfl⟩
        · rw [decide_eq_false h2]
          exact rej (by rw [hI, decide_eq_false (by omega)]; rfl)
      · have h1 : ¬ ((1 : Int) ≤ fg.length) := fun z => h1 (decide_eq_true z)
        refine ⟨_, rfl, ?_⟩
        exact rej (by rw [hI, decide_eq_false (by omega)]; rfl)
    rintro _ H1 ⟨rfl, e1, l1, l2, hb⟩
    obtain rfl := e1.symm
    rw [decide_eq_true (by omega), hb] at hI
    have hI : isNum w = (sg fg).all fun c => decide (48 ≤ c ∧ c ≤ 57) := by rw [hI]; rfl
    refine ⟨_, rfl, fg, rfl, fun D hD => ?_⟩
    refine lc_signs (x := fg) (out := fun c => V.bl (decide (48 ≤ c ∧ c ≤ 57))) hD (by omega) (fun _ => rfl) (fun c H' R hc s' hR => ?_) (fun H3 c3 s3 => ?_)
    · refine ⟨_, rfl, c, _, rfl, rfl, ?_⟩
      rw [dig_in]
      exact hR H' (Same.refl H')
    · have e3 : (sg fg).map (fun c => V.bl (decide (48 ≤ c ∧ c ≤ 57))) = ((sg fg).map fun c => decide (48 ≤ c ∧ c ≤ 57)).map V.bl := by rw [List.map_map]; rfl
      rw [e3] at c3
      refine ⟨D, _, rfl, SqL.of c3, _, rfl, ?_⟩
      rw [List.all_map]
      have e4 : (sg fg).all (id ∘ fun c => decide (48 ≤ c ∧ c ≤ 57)) = isNum w := by rw [hI]; rfl
      rw [e4]
      cases hn : isNum w with
      | false => exact qN hn H3 s3
      | true =>
        obtain ⟨r1, r2⟩ := isNum_reads hn
        exact ⟨_, rfl, w, _, rfl, r1, by omega, qY hn H3 s3⟩
end

end Law

set_option Elab.async false
set_option linter.all false
set_option maxRecDepth 100000
set_option maxHeartbeats 4000000
namespace Law
open PySem L2
def Deck (H : Hp) (p : Addr) (m : Int) : Prop := ∃ a b c : Int, H p = some (.lst [.int a, .int b, .int c]) ∧ 0 ≤ c ∧ c ≤ m ∧ m ≤ 100000000
theorem Deck.mono {H : Hp} {p : Addr} {m m' : Int} (h : Deck H p m) (k : m ≤ m') (k' : m' ≤ 100000000) : Deck H p m' := by
  obtain ⟨a, b, c, e, h0, h1, h2⟩ := h
  exact ⟨a, b, c, e, h0, by omega, k'⟩
theorem Deck.but {H H' : Hp} {p q : Addr} {m : Int} (h : Deck H p m) (n : p ≠ q) (s : But q H H') : Deck H' p m := by
  obtain ⟨a, b, c, e, h0⟩ := h
  exact ⟨a, b, c, s.lst n e, h0⟩
theorem Deck.same {H H' : Hp} {p : Addr} {m : Int} (h : Deck H p m) (s : Same H H') : Deck H' p m := by
  obtain ⟨a, b, c, e, h0⟩ := h
  exact ⟨a, b, c, s _ _ e, h0⟩
def spDeck : Sp := fun vs H Q _ => ∃ cell k : Int, vs = [.int cell, .int k] ∧ 0 ≤ k ∧ k ≤ 100 ∧ ∀ p H', H p = none → Same H H' → Deck H' p 100 → Q (.ref p) H'
def spTakeD : Sp := fun vs H Q _ => ∃ (p : Addr) (many m : Int), vs = [.ref p, .int many] ∧ Deck H p m ∧ m < 100000000 ∧ 0 < many ∧ many < 4611686018427387904 ∧ ∀ got H', 0 ≤ got → got < many → Deck H' p (m + 1) → But p H H' → Q (.int got) H'
def B12 (n : Int) : Prop := -1000000000000 ≤ n ∧ n ≤ 1000000000000
def spNumberD : Sp := fun vs H Q _ => ∃ (p : Addr) (m : Int), vs = [.ref p] ∧ Deck H p m ∧ m + 3 ≤ 100000000 ∧ ∀ got H', B12 got → Deck H' p (m + 3) → But p H H' → Q (.int got) H'
def spRowD : Sp := fun vs H Q _ => ∃ (p : Addr) (most m : Int), vs = [.ref p, .int most] ∧ Deck H p m ∧ 0 ≤ most ∧ most ≤ 300 ∧ m + 3000 ≤ 100000000 ∧ ∀ (a : Addr) (H' : Hp) (ns : List Int), H a = none → a ≠ p → But p H H' → Deck H' p (m + 3000) → H' a = some (.lst (ns.map V.int)) → (ns.length : Int) ≤ most → (∀ n ∈ ns, B12 n) → Q (.ref a) H'
section
variable {P : Program} {w : World} {K : PySem.W.Frag} {mg : Str → Option Value} {base : Heap}
def x_law_deck : { t : Stmt // top 16 = t } := ⟨_, by conv => { lhs; whnf }⟩
abbrev s_law_deck : Stmt := x_law_deck.1
theorem sc_law_deck : FnScope ["cell", "k"] ["cell", "k"] (defScope s_law_deck) := ⟨rfl, rfl, rfl, by decide +kernel, rfl, by decide +kernel, by decide +kernel⟩
theorem fn_deck (D : DefAt K mg "_law_deck" s_law_deck ["cell", "k"]) : Fn P w K mg base 1 "_law_deck" ["cell", "k"] spDeck := by
  refine D.fn sc_law_deck (fun vs H Q E h => ?_) (fun f cdv A outer s H vs Q E hr h => ?_)
  · obtain ⟨c, k, rfl, _⟩ := h; rfl
  · obtain ⟨c, k, rfl, h0, h1, q⟩ := h
    refine' ⟨_, ?tm, ?rd⟩
    (case tm =>
      (conv => { arg 2; whnf })
      refine' pss_cons ?s0 ?r0
      (case s0 =>
        refine' ps_if ?c0 ?a0 ?b0
        (case c0 => exact (pt_cmpR op_ge (pv 0) (pe_op op_pow pe_int pe_int) (nomark _)))
        (case a0 =>
          refine' pss_one ?s0i
          (case s0i =>
            exact (ps_ret (pe_lst (pa_cons (pe_op op_sub (pv 0) (pe_op op_pow pe_int pe_int)) (pa_cons pe_int (pa_cons (pv 1) pa_nil)))))))
        (case b0 =>
          exact pss_nil))
      (case r0 =>
        refine' pss_one ?s0x
        (case s0x =>
          exact (ps_ret (pe_lst (pa_cons (pv 0) (pa_cons pe_int (pa_cons (pv 1) pa_nil))))))))
    refine ⟨_, rfl, _, _, rfl, rfl, ⟨by decide, by decide, by decide⟩, _, _, rfl, rfl, _, rfl, ?_⟩
    refine ite2 (fun _ => ?_) (fun _ => ?_)
    · refine ⟨_, rfl, _, _, rfl, rfl, ⟨by decide, by decide, by decide⟩, _, _, rfl, rfl, _, rfl, (by show 3 ≤ sizeLine; decide), fun p hp => ?_⟩
      exact q p _ hp (Same.new hp) ⟨_, _, _, upd_same, h0, h1, by decide⟩
    · exact ⟨_, rfl, _, rfl, (by show 3 ≤ sizeLine; decide), fun p hp => q p _ hp (Same.new hp) ⟨_, _, _, upd_same, h0, h1, by decide⟩⟩
def x_law_take : { t : Stmt // top 15 = t } := ⟨_, by conv => { lhs; whnf }⟩
abbrev s_law_take : Stmt := x_law_take.1
theorem sc_law_take : FnScope ["deck", "many", "come", "number"] ["deck", "many"] (defScope s_law_take) := ⟨rfl, rfl, rfl, by decide +kernel, rfl, by decide +kernel, by decide +kernel⟩
theorem fn_takeD (D : DefAt K mg "_law_take" s_law_take ["deck", "many"]) : Fn P w K mg base 1 "_law_take" ["deck", "many"] spTakeD := by
  refine D.fn sc_law_take (fun vs H Q E h => ?_) (fun f cdv A outer s H vs Q E hr h => ?_)
  · obtain ⟨p, many, m, rfl, _⟩ := h; rfl
  · obtain ⟨p, many, m, rfl, ⟨a, b, c, hp, hc0, hc1, hm1⟩, hm, hl0, hl1, q⟩ := h
    refine' ⟨_, ?tm, ?rd⟩
    (case tm =>
      (conv => { arg 2; whnf })
      refine' pss_cons ?s0 ?r0
      (case s0 =>
        refine' ps_if ?c0 ?a0 ?b0
        (case c0 => exact (pt_cmpR op_eq (pe_ix ix_list (pv 0) pe_int (fun _ _ => rfl)) pe_int (nomark _)))
        (case a0 =>
          refine' pss_cons ?s0i ?r0i
          (case s0i =>
            exact (ps_set (i := 2) sc_law_take.nd (by rfl) (by first | exact Or.inl rfl | exact Or.inr rfl) (pe_op op_mod (pe_ix ix_list (pv 0) pe_int (fun _ _ => rfl)) (pv 1))))
          (case r0i =>
            refine' pss_cons ?s0ix ?r0ix
            (case s0ix =>
              exact (ps_asg (pe_op op_fdivW (pe_ix ix_list (pv 0) pe_int (fun _ _ => rfl)) (pv 1)) (pg_sub (pv 0) pe_int set_list)))
            (case r0ix =>
              refine' pss_one ?s0ixx
              (case s0ixx =>
                exact (ps_ret (pv 2))))))
        (case b0 =>
          exact pss_nil))
      (case r0 =>
        refine' pss_cons ?s0x ?r0x
        (case s0x =>
          exact (ps_asg (pe_op op_add (pe_ix ix_list (pv 0) pe_int (fun _ _ => rfl)) pe_int) (pg_sub (pv 0) pe_int set_list)))
        (case r0x =>
          refine' pss_cons ?s0xx ?r0xx
          (case s0xx =>
            exact (ps_set (i := 3) sc_law_take.nd (by rfl) (by first | exact Or.inl rfl | exact Or.inr rfl) (pe_op op_mul (pe_op op_mod (pe_ix ix_list (pv 0) pe_int (fun _ _ => rfl)) pe_int) (pe_op op_add (pe_op op_mul (pe_ix ix_list (pv 0) pe_int (fun _ _ => rfl)) (pe_ix ix_list (pv 0) pe_int (fun _ _ => rfl))) pe_int))))
          (case r0xx =>
            refine' pss_cons ?s0xxx ?r0xxx
            (case s0xxx =>
              exact (ps_set (i := 3) sc_law_take.nd (by rfl) (by first | exact Or.inl rfl | exact Or.inr rfl) (pe_op op_mod (pe_op op_add (pe_op op_add (pv 3) (pe_ix ix_list (pv 0) pe_int (fun _ _ => rfl))) pe_int) pe_int)))
            (case r0xxx =>
              refine' pss_cons ?s0xxxx ?r0xxxx
              (case s0xxxx =>
                exact (ps_set (i := 3) sc_law_take.nd (by rfl) (by first | exact Or.inl rfl | exact Or.inr rfl) (pe_op op_mod (pe_op op_mul (pv 3) (pv 3)) pe_int)))
              (case r0xxxx =>
                refine' pss_one ?s0xxxxx
                (case s0xxxxx =>
                  exact (ps_ret (pe_op op_mod (pe_op op_fdivW (pe_op op_mod (pe_op op_mul (pv 3) pe_int) pe_int) pe_int) (pv 1))))))))))
    refine ⟨_, rfl, _, _, _, _, rfl, rfl, SqL.of hp, rfl, rfl, _, rfl, ?_⟩
    refine ite2 (fun hd => ?_) (fun hd => ?_)
    · refine ⟨_, rfl, _, _, _, _, rfl, rfl, SqL.of hp, rfl, _, rfl, _, _, rfl, rfl, hl0, ?_⟩
      refine ⟨_, rfl, _, _, _, _, rfl, rfl, SqL.of hp, rfl, _, rfl, _, _, rfl, rfl, ⟨hl0, hl1⟩, _, rfl, _, _, _, _, rfl, rfl, hp, rfl, ?_⟩
      exact ⟨_, rfl, q _ _ (Int.emod_nonneg _ (by omega)) (Int.emod_lt_of_pos _ hl0) ⟨_, _, c, upd_same, hc0, by omega, by omega⟩ (But.upd _)⟩
    · have small : ∀ (x y : Int), 0 < y → y < 2 ^ 63 → -(2 ^ 64) < x % y ∧ x % y < 2 ^ 64 := fun x y h0 h1 => by
        have := Int.emod_nonneg x (Int.ne_of_gt h0)
        have := Int.emod_lt_of_pos x h0
        omega
      refine ⟨_, rfl, _, _, _, _, rfl, rfl, SqL.of hp, rfl, _, _, rfl, rfl, _, rfl, _, _, _, _, rfl, rfl, hp, rfl, ?_⟩
      refine ⟨_, rfl, _, _, _, _, rfl, rfl, SqL.of upd_same, rfl, _, _, rfl, rfl, (by show (0 : Int) < _; decide), _, rfl, _, _, _, _, rfl, rfl, SqL.of upd_same, rfl, _, rfl, _, _, _, _, rfl, rfl, SqL.of upd_same, rfl, _, _, rfl, rfl, .inl ⟨by omega, by omega⟩, _, _, rfl, rfl, _, _, rfl, rfl, .inl (small _ _ (by decide) (by decide)), ?_⟩
      refine ⟨_, rfl, _, rfl, _, _, _, _, rfl, rfl, SqL.of upd_same, rfl, _, _, rfl, rfl, _, _, rfl, rfl, _, _, rfl, rfl, (by show (0 : Int) < _; decide), ?_⟩
      refine ⟨_, rfl, _, rfl, _, _, rfl, rfl, .inl (small _ _ (by decide) (by decide)), _, _, rfl, rfl, (by show (0 : Int) < _; decide), ?_⟩
      refine ⟨_, rfl, _, _, rfl, rfl, .inl (small _ _ (by decide) (by decide)), _, _, rfl, rfl, (by show (0 : Int) < _; decide), _, _, rfl, rfl, ⟨by decide, by decide⟩, _, rfl, _, _, rfl, rfl, hl0, ?_⟩
      exact q _ _ (Int.emod_nonneg _ (by omega)) (Int.emod_lt_of_pos _ hl0) ⟨_, _, _, upd_same, by omega, by omega, by omega⟩ (But.upd _)
def x_law_number : { t : Stmt // top 17 = t } := ⟨_, by conv => { lhs; whnf }⟩
abbrev s_law_number : Stmt := x_law_number.1
theorem sc_law_number : FnScope ["deck", "way", "size", "far"] ["deck"] (defScope s_law_number) := ⟨rfl, rfl, rfl, by decide +kernel, rfl, by decide +kernel, by decide +kernel⟩
theorem fn_numberD (D : DefAt K mg "_law_number" s_law_number ["deck"]) (F_law_take : Fn P w K mg base 1 "_law_take" ["deck", "many"] spTakeD) : Fn P w K mg base 2 "_law_number" ["deck"] spNumberD := by
  refine D.fn sc_law_number (fun vs H Q E h => ?_) (fun f cdv A outer s H vs Q E hr h => ?_)
  · obtain ⟨p, m, rfl, _⟩ := h; rfl
  · obtain ⟨p, m, rfl, hd, hm, q⟩ := h
    refine' ⟨_, ?tm, ?rd⟩
    (case tm =>
      (conv => { arg 2; whnf })
      refine' pss_cons ?s0 ?r0
      (case s0 =>
        exact (ps_set (i := 1) sc_law_number.nd (by rfl) (by first | exact Or.inl rfl | exact Or.inr rfl) (pe_fn F_law_take hr (by rfl) (pa_cons (pv 0) (pa_cons pe_int pa_nil)))))
      (case r0 =>
        refine' pss_cons ?s0x ?r0x
        (case s0x =>
          refine' ps_if ?c0x ?a0x ?b0x
          (case c0x => exact (pt_cmpR op_lt (pv 1) pe_int (nomark _)))
          (case a0x =>
            refine' pss_cons ?s0xi ?r0xi
            (case s0xi =>
              refine' ps_set (i := 2) ?n0xi ?h0xi ?x0xi ?e0xi ?w0xi ?f0xi
              (case n0xi => exact sc_law_number.nd)
              (case h0xi => rfl)
              (case x0xi => first | exact Or.inl rfl | exact Or.inr rfl)
              (case w0xi => rfl)
              (case f0xi => first | exact .inl rfl | exact .inr rfl)
              (case e0xi =>
                refine' pe_ix ix_list ?A0xi ?B0xi (fun _ _ => rfl)
                (case A0xi =>
                  refine' pe_lst ?L0xi
                  (case L0xi =>
                    refine' pa_cons ?a0xi ?q0xi ?z0xi
                    (case z0xi => rfl)
                    (case a0xi => exact pe_int)
                    (case q0xi =>
                    refine' pa_cons ?a0xiq ?q0xiq ?z0xiq
                    (case z0xiq => rfl)
                    (case a0xiq => exact pe_int)
                    (case q0xiq =>
                    refine' pa_cons ?a0xiqq ?q0xiqq ?z0xiqq
                    (case z0xiqq => rfl)
                    (case a0xiqq => exact pe_int)
                    (case q0xiqq =>
                    refine' pa_cons ?a0xiqqq ?q0xiqqq ?z0xiqqq
                    (case z0xiqqq => rfl)
                    (case a0xiqqq => exact (pe_op op_pow pe_int pe_int))
                    (case q0xiqqq =>
                    refine' pa_cons ?a0xiqqqq ?q0xiqqqq ?z0xiqqqq
                    (case z0xiqqqq => rfl)
                    (case a0xiqqqq => exact (pe_op op_pow pe_int pe_int))
                    (case q0xiqqqq =>
                    exact pa_nil)))))))
                (case B0xi => exact (pv 1))))
            (case r0xi =>
              refine' pss_one ?s0xix
              (case s0xix =>
                exact (ps_ret (pe_op op_sub (pe_fn F_law_take hr (by rfl) (pa_cons (pv 0) (pa_cons (pv 2) pa_nil))) (pe_op op_fdiv (pv 2) pe_int))))))
          (case b0x =>
            exact pss_nil))
        (case r0x =>
          refine' pss_cons ?s0xx ?r0xx
          (case s0xx =>
            refine' ps_set (i := 3) ?n0xx ?h0xx ?x0xx ?e0xx ?w0xx ?f0xx
            (case n0xx => exact sc_law_number.nd)
            (case h0xx => rfl)
            (case x0xx => first | exact Or.inl rfl | exact Or.inr rfl)
            (case w0xx => rfl)
            (case f0xx => first | exact .inl rfl | exact .inr rfl)
            (case e0xx =>
              refine' pe_ix ix_list ?A0xx ?B0xx (fun _ _ => rfl)
              (case A0xx =>
                refine' pe_lst ?L0xx
                (case L0xx =>
                  refine' pa_cons ?a0xx ?q0xx ?z0xx
                  (case z0xx => rfl)
                  (case a0xx => exact (pe_op op_pow pe_int pe_int))
                  (case q0xx =>
                  refine' pa_cons ?a0xxq ?q0xxq ?z0xxq
                  (case z0xxq => rfl)
                  (case a0xxq => exact (pe_op op_sub (pe_op op_pow pe_int pe_int) pe_int))
                  (case q0xxq =>
                  refine' pa_cons ?a0xxqq ?q0xxqq ?z0xxqq
                  (case z0xxqq => rfl)
                  (case a0xxqq => exact (pe_op op_add (pe_op op_pow pe_int pe_int) pe_int))
                  (case q0xxqq =>
                  refine' pa_cons ?a0xxqqq ?q0xxqqq ?z0xxqqq
                  (case z0xxqqq => rfl)
                  (case a0xxqqq => exact pe_int)
                  (case q0xxqqq =>
                  exact pa_nil))))))
              (case B0xx => exact (pe_fn F_law_take hr (by rfl) (pa_cons (pv 0) (pa_cons pe_int pa_nil))))))
          (case r0xx =>
            refine' pss_one ?s0xxx
            (case s0xxx =>
              exact (ps_ret (pe_op op_mul (pv 3) (pe_op op_sub pe_int (pe_op op_mul pe_int (pe_fn F_law_take hr (by rfl) (pa_cons (pv 0) (pa_cons pe_int pa_nil))))))))))))
    have ap : ∀ {H1 : Hp} {m1 : Int} {p1 : Addr} {o : HO}, Deck H1 p m1 → H1 p1 = none → Deck (upd H1 p1 o) p m1 := fun d h1 => d.same (Same.new h1)
    refine ⟨_, rfl, p, _, m, rfl, hd, by omega, by decide, by decide, fun way H1 a0 a1 d1 k1 => ?_⟩
    dsimp only [gName]
    refine seqJ (fun σ' H' => ∃ (x y : Option V), σ' = [some (.ref p), some (.int way), x, y] ∧ H' = H1) (fun fin => ?_) ?_
    · refine ⟨_, rfl, _, _, rfl, rfl, _, rfl, ?_⟩
      refine ite2 (fun hw => ?_) (fun hw => fin _ _ ⟨_, _, rfl, rfl⟩)
      have hw := of_decide_eq_true hw
      refine ⟨_, _, rfl, rfl, ⟨by decide, by decide, by decide⟩, _, _, rfl, rfl, ⟨by decide, by decide, by decide⟩, (by show 5 ≤ sizeLine; decide), fun p1 hp1 => ?_⟩
      obtain ⟨v, hv, ev⟩ := at_pick (ns := [3, 10, 60, 10 ^ Int.toNat 6, 10 ^ Int.toNat 12]) a0 (by show way < 5; omega)
      have hv : 3 ≤ v ∧ v ≤ 1000000000000 := by
        simp only [List.mem_cons, List.not_mem_nil, or_false] at hv
        have e6 : (10 : Int) ^ Int.toNat 6 = 1000000 := by decide
        have e12 : (10 : Int) ^ Int.toNat 12 = 1000000000000 := by decide
        rw [e6, e12] at hv
        omega
      refine ⟨_, rfl, _, _, _, _, rfl, rfl, SqL.of upd_same, ev, ?_⟩
      dsimp only [gName]
      refine ⟨_, rfl, _, rfl, p, _, _, rfl, ap d1 hp1, by omega, by omega, by omega, fun g H2 b0 b1 d2 k2 => ?_⟩
      refine ⟨_, rfl, _, _, rfl, rfl, ⟨by decide, by decide⟩, _, _, rfl, rfl, ?_⟩
      exact q _ _ ⟨by omega, by omega⟩ (d2.mono (by omega) (by omega)) (k1.trans ((But.new hp1).trans k2))
    rintro _ _ ⟨x, y, rfl, rfl⟩
    refine ⟨_, _, rfl, rfl, ⟨by decide, by decide, by decide⟩, _, _, rfl, rfl, ⟨by decide, by decide, by decide⟩, _, _, rfl, rfl, _, _, rfl, rfl, ⟨by decide, by decide, by decide⟩, _, _, rfl, rfl, (by show 4 ≤ sizeLine; decide), fun p1 hp1 => ?_⟩
    refine ⟨_, rfl, p, _, _, rfl, ap d1 hp1, by omega, by decide, by decide, fun g H2 b0 b1 d2 k2 => ?_⟩
    obtain ⟨v, hv, ev⟩ := at_pick (ns := [10 ^ Int.toNat 12, 10 ^ Int.toNat 12 - 1, 10 ^ Int.toNat 11 + 3, 0]) b0 (by show g < 4; omega)
    have hv : 0 ≤ v ∧ v ≤ 1000000000000 := by
      simp only [List.mem_cons, List.not_mem_nil, or_false] at hv
      have e11 : (10 : Int) ^ Int.toNat 11 = 100000000000 := by decide
      have e12 : (10 : Int) ^ Int.toNat 12 = 1000000000000 := by decide
      rw [e11, e12] at hv
      omega
    have np : p1 ≠ p := by
      obtain ⟨_, _, _, e, _⟩ := d1
      exact fun z => by rw [z, e] at hp1; cases hp1
    refine ⟨_, _, _, _, rfl, rfl, SqL.of (k2.lst np upd_same), ev, ?_⟩
    dsimp only [gName]
    refine ⟨_, rfl, _, rfl, p, _, _, rfl, d2, by omega, by decide, by decide, fun g2 H3 c0 c1 d3 k3 => ?_⟩
    refine ⟨_, _, rfl, rfl, .inl ⟨by decide, by decide⟩, _, _, rfl, rfl, _, _, rfl, rfl, .inl ⟨by omega, by omega⟩, ?_⟩
    have hz : g2 = 0 ∨ g2 = 1 := by omega
    refine q _ _ ?_ (d3.mono (by omega) (by omega)) (k1.trans ((But.new hp1).trans (k2.trans k3)))
    rcases hz with z | z
    · rw [z]; exact ⟨by omega, by omega⟩
    · rw [z]; exact ⟨by omega, by omega⟩
end

end Law

set_option Elab.async false
set_option linter.all false
set_option maxRecDepth 100000
set_option maxHeartbeats 4000000
namespace Law
open PySem L2
theorem mulOk_of {x : Str} {n : Int} (h0 : 1 ≤ n) (h1 : n ≤ 10000) (hx : x.length ≤ 100) : MulOk x n := by
  refine ⟨?_, fun _ _ => ?_, fun _ _ => ?_⟩
  · rw [Bool.or_eq_false_iff, decide_eq_false_iff_not, decide_eq_false_iff_not]; omega
  · have : (100 : Int) ≤ (2 ^ 63 - 1) / n := Int.le_ediv_of_mul_le (by omega) (by omega)
    omega
  · unfold PySem.Builtin.Str.tooLong
    rw [decide_eq_false_iff_not]
    have h2 : x.length * n.toNat ≤ 100 * 10000 := Nat.mul_le_mul hx (by omega)
    have e : sizeLine = 16777216 := sizeLine_eq
    omega
theorem foldl_len (c : Array Nat) : ∀ (k : Nat) (acc : Array Nat), ((List.replicate k c).foldl (· ++ ·) acc).size = acc.size + k * c.size
  | 0, acc => by simp
  | k + 1, acc => by
    rw [List.replicate_succ, List.foldl_cons, foldl_len c k, Array.size_append, Nat.succ_mul]; omega
theorem mul_len (x : Str) (n : Int) : (Txt.mul x n).length ≤ x.length * n.toNat := by
  unfold Txt.mul
  split
  · exact Nat.zero_le _
  · rename_i h
    split
    · rename_i h2
      rcases Bool.or_eq_true_iff.mp h2 with z | z
      · have : n = 1 := by simpa using z
        rw [this]; simp
      · have : x.length = 0 := by simpa using z
        omega
    · show ((List.replicate n.toNat x.cps).foldl (· ++ ·) #[]).size ≤ _
      rw [foldl_len]
      show 0 + n.toNat * x.cps.size ≤ x.cps.size * n.toNat
      rw [Nat.mul_comm]; omega
theorem ixS_at {z : Str} {g : Int} (h0 : 0 ≤ g) (h1 : g < z.length) : ∃ c, atI z.cps.toList g = some c := by
  obtain ⟨k, rfl⟩ := Int.eq_ofNat_of_zero_le h0
  have hl := len_sg z
  have hk : k < (sg z).length := by omega
  exact ⟨(sg z)[k], atI_nat (List.getElem?_eq_getElem hk)⟩
def AllS (l : List V) : Prop := ∀ v ∈ l, ∃ x : Str, v = .str x ∧ x.length ≤ 1000
theorem allS_nil : AllS [] := fun _ h => nomatch h
theorem allS_cons {x : Str} {l : List V} (h : x.length ≤ 1000) (k : AllS l) : AllS (.str x :: l) := fun v hv => by
  rcases List.mem_cons.mp hv with rfl | hv
  · exact ⟨x, rfl, h⟩
  · exact k v hv
theorem AllS.app {l r : List V} (h : AllS l) (k : AllS r) : AllS (l ++ r) := fun v hv => (List.mem_append.mp hv).elim (h v) (k v)
def spBad : Sp := fun vs H Q _ => ∃ (p : Addr) (m : Int), vs = [.ref p] ∧ Deck H p m ∧ m + 3 ≤ 100000000 ∧ ∀ (x : Str) H', x.length ≤ 1000 → Deck H' p (m + 3) → But p H H' → Q (.str x) H'
section
variable {P : Program} {w : World} {K : PySem.W.Frag} {mg : Str → Option Value} {base : Heap}
def x_law_bad : { t : Stmt // top 19 = t } := ⟨_, by conv => { lhs; whnf }⟩
abbrev s_law_bad : Stmt := x_law_bad.1
theorem sc_law_bad : FnScope ["deck", "some", "odd"] ["deck"] (defScope s_law_bad) := ⟨rfl, rfl, rfl, by decide +kernel, rfl, by decide +kernel, by decide +kernel⟩
theorem fn_bad54 (B : Bl mg bls) (D : DefAt K mg "_law_bad" s_law_bad ["deck"]) (F_law_take : Fn P w K mg base 1 "_law_take" ["deck", "many"] spTakeD) : Fn P w K mg base 2 "_law_bad" ["deck"] spBad := by
  refine D.fn sc_law_bad (fun vs H Q E h => ?_) (fun f cdv A outer s H vs Q E hr h => ?_)
  · obtain ⟨p, m, rfl, _⟩ := h; rfl
  · obtain ⟨p, m, rfl, hd, hm, q⟩ := h
    refine' ⟨_, ?tm, ?rd⟩
    (case tm =>
      (conv => { arg 2; whnf })
      refine' pss_cons ?s0 ?r0
      (case s0 =>
        refine' ps_set (i := 1) ?n0 ?h0 ?x0 ?e0 ?w0 ?f0
        (case n0 => exact sc_law_bad.nd)
        (case h0 => rfl)
        (case x0 => first | exact Or.inl rfl | exact Or.inr rfl)
        (case w0 => rfl)
        (case f0 => first | exact .inl rfl | exact .inr rfl)
        (case e0 =>
          refine' pe_lst ?L0
          (case L0 =>
            refine' pa_cons ?a0 ?q0 ?z0
            (case z0 => rfl)
            (case a0 => exact pe_str)
            (case q0 =>
            refine' pa_cons ?a0q ?q0q ?z0q
            (case z0q => rfl)
            (case a0q => exact pe_str)
            (case q0q =>
            refine' pa_cons ?a0qq ?q0qq ?z0qq
            (case z0qq => rfl)
            (case a0qq => exact pe_str)
            (case q0qq =>
            refine' pa_cons ?a0qqq ?q0qqq ?z0qqq
            (case z0qqq => rfl)
            (case a0qqq => exact pe_str)
            (case q0qqq =>
            refine' pa_cons ?a0qqqq ?q0qqqq ?z0qqqq
            (case z0qqqq => rfl)
            (case a0qqqq => exact pe_str)
            (case q0qqqq =>
            refine' pa_cons ?a0qqqqq ?q0qqqqq ?z0qqqqq
            (case z0qqqqq => rfl)
            (case a0qqqqq => exact pe_str)
            (case q0qqqqq =>
            refine' pa_cons ?a0qqqqqq ?q0qqqqqq ?z0qqqqqq
            (case z0qqqqqq => rfl)
            (case a0qqqqqq => exact pe_str)
            (case q0qqqqqq =>
            refine' pa_cons ?a0qqqqqqq ?q0qqqqqqq ?z0qqqqqqq
            (case z0qqqqqqq => rfl)
            (case a0qqqqqqq => exact pe_str)
            (case q0qqqqqqq =>
            refine' pa_cons ?a0qqqqqqqq ?q0qqqqqqqq ?z0qqqqqqqq
            (case z0qqqqqqqq => rfl)
            (case a0qqqqqqqq => exact pe_str)
            (case q0qqqqqqqq =>
            refine' pa_cons ?a0qqqqqqqqq ?q0qqqqqqqqq ?z0qqqqqqqqq
            (case z0qqqqqqqqq => rfl)
            (case a0qqqqqqqqq => exact pe_str)
            (case q0qqqqqqqqq =>
            refine' pa_cons ?a0qqqqqqqqqq ?q0qqqqqqqqqq ?z0qqqqqqqqqq
            (case z0qqqqqqqqqq => rfl)
            (case a0qqqqqqqqqq => exact pe_str)
            (case q0qqqqqqqqqq =>
            refine' pa_cons ?a0qqqqqqqqqqq ?q0qqqqqqqqqqq ?z0qqqqqqqqqqq
            (case z0qqqqqqqqqqq => rfl)
            (case a0qqqqqqqqqqq => exact pe_str)
            (case q0qqqqqqqqqqq =>
            refine' pa_cons ?a0qqqqqqqqqqqq ?q0qqqqqqqqqqqq ?z0qqqqqqqqqqqq
            (case z0qqqqqqqqqqqq => rfl)
            (case a0qqqqqqqqqqqq => exact pe_str)
            (case q0qqqqqqqqqqqq =>
            refine' pa_cons ?a0qqqqqqqqqqqqq ?q0qqqqqqqqqqqqq ?z0qqqqqqqqqqqqq
            (case z0qqqqqqqqqqqqq => rfl)
            (case a0qqqqqqqqqqqqq => exact pe_str)
            (case q0qqqqqqqqqqqqq =>
            exact pa_nil)))))))))))))))))
      (case r0 =>
        refine' pss_cons ?s0x ?r0x
        (case s0x =>
          refine' ps_set (i := 1) ?n0x ?h0x ?x0x ?e0x ?w0x ?f0x
          (case n0x => exact sc_law_bad.nd)
          (case h0x => rfl)
          (case x0x => first | exact Or.inl rfl | exact Or.inr rfl)
          (case w0x => rfl)
          (case f0x => first | exact .inl rfl | exact .inr rfl)
          (case e0x =>
            refine' pe_op op_cat ?A0x ?B0x
            (case A0x => exact (pv 1))
            (case B0x =>
              refine' pe_lst ?L0x
              (case L0x =>
                refine' pa_cons ?a0x ?q0x ?z0x
                (case z0x => rfl)
                (case a0x => exact pe_str)
                (case q0x =>
                refine' pa_cons ?a0xq ?q0xq ?z0xq
                (case z0xq => rfl)
                (case a0xq => exact (pe_op op_rep_str pe_str pe_int))
                (case q0xq =>
                refine' pa_cons ?a0xqq ?q0xqq ?z0xqq
                (case z0xqq => rfl)
                (case a0xqq => exact (pe_op op_add_str pe_str (pe_op op_rep_str pe_str pe_int)))
                (case q0xqq =>
                refine' pa_cons ?a0xqqq ?q0xqqq ?z0xqqq
                (case z0xqqq => rfl)
                (case a0xqqq => exact (pe_op op_add_str pe_str (pe_op op_rep_str pe_str pe_int)))
                (case q0xqqq =>
                refine' pa_cons ?a0xqqqq ?q0xqqqq ?z0xqqqq
                (case z0xqqqq => rfl)
                (case a0xqqqq => exact (pe_op op_rep_str pe_str pe_int))
                (case q0xqqqq =>
                refine' pa_cons ?a0xqqqqq ?q0xqqqqq ?z0xqqqqq
                (case z0xqqqqq => rfl)
                (case a0xqqqqq => exact (pe_op op_rep_str pe_str pe_int))
                (case q0xqqqqq =>
                refine' pa_cons ?a0xqqqqqq ?q0xqqqqqq ?z0xqqqqqq
                (case z0xqqqqqq => rfl)
                (case a0xqqqqqq => exact (pe_op op_rep_str pe_str pe_int))
                (case q0xqqqqqq =>
                exact pa_nil)))))))))))
        (case r0x =>
          refine' pss_cons ?s0xx ?r0xx
          (case s0xx =>
            exact (ps_set (i := 1) sc_law_bad.nd (by rfl) (by first | exact Or.inl rfl | exact Or.inr rfl) (pe_op op_cat (pv 1) (pe_lst (pa_cons pe_str (pa_cons pe_str pa_nil))))))
          (case r0xx =>
            refine' pss_cons ?s0xxx ?r0xxx
            (case s0xxx =>
              exact (ps_set (i := 2) sc_law_bad.nd (by rfl) (by first | exact Or.inl rfl | exact Or.inr rfl) pe_str))
            (case r0xxx =>
              refine' pss_cons ?s0xxxx ?r0xxxx
              (case s0xxxx =>
                exact (ps_expr (pe_bm PySem.F.plainAttrs_list PySem.F.slot_list_append PySem.F.type_list_append mt_append (pv 1) (pa_cons (pe_ix ix_str (pv 2) (pe_fn F_law_take hr (by rfl) (pa_cons (pv 0) (pa_cons (pe_callB call_len_str (by rfl) (B "len" (by decide +kernel)) (by decide +kernel) (pa_cons (pv 2) pa_nil)) pa_nil))) (fun _ _ => rfl)) pa_nil))))
              (case r0xxxx =>
                refine' pss_cons ?s0xxxxx ?r0xxxxx
                (case s0xxxxx =>
                  exact (ps_expr (pe_bm PySem.F.plainAttrs_list PySem.F.slot_list_append PySem.F.type_list_append mt_append (pv 1) (pa_cons (pe_op op_add_str pe_str (pe_ix ix_str (pv 2) (pe_fn F_law_take hr (by rfl) (pa_cons (pv 0) (pa_cons (pe_callB call_len_str (by rfl) (B "len" (by decide +kernel)) (by decide +kernel) (pa_cons (pv 2) pa_nil)) pa_nil))) (fun _ _ => rfl))) pa_nil))))
                (case r0xxxxx =>
                  refine' pss_one ?s0xxxxxx
                  (case s0xxxxxx =>
                    exact (ps_ret (pe_ix ix_list (pv 1) (pe_fn F_law_take hr (by rfl) (pa_cons (pv 0) (pa_cons (pe_callB call_len_seq (by rfl) (B "len" (by decide +kernel)) (by decide +kernel) (pa_cons (pv 1) pa_nil)) pa_nil))) (fun _ _ => rfl)))))))))))
    have e : sizeLine = 16777216 := sizeLine_eq
    have ml : ∀ (x : Str) (n : Int) (k : Nat), x.length * n.toNat ≤ k → (Txt.mul x n).length ≤ k := fun x n k h => Nat.le_trans (mul_len x n) h
    refine ⟨(by show 14 ≤ sizeLine; omega), fun l1 hl1 => ?_⟩
    dsimp only [gName]
    have a1 : AllS [V.str "", V.str "-", V.str "--", V.str "00", V.str "01", V.str "-0", V.str "-01", V.str "+1", V.str "1.0", V.str "1_0", V.str "x", V.str "0x1", V.str "1-", V.str "1e3"] := by
      repeat (first | exact allS_nil | refine allS_cons (by decide) ?_)
    generalize el1 : upd H l1 _ = H1; have sl1 : Same H H1 := (by rw [← el1]; exact Same.new hl1); have cl1 := (congrFun el1.symm l1).trans upd_same; clear el1
    have k1 : Same H H1 := sl1
    clear a1
    have a1 : ∃ L1, H1 l1 = some (.lst L1) ∧ AllS L1 ∧ L1.length = 14 := ⟨_, cl1, by repeat (first | exact allS_nil | refine allS_cons (by decide) ?_), rfl⟩
    clear cl1
    obtain ⟨L1, cl1, a1, n1⟩ := a1
    have add : ∀ (x y : Str), x.length ≤ 100 → y.length ≤ 1000 → x.length + y.length ≤ sizeLine := fun x y h1 h2 => by omega
    refine ⟨_, rfl, _, _, rfl, rfl, mulOk_of (by decide) (by decide) (by decide), _, _, rfl, rfl, mulOk_of (by decide) (by decide) (by decide), _, _, rfl, rfl, add _ _ (by decide) (ml _ _ _ (by decide)), _, _, rfl, rfl, mulOk_of (by decide) (by decide) (by decide), _, _, rfl, rfl, add _ _ (by decide) (ml _ _ _ (by decide)), _, _, rfl, rfl, mulOk_of (by decide) (by decide) (by decide), _, _, rfl, rfl, mulOk_of (by decide) (by decide) (by decide), _, _, rfl, rfl, mulOk_of (by decide) (by decide) (by decide), (by show 7 ≤ sizeLine; omega), fun l2 hl2 => ?_⟩
    generalize el2 : upd H1 l2 _ = H2; have sl2 : Same H1 H2 := (by rw [← el2]; exact Same.new hl2); have cl2 := (congrFun el2.symm l2).trans upd_same; clear el2
    have a2 : ∃ L2, H2 l2 = some (.lst L2) ∧ AllS L2 ∧ L2.length = 7 := by
      refine ⟨_, cl2, ?_, rfl⟩
      have ca : ∀ (x y : Str), x.length ≤ 100 → y.length ≤ 900 → (x ++ y).length ≤ 1000 := fun x y h1 h2 => by rw [Str.length_append]; omega
      refine allS_cons (by decide) (allS_cons (ml _ _ _ (by decide)) (allS_cons (ca _ _ (by decide) (ml _ _ _ (by decide))) (allS_cons (ca _ _ (by decide) (ml _ _ _ (by decide))) (allS_cons (ml _ _ _ (by decide)) (allS_cons (ml _ _ _ (by decide)) (allS_cons (ml _ _ _ (by decide)) allS_nil))))))
    clear cl2
    obtain ⟨L2, cl2, a2, n2⟩ := a2
    refine ⟨l1, l2, _, _, rfl, rfl, sl2 _ _ cl1, cl2, by omega, fun l3 hl3 => ?_⟩
    dsimp only [gName]
    generalize el3 : upd H2 l3 _ = H3; have sl3 : Same H2 H3 := (by rw [← el3]; exact Same.new hl3); have cl3 := (congrFun el3.symm l3).trans upd_same; clear el3
    refine ⟨_, rfl, (by show 2 ≤ sizeLine; omega), fun l4 hl4 => ?_⟩
    generalize el4 : upd H3 l4 _ = H4; have sl4 : Same H3 H4 := (by rw [← el4]; exact Same.new hl4); have cl4 := (congrFun el4.symm l4).trans upd_same; clear el4
    refine ⟨l3, l4, _, _, rfl, rfl, sl4 _ _ cl3, cl4, by rw [List.length_append]; show _ + 2 ≤ _; omega, fun l5 hl5 => ?_⟩
    dsimp only [gName]
    generalize el5 : upd H4 l5 _ = H5; have sl5 : Same H4 H5 := (by rw [← el5]; exact Same.new hl5); have cl5 := (congrFun el5.symm l5).trans upd_same; clear el5
    have a5 : ∃ L5, H5 l5 = some (.lst L5) ∧ AllS L5 ∧ L5.length = 23 := ⟨_, cl5, (a1.app a2).app (allS_cons (by decide) (allS_cons (by decide) allS_nil)), by rw [List.length_append, List.length_append, n1, n2]; rfl⟩
    clear cl5
    obtain ⟨L5, cl5, a5, n5⟩ := a5
    have k5 : Same H H5 := ((k1.trans (sl2.trans sl3)).trans sl4).trans sl5
    clear cl1 cl2 cl3 cl4 a1 a2
    have n5p : l5 ≠ p := by
      obtain ⟨_, _, _, e1, _⟩ := hd
      exact fun z => by
        have := ((k1.trans (Same.refl _))) _ _ e1
        have := k5 _ _ e1
        rw [← z, cl5] at this; cases this; cases n5
    refine ⟨_, rfl, .inl ⟨rfl, _, SqL.of cl5⟩, ?_⟩
    refine ⟨_, rfl, _, rfl, _, rfl, _, rfl, (by rw [e]; decide), p, _, m, rfl, hd.same k5, by omega, by decide, by decide, fun g H6 g0 g1 d6 k6 => ?_⟩
    obtain ⟨c, hc⟩ := ixS_at g0 g1
    have cl6 := k6.lst n5p cl5
    refine ⟨_, _, c, rfl, rfl, (by rw [e]; decide), hc, l5, _, _, rfl, rfl, cl6, by omega, ?_⟩
    have a6 : AllS (L5 ++ [V.str ⟨#[c]⟩]) := a5.app (allS_cons (by show 1 ≤ 1000; decide) allS_nil)
    have n6 : (L5 ++ [V.str ⟨#[c]⟩]).length = 24 := by rw [List.length_append, n5]; rfl
    have cl6' : upd H6 l5 (.lst (L5 ++ [V.str ⟨#[c]⟩])) l5 = some (.lst (L5 ++ [V.str ⟨#[c]⟩])) := upd_same
    have d6' : Deck (upd H6 l5 (.lst (L5 ++ [V.str ⟨#[c]⟩]))) p (m + 1) := by
      obtain ⟨x, y, z, e1, e2⟩ := d6
      exact ⟨x, y, z, by rw [upd_ne n5p.symm]; exact e1, e2⟩
    have f5 : H l5 = none := (((k1.trans sl2).trans sl3).trans sl4).free hl5
    have k6' : But p H (upd H6 l5 (.lst (L5 ++ [V.str ⟨#[c]⟩]))) := (k5.but.trans k6).at f5
    generalize upd H6 l5 (.lst (L5 ++ [V.str ⟨#[c]⟩])) = H7 at cl6' d6' k6' ⊢
    generalize L5 ++ [V.str ⟨#[c]⟩] = L7 at a6 n6 cl6' ⊢
    refine ⟨_, rfl, .inl ⟨rfl, _, SqL.of cl6'⟩, ?_⟩
    refine ⟨_, rfl, _, rfl, _, rfl, _, rfl, (by rw [e]; decide), p, _, _, rfl, d6', by omega, by decide, by decide, fun g8 H8 g80 g81 d8 k8 => ?_⟩
    obtain ⟨c8, hc8⟩ := ixS_at g80 g81
    have cl8 := k8.lst n5p cl6'
    refine ⟨_, _, c8, rfl, rfl, (by rw [e]; decide), hc8, _, _, rfl, rfl, (by rw [e]; show 1 + 1 ≤ _; decide), l5, _, _, rfl, rfl, cl8, by omega, ?_⟩
    have a8 : AllS (L7 ++ [V.str (("1" : Str) ++ ⟨#[c8]⟩)]) := a6.app (allS_cons (by rw [Str.length_append]; show 1 + 1 ≤ 1000; decide) allS_nil)
    have n8 : (L7 ++ [V.str (("1" : Str) ++ ⟨#[c8]⟩)]).length = 25 := by rw [List.length_append, n6]; rfl
    have d8' : Deck (upd H8 l5 (.lst (L7 ++ [V.str (("1" : Str) ++ ⟨#[c8]⟩)]))) p (m + 1 + 1) := by
      obtain ⟨x, y, z, e1, e2⟩ := d8
      exact ⟨x, y, z, by rw [upd_ne n5p.symm]; exact e1, e2⟩
    have cl8' : upd H8 l5 (.lst (L7 ++ [V.str (("1" : Str) ++ ⟨#[c8]⟩)])) l5 = some (.lst (L7 ++ [V.str (("1" : Str) ++ ⟨#[c8]⟩)])) := upd_same
    have k8' : But p H (upd H8 l5 (.lst (L7 ++ [V.str (("1" : Str) ++ ⟨#[c8]⟩)]))) := (k6'.trans k8).at f5
    generalize upd H8 l5 (.lst (L7 ++ [V.str (("1" : Str) ++ ⟨#[c8]⟩)])) = H9 at cl8' d8' k8' ⊢
    generalize L7 ++ [V.str (("1" : Str) ++ ⟨#[c8]⟩)] = L9 at a8 n8 cl8' ⊢
    refine ⟨_, rfl, _, rfl, _, rfl, l5, _, rfl, .inl (SqL.of cl8'), p, _, _, rfl, d8', by omega, by omega, by omega, fun g9 H10 g90 g91 d10 k10 => ?_⟩
    obtain ⟨v, hv, ev⟩ := at_pickV (xs := L9) g90 g91
    obtain ⟨x, rfl, hx⟩ := a8 v hv
    exact ⟨l5, _, _, _, rfl, rfl, SqL.of (k10.lst n5p cl8'), ev, q x H10 hx (d10.mono (by omega) (by omega)) (k8'.trans k10)⟩
end

end Law

set_option Elab.async false
set_option linter.all false
set_option maxRecDepth 100000
set_option maxHeartbeats 4000000
namespace Law
open PySem L2
def cutT (ts : List Str) (lo hi : Option Int) : List Str := (ts.drop (HT.sIx ts.length 0 lo)).take (HT.sIx ts.length ts.length hi - HT.sIx ts.length 0 lo)
theorem cut_strs (ts : List Str) (lo hi : Option Int) : cutV (ts.map V.str) lo hi = (cutT ts lo hi).map V.str := by
  unfold cutV cutT
  rw [List.length_map, List.map_take, List.map_drop]
theorem sum_drop (l : List Nat) : ∀ k, (l.drop k).sum ≤ l.sum := by
  induction l with
  | nil => intro k; simp
  | cons a l ih =>
    intro k
    cases k with
    | zero => simp
    | succ k => have := ih k; simp only [List.drop_succ_cons, List.sum_cons]; omega
theorem sum_take (l : List Nat) : ∀ k, (l.take k).sum ≤ l.sum := by
  induction l with
  | nil => intro k; simp
  | cons a l ih =>
    intro k
    cases k with
    | zero => simp
    | succ k => have := ih k; simp only [List.take_succ_cons, List.sum_cons]; omega
theorem cutT_sum (ts : List Str) (lo hi : Option Int) : ((cutT ts lo hi).map (·.length)).sum ≤ (ts.map (·.length)).sum ∧ (cutT ts lo hi).length ≤ ts.length := by
  unfold cutT
  constructor
  · rw [List.map_take, List.map_drop]
    exact Nat.le_trans (sum_take _ _) (sum_drop _ _)
  · have := List.length_take_le' (HT.sIx ts.length ts.length hi - HT.sIx ts.length 0 lo) (ts.drop (HT.sIx ts.length 0 lo))
    rw [List.length_drop] at this
    omega
def spSpoilt : Sp := fun vs H Q _ => ∃ (p : Addr) (x : Str) (m : Int), vs = [.ref p, .str x] ∧ Deck H p m ∧ m + 10 ≤ 100000000 ∧ x.length ≤ 10000 ∧ ∀ (y : Str) H', y.length ≤ 100000 → Deck H' p (m + 10) → But p H H' → Q (.str y) H'
section
variable {P : Program} {w : World} {K : PySem.W.Frag} {mg : Str → Option Value} {base : Heap}
def x_law_spoilt : { t : Stmt // top 20 = t } := ⟨_, by conv => { lhs; whnf }⟩
abbrev s_law_spoilt : Stmt := x_law_spoilt.1
theorem sc_law_spoilt : FnScope ["deck", "text", "way", "at", "sign", "words"] ["deck", "text"] (defScope s_law_spoilt) := ⟨rfl, rfl, rfl, by decide +kernel, rfl, by decide +kernel, by decide +kernel⟩
theorem fn_spoilt54 (B : Bl mg bls) (D : DefAt K mg "_law_spoilt" s_law_spoilt ["deck", "text"]) (F_law_take : Fn P w K mg base 1 "_law_take" ["deck", "many"] spTakeD) (F_law_bad : Fn P w K mg base 2 "_law_bad" ["deck"] spBad) : Fn P w K mg base 3 "_law_spoilt" ["deck", "text"] spSpoilt := by
  refine D.fn sc_law_spoilt (fun vs H Q E h => ?_) (fun f cdv A outer s H vs Q E hr h => ?_)
  · obtain ⟨p, x, m, rfl, _⟩ := h; rfl
  · obtain ⟨p, x, m, rfl, hd, hm, hx, q⟩ := h
    refine' ⟨_, ?tm, ?rd⟩
    (case tm =>
      (conv => { arg 2; whnf })
      refine' pss_cons ?s0 ?r0
      (case s0 =>
        exact (ps_set (i := 2) sc_law_spoilt.nd (by rfl) (by first | exact Or.inl rfl | exact Or.inr rfl) (pe_fn F_law_take hr (by rfl) (pa_cons (pv 0) (pa_cons pe_int pa_nil)))))
      (case r0 =>
        refine' pss_cons ?s0x ?r0x
        (case s0x =>
          exact (ps_set (i := 3) sc_law_spoilt.nd (by rfl) (by first | exact Or.inl rfl | exact Or.inr rfl) (pe_fn F_law_take hr (by rfl) (pa_cons (pv 0) (pa_cons (pe_op op_add (pe_callB call_len_str (by rfl) (B "len" (by decide +kernel)) (by decide +kernel) (pa_cons (pv 1) pa_nil)) pe_int) pa_nil)))))
        (case r0x =>
          refine' pss_cons ?s0xx ?r0xx
          (case s0xx =>
            exact (ps_set (i := 4) sc_law_spoilt.nd (by rfl) (by first | exact Or.inl rfl | exact Or.inr rfl) (pe_ix ix_str pe_str (pe_fn F_law_take hr (by rfl) (pa_cons (pv 0) (pa_cons pe_int pa_nil))) (fun _ _ => rfl))))
          (case r0xx =>
            refine' pss_cons ?s0xxx ?r0xxx
            (case s0xxx =>
              refine' ps_if ?c0xxx ?a0xxx ?b0xxx
              (case c0xxx => exact (pt_cmpR op_eq (pv 2) pe_int (nomark _)))
              (case a0xxx =>
                refine' pss_one ?s0xxxi
                (case s0xxxi =>
                  exact (ps_ret (pe_op op_add_str (pe_slice sl_str (pv 1) po_none (po_some (pv 3))) (pe_slice sl_str (pv 1) (po_some (pe_op op_add (pv 3) pe_int)) po_none)))))
              (case b0xxx =>
                exact pss_nil))
            (case r0xxx =>
              refine' pss_cons ?s0xxxx ?r0xxxx
              (case s0xxxx =>
                refine' ps_if ?c0xxxx ?a0xxxx ?b0xxxx
                (case c0xxxx => exact (pt_cmpR op_lt (pv 2) pe_int (nomark _)))
                (case a0xxxx =>
                  refine' pss_one ?s0xxxxi
                  (case s0xxxxi =>
                    exact (ps_ret (pe_op op_add_str (pe_op op_add_str (pe_slice sl_str (pv 1) po_none (po_some (pv 3))) (pv 4)) (pe_slice sl_str (pv 1) (po_some (pe_op op_sub (pe_op op_add (pv 3) (pv 2)) pe_int)) po_none)))))
                (case b0xxxx =>
                  exact pss_nil))
              (case r0xxxx =>
                refine' pss_cons ?s0xxxxx ?r0xxxxx
                (case s0xxxxx =>
                  exact (ps_set (i := 5) sc_law_spoilt.nd (by rfl) (by first | exact Or.inl rfl | exact Or.inr rfl) (pe_split (pv 1) pe_str)))
                (case r0xxxxx =>
                  refine' pss_cons ?s0xxxxxx ?r0xxxxxx
                  (case s0xxxxxx =>
                    exact (ps_set (i := 3) sc_law_spoilt.nd (by rfl) (by first | exact Or.inl rfl | exact Or.inr rfl) (pe_fn F_law_take hr (by rfl) (pa_cons (pv 0) (pa_cons (pe_op op_add (pe_callB call_len_seq (by rfl) (B "len" (by decide +kernel)) (by decide +kernel) (pa_cons (pv 5) pa_nil)) pe_int) pa_nil)))))
                  (case r0xxxxxx =>
                    refine' pss_one ?s0xxxxxxx
                    (case s0xxxxxxx =>
                      exact (ps_ret (pe_join pe_str (pe_op op_cat (pe_op op_cat (pe_slice sl_list (pv 5) po_none (po_some (pv 3))) (pe_lst (pa_cons (pe_fn F_law_bad hr (by rfl) (pa_cons (pv 0) pa_nil)) pa_nil))) (pe_slice sl_list (pv 5) (po_some (pe_op op_sub (pe_op op_add (pv 3) (pv 2)) pe_int)) po_none)))))))))))))
    have e : sizeLine = 16777216 := sizeLine_eq
    have cl : ∀ lo hi, (cutS x lo hi).length ≤ 10000 := fun lo hi => Nat.le_trans (cutS_length x lo hi) hx
    refine ⟨_, rfl, p, _, m, rfl, hd, by omega, by decide, by decide, fun way H1 w0 w1 d1 k1 => ?_⟩
    dsimp only [gName]
    refine ⟨_, rfl, _, rfl, x, rfl, by omega, _, _, rfl, rfl, p, _, _, rfl, d1, by omega, by omega, by omega, fun at1 H2 a0 a1 d2 k2 => ?_⟩
    dsimp only [gName]
    refine ⟨_, rfl, p, _, _, rfl, d2, by omega, by decide, by decide, fun g H3 g0 g1 d3 k3 => ?_⟩
    obtain ⟨c, hc⟩ := ixS_at (z := " 0129-_a\n") g0 g1
    refine ⟨_, _, c, rfl, rfl, (by rw [e]; decide), hc, ?_⟩
    have k03 := k1.trans (k2.trans k3)
    have d3' := d3.mono (m' := m + 10) (by omega) (by omega)
    have hs : (⟨#[c]⟩ : Str).length = 1 := rfl
    generalize (⟨#[c]⟩ : Str) = sign at hs ⊢
    dsimp only [gName]
    refine seqJ (fun σ' H' => σ' = [some (.ref p), some (.str x), some (.int way), some (.int at1), some (.str sign), none] ∧ H' = H3) (fun fin => ?_) ?_
    · refine ⟨_, rfl, rfl, _, rfl, ?_⟩
      refine ite2 (fun _ => ?_) (fun _ => fin _ _ ⟨rfl, rfl⟩)
      refine ⟨_, rfl, _, rfl, at1, rfl, x, rfl, by omega, _, rfl, _, rfl, _, _, rfl, rfl, _, rfl, x, rfl, by omega, _, _, rfl, rfl, ?_, q _ _ ?_ d3' k03⟩
      · have := cl none (some at1); have := cl (some (at1 + 1)) none; omega
      · have := cl none (some at1); have := cl (some (at1 + 1)) none
        rw [Str.length_append]; omega
    rintro _ H4 ⟨rfl, e4⟩
    obtain rfl := e4.symm
    refine seqJ (fun σ' H' => σ' = [some (.ref p), some (.str x), some (.int way), some (.int at1), some (.str sign), none] ∧ H' = H3) (fun fin => ?_) ?_
    · refine ⟨_, rfl, _, _, rfl, rfl, _, rfl, ?_⟩
      refine ite2 (fun _ => ?_) (fun _ => fin _ _ ⟨rfl, rfl⟩)
      refine ⟨_, rfl, _, rfl, at1, rfl, x, rfl, by omega, _, rfl, _, _, rfl, rfl, ?_, _, rfl, _, rfl, _, rfl, _, _, rfl, rfl, _, _, rfl, rfl, _, rfl, x, rfl, by omega, _, _, rfl, rfl, ?_, q _ _ ?_ d3' k03⟩
      · have := cl none (some at1); omega
      · have := cl none (some at1); have := cl (some (at1 + way - 1)) none
        rw [Str.length_append]; omega
      · have := cl none (some at1); have := cl (some (at1 + way - 1)) none
        rw [Str.length_append, Str.length_append]; omega
    rintro _ H4 ⟨rfl, e4⟩
    obtain rfl := e4.symm
    refine ⟨_, rfl, ⟨_, rfl⟩, x, " ", rfl, rfl, rfl, by omega, fun wp hwp => ?_⟩
    have hsum := PyProof.Rows.split_weight x " " (by decide)
    generalize Txt.split x " " = ts at hsum hwp ⊢
    generalize ewp : upd H3 wp _ = H4; have swp : Same H3 H4 := (by rw [← ewp]; exact Same.new hwp); have cwp := (congrFun ewp.symm wp).trans upd_same; clear ewp
    dsimp only [gName]
    have npw : wp ≠ p := by
      obtain ⟨_, _, _, e1, _⟩ := d3
      exact fun z => by rw [z, e1] at hwp; cases hwp
    refine ⟨_, rfl, _, rfl, wp, _, rfl, .inl (SqL.of cwp), _, _, rfl, rfl, p, _, _, rfl, d3.same swp, by omega, by rw [List.length_map]; omega, by rw [List.length_map]; omega, fun at2 H5 b0 b1 d5 k5 => ?_⟩
    have cw5 := k5.lst npw cwp
    dsimp only [gName]
    refine ⟨⟨_, rfl⟩, _, rfl, _, rfl, at2, rfl, wp, _, rfl, SqL.of cw5, fun p1 hp1 => ?_⟩
    rw [cut_strs]
    have u1 := cutT_sum ts none (some at2)
    generalize cutT ts none (some at2) = t1 at u1 ⊢
    generalize ep1 : upd H5 p1 _ = H6; have sp1 : Same H5 H6 := (by rw [← ep1]; exact Same.new hp1); have cp1 := (congrFun ep1.symm p1).trans upd_same; clear ep1
    have np1 : p1 ≠ p := by
      obtain ⟨_, _, _, e1, _⟩ := d5
      exact fun z => by rw [z, e1] at hp1; cases hp1
    refine ⟨_, rfl, p, _, rfl, d5.same sp1, by omega, fun b H7 hb d7 k7 => ?_⟩
    refine ⟨(by show 1 ≤ sizeLine; omega), fun p2 hp2 => ?_⟩
    have eb : ([V.str b] : List V) = ([b] : List Str).map V.str := rfl
    rw [eb]
    generalize ep2 : upd H7 p2 _ = H8; have sp2 : Same H7 H8 := (by rw [← ep2]; exact Same.new hp2); have cp2 := (congrFun ep2.symm p2).trans upd_same; clear ep2
    have c1 := sp2 _ _ (k7.lst np1 cp1)
    refine ⟨p1, p2, _, _, rfl, rfl, c1, cp2, ?_, fun p3 hp3 => ?_⟩
    · rw [List.length_map, List.length_map]; show _ + 1 ≤ _; omega
    rw [← List.map_append]
    generalize ep3 : upd H8 p3 _ = H9; have sp3 : Same H8 H9 := (by rw [← ep3]; exact Same.new hp3); have cp3 := (congrFun ep3.symm p3).trans upd_same; clear ep3
    have cw9 := sp3 _ _ (sp2 _ _ (k7.lst npw (sp1 _ _ cw5)))
    refine ⟨_, rfl, _, rfl, _, rfl, _, _, rfl, rfl, _, _, rfl, rfl, _, rfl, wp, _, rfl, SqL.of cw9, fun p4 hp4 => ?_⟩
    rw [cut_strs]
    have u2 := cutT_sum ts (some (at2 + way - 3)) none
    generalize cutT ts (some (at2 + way - 3)) none = t2 at u2 ⊢
    generalize ep4 : upd H9 p4 _ = H10; have sp4 : Same H9 H10 := (by rw [← ep4]; exact Same.new hp4); have cp4 := (congrFun ep4.symm p4).trans upd_same; clear ep4
    refine ⟨p3, p4, _, _, rfl, rfl, sp4 _ _ cp3, cp4, ?_, fun p5 hp5 => ?_⟩
    · rw [List.length_map, List.length_map, List.length_append]; show _ + 1 + _ ≤ _; omega
    rw [← List.map_append]
    generalize ep5 : upd H10 p5 _ = H11; have sp5 : Same H10 H11 := (by rw [← ep5]; exact Same.new hp5); have cp5 := (congrFun ep5.symm p5).trans upd_same; clear ep5
    have tot : ((t1 ++ [b] ++ t2).map (·.length)).sum + (t1 ++ [b] ++ t2).length ≤ 50000 := by
      rw [List.map_append, List.map_append, List.sum_append, List.sum_append, List.length_append, List.length_append]
      show _ + (b.length + 0) + _ + (_ + 1 + _) ≤ _
      omega
    refine ⟨_, p5, _, rfl, rfl, .inl (SqL.of cp5), ?_, q _ _ ?_ (((((d7.same sp2).same sp3).same sp4).same sp5).mono (by omega) (by omega)) ?_⟩
    · have : (" " : Str).length = 1 := rfl
      rw [this]; omega
    · have h1 := PySem.StrLaws.join_length_le " " (t1 ++ [b] ++ t2)
      have : (" " : Str).length = 1 := rfl
      rw [this] at h1
      show (PySem.Builtin.Str.glued " " (t1 ++ [b] ++ t2)).length ≤ _
      rw [PySem.StrLaws.glued_eq_join]
      omega
    · exact k03.trans ((swp.but.trans k5).trans ((sp1.but.trans k7).trans (sp2.trans (sp3.trans (sp4.trans sp5))).but))
end

end Law

set_option Elab.async false
set_option linter.all false
set_option maxRecDepth 100000
set_option maxHeartbeats 4000000
namespace Law
open PySem L2
theorem kitAny_no {K : PySem.W.Frag} {t : Value} : ∀ {l : List Value}, (∀ c ∈ l, PySem.W.kitOne K t c = some false) → PySem.W.kitAny K t l = some false
  | [], _ => rfl
  | c :: r, h => by
    unfold PySem.W.kitAny
    rw [h c (.head _)]
    exact kitAny_no fun d hd => h d (.tail _ hd)
theorem kit_no {K : PySem.W.Frag} {C S D : Addr} (e : ErrAt K C (.ref S :: bmVE)) (e' : ErrAt K D (.ref S :: bmVE)) (n1 : C ≠ D) (n2 : S ≠ D) : PySem.W.kitOne K (.ref C) (.ref D) = some false := by
  rw [kit_err e e']
  have h1 : ((Value.ref D : Value) == .ref C) = false := beq_eq_false_iff_ne.mpr fun z => n1 (Value.ref.inj z).symm
  have h2 : ((Value.ref D : Value) == .ref S) = false := beq_eq_false_iff_ne.mpr fun z => n2 (Value.ref.inj z).symm
  simp only [List.contains_cons, h1, h2]
  rfl
theorem kit_self {K : PySem.W.Frag} {C : Addr} {bm : List Value} (e : ErrAt K C bm) : PySem.W.kitOne K (.ref C) (.ref C) = some true := by
  rw [kit_err e e]; simp
theorem kit_ve {K : PySem.W.Frag} {C S : Addr} (e : ErrAt K C (.ref S :: bmVE)) : PySem.W.kitOne K (.ref C) (.type "ValueError") = some true := by
  rw [kit_errT e (by decide +kernel)]; rfl

theorem dv_lt : ∀ (cs : List Nat) (a : Nat), (∀ c ∈ cs, 48 ≤ c ∧ c ≤ 57) → cs.foldl (fun acc c => acc * 10 + (c - 48)) a < (a + 1) * 10 ^ cs.length
  | [], a, _ => by simp
  | c :: r, a, h => by
    have hc := h c List.mem_cons_self
    have ih := dv_lt r (a * 10 + (c - 48)) fun z hz => h z (List.mem_cons_of_mem _ hz)
    rw [List.foldl_cons, List.length_cons, Nat.pow_succ]
    refine Nat.lt_of_lt_of_le ih ?_
    have : a * 10 + (c - 48) + 1 ≤ (a + 1) * 10 := by omega
    calc (a * 10 + (c - 48) + 1) * 10 ^ r.length ≤ ((a + 1) * 10) * 10 ^ r.length := Nat.mul_le_mul_right _ this
      _ = (a + 1) * (10 ^ r.length * 10) := by rw [Nat.mul_assoc, Nat.mul_comm 10]
theorem numOf_lt {w : Str} (h : isNum w = true) : (numOf w).natAbs < 10 ^ 13 := by
  obtain ⟨⟨h1, h2⟩, h3, _⟩ := (isNum_iff w).mp h
  have key : ∀ cs : List Nat, (∀ c ∈ cs, 48 ≤ c ∧ c ≤ 57) → cs.length ≤ 13 → NumText.digitsVal cs < 10 ^ 13 := fun cs a b => by
    have := dv_lt cs 0 a
    have e : NumText.digitsVal cs = cs.foldl (fun acc c => acc * 10 + (c - 48)) 0 := rfl
    rw [e]
    refine Nat.lt_of_lt_of_le this ?_
    rw [Nat.zero_add, Nat.one_mul]
    exact Nat.pow_le_pow_right (by decide) b
  unfold numOf
  split
  · rename_i cs e
    have hl := len_sg (figsOf w)
    rw [figs_minus e] at h1 hl
    have := key cs h1 (by omega)
    omega
  · rename_i hn
    have hf := figs_else fun cs e => hn cs e
    rw [hf] at h1 h3
    have := key (sg w) h1 (by rw [len_sg]; exact h3)
    omega
/-- what is due: the numbers of the words, None where one is none -/
def dueOf (x : Str) : List V := if x = "-" then [] else (Txt.split x " ").map oI54
theorem due_flat (x : Str) : (dueOf x).all flatV = true := by
  unfold dueOf
  split
  · rfl
  · rw [List.all_map, List.all_eq_true]
    intro t _
    show flatV (oI54 t) = true
    unfold oI54
    split <;> rfl
theorem due_none {x : Str} (h : rdOf x = none) : inV .non (dueOf x) = true := by
  unfold rdOf at h
  unfold dueOf inV
  by_cases z : x = "-"
  · rw [if_pos z] at h; cases h
  · rw [if_neg z] at h ⊢
    by_cases y : (Txt.split x " ").all isNum = true
    · rw [if_pos y] at h; cases h
    · have : ∃ t ∈ Txt.split x " ", isNum t = false := by
        have y : (Txt.split x " ").all isNum = false := by simpa using y
        obtain ⟨t, ht, n⟩ := List.all_eq_false.mp y
        exact ⟨t, ht, by simpa using n⟩
      obtain ⟨t, ht, n⟩ := this
      rw [List.any_map, List.any_eq_true]
      refine ⟨t, ht, ?_⟩
      show eqV (oI54 t) .non = true
      unfold oI54
      rw [if_neg (by rw [n]; decide)]; rfl
theorem due_some {x : Str} {ns : List Int} (h : rdOf x = some ns) : dueOf x = ns.map V.int ∧ (∀ n ∈ ns, n.natAbs < 10 ^ 13) ∧ ns.length ≤ x.length + 2 := by
  unfold rdOf at h
  unfold dueOf
  by_cases z : x = "-"
  · rw [if_pos z] at h ⊢
    cases h
    exact ⟨rfl, (fun n hn => nomatch hn), by simp⟩
  · rw [if_neg z] at h ⊢
    by_cases y : (Txt.split x " ").all isNum = true
    · rw [if_pos y] at h
      cases h
      refine ⟨?_, fun n hn => ?_, by rw [List.length_map]; exact split_len x⟩
      · rw [List.map_map]
        apply List.map_congr_left
        intro t ht
        show oI54 t = V.int (numOf t)
        unfold oI54
        rw [if_pos (List.all_eq_true.mp y t ht)]
      · obtain ⟨t, ht, rfl⟩ := List.mem_map.mp hn
        exact numOf_lt (List.all_eq_true.mp y t ht)
    · rw [if_neg y] at h; cases h
theorem in_ints (ns : List Int) : inV .non (ns.map V.int) = false := by
  unfold inV
  rw [List.any_map, List.any_eq_false]
  intro n _
  show ¬ eqV (.int n) .non = true
  simp [eqV]
theorem dp_bls {K : PySem.W.Frag} {H : Hp} {a : Addr} {bs : List Bool} (h : SqL K H a (bs.map V.bl)) : Dp K H (.ref a) (.list (bs.map PyData.bool)) := .lst h (by
  clear h
  induction bs with
  | nil => exact .nil
  | cons b r ih => exact .cons (.bl b) ih)
def spRight54 : Sp := fun vs H Q _ => ∃ (x : Str), vs = [.str x] ∧ x.length ≤ 200000 ∧ ∀ H', Same H H' → Q (.bl true) H'
section
variable {P : Program} {w : World} {K : PySem.W.Frag} {mg : Str → Option Value} {base : Heap} {S CT C1 C2 C3 C4 C5 : Addr}
def x_law_right : { t : Stmt // top 22 = t } := ⟨_, by conv => { lhs; whnf }⟩
abbrev s_law_right : Stmt := x_law_right.1
theorem sc_law_right : FnScope ["text", "found", "kinds", "e", "due", "word"] ["text"] (defScope s_law_right) := ⟨rfl, rfl, rfl, by decide +kernel, rfl, by decide +kernel, by decide +kernel⟩
theorem fn_right54 (B : Bl mg bls) (er_SpanError : Err K mg "SpanError" S bmVE) (er_NoText : Err K mg "NoText" CT (.ref S :: bmVE)) (er_NoCommand : Err K mg "NoCommand" C1 (.ref S :: bmVE)) (er_NoMany : Err K mg "NoMany" C2 (.ref S :: bmVE)) (er_NoNumber : Err K mg "NoNumber" C3 (.ref S :: bmVE)) (er_NoPlace : Err K mg "NoPlace" C4 (.ref S :: bmVE)) (er_NoStretch : Err K mg "NoStretch" C5 (.ref S :: bmVE)) (qp : ErrQ K CT) (nd : [S, CT, C1, C2, C3, C4, C5].Nodup)
    (D : DefAt K mg "_law_right" s_law_right ["text"]) (F_law_number_in : Fn P w K mg base 1 "_law_number_in" ["word"] spNumIn) (FXread_row : FnX P w K mg base 3 "read_row" ["text"] (spReadX K CT)) : Fn P w K mg base 4 "_law_right" ["text"] spRight54 := by
  refine D.fn sc_law_right (fun vs H Q E h => ?_) (fun f cdv A outer s H vs Q E hr h => ?_)
  · obtain ⟨x, rfl, _⟩ := h; rfl
  · obtain ⟨x, rfl, hx, q⟩ := h
    refine' ⟨_, ?tm, ?rd⟩
    (case tm =>
      (conv => { arg 2; whnf })
      refine' pss_cons ?s0 ?r0
      (case s0 =>
        exact (ps_set (i := 1) sc_law_right.nd (by rfl) (by first | exact Or.inl rfl | exact Or.inr rfl) pe_non))
      (case r0 =>
        refine' pss_cons ?s0x ?r0x
        (case s0x =>
          exact (ps_set (i := 2) sc_law_right.nd (by rfl) (by first | exact Or.inl rfl | exact Or.inr rfl) (pe_lst pa_nil)))
        (case r0x =>
          refine' pss_cons ?s0xx ?r0xx
          (case s0xx =>
            refine' ps_try (j := 3) ?B0xx ?U0xx er_SpanError (by rfl) sc_law_right.nd (by rfl) (by rfl) (by rfl) (by rfl)
            (case B0xx =>
              intro p0 EE
              exact (pss_one (ps_set (i := 1) sc_law_right.nd (by rfl) (by first | exact Or.inl rfl | exact Or.inr rfl) (pe_fnX FXread_row hr (by rfl) passTr (pa_cons (pv 0) pa_nil)))))
            (case U0xx =>
              intro _
              refine' pss_cons ?s0xxh ?r0xxh
              (case s0xxh =>
                refine' ps_set (i := 2) ?n0xxh ?h0xxh ?x0xxh ?e0xxh ?w0xxh ?f0xxh
                (case n0xxh => exact sc_law_right.nd)
                (case h0xxh => rfl)
                (case x0xxh => first | exact Or.inl rfl | exact Or.inr rfl)
                (case w0xxh => rfl)
                (case f0xxh => first | exact .inl rfl | exact .inr rfl)
                (case e0xxh =>
                  refine' pe_lst ?L0xxh
                  (case L0xxh =>
                    refine' pa_cons ?a0xxh ?q0xxh ?z0xxh
                    (case z0xxh => rfl)
                    (case a0xxh => exact (pe_callB (call_isinstEK (K := K) (by rfl)) (by rfl) (B "isinstance" (by decide +kernel)) (by decide +kernel) (pa_cons (pv 3) (pa_cons (pe_glob (v := .ref _) (by rfl) er_NoText.1 rfl) pa_nil))))
                    (case q0xxh =>
                    refine' pa_cons ?a0xxhq ?q0xxhq ?z0xxhq
                    (case z0xxhq => rfl)
                    (case a0xxhq => exact (pe_callB (call_isinstEK (K := K) (by rfl)) (by rfl) (B "isinstance" (by decide +kernel)) (by decide +kernel) (pa_cons (pv 3) (pa_cons (pe_bltn (v := .ty "ValueError") (by rfl) (B "ValueError" (by decide +kernel)) (by decide +kernel) rfl) pa_nil))))
                    (case q0xxhq =>
                    exact pa_nil)))))
              (case r0xxh =>
                refine' pss_one ?s0xxhx
                (case s0xxhx =>
                  exact (ps_expr (pe_bmK (K := K) (by rfl) PySem.F.plainAttrs_list PySem.F.slot_list_append PySem.F.type_list_append mt_append (pv 2) (pa_cons (pe_callB (call_isinstEK (K := K) (by rfl)) (by rfl) (B "isinstance" (by decide +kernel)) (by decide +kernel) (pa_cons (pv 3) (pa_cons (pe_tup (pa_cons (pe_glob (v := .ref _) (by rfl) er_NoCommand.1 rfl) (pa_cons (pe_glob (v := .ref _) (by rfl) er_NoMany.1 rfl) (pa_cons (pe_glob (v := .ref _) (by rfl) er_NoNumber.1 rfl) (pa_cons (pe_glob (v := .ref _) (by rfl) er_NoPlace.1 rfl) (pa_cons (pe_glob (v := .ref _) (by rfl) er_NoStretch.1 rfl) pa_nil)))))) pa_nil))) pa_nil)))))))
          (case r0xx =>
            refine' pss_cons ?s0xxx ?r0xxx
            (case s0xxx =>
              exact (ps_set (i := 4) sc_law_right.nd (by rfl) (by first | exact Or.inl rfl | exact Or.inr rfl) (pe_ifExp (pt_cmpR op_eq (pv 0) pe_str (nomark _)) (pe_lst pa_nil) (pe_lc (own := [("word", 5)]) (g := (gName 5)) (by rfl) sc_law_right.nd (pi_list (pe_split (pv 0) pe_str)) (blkOk_by (own := [("word", 5)]) (N := ["text", "found", "kinds", "e", "due", "word"]) (sc := defScope s_law_right) (by decide +kernel)) (fun _ _ _ _ _ => (pg_name (i := 5) sc_law_right.nd (by rfl) (by first | exact Or.inl rfl | exact Or.inr rfl))) (fun _ _ _ _ _ => pts_nil) (fun _ _ _ _ _ => (pe_fn F_law_number_in hr (by rfl) (pa_cons (pv 5) pa_nil)))))))
            (case r0xxx =>
              refine' pss_cons ?s0xxxx ?r0xxxx
              (case s0xxxx =>
                refine' ps_if ?c0xxxx ?a0xxxx ?b0xxxx
                (case c0xxxx => exact (pt_cmpR op_in_seq pe_non (pv 4) (by rfl)))
                (case a0xxxx =>
                  refine' pss_one ?s0xxxxi
                  (case s0xxxxi =>
                    exact (ps_ret (pe_cmpR (op_eqD hr.units) (pv 2) (pe_lst (pa_cons pe_bl (pa_cons pe_bl (pa_cons pe_bl pa_nil)))) (nomark _)))))
                (case b0xxxx =>
                  exact pss_nil))
              (case r0xxxx =>
                refine' pss_one ?s0xxxxx
                (case s0xxxxx =>
                  exact (ps_ret (pe_and (pe_cmpR (op_eqD hr.units) (pv 2) (pe_lst pa_nil) (nomark _)) (pe_one (pe_cmpR op_eq (pe_callB (call_reprIW ⟨_, hr⟩) (by rfl) (B "repr" (by decide +kernel)) (by decide +kernel) (pa_cons (pv 1) pa_nil)) (pe_callB (call_reprIW ⟨_, hr⟩) (by rfl) (B "repr" (by decide +kernel)) (by decide +kernel) (pa_cons (pv 4) pa_nil)) (nomark _))))))))))))
    simp only [List.nodup_cons, List.mem_cons, List.not_mem_nil, or_false, not_or] at nd
    obtain ⟨⟨a1, a2, a3, a4, a5, a6⟩, ⟨b1, b2, b3, b4, b5⟩, _⟩ := nd
    have e : sizeLine = 16777216 := sizeLine_eq
    refine seqJ (fun σ' H' => σ' = [some (.str x), some .non, none, none, none, none] ∧ H' = H) (fun fin => fin _ _ ⟨rfl, rfl⟩) ?_
    rintro _ H0 ⟨rfl, e0⟩
    obtain rfl := e0.symm
    refine ⟨(by show 0 ≤ sizeLine; omega), fun K0 hK0 => ?_⟩
    dsimp only [gName]
    generalize eK0 : upd H K0 _ = H1; have sK0 : Same H H1 := (by rw [← eK0]; exact Same.new hK0); have cK0 := (congrFun eK0.symm K0).trans upd_same; clear eK0
    refine seqJ (fun σ' H' => ∃ (vF : V) (k : Addr) (bs : List Bool), σ' = [some (.str x), some vF, some (.ref k), none, none, none] ∧ H' k = some (.lst (bs.map V.bl)) ∧ Same H H' ∧ ((∃ ns F, rdOf x = some ns ∧ vF = .ref F ∧ H' F = some (.lst (ns.map V.int)) ∧ bs = []) ∨ (rdOf x = none ∧ bs = [true, true, false]))) (fun fin => ?_) ?_
    · refine ⟨_, rfl, x, rfl, by omega, fun ns hns F H2 fF s2 cF => ?_, fun hn H2 s2 => ⟨CT, _, rfl, er_NoText.2, (by simp), fun y hy => ?_⟩⟩
      · exact fin _ _ ⟨.ref F, K0, [], rfl, s2 _ _ cK0, sK0.trans s2, .inl ⟨ns, F, hns, rfl, cF, rfl⟩⟩
      · have eX := er_NoText.2
        have s3 := Same.new (o := errO y CT) hy
        have cy : upd H2 y (errO y CT) y = some (errO y CT) := upd_same
        generalize upd H2 y (errO y CT) = H3 at s3 cy ⊢
        refine ⟨_, rfl, y, CT, _, _, true, rfl, cy, eX, qp, .inr (.inl ⟨CT, rfl, kit_self eX⟩), _, rfl, y, CT, _, _, true, rfl, cy, eX, qp, .inl ⟨_, rfl, kit_ve eX⟩, (by show 2 ≤ sizeLine; omega), fun k hk => ?_⟩
        generalize ek : upd H3 k _ = H4; have sk : Same H3 H4 := (by rw [← ek]; exact Same.new hk); have ck := (congrFun ek.symm k).trans upd_same; clear ek
        have s24 := (sK0.trans s2).trans (s3.trans sk)
        refine ⟨_, rfl, .inl ⟨rfl, _, SqL.of ck⟩, _, rfl, (by show 5 ≤ sizeLine; omega), fun tp htp => ?_⟩
        have ctp : upd H4 tp (.tup [.ref C1, .ref C2, .ref C3, .ref C4, .ref C5]) tp = some (.tup ([C1, C2, C3, C4, C5].map V.ref)) := upd_same
        have s5 := Same.new (o := .tup [.ref C1, .ref C2, .ref C3, .ref C4, .ref C5]) htp
        generalize upd H4 tp (.tup [.ref C1, .ref C2, .ref C3, .ref C4, .ref C5]) = H5 at s5 ctp ⊢
        refine ⟨y, CT, _, _, false, rfl, (sk.trans s5) _ _ cy, eX, qp, .inr (.inr ⟨tp, _, rfl, ctp, kitAny_no fun c hc => ?_⟩), k, _, _, rfl, rfl, s5 _ _ ck, (by show 2 < sizeLine; omega), ?_⟩
        · simp only [List.map_cons, List.map_nil, List.mem_cons, List.not_mem_nil, or_false] at hc
          rcases hc with rfl | rfl | rfl | rfl | rfl
          · exact kit_no eX er_NoCommand.2 b1 a2
          · exact kit_no eX er_NoMany.2 b2 a3
          · exact kit_no eX er_NoNumber.2 b3 a4
          · exact kit_no eX er_NoPlace.2 b4 a5
          · exact kit_no eX er_NoStretch.2 b5 a6
        have fk : H k = none := ((sK0.trans s2).trans s3).free hk
        exact fin _ _ ⟨.non, k, [true, true, false], rfl, upd_same, (s24.trans s5).at fk, .inr ⟨hn, rfl⟩⟩
    rintro _ H2 ⟨vF, k, bs, rfl, ck, s2, hcase⟩
    -- due
    refine seqJ (fun σ' H' => ∃ (Du : Addr) (v5 : Option V), σ' = [some (.str x), some vF, some (.ref k), none, some (.ref Du), v5] ∧ H' Du = some (.lst (dueOf x)) ∧ Same H2 H') (fun fin => ?_) ?_
    · refine ⟨_, rfl, rfl, _, rfl, ?_⟩
      rw [str_dec]
      refine ite2 (fun z => ?_) (fun z => ?_)
      · have z := of_decide_eq_true z
        refine ⟨(by show 0 ≤ sizeLine; omega), fun Du hDu => ?_⟩
        exact fin _ _ ⟨Du, _, rfl, by rw [upd_same]; unfold dueOf; rw [if_pos z], Same.new hDu⟩
      · have z : x ≠ "-" := fun y => z (decide_eq_true y)
        refine ⟨_, rfl, ⟨_, rfl⟩, x, " ", rfl, rfl, rfl, by omega, fun wp hwp => ?_⟩
        have hsl := split_len x
        have hsp := split_part x
        have hdu : dueOf x = (Txt.split x " ").map oI54 := by unfold dueOf; rw [if_neg z]
        rw [hdu] at fin
        generalize Txt.split x " " = ts at fin hwp hsl hsp ⊢
        generalize ewp : upd H2 wp _ = H3; have swp : Same H2 H3 := (by rw [← ewp]; exact Same.new hwp); have cwp := (congrFun ewp.symm wp).trans upd_same; clear ewp
        refine ⟨wp, rfl, ⟨_, SqL.of cwp⟩, fun Du hDu => ?_⟩
        refine lc_mapV (out := oI54) (SqL.of cwp) hDu (by omega) (fun _ => rfl) (fun t H4 R ht s4 hR => ?_) (fun H4 c4 s4 => ?_)
        · exact ⟨_, rfl, t, rfl, by have := hsp t ht; omega, fun H5 s5 => hR H5 s5⟩
        · exact fin _ _ ⟨Du, _, rfl, c4, swp.trans s4⟩
    rintro _ H3 ⟨Du, v5, rfl, cD, s3⟩
    refine ⟨_, rfl, Du, _, rfl, .inl (SqL.of cD), rfl, due_flat x, _, rfl, ?_⟩
    rcases hcase with ⟨ns, F, hns, rfl, cF, rfl⟩ | ⟨hn, rfl⟩
    · obtain ⟨e1, e2, e3⟩ := due_some hns
      rw [e1] at cD ⊢
      rw [in_ints]
      refine ⟨_, rfl, (by show 0 ≤ sizeLine; omega), fun l hl => ?_⟩
      have sl := Same.new (o := .lst []) hl
      refine ⟨_, _, dp_bls (bs := []) (sl.seq (SqL.of (s3 _ _ ck))), dp_bls (bs := []) (SqL.of upd_same), rfl, rfl, _, rfl, ?_⟩
      generalize upd H3 l (.lst []) = H4 at sl ⊢
      refine iteT ?_
      refine ⟨_, rfl, F, ns, rfl, SqL.of (sl _ _ (s3 _ _ cF)), by omega, e2, _, rfl, Du, ns, rfl, SqL.of (sl _ _ cD), by omega, e2, rfl, ?_⟩
      rw [str_dec, decide_eq_true rfl]
      exact q _ (s2.trans (s3.trans sl))
    · rw [due_none hn]
      refine ⟨_, rfl, (by show 3 ≤ sizeLine; omega), fun l hl => ?_⟩
      have sl := Same.new (o := .lst [.bl true, .bl true, .bl false]) hl
      refine ⟨_, _, dp_bls (bs := [true, true, false]) (sl.seq (SqL.of (s3 _ _ ck))), dp_bls (bs := [true, true, false]) (SqL.of upd_same), rfl, rfl, ?_⟩
      exact q _ (s2.trans (s3.trans sl))
end

end Law

set_option Elab.async false
set_option linter.all false
set_option maxRecDepth 100000
set_option maxHeartbeats 4000000
namespace Law
open PySem L2
def wrOf (ns : List Int) : Str := if ns = [] then "-" else Txt.join " " (ns.map txtOf)
theorem B12.b13 {n : Int} (h : B12 n) : n.natAbs < 10 ^ 13 := by
  have : n.natAbs ≤ 1000000000000 := by have := h.1; have := h.2; omega
  exact Nat.lt_of_le_of_lt this (by decide)
theorem wr_len {ns : List Int} (hl : ns.length ≤ 300) (h : ∀ n ∈ ns, B12 n) : (wrOf ns).length ≤ 10000 := by
  unfold wrOf
  split
  · decide
  · have := join_len (b := 14) (ts := ns.map txtOf) fun t ht => by
      obtain ⟨n, hm, rfl⟩ := List.mem_map.mp ht
      exact txtOf_len (by decide) (h n hm).b13
    rw [List.length_map] at this
    omega
theorem repS (ts : List Str) (k : Nat) : (List.replicate k (ts.map V.str)).flatten = ((List.replicate k ts).flatten).map V.str := by
  rw [List.map_flatten, List.map_replicate]
theorem repS_len (c : Str) (k : Nat) : (List.replicate k [c]).flatten.length = k ∧ ∀ t ∈ (List.replicate k [c]).flatten, t = c := by
  constructor
  · simp
  · intro t ht
    obtain ⟨l, hl, ht⟩ := List.mem_flatten.mp ht
    rw [(List.mem_replicate.mp hl).2] at ht
    exact List.mem_singleton.mp ht
def spLaw (K : PySem.W.Frag) : Sp := fun vs H Q _ => ∃ (a : Addr) (ns : List Int), vs = [.ref a] ∧ SqL K H a (ns.map V.int) ∧ ns.length ≤ 63 ∧ ∀ H', Q (.bl true) H'
section
variable {P : Program} {w : World} {K : PySem.W.Frag} {mg : Str → Option Value} {base : Heap}
def xlaw : { t : Stmt // top 23 = t } := ⟨_, by conv => { lhs; whnf }⟩
abbrev slaw : Stmt := xlaw.1
theorem sclaw : FnScope ["script", "cell", "deck", "row", "text", "number"] ["script"] (defScope slaw) := ⟨rfl, rfl, rfl, by decide +kernel, rfl, by decide +kernel, by decide +kernel⟩
theorem ok_law {f : Addr} {fd : FuncData} (B : Bl mg bls) (Fl : Fun K "law" "law" slaw f fd) (F_law_deck : Fn P w K mg base 1 "_law_deck" ["cell", "k"] spDeck) (F_law_row : Fn P w K mg base 3 "_law_row" ["deck", "most"] spRowD)
    (F_law_take : Fn P w K mg base 1 "_law_take" ["deck", "many"] spTakeD) (F_law_right : Fn P w K mg base 4 "_law_right" ["text"] spRight54) (F_law_spoilt : Fn P w K mg base 3 "_law_spoilt" ["deck", "text"] spSpoilt) : FnOk P w K mg base CX0 6 f fd ["script"] (spLaw K) := by
  refine Fl.ok sclaw (fun vs H Q E h => ?_) (fun cdv A outer s H vs Q E hr h => ?_)
  · obtain ⟨a, ns, rfl, _⟩ := h; rfl
  · obtain ⟨a, ns, rfl, hs, hl, q⟩ := h
    refine' ⟨_, ?tm, ?rd⟩
    (case tm =>
      (conv => { arg 2; whnf })
      refine' pss_cons ?s0 ?r0
      (case s0 =>
        refine' ps_for PassesOwn.never (by rfl) ?i0 ?g0 ?d0
        (case i0 => exact (pi_list (pe_op op_cat (pe_slice sl_list (pv 0) po_none (po_some pe_int)) (pe_lst (pa_cons pe_int (pa_cons pe_int pa_nil))))))
        (case g0 => exact (pg_name (i := 1) sclaw.nd (by rfl) (by first | exact Or.inl rfl | exact Or.inr rfl)))
        (case d0 =>
          refine' pss_cons ?s0f ?r0f
          (case s0f =>
            exact (ps_set (i := 2) sclaw.nd (by rfl) (by first | exact Or.inl rfl | exact Or.inr rfl) (pe_fn F_law_deck hr (by rfl) (pa_cons (pv 1) (pa_cons pe_int pa_nil)))))
          (case r0f =>
            refine' pss_cons ?s0fx ?r0fx
            (case s0fx =>
              exact (ps_set (i := 3) sclaw.nd (by rfl) (by first | exact Or.inl rfl | exact Or.inr rfl) (pe_fn F_law_row hr (by rfl) (pa_cons (pv 2) (pa_cons (pe_ix ix_list (pe_lst (pa_cons pe_int (pa_cons pe_int pa_nil))) (pe_callTy call_int1 (by rfl) (B "int" (by decide +kernel)) (by decide +kernel) (pa_cons (pe_cmpR op_eq (pe_fn F_law_take hr (by rfl) (pa_cons (pv 2) (pa_cons pe_int pa_nil))) pe_int (nomark _)) pa_nil)) (fun _ _ => rfl)) pa_nil)))))
            (case r0fx =>
              refine' pss_cons ?s0fxx ?r0fxx
              (case s0fxx =>
                exact (ps_set (i := 4) sclaw.nd (by rfl) (by first | exact Or.inl rfl | exact Or.inr rfl) (pe_ifExp (pt_cmpR (op_eqLI hr.units) (pv 3) (pe_lst pa_nil) (nomark _)) pe_str (pe_join pe_str (pe_lc (own := [("number", 5)]) (g := (gName 5)) (by rfl) sclaw.nd (pi_list (pv 3)) (blkOk_by (own := [("number", 5)]) (N := ["script", "cell", "deck", "row", "text", "number"]) (sc := defScope slaw) (by decide +kernel)) (fun _ _ _ _ _ => (pg_name (i := 5) sclaw.nd (by rfl) (by first | exact Or.inl rfl | exact Or.inr rfl))) (fun _ _ _ _ _ => pts_nil) (fun _ _ _ _ _ => (pe_callTy call_str_int (by rfl) (B "str" (by decide +kernel)) (by decide +kernel) (pa_cons (pv 5) pa_nil))))))))
              (case r0fxx =>
                refine' pss_one ?s0fxxx
                (case s0fxxx =>
                  refine' ps_if ?c0fxxx ?a0fxxx ?b0fxxx
                  (case c0fxxx => exact (PW.pt (pw_or (pt_not (pt_val (pe_fn F_law_right hr (by rfl) (pa_cons (pv 4) pa_nil)))) (pw_or1 (pt_not (pt_val (pe_fn F_law_right hr (by rfl) (pa_cons (pe_fn F_law_spoilt hr (by rfl) (pa_cons (pv 2) (pa_cons (pv 4) pa_nil))) pa_nil))))))))
                  (case a0fxxx =>
                    refine' pss_one ?s0fxxxi
                    (case s0fxxxi =>
                      exact (ps_ret pe_bl)))
                  (case b0fxxx =>
                    exact pss_nil)))))))
      (case r0 =>
        refine' pss_cons ?s0x ?r0x
        (case s0x =>
          refine' ps_if ?c0x ?a0x ?b0x
          (case c0x => exact (PW.pt (pw_or (pt_not (pt_val (pe_fn F_law_right hr (by rfl) (pa_cons (pe_op op_rep_str pe_str pe_int) pa_nil)))) (pw_or1 (pt_not (pt_val (pe_fn F_law_right hr (by rfl) (pa_cons (pe_op op_add_str (pe_op op_add_str pe_str (pe_op op_rep_str pe_str pe_int)) pe_str) pa_nil))))))))
          (case a0x =>
            refine' pss_one ?s0xi
            (case s0xi =>
              exact (ps_ret pe_bl)))
          (case b0x =>
            exact pss_nil))
        (case r0x =>
          refine' pss_one ?s0xx
          (case s0xx =>
            exact (ps_ret (pe_and (pe_fn F_law_right hr (by rfl) (pa_cons (pe_join pe_str (pe_op op_rep (pe_lst (pa_cons pe_str pa_nil)) pe_int)) pa_nil)) (pe_one (pe_fn F_law_right hr (by rfl) (pa_cons (pe_join pe_str (pe_op op_cat (pe_op op_rep (pe_lst (pa_cons pe_str pa_nil)) pe_int) (pe_lst (pa_cons pe_str pa_nil)))) pa_nil)))))))))
    have e : sizeLine = 16777216 := sizeLine_eq
    refine seqJ (fun σ' _ => ∃ (v1 v2 v3 v4 v5 : Option V), σ' = [some (.ref a), v1, v2, v3, v4, v5]) (fun fin => ?_) ?_
    · refine ⟨_, rfl, _, rfl, a, _, rfl, hs, fun p1 hp1 => ?_⟩
      rw [cut_ints]
      generalize ep1 : upd H p1 _ = H1; have sp1 : Same H H1 := (by rw [← ep1]; exact Same.new hp1); have cp1 := (congrFun ep1.symm p1).trans upd_same; clear ep1
      refine ⟨(by show 2 ≤ sizeLine; omega), fun p2 hp2 => ?_⟩
      have e0 : ([.int 0, .int 1] : List V) = ([0, 1] : List Int).map V.int := rfl
      rw [e0]
      generalize ep2 : upd H1 p2 _ = H2; have sp2 : Same H1 H2 := (by rw [← ep2]; exact Same.new hp2); have cp2 := (congrFun ep2.symm p2).trans upd_same; clear ep2
      have hcl := cutI_len ns none (some 40)
      refine ⟨p1, p2, _, _, rfl, rfl, sp2 _ _ cp1, cp2, ?_, fun p3 hp3 => ?_⟩
      · rw [List.length_map, List.length_map]; exact line1000 (by show _ + 2 ≤ 1000; omega)
      rw [← List.map_append]
      generalize cutI ns none (some 40) ++ [0, 1] = cells at hp3 ⊢
      generalize ep3 : upd H2 p3 _ = H3; have sp3 : Same H2 H3 := (by rw [← ep3]; exact Same.new hp3); have cp3 := (congrFun ep3.symm p3).trans upd_same; clear ep3
      refine ⟨p3, rfl, ⟨_, SqL.of cp3⟩, for_list (K := K) (a := p3) (xs := cells.map V.int) (fun i σ H' => ∃ (v1 v2 v3 v4 v5 : Option V), σ = [some (.ref a), v1, v2, v3, v4, v5] ∧ Same H3 H') ⟨_, _, _, _, _, rfl, Same.refl _⟩ (fun i σ H' _ h => ?_) ?_ ?_⟩
      · obtain ⟨_, _, _, _, _, _, k⟩ := h
        exact k.seq (SqL.of cp3)
      · rintro i x σ H4 hx ⟨v1, v2, v3, v4, v5, rfl, k3⟩
        obtain ⟨cell, hc, rfl⟩ := get_ints hx
        refine ⟨_, rfl, cell, 5, rfl, by decide, by decide, fun p H5 fp s5 d5 => ?_⟩
        dsimp only [gName]
        refine ⟨_, rfl, (by show 2 ≤ sizeLine; omega), fun p6 hp6 => ?_⟩
        have e1 : ([.int 20, .int 200] : List V) = ([20, 200] : List Int).map V.int := rfl
        rw [e1]
        generalize ep6 : upd H5 p6 _ = H6; have sp6 : Same H5 H6 := (by rw [← ep6]; exact Same.new hp6); have cp6 := (congrFun ep6.symm p6).trans upd_same; clear ep6
        refine ⟨_, rfl, p, 6, 100, rfl, d5.same sp6, by decide, by decide, by decide, fun g H7 _ _ d7 k7 => ?_⟩
        refine ⟨rfl, .inr ⟨_, rfl, ?_⟩⟩
        have n6 : p6 ≠ p := by
          obtain ⟨_, _, _, e1, _⟩ := d5
          exact fun z => by rw [z, e1] at hp6; cases hp6
        have hk : ∀ b : Bool, (0 : Int) ≤ (if b = true then 1 else 0) ∧ (if b = true then (1 : Int) else 0) < 2 := fun b => by cases b <;> decide
        generalize decide (V.int g = V.int 0) = bb
        obtain ⟨hk0, hk1⟩ := hk bb
        generalize (if bb = true then (1 : Int) else 0) = kk at hk0 hk1 ⊢
        obtain ⟨most, hm, em⟩ := at_pick (ns := [20, 200]) hk0 hk1
        have hm : 0 ≤ most ∧ most ≤ 300 := by
          simp only [List.mem_cons, List.not_mem_nil, or_false] at hm; omega
        refine ⟨p6, _, _, _, rfl, rfl, SqL.of (k7.lst n6 cp6), em, ?_⟩
        refine ⟨p, most, _, rfl, d7, hm.1, hm.2, by omega, fun r H8 rs fr nr k8 d8 cr rl rb => ?_⟩
        have s8 : Same H4 H8 := (sp6.but.trans (k7.trans k8)).same s5 fp
        dsimp only [gName]
        refine seqJ (fun σ' H' => ∃ v5 : Option V, σ' = [some (.ref a), some (.int cell), some (.ref p), some (.ref r), some (.str (wrOf rs)), v5] ∧ Same H8 H') (fun fin2 => ?_) ?_
        · refine ⟨_, rfl, (by show 0 ≤ sizeLine; omega), fun p9 hp9 => ?_⟩
          have s9 := Same.new (o := .lst []) hp9
          refine ⟨r, p9, rs, [], rfl, rfl, s9.seq (SqL.of cr), SqL.of upd_same, _, rfl, ?_⟩
          have cr9 := s9 _ _ cr
          generalize upd H8 p9 (.lst []) = H9 at s9 cr9 ⊢
          unfold wrOf at fin2
          refine ite2 (fun z => ?_) (fun z => ?_)
          · have z := of_decide_eq_true z
            rw [if_pos z] at fin2
            exact fin2 _ _ ⟨_, rfl, s9⟩
          · have z : rs ≠ [] := fun y => z (decide_eq_true y)
            rw [if_neg z] at fin2
            refine ⟨⟨_, rfl⟩, _, rfl, r, rfl, ⟨_, SqL.of cr9⟩, fun p10 hp10 => ?_⟩
            refine lc_mapV (out := fun n => V.str (txtOf n)) (SqL.of cr9) hp10 (by omega) (fun _ => rfl) (fun n H3 R hn s3 hR => ?_) (fun H10 c10 s10 => ?_)
            · exact ⟨_, rfl, n, rfl, natAbs_log (k := 44) (Nat.lt_of_lt_of_le (rb n hn).b13 (by decide)) (by decide), hR _ (Same.refl _)⟩
            · have e3 : rs.map (fun n => V.str (txtOf n)) = (rs.map txtOf).map V.str := by rw [List.map_map]; rfl
              rw [e3] at c10
              refine ⟨_, p10, _, rfl, rfl, .inl (SqL.of c10), ?_, fin2 _ _ ⟨_, rfl, s9.trans s10⟩⟩
              have h2 := sum_le (·.length) 14 (rs.map txtOf) fun t ht => by
                obtain ⟨n, hn, rfl⟩ := List.mem_map.mp ht
                exact txtOf_len (by decide) (rb n hn).b13
              rw [List.length_map] at h2 ⊢
              have : (" " : Str).length = 1 := rfl
              rw [this]; omega
        rintro _ H9 ⟨v5', rfl, s9⟩
        have hw := wr_len (ns := rs) (by omega) rb
        generalize wrOf rs = text at hw ⊢
        refine ⟨_, rfl, text, rfl, by omega, fun H10 s10 => ⟨_, rfl, ?_⟩⟩
        refine ⟨_, rfl, _, rfl, p, text, _, rfl, (d8.same (s9.trans s10)), by omega, hw, fun y H11 hy d11 k11 => ⟨y, rfl, by omega, fun H12 s12 => ⟨_, rfl, ?_⟩⟩⟩
        exact ⟨_, _, _, _, _, rfl, k3.trans ((sp6.but.trans (k7.trans (k8.trans ((s9.trans s10).but.trans (k11.trans s12.but))))).same s5 fp)⟩
      · rintro σ H4 ⟨v1, v2, v3, v4, v5, rfl, _⟩
        exact fin _ _ ⟨_, _, _, _, _, rfl⟩
    rintro _ H1 ⟨v1, v2, v3, v4, v5, rfl⟩
    have ml : ∀ (x : Str) (n : Int) (k : Nat), x.length * n.toNat ≤ k → (Txt.mul x n).length ≤ k := fun x n k h => Nat.le_trans (mul_len x n) h
    have m7 := ml "7" 6000 6000 (by decide)
    have m1 := ml "1" 5000 5000 (by decide)
    refine seqJ (fun σ' _ => σ' = [some (.ref a), v1, v2, v3, v4, v5]) (fun fin => ?_) ?_
    · refine ⟨_, _, rfl, rfl, mulOk_of (by decide) (by decide) (by decide), _, rfl, by omega, fun H2 s2 => ⟨_, rfl, ?_⟩⟩
      have l3 : ("0 -" : Str).length = 3 := rfl
      have l2 : (" 2" : Str).length = 2 := rfl
      refine ⟨_, _, rfl, rfl, mulOk_of (by decide) (by decide) (by decide), _, _, rfl, rfl, by omega, _, _, rfl, rfl, by rw [Str.length_append]; omega, _, rfl, by rw [Str.length_append, Str.length_append]; omega, fun H3 s3 => ⟨_, rfl, ?_⟩⟩
      exact fin _ _ rfl
    rintro _ H2 rfl
    refine ⟨⟨_, rfl⟩, (by show 1 ≤ sizeLine; omega), fun p1 hp1 => ?_⟩
    have e1 : ([.str "0"] : List V) = (["0"] : List Str).map V.str := rfl
    rw [e1]
    generalize ep1 : upd H2 p1 _ = H3; have sp1 : Same H2 H3 := (by rw [← ep1]; exact Same.new hp1); have cp1 := (congrFun ep1.symm p1).trans upd_same; clear ep1
    refine ⟨p1, 2900, _, rfl, rfl, cp1, by decide, by decide, (by rw [e]; decide), fun p2 hp2 => ?_⟩
    rw [repS]
    have r1 := repS_len "0" (Int.toNat 2900)
    generalize (List.replicate (Int.toNat 2900) [("0" : Str)]).flatten = ts at r1 ⊢
    generalize ep2 : upd H3 p2 _ = H4; have sp2 : Same H3 H4 := (by rw [← ep2]; exact Same.new hp2); have cp2 := (congrFun ep2.symm p2).trans upd_same; clear ep2
    have l1 : ("0" : Str).length = 1 := rfl
    have t2900 : Int.toNat 2900 = 2900 := rfl
    have b1 := sum_le (·.length) 1 ts fun t ht => by rw [r1.2 t ht]; exact Nat.le_refl _
    have b2 := join_len (b := 1) (ts := ts) fun t ht => by rw [r1.2 t ht]; exact Nat.le_refl _
    have lb : (" " : Str).length = 1 := rfl
    refine ⟨_, p2, ts, rfl, rfl, .inl (SqL.of cp2), by rw [lb]; omega, _, rfl, by omega, fun H5 s5 => ⟨_, rfl, ?_⟩⟩
    refine iteT ?_
    refine ⟨⟨_, rfl⟩, (by show 1 ≤ sizeLine; omega), fun p3 hp3 => ?_⟩
    have e2 : ([.str "-7"] : List V) = (["-7"] : List Str).map V.str := rfl
    rw [e2]
    generalize ep3 : upd H5 p3 _ = H6; have sp3 : Same H5 H6 := (by rw [← ep3]; exact Same.new hp3); have cp3 := (congrFun ep3.symm p3).trans upd_same; clear ep3
    refine ⟨p3, 1900, _, rfl, rfl, cp3, by decide, by decide, (by rw [e]; decide), fun p4 hp4 => ?_⟩
    rw [repS]
    have r2 := repS_len "-7" (Int.toNat 1900)
    generalize (List.replicate (Int.toNat 1900) [("-7" : Str)]).flatten = us at r2 ⊢
    generalize ep4 : upd H6 p4 _ = H7; have sp4 : Same H6 H7 := (by rw [← ep4]; exact Same.new hp4); have cp4 := (congrFun ep4.symm p4).trans upd_same; clear ep4
    refine ⟨(by show 1 ≤ sizeLine; omega), fun p5 hp5 => ?_⟩
    have e3 : ([.str "-0"] : List V) = (["-0"] : List Str).map V.str := rfl
    rw [e3]
    generalize ep5 : upd H7 p5 _ = H8; have sp5 : Same H7 H8 := (by rw [← ep5]; exact Same.new hp5); have cp5 := (congrFun ep5.symm p5).trans upd_same; clear ep5
    have t1900 : Int.toNat 1900 = 1900 := rfl
    refine ⟨p4, p5, _, _, rfl, rfl, sp5 _ _ cp4, cp5, (by rw [List.length_map, List.length_map]; show _ + 1 ≤ _; omega), fun p6 hp6 => ?_⟩
    rw [← List.map_append]
    have hu : ∀ t ∈ us ++ [("-0" : Str)], t.length ≤ 2 := fun t ht => by
      rcases List.mem_append.mp ht with z | z
      · rw [r2.2 t z]; exact Nat.le_refl _
      · rw [List.mem_singleton.mp z]; exact Nat.le_refl _
    have hun : (us ++ [("-0" : Str)]).length = 1901 := by rw [List.length_append, r2.1]; rfl
    generalize us ++ [("-0" : Str)] = ws at hu hun hp6 ⊢
    generalize ep6 : upd H8 p6 _ = H9; have sp6 : Same H8 H9 := (by rw [← ep6]; exact Same.new hp6); have cp6 := (congrFun ep6.symm p6).trans upd_same; clear ep6
    have b3 := sum_le (·.length) 2 ws hu
    have b4 := join_len (b := 2) (ts := ws) hu
    exact ⟨_, p6, ws, rfl, rfl, .inl (SqL.of cp6), by rw [lb]; omega, _, rfl, by omega, fun H10 s10 => q H10⟩
end

end Law

set_option Elab.async false
set_option linter.all false
set_option maxRecDepth 100000
set_option maxHeartbeats 4000000
namespace Law
open PySem L2
section
variable {P : Program} {w : World} {K : PySem.W.Frag} {mg : Str → Option Value} {base : Heap}
def x_law_row : { t : Stmt // top 18 = t } := ⟨_, by conv => { lhs; whnf }⟩
abbrev s_law_row : Stmt := x_law_row.1
theorem sc_law_row : FnScope ["deck", "most", "size", "row", "k", "number"] ["deck", "most"] (defScope s_law_row) := ⟨rfl, rfl, rfl, by decide +kernel, rfl, by decide +kernel, by decide +kernel⟩
theorem fn_rowD (B : Bl mg bls) (D : DefAt K mg "_law_row" s_law_row ["deck", "most"]) (F_law_take : Fn P w K mg base 1 "_law_take" ["deck", "many"] spTakeD) (F_law_number : Fn P w K mg base 2 "_law_number" ["deck"] spNumberD) : Fn P w K mg base 3 "_law_row" ["deck", "most"] spRowD := by
  refine D.fn sc_law_row (fun vs H Q E h => ?_) (fun f cdv A outer s H vs Q E hr h => ?_)
  · obtain ⟨p, most, m, rfl, _⟩ := h; rfl
  · obtain ⟨p, most, m, rfl, hd, h0, h1, hm, q⟩ := h
    refine' ⟨_, ?tm, ?rd⟩
    (case tm =>
      (conv => { arg 2; whnf })
      refine' pss_cons ?s0 ?r0
      (case s0 =>
        refine' ps_set (i := 2) ?n0 ?h0 ?x0 ?e0 ?w0 ?f0
        (case n0 => exact sc_law_row.nd)
        (case h0 => rfl)
        (case x0 => first | exact Or.inl rfl | exact Or.inr rfl)
        (case w0 => rfl)
        (case f0 => first | exact .inl rfl | exact .inr rfl)
        (case e0 =>
          refine' pe_ix ix_list ?A0 ?B0 (fun _ _ => rfl)
          (case A0 =>
            refine' pe_lst ?L0
            (case L0 =>
              refine' pa_cons ?a0 ?q0 ?z0
              (case z0 => rfl)
              (case a0 => exact pe_int)
              (case q0 =>
              refine' pa_cons ?a0q ?q0q ?z0q
              (case z0q => rfl)
              (case a0q => exact pe_int)
              (case q0q =>
              refine' pa_cons ?a0qq ?q0qq ?z0qq
              (case z0qq => rfl)
              (case a0qq => exact pe_int)
              (case q0qq =>
              refine' pa_cons ?a0qqq ?q0qqq ?z0qqq
              (case z0qqq => rfl)
              (case a0qqq => exact pe_int)
              (case q0qqq =>
              refine' pa_cons ?a0qqqq ?q0qqqq ?z0qqqq
              (case z0qqqq => rfl)
              (case a0qqqq => exact (pe_op op_pow pe_int pe_int))
              (case q0qqqq =>
              refine' pa_cons ?a0qqqqq ?q0qqqqq ?z0qqqqq
              (case z0qqqqq => rfl)
              (case a0qqqqq => exact (pe_op op_pow pe_int pe_int))
              (case q0qqqqq =>
              exact pa_nil))))))))
          (case B0 => exact (pe_fn F_law_take hr (by rfl) (pa_cons (pv 0) (pa_cons pe_int pa_nil))))))
      (case r0 =>
        refine' pss_cons ?s0x ?r0x
        (case s0x =>
          exact (ps_set (i := 3) sc_law_row.nd (by rfl) (by first | exact Or.inl rfl | exact Or.inr rfl) (pe_lst pa_nil)))
        (case r0x =>
          refine' pss_cons ?s0xx ?r0xx
          (case s0xx =>
            refine' ps_for PassesOwn.never (by rfl) ?i0xx ?g0xx ?d0xx
            (case i0xx => exact (pi_range1 (by rfl) (B "range" (by decide +kernel)) (pa_cons (pe_fn F_law_take hr (by rfl) (pa_cons (pv 0) (pa_cons (pe_op op_add (pv 1) pe_int) pa_nil))) pa_nil)))
            (case g0xx => exact (pg_name (i := 4) sc_law_row.nd (by rfl) (by first | exact Or.inl rfl | exact Or.inr rfl)))
            (case d0xx =>
              refine' pss_cons ?s0xxf ?r0xxf
              (case s0xxf =>
                exact (ps_set (i := 5) sc_law_row.nd (by rfl) (by first | exact Or.inl rfl | exact Or.inr rfl) (pe_op op_sub (pe_fn F_law_take hr (by rfl) (pa_cons (pv 0) (pa_cons (pv 2) pa_nil))) (pe_op op_fdiv (pv 2) pe_int))))
              (case r0xxf =>
                refine' pss_one ?s0xxfx
                (case s0xxfx =>
                  exact (ps_expr (pe_bm PySem.F.plainAttrs_list PySem.F.slot_list_append PySem.F.type_list_append mt_append (pv 3) (pa_cons (pe_ifExp (pt_cmpR op_eq (pe_fn F_law_take hr (by rfl) (pa_cons (pv 0) (pa_cons pe_int pa_nil))) pe_int (nomark _)) (pe_fn F_law_number hr (by rfl) (pa_cons (pv 0) pa_nil)) (pv 5)) pa_nil)))))))
          (case r0xx =>
            refine' pss_one ?s0xxx
            (case s0xxx =>
              exact (ps_ret (pv 3)))))))
    refine ⟨_, _, rfl, rfl, ⟨by decide, by decide, by decide⟩, _, _, rfl, rfl, ⟨by decide, by decide, by decide⟩, (by show 6 ≤ sizeLine; decide), fun p1 hp1 => ?_⟩
    have np1 : p1 ≠ p := by
      obtain ⟨_, _, _, e, _⟩ := hd
      exact fun z => by rw [z, e] at hp1; cases hp1
    refine ⟨_, rfl, p, _, _, rfl, hd.same (Same.new hp1), by omega, by decide, by decide, fun g H2 b0 b1 d2 k2 => ?_⟩
    obtain ⟨size, hv, ev⟩ := at_pick (ns := [2, 3, 10, 60, 10 ^ Int.toNat 6, 10 ^ Int.toNat 12]) b0 (by show g < 6; omega)
    have hv : 2 ≤ size ∧ size ≤ 1000000000000 := by
      simp only [List.mem_cons, List.not_mem_nil, or_false] at hv
      have e6 : (10 : Int) ^ Int.toNat 6 = 1000000 := by decide
      have e12 : (10 : Int) ^ Int.toNat 12 = 1000000000000 := by decide
      rw [e6, e12] at hv
      omega
    refine ⟨_, _, _, _, rfl, rfl, SqL.of (k2.lst np1 upd_same), ev, ?_⟩
    dsimp only [gName]
    refine ⟨(by show 0 ≤ sizeLine; decide), fun r hr0 => ?_⟩
    have k02 : But p H H2 := (But.new hp1).trans k2
    have nrp : r ≠ p := by
      obtain ⟨_, _, _, e, _⟩ := d2
      exact fun z => by rw [z, e] at hr0; cases hr0
    refine ⟨_, rfl, _, rfl, _, _, rfl, rfl, p, _, _, rfl, d2.same (Same.new hr0), by omega, by omega, by omega, fun many H3 c0 c1 d3 k3 => ?_⟩
    have hr2 : H r = none := by
      cases e : H r with
      | none => rfl
      | some o =>
        have z := k02 r o nrp e
        cases o <;> first
          | (have z : H2 r = some _ := z; rw [hr0] at z; cases z)
          | (obtain ⟨qs, z⟩ := z; rw [hr0] at z; cases z)
    have c3 : H3 r = some (.lst (([] : List Int).map V.int)) := k3.lst nrp upd_same
    have k03 : But p H H3 := k02.trans ((But.new hr0).trans k3)
    refine ⟨many, rfl, by omega, by omega, for_range (lo := 0) (n := many.toNat) (fun i σ' H' => ∃ (ns : List Int) (v4 v5 : Option V), σ' = [some (.ref p), some (.int most), some (.int size), some (.ref r), v4, v5] ∧ H' r = some (.lst (ns.map V.int)) ∧ ns.length = i ∧ (∀ n ∈ ns, B12 n) ∧ But p H H' ∧ Deck H' p (m + 2 + 5 * (i : Int))) ⟨[], _, _, rfl, c3, rfl, (fun n hn => nomatch hn), k03, d3.mono (by omega) (by omega)⟩ ?_ ?_⟩
    · rintro i σ' H4 hi ⟨ns, v4, v5, rfl, c4, l4, b4, k4, d4⟩
      have hi3 : (i : Int) < 300 := by omega
      have e : sizeLine = 16777216 := sizeLine_eq
      refine ⟨_, rfl, _, rfl, p, _, _, rfl, d4, by omega, by omega, by omega, fun g H5 a0 a1 d5 k5 => ?_⟩
      refine ⟨_, rfl, _, _, rfl, rfl, ⟨by decide, by decide⟩, _, _, rfl, rfl, ?_⟩
      have c5 := k5.lst nrp c4
      have fin : ∀ (n : Int) (H' : Hp), B12 n → H' r = some (.lst (ns.map V.int)) → But p H H' → Deck H' p (m + 2 + 5 * ((i + 1 : Nat) : Int)) → ∀ v4 v5 : Option V, (∃ (ns' : List Int) (v4' v5' : Option V), [some (V.ref p), some (.int most), some (.int size), some (.ref r), v4, v5] = [some (.ref p), some (.int most), some (.int size), some (.ref r), v4', v5'] ∧ upd H' r (.lst (ns.map V.int ++ [.int n])) r = some (.lst (ns'.map V.int)) ∧ ns'.length = i + 1 ∧ (∀ n ∈ ns', B12 n) ∧ But p H (upd H' r (.lst (ns.map V.int ++ [.int n]))) ∧ Deck (upd H' r (.lst (ns.map V.int ++ [.int n]))) p (m + 2 + 5 * ((i + 1 : Nat) : Int))) := fun n H' bn c k d v4 v5 => by
        refine ⟨ns ++ [n], _, _, rfl, by rw [upd_same, List.map_append]; rfl, by rw [List.length_append, l4]; rfl, fun x hx => ?_, k.at hr2, ?_⟩
        · rcases List.mem_append.mp hx with z | z
          · exact b4 x z
          · rw [List.mem_singleton.mp z]; exact bn
        · obtain ⟨a, b, c0, e1, e2⟩ := d
          exact ⟨a, b, c0, by rw [upd_ne nrp.symm]; exact e1, e2⟩
      refine ⟨_, rfl, .inl ⟨rfl, _, SqL.of c5⟩, ?_⟩
      refine ⟨_, rfl, p, _, _, rfl, d5, by omega, by decide, by decide, fun g6 H6 _ _ d6 k6 => ?_⟩
      refine ⟨rfl, _, rfl, ?_⟩
      have c6 := k6.lst nrp c5
      refine ite2 (fun _ => ?_) (fun _ => ?_)
      · refine ⟨_, rfl, p, _, rfl, d6, by omega, fun n H7 bn d7 k7 => ?_⟩
        have c7 := k7.lst nrp c6
        exact ⟨r, _, _, rfl, rfl, c7, by rw [List.length_map, l4]; omega, fin n H7 bn c7 (k4.trans (k5.trans (k6.trans k7))) (d7.mono (by omega) (by omega)) _ _⟩
      · refine ⟨_, rfl, r, _, _, rfl, rfl, c6, by rw [List.length_map, l4]; omega, fin _ H6 ⟨by omega, by omega⟩ c6 (k4.trans (k5.trans k6)) (d6.mono (by omega) (by omega)) _ _⟩
    · rintro σ' H4 ⟨ns, v4, v5, rfl, c4, l4, b4, k4, d4⟩
      exact ⟨_, rfl, q r H4 ns hr2 nrp k4 (d4.mono (by omega) (by omega)) c4 (by omega) b4⟩
end

end Law

set_option Elab.async false
set_option linter.all false
set_option maxRecDepth 100000
set_option maxHeartbeats 4000000
namespace Law
open PySem L2
section
variable {K : PySem.W.Frag} {mg : Str → Option Value}
theorem bl_mk {h : Heap} (X : K.In h) (G : h.Ns mainGlobals mg) (z : ∀ x ∈ bls, PySem.W.nsIn K mainGlobals x = some none) : Bl mg bls := fun x hx => PySem.W.mg_none_of X G (z x hx)
theorem all_mk {l : PySem.W.OpenLaw} {w : World} {h : Heap} {fa f4 : Addr} {S CT C1 C2 C3 C4 C5 : Addr} (X : K.In h) (G : h.Ns mainGlobals mg) (hfa : mg "law" = some (.ref fa)) (B : Bl mg bls)
    (kn_TEXT_OF_NONE : Kst mg "TEXT_OF_NONE" (.str "-"))
    (kn_MOST_FIGURES : Kst mg "MOST_FIGURES" (.int 13))
    (d3 : DefAt K mg "is_number" sis_number ["word"])
    (d4 : DefAt K mg "_law_deck" s_law_deck ["cell", "k"])
    (d5 : DefAt K mg "_law_take" s_law_take ["deck", "many"])
    (d6 : DefAt K mg "_law_number" s_law_number ["deck"])
    (d7 : DefAt K mg "_law_row" s_law_row ["deck", "most"])
    (d8 : DefAt K mg "_law_bad" s_law_bad ["deck"])
    (d9 : DefAt K mg "_law_spoilt" s_law_spoilt ["deck", "text"])
    (d10 : DefAt K mg "_law_number_in" s_law_number_in ["word"])
    (er_SpanError : Err K mg "SpanError" S bmVE)
    (er_NoText : Err K mg "NoText" CT (.ref S :: bmVE))
    (er_NoCommand : Err K mg "NoCommand" C1 (.ref S :: bmVE))
    (er_NoMany : Err K mg "NoMany" C2 (.ref S :: bmVE))
    (er_NoNumber : Err K mg "NoNumber" C3 (.ref S :: bmVE))
    (er_NoPlace : Err K mg "NoPlace" C4 (.ref S :: bmVE))
    (er_NoStretch : Err K mg "NoStretch" C5 (.ref S :: bmVE))
    (q_NoText : ErrQ K CT)
    (nd : [S, CT, C1, C2, C3, C4, C5].Nodup)
    (d20 : DefG l.prog K mg "read_row" sread_row ["text"])
    (d21 : DefAt K mg "_law_right" s_law_right ["text"])
    {od4 an4 : Option Addr} {sl4 : Array (Option Value)} {oc4 kV4 dc4 pm4 cd4 ct4 : Value}
    (a4 : PySem.W.nsIn K mainGlobals "law" = some (some (.ref f4))) (l4 : K.lookup f4 = some ⟨oc4, od4, .func (PySem.W.fnOf "law" "law" (defArgs slaw) (defBody slaw) (defScope slaw) .none kV4 dc4 pm4 an4 cd4 ct4), sl4⟩) (c4 : PySem.W.codeIn K cd4 "law" = true) (k4 : PySem.W.keepIn K (.ref f4) = true) :
    ∃ fd : FuncData, (∀ (s : Shared) (v : Value), BindsTo s fd ⟨[v], []⟩ [("script", v)]) ∧ ∀ base : Heap, K.In base → base.Ns mainGlobals mg → FnOk l.prog w K mg base CX0 6 fa fd ["script"] (spLaw K) := by
  have e := hfa.symm.trans (PySem.W.mg_of X G a4)
  cases e
  have F4 := fun_mk (st := slaw) l4 c4 k4
  refine ⟨PySem.W.fnOf "law" "law" (defArgs slaw) (defBody slaw) (defScope slaw) .none kV4 dc4 pm4 an4 cd4 ct4, fun s v => .of_eq rfl, fun base _ _ => ?_⟩
  have w_is_number := fn_is_number (P := l.prog) (w := w) (K := K) (mg := mg) (base := base) B d3 kn_MOST_FIGURES
  have w__law_deck := fn_deck (P := l.prog) (w := w) (K := K) (mg := mg) (base := base) d4
  have w__law_take := fn_takeD (P := l.prog) (w := w) (K := K) (mg := mg) (base := base) d5
  have w__law_number := fn_numberD (P := l.prog) (w := w) (K := K) (mg := mg) (base := base) d6 w__law_take
  have w__law_row := fn_rowD (P := l.prog) (w := w) (K := K) (mg := mg) (base := base) B d7 w__law_take w__law_number
  have w__law_bad := fn_bad54 (P := l.prog) (w := w) (K := K) (mg := mg) (base := base) B d8 w__law_take
  have w__law_spoilt := fn_spoilt54 (P := l.prog) (w := w) (K := K) (mg := mg) (base := base) B d9 w__law_take w__law_bad
  have w__law_number_in := fn_number_in (P := l.prog) (w := w) (K := K) (mg := mg) (base := base) B d10
  have w_read_row := fn_read_rowX (P := l.prog) (w := w) (K := K) (mg := mg) (base := base) (CT := CT) B er_NoText d20 kn_TEXT_OF_NONE w_is_number
  have w__law_right := fn_right54 (P := l.prog) (w := w) (K := K) (mg := mg) (base := base) (S := S) (CT := CT) (C1 := C1) (C2 := C2) (C3 := C3) (C4 := C4) (C5 := C5) B er_SpanError er_NoText er_NoCommand er_NoMany er_NoNumber er_NoPlace er_NoStretch q_NoText nd d21 w__law_number_in w_read_row
  exact ok_law B F4 w__law_deck w__law_row w__law_take w__law_right w__law_spoilt
end
theorem walk {l : PySem.W.OpenLaw} {q : Program} {loose : List Str} {XP : (Str → Option Value) → Heap → Prop} {YP : World → Heap → Prop} {d : DefRec} {K : Params → PySem.W.Frag} (hn : l.most = some 63) (hdf : d.params.defaults = []) (hq : PyProof.Rows.recsOf l.prog = PyProof.Rows.recsOf q) (hcl : ∀ w : World, PySem.W.kb_classed (K w.params) = true)
    (hY : ∀ (w : World) (h : Heap), YP w h → (K w.params).In h)
    (F : ∀ (w : World) (mg : Str → Option Value) (fa : Addr) (h : Heap), (K w.params).In h → h.Ns mainGlobals mg → mg d.name = some (.ref fa) →
      ∃ fd : FuncData, (∀ (s : Shared) (u : Value), BindsTo s fd ⟨[u], []⟩ [("script", u)]) ∧ ∀ base : Heap, (K w.params).In base → base.Ns mainGlobals mg → FnOk l.prog w (K w.params) mg base CX0 6 fa fd ["script"] (spLaw (K w.params))) :
    PySem.W.WalkO q loose XP YP l.row.toRowW d [] (fun f vs => PySem.call f vs) :=
  L2.walk_of (n := 63) (k := 6) (x := "script") (CX := fun _ => CX0) (sp := fun w => spLaw (K w.params)) hn (by decide) hdf ⟨rfl, by decide, by decide, rfl⟩ hq hcl hY F (fun _ _ a ns hl _ hS => ⟨a, ns, rfl, hS, hl, fun _ => rfl⟩) fun _ _ _ _ _ z => z


end Law

open PySem PySem.W PyProof.Rows
set_option maxRecDepth 100000 in
set_option maxHeartbeats 0 in
theorem PySem.Challenge.cw_stretchleast_k54_texts_of_no_row_holds : PySem.Challenge.rw_stretchleast_k54_texts_of_no_row.Holds := by
  w_on; o_law; k_head; (case hw => w_witness2)
  k_fill
  refine Law.walk (l := PySem.Challenge.rw_stretchleast_k54_texts_of_no_row) rfl rfl rfl (fun w => by first | rfl | decide +kernel) (fun w h Y => PySem.W.kIn_of Y) ?F
  case F =>
    intro w mg fa h KX G hmg
    refine' Law.all_mk KX G hmg ?B ?d1 ?d2 ?d3 ?d4 ?d5 ?d6 ?d7 ?d8 ?d9 ?d10 ?d11 ?d12 ?d13 ?d14 ?d15 ?d16 ?d17 ?d18 ?d19 ?d20 ?d21 ?a4 ?l4 ?c4 ?k4
    (case B => refine Law.bl_mk KX G ?_; intro x hx; simp only [Law.bls, List.mem_cons, List.not_mem_nil, or_false] at hx; rcases hx with rfl | rfl | rfl | rfl | rfl | rfl | rfl | rfl | rfl | rfl | rfl | rfl | rfl | rfl | rfl | rfl | rfl | rfl | rfl | rfl | rfl | rfl <;> k_is)
    (case d1 => refine' L2.kst_mk KX G ?xn1 ?xr1; (case xn1 => k_is); (case xr1 => exact ⟨_, rfl⟩))
    (case d2 => refine' L2.kst_mk KX G ?xn2 ?xr2; (case xn2 => k_is); (case xr2 => exact ⟨_, rfl⟩))
    (case d3 => refine' L2.defAt_mk KX G ?xa3 ?xl3 ?xc3 ?xk3 ?xb3; (case xa3 => k_is); (case xl3 => k_is); (case xc3 => k_is); (case xk3 => k_is); exact fun _ _ _ _ _ _ us hl => match us, hl with | [_], _ => rfl)
    (case d4 => refine' L2.defAt_mk KX G ?xa4 ?xl4 ?xc4 ?xk4 ?xb4; (case xa4 => k_is); (case xl4 => k_is); (case xc4 => k_is); (case xk4 => k_is); exact fun _ _ _ _ _ _ us hl => match us, hl with | [_, _], _ => rfl)
    (case d5 => refine' L2.defAt_mk KX G ?xa5 ?xl5 ?xc5 ?xk5 ?xb5; (case xa5 => k_is); (case xl5 => k_is); (case xc5 => k_is); (case xk5 => k_is); exact fun _ _ _ _ _ _ us hl => match us, hl with | [_, _], _ => rfl)
    (case d6 => refine' L2.defAt_mk KX G ?xa6 ?xl6 ?xc6 ?xk6 ?xb6; (case xa6 => k_is); (case xl6 => k_is); (case xc6 => k_is); (case xk6 => k_is); exact fun _ _ _ _ _ _ us hl => match us, hl with | [_], _ => rfl)
    (case d7 => refine' L2.defAt_mk KX G ?xa7 ?xl7 ?xc7 ?xk7 ?xb7; (case xa7 => k_is); (case xl7 => k_is); (case xc7 => k_is); (case xk7 => k_is); exact fun _ _ _ _ _ _ us hl => match us, hl with | [_, _], _ => rfl)
    (case d8 => refine' L2.defAt_mk KX G ?xa8 ?xl8 ?xc8 ?xk8 ?xb8; (case xa8 => k_is); (case xl8 => k_is); (case xc8 => k_is); (case xk8 => k_is); exact fun _ _ _ _ _ _ us hl => match us, hl with | [_], _ => rfl)
    (case d9 => refine' L2.defAt_mk KX G ?xa9 ?xl9 ?xc9 ?xk9 ?xb9; (case xa9 => k_is); (case xl9 => k_is); (case xc9 => k_is); (case xk9 => k_is); exact fun _ _ _ _ _ _ us hl => match us, hl with | [_, _], _ => rfl)
    (case d10 => refine' L2.defAt_mk KX G ?xa10 ?xl10 ?xc10 ?xk10 ?xb10; (case xa10 => k_is); (case xl10 => k_is); (case xc10 => k_is); (case xk10 => k_is); exact fun _ _ _ _ _ _ us hl => match us, hl with | [_], _ => rfl)
    (case d11 => refine' L2.err_mk KX G ?xn11 ?xq11 ?xl11 ?xm11; (case xn11 => k_is); (case xq11 => k_exc); (case xl11 => k_is); (case xm11 => rfl))
    (case d12 => refine' L2.err_mk KX G ?xn12 ?xq12 ?xl12 ?xm12; (case xn12 => k_is); (case xq12 => k_exc); (case xl12 => k_is); (case xm12 => rfl))
    (case d13 => refine' L2.err_mk KX G ?xn13 ?xq13 ?xl13 ?xm13; (case xn13 => k_is); (case xq13 => k_exc); (case xl13 => k_is); (case xm13 => rfl))
    (case d14 => refine' L2.err_mk KX G ?xn14 ?xq14 ?xl14 ?xm14; (case xn14 => k_is); (case xq14 => k_exc); (case xl14 => k_is); (case xm14 => rfl))
    (case d15 => refine' L2.err_mk KX G ?xn15 ?xq15 ?xl15 ?xm15; (case xn15 => k_is); (case xq15 => k_exc); (case xl15 => k_is); (case xm15 => rfl))
    (case d16 => refine' L2.err_mk KX G ?xn16 ?xq16 ?xl16 ?xm16; (case xn16 => k_is); (case xq16 => k_exc); (case xl16 => k_is); (case xm16 => rfl))
    (case d17 => refine' L2.err_mk KX G ?xn17 ?xq17 ?xl17 ?xm17; (case xn17 => k_is); (case xq17 => k_exc); (case xl17 => k_is); (case xm17 => rfl))
    (case d18 => refine' ⟨?xa18, ?xb18, ?xc18⟩; (case xa18 => k_is); (case xb18 => k_is); (case xc18 => k_is))
    (case d19 => decide)
    (case d20 => refine' L2.defG_mk KX G ?xa20 ?xl20 ?xc20 ?xk20 ?xr20 ?xf20 ?xb20; (case xa20 => k_is); (case xl20 => k_is); (case xc20 => k_is); (case xk20 => k_is); (case xr20 => first | rfl | decide +kernel); (case xf20 => first | rfl | decide +kernel); exact fun _ _ _ _ _ _ us hl => match us, hl with | [_], _ => rfl)
    (case d21 => refine' L2.defAt_mk KX G ?xa21 ?xl21 ?xc21 ?xk21 ?xb21; (case xa21 => k_is); (case xl21 => k_is); (case xc21 => k_is); (case xk21 => k_is); exact fun _ _ _ _ _ _ us hl => match us, hl with | [_], _ => rfl)
    (case a4 => k_is); (case l4 => k_is); (case c4 => k_is); (case k4 => k_is)
#print axioms PySem.Challenge.cw_stretchleast_k54_texts_of_no_row_holds


