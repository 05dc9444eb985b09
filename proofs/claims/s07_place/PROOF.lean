import PyProof.Rows.All
import Wide.All
import OpenK.AllK
import Wide.FinOn
import PyProof.EqAt
import PyProof.EqKinds
import PyProof.TupleCall
import KE.BitLaws
import Open.SpecLaws
import KE.OsHead
import KE.OsGo
import PyProof.Rows.Catch
import PyProof.PassesOwn
import PyProof.ExcClass2
import OpenK.KMake
import OpenK.KWalk
import PyProof.InstStoreFacts
import PyProof.ExcArgs
import PyProof.RulesAs
import PyProof.ExcBaseAll.Exception
import PySem.Challenge.RW_fieldprograms_s07_place
section
set_option Elab.async false
set_option linter.all false
set_option maxRecDepth 100000
namespace L2
open PySem PySem.Spec PyProof.Rows

abbrev Key := Sum Int Str
def keyIs : Key → Value → Bool
  | .inl k, v => Value.isInt k v
  | .inr x, v => Value.isStrOf x v
def keyH (w : World) : Key → Int
  | .inl k => hashInt k
  | .inr x => hashStr w x
theorem keyIs_shape : ∀ {k : Key} {v : Value}, keyIs k v = true → (∃ i t, k = Sum.inl i ∧ v = Value.int i t) ∨ (∃ x t, k = Sum.inr x ∧ v = Value.str x t)
  | .inl i, v, h => by
    obtain ⟨t, e⟩ := Value.isInt_shape (k := i) (v := v) h
    exact .inl ⟨i, t, rfl, e⟩
  | .inr x, v, h => by
    obtain ⟨t, e⟩ := Value.isStrOf_shape (x := x) (v := v) h
    exact .inr ⟨x, t, rfl, e⟩
theorem key_ll (a b : Int) : decide ((Sum.inl a : Key) = Sum.inl b) = (a == b) := by
  by_cases e : a = b
  · subst e; simp
  · have h : ¬ (Sum.inl a : Key) = Sum.inl b := fun q => e (Sum.inl.inj q)
    rw [decide_eq_false h]
    exact (beq_eq_false_iff_ne.mpr e).symm
theorem key_rr (a b : Str) : decide ((Sum.inr a : Key) = Sum.inr b) = decide (a = b) := by
  by_cases e : a = b
  · subst e; simp
  · have h : ¬ (Sum.inr a : Key) = Sum.inr b := fun q => e (Sum.inr.inj q)
    rw [decide_eq_false h, decide_eq_false e]
theorem key_lr (a : Int) (b : Str) : decide ((Sum.inl a : Key) = Sum.inr b) = false := decide_eq_false (fun q => nomatch q)
theorem key_rl (a : Str) (b : Int) : decide ((Sum.inr a : Key) = Sum.inl b) = false := decide_eq_false (fun q => nomatch q)

def mixKind (prog : Program) (w : World) : PySem.KeyKind prog w Key where
  is := keyIs
  hash := keyH w
  inj := fun v a b ha hb => by
    rcases keyIs_shape ha with ⟨i, t, rfl, rfl⟩ | ⟨x, t, rfl, rfl⟩
    · rcases keyIs_shape hb with ⟨j, u, rfl, e⟩ | ⟨y, u, rfl, e⟩
      · injection e with e1 _; rw [e1]
      · exact nomatch e
    · rcases keyIs_shape hb with ⟨j, u, rfl, e⟩ | ⟨y, u, rfl, e⟩
      · exact nomatch e
      · injection e with e1 _; rw [e1]
  byValue := fun k v h => by
    rcases keyIs_shape h with ⟨i, t, rfl, rfl⟩ | ⟨x, t, rfl, rfl⟩ <;> rfl
  pyHash := fun hv h => by
    rcases keyIs_shape hv with ⟨i, t, rfl, rfl⟩ | ⟨x, t, rfl, rfl⟩
    · exact wpAny_pyHash_int h
    · exact wpAny_pyHash_str h
  eqBool := fun hu hv h => by
    rcases keyIs_shape hu with ⟨i, t, rfl, rfl⟩ | ⟨x, t, rfl, rfl⟩
    · rcases keyIs_shape hv with ⟨j, u, rfl, rfl⟩ | ⟨y, u, rfl, rfl⟩
      · rw [key_ll] at h; exact wpAny_eqBool_int h
      · rw [key_lr] at h; exact SeqAt.EqAt.int_str i t y u _ _ _ _ h
    · rcases keyIs_shape hv with ⟨j, u, rfl, rfl⟩ | ⟨y, u, rfl, rfl⟩
      · rw [key_rl] at h; exact SeqAt.EqAt.str_int x t j u _ _ _ _ h
      · rw [key_rr] at h; exact wpAny_eqBool_str h
  «strs» := fun k x t v h => by
    rcases keyIs_shape h with ⟨i, u, rfl, e⟩ | ⟨y, u, rfl, e⟩
    · exact nomatch e
    · injection e with e1 _
      subst e1
      cases v <;> rfl

end L2

namespace L2
open PySem PySem.Spec PyProof.Rows

inductive V where
  | non | bl (b : Bool) | int (i : Int) | str (x : Str) | byt (b : Array UInt8) | flt (b : UInt64) | ref (a : Addr) | ty (n : String)
  deriving DecidableEq

def RelV : V → Value → Prop
  | .non, u => u = Value.none
  | .bl b, u => u = Value.bool b
  | .int i, u => ∃ t, u = Value.int i t
  | .str x, u => ∃ t, u = Value.str x t
  | .byt b, u => ∃ t, u = Value.bytes b t
  | .flt b, u => ∃ t, u = Value.float b t
  | .ref a, u => u = Value.ref a
  | .ty n, u => u = Value.type n

abbrev Vals : List V → List Value → Prop := Paired RelV
theorem Vals.length {xs : List V} {us : List Value} (r : Vals xs us) : xs.length = us.length := Paired.length r
theorem Vals.get : ∀ {xs : List V} {us : List Value} {i : Nat} {x : V}, Vals xs us → xs[i]? = some x → ∃ u, us[i]? = some u ∧ RelV x u
  | _, _, _, _, .nil, e => by simp at e
  | _, _, 0, _, .cons r _, e => by simp at e; subst e; exact ⟨_, rfl, r⟩
  | _, _, i + 1, x, .cons _ t, e => by
    obtain ⟨u, h1, h2⟩ := Vals.get (i := i) (x := x) t (by simpa using e)
    exact ⟨u, by simpa using h1, h2⟩
theorem Vals.append : ∀ {xs ys : List V} {us ws : List Value}, Vals xs us → Vals ys ws → Vals (xs ++ ys) (us ++ ws)
  | _, _, _, _, .nil, s => s
  | _, _, _, _, .cons r t, s => .cons r (Vals.append t s)
def RelO : Option V → Option Value → Prop
  | some v, some u => RelV v u
  | none, none => True
  | _, _ => False
def KV {κ : Type} : List (κ × V) → List (κ × Value) → Prop := Paired fun (p : κ × V) (q : κ × Value) => p.1 = q.1 ∧ RelV p.2 q.2

def kV : Key → V
  | .inl i => .int i
  | .inr x => .str x

inductive HO where
  /-- a list -/
  | lst (xs : List V)
  /-- a tuple (never changes) -/
  | tup (xs : List V)
  /-- a dict whose keys are ints and texts; one whose keys are tuples of ints and texts (the empty one is both) -/
  | dK (kvs : List (Key × V)) | dT (kvs : List (List Key × V))
  /-- a set of ints: its members, its size -/
  | set (S : Int → Bool) (n : Nat)
  /-- an instance of the class at C, its dict at dx, its attributes -/
  | ins (C dx : Addr) (fs : List (Str × V))
  /-- the dict of the instance at x -/
  | own (x : Addr)
  /-- the dict of an exception -/
  | xd (fs : List (Str × V))
  /-- a bound method, f of x -/
  | met (f x : Addr)
  /-- a range object lo, lo + 1, .. below hi -/
  | rng (lo hi : Int)
  /-- a thing that is known to the object (the script; a dict while a loop walks it): read, never written while it is so -/
  | frz (o : Obj) (u : HO)
  /-- a code object's table -/
  | tbl (ps : Array Value)
  /-- any other thing, by what is true of its one object (a def of one's own: SetO a S n := HO.ext fun h => ..) -/
  | ext (φ : Heap → Prop)

abbrev Hp := Addr → Option HO
def upd (H : Hp) (a : Addr) (o : HO) : Hp := fun b => if b = a then some o else H b
theorem upd_same {H : Hp} {a : Addr} {o : HO} : upd H a o a = some o := by unfold upd; rw [if_pos rfl]
theorem upd_ne {H : Hp} {a b : Addr} {o : HO} (h : b ≠ a) : upd H a o b = H b := by unfold upd; rw [if_neg h]
theorem upd_upd {H : Hp} {a : Addr} {o u : HO} : upd (upd H a o) a u = upd H a u := by
  funext b; unfold upd; split <;> rfl
theorem ne_of_none {H : Hp} {a b : Addr} {o : HO} (h : H a = some o) (h' : H b = none) : a ≠ b := by
  intro e; subst e; rw [h] at h'; cases h'

section
variable (P : Program) (w : World)
def ObjOk (H : Hp) (h : Heap) (a : Addr) : HO → Prop
  | .lst xs => xs.length ≤ sizeLine ∧ ∃ (its : List Value) (n : Nat), Vals xs its ∧ h.get? a = some { cls := .type "list", data := .seq its.toArray n }
  | .tup xs => xs.length ≤ sizeLine ∧ ∃ its : List Value, Vals xs its ∧ IsTup h a its.toArray
  | .dK kvs => kvs.length ≤ sizeLine ∧ (a == sysModules) = false ∧ ∃ vs, KV kvs vs ∧ h.DictOf (mixKind P w) a vs
  | .dT kvs => kvs.length ≤ sizeLine ∧ (a == sysModules) = false ∧ ∃ xs : List (List Key × Addr × Value),
      Paired (fun (p : List Key × V) (q : List Key × Addr × Value) => p.1 = q.1 ∧ H q.2.1 = some (.tup (p.1.map kV)) ∧ RelV p.2 q.2.2) kvs xs ∧
      ∃ o es ep, h.get? a = some o ∧ o.ExactDict ∧ o.data = .dict es ep ∧ es.toList = xs.map (entryOfKey (tupleKind (mixKind P w))) ∧ (xs.map (·.1)).Nodup
  | .set S n => h.SetOf (intKind P w) a S n
  | .ins C dx fs => H dx = some (.own a) ∧ fs.length ≤ 1000 ∧ dx ≠ a ∧ h.get? a = some (PySem.W.instObj C dx) ∧
      ∃ mA, h.Ns1 dx mA ∧ (∀ f, RelO (fs.lookup f) (mA f)) ∧ PySem.Within mA (fs.map (·.1))
  | .own _ => ∃ o, h.get? a = some o
  | .xd fs => ∃ mA, h.Ns1 a mA ∧ ∀ f, RelO (fs.lookup f) (mA f)
  | .rng lo hi => ∃ t u v, h.get? a = some { cls := .type "range", data := .fields #[.int lo t, .int hi u, .int 1 v] }
  | .frz o u => h.get? a = some o ∧ ObjOk H h a u
  | .tbl ps => h.get? a = some { cls := .none, data := .fields ps }
  | .met f x => h.get? a = some (PySem.W.methodObj (.ref f) (.ref x))
  | .ext φ => φ h ∧ (∃ o, h.get? a = some o) ∧ ∀ h1 h2 : Heap, φ h1 → (∀ o, h1.get? a = some o → h2.get? a = some o) → φ h2
def HOk (H : Hp) (h : Heap) : Prop := ∀ a o, H a = some o → ObjOk P w H h a o
end

section
variable {P : Program} {w : World} {H H' : Hp} {h h' : Heap} {a : Addr} {o : HO}
theorem ObjOk.lt (x : ObjOk P w H h a o) : a < h.objs.size := by
  cases o with
  | lst xs => obtain ⟨_, _, _, _, e⟩ := x; exact Heap.lt_size e
  | tup xs => obtain ⟨_, _, _, p⟩ := x; exact p.lt
  | dK kvs => obtain ⟨_, _, _, _, o, _, _, e, _⟩ := x; exact Heap.lt_size e
  | dT kvs => obtain ⟨_, _, _, _, o, _, _, e, _⟩ := x; exact Heap.lt_size e
  | set S n => obtain ⟨o, _, _, _, e, _⟩ := x; exact Heap.lt_size e
  | ins C dx fs => obtain ⟨_, _, _, e, _⟩ := x; exact Heap.lt_size e
  | own y => obtain ⟨_, e⟩ := x; exact Heap.lt_size e
  | xd fs => obtain ⟨_, ⟨_, _, _, e, _⟩, _⟩ := x; exact Heap.lt_size e
  | rng lo hi => obtain ⟨_, _, _, e⟩ := x; exact Heap.lt_size e
  | frz ob u => obtain ⟨e, _⟩ := x; exact Heap.lt_size e
  | tbl ps => exact Heap.lt_size (show h.get? a = some _ from x)
  | met f y => exact Heap.lt_size (show h.get? a = some _ from x)
  | ext φ => obtain ⟨_, ⟨_, e⟩, _⟩ := x; exact Heap.lt_size e
theorem Paired.mapP {α β : Type} {F G : α → β → Prop} : ∀ {l₁ : List α} {l₂ : List β}, Paired F l₁ l₂ → (∀ a b, F a b → G a b) → Paired G l₁ l₂
  | _, _, .nil, _ => .nil
  | _, _, .cons r t, f => .cons (f _ _ r) (Paired.mapP t f)
theorem ObjOk.stay (x : ObjOk P w H h a o) (k : ∀ b u, (b = a ∨ H b = some (.own a)) → h.get? b = some u → h'.get? b = some u)
    (ho : ∀ b, H b = some (.own a) → H' b = some (.own a)) (ht : ∀ b xs, H b = some (.tup xs) → H' b = some (.tup xs)) : ObjOk P w H' h' a o := by
  induction o with
  | lst xs => obtain ⟨z, its, n, r, e⟩ := x; exact ⟨z, its, n, r, k _ _ (.inl rfl) e⟩
  | tup xs => obtain ⟨z, its, r, ob, e, c⟩ := x; exact ⟨z, its, r, ob, k _ _ (.inl rfl) e, c⟩
  | dK kvs => obtain ⟨z, y, vs, r, ob, es, ep, e, c⟩ := x; exact ⟨z, y, vs, r, ob, es, ep, k _ _ (.inl rfl) e, c⟩
  | dT kvs =>
    obtain ⟨z, y, xs, r, ob, es, ep, e, c⟩ := x
    exact ⟨z, y, xs, Paired.mapP r fun p q z => ⟨z.1, ht _ _ z.2.1, z.2.2⟩, ob, es, ep, k _ _ (.inl rfl) e, c⟩
  | set S n => obtain ⟨ob, es, ep, t, e, c⟩ := x; exact ⟨ob, es, ep, t, k _ _ (.inl rfl) e, c⟩
  | ins C dx fs =>
    obtain ⟨d, z, ne, e, mA, ⟨od, es, ep, e2, c⟩, r⟩ := x
    exact ⟨ho _ d, z, ne, k _ _ (.inl rfl) e, mA, ⟨od, es, ep, k _ _ (.inr d) e2, c⟩, r⟩
  | own y => obtain ⟨ob, e⟩ := x; exact ⟨ob, k _ _ (.inl rfl) e⟩
  | xd fs => obtain ⟨mA, ⟨od, es, ep, e, c⟩, r⟩ := x; exact ⟨mA, ⟨od, es, ep, k _ _ (.inl rfl) e, c⟩, r⟩
  | rng lo hi => obtain ⟨t, u, v, e⟩ := x; exact ⟨t, u, v, k _ _ (.inl rfl) e⟩
  | frz ob u ih => obtain ⟨e, q⟩ := x; exact ⟨k _ _ (.inl rfl) e, ih q⟩
  | tbl ps =>
    have e : h.get? a = some { cls := .none, data := .fields ps } := x
    show h'.get? a = some { cls := .none, data := .fields ps }
    exact k a _ (.inl rfl) e
  | met f y =>
    have e : h.get? a = some (PySem.W.methodObj (.ref f) (.ref y)) := x
    show h'.get? a = some (PySem.W.methodObj (.ref f) (.ref y))
    exact k a _ (.inl rfl) e
  | ext φ => obtain ⟨p, ⟨o, e⟩, st⟩ := x; exact ⟨st _ _ p fun o q => k _ _ (.inl rfl) q, ⟨o, k _ _ (.inl rfl) e⟩, st⟩
theorem HOk.lt (x : HOk P w H h) (e : H a = some o) : a < h.objs.size := (x a o e).lt
theorem HOk.fresh (x : HOk P w H h) (e : h.objs.size ≤ a) : H a = none := by
  cases q : H a with
  | none => rfl
  | some u => exact absurd (Nat.lt_of_lt_of_le (x.lt q) e) (Nat.lt_irrefl _)
theorem HOk.kept (x : HOk P w H h) (k : ∀ b u, h.get? b = some u → h'.get? b = some u) : HOk P w H h' := fun a o e =>
  (x a o e).stay (fun b u _ q => k b u q) (fun _ q => q) fun _ _ q => q
theorem HOk.laid (x : HOk P w H h) (k : ∀ b u, h.get? b = some u → h'.get? b = some u) (hp : h.objs.size ≤ a) (new : ObjOk P w (upd H a o) h' a o) : HOk P w (upd H a o) h' := fun b u e => by
  have hn := x.fresh hp
  by_cases hb : b = a
  · subst hb; rw [upd_same] at e; cases e; exact new
  · rw [upd_ne hb] at e
    exact (x b u e).stay (fun c v _ q => k c v q) (fun c q => by rw [upd_ne (ne_of_none q hn)]; exact q) fun c xs q => by rw [upd_ne (ne_of_none q hn)]; exact q
end

def Rd (H : Hp) (a : Addr) (u : HO) : Prop := H a = some u ∨ ∃ o, H a = some (.frz o u)
theorem Rd.ok {P : Program} {w : World} {H : Hp} {h : Heap} {a : Addr} {u : HO} (r : Rd H a u) (x : HOk P w H h) : ObjOk P w H h a u := by
  rcases r with r | ⟨o, r⟩
  · exact x a u r
  · obtain ⟨_, q⟩ := x a _ r
    exact q
def Mut : Option HO → Prop
  | some (.lst _) => True
  | some (.dK _) => True
  | some (.dT _) => True
  | some (.set _ _) => True
  | some (.ins _ _ _) => True
  | some (.ext _) => True
  | _ => False
section
variable {P : Program} {w : World} {H : Hp} {h h' : Heap} {x e : Addr} {o' : HO}
theorem HOk.write (ok : HOk P w H h) (mu : Mut (H x)) (he : e = x ∨ H e = some (.own x)) (k : ∀ b u, b ≠ e → h.get? b = some u → h'.get? b = some u) (heo : ∃ u, h'.get? e = some u)
    (new : ObjOk P w (upd H x o') h' x o') : HOk P w (upd H x o') h' := fun b u q => by
  have nown : ∀ c y, H c = some (.own y) → c ≠ x := fun c y r z => by subst z; rw [r] at mu; exact mu
  have ntup : ∀ c xs, H c = some (.tup xs) → c ≠ x := fun c xs r z => by subst z; rw [r] at mu; exact mu
  by_cases hb : b = x
  · subst hb; rw [upd_same] at q; cases q; exact new
  · rw [upd_ne hb] at q
    by_cases hbe : b = e
    · have q' : H b = some (.own x) := by
        rcases he with z | z
        · exact absurd (hbe.trans z) hb
        · rw [hbe]; exact z
      rw [q] at q'; cases q'
      obtain ⟨v, hv⟩ := heo
      exact ⟨v, by rw [hbe]; exact hv⟩
    · refine (ok b u q).stay (fun c v hc r => k c v ?_ r) (fun c r => by rw [upd_ne (nown c b r)]; exact r) fun c xs r => by rw [upd_ne (ntup c xs r)]; exact r
      rcases hc with rfl | hc
      · exact hbe
      · rintro rfl
        rcases he with z | z
        · exact nown c b hc z
        · rw [hc] at z; cases z; exact hb rfl
end

structure Un (fs ex : List Addr) (H H' : Hp) (h h' : Heap) : Prop where
  keep : ∀ b o, h.get? b = some o → H b = none → b ∉ fs → b ∉ ex → h'.get? b = some o
  slot : ∀ b o, h.get? b = some o → H b = none → b ∈ fs → b ∉ ex → ∃ sl, h'.get? b = some { o with slots := sl }
  free : ∀ b o, h.get? b = some o → H b = none → b ∉ ex → H' b = none
  there : ∀ b o, h.get? b = some o → b ∉ ex → ∃ o', h'.get? b = some o'
  tups : ∀ b xs, H b = some (.tup xs) → H' b = some (.tup xs)
  frzs : ∀ b o u, H b = some (.frz o u) → H' b = some (.frz o u)
  tbls : ∀ b ps, H b = some (.tbl ps) → ∃ more, H' b = some (.tbl (ps ++ more))
section
variable {fs fs' ex ex' : List Addr} {H H1 H2 : Hp} {h h1 h2 h' : Heap} {a x e : Addr} {o : HO}
theorem Un.any (u : Un fs ex H H1 h h1) {b : Addr} {ob : Obj} (q : h.get? b = some ob) (n : H b = none) (hx : b ∉ ex) : ∃ sl, h1.get? b = some { ob with slots := sl } := by
  by_cases hb : b ∈ fs
  · exact u.slot b ob q n hb hx
  · exact ⟨ob.slots, u.keep b ob q n hb hx⟩
theorem Un.kept (k : ∀ b u, h.get? b = some u → h'.get? b = some u) : Un fs ex H H h h' :=
  ⟨fun b ob q _ _ _ => k b ob q, fun b ob q _ _ _ => ⟨ob.slots, k b ob q⟩, fun _ _ _ n _ => n, fun b ob q _ => ⟨ob, k b ob q⟩, fun _ _ q => q, fun _ _ _ q => q, fun _ ps q => ⟨#[], by rw [q]; simp⟩⟩
theorem Un.refl : Un fs ex H H h h := Un.kept fun _ _ q => q
theorem Un.laid (k : ∀ b u, h.get? b = some u → h'.get? b = some u) (hp : h.objs.size ≤ a) (hn : H a = none) : Un fs ex H (upd H a o) h h' where
  keep := fun b u q _ _ _ => k b u q
  slot := fun b u q _ _ _ => ⟨u.slots, k b u q⟩
  free := fun b u q n _ => by rw [upd_ne (Nat.ne_of_lt (Nat.lt_of_lt_of_le (Heap.lt_size q) hp))]; exact n
  there := fun b u q _ => ⟨u, k b u q⟩
  tups := fun b xs q => by rw [upd_ne (ne_of_none q hn)]; exact q
  frzs := fun b u xs q => by rw [upd_ne (ne_of_none q hn)]; exact q
  tbls := fun b ps q => ⟨#[], by rw [upd_ne (ne_of_none q hn), q]; simp⟩
theorem Un.write (mu : Mut (H x)) (he : e = x ∨ H e = some (.own x)) (k : ∀ b u, b ≠ e → h.get? b = some u → h'.get? b = some u) (heo : ∃ u, h'.get? e = some u) : Un fs ex H (upd H x o) h h' := by
  have hx : ∀ b, H b = none → b ≠ x := fun b n z => by subst z; rw [n] at mu; exact mu
  have hb : ∀ b, H b = none → b ≠ e := fun b n z => by
    subst z
    rcases he with r | r
    · exact hx b n r
    · rw [n] at r; cases r
  have hm : ∀ b u, H b = some u → ¬ Mut (some u) → b ≠ x := fun b u q nm z => by subst z; rw [q] at mu; exact nm mu
  refine ⟨fun b u q n _ _ => k b u (hb b n) q, fun b u q n _ _ => ⟨u.slots, k b u (hb b n) q⟩, fun b u q n _ => by rw [upd_ne (hx b n)]; exact n, fun b u q _ => ?_,
    fun b xs q => by rw [upd_ne (hm b _ q fun z => z)]; exact q, fun b u xs q => by rw [upd_ne (hm b _ q fun z => z)]; exact q, fun b ps q => ⟨#[], by rw [upd_ne (hm b _ q fun z => z), q]; simp⟩⟩
  by_cases hbe : b = e
  · subst hbe; exact heo
  · exact ⟨u, k b u hbe q⟩
end

def trk (h : Heap) (H : Hp) : List Addr := (List.range h.objs.size).filter fun a => (H a).isSome
def hidT (h : Heap) (H : Hp) : Heap := PySem.W.hideAll h (trk h H)
theorem hidT_size (h : Heap) (H : Hp) : (hidT h H).objs.size = h.objs.size := PySem.W.hideAll_size _ _
theorem hidT_get {h : Heap} {H : Hp} {b : Addr} {o : Obj} (e : h.get? b = some o) (n : H b = none) : (hidT h H).get? b = some o :=
  PySem.W.hideAll_get _ e fun hm => by
    have q : (H b).isSome = true := (List.mem_filter.mp hm).2
    rw [n] at q; simp at q
theorem of_hidT {h : Heap} {H : Hp} {b : Addr} {o : Obj} (e : (hidT h H).get? b = some o) : h.get? b = some o ∧ H b = none := by
  have e' : h.get? b = some o := PySem.W.of_hideAll (trk h H) e
  refine ⟨e', ?_⟩
  cases q : H b with
  | none => rfl
  | some x =>
    have hm : b ∈ trk h H := List.mem_filter.mpr ⟨List.mem_range.mpr (Heap.lt_size e'), by simp [q]⟩
    have z : (hidT h H).get? b = none := PySem.W.hideAll_none (trk h H) hm
    rw [z] at e; cases e

end L2

namespace L2
open PySem PySem.Spec PyProof.Rows

structure Mod (K : PySem.W.Frag) (mg : Str → Option Value) (base : Heap) : Prop where
  kin : K.In base
  glob : base.Ns mainGlobals mg
  blt : ∃ mb, base.Ns builtinsNs mb ∧ ∀ x : Str, x ≠ "__name__" → mb x = bootBuiltins x
  nolimit : base.NoLimit

structure Cx where
  prog : Program
  w : World
  K : PySem.W.Frag
  mg : Str → Option Value
  base : Heap
  A : Around
  N : List Str
  s_0 : Shared
  H_0 : Hp
  env : Env
  outer : List Env
  stack : List Env
  ex : List Addr
  fn : Str → Bool
  calm : Bool
  pn : List (Addr × Obj)
  xe : Value → Shared → Prop
def frs (l : List Env) : List Addr := l.filterMap (·.frame)
abbrev Cx.fs (X : Cx) : List Addr := frs X.outer

def Vis (sc : Scope) (x : Str) : Prop := sc.names.lookup x = some .local ∨ sc.names.lookup x = some .cell ∨ sc.names.lookup x = some .free
def Loc (sc : Scope) (x : Str) : Prop := sc.names.lookup x = some .local ∨ sc.names.lookup x = some .cell
def Look (env : Env) (h : Heap) (m : Str → Option Value) (x : Str) (u : Value) : Prop :=
  (env.kindOf x = some .local ∧ m x = some u) ∨ ((env.kindOf x = some .cell ∨ env.kindOf x = some .free) ∧ ∃ c, env.cells.lookup x = some c ∧ h.IsCell c (some u))

structure Cx.Ok (X : Cx) : Prop where
  mod : Mod X.K X.mg X.base
  kind : X.env.scope.kind = .function
  glob : X.env.globals = mainGlobals
  blt : X.env.builtins = builtinsNs
  above : X.s_0.heap.objs.size ≤ X.env.locals
  inj : ∀ x y c, X.env.cells.lookup x = some c → X.env.cells.lookup y = some c → x = y
  has : ∀ x, (X.env.kindOf x = some .cell ∨ X.env.kindOf x = some .free) → ∃ c, X.env.cells.lookup x = some c
  cab : ∀ x c, X.fn x = true → X.env.cells.lookup x = some c → X.s_0.heap.objs.size ≤ c
  hd : X.calm = true → X.A.handled = none
  frames : X.A.frames = some X.stack
  stk : X.stack = X.outer ∨ (X.stack = X.env :: X.outer ∧ X.env.frame = some X.env.locals)
  exf : ∀ b ∈ X.ex, b ≠ X.env.locals ∧ ∀ x c, X.env.cells.lookup x = some c → c ≠ b
  bs : ∀ b o, X.base.get? b = some o → X.s_0.heap.get? b = some o ∧ X.H_0 b = none
  bsz : X.base.objs.size ≤ X.s_0.heap.objs.size
  noex : ∀ b o, X.base.get? b = some o → b ∉ X.ex
  exfs : ∀ b ∈ X.ex, b ∉ X.fs
  funs : X.s_0.heap.FunFrames X.base X.outer
  frf : ∀ b ∈ X.fs, X.H_0 b = none

structure Inv (X : Cx) (pins : List (Addr × Obj)) (σ : List (Option V)) (H : Hp) (s : Shared) : Prop where
  ok : X.Ok
  os : s.os = X.s_0.os
  bare : AllBare s.gens
  base : Un X.fs X.ex X.H_0 H X.s_0.heap s.heap
  loc : ∃ m, s.heap.Ns X.env.locals m ∧ ∀ (i : Nat) (x : Str) (v : V), X.N[i]? = some x → σ[i]? = some (some v) → Vis X.env.scope x → ∃ u, RelV v u ∧ Look X.env s.heap m x u
  cell : ∀ x c, X.env.cells.lookup x = some c → ∃ v, s.heap.IsCell c v
  free : H X.env.locals = none
  freeC : ∀ x c, X.env.cells.lookup x = some c → H c = none
  pin : ∀ p ∈ X.pn ++ pins, s.heap.get? p.1 = some p.2 ∧ H p.1 = none ∧ p.1 ≠ X.env.locals ∧ p.1 ∉ X.fs ∧ ∀ v, p.2.data ≠ .cell v
  hok : HOk X.prog X.w H s.heap
  len : σ.length = X.N.length

section
variable {X : Cx} {pins : List (Addr × Obj)} {σ : List (Option V)} {H H' : Hp} {s : Shared} {h' : Heap}

theorem Cx.Ok.nofr (ok : X.Ok) {b : Addr} {o : Obj} (e : X.base.get? b = some o) : b ∉ X.fs := fun hb => by
  have := (ok.funs.mem hb).1
  rw [e] at this; cases this
theorem Inv.bs (I : Inv X pins σ H s) : ∀ b o, X.base.get? b = some o → s.heap.get? b = some o ∧ H b = none := fun b o e =>
  ⟨I.base.keep b o (I.ok.bs b o e).1 (I.ok.bs b o e).2 (I.ok.nofr e) (I.ok.noex b o e), I.base.free b o (I.ok.bs b o e).1 (I.ok.bs b o e).2 (I.ok.noex b o e)⟩
theorem Inv.bk (I : Inv X pins σ H s) : ∀ b o, X.base.get? b = some o → s.heap.get? b = some o := fun b o e => (I.bs b o e).1
theorem Inv.mod (I : Inv X pins σ H s) : Mod X.K X.mg X.base := I.ok.mod
theorem Inv.kIn (I : Inv X pins σ H s) : X.K.In s.heap := I.ok.mod.kin.keeps I.bk
theorem Inv.fr (I : Inv X pins σ H s) : ∃ m, Fr X.base X.env.locals s.heap m :=
  let ⟨m, hn, _⟩ := I.loc
  ⟨m, hn, I.bk, Nat.le_trans I.ok.bsz I.ok.above⟩
theorem Inv.lt (I : Inv X pins σ H s) : X.env.locals < s.heap.objs.size := let ⟨_, hn, _⟩ := I.loc; hn.lt
theorem Inv.sz (I : Inv X pins σ H s) : X.s_0.heap.objs.size ≤ s.heap.objs.size := Nat.le_trans I.ok.above (Nat.le_of_lt I.lt)
theorem Inv.nofs (I : Inv X pins σ H s) {a : Addr} (h : s.heap.objs.size ≤ a) : a ∉ X.fs := fun hb => by
  obtain ⟨_, o, ho, _⟩ := I.ok.funs.mem hb
  exact absurd (Nat.lt_of_lt_of_le (Heap.lt_size ho) (Nat.le_trans I.sz h)) (Nat.lt_irrefl _)
theorem Inv.cne (I : Inv X pins σ H s) : ∀ x c, X.env.cells.lookup x = some c → c ≠ X.env.locals := fun x c e z => by
  obtain ⟨v, o, ho, hd⟩ := I.cell x c e
  obtain ⟨m, ⟨o', es, ep, ho', hd', _⟩, _⟩ := I.loc
  rw [z, ho'] at ho; cases ho; rw [hd'] at hd; cases hd
theorem Inv.funs (I : Inv X pins σ H s) : s.heap.FunFrames X.base X.outer := by
  have all : ∀ (l : List Env), (∀ b ∈ frs l, b ∈ X.fs) → X.s_0.heap.FunFrames X.base l → s.heap.FunFrames X.base l := by
    intro l
    induction l with
    | nil => intro _ _; trivial
    | cons env r ih =>
      intro hs hl
      obtain ⟨hk, ⟨L, o, hf, hn, ho, hd⟩, hr⟩ := hl
      have hL : L ∈ X.fs := hs L (by unfold frs; rw [List.filterMap_cons, hf]; exact List.mem_cons_self)
      obtain ⟨sl, e⟩ := I.base.slot L o ho (I.ok.frf L hL) hL fun z => I.ok.exfs L z hL
      exact ⟨hk, ⟨L, _, hf, hn, e, hd⟩, ih (fun b hb => hs b (by unfold frs; rw [List.filterMap_cons, hf]; exact List.mem_cons_of_mem _ hb)) hr⟩
  exact all X.outer (fun _ hb => hb) I.ok.funs

theorem Inv.stack (I : Inv X pins σ H s) : s.heap.FunFrames X.base X.stack := by
  rcases I.ok.stk with e | ⟨e, hf⟩
  · rw [e]; exact I.funs
  · rw [e]
    obtain ⟨m, hn, _⟩ := I.loc
    refine .cons (by rw [I.ok.kind]; decide) hf hn ?_ I.funs
    exact Heap.get?_none_of_le (Nat.le_trans I.ok.bsz I.ok.above)
theorem Inv.stkSub (I : Inv X pins σ H s) : ∀ b ∈ frs X.stack, b ∈ X.env.locals :: X.fs := fun b hb => by
  rcases I.ok.stk with e | ⟨e, hf⟩
  · rw [e] at hb; exact List.mem_cons_of_mem _ hb
  · rw [e] at hb
    unfold frs at hb
    rw [List.filterMap_cons, hf] at hb
    exact hb
theorem Inv.stkFree (I : Inv X pins σ H s) : ∀ b ∈ frs X.stack, H b = none := fun b hb => by
  rcases List.mem_cons.mp (I.stkSub b hb) with e | hb
  · rw [e]; exact I.free
  · obtain ⟨_, o, ho, _⟩ := I.ok.funs.mem hb
    exact I.base.free b o ho (I.ok.frf b hb) fun z => I.ok.exfs b z hb

theorem Inv.step {g' : Array GenState} {t' : Nat} {d' : Drawn} {ch : List Addr} (I : Inv X pins σ H s)
    (hch : ∀ b ∈ ch, (b ∈ X.ex ∨ X.s_0.heap.objs.size ≤ b) ∧ b ≠ X.env.locals ∧ (∀ x c, X.env.cells.lookup x = some c → c ≠ b) ∧ ∀ p ∈ X.pn ++ pins, p.1 ≠ b)
    (keep : ∀ b o, b ≠ X.env.locals → b ∉ X.fs → b ∉ ch → s.heap.get? b = some o → H b = none → h'.get? b = some o)
    (slot : ∀ b o, b ≠ X.env.locals → b ∈ X.fs → b ∉ ch → s.heap.get? b = some o → H b = none → ∃ sl, h'.get? b = some { o with slots := sl }) (free : ∀ b o, b ∉ ch → s.heap.get? b = some o → H b = none → H' b = none)
    (there : ∀ b o, b ∉ ch → s.heap.get? b = some o → ∃ o', h'.get? b = some o')
    (tups : ∀ b xs, H b = some (.tup xs) → H' b = some (.tup xs)) (frzs : ∀ b o u, H b = some (.frz o u) → H' b = some (.frz o u)) (tbls : ∀ b ps, H b = some (.tbl ps) → ∃ more, H' b = some (.tbl (ps ++ more)))
    (ns : ∀ m, s.heap.Ns X.env.locals m → h'.Ns X.env.locals m) (hok : HOk X.prog X.w H' h') (hg : AllBare g') :
    Inv X pins σ H' { s with heap := h', gens := g', drawn := d', toks := t' } := by
  have neL : ∀ b o, X.s_0.heap.get? b = some o → b ≠ X.env.locals := fun b o e => Nat.ne_of_lt (Nat.lt_of_lt_of_le (Heap.lt_size e) I.ok.above)
  have neC : ∀ b o, X.s_0.heap.get? b = some o → b ∉ X.ex → b ∉ ch := fun b o e hx hb => by
    rcases (hch b hb).1 with z | z
    · exact hx z
    · exact absurd (Nat.lt_of_lt_of_le (Heap.lt_size e) z) (Nat.lt_irrefl _)
  have cellK : ∀ x c, X.env.cells.lookup x = some c → ∀ v, s.heap.IsCell c v → h'.IsCell c v := fun x c e v ⟨o, ho, hd⟩ => by
    have nch : c ∉ ch := fun z => (hch c z).2.2.1 x c e rfl
    by_cases hc : c ∈ X.fs
    · obtain ⟨sl, q⟩ := slot c o (I.cne x c e) hc nch ho (I.freeC x c e)
      exact ⟨_, q, hd⟩
    · exact ⟨o, keep c o (I.cne x c e) hc nch ho (I.freeC x c e), hd⟩
  refine ⟨I.ok, I.os, hg, ⟨fun b o e n hb hx => ?_, fun b o e n hb hx => ?_, fun b o e n hx => ?_, fun b o e hx => ?_, fun b xs e => tups b xs (I.base.tups b xs e), fun b o xs e => frzs b o xs (I.base.frzs b o xs e), fun b ps e => ?_⟩, ?_, fun x c e => ?_, ?_, fun x c e => ?_, fun p hp => ?_, hok, I.len⟩
  · exact keep b o (neL b o e) hb (neC b o e hx) (I.base.keep b o e n hb hx) (I.base.free b o e n hx)
  · obtain ⟨sl, e1⟩ := I.base.slot b o e n hb hx
    obtain ⟨sl', e2⟩ := slot b _ (neL b o e) hb (neC b o e hx) e1 (I.base.free b o e n hx)
    exact ⟨sl', e2⟩
  · obtain ⟨o', e1⟩ := I.base.there b o e hx
    exact free b o' (neC b o e hx) e1 (I.base.free b o e n hx)
  · obtain ⟨o', e1⟩ := I.base.there b o e hx
    exact there b o' (neC b o e hx) e1
  · obtain ⟨m1, e1⟩ := I.base.tbls b ps e
    obtain ⟨m2, e2⟩ := tbls b _ e1
    exact ⟨m1 ++ m2, by rw [e2, Array.append_assoc]⟩
  · obtain ⟨m, hn, hl⟩ := I.loc
    refine ⟨m, ns m hn, fun i x v e1 e2 e3 => ?_⟩
    obtain ⟨u, r, l⟩ := hl i x v e1 e2 e3
    refine ⟨u, r, ?_⟩
    rcases l with l | ⟨k, c, e, z⟩
    · exact .inl l
    · exact .inr ⟨k, c, e, cellK x c e _ z⟩
  · obtain ⟨v, z⟩ := I.cell x c e
    exact ⟨v, cellK x c e v z⟩
  · obtain ⟨m, ⟨o, _, _, ho, _⟩, _⟩ := I.loc
    exact free _ o (fun z => (hch _ z).2.1 rfl) ho I.free
  · obtain ⟨v, o, ho, hd⟩ := I.cell x c e
    exact free c o (fun z => (hch c z).2.2.1 x c e rfl) ho (I.freeC x c e)
  · obtain ⟨e, n, ne, nf, d⟩ := I.pin p hp
    have nch : p.1 ∉ ch := fun z => (hch p.1 z).2.2.2 p hp rfl
    exact ⟨keep p.1 p.2 ne nf nch e n, free p.1 p.2 nch e n, ne, nf, d⟩
theorem Inv.un {t' : Nat} (I : Inv X pins σ H s) (u : Un X.fs [] H H' s.heap h') (hok : HOk X.prog X.w H' h') : Inv X pins σ H' { s with heap := h', toks := t' } := by
  obtain ⟨m, ⟨o, es, ep, ho, r⟩, _⟩ := id I.loc
  obtain ⟨sl, hL⟩ := u.any ho I.free (by simp)
  exact I.step (g' := s.gens) (d' := s.drawn) (ch := []) (fun _ z => nomatch z) (fun b o _ hb _ e n => u.keep b o e n hb (by simp)) (fun b o _ hb _ e n => u.slot b o e n hb (by simp)) (fun b o _ e n => u.free b o e n (by simp)) (fun b o _ e => u.there b o e (by simp)) u.tups u.frzs u.tbls (fun m' hm => by
    obtain ⟨o', es', ep', ho', r'⟩ := hm
    rw [ho] at ho'; cases ho'
    exact ⟨_, es', ep', hL, r'⟩) hok I.bare
theorem Inv.call {g' : Array GenState} {t' : Nat} {d' : Drawn} {ch : List Addr} (I : Inv X pins σ H s) (u : Un (frs X.stack) ch H H' s.heap h') (hok : HOk X.prog X.w H' h') (hg : AllBare g')
    (hch : ∀ b ∈ ch, (b ∈ X.ex ∨ X.s_0.heap.objs.size ≤ b) ∧ b ≠ X.env.locals ∧ (∀ x c, X.env.cells.lookup x = some c → c ≠ b) ∧ ∀ p ∈ X.pn ++ pins, p.1 ≠ b) :
    Inv X pins σ H' { s with heap := h', gens := g', drawn := d', toks := t' } := by
  obtain ⟨m, ⟨o, es, ep, ho, r⟩, _⟩ := id I.loc
  obtain ⟨sl, hL⟩ := u.any ho I.free fun z => (hch _ z).2.1 rfl
  exact I.step (ch := ch) hch (fun b o hL hb hc e n => u.keep b o e n (fun z => (List.mem_cons.mp (I.stkSub b z)).elim hL hb) hc) (fun b o _ _ hc e n => u.any e n hc) (fun b o hc e n => u.free b o e n hc) (fun b o hc e => u.there b o e hc) u.tups u.frzs u.tbls (fun m' hm => by
    obtain ⟨o', es', ep', ho', r'⟩ := hm
    rw [ho] at ho'; cases ho'
    exact ⟨_, es', ep', hL, r'⟩) hok hg
theorem Inv.turned {t' : Nat} {it : Addr} (I : Inv X pins σ H s) (k : ∀ b o, b ≠ it → s.heap.get? b = some o → h'.get? b = some o) (hn : H it = none) (hL : it ≠ X.env.locals)
    (h1 : it ∈ X.ex ∨ X.s_0.heap.objs.size ≤ it) (h2 : ∀ x c, X.env.cells.lookup x = some c → c ≠ it) (h3 : ∀ p ∈ X.pn ++ pins, p.1 ≠ it) : Inv X pins σ H { s with heap := h', toks := t' } := by
  have nit : ∀ b u, H b = some u → b ≠ it := fun b u e z => by rw [z, hn] at e; cases e
  refine I.step (g' := s.gens) (d' := s.drawn) (ch := [it]) (fun b hb => ?_) (fun b o _ _ hc e _ => k b o (fun z => hc (by simp [z])) e) (fun b o _ _ hc e _ => ⟨o.slots, k b o (fun z => hc (by simp [z])) e⟩) (fun _ _ _ _ n => n)
    (fun b o hc e => ⟨o, k b o (fun z => hc (by simp [z])) e⟩) (fun _ _ e => e) (fun _ _ _ e => e) (fun b ps e => ⟨#[], by rw [e]; simp⟩) (fun m hm => ?_) (fun b u e => ?_) I.bare
  · have e : b = it := by simpa using hb
    subst e
    exact ⟨h1, hL, h2, h3⟩
  · obtain ⟨o, es, ep, ho, r⟩ := hm
    exact ⟨o, es, ep, k _ o (Ne.symm hL) ho, r⟩
  · refine (I.hok b u e).stay (fun c v hc q => k c v ?_ q) (fun _ q => q) fun _ _ q => q
    rcases hc with z | z
    · rw [z]; exact nit b u e
    · exact nit c _ z
theorem Inv.tok (I : Inv X pins σ H s) (t : Nat) : Inv X pins σ H { s with toks := t } := I.un (h' := s.heap) (t' := t) Un.refl I.hok
theorem Inv.kept {t' : Nat} (I : Inv X pins σ H s) (k : ∀ b u, s.heap.get? b = some u → h'.get? b = some u) : Inv X pins σ H { s with heap := h', toks := t' } := I.un (Un.kept k) (I.hok.kept k)
theorem Inv.laid {a : Addr} {o : HO} {t' : Nat} (I : Inv X pins σ H s) (k : ∀ b u, s.heap.get? b = some u → h'.get? b = some u) (hp : s.heap.objs.size ≤ a) (new : ObjOk X.prog X.w (upd H a o) h' a o) :
    Inv X pins σ (upd H a o) { s with heap := h', toks := t' } := I.un (Un.laid k hp (I.hok.fresh hp)) (I.hok.laid k hp new)
theorem Inv.write {x e : Addr} {o : HO} {t' : Nat} (I : Inv X pins σ H s) (mu : Mut (H x)) (he : e = x ∨ H e = some (.own x)) (k : ∀ b u, b ≠ e → s.heap.get? b = some u → h'.get? b = some u) (heo : ∃ u, h'.get? e = some u)
    (new : ObjOk X.prog X.w (upd H x o) h' x o) : Inv X pins σ (upd H x o) { s with heap := h', toks := t' } := I.un (Un.write mu he k heo) (I.hok.write mu he k heo new)
theorem Inv.weak {σ' : List (Option V)} (I : Inv X pins σ H s) (hl : σ'.length = σ.length) (w : ∀ (i : Nat) v, σ'[i]? = some (some v) → σ[i]? = some (some v)) : Inv X pins σ' H s :=
  ⟨I.ok, I.os, I.bare, I.base, let ⟨m, hn, hl'⟩ := I.loc; ⟨m, hn, fun i x v e1 e2 e3 => hl' i x v e1 (w i v e2) e3⟩, I.cell, I.free, I.freeC, I.pin, I.hok, hl.trans I.len⟩
theorem Inv.pins_of {pins' : List (Addr × Obj)} (I : Inv X pins σ H s) (h : ∀ p ∈ pins', s.heap.get? p.1 = some p.2 ∧ H p.1 = none ∧ p.1 ≠ X.env.locals ∧ p.1 ∉ X.fs ∧ ∀ v, p.2.data ≠ .cell v) : Inv X pins' σ H s :=
  ⟨I.ok, I.os, I.bare, I.base, I.loc, I.cell, I.free, I.freeC, fun p hp => (List.mem_append.mp hp).elim (fun z => I.pin p (List.mem_append_left _ z)) (h p), I.hok, I.len⟩

theorem nodup_ix {N : List Str} (hN : N.Nodup) {i j : Nat} {x : Str} (a : N[i]? = some x) (b : N[j]? = some x) : i = j := by
  obtain ⟨h1, e1⟩ := List.getElem?_eq_some_iff.mp a
  obtain ⟨h2, e2⟩ := List.getElem?_eq_some_iff.mp b
  exact (List.getElem_inj hN).mp (e1.trans e2.symm)

theorem store_ok2 {M : Model} {A : Around} {E : Value → Shared → Prop} {i : Nat} {x : Str} {v : V} {u : Value} {Q : Unit → Shared → Prop} (I : Inv X pins σ H s) (hN : X.N.Nodup) (hi : X.N[i]? = some x) (hx : Loc X.env.scope x) (r : RelV v u)
    (h : ∀ s', Inv X pins (σ.set i (some v)) H s' → (∃ a, Heap.SameBut a s.heap s'.heap ∧ (a = X.env.locals ∨ X.env.cells.lookup x = some a)) → Q () s') (hf : X.fn x = true ∨ X.env.scope.names.lookup x = some .local := by first | exact .inl rfl | exact .inr rfl | assumption) : wpAny M A (storeName X.env x u) Q E s := by
  obtain ⟨m, hn, hl⟩ := id I.loc
  have hcls : (X.env.scope.kind == .class || (X.env.scope.kind == .module && X.env.locals != X.env.globals)) = false := by rw [I.ok.kind]; rfl
  have hiσ : i < σ.length := by rw [I.len]; exact (List.getElem?_eq_some_iff.mp hi).1
  have cne := I.cne
  have tracked : ∀ {a : Addr} {h' : Heap}, (∃ o, s.heap.get? a = some o ∧ H a = none) → Heap.SameBut a s.heap h' → HOk X.prog X.w H h' := fun {a h'} ha hs b ob e => by
    obtain ⟨_, _, hfree⟩ := ha
    refine (I.hok b ob e).stay (fun c w' hc q => (hs.2 c ?_).trans q) (fun _ q => q) fun _ _ q => q
    rintro rfl
    rcases hc with rfl | hc
    · rw [hfree] at e; cases e
    · rw [hfree] at hc; cases hc
  rcases hx with hk | hk
  · refine wpAny_storeName_local hk hn (fun h' hn' hs => ?_) hcls
    obtain ⟨oL, _, _, hoL, _⟩ := id hn
    refine h _ ⟨I.ok, I.os, I.bare, ⟨fun b o e n hb hx => ?_, fun b o e n hb hx => ?_, I.base.free, fun b o e hx => ?_, I.base.tups, I.base.frzs, I.base.tbls⟩, ⟨_, hn', fun j y v' e1 e2 e3 => ?_⟩, fun y c e => ?_, I.free, I.freeC, fun p hp => ?_, tracked ⟨oL, hoL, I.free⟩ hs, by simpa using I.len⟩ ⟨_, hs, .inl rfl⟩
    · exact (hs.2 b (Nat.ne_of_lt (Nat.lt_of_lt_of_le (Heap.lt_size e) I.ok.above))).trans (I.base.keep b o e n hb hx)
    · obtain ⟨sl, e1⟩ := I.base.slot b o e n hb hx
      exact ⟨sl, (hs.2 b (Nat.ne_of_lt (Nat.lt_of_lt_of_le (Heap.lt_size e) I.ok.above))).trans e1⟩
    · obtain ⟨o', e1⟩ := I.base.there b o e hx
      exact ⟨o', (hs.2 b (Nat.ne_of_lt (Nat.lt_of_lt_of_le (Heap.lt_size e) I.ok.above))).trans e1⟩
    · by_cases hj : j = i
      · subst hj
        rw [hi] at e1; cases e1
        rw [List.getElem?_set_self hiσ] at e2
        cases e2
        exact ⟨u, r, .inl ⟨hk, by simp⟩⟩
      · rw [List.getElem?_set_ne (Ne.symm hj)] at e2
        obtain ⟨u', r', q⟩ := hl j y v' e1 e2 e3
        refine ⟨u', r', ?_⟩
        rcases q with ⟨k, e⟩ | ⟨k, c, e, z⟩
        · refine .inl ⟨k, ?_⟩
          have : y ≠ x := fun e => hj (nodup_ix hN e1 (e ▸ hi))
          simp [this, e]
        · exact .inr ⟨k, c, e, z.sameBut hs (cne y c e)⟩
    · obtain ⟨w', z⟩ := I.cell y c e
      exact ⟨w', z.sameBut hs (cne y c e)⟩
    · obtain ⟨e, n, ne, nf, d⟩ := I.pin p hp
      exact ⟨(hs.2 p.1 ne).trans e, n, ne, nf, d⟩
  · have hfn : X.fn x = true := by
      rcases hf with z | z
      · exact z
      · rw [z] at hk; cases hk
    obtain ⟨c, hc⟩ := I.ok.has x (.inl hk)
    obtain ⟨w', z⟩ := I.cell x c hc
    refine wpAny_storeName_cell I.ok.kind hk hc z (fun h' hc' hs => ?_)
    obtain ⟨oc, hoc, hocd⟩ := id z
    refine h { s with heap := h' } ⟨I.ok, I.os, I.bare, ⟨fun b o e n hb hx => ?_, fun b o e n hb hx => ?_, I.base.free, fun b o e hx => ?_, I.base.tups, I.base.frzs, I.base.tbls⟩, ⟨m, hn.sameBut hs (Ne.symm (cne x c hc)), fun j y v' e1 e2 e3 => ?_⟩, fun y c' e => ?_, I.free, I.freeC, fun p hp => ?_, tracked ⟨oc, hoc, I.freeC x c hc⟩ hs, by simpa using I.len⟩ ⟨c, hs, .inr hc⟩
    · exact (hs.2 b (Nat.ne_of_lt (Nat.lt_of_lt_of_le (Heap.lt_size e) (I.ok.cab x c hfn hc)))).trans (I.base.keep b o e n hb hx)
    · obtain ⟨sl, e1⟩ := I.base.slot b o e n hb hx
      exact ⟨sl, (hs.2 b (Nat.ne_of_lt (Nat.lt_of_lt_of_le (Heap.lt_size e) (I.ok.cab x c hfn hc)))).trans e1⟩
    · obtain ⟨o', e1⟩ := I.base.there b o e hx
      exact ⟨o', (hs.2 b (Nat.ne_of_lt (Nat.lt_of_lt_of_le (Heap.lt_size e) (I.ok.cab x c hfn hc)))).trans e1⟩
    · by_cases hj : j = i
      · subst hj
        rw [hi] at e1; cases e1
        rw [List.getElem?_set_self hiσ] at e2
        cases e2
        exact ⟨u, r, .inr ⟨.inl hk, c, hc, hc'⟩⟩
      · rw [List.getElem?_set_ne (Ne.symm hj)] at e2
        obtain ⟨u', r', q⟩ := hl j y v' e1 e2 e3
        refine ⟨u', r', ?_⟩
        rcases q with q | ⟨k, c', e, z'⟩
        · exact .inl q
        · refine .inr ⟨k, c', e, z'.sameBut hs ?_⟩
          rintro rfl
          exact hj (nodup_ix hN e1 (I.ok.inj _ _ _ e hc ▸ hi))
    · by_cases hcc : c' = c
      · subst hcc; exact ⟨_, hc'⟩
      · obtain ⟨w2, z2⟩ := I.cell y c' e
        exact ⟨w2, z2.sameBut hs hcc⟩
    · obtain ⟨e, n, ne, nf, d⟩ := I.pin p hp
      refine ⟨(hs.2 p.1 ?_).trans e, n, ne, nf, d⟩
      intro q
      rw [q, hoc] at e
      have q' : oc = p.2 := Option.some.inj e
      exact d w' (by rw [← q']; exact hocd)
theorem store_ok {M : Model} {A : Around} {E : Value → Shared → Prop} {i : Nat} {x : Str} {v : V} {u : Value} {Q : Unit → Shared → Prop} (I : Inv X pins σ H s) (hN : X.N.Nodup) (hi : X.N[i]? = some x) (hx : Loc X.env.scope x) (r : RelV v u)
    (h : ∀ s', Inv X pins (σ.set i (some v)) H s' → Q () s') (hf : X.fn x = true ∨ X.env.scope.names.lookup x = some .local := by first | exact .inl rfl | exact .inr rfl | assumption) : wpAny M A (storeName X.env x u) Q E s :=
  store_ok2 I hN hi hx r (fun s' I' _ => h s' I') hf
theorem Inv.call' {s' : Shared} {ch : List Addr} (I : Inv X pins σ H s) (ho : s'.os = s.os) (u : Un (frs X.stack) ch H H' s.heap s'.heap) (hok : HOk X.prog X.w H' s'.heap) (hg : AllBare s'.gens)
    (hch : ∀ b ∈ ch, (b ∈ X.ex ∨ X.s_0.heap.objs.size ≤ b) ∧ b ≠ X.env.locals ∧ (∀ x c, X.env.cells.lookup x = some c → c ≠ b) ∧ ∀ p ∈ X.pn ++ pins, p.1 ≠ b) : Inv X pins σ H' s' := by
  obtain ⟨h', g', d', t', o'⟩ := s'
  have e : o' = s.os := ho
  subst e
  exact I.call (g' := g') (t' := t') (d' := d') u hok hg hch
end

abbrev XK := Value → Option Addr → Hp → Prop
abbrev St := List (Option V)
abbrev VK := V → Hp → Prop
abbrev TE := St → Hp → VK → Prop
abbrev TT := St → Hp → (Bool → Hp → Prop) → Prop
abbrev TA := St → Hp → (List V → Hp → Prop) → Prop
structure Ends where
  nx : St → Hp → Prop
  rt : VK
  bk : St → Hp → Prop := fun _ _ => False
  ct : St → Hp → Prop := fun _ _ => False
abbrev TS := Ends → St → Hp → Prop

def EP (X : Cx) (pins : List (Addr × Obj)) (σ : St) (Q : VK) (u : Value) (s' : Shared) : Prop := ∃ v H', Inv X pins σ H' s' ∧ RelV v u ∧ Q v H'
def TP (X : Cx) (pins : List (Addr × Obj)) (σ : St) (Q : Bool → Hp → Prop) (b : Bool) (s' : Shared) : Prop := ∃ H', Inv X pins σ H' s' ∧ Q b H'
def AP (X : Cx) (pins : List (Addr × Obj)) (σ : St) (Q : List V → Hp → Prop) (us : List Value) (s' : Shared) : Prop := ∃ vs H', Inv X pins σ H' s' ∧ Vals vs us ∧ Q vs H'
def SP (X : Cx) (pins : List (Addr × Obj)) (D : Ends) (f : Flow) (s' : Shared) : Prop :=
  match f with
  | .next => ∃ σ' H', Inv X pins σ' H' s' ∧ D.nx σ' H'
  | .brk => ∃ σ' H', Inv X pins σ' H' s' ∧ D.bk σ' H'
  | .cont => ∃ σ' H', Inv X pins σ' H' s' ∧ D.ct σ' H'
  | .ret u => ∃ v σ' H', Inv X pins σ' H' s' ∧ RelV v u ∧ D.rt v H'

def PE (X : Cx) (e : Expr) (t : TE) : Prop :=
  ∀ (pins : List (Addr × Obj)) (s : Shared) (σ : St) (H : Hp) (Q : VK), Inv X pins σ H s → t σ H Q → wpAny (model X.prog X.w) X.A (eval e X.env) (EP X pins σ Q) X.xe s
def PT (X : Cx) (e : Expr) (t : TT) : Prop :=
  ∀ (pins : List (Addr × Obj)) (s : Shared) (σ : St) (H : Hp) (Q : Bool → Hp → Prop), Inv X pins σ H s → t σ H Q → wpAny (model X.prog X.w) X.A (isTrue e X.env (eval e X.env)) (TP X pins σ Q) X.xe s
def PW (X : Cx) (e : Expr) (t : TT) : Prop :=
  ∀ (whole : Sem Value) (pins : List (Addr × Obj)) (s : Shared) (σ : St) (H : Hp) (Q : Bool → Hp → Prop), Inv X pins σ H s → t σ H Q → wpAny (model X.prog X.w) X.A (isTrue e X.env whole) (TP X pins σ Q) X.xe s
theorem PW.pt {X : Cx} {e : Expr} {t : TT} (h : PW X e t) : PT X e t := h _
def PA (X : Cx) (es : List Expr) (t : TA) : Prop :=
  ∀ (pos : Pos) (pins : List (Addr × Obj)) (s : Shared) (σ : St) (H : Hp) (Q : List V → Hp → Prop), Inv X pins σ H s → t σ H Q → wpAny (model X.prog X.w) X.A (spliced (backTo pos (starEach es X.env))) (AP X pins σ Q) X.xe s
def PS (X : Cx) (st : Stmt) (t : TS) : Prop :=
  ∀ (pins : List (Addr × Obj)) (s : Shared) (σ : St) (H : Hp) (D : Ends), Inv X pins σ H s → t D σ H → wpAny (model X.prog X.w) X.A (exec st X.env) (SP X pins D) X.xe s
def PSs (X : Cx) (st : List Stmt) (t : TS) : Prop :=
  ∀ (pins : List (Addr × Obj)) (s : Shared) (σ : St) (H : Hp) (D : Ends), Inv X pins σ H s → t D σ H → wpAny (model X.prog X.w) X.A (execs st X.env) (SP X pins D) X.xe s
theorem thn {α : Type} {t : Sem α} {Q Q' : α → Shared → Prop} {M : Model} {A : Around} {E : Value → Shared → Prop} {s : Shared} (h : wpAny M A t Q E s) (hQ : ∀ a s, Q a s → Q' a s) : wpAny M A t Q' E s := wpAny_mono h hQ fun _ _ x => x
end L2

namespace L2
open PySem PySem.Spec PyProof.Rows
section
variable {X : Cx}

def tVar (i : Nat) : TE := fun σ H Q => ∃ v, σ[i]? = some (some v) ∧ Q v H
def tC (v : V) : TE := fun _ H Q => Q v H
theorem pe_var {i : Nat} {x : Str} {pos : Pos} (hN : X.N[i]? = some x) (hv : Vis X.env.scope x) (hd : (x == ("__debug__" : Str)) = false := by decide) (hcd : (x == ("__classdict__" : Str)) = false := by decide) : PE X (.Name x pos) (tVar i) := by
  intro pins s σ H Q I h
  obtain ⟨v, e, h⟩ := h
  obtain ⟨m, hn, hl⟩ := I.loc
  obtain ⟨u, r, l⟩ := hl i x v hN e hv
  have fin : EP X pins σ Q u s := ⟨v, H, I, r, h⟩
  rcases l with ⟨hk, hm⟩ | ⟨hk, c, hc, hcell⟩
  · exact wpAny_Name (wpAny_loadName_local I.ok.kind hk hn hm fin) hd
  · rcases hk with hk | hk
    · exact wpAny_Name (wpAny_loadName_cell I.ok.kind hk hc hcell fin) hd
    · exact wpAny_Name (wpAny_loadName_free I.ok.kind hk hc hcell fin hcd) hd
theorem pe_int {i j pos} : PE X (.Constant (.int i) j pos) (tC (.int i)) := fun _ _ _ H _ I h => wpAny_Constant_int ⟨.int i, H, I.tok _, ⟨_, rfl⟩, h⟩
theorem pe_bl {b j pos} : PE X (.Constant (.bool b) j pos) (tC (.bl b)) := fun _ _ _ H _ I h => Constant_bool ⟨.bl b, H, I, rfl, h⟩
theorem pe_non {j pos} : PE X (.Constant .none j pos) (tC .non) := fun _ _ _ H _ I h => Constant_none ⟨.non, H, I, rfl, h⟩
theorem pe_str {x j pos} : PE X (.Constant (.str x) j pos) (tC (.str x)) := fun _ _ _ H _ I h => Calls.Constant_str ⟨.str x, H, I.tok _, ⟨_, rfl⟩, h⟩

def Gl (X : Cx) (x : Str) : Prop := X.env.kindOf x = some .globalImplicit
theorem ld_glob {E : Value → Shared → Prop} {pins : List (Addr × Obj)} {s : Shared} {σ : St} {H : Hp} {x : Str} {u : Value} {pos : Pos} {Q : Value → Shared → Prop} (I : Inv X pins σ H s) (hg : Gl X x) (hm : X.mg x = some u) (h : Q u s)
    (hd : (x == ("__debug__" : Str)) = false := by decide) : wpAny (model X.prog X.w) X.A (eval (.Name x pos) X.env) Q E s :=
  Calls.Name_function_global I.ok.kind hg (Calls.loadGlobal_global (by rw [I.ok.glob]; exact I.mod.glob.keeps I.bk) hm h) hd
theorem ld_blt {E : Value → Shared → Prop} {pins : List (Addr × Obj)} {s : Shared} {σ : St} {H : Hp} {x : Str} {u : Value} {pos : Pos} {Q : Value → Shared → Prop} (I : Inv X pins σ H s) (hg : Gl X x) (hm : X.mg x = none) (hv : bootBuiltins x = some u) (h : Q u s)
    (hn : x ≠ "__name__" := by decide) (hd : (x == ("__debug__" : Str)) = false := by decide) : wpAny (model X.prog X.w) X.A (eval (.Name x pos) X.env) Q E s := by
  obtain ⟨mb, h1, h2⟩ := I.mod.blt
  exact Calls.Name_function_global I.ok.kind hg (Calls.loadGlobal_builtin (by rw [I.ok.glob]; exact I.mod.glob.keeps I.bk) hm (by rw [I.ok.blt]; exact h1.keeps I.bk) ((h2 x hn).trans hv) h) hd
theorem pe_glob {x : Str} {v : V} {u : Value} {pos : Pos} (hg : Gl X x) (hm : X.mg x = some u) (r : RelV v u) (hd : (x == ("__debug__" : Str)) = false := by decide) : PE X (.Name x pos) (tC v) :=
  fun _ _ _ H _ I h => ld_glob I hg hm ⟨v, H, I, r, h⟩ hd
variable {a b : Expr} {ta tb : TE} {pos : Pos}
def tB (t : TE) : TT := fun σ H Q => t σ H fun x H1 => ∃ c, x = .bl c ∧ Q c H1
theorem pt_val {e : Expr} {t : TE} (h : PE X e t) (he : ∀ whole, isTrue e X.env whole = (do let v ← whole; standAt e.pos; holding [v] (truthy v)) := by intro _; rfl) : PT X e (tB t) := by
  intro pins s σ H Q I hw
  refine isTrue_plain (thn (h pins s σ H _ I hw) fun v s1 ⟨x, H1, I1, r1, q1⟩ => ?_) (he _)
  obtain ⟨d, rfl, q⟩ := q1
  cases r1
  exact wpAny_truthy_bool ⟨H1, I1, q⟩

variable {tA tB' : TT} {rest : List Expr}
def tAnd (t u : TT) : TT := fun σ H Q => t σ H fun c H1 => if c = true then u σ H1 Q else Q false H1
def tOr (t u : TT) : TT := fun σ H Q => t σ H fun c H1 => if c = true then Q true H1 else u σ H1 Q
def tNot (t : TT) : TT := fun σ H Q => t σ H fun c H1 => Q (!c) H1
theorem pw_and1 (ha : PT X a tA) : PW X (.BoolOp .And [a] pos) tA := by
  intro wh pins s σ H Q I h
  refine isTrue_and (thn (ha pins s σ H Q I h) fun c s1 e => ?_)
  cases c with
  | true => exact isTrue_and_nil e
  | false => exact e
theorem pw_or1 (ha : PT X a tA) : PW X (.BoolOp .Or [a] pos) tA := by
  intro wh pins s σ H Q I h
  refine isTrue_or (thn (ha pins s σ H Q I h) fun c s1 e => ?_)
  cases c with
  | false => exact isTrue_or_nil e
  | true => exact e
theorem pw_and (ha : PT X a tA) (hb : PW X (.BoolOp .And (b :: rest) pos) tB') : PW X (.BoolOp .And (a :: b :: rest) pos) (tAnd tA tB') := by
  intro wh pins s σ H Q I h
  refine isTrue_and (thn (ha pins s σ H _ I h) fun c s1 ⟨H1, I1, q1⟩ => ?_)
  cases c with
  | true => exact hb wh pins s1 σ H1 Q I1 q1
  | false => exact ⟨H1, I1, q1⟩
theorem pw_or (ha : PT X a tA) (hb : PW X (.BoolOp .Or (b :: rest) pos) tB') : PW X (.BoolOp .Or (a :: b :: rest) pos) (tOr tA tB') := by
  intro wh pins s σ H Q I h
  refine isTrue_or (thn (ha pins s σ H _ I h) fun c s1 ⟨H1, I1, q1⟩ => ?_)
  cases c with
  | true => exact ⟨H1, I1, q1⟩
  | false => exact hb wh pins s1 σ H1 Q I1 q1
theorem pt_not (ha : PT X a tA) : PT X (.UnaryOp .Not a pos) (tNot tA) := by
  intro pins s σ H Q I h
  exact isTrue_not (ha pins s σ H (fun c H1 => Q (!c) H1) I h)
def tAndV (ta tb : TE) : TE := fun σ H Q => ta σ H fun x H1 => ∃ c, x = .bl c ∧ if c = true then tb σ H1 Q else Q (.bl false) H1
def tNotV (ta : TE) : TE := fun σ H Q => ta σ H fun x H1 => ∃ c, x = .bl c ∧ Q (.bl (!c)) H1
theorem pe_one {op} {t : TE} (h : PE X a t) : PE X (.BoolOp op [a] pos) t := fun pins s σ H Q I hw => BoolOp_one (h pins s σ H Q I hw)
theorem pe_and (ha : PE X a ta) (hb : PE X (.BoolOp .And (b :: rest) pos) tb) : PE X (.BoolOp .And (a :: b :: rest) pos) (tAndV ta tb) := by
  intro pins s σ H Q I h
  refine BoolOp_and (thn (ha pins s σ H _ I h) fun v s1 ⟨x, H1, I1, r1, q1⟩ => ?_)
  obtain ⟨c, rfl, q1⟩ := q1
  cases r1
  refine wpAny_truthy_bool ?_
  cases c with
  | true => exact hb pins s1 σ H1 Q I1 q1
  | false => exact ⟨.bl false, H1, I1, rfl, q1⟩
theorem pe_not (ha : PE X a ta) : PE X (.UnaryOp .Not a pos) (tNotV ta) := by
  intro pins s σ H Q I h
  refine UnaryOp_ (thn (ha pins s σ H _ I h) fun v s1 ⟨x, H1, I1, r1, q1⟩ => ?_)
  obtain ⟨c, rfl, q1⟩ := q1
  cases r1
  exact not_of (wpAny_truthy_bool ⟨.bl (!c), H1, I1, rfl, q1⟩)
end
end L2

namespace L2
open PySem PySem.Spec PyProof.Rows

def SqL (K : PySem.W.Frag) (H : Hp) (a : Addr) (xs : List V) : Prop :=
  Rd H a (.lst xs) ∨
    ∃ (o : Obj) (its : Array Value) (n : Nat), K.lookup a = some o ∧ o.cls = .type "list" ∧ o.dict = none ∧ o.data = .seq its n ∧ its.size ≤ sizeLine ∧ Vals xs its.toList
def SqT (K : PySem.W.Frag) (H : Hp) (a : Addr) (xs : List V) : Prop :=
  Rd H a (.tup xs) ∨
    ∃ (o : Obj) (its : Array Value) (n : Nat), K.lookup a = some o ∧ o.cls = .type "tuple" ∧ o.data = .seq its n ∧ its.size ≤ sizeLine ∧ Vals xs its.toList
def absV : Value → Option V
  | .none => some .non
  | .bool b => some (.bl b)
  | .int i _ => some (.int i)
  | .str x _ => some (.str x)
  | .bytes b _ => some (.byt b)
  | .float b _ => some (.flt b)
  | .ref a => some (.ref a)
  | .type n => some (.ty n)
  | _ => none
theorem RelV.abs {x : V} {u : Value} (r : RelV x u) : absV u = some x := by
  cases x with
  | non => cases r; rfl
  | bl _ => cases r; rfl
  | int _ => obtain ⟨t, rfl⟩ := r; rfl
  | str _ => obtain ⟨t, rfl⟩ := r; rfl
  | byt _ => obtain ⟨t, rfl⟩ := r; rfl
  | flt _ => obtain ⟨t, rfl⟩ := r; rfl
  | ref _ => cases r; rfl
  | ty _ => cases r; rfl
theorem RelV.inj {x y : V} {u : Value} (r : RelV x u) (q : RelV y u) : x = y := Option.some.inj (r.abs.symm.trans q.abs)
theorem Vals.inj : ∀ {xs ys : List V} {us : List Value}, Vals xs us → Vals ys us → xs = ys
  | _, _, _, .nil, .nil => rfl
  | _, _, _, .cons r t, .cons r' t' => by rw [r.inj r', Vals.inj t t']
section
variable {X : Cx} {pins : List (Addr × Obj)} {σ : St} {H : Hp} {s : Shared} {a : Addr} {xs ys : List V}
theorem SqL.of {K : PySem.W.Frag} (h : H a = some (.lst xs)) : SqL K H a xs := .inl (.inl h)
theorem SqT.of {K : PySem.W.Frag} (h : H a = some (.tup xs)) : SqT K H a xs := .inl (.inl h)
theorem Inv.list (I : Inv X pins σ H s) (h : SqL X.K H a xs) : ∃ its : List Value, Vals xs its ∧ PlainL s.heap a its.toArray ∧ xs.length ≤ sizeLine := by
  rcases h with h | ⟨o, its, n, hk, hc, hd, hs, hz, r⟩
  · obtain ⟨z, its, n, r, e⟩ := h.ok I.hok
    exact ⟨its, r, ⟨_, n, e, rfl, rfl, rfl⟩, z⟩
  · refine ⟨its.toList, r, ⟨o, n, I.kIn a o hk, hc, hd, by simpa using hs⟩, ?_⟩
    have e := r.length
    simp only [Array.length_toList] at e
    omega
theorem Inv.tuple (I : Inv X pins σ H s) (h : SqT X.K H a xs) : ∃ its : List Value, Vals xs its ∧ IsTup s.heap a its.toArray ∧ xs.length ≤ sizeLine := by
  rcases h with h | ⟨o, its, n, hk, hc, hs, hz, r⟩
  · obtain ⟨z, its, r, p⟩ := h.ok I.hok
    exact ⟨its, r, p, z⟩
  · refine ⟨its.toList, r, ⟨o, I.kIn a o hk, hc, n, by simpa using hs⟩, ?_⟩
    have e := r.length
    simp only [Array.length_toList] at e
    omega
theorem Inv.list_inj (I : Inv X pins σ H s) (h : SqL X.K H a xs) (h' : SqL X.K H a ys) : xs = ys := by
  obtain ⟨its, r, ⟨o, n, e, _, _, d⟩, _⟩ := I.list h
  obtain ⟨its', r', ⟨o', n', e', _, _, d'⟩, _⟩ := I.list h'
  rw [e] at e'; cases e'
  rw [d] at d'
  injection d' with d1 _
  have : its = its' := by simpa using congrArg Array.toList d1
  subst this
  exact r.inj r'
theorem Inv.tuple_inj (I : Inv X pins σ H s) (h : SqT X.K H a xs) (h' : SqT X.K H a ys) : xs = ys := by
  obtain ⟨its, r, ⟨o, e, _, n, d⟩, _⟩ := I.tuple h
  obtain ⟨its', r', ⟨o', e', _, n', d'⟩, _⟩ := I.tuple h'
  rw [e] at e'; cases e'
  rw [d] at d'
  injection d' with d1 _
  have : its = its' := by simpa using congrArg Array.toList d1
  subst this
  exact r.inj r'
end

abbrev Cx.wish (X : Cx) (E : Value → Shared → Prop) : Cx := { X with xe := E }
abbrev Cx.nox (X : Cx) : Cx := X.wish fun _ _ => False
theorem Cx.Ok.wish {X : Cx} (ok : X.Ok) (E : Value → Shared → Prop) : (X.wish E).Ok :=
  ⟨ok.mod, ok.kind, ok.glob, ok.blt, ok.above, ok.inj, ok.has, ok.cab, ok.hd, ok.frames, ok.stk, ok.exf, ok.bs, ok.bsz, ok.noex, ok.exfs, ok.funs, ok.frf⟩
theorem Cx.Ok.unwish {X : Cx} {E : Value → Shared → Prop} (ok : (X.wish E).Ok) : X.Ok :=
  ⟨ok.mod, ok.kind, ok.glob, ok.blt, ok.above, ok.inj, ok.has, ok.cab, ok.hd, ok.frames, ok.stk, ok.exf, ok.bs, ok.bsz, ok.noex, ok.exfs, ok.funs, ok.frf⟩
section
variable {X : Cx} {pins : List (Addr × Obj)} {σ : St} {H : Hp} {s : Shared} {E : Value → Shared → Prop}
theorem Inv.wish (I : Inv X pins σ H s) (E : Value → Shared → Prop) : Inv (X.wish E) pins σ H s := ⟨I.ok.wish E, I.os, I.bare, I.base, I.loc, I.cell, I.free, I.freeC, I.pin, I.hok, I.len⟩
theorem Inv.unwish (I : Inv (X.wish E) pins σ H s) : Inv X pins σ H s := ⟨I.ok.unwish, I.os, I.bare, I.base, I.loc, I.cell, I.free, I.freeC, I.pin, I.hok, I.len⟩
theorem SP.unwish {D : Ends} {f : Flow} {s' : Shared} (h : SP (X.wish E) pins D f s') : SP X pins D f s' := by
  cases f with
  | next => obtain ⟨σ', H', I, q⟩ := h; exact ⟨σ', H', I.unwish, q⟩
  | brk => obtain ⟨σ', H', I, q⟩ := h; exact ⟨σ', H', I.unwish, q⟩
  | cont => obtain ⟨σ', H', I, q⟩ := h; exact ⟨σ', H', I.unwish, q⟩
  | ret u => obtain ⟨v, σ', H', I, r, q⟩ := h; exact ⟨v, σ', H', I.unwish, r, q⟩
theorem PSs.nox {st : List Stmt} {t : TS} (h : PSs X.nox st t) : PSs X st t := fun pins s σ H D I hw =>
  wpAny_mono (h pins s σ H D (I.wish _) hw) (fun _ _ q => q.unwish) fun _ _ z => False.elim z
end

section
variable {X : Cx} {st : Stmt} {rest : List Stmt} {t u : TS} {e : Expr} {te : TE} {pos : Pos}
def tNext : TS := fun D σ H => D.nx σ H
def tSeq (t u : TS) : TS := fun D σ H => t { D with nx := u D } σ H
theorem pss_nil : PSs X [] tNext := fun _ _ σ H _ I h => wpAny_execs_nil ⟨σ, H, I, h⟩
theorem pss_cons (h1 : PS X st t) (h2 : PSs X rest u) : PSs X (st :: rest) (tSeq t u) := by
  intro pins s σ H D I h
  refine wpAny_execs_cons (thn (h1 pins s σ H { D with nx := u D } I h) fun f s1 q => ?_)
  cases f with
  | next =>
    obtain ⟨σ', H', I', q⟩ := q
    exact h2 pins s1 σ' H' D I' q
  | ret v => exact q
  | brk => exact q
  | cont => exact q
theorem pss_one (h1 : PS X st t) : PSs X [st] t := by
  intro pins s σ H D I h
  refine wpAny_execs_cons (thn (h1 pins s σ H D I h) fun f s1 q => ?_)
  cases f with
  | next => exact wpAny_execs_nil q
  | ret v => exact q
  | brk => exact q
  | cont => exact q
theorem Inv.quiet {pins : List (Addr × Obj)} {σ : St} {H : Hp} {s : Shared} (I : Inv X pins σ H s) : interactive X.env = false := by simp [interactive, I.ok.kind]
def tDrop (te : TE) : TS := fun D σ H => te σ H fun _ H1 => D.nx σ H1
theorem ps_expr (he : PE X e te) (hs : swapsWith e none pos.line X.env = pure false := by rfl) : PS X (.Expr e pos) (tDrop te) := by
  intro pins s σ H D I h
  exact wpAny_Expr_any (thn (he pins s σ H _ I h) fun v s1 ⟨x, H1, I1, r1, q1⟩ => ⟨σ, H1, I1, q1⟩) I.quiet hs
def tRet (te : TE) : TS := fun D σ H => te σ H D.rt
theorem ps_ret (he : PE X e te) : PS X (.Return (some e) pos) (tRet te) := by
  intro pins s σ H D I h
  exact wpAny_Return_some (thn (he pins s σ H _ I h) fun v s1 ⟨x, H1, I1, r1, q1⟩ => ⟨x, σ, H1, I1, r1, q1⟩)
def tIfS (c : TT) (t u : TS) : TS := fun D σ H => c σ H fun b H1 => if b = true then t D σ H1 else u D σ H1
theorem ps_if {c : Expr} {a b : List Stmt} {tc : TT} (hc : PT X c tc) (ha : PSs X a t) (hb : PSs X b u) : PS X (.If c a b pos) (tIfS tc t u) := by
  intro pins s σ H D I h
  refine wpAny_If (thn (hc pins s σ H _ I h) fun d s1 ⟨H1, I1, q1⟩ => ?_)
  cases d with
  | true => exact ha pins s1 σ H1 D I1 q1
  | false => exact hb pins s1 σ H1 D I1 q1
end

abbrev TG := V → St → Hp → (St → Hp → Prop) → Prop
def PG (X : Cx) (target : Expr) (t : TG) : Prop :=
  ∀ (pins : List (Addr × Obj)) (s : Shared) (σ : St) (H : Hp) (v : V) (u : Value) (Q : St → Hp → Prop), Inv X pins σ H s → RelV v u → t v σ H Q →
    wpAny (model X.prog X.w) X.A (assign target X.env u) (fun _ s' => ∃ σ' H', Inv X pins σ' H' s' ∧ Q σ' H') X.xe s
section
variable {X : Cx} {pos : Pos}
def gName (i : Nat) : TG := fun v σ H Q => Q (σ.set i (some v)) H
theorem pg_name {i : Nat} {x : Str} (hN : X.N.Nodup) (hi : X.N[i]? = some x) (hx : Loc X.env.scope x) (hf : X.fn x = true ∨ X.env.scope.names.lookup x = some .local := by first | exact .inl rfl | exact .inr rfl | assumption) : PG X (.Name x pos) (gName i) := by
  intro pins s σ H v u Q I r h
  exact wpAny_assign_Name (store_ok I hN hi hx r (fun s' I' => ⟨_, H, I', h⟩) hf)
def tAsg (te : TE) (g : TG) : TS := fun D σ H => te σ H fun x H1 => g x σ H1 D.nx
theorem ps_set {i : Nat} {x : Str} {e : Expr} {te : TE} {pos' : Pos} (hN : X.N.Nodup) (hi : X.N[i]? = some x) (hx : Loc X.env.scope x) (he : PE X e te) (hs : swapsWith e (some (.Name x pos')) pos.line X.env = pure false := by rfl) (hf : X.fn x = true ∨ X.env.scope.names.lookup x = some .local := by first | exact .inl rfl | exact .inr rfl | assumption) :
    PS X (.Assign [.Name x pos'] e pos) (tAsg te (gName i)) := by
  intro pins s σ H D I h
  refine wpAny_Assign_Name (thn (he pins s σ H _ I h) fun v s1 ⟨y, H1, I1, r1, q1⟩ => ?_) hs
  exact store_ok I1 hN hi hx r1 (fun s2 I2 => ⟨_, H1, I2, q1⟩) hf
end

section
variable {X : Cx} {pos : Pos}
def tWhile (c : TT) (tb : TS) : TS := fun D σ H => ∃ W : Nat → St → Hp → Prop, (∃ m, W m σ H) ∧ ∀ m σ H, W m σ H →
  c σ H fun b H1 => if b = true then ∃ N : St → Hp → Prop, (∀ σ' H', N σ' H' → ∃ m', m' < m ∧ W m' σ' H') ∧ tb { D with nx := N, ct := N, bk := D.nx } σ H1 else D.nx σ H1
theorem ps_while {c : Expr} {body : List Stmt} {tc : TT} {tb : TS} (hp : PassesOwn (model X.prog X.w) X.A X.env X.xe) (hc : PT X c tc) (hb : PSs X body tb) : PS X (.While c body [] pos) (tWhile tc tb) := by
  intro pins s σ H D I h
  obtain ⟨W, ⟨m0, w0⟩, turn⟩ := h
  refine wpAny_While (codeAny_whileLoop (fun n s' => ∃ σ' H', Inv X pins σ' H' s' ∧ W n σ' H') ?_ m0 ⟨σ, H, I, w0⟩)
  rintro n s1 ⟨σ1, H1, I1, w1⟩
  refine wpAny_passesOwn hp (thn (hc pins s1 σ1 H1 _ I1 (turn n σ1 H1 w1)) fun b s2 ⟨H2, I2, q2⟩ => ?_)
  cases b with
  | true =>
    obtain ⟨N, hN, q2⟩ := q2
    rw [if_pos rfl]
    refine wpAny_passesOwn hp (thn (hb pins s2 σ1 H2 _ I2 q2) fun f s3 q3 => ?_)
    cases f with
    | next =>
      obtain ⟨σ3, H3, I3, n3⟩ := q3
      obtain ⟨m', hm, w3⟩ := hN σ3 H3 n3
      exact ⟨m', hm, σ3, H3, I3, w3⟩
    | cont =>
      obtain ⟨σ3, H3, I3, n3⟩ := q3
      obtain ⟨m', hm, w3⟩ := hN σ3 H3 n3
      exact ⟨m', hm, σ3, H3, I3, w3⟩
    | brk => exact q3
    | ret v => exact q3
  | false =>
    rw [if_neg Bool.false_ne_true]
    exact wpAny_execs_nil ⟨σ1, H2, I2, q2⟩
end

structure It where
  go : Nat → Hp → Prop
  yld : Nat → Hp → V → Hp → Prop
  stop : Nat → Hp → Prop
def FpOk (X : Cx) (pins : List (Addr × Obj)) (H : Hp) (b : Addr) : Prop :=
  H b = none ∧ b ≠ X.env.locals ∧ b ∉ X.fs ∧ (b ∈ X.ex ∨ X.s_0.heap.objs.size ≤ b) ∧ (∀ x c, X.env.cells.lookup x = some c → c ≠ b) ∧ ∀ p ∈ X.pn ++ pins, p.1 ≠ b
theorem Inv.fpOk {X : Cx} {pins : List (Addr × Obj)} {σ : St} {H H' : Hp} {s : Shared} {b : Addr} (I : Inv X pins σ H s) (hb : s.heap.objs.size ≤ b) (hn : H' b = none) : FpOk X pins H' b := by
  refine ⟨hn, Nat.ne_of_gt (Nat.lt_of_lt_of_le I.lt hb), I.nofs hb, .inr (Nat.le_trans I.sz hb), fun x c e z => ?_, fun p hp z => ?_⟩
  · obtain ⟨v, q⟩ := I.cell x c e
    exact absurd (Nat.lt_of_lt_of_le q.lt (by rw [z]; exact hb)) (Nat.lt_irrefl _)
  · exact absurd (Nat.lt_of_lt_of_le (Heap.lt_size (I.pin p hp).1) (by rw [z]; exact hb)) (Nat.lt_irrefl _)
structure Turn (P : Program) (w : World) (K : PySem.W.Frag) (tg : Expr) (J : It) (fp : List Addr) (it : Addr) (tn : Nat → Heap → Prop) : Prop where
  mem : it ∈ fp
  obj : ∀ i h, tn i h → ∀ b ∈ fp, ∃ o, h.get? b = some o ∧ ∀ v, o.data ≠ .cell v
  keep : ∀ i h h', tn i h → (∀ b ∈ fp, ∀ o, h.get? b = some o → h'.get? b = some o) → tn i h'
  item : ∀ (X : Cx), X.prog = P → X.w = w → X.K = K → X.calm = true → ∀ (i : Nat) (pins : List (Addr × Obj)) (s : Shared) (σ : St) (H : Hp) (E : Value → Shared → Prop), Inv X pins σ H s → (∀ b ∈ fp, FpOk X pins H b) → tn i s.heap → J.go i H →
    wpAny (model P w) X.A (pyNext (.ref it)) (fun r s1 => ∃ u, r = some u ∧
      wpAny (model P w) X.A (letOwnedTupleGo tg (.ref it) u) (fun _ s2 => ∃ x H', Inv X pins σ H' s2 ∧ RelV x u ∧ J.yld i H x H' ∧ tn (i + 1) s2.heap ∧ ∀ b ∈ fp, H' b = none) E s1) E s
  done : ∀ (X : Cx), X.prog = P → X.w = w → X.K = K → X.calm = true → ∀ (i : Nat) (pins : List (Addr × Obj)) (s : Shared) (σ : St) (H : Hp) (E : Value → Shared → Prop), Inv X pins σ H s → (∀ b ∈ fp, FpOk X pins H b) → tn i s.heap → J.stop i H →
    wpAny (model P w) X.A (pyNext (.ref it)) (fun r s1 => r = none ∧ Inv X pins σ H s1) E s
  self : ∀ (A : Around) (i : Nat) (s : Shared) (Q : Value → Shared → Prop) (E : Value → Shared → Prop), tn i s.heap → Q (.ref it) s → wpAny (model P w) A (pyIter (.ref it)) Q E s
abbrev TI := St → Hp → (It → Hp → Prop) → Prop
def PIE (X : Cx) (pins : List (Addr × Obj)) (σ : St) (tg : Expr) (R : It → Hp → Prop) (itv : Value) (s2 : Shared) : Prop :=
  ∃ (it : Addr) (fp : List Addr) (tn : Nat → Heap → Prop) (J : It) (H' : Hp), itv = .ref it ∧ Inv X pins σ H' s2 ∧ Turn X.prog X.w X.K tg J fp it tn ∧ tn 0 s2.heap ∧ (∀ b ∈ fp, FpOk X pins H' b) ∧ R J H'
def PI (X : Cx) (tg iter : Expr) (wi : TI) : Prop :=
  ∀ (pins : List (Addr × Obj)) (s : Shared) (σ : St) (H : Hp) (R : It → Hp → Prop), Inv X pins σ H s → wi σ H R →
    wpAny (model X.prog X.w) X.A (eval iter X.env) (fun v s1 => wpAny (model X.prog X.w) X.A (pyIter v) (PIE X pins σ tg R) X.xe s1) X.xe s

theorem go_of {M : Model} {A : Around} {E : Value → Shared → Prop} {s : Shared} {tg : Expr} {it : Addr} {u : Value} {o : Obj} {n : String} {vs : Array Value} {Q : Unit → Shared → Prop} (ho : s.heap.get? it = some o) (hc : o.cls = .type n) (hd : o.data = .fields vs)
    (hn : ["enumerate", "zip", "dict_itemiterator", "dict_reverseitemiterator", "odict_iterator", "itertools.zip_longest", "itertools.pairwise"].contains n = false) (hQ : Q () s) : wpAny M A (letOwnedTupleGo tg (.ref it) u) Q E s := by
  unfold letOwnedTupleGo
  cases tg <;> first
    | exact wpAny_pure hQ
    | (cases u <;> first
        | exact wpAny_pure hQ
        | (refine wpAny_bind (wpAny_load ho ?_)
           rw [hc, hd]
           show wpAny M A (if (["enumerate", "zip", "dict_itemiterator", "dict_reverseitemiterator", "odict_iterator", "itertools.zip_longest", "itertools.pairwise"].contains n && vs[0]? == some (rawInt _)) = true then _ else _) Q E s
           rw [if_neg (by intro h; rw [hn, Bool.false_and] at h; cases h)]
           exact wpAny_pure hQ))

def Itl (K : PySem.W.Frag) (a : Addr) : It :=
  ⟨fun i H => ∃ xs x, SqL K H a xs ∧ xs[i]? = some x, fun i H x H' => H' = H ∧ ∀ xs, SqL K H a xs → xs[i]? = some x, fun i H => ∃ xs, SqL K H a xs ∧ xs.length ≤ i⟩
def Itt (K : PySem.W.Frag) (a : Addr) : It :=
  ⟨fun i H => ∃ xs x, SqT K H a xs ∧ xs[i]? = some x, fun i H x H' => H' = H ∧ ∀ xs, SqT K H a xs → xs[i]? = some x, fun i H => ∃ xs, SqT K H a xs ∧ xs.length ≤ i⟩
def Itr (lo : Int) (n : Nat) : It := ⟨fun i _ => i < n, fun i H x H' => H' = H ∧ x = .int (lo + i), fun i _ => n ≤ i⟩
theorem turn_list {P : Program} {w : World} {K : PySem.W.Frag} {tg : Expr} (a it : Addr) : Turn P w K tg (Itl K a) [it] it (fun i h => h.IsListIter it a i) where
  mem := by simp
  obj := fun i h st b hb => by
    have e : b = it := by simpa using hb
    subst e
    obtain ⟨o, e, c, d⟩ := st
    exact ⟨o, e, fun v z => by rw [d] at z; cases z⟩
  keep := fun i h h' st k => st.at fun o e => k it (by simp) o e
  item := by
    intro X hP hw hK hc i pins s σ H E I hf st hg
    subst hP hw hK
    obtain ⟨xs, x, hq, hx⟩ := hg
    obtain ⟨its, rv, p, hz⟩ := I.list hq
    obtain ⟨u, hu, ru⟩ := rv.get hx
    obtain ⟨f0, f1, f2, f3, f4, f5⟩ := hf it (by simp)
    refine wpAny_pyNext_list_item st p.isList (x := u) (by simpa using hu) fun h' st' sb => ?_
    have I1 : Inv X pins σ H { s with heap := h' } := I.turned (t' := s.toks) (fun b o hb e => (sb.2 b hb).trans e) f0 f1 f3 f4 f5
    obtain ⟨o, e, c, d⟩ := id st'
    exact ⟨u, rfl, go_of (s := { s with heap := h' }) e c d (by decide) ⟨x, H, I1, ru, ⟨rfl, fun ys hy => by rw [I.list_inj hy hq]; exact hx⟩, st', fun b hb => (hf b hb).1⟩⟩
  done := by
    intro X hP hw hK hc i pins s σ H E I hf st hg
    subst hP hw hK
    obtain ⟨xs, hq, hx⟩ := hg
    obtain ⟨its, rv, p, hz⟩ := I.list hq
    obtain ⟨f0, f1, f2, f3, f4, f5⟩ := hf it (by simp)
    have hl := rv.length
    exact wpAny_pyNext_list_end (I.ok.hd hc) st p.isList (by simp; omega) fun h' eb => ⟨rfl, I.turned (t' := s.toks) (fun b o hb e => eb b o hb e) f0 f1 f3 f4 f5⟩
  self := fun _ _ _ _ _ st h => wpAny_pyIter_listiter st h
theorem turn_tuple {P : Program} {w : World} {K : PySem.W.Frag} {tg : Expr} (a it : Addr) : Turn P w K tg (Itt K a) [it] it (fun i h => h.IsTupleIter it a i) where
  mem := by simp
  obj := fun i h st b hb => by
    have e : b = it := by simpa using hb
    subst e
    obtain ⟨o, e, c, d⟩ := st
    exact ⟨o, e, fun v z => by rw [d] at z; cases z⟩
  keep := fun i h h' st k => st.at fun o e => k it (by simp) o e
  item := by
    intro X hP hw hK hc i pins s σ H E I hf st hg
    subst hP hw hK
    obtain ⟨xs, x, hq, hx⟩ := hg
    obtain ⟨its, rv, p, hz⟩ := I.tuple hq
    obtain ⟨u, hu, ru⟩ := rv.get hx
    obtain ⟨f0, f1, f2, f3, f4, f5⟩ := hf it (by simp)
    refine wpAny_pyNext_tuple_item st (show s.heap.IsTuple a its.toArray from p) (x := u) (by simpa using hu) fun h' st' sb => ?_
    have I1 : Inv X pins σ H { s with heap := h' } := I.turned (t' := s.toks) (fun b o hb e => (sb.2 b hb).trans e) f0 f1 f3 f4 f5
    obtain ⟨o, e, c, d⟩ := id st'
    exact ⟨u, rfl, go_of (s := { s with heap := h' }) e c d (by decide) ⟨x, H, I1, ru, ⟨rfl, fun ys hy => by rw [I.tuple_inj hy hq]; exact hx⟩, st', fun b hb => (hf b hb).1⟩⟩
  done := by
    intro X hP hw hK hc i pins s σ H E I hf st hg
    subst hP hw hK
    obtain ⟨xs, hq, hx⟩ := hg
    obtain ⟨its, rv, p, hz⟩ := I.tuple hq
    obtain ⟨f0, f1, f2, f3, f4, f5⟩ := hf it (by simp)
    have hl := rv.length
    exact wpAny_pyNext_tuple_end (I.ok.hd hc) st (show s.heap.IsTuple a its.toArray from p) (by simp; omega) fun h' eb => ⟨rfl, I.turned (t' := s.toks) (fun b o hb e => eb b o hb e) f0 f1 f3 f4 f5⟩
  self := fun _ _ _ _ _ st h => wpAny_pyIter_tupleiter st h
theorem turn_range {P : Program} {w : World} {K : PySem.W.Frag} {tg : Expr} (it : Addr) (lo : Int) (n : Nat) : Turn P w K tg (Itr lo n) [it] it (fun i h => IsRangeIter h it (lo + (i : Nat) * 1) ((n : Int) - (i : Nat)) 1) where
  mem := by simp
  obj := fun i h st b hb => by
    have e : b = it := by simpa using hb
    subst e
    exact ⟨_, st, fun v z => by
      have z' : Data.fields _ = Data.cell v := z
      cases z'⟩
  keep := fun i h h' st k => k it (by simp) _ st
  item := by
    intro X hP hw hK hc i pins s σ H E I hf st hg
    subst hP hw hK
    obtain ⟨f0, f1, f2, f3, f4, f5⟩ := hf it (by simp)
    have W := Walks.range (prog := X.prog) (w := X.w) (I.ok.hd hc) it lo 1 n
    refine W.item i s _ _ hg st fun v h' tk hv st' kk => ?_
    obtain ⟨t, rfl⟩ := hv
    have I1 : Inv X pins σ H { s with heap := h', toks := tk } := I.turned (fun b o hb e => kk b o (by simpa using hb) e) f0 f1 f3 f4 f5
    refine ⟨_, rfl, go_of (s := { s with heap := h', toks := tk }) (n := "range_iterator") st' rfl rfl (by decide) ⟨.int (lo + i), H, I1, ⟨t, ?_⟩, ⟨rfl, rfl⟩, st', fun b hb => (hf b hb).1⟩⟩
    rw [Int.mul_one]
  done := by
    intro X hP hw hK hc i pins s σ H E I hf st hg
    subst hP hw hK
    obtain ⟨f0, f1, f2, f3, f4, f5⟩ := hf it (by simp)
    exact wpAny_pyNext_range_end (I.ok.hd hc) st (by have : n ≤ i := hg; omega) fun h' eb => ⟨rfl, I.turned (t' := s.toks) (fun b o hb e => eb b o hb e) f0 f1 f3 f4 f5⟩
  self := fun _ _ _ _ _ st h => wpAny_pyIter_rangeiter st h
end L2

namespace L2
open PySem PySem.Spec PyProof.Rows
section
variable {X : Cx} {tg : Expr}
def iList (K : PySem.W.Frag) (tl : TE) : TI := fun σ H R => tl σ H fun x H1 => ∃ a, x = .ref a ∧ (∃ xs, SqL K H1 a xs) ∧ R (Itl K a) H1
def iTup (K : PySem.W.Frag) (tl : TE) : TI := fun σ H R => tl σ H fun x H1 => ∃ a, x = .ref a ∧ (∃ xs, SqT K H1 a xs) ∧ R (Itt K a) H1
theorem pi_list {l : Expr} {tl : TE} (hl : PE X l tl) : PI X tg l (iList X.K tl) := by
  intro pins s σ H R I h
  refine thn (hl pins s σ H _ I h) fun v s1 ⟨x, H1, I1, r1, q1⟩ => ?_
  obtain ⟨a, e, ⟨xs, hq⟩, q⟩ := q1
  subst e
  cases r1
  obtain ⟨its, rv, p, hz⟩ := I1.list hq
  refine wpAny_pyIter_list p.isList ?_
  refine ⟨s1.heap.objs.size, [s1.heap.objs.size], _, _, H1, rfl, I1.kept (t' := s1.toks) fun b o e => Heap.get?_push_of_some _ e, turn_list a _, ⟨_, Heap.get?_push_size _ rfl, rfl, rfl⟩, fun b hb => ?_, q⟩
  have e : b = s1.heap.objs.size := by simpa using hb
  subst e
  exact I1.fpOk (Nat.le_refl _) (I1.hok.fresh (Nat.le_refl _))
theorem pi_tup {l : Expr} {tl : TE} (hl : PE X l tl) : PI X tg l (iTup X.K tl) := by
  intro pins s σ H R I h
  refine thn (hl pins s σ H _ I h) fun v s1 ⟨x, H1, I1, r1, q1⟩ => ?_
  obtain ⟨a, e, ⟨xs, hq⟩, q⟩ := q1
  subst e
  cases r1
  obtain ⟨its, rv, p, hz⟩ := I1.tuple hq
  refine wpAny_pyIter_tuple (show s1.heap.IsTuple a its.toArray from p) ?_
  refine ⟨s1.heap.objs.size, [s1.heap.objs.size], _, _, H1, rfl, I1.kept (t' := s1.toks) fun b o e => Heap.get?_push_of_some _ e, turn_tuple a _, ⟨_, Heap.get?_push_size _ rfl, rfl, rfl⟩, fun b hb => ?_, q⟩
  have e : b = s1.heap.objs.size := by simpa using hb
  subst e
  exact I1.fpOk (Nat.le_refl _) (I1.hok.fresh (Nat.le_refl _))
theorem range_it {pins : List (Addr × Obj)} {σ : St} {H : Hp} {s : Shared} {R : It → Hp → Prop} {E : Value → Shared → Prop} {lo hi : Int} {t u v : Tok} {tk : Nat} (I : Inv X pins σ H s) (h1 : -(2 ^ 62) ≤ lo) (h2 : lo < 2 ^ 62) (h3 : -(2 ^ 62) ≤ hi) (h4 : hi < 2 ^ 62)
    (q : R (Itr lo (hi - lo).toNat) H) : wpAny (model X.prog X.w) X.A (pyIter (.ref s.heap.objs.size)) (PIE X pins σ tg R) E { s with heap := s.heap.push { cls := .type "range", data := .fields #[.int lo t, .int hi u, .int 1 v] }, toks := tk } := by
  refine wpAny_pyIter_range (IsRange.new ..) (small_one h1 h2 h3 h4) ?_
  have I1 : Inv X pins σ H { s with heap := s.heap.push { cls := .type "range", data := .fields #[.int lo t, .int hi u, .int 1 v] }, toks := tk } := I.kept fun b o e => Heap.get?_push_of_some _ e
  refine ⟨(s.heap.push { cls := .type "range", data := .fields #[.int lo t, .int hi u, .int 1 v] }).objs.size, [(s.heap.push { cls := .type "range", data := .fields #[.int lo t, .int hi u, .int 1 v] }).objs.size], _, _, H, rfl,
    I1.kept (t' := tk) fun b o e => Heap.get?_push_of_some _ e, turn_range _ lo (hi - lo).toNat, ?_, fun b hb => ?_, q⟩
  · have e1 : lo + ((0 : Nat) : Int) * 1 = lo := by simp
    have e2 : (((hi - lo).toNat : Nat) : Int) - ((0 : Nat) : Int) = Builtin.Range.rangeSize lo hi 1 := by rw [rangeSize_one]; split <;> omega
    show IsRangeIter _ _ (lo + ((0 : Nat) : Int) * 1) ((((hi - lo).toNat : Nat) : Int) - ((0 : Nat) : Int)) 1
    rw [e1, e2]
    exact Heap.get?_push_size _ rfl
  · have e : b = (s.heap.push { cls := .type "range", data := .fields #[.int lo t, .int hi u, .int 1 v] }).objs.size := by simpa using hb
    subst e
    exact I1.fpOk (Nat.le_refl _) (I1.hok.fresh (Nat.le_refl _))
def iRng1 (ta : TA) : TI := fun σ H R => ta σ H fun vs H1 => ∃ j : Int, vs = [.int j] ∧ -(2 ^ 62) ≤ j ∧ j < 2 ^ 62 ∧ R (Itr 0 j.toNat) H1
theorem pi_range1 {a : Expr} {ta : TA} {p pos : Pos} (hg : Gl X "range") (hm : X.mg "range" = none) (ha : PA X [a] ta) (hs : starEach [a] X.env = [(false, eval a X.env)] := by rfl) : PI X tg (.Call (.Name "range" p) [a] [] pos) (iRng1 ta) := by
  intro pins s σ H R I h
  refine Call_ (ld_blt I hg hm boot_range (PyProof.Rows.callWith_type1 (thn (ha pos pins s σ H _ I h) fun us s1 ⟨vs, H1, I1, r1, q1⟩ => ?_) hs rfl))
  obtain ⟨j, e, q1, q2, q⟩ := q1
  subst e
  cases r1 with
  | cons r rr =>
    cases rr
    obtain ⟨t, rfl⟩ := r
    exact call_range_1 (range_it I1 (by omega) (by omega) q1 q2 (by simpa using q))
def tFor (wi : TI) (g : TG) (tb : TS) : TS := fun D σ H => wi σ H fun J H1 => ∃ W : Nat → Nat → St → Hp → Prop, (∃ m, W 0 m σ H1) ∧ ∀ i m σ H, W i m σ H →
  (J.stop i H ∧ D.nx σ H) ∨ (J.go i H ∧ ∃ N : St → Hp → Prop, (∀ σ' H', N σ' H' → ∃ m', m' < m ∧ W (i + 1) m' σ' H') ∧ ∀ x H', J.yld i H x H' → g x σ H' fun σ2 H2 => tb { D with nx := N, ct := N, bk := D.nx } σ2 H2)
def pinsAt (fp : List Addr) (h : Heap) : List (Addr × Obj) := fp.filterMap fun b => (h.get? b).map fun o => (b, o)
theorem mem_pinsAt {fp : List Addr} {h : Heap} {b : Addr} {o : Obj} (hb : b ∈ fp) (e : h.get? b = some o) : (b, o) ∈ pinsAt fp h := List.mem_filterMap.mpr ⟨b, hb, by rw [e]; rfl⟩
theorem of_pinsAt {fp : List Addr} {h : Heap} {p : Addr × Obj} (hp : p ∈ pinsAt fp h) : p.1 ∈ fp ∧ h.get? p.1 = some p.2 := by
  obtain ⟨b, hb, e⟩ := List.mem_filterMap.mp hp
  cases q : h.get? b with
  | none => rw [q] at e; cases e
  | some o =>
    rw [q] at e
    have e' : (b, o) = p := Option.some.inj e
    subst e'
    exact ⟨hb, q⟩
theorem Inv.pinned {pins : List (Addr × Obj)} {σ : St} {H : Hp} {s : Shared} {fp : List Addr} (I : Inv X pins σ H s) (hf : ∀ b ∈ fp, FpOk X pins H b) (ho : ∀ b ∈ fp, ∃ o, s.heap.get? b = some o ∧ ∀ v, o.data ≠ .cell v) : Inv X (pins ++ pinsAt fp s.heap) σ H s :=
  I.pins_of fun p hp => (List.mem_append.mp hp).elim (fun z => I.pin p (List.mem_append_right _ z)) fun z => by
    obtain ⟨hb, e⟩ := of_pinsAt z
    obtain ⟨f0, f1, f2, _⟩ := hf p.1 hb
    obtain ⟨o, e', d⟩ := ho p.1 hb
    rw [e] at e'; cases e'
    exact ⟨e, f0, f1, f2, d⟩
theorem Inv.unpinned {pins pl : List (Addr × Obj)} {σ : St} {H : Hp} {s : Shared} (I : Inv X (pins ++ pl) σ H s) : Inv X pins σ H s := I.pins_of fun p hp => I.pin p (List.mem_append_right _ (List.mem_append_left _ hp))
theorem ps_for {iter : Expr} {body : List Stmt} {wi : TI} {g : TG} {tb : TS} {pos : Pos} (hp : PassesOwn (model X.prog X.w) X.A X.env X.xe) (hc : X.calm = true) (hi : PI X tg iter wi) (hg : PG X tg g) (hb : PSs X body tb)
    (hs : ∀ x, foldedSetIterable iter X.env x = pure x := by intro _; rfl) : PS X (.For tg iter body [] pos) (tFor wi g tb) := by
  intro pins s σ H D I h
  refine wpAny_For (thn (hi pins s σ H _ I h) fun v s1 h1 => thn h1 fun itv s2 h2 => ?_) hs
  obtain ⟨it, fp, tn, J, H2, e, I2, T, st2, f2, W, ⟨m0, w0⟩, turn⟩ := h2
  subst e
  -- what stays true of the iterator's objects through the loop
  have stat : ∀ {H' : Hp}, (∀ b ∈ fp, H' b = none) → ∀ b ∈ fp, FpOk X pins H' b := fun hn b hb => ⟨hn b hb, (f2 b hb).2⟩
  refine codeAny_forLoop_any (fun n s' => ∃ i σ' H', Inv X pins σ' H' s' ∧ tn i s'.heap ∧ (∀ b ∈ fp, H' b = none) ∧ W i n σ' H') ?_ m0 ⟨0, σ, H2, I2, st2, fun b hb => (f2 b hb).1, w0⟩
  rintro n s3 ⟨i, σ3, H3, I3, st3, fr3, w3⟩
  rcases turn i n σ3 H3 w3 with ⟨stop, qn⟩ | ⟨go, N, hN, step⟩
  · refine wpAny_passesOwn hp (thn (T.done X rfl rfl rfl hc i pins s3 σ3 H3 X.xe I3 (stat fr3) st3 stop) fun r s4 ⟨hr, I4⟩ => ?_)
    subst hr
    exact wpAny_execs_nil ⟨σ3, H3, I4, qn⟩
  · refine wpAny_passesOwn hp (thn (T.item X rfl rfl rfl hc i pins s3 σ3 H3 X.xe I3 (stat fr3) st3 go) fun r s4 ⟨u, hr, h4⟩ => ?_)
    subst hr
    refine wpAny_passesOwn hp (thn h4 fun _ s5 ⟨x, H5, I5, r5, y5, st5, fr5⟩ => ?_)
    have I5' := I5.pinned (stat fr5) (T.obj _ _ st5)
    refine wpAny_passesOwn hp (thn (hg _ s5 σ3 H5 x u _ I5' r5 (step x H5 y5)) fun _ s6 ⟨σ6, H6, I6, q6⟩ => ?_)
    refine wpAny_passesOwn hp (thn (hb _ s6 σ6 H6 _ I6 q6) fun f s7 q7 => ?_)
    have again : ∀ {σ7 : St} {H7 : Hp}, Inv X (pins ++ pinsAt fp s5.heap) σ7 H7 s7 → N σ7 H7 → ∃ m, m < n ∧ ∃ i σ' H', Inv X pins σ' H' s7 ∧ tn i s7.heap ∧ (∀ b ∈ fp, H' b = none) ∧ W i m σ' H' := fun {σ7 H7} I7 n7 => by
      obtain ⟨m', hm, w7⟩ := hN σ7 H7 n7
      refine ⟨m', hm, i + 1, σ7, H7, I7.unpinned, T.keep _ _ _ st5 fun b hb o e => (I7.pin (b, o) (List.mem_append_right _ (List.mem_append_right _ (mem_pinsAt hb e)))).1, fun b hb => ?_, w7⟩
      obtain ⟨o, e, d⟩ := T.obj _ _ st5 b hb
      exact (I7.pin (b, o) (List.mem_append_right _ (List.mem_append_right _ (mem_pinsAt hb e)))).2.1
    cases f with
    | next => obtain ⟨σ7, H7, I7, n7⟩ := q7; exact again I7 n7
    | cont => obtain ⟨σ7, H7, I7, n7⟩ := q7; exact again I7 n7
    | brk => obtain ⟨σ7, H7, I7, q7⟩ := q7; exact ⟨σ7, H7, I7.unpinned, q7⟩
    | ret v => obtain ⟨x7, σ7, H7, I7, r7, q7⟩ := q7; exact ⟨x7, σ7, H7, I7.unpinned, r7, q7⟩
end

theorem for_list {K : PySem.W.Frag} {a : Addr} {xs : List V} {g : TG} {tb : TS} {D : Ends} {σ : St} {H : Hp} (Pv : Nat → St → Hp → Prop) (h0 : Pv 0 σ H) (hl : ∀ i σ H, i ≤ xs.length → Pv i σ H → SqL K H a xs)
    (hs : ∀ i x σ H, xs[i]? = some x → Pv i σ H → g x σ H fun σ2 H2 => tb { D with nx := Pv (i + 1), ct := Pv (i + 1), bk := D.nx } σ2 H2) (hd : ∀ σ H, Pv xs.length σ H → D.nx σ H) :
    ∃ W : Nat → Nat → St → Hp → Prop, (∃ m, W 0 m σ H) ∧ ∀ i m σ H, W i m σ H →
      ((Itl K a).stop i H ∧ D.nx σ H) ∨ ((Itl K a).go i H ∧ ∃ N : St → Hp → Prop, (∀ σ' H', N σ' H' → ∃ m', m' < m ∧ W (i + 1) m' σ' H') ∧ ∀ x H', (Itl K a).yld i H x H' → g x σ H' fun σ2 H2 => tb { D with nx := N, ct := N, bk := D.nx } σ2 H2) := by
  refine ⟨fun i m σ H => m = xs.length - i ∧ i ≤ xs.length ∧ Pv i σ H, ⟨xs.length, by simp, Nat.zero_le _, h0⟩, ?_⟩
  rintro i m σ H ⟨rfl, hi, p⟩
  have q := hl i σ H hi p
  by_cases hlt : i < xs.length
  · refine .inr ⟨⟨xs, xs[i], q, by simp [hlt]⟩, Pv (i + 1), fun σ' H' p' => ⟨xs.length - (i + 1), by omega, rfl, hlt, p'⟩, fun x H' y => ?_⟩
    obtain ⟨e, y⟩ := y
    subst e
    exact hs i x σ _ (y xs q) p
  · have e : i = xs.length := by omega
    subst e
    exact .inl ⟨⟨xs, q, Nat.le_refl _⟩, hd σ H p⟩
theorem for_tup {K : PySem.W.Frag} {a : Addr} {xs : List V} {g : TG} {tb : TS} {D : Ends} {σ : St} {H : Hp} (Pv : Nat → St → Hp → Prop) (h0 : Pv 0 σ H) (hl : ∀ i σ H, i ≤ xs.length → Pv i σ H → SqT K H a xs)
    (hs : ∀ i x σ H, xs[i]? = some x → Pv i σ H → g x σ H fun σ2 H2 => tb { D with nx := Pv (i + 1), ct := Pv (i + 1), bk := D.nx } σ2 H2) (hd : ∀ σ H, Pv xs.length σ H → D.nx σ H) :
    ∃ W : Nat → Nat → St → Hp → Prop, (∃ m, W 0 m σ H) ∧ ∀ i m σ H, W i m σ H →
      ((Itt K a).stop i H ∧ D.nx σ H) ∨ ((Itt K a).go i H ∧ ∃ N : St → Hp → Prop, (∀ σ' H', N σ' H' → ∃ m', m' < m ∧ W (i + 1) m' σ' H') ∧ ∀ x H', (Itt K a).yld i H x H' → g x σ H' fun σ2 H2 => tb { D with nx := N, ct := N, bk := D.nx } σ2 H2) := by
  refine ⟨fun i m σ H => m = xs.length - i ∧ i ≤ xs.length ∧ Pv i σ H, ⟨xs.length, by simp, Nat.zero_le _, h0⟩, ?_⟩
  rintro i m σ H ⟨rfl, hi, p⟩
  have q := hl i σ H hi p
  by_cases hlt : i < xs.length
  · refine .inr ⟨⟨xs, xs[i], q, by simp [hlt]⟩, Pv (i + 1), fun σ' H' p' => ⟨xs.length - (i + 1), by omega, rfl, hlt, p'⟩, fun x H' y => ?_⟩
    obtain ⟨e, y⟩ := y
    subst e
    exact hs i x σ _ (y xs q) p
  · have e : i = xs.length := by omega
    subst e
    exact .inl ⟨⟨xs, q, Nat.le_refl _⟩, hd σ H p⟩
end L2

namespace L2
open PySem PySem.Spec PyProof.Rows

abbrev R2 := V → V → Hp → VK → Prop
def OpR (X : Cx) (f : Value → Value → Sem Value) (r : R2) : Prop :=
  ∀ (pins : List (Addr × Obj)) (s : Shared) (σ : St) (H : Hp) (x y : V) (v u : Value) (Q : VK), Inv X pins σ H s → RelV x v → RelV y u → r x y H Q →
    wpAny (model X.prog X.w) X.A (f v u) (EP X pins σ Q) X.xe s
def UnR (X : Cx) (f : Value → Sem Value) (r : V → Hp → VK → Prop) : Prop :=
  ∀ (pins : List (Addr × Obj)) (s : Shared) (σ : St) (H : Hp) (x : V) (v : Value) (Q : VK), Inv X pins σ H s → RelV x v → r x H Q →
    wpAny (model X.prog X.w) X.A (f v) (EP X pins σ Q) X.xe s
def CallR (X : Cx) (f : Value) (r : List V → Hp → VK → Prop) : Prop :=
  ∀ (pins : List (Addr × Obj)) (s : Shared) (σ : St) (H : Hp) (xs : List V) (us : List Value) (Q : VK), Inv X pins σ H s → Vals xs us → r xs H Q →
    wpAny (model X.prog X.w) X.A (call f us) (EP X pins σ Q) X.xe s
def tOp (r : R2) (ta tb : TE) : TE := fun σ H Q => ta σ H fun x H1 => tb σ H1 fun y H2 => r x y H2 Q
def tUn (r : V → Hp → VK → Prop) (ta : TE) : TE := fun σ H Q => ta σ H fun x H1 => r x H1 Q
def rI (C : Int → Int → Prop) (g : Int → Int → V) : R2 := fun x y H Q => ∃ i j, x = .int i ∧ y = .int j ∧ C i j ∧ Q (g i j) H
def rI0 (g : Int → Int → V) : R2 := fun x y H Q => ∃ i j, x = .int i ∧ y = .int j ∧ Q (g i j) H
def rU (g : Int → V) : V → Hp → VK → Prop := fun x H Q => ∃ i, x = .int i ∧ Q (g i) H

section
variable {X : Cx} {a b c : Expr} {ta tb tc : TE} {pos : Pos}

theorem binT (ha : PE X a ta) (hb : PE X b tb) {pins : List (Addr × Obj)} {s : Shared} {σ : St} {H : Hp} {R : V → V → Hp → Prop} (I : Inv X pins σ H s)
    (h : ta σ H fun x H1 => tb σ H1 fun y H2 => R x y H2) {Q : Value → Shared → Prop} {f : Value → Value → Sem Value}
    (hf : ∀ v u s2 x y H2, Inv X pins σ H2 s2 → RelV x v → RelV y u → R x y H2 → wpAny (model X.prog X.w) X.A (f v u) Q X.xe s2) :
    wpAny (model X.prog X.w) X.A (eval a X.env) (fun v s₁ => wpAny (model X.prog X.w) X.A (eval b X.env) (fun u s₂ => wpAny (model X.prog X.w) X.A (f v u) Q X.xe s₂) X.xe s₁) X.xe s := by
  refine thn (ha pins s σ H _ I h) fun v s1 ⟨x, H1, I1, r1, q1⟩ => ?_
  refine thn (hb pins s1 σ H1 _ I1 q1) fun u s2 ⟨y, H2, I2, r2, q2⟩ => ?_
  exact hf v u s2 x y H2 I2 r1 r2 q2

theorem pe_op {op : Operator} {r : R2} (ho : OpR X (binaryOp op) r) (ha : PE X a ta) (hb : PE X b tb) : PE X (.BinOp a op b pos) (tOp r ta tb) := by
  intro pins s σ H Q I h
  exact wpAny_BinOp (binT ha hb I h fun v u s2 x y H2 I2 rx ry q => ho pins s2 σ H2 x y v u Q I2 rx ry q)
theorem pe_un {op : UnaryOp} {r : V → Hp → VK → Prop} (ho : UnR X (unaryOp op) r) (ha : PE X a ta) : PE X (.UnaryOp op a pos) (tUn r ta) := by
  intro pins s σ H Q I h
  exact UnaryOp_ (thn (ha pins s σ H _ I h) fun v s1 ⟨x, H1, I1, r1, q1⟩ => ho pins s1 σ H1 x v Q I1 r1 q1)
theorem opI {f : Value → Value → Sem Value} {C : Int → Int → Prop} {g : Int → Int → Int}
    (rule : ∀ (i j : Int) (t u : Tok) (s : Shared) (Q : Value → Shared → Prop) (E : Value → Shared → Prop), C i j → Q (.int (g i j) s.toks) { s with toks := s.toks + 1 } → wpAny (model X.prog X.w) X.A (f (.int i t) (.int j u)) Q E s) :
    OpR X f (rI C fun i j => .int (g i j)) := by
  intro pins s σ H x y v u Q I rx ry h
  obtain ⟨i, j, rfl, rfl, hc, q⟩ := h
  obtain ⟨t, rfl⟩ := rx
  obtain ⟨t', rfl⟩ := ry
  exact rule i j t t' s _ _ hc ⟨.int (g i j), H, I.tok _, ⟨_, rfl⟩, q⟩
theorem opI0 {f : Value → Value → Sem Value} {g : Int → Int → Int}
    (rule : ∀ (i j : Int) (t u : Tok) (s : Shared) (Q : Value → Shared → Prop) (E : Value → Shared → Prop), Q (.int (g i j) s.toks) { s with toks := s.toks + 1 } → wpAny (model X.prog X.w) X.A (f (.int i t) (.int j u)) Q E s) :
    OpR X f (rI0 fun i j => .int (g i j)) := by
  intro pins s σ H x y v u Q I rx ry h
  obtain ⟨i, j, rfl, rfl, q⟩ := h
  obtain ⟨t, rfl⟩ := rx
  obtain ⟨t', rfl⟩ := ry
  exact rule i j t t' s _ _ ⟨.int (g i j), H, I.tok _, ⟨_, rfl⟩, q⟩
theorem opB0 {f : Value → Value → Sem Value} {g : Int → Int → Bool}
    (rule : ∀ (i j : Int) (t u : Tok) (s : Shared) (Q : Value → Shared → Prop) (E : Value → Shared → Prop), Q (.bool (g i j)) s → wpAny (model X.prog X.w) X.A (f (.int i t) (.int j u)) Q E s) :
    OpR X f (rI0 fun i j => .bl (g i j)) := by
  intro pins s σ H x y v u Q I rx ry h
  obtain ⟨i, j, rfl, rfl, q⟩ := h
  obtain ⟨t, rfl⟩ := rx
  obtain ⟨t', rfl⟩ := ry
  exact rule i j t t' s _ _ ⟨.bl (g i j), H, I, rfl, q⟩

def CMul (i j : Int) : Prop := (-(2 ^ 64) < i ∧ i < 2 ^ 64) ∨ (-(2 ^ 64) < j ∧ j < 2 ^ 64)
theorem CMul.ok {i j : Int} (h : CMul i j) : IntMulOk i j := by
  rcases h with ⟨h1, h2⟩ | ⟨h1, h2⟩
  · exact .of_left (intBits_le_64 h1 h2)
  · exact .of_right (intBits_le_64 h1 h2)
theorem op_add : OpR X (binaryOp .Add) (rI0 fun i j => .int (i + j)) := opI0 fun _ _ _ _ _ _ _ q => add_int q
theorem op_sub : OpR X (binaryOp .Sub) (rI0 fun i j => .int (i - j)) := opI0 fun _ _ _ _ _ _ _ q => sub_int q
theorem op_mul : OpR X (binaryOp .Mult) (rI CMul fun i j => .int (i * j)) := opI fun _ _ _ _ _ _ _ hc q => mul_int q hc.ok
theorem unI {f : Value → Sem Value} {g : Int → Int}
    (rule : ∀ (i : Int) (t : Tok) (s : Shared) (Q : Value → Shared → Prop) (E : Value → Shared → Prop), Q (.int (g i) s.toks) { s with toks := s.toks + 1 } → wpAny (model X.prog X.w) X.A (f (.int i t)) Q E s) :
    UnR X f (rU fun i => .int (g i)) := by
  intro pins s σ H x v Q I rx h
  obtain ⟨i, rfl, q⟩ := h
  obtain ⟨t, rfl⟩ := rx
  exact rule i t s _ _ ⟨.int (g i), H, I.tok _, ⟨_, rfl⟩, q⟩
theorem un_neg : UnR X (unaryOp .USub) (rU fun i => .int (-i)) := unI fun _ _ _ _ _ q => neg_int q
end

def scal : V → V → Bool
  | .non, .non => true | .non, .int _ => true | .int _, .non => true | .non, .bl _ => true | .bl _, .non => true | .non, .str _ => true | .str _, .non => true
  | .int _, .int _ => true | .bl _, .bl _ => true | .str _, .str _ => true | .byt _, .byt _ => true
  | .int _, .str _ => true | .str _, .int _ => true | .bl _, .str _ => true | .str _, .bl _ => true
  | _, _ => false
def rEq : R2 := fun x y H Q => scal x y = true ∧ Q (.bl (decide (x = y))) H
theorem dec_int {i j : Int} : decide (V.int i = V.int j) = (i == j) := by
  rw [Bool.eq_iff_iff]
  simp
theorem dec_bl {i j : Bool} : decide (V.bl i = V.bl j) = (i == j) := by
  rw [Bool.eq_iff_iff]
  simp
theorem dec_str {i j : Str} : decide (V.str i = V.str j) = (i == j) := by
  rw [Bool.eq_iff_iff]
  simp
theorem dec_byt {i j : Array UInt8} : decide (V.byt i = V.byt j) = (i.toList == j.toList) := by
  rw [Bool.eq_iff_iff]
  cases i
  cases j
  simp

section
variable {X : Cx} {a b c : Expr} {ta tb tc : TE} {pos : Pos}
theorem fin_bl {pins : List (Addr × Obj)} {σ : St} {H : Hp} {s : Shared} {Q : VK} {k k' : Bool} (I : Inv X pins σ H s) (q : Q (.bl k) H) (e : k = k') : EP X pins σ Q (.bool k') s := by
  subst e
  exact ⟨.bl k, H, I, rfl, q⟩
theorem op_eq : OpR X (compareOp .Eq) rEq := by
  intro pins s σ H x y v u Q I rx ry h
  obtain ⟨hs, q⟩ := h
  cases x with
  | non =>
    cases rx
    cases y with
    | non => cases ry; exact PySem.EqNone.eq_none_none (fin_bl I q (by simp))
    | bl j => cases ry; exact PySem.EqNone.eq_none_bool (fin_bl I q (by simp))
    | int j => obtain ⟨t', rfl⟩ := ry; exact PySem.EqNone.eq_none_int (fin_bl I q (by simp))
    | str j => obtain ⟨t', rfl⟩ := ry; exact PySem.EqNone.eq_none_str (fin_bl I q (by simp))
    | _ => exact absurd (show false = true from hs) Bool.false_ne_true
  | bl i =>
    cases rx
    cases y with
    | non => cases ry; exact PySem.EqNone.eq_bool_none (fin_bl I q (by simp))
    | bl j => cases ry; exact eq_bool (fin_bl I q dec_bl)
    | str j => obtain ⟨t', rfl⟩ := ry; exact PySem.EqMixed.eq_bool_str (fin_bl I q (by simp))
    | _ => exact absurd (show false = true from hs) Bool.false_ne_true
  | int i =>
    obtain ⟨t, rfl⟩ := rx
    cases y with
    | non => cases ry; exact PySem.EqNone.eq_int_none (fin_bl I q (by simp))
    | int j => obtain ⟨t', rfl⟩ := ry; exact eq_int (fin_bl I q dec_int)
    | str j => obtain ⟨t', rfl⟩ := ry; exact PySem.EqMixed.eq_int_str (fin_bl I q (by simp))
    | _ => exact absurd (show false = true from hs) Bool.false_ne_true
  | str i =>
    obtain ⟨t, rfl⟩ := rx
    cases y with
    | non => cases ry; exact PySem.EqNone.eq_str_none (fin_bl I q (by simp))
    | bl j => cases ry; exact PySem.EqMixed.eq_str_bool (fin_bl I q (by simp))
    | int j => obtain ⟨t', rfl⟩ := ry; exact PySem.EqMixed.eq_str_int (fin_bl I q (by simp))
    | str j => obtain ⟨t', rfl⟩ := ry; exact eq_str (fin_bl I q dec_str)
    | _ => exact absurd (show false = true from hs) Bool.false_ne_true
  | byt i =>
    obtain ⟨t, rfl⟩ := rx
    cases y with
    | byt j => obtain ⟨t', rfl⟩ := ry; exact PySem.W.eq_bytes (fin_bl I q dec_byt)
    | _ => exact absurd (show false = true from hs) Bool.false_ne_true
  | _ => cases y <;> exact absurd (show false = true from hs) Bool.false_ne_true
theorem op_lt : OpR X (compareOp .Lt) (rI0 fun i j => .bl (decide (i < j))) := opB0 fun _ _ _ _ _ _ _ q => lt_int q
theorem op_le : OpR X (compareOp .LtE) (rI0 fun i j => .bl (decide (i ≤ j))) := opB0 fun _ _ _ _ _ _ _ q => le_int q
theorem op_gt : OpR X (compareOp .Gt) (rI0 fun i j => .bl (decide (j < i))) := opB0 fun _ _ _ _ _ _ _ q => gt_int q
theorem op_isN : OpR X (compareOp .Is) (fun x y H Q => y = .non ∧ Q (.bl (decide (x = .non))) H) := by
  intro pins s σ H x y v u Q I rx ry h
  obtain ⟨rfl, q⟩ := h
  cases ry
  refine is_none_gen (fin_bl I q ?_)
  cases x <;> first
    | (cases rx; rfl)
    | (obtain ⟨t, rfl⟩ := rx; rfl)
theorem nomark (b : Expr) {op : CmpOp} (h : op ≠ .In := by decide) (h2 : op ≠ .NotIn := by decide) : behindInMarks op b = false := by
  have e1 : (op == CmpOp.In) = false := by cases op <;> first | rfl | exact absurd rfl h
  have e2 : (op == CmpOp.NotIn) = false := by cases op <;> first | rfl | exact absurd rfl h2
  cases b <;> simp [behindInMarks, e1, e2]
theorem pe_cmpR {op : CmpOp} {r : R2} (ho : OpR X (compareOp op) r) (ha : PE X a ta) (hb : PE X b tb) (hm : behindInMarks op b = false) : PE X (.Compare a [op] [b] pos) (tOp r ta tb) := by
  intro pins s σ H Q I h
  exact wpAny_Compare1 (binT ha hb I h fun v u s2 x y H2 I2 rx ry q => ho pins s2 σ H2 x y v u Q I2 rx ry q) hm
def tTest (t : TE) : TT := fun σ H Q => t σ H fun x H' => ∃ k, x = .bl k ∧ Q k H'
theorem pt_cmpR {op : CmpOp} {r : R2} (ho : OpR X (compareOp op) r) (ha : PE X a ta) (hb : PE X b tb) (hm : behindInMarks op b = false) : PT X (.Compare a [op] [b] pos) (tTest (tOp r ta tb)) := by
  intro pins s σ H Q I h
  refine wpAny_isTrue_Compare1 (thn (ha pins s σ H _ I h) fun v s1 ⟨x, H1, I1, r1, q1⟩ => thn (hb pins s1 σ H1 _ I1 q1) fun u s2 ⟨y, H2, I2, r2, q2⟩ =>
    thn (ho pins s2 σ H2 x y v u _ I2 r1 r2 q2) fun c s3 ⟨z, H3, I3, r3, k, e, q3⟩ => ?_) hm
  subst e
  cases r3
  exact wpAny_truthy_bool ⟨H3, I3, q3⟩
def tChain (r r' : R2) (ta tb tc : TE) : TE := fun σ H Q => ta σ H fun x H1 => tb σ H1 fun y H2 => r x y H2 fun z H3 => ∃ k, z = .bl k ∧
  (if k = true then tc σ H3 fun w' H4 => r' y w' H4 Q else Q (.bl false) H3)
theorem pt_chain {op op' : CmpOp} {r r' : R2} (ho : OpR X (compareOp op) r) (ho' : OpR X (compareOp op') r') (ha : PE X a ta) (hb : PE X b tb) (hc : PE X c tc)
    (hm : lastMarks [op, op'] [b, c] = false := by with_unfolding_all rfl) : PT X (.Compare a [op, op'] [b, c] pos) (tTest (tChain r r' ta tb tc)) := by
  intro pins s σ H Q I h
  refine isTrue_chain (thn (ha pins s σ H _ I h) fun v s1 ⟨x, H1, I1, r1, q1⟩ => test_link (thn (hb pins s1 σ H1 _ I1 q1) fun u s2 ⟨y, H2, I2, r2, q2⟩ =>
    thn (ho pins s2 σ H2 x y v u _ I2 r1 r2 q2) fun d s3 ⟨z, H3, I3, r3, k, e, q3⟩ => ?_)) hm
  subst e
  cases r3
  refine wpAny_truthy_bool ?_
  cases k with
  | false =>
    obtain ⟨k', e', q'⟩ := q3
    cases e'
    exact ite_ff ⟨H3, I3, q'⟩
  | true =>
    refine ite_tt (test_last (thn (hc pins s3 σ H3 _ I3 q3) fun w' s4 ⟨z', H4, I4, r4, q4⟩ => thn (ho' pins s4 σ H4 y z' u w' _ I4 r2 r4 q4) fun d' s5 ⟨z2, H5, I5, r5, k2, e2, q5⟩ => ?_))
    subst e2
    cases r5
    exact wpAny_truthy_bool ⟨H5, I5, q5⟩

theorem line63 : (sizeLine : Nat) < 2 ^ 63 := by rw [sizeLine_eq]; decide
theorem vals1 {x : V} {us : List Value} (r : Vals [x] us) : ∃ u, us = [u] ∧ RelV x u := by
  cases r with
  | cons r1 r2 => cases r2; exact ⟨_, rfl, r1⟩
theorem call_ord : CallR X (.builtin "ord") (fun xs H Q => ∃ x, xs = [.str x] ∧ x.length = 1 ∧ Q (.int (x.cps.getD 0 0 : Nat)) H) := by
  intro pins s σ H xs us Q I r h
  obtain ⟨x, rfl, hz, q⟩ := h
  obtain ⟨u, rfl, t, rfl⟩ := vals1 r
  exact ord_of_one hz ⟨.int _, H, I.tok _, ⟨_, rfl⟩, q⟩
end
end L2

namespace L2
open PySem PySem.Spec PyProof.Rows

structure ObjM (h : Heap) (x dx C : Addr) (mA : Str → Option Value) : Prop where
  obj : h.get? x = some (PySem.W.instObj C dx)
  ns : h.Ns1 dx mA
  ne : dx ≠ x

theorem lookIn_ns {h : Heap} {dx : Addr} {mA : Str → Option Value} (n : h.Ns1 dx mA) : ∃ od, h.get? dx = some od ∧ ∀ name, PySem.W.lookIn name od = some (mA name) := by
  obtain ⟨o, es, ep, ho, hd, hk, _, hm⟩ := n
  refine ⟨o, ho, fun name => ?_⟩
  have e := hm name
  unfold nsFind findBy at e
  rw [← Array.find?_toList] at e
  unfold PySem.W.lookIn
  rw [hd]
  dsimp only
  split
  · rename_i y q
    rw [q] at e
    exact congrArg some e
  · rename_i q
    rw [q] at e
    have a : es.toList.any (·.refKey) = false := by
      rw [List.any_eq_false]
      intro y hy
      obtain ⟨z, t, hkey⟩ := hk y (Array.mem_toList_iff.mp hy)
      simp [DictEntry.refKey, hkey]
    have a' : ¬ es.toList.any (·.refKey) = true := by rw [a]; exact Bool.false_ne_true
    rw [if_neg a']
    exact congrArg some e

theorem ObjM.look {h : Heap} {x dx C : Addr} {mA : Str → Option Value} (I : ObjM h x dx C mA) : ∃ od, PySem.W.InstAt h x (PySem.W.instObj C dx) C (some od) ∧ ∀ name, PySem.W.lookIn name od = some (mA name) :=
  let ⟨od, ho, hl⟩ := lookIn_ns I.ns
  ⟨od, ⟨I.obj, rfl, rfl, ho⟩, hl⟩

section
variable {prog : Program} {w : World} {A : Around} {E : Value → Shared → Prop} {s : Shared} {K : PySem.W.Frag} {x dx C f : Addr} {mA : Str → Option Value} {name : Str} {v : Value}

theorem get_map {expr : Bool} {Q : Value → Shared → Prop} (X : K.In s.heap) (I : ObjM s.heap x dx C mA) (hg : PySem.W.plainGet K C name = true) (hh : PySem.W.hasDictIn K C = true)
    (ha : PySem.W.findIn K (.ref C) name = some none) (hv : mA name = some v) (hv' : PySem.W.handedIn v = true) (h : Q v { s with toks := s.toks + 1 }) :
    wpAny (model prog w) A (getAttr (.ref x) name expr) Q E s := by
  obtain ⟨od, J, hl⟩ := I.look
  exact PySem.W.get_value X J (PySem.W.plainGet_of hg).1 (PySem.W.findObj_own hh ha rfl (by rw [hl, hv])) hv' h

theorem get_meth {pl : Sem Bool} {Q : Value × List Value → Shared → Prop} (X : K.In s.heap) (I : ObjM s.heap x dx C mA) (hg : PySem.W.plainGet K C name = true)
    (hf : PySem.W.findIn K (.ref C) name = some (some (.ref f))) (ht : PySem.W.isFn K (.ref f) = true) (hv : mA name = none) (h : Q (.ref f, [.ref x]) s) :
    wpAny (model prog w) A (getMethod (.ref x) name pl) Q E s := by
  obtain ⟨od, J, hl⟩ := I.look
  exact PySem.W.method_fn X J (PySem.W.plainGet_of hg).1 (PySem.W.plainGet_of hg).2 hf (beq_iff_eq.mp ht) (by show (PySem.W.lookIn name od).map (·.isSome) = some false; rw [hl, hv]; rfl) h

theorem set_map {ns : List Str} {Q : Unit → Shared → Prop} (X : K.In s.heap) (I : ObjM s.heap x dx C mA)
    (hs : PySem.W.findIn K (.ref C) "__setattr__" = some (some (.builtin "object.__setattr__"))) (hp : PySem.W.plainOver K C = true) (ht : PySem.W.takerIn K C name = some none) (hh : PySem.W.hasDictIn K C = true)
    (hw : PySem.Within mA ns) (hsz : ns.length ≤ sizeLine)
    (h : ∀ h', ObjM h' x dx C (fun y => if y = name then some v else mA y) → Heap.SameBut dx s.heap h' → Q () { s with heap := h', toks := s.toks + 2 }) :
    wpAny (model prog w) A (setAttr (.ref x) name v) Q E s := by
  obtain ⟨od, J, hl⟩ := I.look
  refine PySem.W.set_plain X J hs (PySem.W.osa_open (s := { s with toks := s.toks + 1 }) (r := none) X J hp ht fun b => ?_)
  obtain ⟨cd, hc, hd'⟩ := PySem.W.any_some hh
  have hx : s.heap.get? x = some ⟨.ref C, some dx, .plain, #[]⟩ := I.obj
  refine wpAny_bind (wpAny_pure (wpAny_bind (wpAny_bind (wpAny_loadPart hx (wpAny_bind (PySem.W.Looks.here (s := { s with toks := s.toks + 1 }) (PySem.W.looks_clsIn X hc) ?_))))))
  rw [hd']
  refine wpAny_pure (a := some dx) (wpAny_bind (wpAny_pure (wpAny_bind ?_)))
  refine wpAny_nsSet1 (s := { s with toks := s.toks + 1 }) I.ns fun h' hn2 hs2 => ?_
  obtain ⟨oD, esD, epD, hoD, hdD, hcD⟩ := hn2.count (PySem.Within.cons name v hw)
  refine wpAny_bind (wpAny_lookBehind hoD (by rw [hdD]; exact pastItsLine_dict (Nat.le_trans hcD (by rw [List.length_cons]; omega))) ?_)
  exact wpAny_pure (h _ ⟨(hs2.2 _ (Ne.symm I.ne)).trans I.obj, hn2, I.ne⟩ hs2)

theorem make_map {R : Result → Shared → Prop} {vs : List Value} {kw : List (Str × Value)} (X : K.In s.heap) (hm : PySem.W.makesIn K C = true)
    (hi : PySem.W.findIn K (.ref C) "__init__" = some (some (.ref f))) (hf : PySem.W.typeIn K (.ref f) = some (.type "function"))
    (h : codeAny (model prog w) (A.under (.builtin "type.__call__" ⟨.ref C :: vs, kw⟩)) (.call (.ref f) ⟨.ref (s.heap.objs.size + 1) :: vs, kw⟩) (PySem.W.InitBack (s.heap.objs.size + 1) R)
      { s with heap := (s.heap.push PySem.W.emptyDict).push (PySem.W.instObj C s.heap.objs.size) }) :
    codeAny (model prog w) A (.call (.ref C) ⟨vs, kw⟩) R s := by
  obtain ⟨hh, g, d, t, os⟩ := s
  exact PySem.W.make_core (PySem.W.makes_of X hm) (PySem.W.looks_findIn X hi) (fun self => PySem.W.bind_fn X self hf) (.inl rfl) h
end

def putF (f : Str) (v : V) : List (Str × V) → List (Str × V)
  | [] => [(f, v)]
  | (g, x) :: r => if g = f then (g, v) :: r else (g, x) :: putF f v r
theorem lookup_putF (f g : Str) (v : V) : ∀ fs : List (Str × V), (putF f v fs).lookup g = if g = f then some v else fs.lookup g
  | [] => by
    show List.lookup g [(f, v)] = _
    by_cases h : g = f
    · have hb : (g == f) = true := beq_iff_eq.mpr h
      simp only [List.lookup, hb, if_pos h]
    · have hb : (g == f) = false := beq_eq_false_iff_ne.mpr h
      simp only [List.lookup, hb, if_neg h]
  | (k, x) :: r => by
    have ih := lookup_putF f g v r
    rw [show putF f v ((k, x) :: r) = (if k = f then (k, v) :: r else (k, x) :: putF f v r) from rfl]
    by_cases hk : k = f
    · rw [if_pos hk]
      by_cases h : g = k
      · have hb : (g == k) = true := beq_iff_eq.mpr h
        simp only [List.lookup, hb, if_pos (h.trans hk)]
      · have hb : (g == k) = false := beq_eq_false_iff_ne.mpr h
        simp only [List.lookup, hb, if_neg (fun e : g = f => h (e.trans hk.symm))]
    · rw [if_neg hk]
      by_cases h : g = k
      · have hb : (g == k) = true := beq_iff_eq.mpr h
        simp only [List.lookup, hb, if_neg (fun e : g = f => hk (h.symm.trans e))]
      · have hb : (g == k) = false := beq_eq_false_iff_ne.mpr h
        simp only [List.lookup, hb]
        exact ih
theorem keys_putF (f : Str) (v : V) : ∀ fs : List (Str × V), f ∈ (putF f v fs).map (·.1) ∧ ∀ g, g ∈ fs.map (·.1) → g ∈ (putF f v fs).map (·.1)
  | [] => ⟨by simp [putF], fun g h => by simp at h⟩
  | (k, x) :: r => by
    obtain ⟨i1, i2⟩ := keys_putF f v r
    rw [show putF f v ((k, x) :: r) = (if k = f then (k, v) :: r else (k, x) :: putF f v r) from rfl]
    by_cases hk : k = f
    · rw [if_pos hk]
      subst hk
      exact ⟨by simp, fun g h => by simpa using h⟩
    · rw [if_neg hk]
      refine ⟨?_, fun g h => ?_⟩
      · rw [List.map_cons]
        exact List.mem_cons_of_mem _ i1
      · rw [List.map_cons] at h ⊢
        rcases List.mem_cons.mp h with e | e
        · exact List.mem_cons.mpr (.inl e)
        · exact List.mem_cons_of_mem _ (i2 g e)
theorem length_putF (f : Str) (v : V) : ∀ fs : List (Str × V), (putF f v fs).length ≤ fs.length + 1
  | [] => by simp [putF]
  | (k, x) :: r => by
    have ih := length_putF f v r
    rw [show putF f v ((k, x) :: r) = (if k = f then (k, v) :: r else (k, x) :: putF f v r) from rfl]
    by_cases hk : k = f
    · rw [if_pos hk, List.length_cons, List.length_cons]; omega
    · rw [if_neg hk, List.length_cons, List.length_cons]; omega

theorem RelO.some_of {v : V} {o : Option Value} (r : RelO (some v) o) : ∃ u, o = some u ∧ RelV v u := by
  cases o with
  | none => exact (show False from r).elim
  | some u => exact ⟨u, rfl, r⟩
theorem RelO.none_of {o : Option Value} (r : RelO none o) : o = none := by
  cases o with
  | none => rfl
  | some u => exact (show False from r).elim
theorem handed_of {v : V} {u : Value} (r : RelV v u) : PySem.W.handedIn u = true := by
  cases v with
  | non => cases (show u = Value.none from r); rfl
  | bl b => cases (show u = Value.bool b from r); rfl
  | int i => obtain ⟨t, e⟩ := (show ∃ t, u = Value.int i t from r); cases e; rfl
  | str x => obtain ⟨t, e⟩ := (show ∃ t, u = Value.str x t from r); cases e; rfl
  | byt b => obtain ⟨t, e⟩ := (show ∃ t, u = Value.bytes b t from r); cases e; rfl
  | flt b => obtain ⟨t, e⟩ := (show ∃ t, u = Value.float b t from r); cases e; rfl
  | ref a => cases (show u = Value.ref a from r); rfl
  | ty n => cases (show u = Value.type n from r); rfl

section
variable {P : Program} {w : World} {H H' : Hp} {h h' : Heap} {a C dx : Addr} {fs fs' : List (Str × V)}
theorem ins_get (hok : HOk P w H h) (e : H a = some (.ins C dx fs)) : ∃ mA, ObjM h a dx C mA ∧ (∀ f, RelO (fs.lookup f) (mA f)) ∧ PySem.Within mA (fs.map (·.1)) ∧ fs.length ≤ 1000 ∧ H dx = some (.own a) := by
  obtain ⟨d, z, ne, ob, mA, n, r, q⟩ := (show ObjOk P w H h a (.ins C dx fs) from hok a _ e)
  exact ⟨mA, ⟨ob, n, ne⟩, r, q, z, d⟩
end

structure Cls (K : PySem.W.Frag) (C : Addr) : Prop where
  pg : PySem.W.plainGet K C Str.empty = true
  hd : PySem.W.hasDictIn K C = true
  po : PySem.W.plainOver K C = true
  sa : PySem.W.findIn K (.ref C) "__setattr__" = some (some (.builtin "object.__setattr__"))
theorem Cls.get {K : PySem.W.Frag} {C : Addr} (c : Cls K C) (f : Str) : PySem.W.plainGet K C f = true := c.pg
def NoAttr (K : PySem.W.Frag) (C : Addr) (f : Str) : Prop := PySem.W.findIn K (.ref C) f = some none
theorem NoAttr.taker {K : PySem.W.Frag} {C : Addr} {f : Str} (n : NoAttr K C f) : PySem.W.takerIn K C f = some none := by
  unfold PySem.W.takerIn
  rw [show PySem.W.findIn K (.ref C) f = some none from n]
  rfl
structure Con (K : PySem.W.Frag) (C : Addr) (f : Str) (v : V) (u : Value) : Prop where
  at_ : PySem.W.findIn K (.ref C) f = some (some u)
  rel : RelV v u
  get : PySem.W.specialIn K u "__get__" = some none
  cp : PySem.W.copiedNames.contains f = false
structure Meth (K : PySem.W.Frag) (C : Addr) (m : Str) (f : Addr) : Prop where
  at_ : PySem.W.findIn K (.ref C) m = some (some (.ref f))
  fn : PySem.W.isFn K (.ref f) = true
  kp : PySem.W.keepIn K (.ref f) = true

section
variable {X : Cx} {pins : List (Addr × Obj)} {σ : St} {H : Hp} {s : Shared} {a C dx : Addr} {fs : List (Str × V)} {f : Str} {v : V} {A : Around} {E : Value → Shared → Prop}

theorem getattr_ok {b : Bool} {Q : Value → Shared → Prop} (I : Inv X pins σ H s) (e : H a = some (.ins C dx fs)) (c : Cls X.K C) (n : NoAttr X.K C f) (l : fs.lookup f = some v)
    (h : ∀ u s', Inv X pins σ H s' → RelV v u → Q u s') : wpAny (model X.prog X.w) A (getAttr (.ref a) f b) Q E s := by
  obtain ⟨mA, O, r, _, _, _⟩ := ins_get I.hok e
  obtain ⟨u, hu, ru⟩ := RelO.some_of (v := v) (o := mA f) (by rw [← l]; exact r f)
  exact get_map I.kIn O (c.get f) c.hd n hu (handed_of ru) (h u _ (I.tok _) ru)

theorem getmeth_ok {m : Str} {g : Addr} {pl : Sem Bool} {Q : Value × List Value → Shared → Prop} (I : Inv X pins σ H s) (e : H a = some (.ins C dx fs)) (c : Cls X.K C) (k : Meth X.K C m g) (l : fs.lookup m = none)
    (h : Q (.ref g, [.ref a]) s) : wpAny (model X.prog X.w) A (getMethod (.ref a) m pl) Q E s := by
  obtain ⟨mA, O, r, _, _, _⟩ := ins_get I.hok e
  have hn : mA m = none := RelO.none_of (by rw [← l]; exact r m)
  exact get_meth I.kIn O (c.get m) k.at_ k.fn hn h

theorem setattr_ok {y : V} {u : Value} {Q : Unit → Shared → Prop} (I : Inv X pins σ H s) (e : H a = some (.ins C dx fs)) (c : Cls X.K C) (n : NoAttr X.K C f) (hl : fs.length < 1000) (ry : RelV y u)
    (h : ∀ s', Inv X pins σ (upd H a (.ins C dx (putF f y fs))) s' → Q () s') : wpAny (model X.prog X.w) A (setAttr (.ref a) f u) Q E s := by
  obtain ⟨mA, O, r, wi, _, ho⟩ := ins_get I.hok e
  have hz : (fs.map (·.1)).length ≤ sizeLine := by rw [List.length_map, sizeLine_eq]; omega
  refine set_map I.kIn O c.sa c.po n.taker c.hd wi hz fun h' O' sb => h _ ?_
  have hd : ∃ o, h'.get? dx = some o := let ⟨o, _, _, e', _⟩ := O'.ns; ⟨o, e'⟩
  refine I.write (x := a) (e := dx) (by rw [e]; exact True.intro) (.inr ho) (fun b q hb z => (sb.2 b hb).trans z) hd ?_
  refine ⟨by rw [upd_ne O.ne]; exact ho, ?_, O.ne, O'.obj, _, O'.ns, fun g => ?_, fun g hg => ?_⟩
  · have := length_putF f y fs; omega
  · show RelO ((putF f y fs).lookup g) (if g = f then some u else mA g)
    rw [lookup_putF]
    by_cases q : g = f
    · rw [if_pos q, if_pos q]; exact ry
    · rw [if_neg q, if_neg q]; exact r g
  · by_cases q : g = f
    · rw [q]; exact (keys_putF f y fs).1
    · refine (keys_putF f y fs).2 g (wi g fun z => hg ?_)
      show (if g = f then some u else mA g) = none
      rw [if_neg q]; exact z

theorem Inv.made (I : Inv X pins σ H s) : Inv X pins σ (upd (upd H s.heap.objs.size (.own (s.heap.objs.size + 1))) (s.heap.objs.size + 1) (.ins C s.heap.objs.size []))
    { s with heap := (s.heap.push PySem.W.emptyDict).push (PySem.W.instObj C s.heap.objs.size) } := by
  have e1 : (s.heap.push PySem.W.emptyDict).get? s.heap.objs.size = some PySem.W.emptyDict := Heap.get?_push_size s.heap rfl
  have e2 : ((s.heap.push PySem.W.emptyDict).push (PySem.W.instObj C s.heap.objs.size)).get? (s.heap.objs.size + 1) = some (PySem.W.instObj C s.heap.objs.size) := by
    have := Heap.get?_push_size (s.heap.push PySem.W.emptyDict) (o := PySem.W.instObj C s.heap.objs.size) rfl
    rwa [Heap.size_push] at this
  have e3 : (s.heap.push PySem.W.emptyDict).Ns s.heap.objs.size (fun _ => none) := ⟨PySem.W.emptyDict, #[], _, e1, rfl, (fun e he => absurd he (by simp)), fun _ => rfl⟩
  have I1 := I.laid (a := s.heap.objs.size) (o := .own (s.heap.objs.size + 1)) (h' := s.heap.push PySem.W.emptyDict) (t' := s.toks) (fun b u q => Heap.get?_push_of_some _ q) (Nat.le_refl _) ⟨_, e1⟩
  refine I1.laid (a := s.heap.objs.size + 1) (o := .ins C s.heap.objs.size []) (t' := s.toks) (fun b u q => Heap.get?_push_of_some _ q) (Nat.le_of_eq (Heap.size_push _ _)) ?_
  have ne : s.heap.objs.size ≠ s.heap.objs.size + 1 := Nat.ne_of_lt (Nat.lt_succ_self _)
  refine ⟨by rw [upd_ne ne, upd_same], Nat.zero_le _, ne, e2, fun _ => none, (Heap.Ns1.of_empty e3).at fun o q => Heap.get?_push_of_some _ q, fun _ => True.intro, fun y hy => absurd rfl hy⟩

theorem attr_of {prog : Program} {w : World} {env : Env} {e : Expr} {f : Str} {pos : Pos} {s : Shared} {Q : Value → Shared → Prop} (hb : attributeBase e f env (eval e env) = eval e env)
    (h : wpAny (model prog w) A (eval e env) (fun o s₁ => wpAny (model prog w) A (getAttr o f true) Q E s₁) E s) : wpAny (model prog w) A (eval (.Attribute e f pos) env) Q E s :=
  Attribute_any_ h (by rw [arm_eval_Attribute, hb])
end

def tFld (K : PySem.W.Frag) (ta : TE) (f : Str) : TE := fun σ H Q => ta σ H fun x H1 => ∃ a C dx fs v, x = .ref a ∧ H1 a = some (.ins C dx fs) ∧ Cls K C ∧ NoAttr K C f ∧ fs.lookup f = some v ∧ Q v H1
def sFld (K : PySem.W.Frag) (ta tv : TE) (f : Str) : TS := fun D σ H => tv σ H fun y H1 => ta σ H1 fun x H2 => ∃ a C dx fs, x = .ref a ∧ H2 a = some (.ins C dx fs) ∧ Cls K C ∧ NoAttr K C f ∧ fs.length < 1000 ∧
  D.nx σ (upd H2 a (.ins C dx (putF f y fs)))
def InOp (X : Cx) (op : Operator) (rd : V → V → Hp → VK → Prop) : Prop :=
  ∀ (pins : List (Addr × Obj)) (s : Shared) (σ : St) (H : Hp) (x y : V) (u v : Value) (Q : VK), Inv X pins σ H s → RelV x u → RelV y v → rd x y H Q → wpAny (model X.prog X.w) X.A (inplaceOp op u v) (EP X pins σ Q) X.xe s
def sFldAug (K : PySem.W.Frag) (ta tv : TE) (rd : V → V → Hp → VK → Prop) (f : Str) : TS := fun D σ H => ta σ H fun x H1 => ∃ a C dx fs v, x = .ref a ∧ H1 a = some (.ins C dx fs) ∧ Cls K C ∧ NoAttr K C f ∧ fs.lookup f = some v ∧
  tv σ H1 fun y H2 => rd v y H2 fun z H3 => ∃ dx' fs', H3 a = some (.ins C dx' fs') ∧ fs'.length < 1000 ∧ D.nx σ (upd H3 a (.ins C dx' (putF f z fs')))

section
variable {X : Cx} {o e value : Expr} {f : Str} {pos pos' tpos : Pos} {ta tv : TE}
theorem pe_fld (he : PE X e ta) (hb : attributeBase e f X.env (eval e X.env) = eval e X.env) : PE X (.Attribute e f pos) (tFld X.K ta f) := by
  intro pins s σ H Q I h
  refine attr_of hb (thn (he pins s σ H _ I h) fun u s1 ⟨x, H1, I1, rx, a, C, dx, fs, v, ex, ea, c, n, l, q⟩ => ?_)
  subst ex
  obtain rfl : u = Value.ref a := rx
  exact getattr_ok I1 ea c n l fun u' s2 I2 ru => ⟨v, H1, I2, ru, q⟩
theorem ps_fld (ha : PE X o ta) (hv : PE X value tv) (hs : swapsWith value (some (.Attribute o f pos')) pos.line X.env = pure false) : PS X (.Assign [.Attribute o f pos'] value pos) (sFld X.K ta tv f) := by
  intro pins s σ H D I h
  refine plainObj_wpAny_Assign_Attribute (thn (hv pins s σ H _ I h) fun u s1 ⟨y, H1, I1, ry, q⟩ => thn (ha pins s1 σ H1 _ I1 q) fun ov s2 ⟨x, H2, I2, rx, a, C, dx, fs, ex, ea, c, n, l, q2⟩ => ?_) hs
  subst ex
  obtain rfl : ov = Value.ref a := rx
  exact setattr_ok I2 ea c n l ry fun s3 I3 => ⟨σ, _, I3, q2⟩
theorem ps_fldaug {op : Operator} {rd : V → V → Hp → VK → Prop} (ha : PE X o ta) (hv : PE X value tv) (hop : InOp X op rd) : PS X (.AugAssign (.Attribute o f tpos) op value pos) (sFldAug X.K ta tv rd f) := by
  intro pins s σ H D I h
  refine wpAny_AugAssign_AttributeAny (thn (ha pins s σ H _ I h) fun ov s1 ⟨x, H1, I1, rx, a, C, dx, fs, v, ex, ea, c, n, l, q⟩ => ?_)
  subst ex
  obtain rfl : ov = Value.ref a := rx
  refine getattr_ok I1 ea c n l fun u s2 I2 ru => thn (hv pins s2 σ H1 _ I2 q) fun w3 s3 ⟨y, H2, I3, ry, q3⟩ => thn (hop pins s3 σ H2 v y u w3 _ I3 ru ry q3) fun w4 s4 ⟨z, H3, I4, rz, dx', fs', ea', l', q4⟩ => ?_
  exact setattr_ok I4 ea' c n l' rz fun s5 I5 => ⟨σ, _, I5, q4⟩
def rAdd : V → V → Hp → VK → Prop := fun x y H Q => ∃ i j, x = .int i ∧ y = .int j ∧ Q (.int (i + j)) H
theorem in_add : InOp X .Add rAdd := by
  rintro pins s σ H x y u v Q I rx ry ⟨i, j, rfl, rfl, q⟩
  obtain ⟨t, rfl⟩ := (show ∃ t, u = Value.int i t from rx)
  obtain ⟨t', rfl⟩ := (show ∃ t', v = Value.int j t' from ry)
  exact PyProof.Rows.iadd_int ⟨.int (i + j), H, I.tok _, ⟨_, rfl⟩, q⟩
end

section
variable {X : Cx} {pins : List (Addr × Obj)} {σ : St} {H : Hp} {s : Shared} {A : Around} {E : Value → Shared → Prop} {Q : Value → Shared → Prop} {c : Value} {b : Bool}
inductive TyOf (K : PySem.W.Frag) (H : Hp) : V → Value → Prop where
  | non : TyOf K H .non (.type "NoneType")
  | bl (x : Bool) : TyOf K H (.bl x) (.type "bool")
  | int (i : Int) : TyOf K H (.int i) (.type "int")
  | str (x : Str) : TyOf K H (.str x) (.type "str")
  | flt (x : UInt64) : TyOf K H (.flt x) (.type "float")
  | lst {a : Addr} {xs : List V} (e : H a = some (.lst xs)) : TyOf K H (.ref a) (.type "list")
  | frz {a : Addr} {o : Obj} {xs : List V} (e : H a = some (.frz o (.lst xs))) : TyOf K H (.ref a) (.type "list")
  | tup {a : Addr} {xs : List V} (e : H a = some (.tup xs)) : TyOf K H (.ref a) (.type "tuple")
  | dK {a : Addr} {kvs : List (Key × V)} (e : H a = some (.dK kvs)) : TyOf K H (.ref a) (.type "dict")
  | dT {a : Addr} {kvs : List (List Key × V)} (e : H a = some (.dT kvs)) : TyOf K H (.ref a) (.type "dict")
  | ins {a C dx : Addr} {fs : List (Str × V)} (e : H a = some (.ins C dx fs)) (cl : Cls K C) (ha : PySem.W.findIn K (.ref C) "__class__" = some (some (.builtin "object.__class__")))
      (hn : PySem.W.specialIn K (.builtin "object.__class__") "__get__" = some (some (.builtin "getset_descriptor.__get__"))) (htk : PySem.W.takesIn K (.builtin "object.__class__") = some true)
      (hm : PySem.W.mroIn K C (.type "object") = some true) : TyOf K H (.ref a) (.ref C)
end
end L2

namespace L2
open PySem PySem.Spec PyProof.Rows

structure Room (k : Nat) (A : Around) : Prop where
  hd : 4 ≤ k → A.handled = none
  dp : A.depth + 3 * k + 5 < recursionLimit
  un : A.units + 16 * k + 200 < cLine
theorem Room.mono {j k : Nat} {A : Around} (r : Room k A) (h : j ≤ k) : Room j A := ⟨fun z => r.hd (Nat.le_trans z h), by have := r.dp; omega, by have := r.un; omega⟩
theorem Room.deeper {k : Nat} {A : Around} (r : Room (k + 1) A) (env : Env) : Room k (A.deeper env) :=
  ⟨fun z => r.hd (Nat.le_succ_of_le z), by have := r.dp; show A.depth + 1 + 3 * k + 5 < _; omega, by have := r.un; show A.units + 3 + 16 * k + 200 < _; omega⟩
theorem make_depth {A : Around} {C : Addr} {us : List Value} {kw : List (Str × Value)} : (A.under (.builtin "type.__call__" ⟨.ref C :: us, kw⟩)).depth = A.depth + 1 := by
  first | rfl | simp [Around.under, Code.weight, Code.isCreation, Code.isGuard, Code.isCaller, Code.frames, Code.isFrame, guardIds]
theorem make_units {A : Around} {C : Addr} {us : List Value} {kw : List (Str × Value)} : (A.under (.builtin "type.__call__" ⟨.ref C :: us, kw⟩)).units = A.units + 1 := by
  first | rfl | simp [Around.under, Code.cUnits, Code.frames, Code.isFrame]
theorem Room.make {k : Nat} {A : Around} (r : Room (k + 1) A) (C : Addr) (us : List Value) (kw : List (Str × Value)) : Room k (A.under (.builtin "type.__call__" ⟨.ref C :: us, kw⟩)) :=
  ⟨fun z => r.hd (Nat.le_succ_of_le z), by have := r.dp; rw [make_depth]; omega, by have := r.un; rw [make_units]; omega⟩
theorem Room.depth {k : Nat} {A : Around} (r : Room k A) : A.depth < recursionLimit := by have := r.dp; omega
theorem Room.units {k : Nat} {A : Around} (r : Room k A) : A.units + 64 < cLine := by have := r.un; omega
def tNil : TA := fun _ H Q => Q [] H
def tCons (ta : TE) (tr : TA) : TA := fun σ H Q => ta σ H fun x H1 => tr σ H1 fun xs H2 => Q (x :: xs) H2
section
variable {X : Cx} {e : Expr} {es : List Expr} {te : TE} {t : TA} {pos : Pos}
theorem pa_nil : PA X [] tNil := fun _ _ _ _ H Q I h => Calls.spliced_nil ⟨[], H, I, .nil, h⟩
theorem pa_cons (ha : PE X e te) (hr : PA X es t) (hs : starEach (e :: es) X.env = (false, eval e X.env) :: starEach es X.env := by rfl) : PA X (e :: es) (tCons te t) := by
  intro pos pins s σ H Q I h
  rw [hs]
  show wpAny _ _ (spliced ((false, eval e X.env) :: backTo pos (starEach es X.env))) _ _ s
  refine Calls.spliced_cons (thn (ha pins s σ H _ I h) fun u s1 ⟨x, H1, I1, r1, q1⟩ => ?_)
  exact thn (hr pos pins s1 σ H1 _ I1 q1) fun us s2 ⟨xs, H2, I2, r2, q2⟩ => ⟨x :: xs, H2, I2, .cons r1 r2, q2⟩

def tTup (t : TA) : TE := fun σ H Q => t σ H fun xs H1 => xs.length ≤ sizeLine ∧ ∀ p, H1 p = none → Q (.ref p) (upd H1 p (.tup xs))
def tLst (t : TA) : TE := fun σ H Q => t σ H fun xs H1 => xs.length ≤ sizeLine ∧ ∀ p, H1 p = none → Q (.ref p) (upd H1 p (.lst xs))
theorem pe_tup {x1} (h : PA X es t) : PE X (.Tuple es x1 pos) (tTup t) := by
  intro pins s σ H Q I hq
  refine wpAny_Tuple_spliced (thn (h pos pins s σ H _ I hq) fun us s1 ⟨xs, H1, I1, r, z, q⟩ => ⟨by rw [← r.length]; exact z, ?_⟩)
  have hf : H1 s1.heap.objs.size = none := I1.hok.fresh (Nat.le_refl _)
  refine ⟨.ref s1.heap.objs.size, upd H1 s1.heap.objs.size (.tup xs), I1.laid (t' := s1.toks) (fun b u e => Heap.get?_push_of_some _ e) (Nat.le_refl _) ?_, rfl, q _ hf⟩
  exact ⟨z, us, r, ⟨_, Heap.get?_push_size _ rfl, rfl, _, rfl⟩⟩
theorem pe_lst (h : PA X es t) : PE X (.List es pos) (tLst t) := by
  intro pins s σ H Q I hq
  refine wpAny_List_spliced (thn (h pos pins s σ H _ I hq) fun us s1 ⟨xs, H1, I1, r, z, q⟩ => ⟨by rw [← r.length]; exact z, ?_⟩)
  have hf : H1 s1.heap.objs.size = none := I1.hok.fresh (Nat.le_refl _)
  refine ⟨.ref s1.heap.objs.size, upd H1 s1.heap.objs.size (.lst xs), I1.laid (t' := s1.toks) (fun b u e => Heap.get?_push_of_some _ e) (Nat.le_refl _) ?_, rfl, q _ hf⟩
  exact ⟨z, us, 0, r, Heap.get?_push_size _ rfl⟩
end

abbrev Sp := List V → Hp → VK → XK → Prop
abbrev CXT := List Env → Hp → Shared → XK → Value → Shared → Prop

structure Env0 (P : Program) (w : World) (K : PySem.W.Frag) (mg : Str → Option Value) (base : Heap) (A : Around) (outer : List Env) (s : Shared) (H : Hp) : Prop where
  frames : A.frames = some outer
  mod : Mod K mg base
  bs : ∀ b o, base.get? b = some o → s.heap.get? b = some o ∧ H b = none
  bsz : base.objs.size ≤ s.heap.objs.size
  funs : s.heap.FunFrames base outer
  frf : ∀ b ∈ frs outer, H b = none
  hok : HOk P w H s.heap
  bare : AllBare s.gens
def CE (outer : List Env) (P : Program) (w : World) (H : Hp) (s : Shared) (Q : VK) (u : Value) (s' : Shared) : Prop :=
  ∃ v H', s'.os = s.os ∧ AllBare s'.gens ∧ Un (frs outer) [] H H' s.heap s'.heap ∧ HOk P w H' s'.heap ∧ RelV v u ∧ Q v H'
def CR (CX : CXT) (outer : List Env) (P : Program) (w : World) (H : Hp) (s : Shared) (Q : VK) (E : XK) (r : Result) (s' : Shared) : Prop :=
  match r with
  | .ok (.ret u) => CE outer P w H s Q u s'
  | .ok _ => False
  | .error e => CX outer H s E e s'
structure FnOk (P : Program) (w : World) (K : PySem.W.Frag) (mg : Str → Option Value) (base : Heap) (CX : CXT) (k : Nat) (f : Addr) (fd : FuncData) (ps : List Str) (sp : Sp) : Prop where
  len : ∀ vs H Q E, sp vs H Q E → vs.length = ps.length
  run : ∀ (A : Around) (outer : List Env) (s : Shared) (H : Hp) (args : Args) (us : List Value) (vs : List V) (Q : VK) (E : XK), Room k A → Env0 P w K mg base A outer s H → BindsTo s fd args (ps.zip us) → Vals vs us → sp vs H Q E →
    codeAny (model P w) A (.call (.ref f) args) (CR CX outer P w H s Q E) s
theorem Env0.make {P : Program} {w : World} {K : PySem.W.Frag} {mg : Str → Option Value} {base : Heap} {A : Around} {outer : List Env} {s : Shared} {H : Hp} (e : Env0 P w K mg base A outer s H) (C : Addr) (us : List Value) (kw : List (Str × Value)) :
    Env0 P w K mg base (A.under (.builtin "type.__call__" ⟨.ref C :: us, kw⟩)) outer s H := ⟨by first | exact e.frames | (simpa [Around.under, Code.envs, Code.isFrame, pushEnvs] using e.frames), e.mod, e.bs, e.bsz, e.funs, e.frf, e.hok, e.bare⟩
section
variable {X : Cx} {pins : List (Addr × Obj)} {σ : St} {H : Hp} {s s' : Shared}
theorem Inv.env0 (I : Inv X pins σ H s) : Env0 X.prog X.w X.K X.mg X.base X.A X.stack s H :=
  ⟨I.ok.frames, I.ok.mod, I.bs, Nat.le_trans I.ok.bsz I.sz, I.stack, I.stkFree, I.hok, I.bare⟩
theorem Inv.after {Q : VK} {u : Value} (I : Inv X pins σ H s) (h : CE X.stack X.prog X.w H s Q u s') : EP X pins σ Q u s' := by
  obtain ⟨v, H', os, bare, un, hok, r, q⟩ := h
  obtain ⟨hh, g, d, t, os'⟩ := s'
  obtain rfl : os' = s.os := os
  exact ⟨v, H', I.call (h' := hh) (g' := g) (d' := d) (t' := t) (ch := []) un hok bare (fun b z => absurd z (by simp)), r, q⟩
end

def tCall (sp : Sp) (dvs : List V) (E : XK) (t : TA) : TE := fun σ H Q => t σ H fun vs H1 => sp (vs ++ dvs) H1 Q E
def tMeth (C : Addr) (m : Str) (sp : Sp) (dvs : List V) (E : XK) (ta : TE) (t : TA) : TE := fun σ H Q => ta σ H fun x H1 => ∃ a dx fs, x = .ref a ∧ H1 a = some (.ins C dx fs) ∧ fs.lookup m = none ∧
  t σ H1 fun vs H2 => sp (x :: (vs ++ dvs)) H2 Q E
def tMake (C : Addr) (sp : Sp) (dvs : List V) (E : XK) (t : TA) : TE := fun σ H Q => t σ H fun vs H1 => ∀ x dx, H1 x = none → H1 dx = none → dx ≠ x →
  sp (.ref x :: (vs ++ dvs)) (upd (upd H1 dx (.own x)) x (.ins C dx [])) (fun v H2 => v = .non ∧ Q (.ref x) H2) E

def Binds (K : PySem.W.Frag) (fd : FuncData) (ps : List Str) (ds : List Value) : Prop :=
  ∀ (s : Shared) (us : List Value), K.In s.heap → (us ++ ds).length = ps.length → BindsTo s fd ⟨us, []⟩ (ps.zip (us ++ ds))
theorem Binds.all {K : PySem.W.Frag} {fd : FuncData} {ps : List Str} (h : ∀ us : List Value, us.length = ps.length → bindArgs fd ⟨us, []⟩ = pure (ps.zip us)) : Binds K fd ps [] := fun s us _ hl => by
  rw [List.append_nil] at hl ⊢
  exact .of_eq (h us hl)

def Passes (CX : CXT) (X : Cx) (E : XK) : Prop := ∀ (pins : List (Addr × Obj)) (σ : St) (H : Hp) (s : Shared) (e : Value) (s' : Shared), Inv X pins σ H s → CX X.stack H s E e s' → X.xe e s'

section
variable {X : Cx} {CX : CXT} {k : Nat} {f C : Addr} {fd : FuncData} {ps : List Str} {sp : Sp} {dvs : List V} {ds : List Value} {E : XK} {x m : Str} {p pos apos : Pos} {e o : Expr} {es : List Expr} {ta : TE} {t : TA}

theorem run_fn {pins : List (Addr × Obj)} {σ : St} {H : Hp} {s : Shared} {Q : VK} {us : List Value} {vs : List V} (F : FnOk X.prog X.w X.K X.mg X.base CX k f fd ps sp) (hr : Room k X.A) (hb : Binds X.K fd ps ds) (hd : Vals dvs ds) (hx : Passes CX X E)
    (I : Inv X pins σ H s) (r : Vals vs us) (h : sp (vs ++ dvs) H Q E) : wpAny (model X.prog X.w) X.A (call (.ref f) us) (EP X pins σ Q) X.xe s := by
  have r2 : Vals (vs ++ dvs) (us ++ ds) := r.append hd
  have hl : (us ++ ds).length = ps.length := by rw [← r2.length]; exact F.len _ _ _ _ h
  refine wpAny_call (codeAny_mono (F.run X.A X.stack s H ⟨us, []⟩ (us ++ ds) (vs ++ dvs) Q E hr I.env0 (hb s us I.kIn hl) r2 h) fun r s' hq => ?_)
  cases r with
  | error e => exact hx pins σ H s e s' I hq
  | ok fl =>
    cases fl with
    | ret u => exact I.after hq
    | next => exact False.elim hq
    | brk => exact False.elim hq
    | cont => exact False.elim hq

theorem pe_call (F : FnOk X.prog X.w X.K X.mg X.base CX k f fd ps sp) (hr : Room k X.A) (hg : Gl X x) (hm : X.mg x = some (.ref f)) (hk : PySem.W.keepIn X.K (.ref f) = true) (hb : Binds X.K fd ps ds) (hd : Vals dvs ds) (hx : Passes CX X E)
    (ha : PA X (e :: es) t) (hdb : (x == ("__debug__" : Str)) = false := by decide) (he : starEach (e :: es) X.env = (false, eval e X.env) :: starEach es X.env := by rfl) (hpl : (backTo pos (starEach es X.env)).any (·.1) = false := by rfl) :
    PE X (.Call (.Name x p) (e :: es) [] pos) (tCall sp dvs E t) := by
  intro pins s σ H Q I h
  refine wpAny_Call_Name_kw (ld_glob I hg hm ?_ hdb)
  refine PySem.W.callWith_K (h₀ := X.base) I.ok.mod.kin hk (thn (ha pos pins s σ H _ I h) fun us s1 ⟨vs, H1, I1, r, q⟩ => ⟨I1.kIn, ?_⟩) he hpl
  exact run_fn F hr hb hd hx I1 r q
theorem pe_meth {pl : Sem Bool} (he : PE X o ta) (c : Cls X.K C) (hm : Meth X.K C m f) (F : FnOk X.prog X.w X.K X.mg X.base CX k f fd ps sp) (hr : Room k X.A) (hb : Binds X.K fd ps ds) (hd : Vals dvs ds) (hx : Passes CX X E) (ha : PA X (e :: es) t)
    (hst : starEach (e :: es) X.env = (false, eval e X.env) :: starEach es X.env := by rfl) (hpl : (backTo pos (starEach es X.env)).any (·.1) = false := by rfl)
    (ht : eval (.Call (.Attribute o m apos) (e :: es) [] pos) X.env = (do
      let ov ← eval o X.env
      standAt apos.atName
      let (f, first) ← holding [ov] (getMethod ov m pl)
      callWith pos f first (backTo pos (starEach (e :: es) X.env)) (backToKw pos (keywordEach [] X.env))) := by rfl) :
    PE X (.Call (.Attribute o m apos) (e :: es) [] pos) (tMeth C m sp dvs E ta t) := by
  intro pins s σ H Q I h
  refine PySem.W.methodCall_KW (pl := pl) (thn (he pins s σ H _ I h) fun u s1 ⟨x, H1, I1, rx, a, dx, fs, ex, ea, l, q⟩ => ?_) ht
  subst ex
  obtain rfl : u = Value.ref a := rx
  refine getmeth_ok I1 ea c hm l ?_
  refine PySem.W.callWith_K (first := [.ref a]) (h₀ := X.base) I.ok.mod.kin hm.kp (thn (ha pos pins s1 σ H1 _ I1 q) fun us s2 ⟨vs, H2, I2, r, q2⟩ => ⟨I2.kIn, ?_⟩) hst hpl
  exact run_fn (us := .ref a :: us) (vs := .ref a :: vs) F hr hb hd hx I2 (.cons rfl r) q2
theorem pe_meth0 {pl : Sem Bool} (he : PE X o ta) (c : Cls X.K C) (hm : Meth X.K C m f) (F : FnOk X.prog X.w X.K X.mg X.base CX k f fd ps sp) (hr : Room k X.A) (hb : Binds X.K fd ps ds) (hd : Vals dvs ds) (hx : Passes CX X E)
    (ht : eval (.Call (.Attribute o m apos) [] [] pos) X.env = (do
      let ov ← eval o X.env
      standAt apos.atName
      let (f, first) ← holding [ov] (getMethod ov m pl)
      callWith pos f first (backTo pos (starEach [] X.env)) (backToKw pos (keywordEach [] X.env))) := by rfl) :
    PE X (.Call (.Attribute o m apos) [] [] pos) (tMeth C m sp dvs E ta tNil) := by
  intro pins s σ H Q I h
  refine PySem.W.methodCall_KW (pl := pl) (thn (he pins s σ H _ I h) fun u s1 ⟨x, H1, I1, rx, a, dx, fs, ex, ea, l, q⟩ => ?_) ht
  subst ex
  obtain rfl : u = Value.ref a := rx
  refine getmeth_ok I1 ea c hm l ?_
  exact PySem.W.callWith_K0 (first := [.ref a]) I1.kIn hm.kp (run_fn (us := [.ref a]) (vs := [.ref a]) F hr hb hd hx I1 (.cons rfl .nil) q)

structure Mk (K : PySem.W.Frag) (C f : Addr) : Prop where
  makes : PySem.W.makesIn K C = true
  init : PySem.W.findIn K (.ref C) "__init__" = some (some (.ref f))
  fn : PySem.W.isFn K (.ref f) = true
  kp : PySem.W.keepIn K (.ref C) = true

theorem run_make {pins : List (Addr × Obj)} {σ : St} {H : Hp} {s : Shared} {Q : VK} {us : List Value} {vs : List V} (M : Mk X.K C f) (F : FnOk X.prog X.w X.K X.mg X.base CX k f fd ps sp) (hr : Room (k + 1) X.A) (hb : Binds X.K fd ps ds) (hd : Vals dvs ds)
    (hx : Passes CX X E) (I : Inv X pins σ H s) (r : Vals vs us)
    (h : ∀ x dx, H x = none → H dx = none → dx ≠ x → sp (.ref x :: (vs ++ dvs)) (upd (upd H dx (.own x)) x (.ins C dx [])) (fun v H2 => v = .non ∧ Q (.ref x) H2) E) :
    wpAny (model X.prog X.w) X.A (call (.ref C) us) (EP X pins σ Q) X.xe s := by
  have hq := h (s.heap.objs.size + 1) s.heap.objs.size (I.hok.fresh (Nat.le_succ _)) (I.hok.fresh (Nat.le_refl _)) (Nat.ne_of_lt (Nat.lt_succ_self _))
  have I2 := Inv.made (C := C) I
  have r2 : Vals (V.ref (s.heap.objs.size + 1) :: (vs ++ dvs)) (Value.ref (s.heap.objs.size + 1) :: (us ++ ds)) := .cons rfl (r.append hd)
  have hl : (Value.ref (s.heap.objs.size + 1) :: us ++ ds).length = ps.length := by
    have e := r2.length
    rw [F.len _ _ _ _ hq] at e
    exact e.symm
  refine wpAny_call (make_map (f := f) I.kIn M.makes M.init (beq_iff_eq.mp M.fn) (codeAny_mono (F.run _ X.stack _ _ ⟨Value.ref (s.heap.objs.size + 1) :: us, []⟩ (Value.ref (s.heap.objs.size + 1) :: (us ++ ds)) _ _ E (hr.make C us [])
    (I2.env0.make C us []) (hb _ (Value.ref (s.heap.objs.size + 1) :: us) I2.kIn hl) r2 hq) fun r s' hq' => ?_))
  cases r with
  | error e => exact hx pins σ _ _ e s' I2 hq'
  | ok fl =>
    cases fl with
    | ret u =>
      obtain ⟨v, H', I3, rv, ev, q3⟩ := I2.after hq'
      subst ev
      exact ⟨rv, ⟨V.ref (s.heap.objs.size + 1), H', I3, rfl, q3⟩⟩
    | next => exact False.elim hq'
    | brk => exact False.elim hq'
    | cont => exact False.elim hq'
theorem pe_make (M : Mk X.K C f) (F : FnOk X.prog X.w X.K X.mg X.base CX k f fd ps sp) (hr : Room (k + 1) X.A) (hg : Gl X x) (hm : X.mg x = some (.ref C)) (hb : Binds X.K fd ps ds) (hd : Vals dvs ds) (hx : Passes CX X E)
    (ha : PA X (e :: es) t) (hdb : (x == ("__debug__" : Str)) = false := by decide) (he : starEach (e :: es) X.env = (false, eval e X.env) :: starEach es X.env := by rfl) (hpl : (backTo pos (starEach es X.env)).any (·.1) = false := by rfl) :
    PE X (.Call (.Name x p) (e :: es) [] pos) (tMake C sp dvs E t) := by
  intro pins s σ H Q I h
  refine wpAny_Call_Name_kw (ld_glob I hg hm ?_ hdb)
  refine PySem.W.callWith_K (h₀ := X.base) I.ok.mod.kin M.kp (thn (ha pos pins s σ H _ I h) fun us s1 ⟨vs, H1, I1, r, q⟩ => ⟨I1.kIn, ?_⟩) he hpl
  exact run_make M F hr hb hd hx I1 r q
end

section
variable {X : Cx} {CX : CXT} {k : Nat} {f C : Addr} {fd : FuncData} {ps ks : List Str} {sp : Sp} {E : XK} {x m : Str} {p pos apos kpos : Pos} {e o : Expr} {es : List Expr} {kws : List Keyword} {te ta : TE} {t tk : TA} {nm : Option Str}
structure KBinds (K : PySem.W.Frag) (fd : FuncData) (ps ks : List Str) (g : List Value → List Value → List Value) (gV : List V → List V → List V) : Prop where
  to : ∀ (s : Shared) (us ws : List Value), K.In s.heap → (g us ws).length = ps.length → BindsTo s fd ⟨us, ks.zip ws⟩ (ps.zip (g us ws))
  rel : ∀ {vs : List V} {us : List Value} {zs : List V} {ws : List Value}, Vals vs us → Vals zs ws → Vals (gV vs zs) (g us ws)
variable {g : List Value → List Value → List Value} {gV : List V → List V → List V}
end

structure FnScope (N P : List Str) (sc : Scope) : Prop where
  kind : sc.kind = .function
  co : sc.isCoroutine = false
  gen : sc.isGenerator = false
  nd : N.Nodup
  pre : N.take P.length = P
  par : ∀ x ∈ P, sc.names.lookup x = some .local ∨ sc.names.lookup x = some .cell
  nofree : ∀ y ∈ sc.names, y.2 ≠ .free

theorem bindL_out {kindOf : Str → Option NameKind} {x : Str} : ∀ {binds : List (Str × Value)} {m : Str → Option Value}, (∀ v, (x, v) ∉ binds) → bindL kindOf binds m x = m x
  | [], _, _ => rfl
  | (n, v) :: r, m, h => by
    unfold bindL
    rw [bindL_out fun w hw => h w (List.mem_cons_of_mem _ hw)]
    split
    · have : x ≠ n := by rintro rfl; exact h v List.mem_cons_self
      simp [this]
    · rfl
theorem bindC_out {kindOf : Str → Option NameKind} {x : Str} : ∀ {binds : List (Str × Value)} {m : Str → Option Value}, (∀ v, (x, v) ∉ binds) → bindC kindOf binds m x = m x
  | [], _, _ => rfl
  | (n, v) :: r, m, h => by
    unfold bindC
    rw [bindC_out fun w hw => h w (List.mem_cons_of_mem _ hw)]
    split
    · rfl
    · have : x ≠ n := by rintro rfl; exact h v List.mem_cons_self
      simp [this]
theorem bindL_get {kindOf : Str → Option NameKind} {x : Str} {v : Value} : ∀ {P : List Str} {vs : List Value} {i : Nat} {m : Str → Option Value}, P.Nodup → P[i]? = some x → vs[i]? = some v → kindOf x = some .local →
    bindL kindOf (P.zip vs) m x = some v
  | [], _, _, _, _, h, _, _ => by simp at h
  | _ :: _, [], _, _, _, _, h, _ => by simp at h
  | p :: P, w :: vs, 0, m, nd, h1, h2, hk => by
    simp at h1 h2; subst h1; subst h2
    show bindL kindOf ((p, w) :: P.zip vs) m p = _
    unfold bindL
    rw [bindL_out fun v hv => (List.nodup_cons.mp nd).1 (List.of_mem_zip hv).1, if_pos hk]
    simp
  | p :: P, w :: vs, i + 1, m, nd, h1, h2, hk => by
    show bindL kindOf ((p, w) :: P.zip vs) m x = _
    unfold bindL
    exact bindL_get (i := i) (List.nodup_cons.mp nd).2 (by simpa using h1) (by simpa using h2) hk
theorem bindC_get {kindOf : Str → Option NameKind} {x : Str} {v : Value} : ∀ {P : List Str} {vs : List Value} {i : Nat} {m : Str → Option Value}, P.Nodup → P[i]? = some x → vs[i]? = some v → kindOf x ≠ some .local →
    bindC kindOf (P.zip vs) m x = some v
  | [], _, _, _, _, h, _, _ => by simp at h
  | _ :: _, [], _, _, _, _, h, _ => by simp at h
  | p :: P, w :: vs, 0, m, nd, h1, h2, hk => by
    simp at h1 h2; subst h1; subst h2
    show bindC kindOf ((p, w) :: P.zip vs) m p = _
    unfold bindC
    rw [bindC_out fun v hv => (List.nodup_cons.mp nd).1 (List.of_mem_zip hv).1, if_neg hk]
    simp
  | p :: P, w :: vs, i + 1, m, nd, h1, h2, hk => by
    show bindC kindOf ((p, w) :: P.zip vs) m x = _
    unfold bindC
    exact bindC_get (i := i) (List.nodup_cons.mp nd).2 (by simpa using h1) (by simpa using h2) hk

def start (N : List Str) (vs : List V) : St := vs.map some ++ List.replicate (N.length - vs.length) none

def cxOf (CX : CXT) (P : Program) (w : World) (K : PySem.W.Frag) (mg : Str → Option Value) (base : Heap) (N : List Str) (qual : Str) (scope : Scope) (f : Addr) (cd : Value) (A : Around) (outer : List Env) (s : Shared) (H : Hp) (E : XK) : Cx where
  prog := P
  w := w
  K := K
  mg := mg
  base := base
  A := A.deeper (envOfC qual scope s.heap.objs.size f cd)
  N := N
  s_0 := s
  H_0 := H
  env := envOfC qual scope s.heap.objs.size f cd
  outer := outer
  stack := envOfC qual scope s.heap.objs.size f cd :: outer
  ex := []
  calm := A.handled.isNone
  fn := fun _ => true
  pn := []
  xe := fun e s' => wpAny (model P w) (A.deeper (envOfC qual scope s.heap.objs.size f cd)) (leaving (envOfC qual scope s.heap.objs.size f cd) e) (fun _ s'' => CX outer H s E e s'') (fun e' s'' => CX outer H s E e' s'') s'

theorem cell_has {sc : Scope} {n : Nat} {x : Str} (h : sc.names.lookup x = some .cell) : ∃ c, (cellsFrom n sc.names []).lookup x = some c := by
  have q := PySem.W.cellsFrom_some sc.names n [] (.inl h)
  exact Option.isSome_iff_exists.mp q

theorem inv_start {CX : CXT} {P : Program} {w : World} {K : PySem.W.Frag} {mg : Str → Option Value} {base : Heap} {N ps : List Str} {qual : Str} {scope : Scope} {f : Addr} {cd : Value} {A : Around} {outer : List Env} {s s1 : Shared} {H : Hp} {E : XK} {us : List Value} {vs : List V}
    (S : FnScope N ps scope) (e0 : Env0 P w K mg base A outer s H) (hl : vs.length = ps.length) (r : Vals vs us)
    (x : InCallC s s.heap.objs.size (bindL (envOfC qual scope s.heap.objs.size f cd).kindOf (ps.zip us) fun _ => none) (cellsFrom (s.heap.objs.size + 1) scope.names []) (bindC (envOfC qual scope s.heap.objs.size f cd).kindOf (ps.zip us) fun _ => none) s1) :
    Inv (cxOf CX P w K mg base N qual scope f cd A outer s H E) [] (start N vs) H s1 := by
  have hpl : ps.length ≤ N.length := by have := congrArg List.length S.pre; rw [List.length_take] at this; omega
  obtain ⟨h1, tk, rfl, hk⟩ := x.done
  have noA : ∀ b : Addr, b ∉ (cxOf CX P w K mg base N qual scope f cd A outer s H E).ex := fun b z => absurd (show b ∈ ([] : List Addr) from z) (by simp)
  refine ⟨⟨e0.mod, S.kind, rfl, rfl, Nat.le_refl _, fun y z c h1 h2 => ?_, fun y hy => ?_, fun y c _ h => ?_, fun hc => Option.isNone_iff_eq_none.mp hc, Around.frames_deeper e0.frames, .inr ⟨rfl, rfl⟩, fun b z => absurd z (noA b), e0.bs, e0.bsz, fun b _ _ => noA b, fun b z => absurd z (noA b), e0.funs, e0.frf⟩,
    rfl, e0.bare, Un.kept hk, ⟨_, x.toInCall.ns, fun i y v h1 h2 h3 => ?_⟩, fun y c h => ⟨_, x.cell y c h⟩, e0.hok.fresh (Nat.le_refl _), fun y c h => ?_, fun p hp => absurd (show p ∈ ([] : List (Addr × Obj)) from hp) (by simp), e0.hok.kept hk, ?_⟩
  · exact name_of_addr x.apart (PySem.mem_of_lookup h1) (PySem.mem_of_lookup h2)
  · have hy : scope.names.lookup y = some .cell ∨ scope.names.lookup y = some .free := hy
    rcases hy with hy | hy
    · exact cell_has hy
    · exact absurd rfl (S.nofree _ (PySem.mem_of_lookup hy))
  · exact Nat.le_of_lt (x.above y c (PySem.mem_of_lookup h))
  · have hi : i < vs.length := by
      unfold start at h2
      by_cases hi : i < vs.length
      · exact hi
      · rw [List.getElem?_append_right (by simpa using hi)] at h2
        rw [List.getElem?_replicate] at h2
        split at h2 <;> cases h2
    have ha : vs[i]? = some v := by
      unfold start at h2
      rw [List.getElem?_append_left (by simpa using hi), List.getElem?_map] at h2
      cases e : vs[i]? with
      | none => rw [e] at h2; cases h2
      | some a => rw [e] at h2; cases h2; rfl
    obtain ⟨u, hu, rv⟩ := r.get ha
    have hp : ps[i]? = some y := by
      rw [← S.pre, List.getElem?_take_of_lt (by omega)]; exact h1
    have ndP : ps.Nodup := by rw [← S.pre]; exact S.nd.sublist (List.take_sublist _ _)
    refine ⟨u, rv, ?_⟩
    rcases S.par y (List.mem_of_getElem? hp) with k | k
    · exact .inl ⟨k, bindL_get ndP hp hu k⟩
    · obtain ⟨c, e⟩ := cell_has (n := s.heap.objs.size + 1) k
      refine .inr ⟨.inl k, c, e, ?_⟩
      have q := x.cell y c e
      rw [bindC_get ndP hp hu (by show scope.names.lookup y ≠ _; rw [k]; decide)] at q
      exact q
  · exact e0.hok.fresh (Nat.le_of_lt (x.above y c (PySem.mem_of_lookup h)))
  · unfold start
    show _ = N.length
    rw [List.length_append, List.length_map, List.length_replicate]
    omega

theorem fn_of {CX : CXT} {P : Program} {w : World} {K : PySem.W.Frag} {mg : Str → Option Value} {base : Heap} {k : Nat} {f : Addr} {name qual : Str} {params : Arguments} {body : List Stmt} {scope : Scope} {dV kV doc pm cdv ct oc : Value} {an od : Option Addr}
    {osl : Array (Option Value)} {N ps : List Str} {sp : Sp} (lk : K.lookup f = some ⟨oc, od, .func (PySem.W.fnOf name qual params body scope dV kV doc pm an cdv ct), osl⟩) (hcd : PySem.W.codeIn K cdv qual = true) (S : FnScope N ps scope)
    (len : ∀ vs H Q E, sp vs H Q E → vs.length = ps.length)
    (hbody : ∀ (A : Around) (outer : List Env) (s : Shared) (H : Hp) (vs : List V) (Q : VK) (E : XK), Room k (A.deeper (envOfC qual scope s.heap.objs.size f cdv)) → sp vs H Q E →
      ∃ t, PSs (cxOf CX P w K mg base N qual scope f cdv A outer s H E) body t ∧ t { nx := fun _ H' => Q .non H', rt := Q } (start N vs) H) :
    FnOk P w K mg base CX (k + 1) f (PySem.W.fnOf name qual params body scope dV kV doc pm an cdv ct) ps sp := by
  refine ⟨len, fun A outer s H args us vs Q E hr e0 hb r hsp => ?_⟩
  have hl := len _ _ _ _ hsp
  have KX : K.In s.heap := e0.mod.kin.keeps fun b o e => (e0.bs b o e).1
  have lim : s.heap.NoLimit := e0.mod.nolimit.keeps fun b o e => (e0.bs b o e).1
  have hkind : ∀ y ∈ ps.zip us, scope.names.lookup y.1 = some .local ∨ (scope.names.lookup y.1 = some .cell ∧ ((cellsFrom (s.heap.objs.size + 1) scope.names []).lookup y.1).isSome = true) := fun ⟨n, v⟩ hy => by
    rcases S.par n (List.of_mem_zip hy).1 with q | q
    · exact .inl q
    · exact .inr ⟨q, PySem.W.cellsFrom_some _ _ _ (.inl q)⟩
  refine codeAny_call_function hr.depth (KX _ _ lk) rfl S.co S.gen rfl (PySem.W.codeRec_of KX hcd) (hb _ _ _ _ ?_)
  refine wpAny_newFunctionEnv_cells S.kind hkind fun env he s1 x => ?_
  subst he
  refine ⟨lim.keeps x.toInCall.keep, codeAny_func ?_⟩
  obtain ⟨t, ht, hq⟩ := hbody A outer s H vs Q E (hr.deeper _) hsp
  have I : Inv (cxOf CX P w K mg base N qual scope f cdv A outer s H E) [] (start N vs) H s1 := inv_start S e0 hl r x
  refine wpAny_mono (ht [] s1 (start N vs) H _ I hq) (fun fl s' hs => ?_) fun e s' hs => hs
  have fin : ∀ {σ' : St} {H' : Hp} {v : V} {u : Value}, Inv (cxOf CX P w K mg base N qual scope f cdv A outer s H E) [] σ' H' s' → RelV v u → Q v H' → CE outer P w H s Q u s' :=
    fun {σ' H' v u} J rv q => ⟨v, H', J.os, J.bare, J.base, J.hok, rv, q⟩
  cases fl with
  | ret u =>
    obtain ⟨v, σ', H', J, rv, q⟩ := hs
    exact fin J rv q
  | next =>
    obtain ⟨σ', H', J, q⟩ := hs
    exact fin (v := V.non) (u := Value.none) J rfl q
  | brk =>
    obtain ⟨_, _, _, q⟩ := hs
    exact False.elim q
  | cont =>
    obtain ⟨_, _, _, q⟩ := hs
    exact False.elim q
end L2

namespace L2
open PySem PySem.Spec PyProof.Rows
section
variable {X : Cx} {x : Str} {p pos : Pos} {e : Expr} {es : List Expr} {t : TA} {id T : String} {r : List V → Hp → VK → Prop}

def tCB (r : List V → Hp → VK → Prop) (t : TA) : TE := fun σ H Q => t σ H fun vs H1 => r vs H1 Q
theorem pe_callB (hc : CallR X (.builtin id) r) (hg : Gl X x) (hm : X.mg x = none) (hv : bootBuiltins x = some (.builtin id)) (ha : PA X (e :: es) t) (hn : x ≠ "__name__" := by decide) (hdb : (x == ("__debug__" : Str)) = false := by decide)
    (he : starEach (e :: es) X.env = (false, eval e X.env) :: starEach es X.env := by rfl) (hpl : (backTo pos (starEach es X.env)).any (·.1) = false := by rfl) : PE X (.Call (.Name x p) (e :: es) [] pos) (tCB r t) := by
  intro pins s σ H Q I h
  refine wpAny_Call_Name_kw (ld_blt I hg hm hv ?_ hn hdb)
  exact PyProof.Rows.callWith_builtin1 (thn (ha pos pins s σ H _ I h) fun us s1 ⟨vs, H1, I1, r1, q1⟩ => hc pins s1 σ H1 vs us Q I1 r1 q1) he hpl
end
end L2

namespace HT
open PySem PyProof.Rows

section
open PySem.SeqAt
open PySem.AutoSeq1 (wpAny_loadPart')
open PySem.MeetsSeq PySem.MeetsSeq2 PySem.MeetsSeq3

end

section
variable {prog : Program} {w : World} {A : Around} {E : Value → Shared → Prop} {s : Shared}

end
end HT

namespace L2
open PySem PySem.Spec PyProof.Rows

section
variable {X : Cx} {e : Expr} {te : TE} {lo hi : Option Expr} {tl th : TO} {pos p2 : Pos}

end
end L2

namespace L2
open PySem PySem.Spec PyProof.Rows

def ixN (n : Nat) (i : Int) : Option Nat := if 0 ≤ i then (if i < n then some i.toNat else none) else if -(n : Int) ≤ i then some (i + n).toNat else none
def atI {α : Type} (xs : List α) (i : Int) : Option α := (ixN xs.length i).bind fun j => xs[j]?
theorem ixN_seq {n : Nat} {i : Int} {j : Nat} (h : ixN n i = some j) : seqIndex? i n = some j ∧ j < n ∧ -(n : Int) ≤ i ∧ i < n := by
  unfold ixN at h
  by_cases h0 : 0 ≤ i
  · rw [if_pos h0] at h
    by_cases h1 : i < n
    · rw [if_pos h1] at h
      have e : i.toNat = j := Option.some.inj h
      exact ⟨by rw [seqIndex_of h0 h1, e], by omega, by omega, h1⟩
    · rw [if_neg h1] at h; cases h
  · rw [if_neg h0] at h
    by_cases h1 : -(n : Int) ≤ i
    · rw [if_pos h1] at h
      have e : (i + n).toNat = j := Option.some.inj h
      exact ⟨by rw [seqIndex_neg (by omega) h1, e], by omega, h1, by omega⟩
    · rw [if_neg h1] at h; cases h
theorem atI_get {α : Type} {xs : List α} {i : Int} {v : α} (h : atI xs i = some v) : ∃ j, seqIndex? i xs.length = some j ∧ xs[j]? = some v ∧ j < xs.length ∧ -(xs.length : Int) ≤ i ∧ i < xs.length := by
  unfold atI at h
  cases e : ixN xs.length i with
  | none => rw [e] at h; cases h
  | some j =>
    rw [e] at h
    obtain ⟨h1, h2, h3, h4⟩ := ixN_seq e
    exact ⟨j, h1, h, h2, h3, h4⟩
theorem atI_nat {α : Type} {xs : List α} {j : Nat} {v : α} (h : xs[j]? = some v) : atI xs (j : Int) = some v := by
  have hj : j < xs.length := (List.getElem?_eq_some_iff.mp h).1
  have e : ixN xs.length (j : Int) = some j := by
    unfold ixN
    rw [if_pos (by omega), if_pos (by omega)]; simp
  unfold atI; rw [e]; exact h
def PlainIx (b : Expr) : Prop := ∀ o i, subscripted b false o i = operate [o, i] (getItem o i)
def IxR (X : Cx) (r : R2) : Prop :=
  ∀ (value slice : Expr) (pins : List (Addr × Obj)) (s : Shared) (σ : St) (H : Hp) (x y : V) (v u : Value) (Q : VK), Inv X pins σ H s → RelV x v → RelV y u → r x y H Q →
    subscripted slice false v u = operate [v, u] (getItem v u) → wpAny (model X.prog X.w) X.A (subscriptTail value slice v u) (EP X pins σ Q) X.xe s
def MtR (X : Cx) (id : String) (r : V → List V → Hp → VK → Prop) : Prop :=
  ∀ (pins : List (Addr × Obj)) (s : Shared) (σ : St) (H : Hp) (x : V) (xs : List V) (v : Value) (us : List Value) (Q : VK), Inv X pins σ H s → RelV x v → Vals xs us → r x xs H Q →
    wpAny (model X.prog X.w) X.A (call (.builtin id) (v :: us)) (EP X pins σ Q) X.xe s
section
variable {X : Cx} {a b : Expr} {ta tb : TE} {pos : Pos}
theorem pe_ix {r : R2} (hr : IxR X r) (ha : PE X a ta) (hb : PE X b tb) (hs : PlainIx b) : PE X (.Subscript a b pos) (tOp r ta tb) := by
  intro pins s σ H Q I h
  exact Subscript_ (binT ha hb I h fun v u s2 x y H2 I2 rx ry q => hr a b pins s2 σ H2 x y v u Q I2 rx ry q (hs _ _))

def rIxL (K : PySem.W.Frag) : R2 := fun x y H Q => ∃ p xs i v, x = .ref p ∧ y = .int i ∧ SqL K H p xs ∧ atI xs i = some v ∧ Q v H
def rIxT (K : PySem.W.Frag) : R2 := fun x y H Q => ∃ p xs i v, x = .ref p ∧ y = .int i ∧ SqT K H p xs ∧ atI xs i = some v ∧ Q v H
theorem ix_list : IxR X (rIxL X.K) := by
  intro value slice pins s σ H x y v u Q I rx ry h hs
  obtain ⟨p, xs, i, z, rfl, rfl, hq, he, q⟩ := h
  cases rx
  obtain ⟨t, rfl⟩ := ry
  obtain ⟨its, r, pl, hz⟩ := I.list hq
  obtain ⟨j, h1, h2, h3, h4, h5⟩ := atI_get he
  obtain ⟨w, ew, rw'⟩ := r.get h2
  have hl := r.length
  have hn := line63
  have fin : EP X pins σ Q w s := ⟨z, H, I, rw', q⟩
  by_cases h0 : 0 ≤ i
  · have hj : i.toNat = j := by
      rw [seqIndex_of h0 h5] at h1
      exact Option.some.inj h1
    exact item_listR pl.isList h0 (by omega) (by rw [hj]; simpa using ew) fin hs
  · have hj : (i + (its.toArray.size : Int)).toNat = j := by
      rw [seqIndex_neg (by omega) h4] at h1
      rw [List.size_toArray, ← hl]
      exact Option.some.inj h1
    exact subscriptTail_builtinR (x := w) pl.isList.typeIs slot_list_getitem.lookup
      (wpAny_getItem_list_neg (Q := fun r s' => r = w ∧ EP X pins σ Q r s') pl.isList (by omega) (by rw [List.size_toArray] <;> omega) (by omega) (by rw [hj]; simpa using ew) ⟨rfl, fin⟩) hs
theorem ix_tup : IxR X (rIxT X.K) := by
  intro value slice pins s σ H x y v u Q I rx ry h hs
  obtain ⟨p, xs, i, z, rfl, rfl, hq, he, q⟩ := h
  cases rx
  obtain ⟨t, rfl⟩ := ry
  obtain ⟨its, r, pl, hz⟩ := I.tuple hq
  obtain ⟨j, h1, h2, h3, h4, h5⟩ := atI_get he
  obtain ⟨w, ew, rw'⟩ := r.get h2
  have hl := r.length
  have hn := line63
  have fin : EP X pins σ Q w s := ⟨z, H, I, rw', q⟩
  exact subscriptTail_builtinR (x := w) pl.typeIs slot_tuple_getitem.lookup
    (getItem_tuple (j := j) (Q := fun r s' => r = w ∧ EP X pins σ Q r s') pl (by omega) (by omega) (by rw [List.size_toArray, ← hl]; exact h1) (by simpa using ew) ⟨rfl, fin⟩) hs
theorem call_len_seq : CallR X (.builtin "len") (fun xs H Q => ∃ p ys, xs = [.ref p] ∧ (SqL X.K H p ys ∨ SqT X.K H p ys) ∧ Q (.int ys.length) H) := by
  intro pins s σ H xs us Q I r h
  obtain ⟨p, ys, rfl, hq, q⟩ := h
  obtain ⟨u, rfl, rx⟩ := vals1 r
  cases rx
  have hn := line63
  rcases hq with hq | hq
  · obtain ⟨its, r', pl, hz⟩ := I.list hq
    have hlen := r'.length
    exact Calls.call_len_list pl.isList (by simp only [List.size_toArray] <;> omega) ⟨.int ys.length, H, I.tok _, ⟨s.toks + 1, by rw [List.size_toArray, hlen]⟩, q⟩
  · obtain ⟨its, r', pl, hz⟩ := I.tuple hq
    have hlen := r'.length
    exact len_tuple pl (by simp only [List.size_toArray] <;> omega) ⟨.int ys.length, H, I.tok _, ⟨s.toks + 1, by rw [List.size_toArray, hlen]⟩, q⟩
def tyV (K : PySem.W.Frag) (T : String) (x : V) (H : Hp) : Prop := match x with
  | .str _ => T = "str"
  | .int _ => T = "int"
  | .ref p => (T = "list" ∧ ∃ xs, SqL K H p xs) ∨ (T = "tuple" ∧ ∃ o, K.lookup p = some o ∧ o.cls = .type "tuple" ∧ o.dict = none) ∨
      (T = "dict" ∧ ((∃ kvs, H p = some (.dK kvs)) ∨ ∃ kvs, H p = some (.dT kvs))) ∨ (T = "set" ∧ ∃ S n, H p = some (.set S n))
  | _ => False
theorem tyV_is {pins : List (Addr × Obj)} {σ : St} {H : Hp} {s : Shared} {T : String} {x : V} {v : Value} (I : Inv X pins σ H s) (r : RelV x v) (ty : tyV X.K T x H) :
    s.TypeIs v T ∧ ∀ a, v = .ref a → ∃ ob, s.heap.get? a = some ob ∧ ob.dict = none := by
  cases x with
  | str z =>
    obtain ⟨t, rfl⟩ := r
    cases (show T = "str" from ty)
    exact ⟨typeIs_str s z t, fun _ e => nomatch e⟩
  | int i =>
    obtain ⟨t, rfl⟩ := r
    cases (show T = "int" from ty)
    exact ⟨typeIs_int s i t, fun _ e => nomatch e⟩
  | ref p =>
    cases r
    rcases ty with ⟨rfl, xs, hq⟩ | ⟨rfl, o, hk, hc, hd⟩ | ⟨rfl, hk⟩ | ⟨rfl, S, n, hk⟩
    · obtain ⟨its, _, pl, _⟩ := I.list hq
      refine ⟨pl.isList.typeIs, fun a e => ?_⟩
      cases e
      obtain ⟨o, n, e, c, hd, _⟩ := pl
      exact ⟨o, e, hd⟩
    · refine ⟨⟨o, I.kIn p o hk, hc⟩, fun a e => ?_⟩
      cases e
      exact ⟨o, I.kIn _ o hk, hd⟩
    · have z : ∃ o, s.heap.get? p = some o ∧ o.ExactDict := by
        rcases hk with ⟨kvs, hk⟩ | ⟨kvs, hk⟩
        · obtain ⟨_, _, _, _, o, _, _, e, ex, _⟩ := I.hok p _ hk
          exact ⟨o, e, ex⟩
        · obtain ⟨_, _, _, _, o, _, _, e, ex, _⟩ := I.hok p _ hk
          exact ⟨o, e, ex⟩
      obtain ⟨o, e, ex⟩ := z
      refine ⟨⟨o, e, ex.1⟩, fun a e2 => ?_⟩
      cases e2
      exact ⟨o, e, ex.2.1⟩
    · obtain ⟨o, _, _, _, e, ex, _⟩ := I.hok p _ hk
      refine ⟨⟨o, e, ex.1⟩, fun a e2 => ?_⟩
      cases e2
      exact ⟨o, e, ex.2.1⟩
  | _ => exact False.elim ty
def tBM (K : PySem.W.Frag) (T : String) (r : V → List V → Hp → VK → Prop) (to : TE) (t : TA) : TE := fun σ H Q => to σ H fun x H1 => tyV K T x H1 ∧ t σ H1 fun xs H2 => r x xs H2 Q
variable {o e : Expr} {es : List Expr} {to : TE} {t : TA} {name : Str} {apos cpos : Pos} {T id : String} {r : V → List V → Hp → VK → Prop}
theorem pe_bm (pa : PlainAttrs T) (slot : Slot T name id) (hty : typeOf (.builtin id) = pure (.type "method_descriptor")) (hm : MtR X id r) (ho : PE X o to) (ha : PA X (e :: es) t)
    (hbase : attributeBase o name X.env (eval o X.env) = eval o X.env := by rfl)
    (hfew : ((backTo cpos (starEach (e :: es) X.env)).all (fun x => !x.1) && (backToKw cpos (keywordEach [] X.env)).all (fun x => x.1.isSome)
      && decide ((e :: es).length + ([] : List Keyword).length + (if ([] : List Keyword).isEmpty then 0 else 1) < 30)) = true := by rfl)
    (hline : (apos.endLine == cpos.line) = true := by rfl) (hs : starEach (e :: es) X.env = (false, eval e X.env) :: starEach es X.env := by rfl) (hplain : (backTo cpos (starEach es X.env)).any (·.1) = false := by rfl) :
    PE X (.Call (.Attribute o name apos) (e :: es) [] cpos) (tBM X.K T r to t) := by
  intro pins s σ H Q I h
  refine wpAny_Call_method_late hbase hfew hline rfl (thn (ho pins s σ H _ I h) fun v s1 ⟨x, H1, I1, r1, ty, q1⟩ => ?_)
  obtain ⟨h1, h2⟩ := tyV_is I1 r1 ty
  refine ⟨T, id, pa, slot, hty, h1, h2, ?_⟩
  have hA := ha cpos pins s1 σ H1 _ I1 q1
  rw [hs] at hA ⊢
  refine Calls.callWith_builtin (by show (false || (backTo cpos (starEach es X.env)).any (·.1)) = false; rw [hplain] <;> rfl) (Calls.evalArgs_plain ?_)
  exact thn hA fun us s2 ⟨vs, H2, I2, r2, q2⟩ => hm pins s2 σ H2 x vs v us Q I2 r1 r2 q2
/- xs.append(e), list.index on a module's tuple .. are MtR facts of 06m -/
end
end L2

namespace L2
open PySem PySem.Spec PyProof.Rows

def MtM (X : Cx) (id : String) (r : V → List V → Hp → VK → Prop) : Prop :=
  ∀ (pins : List (Addr × Obj)) (s : Shared) (σ : St) (H : Hp) (x : V) (xs : List V) (v : Value) (us : List Value) (Q : VK), Inv X pins σ H s → RelV x v → Vals xs us → r x xs H Q →
    wpAny (model X.prog X.w) X.A (call (.builtin id) (v :: us)) (EP X pins σ Q) X.xe s

theorem Vals.one : ∀ {x : V} {us : List Value}, Vals [x] us → ∃ u, us = [u] ∧ RelV x u
  | _, _, .cons r .nil => ⟨_, rfl, r⟩
section
variable {X : Cx} {pins : List (Addr × Obj)} {σ : St} {H : Hp} {s : Shared} {l b : Addr} {xs ys zs : List V}

theorem Inv.lset {its its' : List Value} {n : Nat} {f : Array Value → Array Value} {t' : Nat} (I : Inv X pins σ H s) (hH : H l = some (.lst xs))
    (e : s.heap.get? l = some { cls := .type "list", data := .seq its.toArray n }) (hf : f its.toArray = its'.toArray) (hv : Vals ys its') (hz : ys.length ≤ sizeLine) :
    Inv X pins σ (upd H l (.lst ys)) { s with heap := s.heap.update l (Obj.mapSeq f), toks := t' } := by
  have q := PySem.IsL.update e f
  rw [hf] at q
  refine I.write (x := l) (e := l) (by rw [hH]; exact trivial) (.inl rfl) (fun b' u hb hu => (Heap.get?_update_other s.heap (Obj.mapSeq f) (Ne.symm hb)).trans hu) ⟨_, q⟩ ?_
  exact ⟨hz, its', _, hv, q⟩
theorem Inv.lstM (I : Inv X pins σ H s) (hH : H l = some (.lst xs)) : xs.length ≤ sizeLine ∧ ∃ (its : List Value) (n : Nat), Vals xs its ∧ xs.length = its.length ∧ s.heap.get? l = some { cls := .type "list", data := .seq its.toArray n } := by
  obtain ⟨z, its, n, r, e⟩ := I.hok l _ hH
  exact ⟨z, its, n, r, r.length, e⟩

end

section
variable {X : Cx}

def rAppend : V → List V → Hp → VK → Prop := fun x vs H Q => ∃ l xs y, x = .ref l ∧ vs = [y] ∧ H l = some (.lst xs) ∧ xs.length < sizeLine ∧ Q .non (upd H l (.lst (xs ++ [y])))
theorem mt_append : MtM X "list.append" rAppend := by
  intro pins s σ H x vs v us Q I rx rv h
  obtain ⟨l, xs, y, rfl, rfl, hH, hz, q⟩ := h
  cases rx
  obtain ⟨u, rfl, ru⟩ := rv.one
  obtain ⟨z, its, n, r, hl, e⟩ := I.lstM hH
  refine call_meets F.slot_list_append ⟨_, e, rfl⟩ F.entry_list_append (F.args_list_append_2 _ _) (PySem.list_append l its.toArray n u (by rw [List.size_toArray]; omega)) ⟨e, ?_⟩
  refine ⟨.non, _, I.lset (its' := its ++ [u]) hH e (by simp) (r.append (.cons ru .nil)) ?_, rfl, q⟩
  rw [List.length_append, List.length_singleton]
  omega

end

section
variable {prog : Program} {w : World} {A : Around} {E : Value → Shared → Prop} {s : Shared}
set_option maxRecDepth 100000 in
end

section
variable {X : Cx}
end
end L2

namespace L2
open PySem PySem.Spec PyProof.Rows

section
variable {prog : Program} {w : World} {A : Around} {E : Value → Shared → Prop} {s : Shared} {l : Addr} {its : List Value} {ns : List Int} {Q : Value → Shared → Prop}
end

section
variable {X : Cx}
end

section
variable {X : Cx}
end

section
variable {X : Cx}
end

section
variable {X : Cx}
end

mutual
inductive Dp (K : PySem.W.Frag) (H : Hp) : V → PyData → Prop
  | non : Dp K H .non .none
  | bl (b : Bool) : Dp K H (.bl b) (.bool b)
  | int (i : Int) : Dp K H (.int i) (.int i)
  | str (x : Str) : Dp K H (.str x) (.str x)
  | lst {a : Addr} {xs : List V} {ds : List PyData} : SqL K H a xs → DpAll K H xs ds → Dp K H (.ref a) (.list ds)
  | tup {a : Addr} {xs : List V} {ds : List PyData} : SqT K H a xs → DpAll K H xs ds → Dp K H (.ref a) (.tuple ds)
inductive DpAll (K : PySem.W.Frag) (H : Hp) : List V → List PyData → Prop
  | nil : DpAll K H [] []
  | cons {v : V} {vs : List V} {d : PyData} {ds : List PyData} : Dp K H v d → DpAll K H vs ds → DpAll K H (v :: vs) (d :: ds)
end
section
variable {X : Cx} {pins : List (Addr × Obj)} {σ : St} {H : Hp} {s : Shared}
mutual
theorem Dp.reads (I : Inv X pins σ H s) : ∀ (d : PyData) (v : V) (u : Value), Dp X.K H v d → RelV v u → ∃ as, Reads s.heap u d as
  | .none, _, _, h, r => by
    cases h
    cases r
    exact ⟨_, Reads.none⟩
  | .bool b, _, _, h, r => by
    cases h
    cases r
    exact ⟨_, Reads.bool b⟩
  | .int i, _, _, h, r => by
    cases h
    obtain ⟨t, rfl⟩ := r
    exact ⟨_, Reads.int i t⟩
  | .str x, _, _, h, r => by
    cases h
    obtain ⟨t, rfl⟩ := r
    exact ⟨_, Reads.str x t⟩
  | .list ds, _, _, h, r => by
    cases h with
    | lst hs ha =>
      cases r
      obtain ⟨its, rv, ⟨o, n, ho, hc, _, hd⟩, _⟩ := I.list hs
      obtain ⟨as, hr⟩ := Dp.readsAll I ds _ its ha rv
      exact ⟨_, Reads.list ho hc hd hr⟩
  | .tuple ds, _, _, h, r => by
    cases h with
    | tup hs ha =>
      cases r
      obtain ⟨its, rv, ⟨o, ho, hc, n, hd⟩, _⟩ := I.tuple hs
      obtain ⟨as, hr⟩ := Dp.readsAll I ds _ its ha rv
      exact ⟨_, Reads.tuple ho hc hd hr⟩
  | .dict _, _, _, h, _ => by cases h
theorem Dp.readsAll (I : Inv X pins σ H s) : ∀ (ds : List PyData) (vs : List V) (us : List Value), DpAll X.K H vs ds → Vals vs us → ∃ as, ReadsAll s.heap us ds as
  | [], _, _, h, r => by
    cases h
    cases r
    exact ⟨_, ReadsAll.nil⟩
  | d :: ds, _, _, h, r => by
    cases h with
    | cons h1 h2 =>
      cases r with
      | cons r1 r2 =>
        obtain ⟨as, q1⟩ := Dp.reads I d _ _ h1 r1
        obtain ⟨bs, q2⟩ := Dp.readsAll I ds _ _ h2 r2
        exact ⟨_, ReadsAll.cons q1 q2⟩
end
end
section
variable {X : Cx}
def rEqD (K : PySem.W.Frag) : R2 := fun x y H Q => ∃ d e, Dp K H x d ∧ Dp K H y e ∧ SeqAt.shaped d = true ∧ SeqAt.shaped e = true ∧ Q (.bl (PyData.eqv d e)) H
theorem op_eqD (hu : X.A.units + 64 < cLine) : OpR X (compareOp .Eq) (rEqD X.K) := by
  intro pins s σ H x y v u Q I rx ry h
  obtain ⟨d, e, hd, he, sd, se, q⟩ := h
  obtain ⟨as, r1⟩ := Dp.reads I d x v hd rx
  obtain ⟨bs, r2⟩ := Dp.reads I e y u he ry
  exact SeqAt.compareEq_shaped r1 r2 sd se hu ⟨.bl _, H, I, rfl, q⟩
end
end L2

namespace L2
open PySem PySem.Spec PyProof.Rows
abbrev CellAt (h : Heap) (c : Addr) (v : Option Value) : Prop := h.IsCell c v
def relS (scope sc : Scope) : Scope :=
  { scope with names := scope.names.map fun (n, k) => if (k == .free && sc.kind == .function && sc.names.lookup n == some .cell) then (n, .cell) else (n, k) }

def cloFrom (cells : List (Str × Addr)) : List (Str × NameKind) → List (Str × Addr) → List (Str × Addr)
  | [], acc => acc
  | (n, k) :: r, acc => if k == .free then cloFrom cells r ((n, (cells.lookup n).getD 0) :: acc) else cloFrom cells r acc

theorem closure_loop (env : Env) (f : Str × NameKind → List (Str × Addr) → Sem (ForInStep (List (Str × Addr))))
    (hf : ∀ n k c, f (n, k) c = if k == .free then (do let a ← cellOf env n; pure (.yield ((n, a) :: c))) else pure (.yield c)) :
    ∀ (names : List (Str × NameKind)) (acc : List (Str × Addr)), (∀ y ∈ names, y.2 = .free → ∃ c, env.cells.lookup y.1 = some c) → forIn names acc f = pure (cloFrom env.cells names acc)
  | [], acc, _ => by rw [List.forIn_nil]; rfl
  | (n, k) :: r, acc, h => by
    rw [List.forIn_cons, hf]
    have ih := fun acc => closure_loop env f hf r acc fun y hy => h y (List.mem_cons_of_mem _ hy)
    unfold cloFrom
    by_cases hk : (k == NameKind.free) = true
    · rw [if_pos hk, if_pos hk]
      obtain ⟨c, hc⟩ := h (n, k) List.mem_cons_self (by simpa using hk)
      have e : cellOf env n = pure c := by unfold cellOf; rw [hc]
      rw [e]
      have e2 : (env.cells.lookup n).getD 0 = c := by rw [hc]; rfl
      rw [e2]
      exact ih _
    · rw [if_neg hk, if_neg hk]
      exact ih _
theorem closure_ok {scope : Scope} {env : Env} (h : ∀ y ∈ scope.names, y.2 = .free → ∃ c, env.cells.lookup y.1 = some c) : closureFor scope env = pure (cloFrom env.cells scope.names []) := by
  simp only [closureFor]
  rw [closure_loop env _ (fun n k c => rfl) scope.names [] h]
  rfl

theorem mem_lookup {α : Type} : ∀ {l : List (Str × α)} {n : Str} {c : α}, (n, c) ∈ l → ∃ c', l.lookup n = some c'
  | (k, v) :: r, n, c, h => by
    rw [List.lookup_cons]
    cases hb : n == k with
    | true => exact ⟨_, rfl⟩
    | false =>
      rcases List.mem_cons.mp h with e | h
      · cases e; simp at hb
      · exact mem_lookup h

theorem cloFrom_mem {cells : List (Str × Addr)} : ∀ {names : List (Str × NameKind)} {acc : List (Str × Addr)} {n : Str} {c : Addr}, (n, c) ∈ cloFrom cells names acc → (n, c) ∈ acc ∨ ((n, .free) ∈ names ∧ c = (cells.lookup n).getD 0)
  | [], _, _, _, h => .inl h
  | (m, k) :: r, acc, n, c, h => by
    unfold cloFrom at h
    split at h
    · rename_i hk
      have hk : k = .free := by simpa using hk
      rcases cloFrom_mem h with h | ⟨h1, h2⟩
      · rcases List.mem_cons.mp h with e | h
        · cases e; exact .inr ⟨hk ▸ List.mem_cons_self, rfl⟩
        · exact .inl h
      · exact .inr ⟨List.mem_cons_of_mem _ h1, h2⟩
    · rcases cloFrom_mem h with h | ⟨h1, h2⟩
      · exact .inl h
      · exact .inr ⟨List.mem_cons_of_mem _ h1, h2⟩
theorem cloFrom_acc {cells : List (Str × Addr)} : ∀ {names : List (Str × NameKind)} {acc : List (Str × Addr)} {p : Str × Addr}, p ∈ acc → p ∈ cloFrom cells names acc
  | [], _, _, h => h
  | (m, k) :: r, acc, p, h => by
    unfold cloFrom
    split
    · exact cloFrom_acc (List.mem_cons_of_mem _ h)
    · exact cloFrom_acc h
theorem cloFrom_has {cells : List (Str × Addr)} : ∀ {names : List (Str × NameKind)} {acc : List (Str × Addr)} {n : Str}, (n, .free) ∈ names → (n, (cells.lookup n).getD 0) ∈ cloFrom cells names acc
  | (m, k) :: r, acc, n, h => by
    unfold cloFrom
    rcases List.mem_cons.mp h with e | h
    · cases e
      exact cloFrom_acc List.mem_cons_self
    · split
      · exact cloFrom_has h
      · exact cloFrom_has h

theorem cells_mem : ∀ {names : List (Str × NameKind)} {h : Heap} {acc : List (Str × Addr)} {x : Str} {c : Addr}, (x, c) ∈ cellsFrom h.objs.size names acc →
    (x, c) ∈ acc ∨ ((x, .cell) ∈ names ∧ h.objs.size ≤ c ∧ CellAt (pushCells h names) c none)
  | [], _, _, _, _, h => .inl h
  | (n, k) :: r, h, acc, x, c, hm => by
    unfold cellsFrom at hm
    unfold pushCells
    split at hm
    · rename_i hk
      rw [if_pos hk]
      have hk : k = .cell := by simpa using hk
      rw [← Heap.size_push h { cls := .type "cell", data := .cell none }] at hm
      rcases cells_mem hm with hm | ⟨h1, h2, h3⟩
      · rcases List.mem_cons.mp hm with e | hm
        · cases e
          exact .inr ⟨hk ▸ List.mem_cons_self, Nat.le_refl _, _, pushCells_keeps r _ _ _ (Heap.get?_push_size _ rfl), rfl⟩
        · exact .inl hm
      · rw [Heap.size_push] at h2
        exact .inr ⟨List.mem_cons_of_mem _ h1, Nat.le_of_succ_le h2, h3⟩
    · rename_i hk
      rw [if_neg hk]
      rcases cells_mem hm with hm | ⟨h1, h2, h3⟩
      · exact .inl hm
      · exact .inr ⟨List.mem_cons_of_mem _ h1, h2, h3⟩
theorem cells_acc : ∀ {names : List (Str × NameKind)} {n : Nat} {acc : List (Str × Addr)} {p : Str × Addr}, p ∈ acc → p ∈ cellsFrom n names acc
  | [], _, _, _, h => h
  | (m, k) :: r, n, acc, p, h => by
    unfold cellsFrom
    split
    · exact cells_acc (List.mem_cons_of_mem _ h)
    · exact cells_acc h
theorem cells_has : ∀ {names : List (Str × NameKind)} {n : Nat} {acc : List (Str × Addr)} {x : Str}, (x, .cell) ∈ names → ∃ c, (x, c) ∈ cellsFrom n names acc
  | (m, k) :: r, n, acc, x, h => by
    unfold cellsFrom
    rcases List.mem_cons.mp h with e | h
    · cases e
      exact ⟨n, cells_acc List.mem_cons_self⟩
    · split
      · exact cells_has h
      · exact cells_has h
theorem cells_inj : ∀ {names : List (Str × NameKind)} {h : Heap} {acc : List (Str × Addr)} {x y : Str} {c : Addr}, (∀ p ∈ acc, p.2 < h.objs.size) → (∀ x y c, (x, c) ∈ acc → (y, c) ∈ acc → x = y) →
    (x, c) ∈ cellsFrom h.objs.size names acc → (y, c) ∈ cellsFrom h.objs.size names acc → x = y
  | [], _, _, _, _, _, _, hi, h1, h2 => hi _ _ _ h1 h2
  | (n, k) :: r, h, acc, x, y, c, hl, hi, h1, h2 => by
    unfold cellsFrom at h1 h2
    split at h1
    · rename_i hk
      rw [if_pos hk] at h2
      rw [← Heap.size_push h { cls := .type "cell", data := .cell none }] at h1 h2
      refine cells_inj (h := h.push _) (fun p hp => ?_) (fun x y c a b => ?_) h1 h2
      · rw [Heap.size_push]
        rcases List.mem_cons.mp hp with rfl | hp
        · exact Nat.lt_succ_self _
        · exact Nat.lt_succ_of_lt (hl p hp)
      · rcases List.mem_cons.mp a with e | a <;> rcases List.mem_cons.mp b with e' | b
        · cases e; cases e'; rfl
        · cases e; exact absurd (hl _ b) (Nat.lt_irrefl _)
        · cases e'; exact absurd (hl _ a) (Nat.lt_irrefl _)
        · exact hi _ _ _ a b
    · rename_i hk
      rw [if_neg hk] at h2
      exact cells_inj hl hi h1 h2

theorem newEnv_comp {M : Model} {A : Around} {E : Value → Shared → Prop} {s : Shared} {scope : Scope} {globals : Addr} {closure : List (Str × Addr)} {qual : Str} {func : Option Addr} {code : Value} {around : Env} {builtins : Addr} {Q : Env → Shared → Prop}
    (h : Q (newEnv scope s.heap.objs.size globals (cellsFrom (s.heap.objs.size + 1) scope.names closure) qual func code (some around) builtins)
      { s with heap := pushCells (s.heap.push { cls := .type "dict", data := .dict #[] }) scope.names }) :
    wpAny M A (newFunctionEnv scope globals closure [] qual func code (some around) builtins) Q E s := by
  simp only [newFunctionEnv, Option.isSome_some, if_true]
  refine wpAny_bind (wpAny_alloc ?_)
  refine wpAny_bind (wpAny_layCells _ (fun n k c => rfl) scope.names closure _ _ ?_)
  rw [show ({ s with heap := s.heap.push { cls := .type "dict", data := .dict #[] } } : Shared).heap.objs.size = s.heap.objs.size + 1 from Heap.size_push ..]
  rw [List.forIn_nil]
  exact wpAny_bind (wpAny_pure (wpAny_pure h))

theorem lookup_relS {sc : Scope} : ∀ {names : List (Str × NameKind)} {x : Str} {k : NameKind},
    (names.map fun (n, k) => if (k == NameKind.free && sc.kind == .function && sc.names.lookup n == some .cell) then (n, NameKind.cell) else (n, k)).lookup x = some k →
    ∃ k', names.lookup x = some k' ∧ (k = k' ∨ (k' = .free ∧ k = .cell))
  | [], _, _, h => by simp at h
  | (n, k₀) :: r, x, k, h => by
    have ih := @lookup_relS sc r x k
    have h' : List.lookup x ((if (k₀ == NameKind.free && sc.kind == .function && sc.names.lookup n == some .cell) = true then (n, NameKind.cell) else (n, k₀)) :: (r.map _)) = some k := h
    cases hx : x == n with
    | true =>
      simp only [List.lookup_cons, hx]
      by_cases hc : (k₀ == NameKind.free && sc.kind == .function && sc.names.lookup n == some .cell) = true
      · rw [if_pos hc] at h'
        simp only [List.lookup_cons, hx] at h'
        cases h'
        simp only [Bool.and_eq_true, beq_iff_eq] at hc
        exact ⟨k₀, rfl, .inr ⟨hc.1.1, rfl⟩⟩
      · rw [if_neg hc] at h'
        simp only [List.lookup_cons, hx] at h'
        cases h'
        exact ⟨_, rfl, .inl rfl⟩
    | false =>
      simp only [List.lookup_cons, hx]
      by_cases hc : (k₀ == NameKind.free && sc.kind == .function && sc.names.lookup n == some .cell) = true
      · rw [if_pos hc] at h'
        simp only [List.lookup_cons, hx] at h'
        exact ih h'
      · rw [if_neg hc] at h'
        simp only [List.lookup_cons, hx] at h'
        exact ih h'
structure BlkOk (N : List Str) (sc scope : Scope) (own : List (Str × Nat)) : Prop where
  kind : scope.kind = .function
  uniq : ∀ y ∈ scope.names, scope.names.lookup y.1 = some y.2
  ix : ∀ p ∈ own, N[p.2]? = some p.1
  free : ∀ y ∈ scope.names, y.2 = .free → sc.names.lookup y.1 = some .cell ∨ sc.names.lookup y.1 = some .free
  own : ∀ y ∈ scope.names, y.2 = .local ∨ y.2 = .cell → y.1 ∈ own.map (·.1) ∨ y.1 ∉ N
def wipe (σ : St) : List Nat → St
  | [] => σ
  | v :: vs => (wipe σ vs).set v none
theorem wipe_length (σ : St) : ∀ vs : List Nat, (wipe σ vs).length = σ.length
  | [] => rfl
  | v :: vs => by unfold wipe; rw [List.length_set, wipe_length σ vs]
theorem wipe_some {σ : St} {i : Nat} {x : V} : ∀ {vs : List Nat}, (wipe σ vs)[i]? = some (some x) → σ[i]? = some (some x) ∧ i ∉ vs
  | [], h => ⟨h, by simp⟩
  | v :: vs, h => by
    unfold wipe at h
    by_cases hi : v = i
    · subst hi
      by_cases hv : v < (wipe σ vs).length
      · rw [List.getElem?_set_self hv] at h; cases h
      · rw [List.getElem?_eq_none (by simpa using hv)] at h; cases h
    · rw [List.getElem?_set_ne hi] at h
      obtain ⟨h1, h2⟩ := wipe_some h
      exact ⟨h1, by simp only [List.mem_cons, not_or]; exact ⟨fun e => hi e.symm, h2⟩⟩

abbrev Cx.blk (X : Cx) (s : Shared) (H : Hp) (scope : Scope) (cenv : Env) (fp : List Addr) : Cx := { X with s_0 := s, H_0 := H, env := cenv, outer := X.stack, ex := fp, fn := fun x => scope.names.lookup x == some .cell, pn := [], xe := fun _ _ => False }
section
variable {X : Cx} {pins : List (Addr × Obj)} {σ : St} {H : Hp} {s : Shared}
theorem block_start {scope : Scope} {own : List (Str × Nat)} {fp : List Addr} (I : Inv X pins σ H s) (ok : BlkOk X.N X.env.scope scope own) (hN : X.N.Nodup) (hfp : ∀ b ∈ fp, FpOk X pins H b ∧ b < s.heap.objs.size) :
    Inv (X.blk s H scope (compEnvC scope (cellsFrom (s.heap.objs.size + 1) scope.names (cloFrom X.env.cells scope.names [])) s.heap.objs.size X.env) fp) [] (wipe σ (own.map (·.2))) H { s with heap := pushCells (s.heap.push { cls := .type "dict", data := .dict #[] }) scope.names } := by
  have hfree : ∀ y ∈ scope.names, y.2 = .free → ∃ c, X.env.cells.lookup y.1 = some c := fun y hy e => by
    rcases ok.free y hy e with k | k
    · exact I.ok.has _ (.inl k)
    · exact I.ok.has _ (.inr k)
  generalize hcenv : compEnvC scope (cellsFrom (s.heap.objs.size + 1) scope.names (cloFrom X.env.cells scope.names [])) s.heap.objs.size X.env = cenv
  have kp : ∀ b o, s.heap.get? b = some o → (pushCells (s.heap.push { cls := .type "dict", data := .dict #[] }) scope.names).get? b = some o := fun b o e => pushCells_keeps _ _ _ _ (Heap.get?_push_of_some _ e)
  have hL : cenv.locals = s.heap.objs.size := by rw [← hcenv]; rfl
  have hcl : cenv.cells = cellsFrom (s.heap.objs.size + 1) scope.names (cloFrom X.env.cells scope.names []) := by rw [← hcenv]; rfl
  have hsc : cenv.scope = relS scope X.env.scope := by rw [← hcenv]; rfl
  rw [← Heap.size_push s.heap { cls := .type "dict", data := .dict #[] }] at hcl
  have cm : ∀ {y c}, (y, c) ∈ cloFrom X.env.cells scope.names [] → X.env.cells.lookup y = some c ∧ c < s.heap.objs.size := fun {y c} hm => by
    rcases cloFrom_mem hm with hm | ⟨h1, rfl⟩
    · cases hm
    · obtain ⟨c, hc⟩ := hfree _ h1 rfl
      rw [hc]
      obtain ⟨w, z⟩ := I.cell _ _ hc
      exact ⟨rfl, z.lt⟩
  have mem : ∀ {y c}, cenv.cells.lookup y = some c → (X.env.cells.lookup y = some c ∧ c < s.heap.objs.size) ∨ (s.heap.objs.size + 1 ≤ c ∧ CellAt (pushCells (s.heap.push { cls := .type "dict", data := .dict #[] }) scope.names) c none) := fun {y c} e => by
    rw [hcl] at e
    rcases cells_mem (PySem.mem_of_lookup e) with hm | ⟨_, h2, h3⟩
    · exact .inl (cm hm)
    · rw [Heap.size_push] at h2; exact .inr ⟨h2, h3⟩
  have look : ∀ {y}, scope.names.lookup y = some .free → ∃ c, cenv.cells.lookup y = some c ∧ X.env.cells.lookup y = some c := fun {y} hl => by
    have hy : (y, NameKind.free) ∈ scope.names := PySem.mem_of_lookup hl
    obtain ⟨c', e'⟩ := mem_lookup (cells_acc (names := scope.names) (n := (s.heap.push { cls := .type "dict", data := .dict #[] }).objs.size) (cloFrom_has (cells := X.env.cells) (acc := []) hy))
    rw [← hcl] at e'
    refine ⟨c', e', ?_⟩
    rw [hcl] at e'
    rcases cells_mem (PySem.mem_of_lookup e') with hm | ⟨h1, _, _⟩
    · exact (cm hm).1
    · have := ok.uniq _ h1
      rw [hl] at this; cases this
  have okB : (X.blk s H scope cenv fp).Ok := by
    refine ⟨I.ok.mod, by show cenv.scope.kind = _; rw [hsc]; exact ok.kind, by show cenv.globals = _; rw [← hcenv]; exact I.ok.glob, by show cenv.builtins = _; rw [← hcenv]; exact I.ok.blt, by show s.heap.objs.size ≤ cenv.locals; rw [hL]; exact Nat.le_refl _,
      fun y z c e1 e2 => ?_, fun y hy => ?_, fun y c z e => ?_, I.ok.hd, I.ok.frames, .inl rfl, fun b hb => ⟨?_, fun y c e z => ?_⟩, I.bs, Nat.le_trans I.ok.bsz I.sz, fun b o e hb => ?_, fun b hb z => ?_, I.stack, I.stkFree⟩
    · have e1 : cenv.cells.lookup y = some c := e1
      have e2 : cenv.cells.lookup z = some c := e2
      rw [hcl] at e1 e2
      refine cells_inj (fun p hp => ?_) (fun y z c a b => I.ok.inj y z c (cm a).1 (cm b).1) (PySem.mem_of_lookup e1) (PySem.mem_of_lookup e2)
      rw [Heap.size_push]
      exact Nat.lt_succ_of_lt (cm (y := p.1) (c := p.2) hp).2
    · show ∃ c, cenv.cells.lookup y = some c
      have key : ∀ k, cenv.kindOf y = some k → (k = .cell ∨ k = .free) → ∃ c, cenv.cells.lookup y = some c := fun k hk hk' => by
        unfold Env.kindOf at hk
        rw [hsc] at hk
        obtain ⟨k', e, r⟩ := lookup_relS hk
        have : k' = .cell ∨ k' = .free := by
          rcases r with rfl | ⟨rfl, _⟩
          · exact hk'
          · exact .inr rfl
        rcases this with rfl | rfl
        · obtain ⟨c, hm⟩ := cells_has (n := (s.heap.push { cls := .type "dict", data := .dict #[] }).objs.size) (acc := cloFrom X.env.cells scope.names []) (PySem.mem_of_lookup e)
          obtain ⟨c', e'⟩ := mem_lookup hm
          exact ⟨c', by rw [hcl]; exact e'⟩
        · obtain ⟨c, h1, _⟩ := look e
          exact ⟨c, h1⟩
      rcases hy with hy | hy
      · exact key _ hy (.inl rfl)
      · exact key _ hy (.inr rfl)
    · have z : (scope.names.lookup y == some NameKind.cell) = true := z
      have z : scope.names.lookup y = some .cell := by simpa using z
      have e : cenv.cells.lookup y = some c := e
      rw [hcl] at e
      rcases cells_mem (PySem.mem_of_lookup e) with hm | ⟨_, h2, _⟩
      · rcases cloFrom_mem hm with hm | ⟨h1, _⟩
        · cases hm
        · have q := ok.uniq _ h1
          rw [z] at q; cases q
      · rw [Heap.size_push] at h2
        exact Nat.le_of_succ_le h2
    · show b ≠ cenv.locals
      rw [hL]; exact Nat.ne_of_lt (hfp b hb).2
    · have e : cenv.cells.lookup y = some c := e
      rcases mem e with ⟨h1, _⟩ | ⟨h1, _⟩
      · exact (hfp b hb).1.2.2.2.2.1 y c h1 z
      · have h2 : s.heap.objs.size + 1 ≤ b := by rw [← z]; exact h1
        exact absurd (Nat.lt_of_lt_of_le (hfp b hb).2 (Nat.le_of_succ_le h2)) (Nat.lt_irrefl _)
    · rcases (hfp b hb).1.2.2.2.1 with z | z
      · exact I.ok.noex b o e z
      · exact absurd (Nat.lt_of_lt_of_le (Heap.lt_size e) (Nat.le_trans I.ok.bsz z)) (Nat.lt_irrefl _)
    · rcases List.mem_cons.mp (I.stkSub b z) with z | z
      · exact (hfp b hb).1.2.1 z
      · exact (hfp b hb).1.2.2.1 z
  refine ⟨okB, rfl, I.bare, Un.kept kp, ⟨fun _ => none, ?_, fun i y av e1 e2 e3 => ?_⟩, fun y c e => ?_, ?_, fun y c e => ?_, fun p hp => ?_, I.hok.kept kp, by rw [wipe_length]; exact I.len⟩
  · show Heap.Ns _ cenv.locals _
    rw [hL]
    exact Heap.Ns.keeps (Heap.Ns.new ..) fun b o e => pushCells_keeps _ _ _ _ e
  · obtain ⟨e2, hne⟩ := wipe_some e2
    have hfr : scope.names.lookup y = some .free ∧ (cenv.kindOf y = some .cell ∨ cenv.kindOf y = some .free) := by
      have key : ∀ k, cenv.scope.names.lookup y = some k → k = .local ∨ k = .cell ∨ k = .free → scope.names.lookup y = some .free ∧ (cenv.kindOf y = some .cell ∨ cenv.kindOf y = some .free) := fun k hk hk' => by
        have hk0 := hk
        rw [hsc] at hk
        obtain ⟨k', e, r⟩ := lookup_relS hk
        have no : ¬ (k' = .local ∨ k' = .cell) := fun hh => by
          rcases ok.own _ (PySem.mem_of_lookup e) hh with e' | e'
          · obtain ⟨p, hp, hpy⟩ := List.mem_map.mp e'
            have e3 := ok.ix p hp
            have : p.1 = y := hpy
            rw [this] at e3
            exact hne (List.mem_map.mpr ⟨p, hp, nodup_ix hN e3 e1⟩)
          · exact e' (List.mem_of_getElem? e1)
        rcases r with rfl | ⟨rfl, rfl⟩
        · rcases hk' with rfl | rfl | rfl
          · exact absurd (.inl rfl) no
          · exact absurd (.inr rfl) no
          · exact ⟨e, .inr hk0⟩
        · exact ⟨e, .inl hk0⟩
      have e3 : Vis cenv.scope y := e3
      rcases e3 with e3 | e3 | e3
      · exact key _ e3 (.inl rfl)
      · exact key _ e3 (.inr (.inl rfl))
      · exact key _ e3 (.inr (.inr rfl))
    obtain ⟨m, hn, hl⟩ := I.loc
    have hvis : Vis X.env.scope y := (ok.free _ (PySem.mem_of_lookup hfr.1) rfl).elim (fun k => .inr (.inl k)) (fun k => .inr (.inr k))
    obtain ⟨w, r, q⟩ := hl i y av e1 e2 hvis
    refine ⟨w, r, .inr ⟨hfr.2, ?_⟩⟩
    obtain ⟨c, h1, h2⟩ := look hfr.1
    rcases q with ⟨k, _⟩ | ⟨_, c', e', z⟩
    · have k : X.env.scope.names.lookup y = some .local := k
      rcases ok.free _ (PySem.mem_of_lookup hfr.1) rfl with k' | k' <;> rw [show X.env.scope.names.lookup y = _ from k'] at k <;> cases k
    · rw [h2] at e'; cases e'
      exact ⟨c, h1, z.keeps kp⟩
  · have e : cenv.cells.lookup y = some c := e
    rcases mem e with ⟨h1, _⟩ | ⟨_, z⟩
    · obtain ⟨w, z⟩ := I.cell y c h1
      exact ⟨w, z.keeps kp⟩
    · exact ⟨_, z⟩
  · show H cenv.locals = none
    rw [hL]; exact I.hok.fresh (Nat.le_refl _)
  · have e : cenv.cells.lookup y = some c := e
    rcases mem e with ⟨h1, _⟩ | ⟨h1, _⟩
    · exact I.freeC y c h1
    · exact I.hok.fresh (Nat.le_of_succ_le h1)
  · exact absurd (show p ∈ ([] : List (Addr × Obj)) ++ [] from hp) (by simp)

theorem app_ok {E : Value → Shared → Prop} {D : Addr} {xs : List V} {y : V} {v : Value} {Q : Value → Shared → Prop} (I : Inv X pins σ H s) (hD : H D = some (.lst xs)) (hz : xs.length < sizeLine) (r : RelV y v)
    (h : ∀ s', Inv X pins σ (upd H D (.lst (xs ++ [y]))) s' → Q .none s') : wpAny (model X.prog X.w) X.A (call (.builtin "list.append") [.ref D, v]) Q E s := by
  obtain ⟨hz', its, n, ri, e⟩ := I.hok D _ hD
  have hl := ri.length
  refine append_at (hsz := by rw [List.size_toArray]; omega) e fun h' sb ho' => ?_
  refine h { s with heap := h' } (I.write (t' := s.toks) (by rw [hD]; trivial) (.inl rfl) (fun b u hb q => (sb.2 b hb).trans q) ⟨_, ho'⟩ ⟨by rw [List.length_append]; exact hz, its ++ [v], n + 1, ri.append (.cons r .nil), ?_⟩)
  rw [ho']
  simp

def PTs (X : Cx) (ifs : List Expr) (t : TT) : Prop :=
  ∀ (pins : List (Addr × Obj)) (s : Shared) (σ : St) (H : Hp) (Q : Bool → Hp → Prop), Inv X pins σ H s → t σ H Q →
    wpAny (model X.prog X.w) X.A (forIn ifs true fun c r => if r = true then do let ok ← isTrue c X.env (eval c X.env); pure (ForInStep.yield ok) else pure (ForInStep.yield r)) (TP X pins σ Q) X.xe s
theorem pts_one {c : Expr} {t : TT} (h : PT X c t) : PTs X [c] t := fun pins s σ H Q I hw => wpAny_tests_one (h pins s σ H Q I hw)
end

theorem thnF {α : Type} {t : Sem α} {Q Q' : α → Shared → Prop} {M : Model} {A : Around} {E : Value → Shared → Prop} {s : Shared} (h : wpAny M A t Q (fun _ _ => False) s) (hQ : ∀ a s, Q a s → Q' a s) : wpAny M A t Q' E s := wpAny_mono h hQ fun _ _ z => False.elim z

theorem compLoop_any {prog : Program} {w : World} {A : Around} {R : Result → Shared → Prop} {s : Shared} {elt target iter : Expr} {ifs : List Expr} {scope : Scope} {pos : Pos} {it acc : Value} {env : Env} (I : Nat → Shared → Prop)
    (turn : ∀ n s, I n s → wpAny (model prog w) A (pyNext it) (fun r s₁ => match r with
      | none => R (.ok .next) s₁
      | some v => wpAny (model prog w) A (letOwnedTupleGo target it v) (fun _ s₁' => wpAny (model prog w) A (assign target env v) (fun _ s₂ =>
          wpAny (model prog w) A (forIn ifs true fun c r => if r = true then do let ok ← isTrue c env (eval c env); pure (ForInStep.yield ok) else pure (ForInStep.yield r)) (fun ok s₃ =>
            if ok = true then wpAny (model prog w) A (eval elt env) (fun x s₄ =>
              wpAny (model prog w) A (call (.builtin "list.append") [acc, x]) (fun _ s₅ => ∃ m, m < n ∧ I m s₅) (notedBy (model prog w) A env fun e s' => R (.error e) s') s₄) (notedBy (model prog w) A env fun e s' => R (.error e) s') s₃
            else ∃ m, m < n ∧ I m s₃) (notedBy (model prog w) A env fun e s' => R (.error e) s') s₂) (notedBy (model prog w) A env fun e s' => R (.error e) s') s₁') (notedBy (model prog w) A env fun e s' => R (.error e) s') s₁) (notedBy (model prog w) A env fun e s' => R (.error e) s') s)
    (n : Nat) (h : I n s) :
    codeAny (model prog w) A (.compLoop (.ListComp elt [⟨target, iter, ifs, 0⟩] scope pos) 0 it acc env) R s := by
  refine codeAny_loop rfl I (fun n s hI => ?_) n h
  show wpAny _ A ((compTurn (.ListComp elt [⟨target, iter, ifs, 0⟩] scope pos) 0 it acc env).onRaise (fun x => do noteFrame x env; theTreesLotGoes x)) _ _ s
  refine wpAny_noted ?_
  rw [compTurn_list]
  refine wpAny_bind (wpAny_standAt (wpAny_bind (wpAny_mono (turn n s hI) (fun r s₁ h₁ => ?_) fun _ _ h' => h')))
  cases r with
  | none => exact wpAny_pure h₁
  | some v =>
    refine wpAny_bind (wpAny_mono h₁ (fun _ s₁' h₁' => ?_) fun _ _ h' => h')
    refine wpAny_bind (wpAny_mono h₁' (fun _ s₂ h₂ => wpAny_bind (wpAny_mono h₂ (fun ok s₃ h₃ => ?_) fun _ _ h' => h')) fun _ _ h' => h')
    cases ok with
    | false => exact wpAny_pure ⟨rfl, h₃⟩
    | true =>
      exact wpAny_bind (wpAny_bind (wpAny_mono h₃ (fun x s₄ h₄ => wpAny_bind (wpAny_mono h₄ (fun _ s₅ h₅ => wpAny_pure (wpAny_pure ⟨rfl, h₅⟩)) fun _ _ h' => h')) fun _ _ h' => h'))

section
variable {X : Cx}
def tLc (wi : TI) (g : TG) (tt : TT) (te : TE) (vs : List Nat) : TE := fun σ H Q => wi σ H fun J H1 => ∀ D, H1 D = none → ∃ W : Nat → Nat → Hp → Prop, (∃ m, W 0 m (upd H1 D (.lst []))) ∧ ∀ i m H, W i m H →
  (J.stop i H ∧ Q (.ref D) H) ∨ (J.go i H ∧ ∃ Nx : Hp → Prop, (∀ H', Nx H' → ∃ m', m' < m ∧ W (i + 1) m' H') ∧ ∀ x H', J.yld i H x H' → g x (wipe σ vs) H' fun σ2 H2 => wipe σ2 vs = wipe σ vs ∧ tt σ2 H2 fun b H3 =>
    if b = true then te σ2 H3 fun y H4 => ∃ acc, H4 D = some (.lst acc) ∧ acc.length < sizeLine ∧ Nx (upd H4 D (.lst (acc ++ [y]))) else Nx H3)
theorem lc_core {pins : List (Addr × Obj)} {s : Shared} {σ : St} {H : Hp} {Q : VK} {elt tg iter : Expr} {ifs : List Expr} {scope : Scope} {own : List (Str × Nat)} {pos pos' : Pos} {wi : TI} {g : TG} {tt : TT} {te : TE} {use : Option (Value → Sem Unit)} {Qf : Value → Shared → Prop}
    (hc : X.calm = true) (hN : X.N.Nodup) (I : Inv X pins σ H s) (hi : PI X tg iter wi) (ok : BlkOk X.N X.env.scope scope own)
    (hg : ∀ (s : Shared) (H : Hp) (C : Addr) (cl : List (Str × Addr)) (fp : List Addr), PG (X.blk s H scope (compEnvC scope cl C X.env) fp) tg g) (ht : ∀ (s : Shared) (H : Hp) (C : Addr) (cl : List (Str × Addr)) (fp : List Addr), PTs (X.blk s H scope (compEnvC scope cl C X.env) fp) ifs tt)
    (he : ∀ (s : Shared) (H : Hp) (C : Addr) (cl : List (Str × Addr)) (fp : List Addr), PE (X.blk s H scope (compEnvC scope cl C X.env) fp) elt te) (hs : ∀ x, foldedSetIterable iter X.env x = pure x)
    (h : tLc wi g tt te (own.map (·.2)) σ H Q)
    (hRR : ∀ D C s' m H', Inv X pins σ H' s' → Q (.ref D) H' → s'.heap.Ns C m → FpOk X pins H' C → compPost (model X.prog X.w) X.A X.xe use Qf (.ref D) C (.ok .next) s') :
    wpAny (model X.prog X.w) X.A (comprehension (.ListComp elt [⟨tg, iter, ifs, 0⟩] scope pos) scope X.env pos' (newList []) false (eval iter X.env) use) Qf X.xe s := by
  have hfree : ∀ y ∈ scope.names, y.2 = .free → ∃ c, X.env.cells.lookup y.1 = some c := fun y hy e => by
    rcases ok.free y hy e with k | k
    · exact I.ok.has _ (.inl k)
    · exact I.ok.has _ (.inr k)
  refine wpAny_comprehension_free (use := use) rfl hs (closure_ok hfree) ok.kind (fun y hy e => by rw [ok.uniq y hy, e])
    (thn (hi pins s σ H _ I h) fun xv s1 hx => thn hx fun itv s2 h2 => ?_)
  obtain ⟨it, fp, tn, J, H2, e, I2, T, st2, f2, q⟩ := h2
  subst e
  refine wpAny_newObj_type (newEnv_comp ?_) (by show 0 ≤ sizeLine; decide)
  generalize hD : s2.heap.objs.size = D
  have hDn : H2 D = none := I2.hok.fresh (Nat.le_of_eq hD)
  obtain ⟨W, ⟨m0, w0⟩, turn⟩ := q D hDn
  -- the new list
  generalize hs3 : ({ s2 with heap := s2.heap.push { cls := .type "list", data := .seq ([] : List Value).toArray } } : Shared) = s3
  have I3 : Inv X pins σ (upd H2 D (.lst [])) s3 := by
    rw [← hs3]
    refine I2.laid (t' := s2.toks) (fun b o e => Heap.get?_push_of_some _ e) (Nat.le_of_eq hD) ⟨Nat.zero_le _, [], 0, .nil, ?_⟩
    rw [← hD]
    exact Heap.get?_push_size _ rfl
  have h3 : s3.heap = s2.heap.push { cls := .type "list", data := .seq ([] : List Value).toArray } := by rw [← hs3]
  have sz : ∀ b ∈ fp, b < s2.heap.objs.size := fun b hb => by
    obtain ⟨o, e, _⟩ := T.obj _ _ st2 b hb
    exact Heap.lt_size e
  have f3 : ∀ b ∈ fp, FpOk X pins (upd H2 D (.lst [])) b ∧ b < s3.heap.objs.size := fun b hb => by
    have hlt := sz b hb
    refine ⟨⟨?_, (f2 b hb).2⟩, by rw [h3, Heap.size_push]; exact Nat.lt_succ_of_lt hlt⟩
    rw [upd_ne (by rw [← hD]; exact Nat.ne_of_lt hlt)]
    exact (f2 b hb).1
  have st3 : tn 0 s3.heap := T.keep _ _ _ st2 fun b _ o e => by rw [h3]; exact Heap.get?_push_of_some _ e
  have I4 := block_start I3 ok hN f3
  have pg := hg s3 (upd H2 D (.lst [])) s3.heap.objs.size (cellsFrom (s3.heap.objs.size + 1) scope.names (cloFrom X.env.cells scope.names [])) fp
  have pt := ht s3 (upd H2 D (.lst [])) s3.heap.objs.size (cellsFrom (s3.heap.objs.size + 1) scope.names (cloFrom X.env.cells scope.names [])) fp
  have pe := he s3 (upd H2 D (.lst [])) s3.heap.objs.size (cellsFrom (s3.heap.objs.size + 1) scope.names (cloFrom X.env.cells scope.names [])) fp
  show codeAny _ _ (.compStart (.ListComp elt [⟨tg, iter, ifs, 0⟩] scope pos) 0 (.ref it) (.ref D) (compEnvC scope (cellsFrom (s3.heap.objs.size + 1) scope.names (cloFrom X.env.cells scope.names [])) s3.heap.objs.size X.env)) (compPost (model X.prog X.w) X.A X.xe use Qf (.ref D) s3.heap.objs.size) { s3 with heap := pushCells (s3.heap.push { cls := .type "dict", data := .dict #[] }) scope.names }
  have nfp : ∀ b ∈ fp, (upd H2 D (.lst [])) b = none := fun b hb => (f3 b hb).1.1
  generalize hce : compEnvC scope (cellsFrom (s3.heap.objs.size + 1) scope.names (cloFrom X.env.cells scope.names [])) s3.heap.objs.size X.env = ce at I4 pg pt pe ⊢
  have cL : ce.locals = s3.heap.objs.size := by subst hce; rfl
  generalize hH3 : upd H2 D (.lst []) = H3 at I3 I4 pg pt pe w0 nfp f3
  generalize hs4 : ({ s3 with heap := pushCells (s3.heap.push { cls := .type "dict", data := .dict #[] }) scope.names } : Shared) = s4 at I4 ⊢
  have st4 : tn 0 s4.heap := T.keep _ _ _ st3 fun b _ o e => by rw [← hs4]; exact pushCells_keeps _ _ _ _ (Heap.get?_push_of_some _ e)
  have stat : ∀ {σ' : St} {H' : Hp} {s' : Shared}, Inv (X.blk s3 H3 scope ce fp) [] σ' H' s' → (∀ b ∈ fp, H' b = none) → ∀ b ∈ fp, FpOk (X.blk s3 H3 scope ce fp) [] H' b := fun {σ' H' s'} I' hn b hb =>
    ⟨hn b hb, (I'.ok.exf b hb).1, I'.ok.exfs b hb, .inl hb, fun x c e => (I'.ok.exf b hb).2 x c e, fun p hp => absurd (show p ∈ ([] : List (Addr × Obj)) ++ [] from hp) (by simp)⟩
  have loop : codeAny (model X.prog X.w) X.A (.compLoop (.ListComp elt [⟨tg, iter, ifs, 0⟩] scope pos) 0 (.ref it) (.ref D) ce) (compPost (model X.prog X.w) X.A X.xe use Qf (.ref D) s3.heap.objs.size) s4 := by
    refine compLoop_any (fun n s' => ∃ i H', Inv (X.blk s3 H3 scope ce fp) [] (wipe σ (own.map (·.2))) H' s' ∧ tn i s'.heap ∧ (∀ b ∈ fp, H' b = none) ∧ W i n H') ?_ m0 ⟨0, H3, I4, st4, nfp, w0⟩
    rintro n s5 ⟨i, H5, I5, st5, n5, w5⟩
    rcases turn i n H5 w5 with ⟨stop, qq⟩ | ⟨go, Nx, hNx, step⟩
    · have td := T.done (X.blk s3 H3 scope ce fp) rfl rfl rfl hc i [] s5 _ H5 (fun _ _ => False) I5 (stat I5 n5) st5 stop
      refine thnF td fun r s6 ⟨hr, I6⟩ => ?_
      subst hr
      -- back in the def's context
      have I7 : Inv X pins σ H5 s6 := I3.call' (ch := fp) I6.os I6.base I6.hok I6.bare fun b hb => ⟨(f3 b hb).1.2.2.2.1, (f3 b hb).1.2.1, (f3 b hb).1.2.2.2.2.1, (f3 b hb).1.2.2.2.2.2⟩
      have nC : H5 s3.heap.objs.size = none := by
        have z : H5 ce.locals = none := I6.free
        rw [cL] at z
        exact z
      obtain ⟨m, hn, _⟩ := I6.loc
      have hn : s6.heap.Ns ce.locals m := hn
      rw [cL] at hn
      exact hRR D s3.heap.objs.size s6 m H5 I7 qq hn (I3.fpOk (Nat.le_refl _) nC)
    · have ti := T.item (X.blk s3 H3 scope ce fp) rfl rfl rfl hc i [] s5 _ H5 (fun _ _ => False) I5 (stat I5 n5) st5 go
      refine thnF ti fun r s6 ⟨u, hr, h6⟩ => ?_
      subst hr
      refine thnF h6 fun _ s7 ⟨x, H7, I7, r7, y7, st7, n7⟩ => ?_
      have I7' := I7.pinned (stat I7 n7) (T.obj _ _ st7)
      refine thnF (pg _ s7 _ H7 x u _ I7' r7 (step x H7 y7)) fun _ s8 ⟨σ8, H8, I8, hw8, q8⟩ => ?_
      refine thnF (pt _ s8 σ8 H8 _ I8 q8) fun b s9 ⟨H9, I9, q9⟩ => ?_
      -- the turn's end
      have fin : ∀ {s' : Shared} {H' : Hp}, Inv (X.blk s3 H3 scope ce fp) ([] ++ pinsAt fp s7.heap) σ8 H' s' → Nx H' → ∃ m, m < n ∧ ∃ i H', Inv (X.blk s3 H3 scope ce fp) [] (wipe σ (own.map (·.2))) H' s' ∧ tn i s'.heap ∧ (∀ b ∈ fp, H' b = none) ∧ W i m H' := fun {s' H'} I' nx => by
        obtain ⟨m', hm, w'⟩ := hNx H' nx
        have pin' : ∀ b ∈ fp, ∀ o, s7.heap.get? b = some o → s'.heap.get? b = some o ∧ H' b = none := fun b hb o e =>
          let z := I'.pin (b, o) (List.mem_append_right _ (List.mem_append_right _ (mem_pinsAt hb e)))
          ⟨z.1, z.2.1⟩
        have hl : (wipe σ (own.map (·.2))).length = σ8.length := by rw [← hw8, wipe_length]
        refine ⟨m', hm, i + 1, H', (I'.unpinned (pins := [])).weak hl (fun j v e => ?_), T.keep _ _ _ st7 fun b hb o e => (pin' b hb o e).1, fun b hb => ?_, w'⟩
        · rw [← hw8] at e
          exact (wipe_some e).1
        · obtain ⟨o, e, _⟩ := T.obj _ _ st7 b hb
          exact (pin' b hb o e).2
      cases b with
      | false =>
        simp only [Bool.false_eq_true, if_false] at q9 ⊢
        exact fin I9 q9
      | true =>
        simp only [if_true] at q9 ⊢
        refine thnF (pe _ s9 σ8 H9 _ I9 q9) fun z s10 ⟨yv, H10, I10, r10, acc, hD10, hz10, nx⟩ => ?_
        exact app_ok (X := X.blk s3 H3 scope ce fp) I10 hD10 hz10 r10 fun s11 I11 => fin I11 nx
  exact codeAny_compStart_list loop (T.self X.A 0 _ _ _ st4 loop)
theorem pe_lc {elt tg iter : Expr} {ifs : List Expr} {scope : Scope} {own : List (Str × Nat)} {pos : Pos} {wi : TI} {g : TG} {tt : TT} {te : TE} (hc : X.calm = true) (hN : X.N.Nodup) (hi : PI X tg iter wi) (ok : BlkOk X.N X.env.scope scope own)
    (hg : ∀ (s : Shared) (H : Hp) (C : Addr) (cl : List (Str × Addr)) (fp : List Addr), PG (X.blk s H scope (compEnvC scope cl C X.env) fp) tg g) (ht : ∀ (s : Shared) (H : Hp) (C : Addr) (cl : List (Str × Addr)) (fp : List Addr), PTs (X.blk s H scope (compEnvC scope cl C X.env) fp) ifs tt)
    (he : ∀ (s : Shared) (H : Hp) (C : Addr) (cl : List (Str × Addr)) (fp : List Addr), PE (X.blk s H scope (compEnvC scope cl C X.env) fp) elt te) (hs : ∀ x, foldedSetIterable iter X.env x = pure x := by intro _; rfl) :
    PE X (.ListComp elt [⟨tg, iter, ifs, 0⟩] scope pos) (tLc wi g tt te (own.map (·.2))) := by
  intro pins s σ H Q I h
  rw [eval_ListComp]
  refine lc_core hc hN I hi ok hg ht he hs h fun D C s' m H' I' q hn f => ⟨m, hn, fun h'' sb => ?_⟩
  obtain ⟨f0, f1, f2, f3, f4, f5⟩ := f
  exact ⟨.ref D, H', I'.turned (t' := s'.toks) (fun b o hb e => (sb.2 b hb).trans e) f0 f1 f3 f4 f5, rfl, q⟩
end

end L2

namespace L2
open PySem PySem.Spec PyProof.Rows

section
variable {prog : Program} {w : World} {A : Around} {R : Result → Shared → Prop} {s : Shared} {elt t0 i0 t1 i1 : Expr} {ifs0 ifs1 : List Expr} {scope : Scope} {pos : Pos} {it acc : Value} {env : Env}
end

section
variable {X : Cx}
end
end L2

namespace L2
open PySem PySem.Spec PyProof.Rows

section
variable {κ : Type} [DecidableEq κ]
end


section
variable {P : Program} {w : World} {H : Hp} {h : Heap} {a : Addr}
end

section
variable {X : Cx} {pins : List (Addr × Obj)} {σ : St} {H : Hp} {s : Shared} {a : Addr} {y v : V} {u r : Value} {o : Option V} {A : Around} {E : Value → Shared → Prop}

end

section
variable {X : Cx} {pins : List (Addr × Obj)} {σ : St} {H : Hp} {s : Shared} {a : Addr} {kvs : List (Key × V)} {k : Key} {u : Value} {A : Around} {E : Value → Shared → Prop}
end


section
variable {X : Cx} {o i e value : Expr} {pos pos' tpos : Pos} {td ty tv : TE}
end


section
variable {X : Cx} {pos : Pos}
end

structure M1 (X : Cx) (o : Expr) (m : Str) (apos : Pos) (e : Expr) (cpos : Pos) : Prop where
  base : attributeBase o m X.env (eval o X.env) = eval o X.env
  few : ((backTo cpos (starEach [e] X.env)).all (fun x => !x.1) && (backToKw cpos (keywordEach [] X.env)).all (fun x => x.1.isSome)
    && decide (([e] : List Expr).length + ([] : List Keyword).length + (if ([] : List Keyword).isEmpty then 0 else 1) < 30)) = true
  line : (apos.endLine == cpos.line) = true
  trees : backTo cpos (starEach [e] X.env) = [(false, eval e X.env)]
structure M2 (X : Cx) (o : Expr) (m : Str) (apos : Pos) (e f : Expr) (cpos : Pos) : Prop where
  base : attributeBase o m X.env (eval o X.env) = eval o X.env
  few : ((backTo cpos (starEach [e, f] X.env)).all (fun x => !x.1) && (backToKw cpos (keywordEach [] X.env)).all (fun x => x.1.isSome)
    && decide (([e, f] : List Expr).length + ([] : List Keyword).length + (if ([] : List Keyword).isEmpty then 0 else 1) < 30)) = true
  line : (apos.endLine == cpos.line) = true
  trees : backTo cpos (starEach [e, f] X.env) = [(false, eval e X.env), (false, eval f X.env)]

section
variable {X : Cx} {pins : List (Addr × Obj)} {σ : St} {H : Hp} {s : Shared} {a : Addr} {y d : V} {u r : Value} {o : Option V} {A : Around} {E : Value → Shared → Prop}
end

section
variable {X : Cx} {o e f : Expr} {apos cpos : Pos} {td ty tx : TE}
end

section
variable {X : Cx} {pins : List (Addr × Obj)} {σ : St} {H : Hp} {s : Shared} {a : Addr} {kvs : List (Key × V)} {A : Around} {E : Value → Shared → Prop}
end


section
variable {X : Cx} {pins : List (Addr × Obj)} {σ : St} {H : Hp} {s : Shared} {a : Addr} {y : V} {u : Value} {A : Around} {E : Value → Shared → Prop}
end
end L2

namespace L2
open PySem PySem.Spec PyProof.Rows

section
variable {prog : Program} {w : World} {A : Around} {E : Value → Shared → Prop}
end

section
variable {X : Cx}
end
end L2

namespace L2
open PySem PySem.Spec PyProof.Rows

section
variable {X : Cx} {pins : List (Addr × Obj)} {σ : St} {H : Hp} {s : Shared} {h' : Heap}
end
section
variable {X : Cx}
theorem pi_one {tg : Expr} {pins : List (Addr × Obj)} {σ : St} {H : Hp} {s : Shared} {R : It → Hp → Prop} {J : It} {tn : Nat → Heap → Prop} {tk : Nat} (I : Inv X pins σ H s) (o : Obj)
    (T : Turn X.prog X.w X.K tg J [s.heap.objs.size] s.heap.objs.size tn) (st : tn 0 (s.heap.push o)) (q : R J H) : PIE X pins σ tg R (.ref s.heap.objs.size) { s with heap := s.heap.push o, toks := tk } := by
  refine ⟨s.heap.objs.size, [s.heap.objs.size], tn, J, H, rfl, I.kept fun b ob e => Heap.get?_push_of_some _ e, T, st, fun b hb => ?_, q⟩
  have e : b = s.heap.objs.size := by simpa using hb
  subst e
  exact I.fpOk (Nat.le_refl _) (I.hok.fresh (Nat.le_refl _))
end

section
variable {X : Cx} {tg : Expr}
end
section
variable {X : Cx} {tg : Expr}
end

section
variable {prog : Program} {w : World} {A : Around} {E : Value → Shared → Prop} {s : Shared}
theorem iter_keys {d : Addr} {o : Obj} {es : Array DictEntry} {ep : Nat} {Q : Value → Shared → Prop} (hd : (d == sysModules) = false) (ho : s.heap.get? d = some o) (hc : o.ExactDict) (hdat : o.data = .dict es ep)
    (hQ : Q (.ref s.heap.objs.size) { s with heap := s.heap.push { cls := .type "dict_keyiterator", data := .fields #[.ref d, .int 0 0, .int es.size 0, .int ep 0] } }) :
    wpAny (model prog w) A (pyIter (.ref d)) Q E s := by
  have hT : s.TypeIs (.ref d) "dict" := ⟨o, ho, hc.1⟩
  refine wpAny_pyIter_slot hT F.slot_dict_iter (wpAny_call_entry F.slot_dict_iter hT F.entry_dict_iter ?_ (F.args_dict_iter_1 _))
  unfold Builtin.«dict.__iter__»
  refine wpAny_bind ?_
  unfold Builtin.Dict.dictSlotNone
  refine wpAny_bind (wpAny_notOrdered_dict hT ?_)
  show wpAny _ _ (pure (Value.ref d)) _ _ s
  refine wpAny_pure ?_
  show wpAny _ _ (Builtin.Dict.showsAll d >>= _) _ _ s
  unfold Builtin.Dict.showsAll
  rw [if_neg (by rw [hd]; exact Bool.false_ne_true)]
  refine wpAny_bind (wpAny_pure ?_)
  refine wpAny_bind (wpAny_dictEntries ho hdat ?_)
  refine wpAny_bind (wpAny_dictEpoch ho hdat ?_)
  refine wpAny_bind (wpAny_newObj_type (wpAny_pure ⟨_, rfl, "dict_keyiterator", _, ⟨_, Heap.get?_push_size _ rfl, rfl⟩, F.slot_dict_keyiterator_next.lookup, ?_⟩))
  simpa [rawInt] using hQ
theorem next_key_item {it d : Addr} {i n ep : Nat} {od : Obj} {es : Array DictEntry} {en : DictEntry} {Q : Option Value → Shared → Prop} (hit : s.heap.IsKeyIter it d i n ep) (hod : s.heap.get? d = some od) (hdd : od.data = .dict es ep)
    (hsz : es.size = n) (hx : es[i]? = some en) (hQ : ∀ h', h'.IsKeyIter it d (i + 1) n ep → Heap.SameBut it s.heap h' → Q (some en.key) { s with heap := h' }) : wpAny (model prog w) A (pyNext (.ref it)) Q E s := by
  obtain ⟨o, ho, hc, hd⟩ := id hit
  unfold pyNext
  refine wpAny_bind (wpAny_attempt (wpAny_callSpecial?_slot (name := Str.ofString "__next__") hit.typeIs F.slot_dict_keyiterator_next
    (wpAny_call_entry F.slot_dict_keyiterator_next hit.typeIs F.entry_dict_keyiterator_next ?_ (F.args_dict_keyiterator_next_1 _))))
  refine wpAny_bind (wpAny_pure ?_)
  refine wpAny_bind ?_
  refine wpAny_bind ?_
  first | refine wpAny_bind (wpAny_typeNameOfWhole_keyiter hit.typeIs (wpAny_pure ?_)) | refine wpAny_bind (wpAny_typeNameOf_keyiter hit.typeIs (wpAny_pure ?_))
  refine wpAny_bind (wpAny_fieldsOf ho hd ?_)
  have hown : Builtin.Dict_items.ownsTuple "dict_keyiterator" = false := by decide
  simp only [hown, Bool.false_eq_true, if_false]
  show wpAny _ _ (if (Value.ref d == Value.none) = true then _ else _) _ _ s
  rw [if_neg (show ¬ ((Value.ref d == Value.none) = true) from Bool.false_ne_true)]
  refine wpAny_bind (wpAny_pure ?_)
  refine wpAny_bind (wpAny_dictEntries hod hdd ?_)
  rw [if_neg (by rw [hsz]; simp)]
  refine wpAny_bind (wpAny_pure ?_)
  refine wpAny_bind (wpAny_dictEpoch hod hdd ?_)
  rw [if_neg (by simp)]
  refine wpAny_pure ?_
  obtain ⟨hlt', hen⟩ := Array.getElem?_eq_some_iff.mp hx
  simp only [show ¬ ((i : Int) < 0) from by omega, if_false, Int.toNat_natCast, Array.getElem?_eq_getElem hlt']
  refine wpAny_bind ?_
  first | refine wpAny_bind (wpAny_typeNameOfWhole_keyiter hit.typeIs (wpAny_pure ?_)) | refine wpAny_bind (wpAny_typeNameOf_keyiter hit.typeIs (wpAny_pure ?_))
  refine wpAny_bind (wpAny_isOneOf_keyiter hit.typeIs ?_)
  show wpAny _ _ (setField (.ref it) 1 (rawInt ((i : Int) + 1)) >>= _) _ _ s
  refine wpAny_bind (wpAny_setField ho hd (by simp) ?_)
  have hit' : (s.heap.update it (Obj.mapFields (·.setIfInBounds 1 (rawInt ((i : Int) + 1))))).IsKeyIter it d (i + 1) n ep :=
    ⟨_, Heap.get?_update_self _ ho (Obj.isFreed_of_fields (Obj.data_mapFields hd _)), (Obj.cls_mapFields ..).trans hc, by rw [Obj.data_mapFields hd]; simp [rawInt]⟩
  refine wpAny_bind (wpAny_holding ?_)
  refine wpAny_bind (wpAny_isOneOf_keyiter (s := { s with heap := s.heap.update it (Obj.mapFields (·.setIfInBounds 1 (rawInt ((i : Int) + 1)))) }) hit'.typeIs ?_)
  show wpAny _ _ (pure es[i].key) _ _ _
  rw [hen]
  exact wpAny_pure (wpAny_pure ⟨_, rfl, wpAny_pure (hQ _ hit' (Heap.SameBut.update ..))⟩)
theorem next_key_end {it d : Addr} {i n ep : Nat} {od : Obj} {es : Array DictEntry} {Q : Option Value → Shared → Prop} (hh : A.handled = none) (hit : s.heap.IsKeyIter it d i n ep) (hod : s.heap.get? d = some od) (hdd : od.data = .dict es ep)
    (hsz : es.size = n) (hge : n ≤ i) (hQ : ∀ h', Heap.ExtBut it s.heap h' → Q none { s with heap := h' }) : wpAny (model prog w) A (pyNext (.ref it)) Q E s := by
  obtain ⟨o, ho, hc, hd⟩ := id hit
  unfold pyNext
  refine wpAny_bind (wpAny_attempt (wpAny_callSpecial?_slot (name := Str.ofString "__next__") hit.typeIs F.slot_dict_keyiterator_next
    (wpAny_call_entry F.slot_dict_keyiterator_next hit.typeIs F.entry_dict_keyiterator_next ?_ (F.args_dict_keyiterator_next_1 _))))
  refine wpAny_bind (wpAny_pure ?_)
  refine wpAny_bind ?_
  refine wpAny_bind ?_
  first | refine wpAny_bind (wpAny_typeNameOfWhole_keyiter hit.typeIs (wpAny_pure ?_)) | refine wpAny_bind (wpAny_typeNameOf_keyiter hit.typeIs (wpAny_pure ?_))
  refine wpAny_bind (wpAny_fieldsOf ho hd ?_)
  have hown : Builtin.Dict_items.ownsTuple "dict_keyiterator" = false := by decide
  simp only [hown, Bool.false_eq_true, if_false]
  show wpAny _ _ (if (Value.ref d == Value.none) = true then _ else _) _ _ s
  rw [if_neg (show ¬ ((Value.ref d == Value.none) = true) from Bool.false_ne_true)]
  refine wpAny_bind (wpAny_pure ?_)
  refine wpAny_bind (wpAny_dictEntries hod hdd ?_)
  rw [if_neg (by rw [hsz]; simp)]
  refine wpAny_bind (wpAny_pure ?_)
  refine wpAny_bind (wpAny_dictEpoch hod hdd ?_)
  rw [if_neg (by simp)]
  refine wpAny_pure ?_
  have hge' : es.size ≤ i := by rw [hsz]; exact hge
  simp only [show ¬ ((i : Int) < 0) from by omega, if_false, Int.toNat_natCast, Array.getElem?_eq_none hge']
  refine wpAny_bind ?_
  first | refine wpAny_bind (wpAny_typeNameOfWhole_keyiter hit.typeIs (wpAny_pure ?_)) | refine wpAny_bind (wpAny_typeNameOf_keyiter hit.typeIs (wpAny_pure ?_))
  show wpAny _ _ (setField (.ref it) 0 .none >>= _) _ _ s
  refine wpAny_bind (wpAny_setField ho hd (by simp) ?_)
  show wpAny _ _ (newExc (.type "StopIteration") [] >>= _) _ _ _
  refine wpAny_bind ?_
  simp only [newExc, newTuple]
  refine wpAny_bind (wpAny_newObj_type ?_ (by size_fits))
  refine wpAny_bind (m := firstArgMember _ _) (wpAny_of_eq (a := Value.none) (by first | rfl | (simp only [firstArgMember]; rfl)) ?_)
  refine wpAny_newObj_type ?_ (by size_fits)
  simp only [raiseNew]
  refine wpAny_bind (wpAny_handled ?_)
  rw [show A.in1.handled = none from hh]
  refine wpAny_bind (wpAny_pure (wpAny_throw ?_))
  refine wpAny_bind (wpAny_isInstance (T := "StopIteration") (b := true) ⟨_, Heap.get?_push_size _ rfl, rfl⟩ isSubtype_stop ?_)
  exact wpAny_pure (hQ _ (((Heap.SameBut.update ..).extBut.push _).push _))
end

section
variable {X : Cx} {pins : List (Addr × Obj)} {σ : St} {H : Hp} {s : Shared} {d : Addr} {o : Obj}
end

section
variable {P : Program} {w : World} {K : PySem.W.Frag} {tg : Expr} {d : Addr} {o : Obj} {es : Array DictEntry} {ep : Nat}
end

section
variable {X : Cx} {tg e : Expr} {td : TE} {apos cpos : Pos}
end

end L2

section 
namespace Bits
open PySem PyProof.Rows

end Bits
end 

section 
namespace TL
open PySem PySem.Builtin PySem.Builtin.Str PySem.StrLaws

end TL
end 

namespace L2
open PySem PySem.Spec PyProof.Rows

section
variable {X : Cx} {pins : List (Addr × Obj)} {σ : St} {H : Hp} {s : Shared} {Q : VK}
end

section
variable {X : Cx}

end

section
variable {X : Cx} {o e : Expr} {to te : TE}
end
end L2

namespace L2
open PySem PySem.Spec PyProof.Rows

section
variable {X : Cx}
end

end L2

namespace Att
open PySem PySem.W PySem.Calls PyProof.Rows

section
variable {prog : Program} {w : World} {A : Around} {E : Value → Shared → Prop} {s : Shared} {K : Frag}

end
end Att

namespace L2
open PySem PySem.Spec PyProof.Rows

end L2

namespace L2
open PySem PySem.Spec PyProof.Rows

end L2

/- THE LAST THEOREM (shape; LID, My.* are yours):
   My.Adr: a structure of the addresses that your layer names (classes, functions); My.Txt K t: a structure (Prop) of the equations over K;
   My.txt_mk : {K} {implicit addresses ..} (e1 : nsIn K mainGlobals "law" = some (some (.ref f))) (e2 : K.lookup f = some ⟨oc, od, .func (fnOf "law" "law" params body scope dV kV doc pm an cdv ct), sl⟩) (e3 : codeIn K cdv "law" = true) .. : ∃ t, My.Txt K t

set_option maxRecDepth 100000 in
set_option maxHeartbeats 0 in
theorem PySem.Challenge.cw_LID_holds : PySem.Challenge.rw_LID.Holds := by
  w_on; o_law; k_head; (case hw => w_witness2)
  k_fill
  refine L2.walk_of (l := PySem.Challenge.rw_LID) (n := 63) (k := 40) (x := "script") (CX := fun w => ..) (sp := fun _ => My.sp_law) rfl (by decide) rfl ⟨rfl, by decide, by decide⟩ (fun w h Y => PySem.W.kIn_of Y) ?F ?S ?C
  case F =>
    intro w mg fa h KX G hmg
    have T : ∃ t, My.Txt (L2.KOf KX) t := by
      dsimp only [L2.KOf]                          -- K must stand as «<heap const> w.params» for k_is
      refine' My.txt_mk ?e1 ?e2 ?e3 ..
      (case e1 => PySem.W.k_is)                    -- in the order: a name -> its address -> its object -> its parts
      (case e2 => PySem.W.k_is)
      ..
    obtain ⟨t, T⟩ := T
    have e0 := hmg.symm.trans (PySem.W.mg_of KX G T.law)
    cases e0                                       -- fa is the law's own address
    exact ⟨_, fun s u => .of_eq rfl, fun base kb nb => My.law_fn T kb nb⟩     -- if «.of_eq rfl» comes too early: refine' ⟨_, ?b, fun base kb nb => My.law_fn T kb nb⟩; exact fun s u => .of_eq rfl
  case S => exact fun w H a ns hl hO hS => ..
  case C => exact ..
(the tactic k_is has no namespace: write k_is) -/

namespace L2
open PySem PySem.Spec PyProof.Rows

def inClass (s : Stmt) (j : Nat) : Stmt := match s with
  | .ClassDef _ _ _ body _ _ _ _ _ _ _ => body.getD j (.Pass ⟨0, 0, 0, 0⟩)
  | _ => .Pass ⟨0, 0, 0, 0⟩
def defArgs (s : Stmt) : Arguments := match s with
  | .FunctionDef _ a _ _ _ _ _ _ _ _ => a
  | _ => { posonlyargs := [], args := [], vararg := none, kwonlyargs := [], kw_defaults := [], kwarg := none, defaults := [] }
def defBody (s : Stmt) : List Stmt := match s with
  | .FunctionDef _ _ b _ _ _ _ _ _ _ => b
  | _ => []
def defScope (s : Stmt) : Scope := match s with
  | .FunctionDef _ _ _ _ _ _ sc _ _ _ => sc
  | _ => { kind := .function, names := [], isGenerator := false, isCoroutine := false }

abbrev CX0 : CXT := fun _ _ _ _ _ _ => False
abbrev E0 : XK := fun _ _ _ => False
theorem pass0 {X : Cx} : Passes CX0 X E0 := fun _ _ _ _ _ _ _ h => h.elim

structure Fun (K : PySem.W.Frag) (x qual : Str) (st : Stmt) (f : Addr) (fd : FuncData) : Prop where
  ex : ∃ (oc : Value) (od : Option Addr) (kV doc pm : Value) (an : Option Addr) (cdv ct : Value) (osl : Array (Option Value)),
    fd = PySem.W.fnOf x qual (defArgs st) (defBody st) (defScope st) .none kV doc pm an cdv ct ∧ K.lookup f = some ⟨oc, od, .func fd, osl⟩ ∧ PySem.W.codeIn K cdv qual = true
  kp : PySem.W.keepIn K (.ref f) = true
section
variable {P : Program} {w : World} {K : PySem.W.Frag} {mg : Str → Option Value} {base : Heap}
theorem Fun.ok {x qual : Str} {st : Stmt} {f : Addr} {fd : FuncData} {N ps : List Str} {k : Nat} {sp : Sp} (F : Fun K x qual st f fd) (S : FnScope N ps (defScope st)) (len : ∀ vs H Q E, sp vs H Q E → vs.length = ps.length)
    (hbody : ∀ (cdv : Value) (A : Around) (outer : List Env) (s : Shared) (H : Hp) (vs : List V) (Q : VK) (E : XK), Room k (A.deeper (envOfC qual (defScope st) s.heap.objs.size f cdv)) → sp vs H Q E →
      ∃ t, PSs (cxOf CX0 P w K mg base N qual (defScope st) f cdv A outer s H E).nox (defBody st) t ∧ t { nx := fun _ H' => Q .non H', rt := Q } (start N vs) H) : FnOk P w K mg base CX0 (k + 1) f fd ps sp := by
  obtain ⟨oc, od, kV, doc, pm, an, cdv, ct, osl, rfl, lk, hcd⟩ := F.ex
  refine fn_of lk hcd S len fun A outer s H vs Q E hr hsp => ?_
  obtain ⟨t, h, q⟩ := hbody cdv A outer s H vs Q E hr hsp
  exact ⟨t, h.nox, q⟩
theorem Fun.binds {x qual : Str} {st : Stmt} {f : Addr} {fd : FuncData} {ps : List Str} (F : Fun K x qual st f fd)
    (h : ∀ (kV doc pm : Value) (an : Option Addr) (cdv ct : Value) (us : List Value), us.length = ps.length → bindArgs (PySem.W.fnOf x qual (defArgs st) (defBody st) (defScope st) .none kV doc pm an cdv ct) ⟨us, []⟩ = pure (ps.zip us)) : Binds K fd ps [] := by
  obtain ⟨oc, od, kV, doc, pm, an, cdv, ct, osl, rfl, lk, hcd⟩ := F.ex
  exact .all (h kV doc pm an cdv ct)
theorem fun_mk {x qual : Str} {st : Stmt} {f : Addr} {oc : Value} {od an : Option Addr} {osl : Array (Option Value)} {kV doc pm cdv ct : Value} (l : K.lookup f = some ⟨oc, od, .func (PySem.W.fnOf x qual (defArgs st) (defBody st) (defScope st) .none kV doc pm an cdv ct), osl⟩)
    (c : PySem.W.codeIn K cdv qual = true) (k : PySem.W.keepIn K (.ref f) = true) : Fun K x qual st f (PySem.W.fnOf x qual (defArgs st) (defBody st) (defScope st) .none kV doc pm an cdv ct) := ⟨⟨oc, od, kV, doc, pm, an, cdv, ct, osl, rfl, l, c⟩, k⟩
end
section
variable {X : Cx}
theorem pv (i : Nat) {x : Str} {pos : Pos} (hN : X.N[i]? = some x := by rfl) (hv : Vis X.env.scope x := by first | exact Or.inl rfl | exact Or.inr (Or.inl rfl) | exact Or.inr (Or.inr rfl)) (hd : (x == ("__debug__" : Str)) = false := by decide)
    (hcd : (x == ("__classdict__" : Str)) = false := by decide) : PE X (.Name x pos) (tVar i) := pe_var hN hv hd hcd
end

theorem iteF {A B : Prop} (h : B) : if false = true then A else B := by
  rw [if_neg Bool.false_ne_true]
  exact h
theorem iteT {A B : Prop} (h : A) : if true = true then A else B := by
  rw [if_pos rfl]
  exact h
theorem ite2 {c A B : Prop} [Decidable c] (h1 : c → A) (h2 : ¬ c → B) : if c then A else B := by
  by_cases h : c
  · rw [if_pos h]
    exact h1 h
  · rw [if_neg h]
    exact h2 h
section
variable {κ : Type} [DecidableEq κ]
end
theorem at_of {xs : List V} {z : Int} {j : Nat} {v : V} (e : z = (j : Int)) (h : xs[j]? = some v) : atI xs z = some v := by
  rw [e]
  exact atI_nat h
end L2
end
section
set_option Elab.async false
set_option linter.all false
set_option maxRecDepth 100000
set_option maxHeartbeats 2000000
namespace L2
open PySem PySem.Spec PyProof.Rows
open PySem.W (WData Codec OpenSpec Well WellAll ReadsW ReadsAllW)
mutual
inductive Dw (K : PySem.W.Frag) (H : Hp) : V → WData → Prop
  | non : Dw K H .non .none
  | bl (b : Bool) : Dw K H (.bl b) (.bool b)
  | int (i : Int) : Dw K H (.int i) (.int i)
  | str (x : Str) : Dw K H (.str x) (.str x)
  | byt (b : Array UInt8) : Dw K H (.byt b) (.bytes b.toList)
  | lst {a : Addr} {xs : List V} {ds : List WData} : SqL K H a xs → DwAll K H xs ds → Dw K H (.ref a) (.list ds)
  | tup {a : Addr} {xs : List V} {ds : List WData} : SqT K H a xs → DwAll K H xs ds → Dw K H (.ref a) (.tuple ds)
inductive DwAll (K : PySem.W.Frag) (H : Hp) : List V → List WData → Prop
  | nil : DwAll K H [] []
  | cons {v : V} {vs : List V} {d : WData} {ds : List WData} : Dw K H v d → DwAll K H vs ds → DwAll K H (v :: vs) (d :: ds)
end
theorem dw_ints {K : PySem.W.Frag} {H : Hp} : ∀ ns : List Int, DwAll K H (ns.map V.int) (ns.map WData.int)
  | [] => .nil
  | n :: r => .cons (.int n) (dw_ints r)
theorem ints_dw {K : PySem.W.Frag} {H : Hp} : ∀ (ns : List Int) (xs : List V), DwAll K H xs (ns.map WData.int) → xs = ns.map V.int
  | [], xs, h => by
    cases h
    rfl
  | n :: r, xs, h => by
    cases h with
    | cons h1 h2 =>
      cases h1
      rw [ints_dw r _ h2] <;> rfl
section
variable {P : Program} {w : World} {K : PySem.W.Frag} {H : Hp} {h : Heap} {R : PySem.W.WRecords} {cl : Str → Option Addr}
theorem sqL_at {a : Addr} {xs : List V} (hok : HOk P w H h) (KX : K.In h) (q : SqL K H a xs) : ∃ (its : List Value) (o : Obj) (n : Nat), Vals xs its ∧ h.get? a = some o ∧ o.cls = .type "list" ∧ o.data = .seq its.toArray n := by
  rcases q with q | ⟨o, its, n, e, hc, _, hd, _, hv⟩
  · obtain ⟨_, its, n, hv, e⟩ := (show ObjOk P w H h a (.lst xs) from q.ok hok)
    exact ⟨its, _, n, hv, e, rfl, rfl⟩
  · exact ⟨its.toList, o, n, hv, KX _ _ e, hc, by simp [hd]⟩
theorem sqT_at {a : Addr} {xs : List V} (hok : HOk P w H h) (KX : K.In h) (q : SqT K H a xs) : ∃ (its : List Value) (o : Obj) (n : Nat), Vals xs its ∧ h.get? a = some o ∧ o.cls = .type "tuple" ∧ o.data = .seq its.toArray n := by
  rcases q with q | ⟨o, its, n, e, hc, hd, _, hv⟩
  · obtain ⟨_, its, hv, o, e, hc, n, hd⟩ := (show ObjOk P w H h a (.tup xs) from q.ok hok)
    exact ⟨its, o, n, hv, e, hc, hd⟩
  · exact ⟨its.toList, o, n, hv, KX _ _ e, hc, by simp [hd]⟩
mutual
theorem Dw.reads (hok : HOk P w H h) (KX : K.In h) : ∀ (d : WData) (v : V) (u : Value), Dw K H v d → RelV v u → ∃ as, ReadsW R cl h u d as
  | .none, _, _, x, r => by
    cases x
    cases r
    exact ⟨_, ReadsW.none⟩
  | .bool b, _, _, x, r => by
    cases x
    cases r
    exact ⟨_, ReadsW.bool b⟩
  | .int i, _, _, x, r => by
    cases x
    obtain ⟨t, rfl⟩ := r
    exact ⟨_, ReadsW.int i t⟩
  | .str s, _, _, x, r => by
    cases x
    obtain ⟨t, rfl⟩ := r
    exact ⟨_, ReadsW.str s t⟩
  | .bytes b, _, _, x, r => by
    cases x
    obtain ⟨t, rfl⟩ := r
    exact ⟨_, ReadsW.bytes _ t⟩
  | .list ds, _, _, x, r => by
    cases x with
    | lst hs ha =>
      cases r
      obtain ⟨its, o, n, rv, ho, hc, hd⟩ := sqL_at hok KX hs
      obtain ⟨as, hr⟩ := Dw.readsAll hok KX ds _ its ha rv
      exact ⟨_, ReadsW.list ho hc hd hr⟩
  | .tuple ds, _, _, x, r => by
    cases x with
    | tup hs ha =>
      cases r
      obtain ⟨its, o, n, rv, ho, hc, hd⟩ := sqT_at hok KX hs
      obtain ⟨as, hr⟩ := Dw.readsAll hok KX ds _ its ha rv
      exact ⟨_, ReadsW.tuple ho hc hd hr⟩
  | .float _, _, _, x, _ => by cases x
  | .dict _, _, _, x, _ => by cases x
  | .bytearray _, _, _, x, _ => by cases x
  | .set _, _, _, x, _ => by cases x
  | .frozenset _, _, _, x, _ => by cases x
  | .obj _ _, _, _, x, _ => by cases x
theorem Dw.readsAll (hok : HOk P w H h) (KX : K.In h) : ∀ (ds : List WData) (vs : List V) (us : List Value), DwAll K H vs ds → Vals vs us → ∃ as, ReadsAllW R cl h us ds as
  | [], _, _, x, r => by
    cases x
    cases r
    exact ⟨_, ReadsAllW.nil⟩
  | d :: ds, _, _, x, r => by
    cases x with
    | cons h1 h2 =>
      cases r with
      | cons r1 r2 =>
        obtain ⟨as, q1⟩ := Dw.reads hok KX d _ _ h1 r1
        obtain ⟨bs, q2⟩ := Dw.readsAll hok KX ds _ _ h2 r2
        exact ⟨_, ReadsAllW.cons q1 q2⟩
end
end
mutual
def plW : WData → Bool
  | .none => true
  | .bool _ => true
  | .int _ => true
  | .str _ => true
  | .bytes _ => true
  | .list xs => plWs xs
  | .tuple xs => plWs xs
  | _ => false
def plWs : List WData → Bool
  | [] => true
  | x :: r => plW x && plWs r
end
theorem plWs_map {α : Type} {f : α → WData} (h : ∀ a, plW (f a) = true) : ∀ l : List α, plWs (l.map f) = true
  | [] => rfl
  | x :: r => by
    show (plW (f x) && plWs (r.map f)) = true
    rw [h x, plWs_map h r] <;> rfl
theorem pl_enc : ∀ (c : Codec) (a : c.denote), plW (c.enc a) = true
  | .unit, _ => rfl
  | .bool, _ => rfl
  | .int _ _, _ => rfl
  | .nat _ _, _ => rfl
  | .u8, _ => rfl
  | .bytes _ _, _ => rfl
  | .text _ _ _ _, _ => rfl
  | .list _ _ c, a => plWs_map (fun x => pl_enc c x) a
  | .pair c d, a => by
    show (plW (c.enc a.1) && (plW (d.enc a.2) && true)) = true
    rw [pl_enc c a.1, pl_enc d a.2] <;> rfl
  | .triple c d e, a => by
    show (plW (c.enc a.1) && (plW (d.enc a.2.1) && (plW (e.enc a.2.2) && true))) = true
    rw [pl_enc c a.1, pl_enc d a.2.1, pl_enc e a.2.2] <;> rfl
  | .option c, none => rfl
  | .option c, some x => pl_enc c x
theorem pl_encAll : ∀ (cs : List Codec) (a : Codec.denoteAll cs), plWs (Codec.encAll cs a) = true
  | [], _ => rfl
  | c :: cs, a => by
    show (plW (c.enc a.1) && plWs (Codec.encAll cs a.2)) = true
    rw [pl_enc c a.1, pl_encAll cs a.2] <;> rfl
theorem weight_mem : ∀ {xs : List WData} {d : WData}, d ∈ xs → d.weight ≤ WData.weightAll xs
  | [], d, h => absurd h (by simp)
  | x :: r, d, h => by
    show d.weight ≤ x.weight + 1 + WData.weightAll r
    rcases List.mem_cons.mp h with e | m
    · rw [e]
      omega
    · have z := weight_mem m
      omega
def toV : Value → V
  | .none => .non
  | .bool b => .bl b
  | .int i _ => .int i
  | .str x _ => .str x
  | .bytes b _ => .byt b
  | .ref a => .ref a
  | _ => .non
def OkU (A : List Addr) : Value → Prop
  | .none => True
  | .bool _ => True
  | .int _ _ => True
  | .str _ _ => True
  | .bytes _ _ => True
  | .ref a => a ∈ A
  | _ => False
theorem OkU.mono {A B : List Addr} (h : ∀ a ∈ A, a ∈ B) : ∀ {u : Value}, OkU A u → OkU B u := fun {u} x => by
  cases u with
  | ref a => exact h a x
  | none => trivial
  | bool b => trivial
  | int i t => trivial
  | str s t => trivial
  | bytes b t => trivial
  | _ => exact False.elim x
theorem relV_toV {A : List Addr} {u : Value} (x : OkU A u) : RelV (toV u) u := by
  cases u with
  | ref a => rfl
  | none => rfl
  | bool b => rfl
  | int i t => exact ⟨t, rfl⟩
  | str s t => exact ⟨t, rfl⟩
  | bytes b t => exact ⟨t, rfl⟩
  | _ => exact False.elim x
theorem vals_toV {A : List Addr} : ∀ {vs : List Value}, (∀ u ∈ vs, OkU A u) → Vals (vs.map toV) vs
  | [], _ => .nil
  | u :: r, h => .cons (relV_toV (h u (List.mem_cons_self ..))) (vals_toV fun x hx => h x (List.mem_cons_of_mem _ hx))
def ArgOb (h : Heap) (A : List Addr) (a : Addr) : Prop := ∃ vs : List Value, vs.length ≤ sizeLine ∧ (∀ u ∈ vs, OkU A u) ∧
  (h.get? a = some { cls := .type "list", data := .seq vs.toArray } ∨ h.get? a = some { cls := .type "tuple", data := .seq vs.toArray })
theorem ArgOb.mono {h : Heap} {A B : List Addr} {a : Addr} (k : ∀ a ∈ A, a ∈ B) (x : ArgOb h A a) : ArgOb h B a := by
  obtain ⟨vs, h1, h2, h3⟩ := x
  exact ⟨vs, h1, fun u hu => (h2 u hu).mono k, h3⟩
theorem wellAll_len {P : Params} {h : Heap} : ∀ {vs : List Value} {ds : List WData}, WellAll P h vs ds → vs.length = ds.length
  | _, _, .nil => rfl
  | _, _, .cons _ b => by
    show _ + 1 = _ + 1
    rw [wellAll_len b]
theorem well_list {P : Params} {h : Heap} {v : Value} {ds : List WData} (x : Well P h v (.list ds)) : ∃ (a : Addr) (vs : List Value), v = .ref a ∧ h.get? a = some { cls := .type "list", data := .seq vs.toArray } ∧ WellAll P h vs ds := by
  cases x with
  | list ho hall => exact ⟨_, _, rfl, ho, hall⟩
theorem well_tuple {P : Params} {h : Heap} {v : Value} {ds : List WData} (x : Well P h v (.tuple ds)) : ∃ (a : Addr) (vs : List Value), v = .ref a ∧ h.get? a = some { cls := .type "tuple", data := .seq vs.toArray } ∧ WellAll P h vs ds := by
  cases x with
  | tuple ho hall => exact ⟨_, _, rfl, ho, hall⟩
theorem well_cons {P : Params} {h : Heap} {us : List Value} {d : WData} {ds : List WData} (x : WellAll P h us (d :: ds)) : ∃ (v : Value) (vs : List Value), us = v :: vs ∧ Well P h v d ∧ WellAll P h vs ds := by
  cases x with
  | cons a b => exact ⟨_, _, rfl, a, b⟩
theorem line_of {n : Nat} (h : n ≤ 1048576) : n ≤ sizeLine := Nat.le_trans h (by decide)
section
variable {P : Params} {h : Heap}
mutual
theorem area_one : ∀ (d : WData) (v : Value), Well P h v d → plW d = true → d.weight ≤ 1048576 → ∃ A : List Addr, OkU A v ∧ ∀ a ∈ A, ArgOb h A a
  | .none, _, x, _, _ => by
    cases x
    exact ⟨[], trivial, fun a m => absurd m (by simp)⟩
  | .bool b, _, x, _, _ => by
    cases x
    exact ⟨[], trivial, fun a m => absurd m (by simp)⟩
  | .int i, _, x, _, _ => by
    cases x
    exact ⟨[], trivial, fun a m => absurd m (by simp)⟩
  | .str s, _, x, _, _ => by
    cases x
    exact ⟨[], trivial, fun a m => absurd m (by simp)⟩
  | .bytes b, _, x, _, _ => by
    cases x
    exact ⟨[], trivial, fun a m => absurd m (by simp)⟩
  | .list ds, _, x, p, z => by
    obtain ⟨a, vs, rfl, ho, hall⟩ := well_list x
    have z2 : WData.weightAll ds ≤ 1048576 := z
    obtain ⟨A, h1, h2⟩ := area_all ds _ hall p fun d hd => Nat.le_trans (weight_mem hd) z2
    have k : ∀ b ∈ A, b ∈ a :: A := fun b hb => List.mem_cons_of_mem _ hb
    refine ⟨a :: A, List.mem_cons_self .., fun b hb => ?_⟩
    rcases List.mem_cons.mp hb with e | m
    · rw [e]
      exact ⟨vs, line_of (by rw [wellAll_len hall]; exact Nat.le_trans (PySem.W.length_le_weightAllW ds) z2), fun u hu => (h1 u hu).mono k, .inl ho⟩
    · exact (h2 b m).mono k
  | .tuple ds, _, x, p, z => by
    obtain ⟨a, vs, rfl, ho, hall⟩ := well_tuple x
    have z2 : WData.weightAll ds ≤ 1048576 := z
    obtain ⟨A, h1, h2⟩ := area_all ds _ hall p fun d hd => Nat.le_trans (weight_mem hd) z2
    have k : ∀ b ∈ A, b ∈ a :: A := fun b hb => List.mem_cons_of_mem _ hb
    refine ⟨a :: A, List.mem_cons_self .., fun b hb => ?_⟩
    rcases List.mem_cons.mp hb with e | m
    · rw [e]
      exact ⟨vs, line_of (by rw [wellAll_len hall]; exact Nat.le_trans (PySem.W.length_le_weightAllW ds) z2), fun u hu => (h1 u hu).mono k, .inr ho⟩
    · exact (h2 b m).mono k
  | .float _, _, _, p, _ => Bool.noConfusion (show false = true from p)
  | .dict _, _, _, p, _ => Bool.noConfusion (show false = true from p)
  | .bytearray _, _, _, p, _ => Bool.noConfusion (show false = true from p)
  | .set _, _, _, p, _ => Bool.noConfusion (show false = true from p)
  | .frozenset _, _, _, p, _ => Bool.noConfusion (show false = true from p)
  | .obj _ _, _, _, p, _ => Bool.noConfusion (show false = true from p)
theorem area_all : ∀ (ds : List WData) (vs : List Value), WellAll P h vs ds → plWs ds = true → (∀ d ∈ ds, d.weight ≤ 1048576) → ∃ A : List Addr, (∀ u ∈ vs, OkU A u) ∧ ∀ a ∈ A, ArgOb h A a
  | [], _, x, _, _ => by
    cases x
    exact ⟨[], fun u m => absurd m (by simp), fun a m => absurd m (by simp)⟩
  | d :: ds, _, x, p, z => by
    obtain ⟨v, vs, rfl, x1, x2⟩ := well_cons x
    have q : plW d = true ∧ plWs ds = true := Bool.and_eq_true_iff.mp p
    obtain ⟨A, a1, a2⟩ := area_one d v x1 q.1 (z d (List.mem_cons_self ..))
    obtain ⟨B, b1, b2⟩ := area_all ds vs x2 q.2 fun e he => z e (List.mem_cons_of_mem _ he)
    have kA : ∀ b ∈ A, b ∈ A ++ B := fun b hb => List.mem_append.mpr (.inl hb)
    have kB : ∀ b ∈ B, b ∈ A ++ B := fun b hb => List.mem_append.mpr (.inr hb)
    refine ⟨A ++ B, fun u hu => ?_, fun b hb => ?_⟩
    · rcases List.mem_cons.mp hu with e | m
      · rw [e]
        exact a1.mono kA
      · exact (b1 u m).mono kB
    · rcases List.mem_append.mp hb with m | m
      · exact (a2 b m).mono kA
      · exact (b2 b m).mono kB
end
end
def hoOf (o : Obj) : Option HO := match o.data with
  | .seq vs _ => if (o.cls == Value.type "list") = true then some (.frz o (.lst (vs.toList.map toV))) else some (.frz o (.tup (vs.toList.map toV)))
  | _ => none
def argH (K : PySem.W.Frag) (h : Heap) (A : List Addr) : Hp := fun b => if b ∈ A then (if (K.lookup b).isNone = true then (h.get? b).bind hoOf else none) else none
def OnlyF (H : Hp) : Prop := ∀ b, H b = none ∨ ∃ o u, H b = some (.frz o u)
theorem hoOf_lst (vs : List Value) : hoOf { cls := .type "list", data := .seq vs.toArray } = some (.frz { cls := .type "list", data := .seq vs.toArray } (.lst (vs.map toV))) := by
  show (if (Value.type "list" == Value.type "list") = true then some (HO.frz { cls := .type "list", data := .seq vs.toArray } (.lst (vs.toArray.toList.map toV))) else some (HO.frz { cls := .type "list", data := .seq vs.toArray } (.tup (vs.toArray.toList.map toV)))) = _
  rw [if_pos (beq_self_eq_true _)]
theorem hoOf_tup (vs : List Value) : hoOf { cls := .type "tuple", data := .seq vs.toArray } = some (.frz { cls := .type "tuple", data := .seq vs.toArray } (.tup (vs.map toV))) := by
  show (if (Value.type "tuple" == Value.type "list") = true then some (HO.frz { cls := .type "tuple", data := .seq vs.toArray } (.lst (vs.toArray.toList.map toV))) else some (HO.frz { cls := .type "tuple", data := .seq vs.toArray } (.tup (vs.toArray.toList.map toV)))) = _
  rw [if_neg (by decide)]
section
variable {P : Program} {w : World} {K : PySem.W.Frag} {h : Heap} {A : List Addr}
theorem argH_at {b : Addr} {o : Obj} (hb : b ∈ A) (hk : K.lookup b = none) (e : h.get? b = some o) : argH K h A b = hoOf o := by
  unfold argH
  rw [if_pos hb, hk, if_pos (show (none : Option Obj).isNone = true from rfl), e] <;> rfl
theorem of_argH {b : Addr} {u : HO} (q : argH K h A b = some u) : b ∈ A ∧ K.lookup b = none := by
  unfold argH at q
  by_cases hb : b ∈ A
  · rw [if_pos hb] at q
    cases hk : K.lookup b with
    | none => exact ⟨hb, rfl⟩
    | some o =>
      rw [hk, if_neg (by simp)] at q
      cases q
  · rw [if_neg hb] at q
    cases q
theorem argH_is (ar : ∀ a ∈ A, ArgOb h A a) {b : Addr} {u : HO} (q : argH K h A b = some u) : K.lookup b = none ∧ ∃ vs : List Value, vs.length ≤ sizeLine ∧ (∀ u ∈ vs, OkU A u) ∧
    ((h.get? b = some { cls := .type "list", data := .seq vs.toArray } ∧ u = .frz { cls := .type "list", data := .seq vs.toArray } (.lst (vs.map toV))) ∨
     (h.get? b = some { cls := .type "tuple", data := .seq vs.toArray } ∧ u = .frz { cls := .type "tuple", data := .seq vs.toArray } (.tup (vs.map toV)))) := by
  obtain ⟨hb, hk⟩ := of_argH q
  obtain ⟨vs, h1, h2, h3⟩ := ar b hb
  refine ⟨hk, vs, h1, h2, ?_⟩
  rcases h3 with e | e
  · rw [argH_at hb hk e, hoOf_lst] at q
    exact .inl ⟨e, (Option.some.inj q).symm⟩
  · rw [argH_at hb hk e, hoOf_tup] at q
    exact .inr ⟨e, (Option.some.inj q).symm⟩
theorem argH_only (ar : ∀ a ∈ A, ArgOb h A a) : OnlyF (argH K h A) := fun b => by
  cases q : argH K h A b with
  | none => exact .inl rfl
  | some u =>
    obtain ⟨_, vs, _, _, ⟨_, e⟩ | ⟨_, e⟩⟩ := argH_is ar q
    · exact .inr ⟨_, _, by rw [e]⟩
    · exact .inr ⟨_, _, by rw [e]⟩
theorem argH_ok (ar : ∀ a ∈ A, ArgOb h A a) : HOk P w (argH K h A) h := fun b u q => by
  obtain ⟨_, vs, h1, h2, ⟨e, rfl⟩ | ⟨e, rfl⟩⟩ := argH_is ar q
  · exact ⟨e, by rw [List.length_map]; exact h1, vs, _, vals_toV h2, e⟩
  · exact ⟨e, by rw [List.length_map]; exact h1, vs, vals_toV h2, _, e, rfl, _, rfl⟩
theorem seq_inj {c c' : Value} {vs us : List Value} (e : (some { cls := c, data := .seq vs.toArray } : Option Obj) = some { cls := c', data := .seq us.toArray }) : c = c' ∧ vs = us := by
  have e1 := Option.some.inj e
  have e2 : c = c' := congrArg Obj.cls e1
  have e3 : Data.seq vs.toArray = Data.seq us.toArray := congrArg Obj.data e1
  injection e3 with e4
  refine ⟨e2, ?_⟩
  have e5 := congrArg Array.toList e4
  simpa using e5
theorem argL (KX : K.In h) (ar : ∀ a ∈ A, ArgOb h A a) {a : Addr} {vs : List Value} (ha : a ∈ A) (e : h.get? a = some { cls := .type "list", data := .seq vs.toArray }) : (∀ u ∈ vs, OkU A u) ∧ SqL K (argH K h A) a (vs.map toV) := by
  obtain ⟨us, h1, h2, h3⟩ := ar a ha
  have hu : us = vs := by
    rcases h3 with q | q
    · rw [e] at q
      exact (seq_inj q).2.symm
    · rw [e] at q
      exact absurd (Value.type.inj (seq_inj q).1) (by decide)
  subst hu
  refine ⟨h2, ?_⟩
  cases hk : K.lookup a with
  | none => exact .inl (.inr ⟨_, by rw [argH_at ha hk e, hoOf_lst]⟩)
  | some o =>
    have e2 := KX a o hk
    rw [e] at e2
    obtain rfl := Option.some.inj e2
    exact .inr ⟨_, us.toArray, _, hk, rfl, rfl, rfl, by rw [List.size_toArray]; exact h1, by simpa using vals_toV h2⟩
theorem argT (KX : K.In h) (ar : ∀ a ∈ A, ArgOb h A a) {a : Addr} {vs : List Value} (ha : a ∈ A) (e : h.get? a = some { cls := .type "tuple", data := .seq vs.toArray }) : (∀ u ∈ vs, OkU A u) ∧ SqT K (argH K h A) a (vs.map toV) := by
  obtain ⟨us, h1, h2, h3⟩ := ar a ha
  have hu : us = vs := by
    rcases h3 with q | q
    · rw [e] at q
      exact absurd (Value.type.inj (seq_inj q).1) (by decide)
    · rw [e] at q
      exact (seq_inj q).2.symm
  subst hu
  refine ⟨h2, ?_⟩
  cases hk : K.lookup a with
  | none => exact .inl (.inr ⟨_, by rw [argH_at ha hk e, hoOf_tup]⟩)
  | some o =>
    have e2 := KX a o hk
    rw [e] at e2
    obtain rfl := Option.some.inj e2
    exact .inr ⟨_, us.toArray, _, hk, rfl, rfl, by rw [List.size_toArray]; exact h1, by simpa using vals_toV h2⟩
mutual
theorem dw_one {Pm : Params} (KX : K.In h) (ar : ∀ a ∈ A, ArgOb h A a) : ∀ (d : WData) (v : Value), Well Pm h v d → plW d = true → OkU A v → Dw K (argH K h A) (toV v) d
  | .none, _, x, _, _ => by
    cases x
    exact .non
  | .bool b, _, x, _, _ => by
    cases x
    exact .bl b
  | .int i, _, x, _, _ => by
    cases x
    exact .int i
  | .str s, _, x, _, _ => by
    cases x
    exact .str s
  | .bytes b, _, x, _, _ => by
    cases x
    have z := Dw.byt (K := K) (H := argH K h A) b.toArray
    exact z
  | .list ds, _, x, p, hu => by
    obtain ⟨a, vs, rfl, ho, hall⟩ := well_list x
    obtain ⟨h2, hs⟩ := argL KX ar hu ho
    exact .lst hs (dw_all KX ar ds _ hall p h2)
  | .tuple ds, _, x, p, hu => by
    obtain ⟨a, vs, rfl, ho, hall⟩ := well_tuple x
    obtain ⟨h2, hs⟩ := argT KX ar hu ho
    exact .tup hs (dw_all KX ar ds _ hall p h2)
  | .float _, _, _, p, _ => Bool.noConfusion (show false = true from p)
  | .dict _, _, _, p, _ => Bool.noConfusion (show false = true from p)
  | .bytearray _, _, _, p, _ => Bool.noConfusion (show false = true from p)
  | .set _, _, _, p, _ => Bool.noConfusion (show false = true from p)
  | .frozenset _, _, _, p, _ => Bool.noConfusion (show false = true from p)
  | .obj _ _, _, _, p, _ => Bool.noConfusion (show false = true from p)
theorem dw_all {Pm : Params} (KX : K.In h) (ar : ∀ a ∈ A, ArgOb h A a) : ∀ (ds : List WData) (vs : List Value), WellAll Pm h vs ds → plWs ds = true → (∀ u ∈ vs, OkU A u) → DwAll K (argH K h A) (vs.map toV) ds
  | [], _, x, _, _ => by
    cases x
    exact .nil
  | d :: ds, _, x, p, hu => by
    obtain ⟨v, vs, rfl, x1, x2⟩ := well_cons x
    have q : plW d = true ∧ plWs ds = true := Bool.and_eq_true_iff.mp p
    exact .cons (dw_one KX ar d v x1 q.1 (hu _ (List.mem_cons_self ..))) (dw_all KX ar ds vs x2 q.2 fun u m => hu u (List.mem_cons_of_mem _ m))
end
end
theorem spec_call {P : Program} {w : World} {K : PySem.W.Frag} {mg mb : Str → Option Value} {CX : CXT} {k : Nat} {fa : Addr} {fd : FuncData} {ps : List Str} {sp : Sp} {s₁ : Shared} {vals : List Value} {ds : List WData} {R : PySem.W.WRecords} {cl : Str → Option Addr} {d0 : WData}
    (KX : K.In s₁.heap) (hns : s₁.heap.Ns mainGlobals mg) (hb : s₁.heap.Ns builtinsNs mb) (hbb : ∀ x : Str, x ≠ "__name__" → mb x = bootBuiltins x) (hlim : s₁.heap.NoLimit) (hg : s₁.gens = #[])
    (hwl : WellAll w.params s₁.heap vals ds) (hpl : plWs ds = true) (hwt : ∀ d ∈ ds, d.weight ≤ 1048576) (hr : Room k callerA)
    (F : ∀ base : Heap, K.In base → base.Ns mainGlobals mg → FnOk P w K mg base CX k fa fd ps sp) (hbind : ∀ (s : Shared) (us : List Value), us.length = ps.length → BindsTo s fd ⟨us, []⟩ (ps.zip us)) (hlen : ds.length = ps.length)
    (hsp : ∀ (H : Hp) (xs : List V), OnlyF H → DwAll K H xs ds → sp xs H (fun v H' => Dw K H' v d0) fun _ _ _ => False)
    (hCX : ∀ H e s', CX [] H s₁ (fun _ _ _ => False) e s' → False) :
    codeAny (model P w) callerA (.call (.ref fa) ⟨vals, []⟩) (fun r s' => ∃ u as, r = .ok (.ret u) ∧ ReadsW R cl s'.heap u d0 as ∧ OldK s₁.heap s'.heap ∧ s'.os = s₁.os ∧ AllBare s'.gens) s₁ := by
  obtain ⟨A, ho, ar⟩ := area_all ds vals hwl hpl hwt
  have hO : OnlyF (argH K s₁.heap A) := argH_only ar
  have hok : HOk P w (argH K s₁.heap A) s₁.heap := argH_ok ar
  have hS := dw_all KX ar ds vals hwl hpl ho
  have hV := vals_toV ho
  have hK : ∀ b u, argH K s₁.heap A b = some u → K.lookup b = none := fun b u q => (argH_is ar q).1
  have noA : ∀ {b : Addr} {o : Obj} {es : Array DictEntry} {ep : Nat}, s₁.heap.get? b = some o → o.data = .dict es ep → argH K s₁.heap A b = none := fun {b o es ep} e d => by
    cases q : argH K s₁.heap A b with
    | none => rfl
    | some u =>
      obtain ⟨_, vs, _, _, ⟨e2, _⟩ | ⟨e2, _⟩⟩ := argH_is ar q
      · rw [e2] at e
        cases e
        have d' : Data.seq vs.toArray _ = Data.dict es ep := d
        cases d'
      · rw [e2] at e
        cases e
        have d' : Data.seq vs.toArray _ = Data.dict es ep := d
        cases d'
  generalize argH K s₁.heap A = H at hO hok hS hK noA
  have base_of : ∀ {b : Addr} {o : Obj}, s₁.heap.get? b = some o → H b = none → (hidT s₁.heap H).get? b = some o := fun e n => hidT_get e n
  have nsK : ∀ {b : Addr} {m : Str → Option Value}, s₁.heap.Ns b m → (hidT s₁.heap H).Ns b m := fun {b m} ⟨o, es, ep, e, d, r⟩ => ⟨o, es, ep, base_of e (noA e d), d, r⟩
  have nK : ∀ b o, K.lookup b = some o → H b = none := fun b o e => by
    cases q : H b with
    | none => rfl
    | some u =>
      rw [hK b u q] at e
      cases e
  have hKb : K.In (hidT s₁.heap H) := fun b o e => base_of (KX b o e) (nK b o e)
  have hM : Mod K mg (hidT s₁.heap H) := ⟨hKb, nsK hns, ⟨mb, nsK hb, hbb⟩, let ⟨mc, h1, h2⟩ := hlim; ⟨mc, nsK h1, h2⟩⟩
  have e0 : Env0 P w K mg (hidT s₁.heap H) callerA [] s₁ H := ⟨rfl, hM, fun b o e => of_hidT e, Nat.le_of_eq (hidT_size _ _), trivial, fun b hb => absurd (show b ∈ ([] : List Addr) from hb) (by simp), hok, .of_eq hg⟩
  have hl : vals.length = ps.length := by rw [wellAll_len hwl]; exact hlen
  refine codeAny_mono ((F _ hKb (nsK hns)).run callerA [] s₁ H ⟨vals, []⟩ vals (vals.map toV) _ _ hr e0 (hbind s₁ vals hl) hV (hsp H _ hO hS)) fun r s' x => ?_
  cases r with
  | error e => exact (hCX H e s' x).elim
  | ok fl =>
    cases fl with
    | next => exact False.elim x
    | brk => exact False.elim x
    | cont => exact False.elim x
    | ret u =>
      obtain ⟨v, H', os, bare, un, hok', r', q⟩ := x
      have kept : ∀ b o, s₁.heap.get? b = some o → s'.heap.get? b = some o := fun b o e => by
        cases q2 : H b with
        | none => exact un.keep b o e q2 (by intro z; exact absurd (show b ∈ ([] : List Addr) from z) (by simp)) (by simp)
        | some u2 =>
          rcases hO b with z | ⟨ob, u3, z⟩
          · rw [q2] at z
            cases z
          · have z2 := un.frzs b ob _ z
            obtain ⟨e1, _⟩ := hok b _ z
            obtain ⟨e2, _⟩ := hok' b _ z2
            rw [e] at e1
            cases e1
            exact e2
      have KX' : K.In s'.heap := fun b o e => kept b o (KX b o e)
      obtain ⟨as, hrd⟩ := Dw.reads (R := R) (cl := cl) hok' KX' d0 v u q r'
      exact ⟨u, as, rfl, hrd, OldK.of_keep kept, os, bare⟩
theorem layable_weight {ds : List WData} (h : WData.layableAll ds = true) : ∀ d ∈ ds, d.weight ≤ 1048576 := fun d hd =>
  (PySem.W.layableW_iff.mp (List.all_eq_true.mp h d hd)).2.2
theorem encAll_len : ∀ (cs : List Codec) (a : Codec.denoteAll cs), (Codec.encAll cs a).length = cs.length
  | [], _ => rfl
  | c :: cs, a => by
    show (Codec.encAll cs a.2).length + 1 = cs.length + 1
    rw [encAll_len cs a.2]
theorem walk_spec {r : OpenSpec} {k : Nat} {q : Program} {loose : List Str} {XP : (Str → Option Value) → Heap → Prop} {YP : World → Heap → Prop} {d : DefRec} {K : Params → PySem.W.Frag} {CX : World → CXT} {ps : List Str} {sp : World → Sp}
    (hwell : r.wellSaid = true) (hdf : d.params.defaults = []) (hlen : r.args.length = ps.length) (hr : Room k callerA)
    (hY : ∀ (w : World) (h : Heap), YP w h → (K w.params).In h)
    (F : ∀ (w : World) (mg : Str → Option Value) (fa : Addr) (h : Heap), YP w h → (K w.params).In h → h.Ns mainGlobals mg → mg d.name = some (.ref fa) →
      ∃ fd : FuncData, (∀ (s : Shared) (us : List Value), us.length = ps.length → BindsTo s fd ⟨us, []⟩ (ps.zip us)) ∧
        ∀ base : Heap, (K w.params).In base → base.Ns mainGlobals mg → FnOk r.prog w (K w.params) mg base (CX w) k fa fd ps (sp w))
    (hsp : ∀ (w : World) (H : Hp) (xs : List V) (a : Codec.denoteAll r.args), OnlyF H → Codec.withinAll r.args a = true → Codec.app r.args r.asked a = true → DwAll (K w.params) H xs (Codec.encAll r.args a) →
      sp w xs H (fun v H' => Dw (K w.params) H' v (r.ret.enc (Codec.app r.args r.f a))) fun _ _ _ => False)
    (hCX : ∀ (w : World) (H : Hp) (s : Shared) (e : Value) (s' : Shared), CX w [] H s (fun _ _ _ => False) e s' → False) :
    PySem.W.WalkOS q loose XP YP r d [] (fun f vs => PySem.call f vs) := by
  intro w s_0 s₁ mg mb G Y fa o pm cd doc dV kV ho hd hcd hD hmg hg args vals as hpre hlay hrd hwl hlo
  obtain ⟨a, e1, e2⟩ := PySem.W.os_pre_some hpre
  obtain ⟨e3, hwi⟩ := Codec.encAll_of_decAll r.args args a e1
  subst e3
  have KX := hY w _ Y
  obtain ⟨fd, hb, hF⟩ := F w mg fa _ Y KX G.T.g hmg
  refine PySem.W.enter_call (codeAny_mono (spec_call (R := []) (cl := classAt s_0.heap) (d0 := r.ret.enc (Codec.app r.args r.f a)) KX G.T.g G.T.b G.T.builtins G.T.nolimit hg hwl (pl_encAll _ _) (layable_weight hlay) hr hF hb (by rw [encAll_len]; exact hlen)
    (fun H xs hO hS => hsp w H xs a hO hwi e2 hS) fun H e s' => hCX w H s₁ e s') fun r' s' hq => ?_)
  obtain ⟨u, as', rfl, h1, h2, h3, h4⟩ := hq
  exact ⟨.inl ⟨u, _, as', rfl, fun _ => rfl, h1, (OpenSpec.post_iff hwell hwi _ _).mpr rfl, fun z => Bool.noConfusion (show false = true from z)⟩, h2, h3, h4⟩
theorem walk_specK {r : OpenSpec} {k : Nat} {q : Program} {loose : List Str} {XP : (Str → Option Value) → Heap → Prop} {YP : World → Heap → Prop} {d : DefRec} {K : Params → PySem.W.Frag} {CX : CXT} {ps : List Str} {sp : PySem.W.Frag → Sp}
    (hwell : r.wellSaid = true) (hdf : d.params.defaults = []) (hlen : r.args.length = ps.length) (hr : Room k callerA)
    (hY : ∀ (w : World) (h : Heap), YP w h → (K w.params).In h)
    (F : ∀ (w : World) (mg : Str → Option Value) (fa : Addr) (h : Heap), YP w h → (K w.params).In h → h.Ns mainGlobals mg → mg d.name = some (.ref fa) →
      ∃ fd : FuncData, (∀ (s : Shared) (us : List Value), us.length = ps.length → BindsTo s fd ⟨us, []⟩ (ps.zip us)) ∧
        ∀ base : Heap, (K w.params).In base → base.Ns mainGlobals mg → FnOk r.prog w (K w.params) mg base CX k fa fd ps (sp (K w.params)))
    (hsp : ∀ (K : PySem.W.Frag) (H : Hp) (xs : List V) (a : Codec.denoteAll r.args), OnlyF H → Codec.withinAll r.args a = true → Codec.app r.args r.asked a = true → DwAll K H xs (Codec.encAll r.args a) →
      sp K xs H (fun v H' => Dw K H' v (r.ret.enc (Codec.app r.args r.f a))) fun _ _ _ => False)
    (hCX : ∀ (H : Hp) (s : Shared) (e : Value) (s' : Shared), CX [] H s (fun _ _ _ => False) e s' → False) :
    PySem.W.WalkOS q loose XP YP r d [] (fun f vs => PySem.call f vs) :=
  walk_spec (K := K) (CX := fun _ => CX) (sp := fun w => sp (K w.params)) hwell hdf hlen hr hY F (fun w H xs a h1 h2 h3 h4 => hsp (K w.params) H xs a h1 h2 h3 h4) fun _ H s e s' => hCX H s e s'
end L2
end
section
set_option Elab.async false
set_option linter.all false
set_option maxRecDepth 100000
namespace LX
open PySem
abbrev fr (l : List Env) : List Addr := l.filterMap (·.frame)
def Fl (g : Bool) (h : Heap) (a : Addr) (c : Value) (od : Option Addr) (T : Addr) : Prop :=
  ∃ vs oT ts, h.get? a = some { cls := c, dict := od, data := .fields vs } ∧ vs[1]? = some (.ref T) ∧ T ≠ a ∧ h.get? T = some oT ∧ oT.data = .fields ts ∧ ts[3]? = some .none ∧ (g = false → vs[2]? = some .none)
theorem Fl.mono {g g' : Bool} {h : Heap} {a : Addr} {c : Value} {od : Option Addr} {T : Addr} (f : Fl g' h a c od T) (e : g' = true → g = true) : Fl g h a c od T := by
  obtain ⟨vs, oT, ts, h1, h2, h3, h4, h5, h6, h7⟩ := f
  refine ⟨vs, oT, ts, h1, h2, h3, h4, h5, h6, fun z => h7 ?_⟩
  cases g' with
  | false => rfl
  | true => rw [e rfl] at z; cases z
structure Stp (fs : List Addr) (a : Addr) (ch : List Addr) (h h' : Heap) : Prop where
  keep : ∀ b o, b ≠ a → b ∉ ch → b ∉ fs → h.get? b = some o → h'.get? b = some o
  slot : ∀ b o, b ≠ a → b ∉ ch → h.get? b = some o → ∃ sl, h'.get? b = some { o with slots := sl }
section
variable {M : Model} {A : Around} {E : Value → Shared → Prop} {s : Shared} {base : Heap} {g : Bool} {env : Env} {outer : List Env} {L a : Addr} {c head : Value} {od : Option Addr} {vs : Array Value}
theorem not_frame {h : Heap} {l : List Env} {b : Addr} {o : Obj} {ws : Array Value} (hl : h.FunFrames base l) (e : h.get? b = some o) (d : o.data = .fields ws) : b ∉ fr l := fun m => by
  obtain ⟨_, o', e', n⟩ := hl.mem m
  rw [e] at e'
  cases e'
  exact n ws d
theorem entry_step {hn : Bool} {Q : Unit → Shared → Prop} (hfr : A.frames = some (env :: outer)) (hl : s.heap.FunFrames base (env :: outer)) (hf : env.frame = some L)
    (he : s.heap.get? a = some { cls := c, dict := od, data := .fields vs }) (hz : 1 < vs.size) (h2 : g = false → vs[2]? = some .none)
    (k : ∀ h' T, s.heap.objs.size ≤ T → Fl g h' a c od T → Stp (fr (env :: outer)) a [] s.heap h' → Q () { s with heap := h' }) :
    wpAny M A (do
      let x ← frameOf env
      let pl ← entryPlaceOf L hn
      let b ← EntryCells.newEntry head x .none (rawInt L) .none pl
      setField (.ref a) 1 b) (fun _ s' => wpAny M A (setFlight (.ref a) none) Q E s') E s := by
  have ha : a ∉ fr (env :: outer) := not_frame hl he rfl
  refine wpAny_bind (wpAny_frameOf_fun hfr hl hf fun g1 S1 => wpAny_bind (wpAny_entryPlaceOf fun pl hpl => ?_))
  unfold EntryCells.newEntry newFields
  refine wpAny_bind (wpAny_newObj_type ?_ (hpl.sizeOk5 _ _ _ _ _))
  generalize hts : ([head, Value.ref L, .none, rawInt L, .none] ++ (if pl.isEmpty then List.replicate 6 Value.none else pl)).toArray = ts
  have h3 : 3 < ts.size := by
    rw [← hts, List.size_toArray, List.length_append]
    show 3 < 5 + _
    omega
  have e1 : g1.get? a = some { cls := c, dict := od, data := .fields vs } := (S1.2.1 a ha).trans he
  have nTa : g1.objs.size ≠ a := Nat.ne_of_gt (Heap.lt_size e1)
  have e2 := Heap.get?_push_of_some (h := g1) { cls := .type "traceback", dict := none, data := .fields ts } e1
  refine wpAny_setField e2 rfl hz ?_
  have e3 := Heap.get?_update_self (Obj.mapFields (·.setIfInBounds 1 (Value.ref g1.objs.size))) e2 rfl
  have t3 := (Heap.get?_update_other (g1.push { cls := .type "traceback", dict := none, data := .fields ts }) (Obj.mapFields (·.setIfInBounds 1 (Value.ref g1.objs.size))) (Ne.symm nTa)).trans (Heap.get?_push_size g1 rfl)
  unfold setFlight
  refine wpAny_bind (wpAny_field e3 rfl (x := .ref g1.objs.size) (by simp [hz]) ?_)
  rw [if_pos (by simp)]
  refine wpAny_setField t3 rfl h3 (k _ g1.objs.size ?_ ⟨_, _, _, (Heap.get?_update_other _ _ nTa).trans e3, by simp [hz], nTa, Heap.get?_update_self _ t3 rfl, rfl, by simp [h3], fun z => by simpa [Array.getElem?_setIfInBounds] using h2 z⟩ ?_)
  · exact Nat.le_of_eq S1.1.symm
  · have all : ∀ b o, b ≠ a → g1.get? b = some o → (((g1.push { cls := .type "traceback", dict := none, data := .fields ts }).update a (Obj.mapFields (·.setIfInBounds 1 (Value.ref g1.objs.size)))).update g1.objs.size
        (Obj.mapFields (·.setIfInBounds 3 ((none : Option Addr).elim Value.none fun f => rawInt f)))).get? b = some o := fun b o n q => by
      rw [Heap.get?_update_other _ _ (Nat.ne_of_gt (Heap.lt_size q)), Heap.get?_update_other _ _ (Ne.symm n)]
      exact Heap.get?_push_of_some _ q
    refine ⟨fun b o n _ nf q => all b o n ((S1.2.1 b nf).trans q), fun b o n _ q => ?_⟩
    obtain ⟨sl, q1⟩ := S1.2.2 b o q
    exact ⟨sl, all b _ n q1⟩
theorem look_step {Q : Unit → Shared → Prop} (hfr : A.frames = some (env :: outer)) (hl : s.heap.FunFrames base (env :: outer)) (hf : env.frame = some L)
    (x : (s.heap.get? a = some { cls := c, dict := od, data := .fields vs } ∧ vs[1]? = some .none ∧ head = .none ∧ (g = false → vs[2]? = some .none)) ∨ ∃ T, head = .ref T ∧ Fl g s.heap a c od T)
    (k : ∀ h' T, s.heap.objs.size ≤ T → Fl g h' a c od T → Stp (fr (env :: outer)) a (match head with | .ref T => [T] | _ => []) s.heap h' → Q () { s with heap := h' }) :
    wpAny M A (noteFrame (.ref a) env) (fun _ s' => wpAny M A (setFlight (.ref a) none) Q E s') E s := by
  unfold noteFrame
  simp only [hf]
  rcases x with ⟨he, h1, rfl, h2⟩ | ⟨T, rfl, ws, oT, ts, he, h1, nT, hT, dT, h3, h2⟩
  · refine wpAny_bind (wpAny_field he rfl h1 ?_)
    rw [if_neg (by decide)]
    exact entry_step hfr hl hf he (Array.getElem?_eq_some_iff.mp h1).1 h2 k
  · refine wpAny_bind (wpAny_field he rfl h1 ?_)
    rw [if_pos (by simp)]
    refine wpAny_bind (wpAny_field hT dT h3 ?_)
    rw [if_neg (by simp [rawInt])]
    refine wpAny_bind (wpAny_setField hT dT (Array.getElem?_eq_some_iff.mp h3).1 ?_)
    have oth : ∀ b, b ≠ T → (s.heap.update T (Obj.mapFields (·.setIfInBounds 3 Value.none))).get? b = s.heap.get? b := fun b n => Heap.get?_update_other _ _ (Ne.symm n)
    have nfT : T ∉ fr (env :: outer) := not_frame hl hT dT
    have hl' : (s.heap.update T (Obj.mapFields (·.setIfInBounds 3 Value.none))).FunFrames base (env :: outer) := hl.of_keeps fun b o e n => ⟨o, (oth b (fun z => by
      rw [z, hT] at e
      cases e
      exact n ts dT)).trans e, rfl⟩
    refine entry_step (s := { s with heap := s.heap.update T (Obj.mapFields (·.setIfInBounds 3 Value.none)) }) hfr hl' hf ((oth a (Ne.symm nT)).trans he) (Array.getElem?_eq_some_iff.mp h1).1 h2 fun h' T' f1 f2 f3 => k h' T' ?_ f2 ⟨fun b o n1 n2 n3 e => ?_, fun b o n1 n2 e => ?_⟩
    · have f1' : (s.heap.update T (Obj.mapFields (·.setIfInBounds 3 Value.none))).objs.size ≤ T' := f1
      rw [Heap.size_after_update] at f1'
      exact f1'
    · have nb : b ≠ T := fun z => n2 (by simp [z])
      exact f3.keep b o n1 (by simp) n3 ((oth b nb).trans e)
    · have nb : b ≠ T := fun z => n2 (by simp [z])
      exact f3.slot b o n1 (by simp) ((oth b nb).trans e)
theorem leave_step {Q : Unit → Shared → Prop} (hfr : A.frames = some (env :: outer)) (hl : s.heap.FunFrames base (env :: outer)) (hf : env.frame = some L)
    (x : (s.heap.get? a = some { cls := c, dict := od, data := .fields vs } ∧ vs[1]? = some .none ∧ head = .none ∧ (g = false → vs[2]? = some .none)) ∨ ∃ T, head = .ref T ∧ Fl g s.heap a c od T)
    (k : ∀ h' T, s.heap.objs.size ≤ T → Fl g h' a c od T → Stp (fr (env :: outer)) a (match head with | .ref T => [T] | _ => []) s.heap h' → Q () { s with heap := h' }) :
    wpAny M A (leaving env (.ref a)) Q E s := by
  unfold leaving
  exact wpAny_bind (look_step hfr hl hf x k)
theorem land_again {T : Addr} {Q : Unit → Shared → Prop} (x : Fl g s.heap a c od T) (q : Q () s) : wpAny M A (setFlight (.ref a) none) Q E s := by
  obtain ⟨ws, oT, ts, he, h1, nT, hT, dT, h3, _⟩ := x
  unfold setFlight
  refine wpAny_bind (wpAny_field he rfl h1 ?_)
  rw [if_pos (by simp)]
  refine wpAny_setField hT dT (Array.getElem?_eq_some_iff.mp h3).1 ?_
  have e : s.heap.update T (Obj.mapFields (·.setIfInBounds 3 ((none : Option Addr).elim Value.none fun f => rawInt f))) = s.heap := Heap.update_setField_same s.heap T oT ts 3 _ hT dT h3
  rw [e]
  exact q
end
end LX
end
section
set_option Elab.async false
set_option linter.all false
set_option maxRecDepth 100000
namespace LX
open PySem
abbrev xTup (us : List Value) : Obj := { cls := .type "tuple", data := .seq us.toArray }
abbrev xObj (C : Addr) (od : Option Addr) (t : Addr) : Obj := { cls := .ref C, dict := od, data := .fields #[.ref t, .none, .none, .none, .bool false, .none] }
section
variable {prog : Program} {w : World} {A : Around} {E : Value → Shared → Prop} {R : Result → Shared → Prop} {h : Heap} {g : Array GenState} {d : Drawn} {t : Nat} {os : OsState}
variable {nm q : Str} {C N : Addr} {bs bm bmB : List Value} {hdct : Bool} {sn : List Str} {sub : List Value} {ab : Bool} {col : Option Bool} {dd : Option Addr} {k0 k1 k2 k3 k5 : Option Value} {B newId initId : String} {rest : List Value}
structure Tl (F : ExcBaseFacts B newId initId bmB) (bm : List Value) : Prop where
  b : bm.contains (.type B) = true
  base : bm.contains (.type "BaseException") = true
  na : bm.contains (.type "AttributeError") = false
  nn : bm.contains (.type "NameError") = false
theorem x_check {M : Model} {F : ExcBaseFacts B newId initId bmB} (T : Tl F bm) {Q : Unit → Shared → Prop} (hC : h.get? C = some (excClassObj nm q C N bs bm hdct sn sub ab col dd k0 k1 k2 k3 k5 newId))
    (hq : Q () ⟨h, g, d, t, os⟩) : wpAny M A (checkBuiltinCall newId ⟨.ref C :: rest, []⟩) Q E ⟨h, g, d, t, os⟩ := by
  have hc : (Value.ref C :: bm).contains (.type B) = true := by rw [List.contains_cons, T.b, Bool.or_true]
  have hstar := F.noStar
  simp only [checkBuiltinCall, F.newKind, F.newSplit, F.newRow]
  repeat (first | refine wpAny_loadPart_at hC ?_ | (refine wpAny_isSubtype_exc hC ?_; rw [hc]) | refine wpAny_staticBase_exc hC ?_ | refine wpAny_madeBy_exc hC ?_ | simp only [bne_self_eq_false, Bool.false_eq_true, if_false] | wp_step)
  exact hq
theorem x_new {F : ExcBaseFacts B newId initId bmB} (T : Tl F bm) (hC : h.get? C = some (excClassObj nm q C N bs bm hdct sn sub ab col dd k0 k1 k2 k3 k5 newId))
    (hq : R (.ok (.ret (.ref (h.objs.size + 1)))) ⟨(h.push (xTup rest)).push (xObj C none h.objs.size), g, d, t, os⟩) (hz : rest.length ≤ sizeLine) :
    codeAny (model prog w) A (.builtin newId ⟨.ref C :: rest, []⟩) R ⟨h, g, d, t, os⟩ := by
  have hends := F.ends
  have c1 : (Value.ref C :: bm).contains (.type B) = true := by rw [List.contains_cons, T.b, Bool.or_true]
  have c2 : (Value.ref C :: bm).contains (.type "AttributeError") = false := by rw [List.contains_cons, T.na]; rfl
  have c3 : (Value.ref C :: bm).contains (.type "NameError") = false := by rw [List.contains_cons, T.nn]; rfl
  refine codeAny_builtinAt F.entry ?_
  unfold Builtin.«BaseException.__new__»; refine wpAt_bind ?_
  show wpAt _ _ _ (stack >>= _) _ _ _
  refine wpAt_bind (wpAt_stack fun p below => wpAt_of_wpAny ?_); wp_walk
  refine wpAt_of_wpAny ?_; rw [F.owner]
  repeat (first | with_reducible refine wpAny_madeHere_exc F.canon hC ?_ | with_reducible refine wpAny_loadPart_at hC ?_ | (with_reducible refine wpAny_isSubtype_exc hC ?_; first | rw [c1] | rw [c2] | rw [c3]) | wp_step)
  show R _ _
  rw [Heap.size_push]
  exact hq
end
end LX
end
section
set_option Elab.async false
set_option linter.all false
set_option maxRecDepth 100000
namespace LX
open PySem PySem.W PySem.Calls PyProof.Rows Builtin Builtin.ObjectAttr
section
variable {prog : Program} {w : World} {A : Around} {E : Value → Shared → Prop} {R : Result → Shared → Prop} {h : Heap} {g : Array GenState} {d : Drawn} {t : Nat} {os : OsState}
variable {nm q : Str} {C N fI : Addr} {bs bm bmB : List Value} {hdct : Bool} {sn : List Str} {sub : List Value} {ab : Bool} {col : Option Bool} {dd : Option Addr} {k0 k1 k2 k3 k5 : Option Value} {B newId initId : String} {rest : List Value}
theorem call_x {F : ExcBaseFacts B newId initId bmB} (T : Tl F bm) (hz : rest.length ≤ sizeLine) (hC : h.get? C = some (excClassObj nm q C N bs bm hdct sn sub ab col dd k0 k1 k2 k3 k5 newId))
    (hi : Looks (model prog w) h (typeLookup (.ref C) "__init__") (some (.ref fI))) (hb : ∀ self, Looks (model prog w) h (bindSpecial (.ref fI) self) (.ref fI, [self]))
    (hq : codeAny (model prog w) (A.under (.builtin "type.__call__" ⟨.ref C :: rest, []⟩)) (.call (.ref fI) ⟨.ref (h.objs.size + 1) :: rest, []⟩) (InitBack (h.objs.size + 1) R) ⟨(h.push (xTup rest)).push (xObj C none h.objs.size), g, d, t, os⟩) :
    codeAny (model prog w) A (.call (.ref C) ⟨rest, []⟩) R ⟨h, g, d, t, os⟩ := by
  have f1 := tc_lookup; have f2 := tc_bind (.ref C); have hT : (⟨h, g, d, t, os⟩ : Shared).TypeIs (.ref C) "type" := ⟨_, hC, rfl⟩
  refine codeAny_of_tree ?_
  show wpAny _ _ (callAny (.ref C) _) _ _ _
  repeat (any_goals (first | assumption | with_reducible refine wpAny_loadPart_at hC ?_ | wp_step))
  refine ⟨rfl, ?_⟩
  refine codeAny_call_builtin_at (Code.quiet_builtin _ (by decide +kernel)) entry_typeCall (wpAny_check_type_call_sub hC ?_)
  repeat (first | with_reducible refine wpAny_loadPart_at hC ?_ | with_reducible refine wpAny_madeBy_exc hC ?_ | wp_step)
  refine codeAny_call_builtin_code (Code.quiet_builtin _ F.quiet) (x_check T hC ?_)
  refine x_new (rest := rest) T hC ?_ hz
  show wpAny _ _ _ _ _ _
  have k : ∀ b o, h.get? b = some o → ((h.push (xTup rest)).push (xObj C none h.objs.size)).get? b = some o := fun b o e => Heap.get?_push_of_some _ (Heap.get?_push_of_some _ e)
  have hC1 := k _ _ hC
  have hx : ((h.push (xTup rest)).push (xObj C none h.objs.size)).get? (h.objs.size + 1) = some { cls := .ref C, data := .fields #[.ref h.objs.size, .none, .none, .none, .bool false, .none] } := by heap_get
  have hcC : (Value.ref C :: bm).contains (.ref C) = true := by simp
  have i1 := hi.keeps k
  have b1 := (hb (.ref (h.objs.size + 1))).keeps k
  unfold isInstance
  repeat (first | with_reducible refine wpAny_loadPart_at hx ?_ | (with_reducible refine wpAny_isSubtype_exc hC1 ?_; rw [hcC]) | wp_step)
  show wpAny _ _ (typeLookup (.ref C) _) _ _ _
  refine i1.here (wpAny_holding (wpAny_bind (b1.here ?_)))
  refine wpAny_bind (wpAny_call (codeAny_mono hq fun r s' z => ?_))
  rcases r with e | (v | _ | _ | _) <;> first | exact z | exact z.elim | skip
  obtain ⟨rfl, z⟩ := z
  exact wpAny_pure (wpAny_pure z)
theorem raiseStmt_x {M : Model} {env : Env} {s : Shared} {x : Sem Value} {Q : Flow → Shared → Prop} (hbase : bm.contains (.type "BaseException") = true) (hh : A.handled = none)
    (k : wpAny M A x (fun v s1 => ∃ e od vs, v = .ref e ∧ s1.heap.get? C = some (excClassObj nm q C N bs bm hdct sn sub ab col dd k0 k1 k2 k3 k5 newId) ∧
      s1.heap.get? e = some { cls := .ref C, dict := od, data := .fields vs } ∧ vs[1]? = some .none ∧ E (.ref e) s1) E s) :
    wpAny M A (raiseStmt env (some x) none) Q E s := by
  have hcB : (Value.ref C :: bm).contains (.type "BaseException") = true := by rw [List.contains_cons, hbase, Bool.or_true]
  unfold raiseStmt
  refine wpAny_bind (wpAny_mono k (fun v s1 k1 => ?_) fun _ _ z => z)
  obtain ⟨e, od, vs, rfl, hC, he, h1, hE⟩ := k1
  obtain ⟨hp, g, d, tk, os⟩ := s1
  repeat (first | with_reducible refine wpAny_field he rfl h1 ?_ | with_reducible refine wpAny_loadPart_at he ?_ | with_reducible refine wpAny_loadPart_at hC ?_ | (with_reducible refine wpAny_isSubtype_exc hC ?_; rw [hcB]) | wp_step)
  exact wpAny_raiseNew_none hh hE
theorem match_x {M : Model} {nm' q' : Str} {CO N' e : Addr} {bs' bm' : List Value} {hdct' : Bool} {sn' : List Str} {sub' : List Value} {ab' : Bool} {col' : Option Bool} {dd' : Option Addr} {k0' k1' k2' k3' k5' : Option Value} {newId' : String} {oe : Obj} {Q : Bool → Shared → Prop}
    (hC : h.get? C = some (excClassObj nm q C N bs bm hdct sn sub ab col dd k0 k1 k2 k3 k5 newId)) (hO : h.get? CO = some (excClassObj nm' q' CO N' bs' bm' hdct' sn' sub' ab' col' dd' k0' k1' k2' k3' k5' newId'))
    (he : h.get? e = some oe) (hcls : oe.cls = .ref C) (hbase : bm'.contains (.type "BaseException") = true) (hsub : (Value.ref C :: bm).contains (.ref CO) = true) (hq : Q true ⟨h, g, d, t, os⟩) :
    wpAny M A (excMatches (.ref e) (.ref CO)) Q E ⟨h, g, d, t, os⟩ := by
  have hcB : (Value.ref CO :: bm').contains (.type "BaseException") = true := by rw [List.contains_cons, hbase, Bool.or_true]
  have f := tc_notTuple
  unfold excMatches
  repeat (first | (with_reducible refine wpAny_loadPart_at he ?_; rw [hcls]) | with_reducible refine wpAny_loadPart_at hO ?_ | (with_reducible refine wpAny_isSubtype_exc hO ?_; rw [hcB]) | (with_reducible refine wpAny_isSubtype_exc hC ?_; rw [hsub]) | wp_step)
  exact hq
end
def xmro : List Value → Bool
  | [.type a, .type b, .type c] => a == "Exception" && b == "BaseException" && c == "object"
  | .ref _ :: r => xmro r
  | _ => false
theorem xmro_refuse (self : Value) : ∀ {l : List Value}, xmro l = true → refuseLoop self "__setattr__" l = pure ()
  | [.type a, .type b, .type c], e => by
    unfold xmro at e
    simp only [Bool.and_eq_true, beq_iff_eq] at e
    obtain ⟨⟨rfl, rfl⟩, rfl⟩ := e
    exact PySem.F.store_Exception.passes self
  | .ref c :: r, e => by
    rw [refuseLoop_ref]
    exact xmro_refuse self (l := r) (by cases r <;> first | exact e | cases e)
theorem xmro_obj : ∀ {l : List Value}, xmro l = true → l.contains (.type "object") = true ∧ l.contains (.type "BaseException") = true ∧ l.isEmpty = false
  | [.type a, .type b, .type c], e => by
    unfold xmro at e
    simp only [Bool.and_eq_true, beq_iff_eq] at e
    obtain ⟨⟨rfl, rfl⟩, rfl⟩ := e
    decide +kernel
  | .ref c :: r, e => by
    have ih := xmro_obj (l := r) (by cases r <;> first | exact e | cases e)
    refine ⟨?_, ?_, rfl⟩
    · rw [List.contains_cons, ih.1, Bool.or_true]
    · rw [List.contains_cons, ih.2.1, Bool.or_true]
section
variable {prog : Program} {w : World} {A : Around} {E : Value → Shared → Prop} {K : Frag} {s : Shared} {x C : Addr} {cd : ClassData} {name : Str} {v : Value}
theorem set_x {vs : Array Value} {Q : Unit → Shared → Prop} (X : K.In s.heap) (hx : s.heap.get? x = some { cls := .ref C, dict := none, data := .fields vs }) (hc : clsIn K C = some cd) (hm : xmro cd.mro = true) (hd : cd.hasDict = true)
    (hs : findIn K (.ref C) "__setattr__" = some (some (.builtin "object.__setattr__"))) (ha : findIn K (.ref C) name = some none)
    (k : ∀ h', h'.get? x = some { cls := .ref C, dict := some s.heap.objs.size, data := .fields vs } → h'.Ns1 s.heap.objs.size (fun y => if y = name then some v else none) → (∀ b o, b ≠ x → s.heap.get? b = some o → h'.get? b = some o) →
      Q () { s with heap := h', toks := s.toks + 2 }) :
    wpAny (model prog w) A (setAttr (.ref x) name v) Q E s := by
  have J : InstAt s.heap x { cls := .ref C, dict := none, data := .fields vs } C none := ⟨hx, rfl, rfl, trivial⟩
  have SF := PySem.F.store_object
  refine set_plain X J hs ?_
  have sub : Looks (model prog w) s.heap (isInstance (.ref x) (.type "object")) true := J.type.andThen (looks_mroIn X (by unfold mroIn; rw [hc, Option.bind_some, if_neg (by rw [(xmro_obj hm).2.2]; decide), (xmro_obj hm).1]))
  have lm : Looks (model prog w) s.heap (mroOf (.ref C)) cd.mro := (looks_clsIn X hc).andThen .now
  refine codeAny_call_builtin SF.slot.plain SF.entry (@check_slot (model prog w) _ _ { s with toks := s.toks + 1 } "object.__setattr__" "object" "__setattr__" (.ref x) [.str name s.toks, v] [] _ SF.kind SF.split sub (SF.args (.ref x) (.str name s.toks) v) ?_)
  rw [osa_eq, refuse_eq]
  refine wpAny_bind (wpAny_bind (Looks.here (s := { s with toks := s.toks + 1 }) J.type (wpAny_bind (Looks.here (s := { s with toks := s.toks + 1 }) lm ?_))))
  rw [xmro_refuse _ hm]
  refine wpAny_pure (wpAny_bind (Looks.here (s := { s with toks := s.toks + 1 }) J.type (wpAny_bind (Looks.here (s := { s with toks := s.toks + 1 }) (looks_findIn X ha) (wpAny_bind (wpAny_pure ?_))))))
  show wpAny _ _ (storeInOwnDict (.ref x) (.ref C) (.str name s.toks) name v false) _ _ _
  refine wpAny_bind (wpAny_pure (wpAny_bind (wpAny_bind (wpAny_loadPart (s := { s with toks := s.toks + 1 }) hx (wpAny_bind (Looks.here (s := { s with toks := s.toks + 1 }) (looks_clsIn X hc) ?_))))))
  rw [hd]
  have nx : x ≠ s.heap.objs.size := Nat.ne_of_lt (Heap.lt_size hx)
  have hx1 : (s.heap.push emptyDict).get? x = some { cls := .ref C, dict := none, data := .fields vs } := Heap.get?_push_of_some _ hx
  refine wpAny_bind (wpAny_alloc (s := { s with toks := s.toks + 1 }) (wpAny_bind (wpAny_update (s := { s with heap := s.heap.push emptyDict, toks := s.toks + 1 }) hx1 (wpAny_pure ?_))))
  generalize hg2 : ((s.heap.push emptyDict).update x fun o => { o with dict := some s.heap.objs.size }) = g2
  have e2 : g2.get? x = some { cls := .ref C, dict := some s.heap.objs.size, data := .fields vs } := by
    rw [← hg2]
    exact Heap.get?_update_self _ hx1 rfl
  have e3 : g2.get? s.heap.objs.size = some emptyDict := by
    rw [← hg2]
    exact (Heap.get?_update_other _ _ nx).trans (Heap.get?_push_size s.heap rfl)
  have e4 : g2.Ns s.heap.objs.size (fun _ => none) := ⟨_, #[], _, e3, rfl, fun e he => absurd he (by simp), fun _ => rfl⟩
  have keep : ∀ b o, b ≠ x → s.heap.get? b = some o → g2.get? b = some o := fun b o n e => by
    rw [← hg2]
    exact (Heap.get?_update_other _ _ (Ne.symm n)).trans (Heap.get?_push_of_some _ e)
  show wpAny _ _ (storeInDict s.heap.objs.size (.str name s.toks) name v) _ _ _
  refine wpAny_bind (wpAny_pure (wpAny_bind (wpAny_nsSet1 (s := { s with heap := g2, toks := s.toks + 1 }) (Heap.Ns1.of_empty e4) fun h' hn hs => ?_)))
  obtain ⟨oD, esD, epD, hoD, hdD, hcD⟩ := hn.count (PySem.Within.cons name v PySem.Within.nil)
  refine wpAny_bind (wpAny_lookBehind hoD (by rw [hdD]; exact pastItsLine_dict (Nat.le_trans hcD (by rw [List.length_cons, List.length_nil, sizeLine_eq]; omega))) ?_)
  exact wpAny_pure (k h' ((hs.2 x nx).trans e2) hn fun b o n e => (hs.2 b (Nat.ne_of_lt (Heap.lt_size e))).trans (keep b o n e))
theorem set_x2 {vs : Array Value} {dx : Addr} {m : Str → Option Value} {ks : List Str} {Q : Unit → Shared → Prop} (X : K.In s.heap) (hx : s.heap.get? x = some { cls := .ref C, dict := some dx, data := .fields vs }) (hn : s.heap.Ns1 dx m) (wi : PySem.Within m ks) (hz : ks.length < 1000)
    (hc : clsIn K C = some cd) (hm : xmro cd.mro = true) (hd : cd.hasDict = true) (hs : findIn K (.ref C) "__setattr__" = some (some (.builtin "object.__setattr__"))) (ha : findIn K (.ref C) name = some none)
    (k : ∀ h', h'.Ns1 dx (fun y => if y = name then some v else m y) → Heap.SameBut dx s.heap h' → Q () { s with heap := h', toks := s.toks + 2 }) :
    wpAny (model prog w) A (setAttr (.ref x) name v) Q E s := by
  obtain ⟨oD0, _, _, ho0, _⟩ := id hn
  have J : InstAt s.heap x { cls := .ref C, dict := some dx, data := .fields vs } C (some oD0) := ⟨hx, rfl, rfl, ho0⟩
  have SF := PySem.F.store_object
  refine set_plain X J hs ?_
  have sub : Looks (model prog w) s.heap (isInstance (.ref x) (.type "object")) true := J.type.andThen (looks_mroIn X (by unfold mroIn; rw [hc, Option.bind_some, if_neg (by rw [(xmro_obj hm).2.2]; decide), (xmro_obj hm).1]))
  have lm : Looks (model prog w) s.heap (mroOf (.ref C)) cd.mro := (looks_clsIn X hc).andThen .now
  refine codeAny_call_builtin SF.slot.plain SF.entry (@check_slot (model prog w) _ _ { s with toks := s.toks + 1 } "object.__setattr__" "object" "__setattr__" (.ref x) [.str name s.toks, v] [] _ SF.kind SF.split sub (SF.args (.ref x) (.str name s.toks) v) ?_)
  rw [osa_eq, refuse_eq]
  refine wpAny_bind (wpAny_bind (Looks.here (s := { s with toks := s.toks + 1 }) J.type (wpAny_bind (Looks.here (s := { s with toks := s.toks + 1 }) lm ?_))))
  rw [xmro_refuse _ hm]
  refine wpAny_pure (wpAny_bind (Looks.here (s := { s with toks := s.toks + 1 }) J.type (wpAny_bind (Looks.here (s := { s with toks := s.toks + 1 }) (looks_findIn X ha) (wpAny_bind (wpAny_pure ?_))))))
  show wpAny _ _ (storeInOwnDict (.ref x) (.ref C) (.str name s.toks) name v false) _ _ _
  refine wpAny_bind (wpAny_pure (wpAny_bind (wpAny_bind (wpAny_loadPart (s := { s with toks := s.toks + 1 }) hx (wpAny_bind (Looks.here (s := { s with toks := s.toks + 1 }) (looks_clsIn X hc) ?_))))))
  rw [hd]
  refine wpAny_pure ?_
  show wpAny _ _ (storeInDict dx (.str name s.toks) name v) _ _ _
  refine wpAny_bind (wpAny_pure (wpAny_bind (wpAny_nsSet1 (s := { s with toks := s.toks + 1 }) hn fun h' hn' hs' => ?_)))
  obtain ⟨oD, esD, epD, hoD, hdD, hcD⟩ := hn'.count (PySem.Within.cons name v wi)
  refine wpAny_bind (wpAny_lookBehind hoD (by rw [hdD]; exact pastItsLine_dict (Nat.le_trans hcD (by rw [List.length_cons, sizeLine_eq]; omega))) ?_)
  exact wpAny_pure (k h' hn' hs')
theorem get_x {ox od : Obj} {dx : Addr} {expr : Bool} {Q : Value → Shared → Prop} (X : K.In s.heap) (J : InstAt s.heap x ox C (some od)) (hc : clsIn K C = some cd) (hm : xmro cd.mro = true) (hd : cd.hasDict = true)
    (hg : findIn K (.ref C) "__getattribute__" = some (some (.builtin "BaseException.__getattribute__"))) (hk : findIn K (.ref C) "__getattr__" = some none) (ha : findIn K (.ref C) name = some none)
    (hl : lookIn name od = some (some v)) (hh : handedIn v = true) (k : Q v { s with toks := s.toks + 1 }) :
    wpAny (model prog w) A (getAttr (.ref x) name expr) Q E s := by
  have L0 := J.type (M := model prog w)
  have hf : findObj K C (some od) name = some (.value v) := findObj_own (by unfold hasDictIn; rw [hc]; exact hd) ha rfl hl
  have L1 := looks_find (M := model prog w) X J hf
  have sub : Looks (model prog w) s.heap (isInstance (.ref x) (.type "BaseException")) true := L0.andThen (looks_mroIn X (by unfold mroIn; rw [hc, Option.bind_some, if_neg (by rw [(xmro_obj hm).2.2]; decide), (xmro_obj hm).2.1]))
  unfold getAttr getAttrBy
  refine wpAny_bind (wpAny_mkText (wpAny_holding (wpAny_bind (Looks.here (s := { s with toks := s.toks + 1 }) L0 (wpAny_bind (Looks.here (s := { s with toks := s.toks + 1 }) (looks_findIn X hg) ?_))))))
  dsimp only
  rw [show (onTheHeap (Value.ref C) && Value.builtin "BaseException.__getattribute__" == Value.builtin "object.__getattribute__") = false from by rw [show (Value.builtin "BaseException.__getattribute__" == Value.builtin "object.__getattribute__") = false from by decide +kernel, Bool.and_false], if_neg (by decide)]
  unfold getAttrByItsOwn hookBefore
  rw [if_pos (show onTheHeap (Value.ref C) = true from rfl)]
  refine wpAny_bind (Looks.here (s := { s with toks := s.toks + 1 }) (looks_findIn X hk) (wpAny_bind (wpAny_attempt (wpAny_holding ?_))))
  unfold callGetattribute
  rw [show (expr && onTheHeap (Value.builtin "BaseException.__getattribute__")) = false from Bool.and_false _, if_neg (by decide)]
  unfold boundAndCalled
  rw [PySem.F.excAttr_ValueError.ga.bind]
  refine wpAny_bind (wpAny_pure ?_)
  show wpAny _ _ (call (.builtin "BaseException.__getattribute__") [.ref x, .str name s.toks]) _ _ _
  refine wpAny_call (codeAny_call_builtin PySem.F.excAttr_ValueError.ga.plain PySem.F.entry_bexc_ga (@check_slot (model prog w) _ _ { s with toks := s.toks + 1 } "BaseException.__getattribute__" "BaseException" "__getattribute__" (.ref x) [.str name s.toks] [] _ (by decide +kernel) (by decide +kernel) sub (PySem.F.args_bexc_ga _ _) ?_))
  refine wpAny_bind (wpAny_pure (wpAny_bind (wpAny_pure (wpAny_bind (Looks.here (s := { s with toks := s.toks + 1 }) L0 (wpAny_bind (Looks.here (s := { s with toks := s.toks + 1 }) L1 (wpAny_pure ?_))))))))
  show wpAny _ _ (handedOut v) _ _ _
  rw [handedOut_of hh]
  exact wpAny_pure k
end
end LX
end
section
set_option Elab.async false
set_option linter.all false
set_option maxRecDepth 100000
namespace LX
open PySem PySem.Spec PyProof.Rows L2
abbrev xo (e C : Addr) (od : Option Addr) (vs : Array Value) : HO := .ext fun h => h.get? e = some { cls := .ref C, dict := od, data := .fields vs }
abbrev xf (e C dx : Addr) : HO := .ext fun h => ∃ vs, h.get? e = some { cls := .ref C, dict := some dx, data := .fields vs }
abbrev xg (e C dx : Addr) : HO := .ext fun h => ∃ vs, h.get? e = some { cls := .ref C, dict := some dx, data := .fields vs } ∧ vs[2]? = some .none
def XA (H : Hp) (a C dx : Addr) : Prop := H a = some (xf a C dx) ∨ H a = some (xg a C dx)
abbrev v0 (tt : Addr) : Array Value := #[.ref tt, .none, .none, .none, .bool false, .none]
theorem xo_ok {P : Program} {w : World} {H : Hp} {h : Heap} {e C : Addr} {od : Option Addr} {vs : Array Value} (k : h.get? e = some { cls := .ref C, dict := od, data := .fields vs }) : ObjOk P w H h e (xo e C od vs) := ⟨k, ⟨_, k⟩, fun _ _ p q => q _ p⟩
theorem xf_ok {P : Program} {w : World} {H : Hp} {h : Heap} {e C dx : Addr} {vs : Array Value} (k : h.get? e = some { cls := .ref C, dict := some dx, data := .fields vs }) : ObjOk P w H h e (xf e C dx) := ⟨⟨vs, k⟩, ⟨_, k⟩, fun _ _ p q => let ⟨vs, p⟩ := p; ⟨vs, q _ p⟩⟩
theorem xg_ok {P : Program} {w : World} {H : Hp} {h : Heap} {e C dx : Addr} {vs : Array Value} (k : h.get? e = some { cls := .ref C, dict := some dx, data := .fields vs }) (k2 : vs[2]? = some .none) : ObjOk P w H h e (xg e C dx) := ⟨⟨vs, k, k2⟩, ⟨_, k⟩, fun _ _ p q => let ⟨vs, p, p2⟩ := p; ⟨vs, q _ p, p2⟩⟩
theorem XA.get {P : Program} {w : World} {H : Hp} {h : Heap} {a C dx : Addr} (x : XA H a C dx) (ok : HOk P w H h) : ∃ vs, h.get? a = some { cls := .ref C, dict := some dx, data := .fields vs } := by
  rcases x with x | x
  · exact (ok a _ x).1
  · obtain ⟨vs, e, _⟩ := (ok a _ x).1
    exact ⟨vs, e⟩
def drp (H : Hp) (a : Addr) : Hp := fun b => if b = a then none else H b
theorem drp_same {H : Hp} {a : Addr} : drp H a a = none := if_pos rfl
theorem drp_ne {H : Hp} {a b : Addr} (n : b ≠ a) : drp H a b = H b := if_neg n
theorem drp_some {H : Hp} {a b : Addr} {o : HO} (e : drp H a b = some o) : b ≠ a ∧ H b = some o := by
  by_cases n : b = a
  · rw [n, drp_same] at e
    cases e
  · rw [drp_ne n] at e
    exact ⟨n, e⟩
theorem xmro_tl {bm : List Value} (e : xmro bm = true) : Tl PySem.F.excBase_Exception bm := by
  have main : ∀ {l : List Value}, xmro l = true → l.contains (.type "Exception") = true ∧ l.contains (.type "BaseException") = true ∧ l.contains (.type "AttributeError") = false ∧ l.contains (.type "NameError") = false := by
    intro l
    induction l with
    | nil => intro e; cases e
    | cons c r ih =>
      intro e
      cases c with
      | ref c =>
        have ih := ih (by cases r <;> first | exact e | cases e)
        refine ⟨?_, ?_, ?_, ?_⟩
        · rw [List.contains_cons, ih.1, Bool.or_true]
        · rw [List.contains_cons, ih.2.1, Bool.or_true]
        · rw [List.contains_cons, ih.2.2.1]; rfl
        · rw [List.contains_cons, ih.2.2.2]; rfl
      | type a =>
        match r, e with
        | [.type b, .type c], e =>
          unfold xmro at e
          simp only [Bool.and_eq_true, beq_iff_eq] at e
          obtain ⟨⟨rfl, rfl⟩, rfl⟩ := e
          decide +kernel
      | _ => cases e
  exact ⟨(main e).1, (main e).2.1, (main e).2.2.1, (main e).2.2.2⟩
theorem xmro_ref {c : Addr} {r : List Value} (e : xmro r = true) : xmro (.ref c :: r) = true := by cases r <;> first | exact e | cases e
structure XC (K : PySem.W.Frag) (C : Addr) : Prop where
  obj : ∃ nm q N bs bm sn sub ab col dd k0 k1 k2 k3 k5, K.lookup C = some (excClassObj nm q C N bs bm true sn sub ab col dd k0 k1 k2 k3 k5 "Exception.__new__") ∧ xmro bm = true
  sa : PySem.W.findIn K (.ref C) "__setattr__" = some (some (.builtin "object.__setattr__"))
  ga : PySem.W.findIn K (.ref C) "__getattribute__" = some (some (.builtin "BaseException.__getattribute__"))
  gh : PySem.W.findIn K (.ref C) "__getattr__" = some none
  na : PySem.W.findIn K (.ref C) "answer" = some none
  nk : PySem.W.findIn K (.ref C) "kind" = some none
  np : PySem.W.findIn K (.ref C) "place" = some none
def XNm (x : Str) : Prop := x = "answer" ∨ x = "kind" ∨ x = "place"
theorem XC.no {K : PySem.W.Frag} {C : Addr} {x : Str} (c : XC K C) (h : XNm x) : PySem.W.findIn K (.ref C) x = some none := by
  rcases h with rfl | rfl | rfl
  · exact c.na
  · exact c.nk
  · exact c.np
structure XS (K : PySem.W.Frag) (C CO : Addr) : Prop extends XC K C where
  o : XC K CO
  sub : PySem.W.subIn K (.ref C) (.ref CO) = some true
theorem XC.cls {K : PySem.W.Frag} {C : Addr} (c : XC K C) : ∃ cd, PySem.W.clsIn K C = some cd ∧ xmro cd.mro = true ∧ cd.hasDict = true := by
  obtain ⟨nm, q, N, bs, bm, sn, sub, ab, col, dd, k0, k1, k2, k3, k5, l, m⟩ := c.obj
  exact ⟨_, by unfold PySem.W.clsIn; rw [l], (xmro_ref (c := C) m : xmro (.ref C :: bm) = true), rfl⟩
def CXf (g : Bool) (P : Program) (w : World) : CXT := fun outer H s E e s' => ∃ (a C dx : Addr) (H' : Hp) (T : Addr), e = .ref a ∧ s'.os = s.os ∧ AllBare s'.gens ∧ Un (frs outer) [] H H' s.heap s'.heap ∧ HOk P w H' s'.heap ∧
  Fl g s'.heap a (.ref C) (some dx) T ∧ s.heap.objs.size ≤ a ∧ s.heap.objs.size ≤ T ∧ H' a = none ∧ H' T = none ∧ E (.ref C) (some dx) H'
section
variable {X : Cx} {pins : List (Addr × Obj)} {σ : L2.St} {H H' : Hp} {s s' : Shared}
theorem funs_un {base h h' : Heap} : ∀ {l : List Env}, h.FunFrames base l → (∀ b ∈ frs l, ∀ o, h.get? b = some o → ∃ sl, h'.get? b = some { o with slots := sl }) → h'.FunFrames base l
  | [], _, _ => trivial
  | env :: r, hl, k => by
    obtain ⟨hk, ⟨L, o, hf, hn, ho, hd⟩, hr⟩ := hl
    obtain ⟨sl, e⟩ := k L (by unfold frs; rw [List.filterMap_cons, hf]; exact List.mem_cons_self) o ho
    exact ⟨hk, ⟨L, _, hf, hn, e, hd⟩, funs_un hr fun b hb => k b (by unfold frs; rw [List.filterMap_cons, hf]; exact List.mem_cons_of_mem _ hb)⟩
theorem hok_stp {P : Program} {w : World} {h h' : Heap} {fs : List Addr} {a : Addr} {ch : List Addr} (ok : HOk P w H h) (st : Stp fs a ch h h') (na : H a = none) (nc : ∀ b ∈ ch, H b = none) (nf : ∀ b ∈ fs, H b = none) : HOk P w H h' := fun b o e => by
  have tr : ∀ c u, H c = some u → ∀ v, h.get? c = some v → h'.get? c = some v := fun c u q v z => st.keep c v (fun y => by rw [y, na] at q; cases q) (fun y => by rw [nc c y] at q; cases q) (fun y => by rw [nf c y] at q; cases q) z
  refine (ok b o e).stay (fun c u hc z => ?_) (fun _ q => q) fun _ _ q => q
  rcases hc with rfl | hc
  · exact tr c o e u z
  · exact tr c _ hc u z
theorem hok_drp {P : Program} {w : World} {h : Heap} {a : Addr} {φ : Heap → Prop} (ok : HOk P w H h) (ha : H a = some (.ext φ)) : HOk P w (drp H a) h := fun b o e => by
  obtain ⟨n, e⟩ := drp_some e
  refine (ok b o e).stay (fun _ _ _ z => z) (fun c q => ?_) fun c xs q => ?_
  · rw [drp_ne (fun y => by rw [y, ha] at q; cases q)]
    exact q
  · rw [drp_ne (fun y => by rw [y, ha] at q; cases q)]
    exact q
end
section
variable {P : Program} {w : World} {K : PySem.W.Frag} {mg : Str → Option Value} {base : Heap} {N : List Str} {qual : Str} {scope : Scope} {f : Addr} {cd : Value} {A : Around} {outer : List Env} {s0 : Shared} {H0 : Hp} {E : XK} {g g' : Bool}
def Thrown (g : Bool) (X : Cx) (E : XK) : Prop := ∀ (pins : List (Addr × Obj)) (σ : L2.St) (H : Hp) (s : Shared) (a C dx : Addr) (vs : Array Value), Inv X pins σ H s → X.s_0.heap.objs.size ≤ a → H a = some (xo a C (some dx) vs) → vs[1]? = some .none → (g = false → vs[2]? = some .none) →
  E (.ref C) (some dx) (drp H a) → X.xe (.ref a) s
theorem thrown : Thrown g (cxOf (CXf g P w) P w K mg base N qual scope f cd A outer s0 H0 E) E := by
  intro pins σ H s a C dx vs I ha hx h1 h2 hE
  have he : s.heap.get? a = some { cls := .ref C, dict := some dx, data := .fields vs } := (I.hok a _ hx).1
  show wpAny (model P w) _ (leaving _ (.ref a)) _ _ s
  have fun0 := I.stack
  refine leave_step (base := base) (L := s0.heap.objs.size) (head := .none) I.ok.frames fun0 rfl (.inl ⟨he, h1, rfl, h2⟩) fun h' T hT fl st => ?_
  have nL : ∀ b ∈ frs (cxOf (CXf g P w) P w K mg base N qual scope f cd A outer s0 H0 E).stack, H b = none := I.stkFree
  have old : ∀ b o, s0.heap.get? b = some o → b ≠ a := fun b o e => Nat.ne_of_lt (Nat.lt_of_lt_of_le (Heap.lt_size e) ha)
  have notL : ∀ b o, s0.heap.get? b = some o → b ∉ frs outer → b ∉ frs (cxOf (CXf g P w) P w K mg base N qual scope f cd A outer s0 H0 E).stack := fun b o e n m => by
    rcases List.mem_cons.mp (I.stkSub b m) with z | z
    · exact absurd (Heap.lt_size e) (by rw [z]; exact Nat.lt_irrefl _)
    · exact n z
  have B := I.base
  have nex : ∀ b : Addr, b ∉ (cxOf (CXf g P w) P w K mg base N qual scope f cd A outer s0 H0 E).ex := fun b z => absurd (show b ∈ ([] : List Addr) from z) (by simp)
  refine ⟨a, C, dx, drp H a, T, rfl, I.os, I.bare, ⟨fun b o e n nf _ => ?_, fun b o e n nf _ => ?_, fun b o e n _ => ?_, fun b o e _ => ?_, fun b xs e => ?_, fun b o u e => ?_, fun b ps e => ?_⟩, ?_, fl, ha, Nat.le_trans I.sz hT, drp_same, ?_, hE⟩
  · exact st.keep b o (old b o e) (by simp) (notL b o e nf) (B.keep b o e n nf (nex b))
  · obtain ⟨sl, e1⟩ := B.slot b o e n nf (nex b)
    obtain ⟨sl', e2⟩ := st.slot b _ (old b o e) (by simp) e1
    exact ⟨sl', e2⟩
  · rw [drp_ne (old b o e)]
    exact B.free b o e n (nex b)
  · obtain ⟨o', e1⟩ := B.there b o e (nex b)
    obtain ⟨sl', e2⟩ := st.slot b _ (old b o e) (by simp) e1
    exact ⟨_, e2⟩
  · have q := B.tups b xs e
    rw [drp_ne (fun y => by rw [y, hx] at q; cases q)]
    exact q
  · have q := B.frzs b o u e
    rw [drp_ne (fun y => by rw [y, hx] at q; cases q)]
    exact q
  · obtain ⟨m, q⟩ := B.tbls b ps e
    exact ⟨m, by rw [drp_ne (fun y => by rw [y, hx] at q; cases q)]; exact q⟩
  · refine hok_stp (hok_drp I.hok hx) st drp_same (fun b hb => absurd (show b ∈ ([] : List Addr) from hb) (by simp)) fun b hb => ?_
    by_cases n : b = a
    · rw [n]; exact drp_same
    · rw [drp_ne n]; exact nL b hb
  · by_cases n : T = a
    · rw [n]; exact drp_same
    · rw [drp_ne n]; exact I.hok.fresh hT
theorem passX (hgg : g' = true → g = true) : Passes (CXf g' P w) (cxOf (CXf g P w) P w K mg base N qual scope f cd A outer s0 H0 E) E := by
  intro pins σ H s e s' I h
  obtain ⟨a, C, dx, H', T0, rfl, os', bare', un, hok, fl, la, lT, na, nT, hE⟩ := h
  have fl : Fl g s'.heap a (.ref C) (some dx) T0 := fl.mono hgg
  show wpAny (model P w) _ (leaving _ (.ref a)) _ _ s'
  have fr' : ∀ b ∈ frs (cxOf (CXf g P w) P w K mg base N qual scope f cd A outer s0 H0 E).stack, ∀ o, s.heap.get? b = some o → ∃ sl, s'.heap.get? b = some { o with slots := sl } := fun b hb o e => un.any e (I.stkFree b hb) (by simp)
  refine leave_step (base := base) (L := s0.heap.objs.size) (head := .ref T0) (vs := #[]) I.ok.frames (funs_un I.stack fr') rfl (.inr ⟨T0, rfl, fl⟩) fun h' T hT fl' st => ?_
  have szs : s0.heap.objs.size ≤ s.heap.objs.size := I.sz
  have old : ∀ b o, s.heap.get? b = some o → b ≠ a ∧ b ∉ [T0] := fun b o e => ⟨Nat.ne_of_lt (Nat.lt_of_lt_of_le (Heap.lt_size e) la), fun z => Nat.ne_of_lt (Nat.lt_of_lt_of_le (Heap.lt_size e) lT) (by simpa using z)⟩
  have notL : ∀ b o, s0.heap.get? b = some o → b ∉ frs outer → b ∉ frs (cxOf (CXf g P w) P w K mg base N qual scope f cd A outer s0 H0 E).stack := fun b o e n m => by
    rcases List.mem_cons.mp (I.stkSub b m) with z | z
    · exact absurd (Heap.lt_size e) (by rw [z]; exact Nat.lt_irrefl _)
    · exact n z
  have B := I.base
  have nex : ∀ b : Addr, b ∉ (cxOf (CXf g P w) P w K mg base N qual scope f cd A outer s0 H0 E).ex := fun b z => absurd (show b ∈ ([] : List Addr) from z) (by simp)
  have szs' : s.heap.objs.size ≤ s'.heap.objs.size := by
    obtain ⟨_, _, _, hea, _⟩ := fl
    exact Nat.le_of_lt (Nat.lt_of_le_of_lt la (Heap.lt_size hea))
  refine ⟨a, C, dx, H', T, rfl, os'.trans I.os, bare', ⟨fun b o e n nf _ => ?_, fun b o e n nf _ => ?_, fun b o e n _ => ?_, fun b o e _ => ?_, fun b xs e => un.tups b xs (B.tups b xs e), fun b o u e => un.frzs b o u (B.frzs b o u e), fun b ps e => ?_⟩, ?_, fl', Nat.le_trans szs la, Nat.le_trans szs (Nat.le_trans szs' hT), na, hok.fresh hT, hE⟩
  · have e1 := B.keep b o e n nf (nex b)
    have n1 := B.free b o e n (nex b)
    have e2 := un.keep b o e1 n1 (notL b o e nf) (by simp)
    exact st.keep b o (old b o e1).1 (old b o e1).2 (notL b o e nf) e2
  · obtain ⟨sl, e1⟩ := B.slot b o e n nf (nex b)
    have n1 := B.free b o e n (nex b)
    obtain ⟨sl2, e2⟩ := un.any e1 n1 (by simp)
    obtain ⟨sl3, e3⟩ := st.slot b _ (old b _ e1).1 (old b _ e1).2 e2
    exact ⟨sl3, e3⟩
  · obtain ⟨o', e1⟩ := B.there b o e (nex b)
    exact un.free b o' e1 (B.free b o e n (nex b)) (by simp)
  · obtain ⟨o', e1⟩ := B.there b o e (nex b)
    obtain ⟨o2, e2⟩ := un.there b o' e1 (by simp)
    obtain ⟨sl3, e3⟩ := st.slot b _ (old b _ e1).1 (old b _ e1).2 e2
    exact ⟨_, e3⟩
  · obtain ⟨m1, e1⟩ := B.tbls b ps e
    obtain ⟨m2, e2⟩ := un.tbls b _ e1
    exact ⟨m1 ++ m2, by rw [e2, Array.append_assoc]⟩
  · refine hok_stp hok st na (fun b hb => by have z : b = T0 := by simpa using hb
                                             rw [z]; exact nT) fun b hb => ?_
    obtain ⟨_, o, ho, _⟩ := I.stack.mem hb
    exact un.free b o ho (I.stkFree b hb) (by simp)
theorem ownX : PassesOwn (model P w) (cxOf (CXf g P w) P w K mg base N qual scope f cd A outer s0 H0 E).A (cxOf (CXf g P w) P w K mg base N qual scope f cd A outer s0 H0 E).env (cxOf (CXf g P w) P w K mg base N qual scope f cd A outer s0 H0 E).xe := PassesOwn.leaving
end
end LX
end
section
set_option Elab.async false
set_option linter.all false
set_option maxRecDepth 100000
namespace LX
open PySem PySem.Spec PyProof.Rows L2
section
variable {X : Cx} {CX : CXT} {k : Nat} {fI C : Addr} {fd : FuncData} {ps : List Str} {sp : Sp} {E : XK} {x : Str} {np cpos pos : Pos} {e : Expr} {es : List Expr} {t : TA} {g : Bool} {pins : List (Addr × Obj)} {σ : L2.St} {H : Hp} {s : Shared}
structure XM (K : PySem.W.Frag) (C f : Addr) : Prop where
  xc : XC K C
  init : PySem.W.findIn K (.ref C) "__init__" = some (some (.ref f))
  fn : PySem.W.isFn K (.ref f) = true
  kp : PySem.W.keepIn K (.ref C) = true
theorem run_makeX {R : Addr → Addr → Hp → Prop} {us : List Value} {vs : List V} (M : XM X.K C fI) (F : FnOk X.prog X.w X.K X.mg X.base CX k fI fd ps sp) (hr : Room (k + 1) X.A) (hb : Binds X.K fd ps []) (hx : Passes CX X E) (I : Inv X pins σ H s) (r : Vals vs us) (hz : vs.length ≤ sizeLine)
    (h : ∀ a tt, H a = none → sp (.ref a :: vs) (upd H a (xo a C none (v0 tt))) (fun v H2 => v = .non ∧ R a tt H2) E) :
    wpAny (model X.prog X.w) X.A (call (.ref C) us) (EP X pins σ fun v H2 => ∃ a tt, v = .ref a ∧ X.s_0.heap.objs.size ≤ a ∧ R a tt H2) X.xe s := by
  have hq := h (s.heap.objs.size + 1) s.heap.objs.size (I.hok.fresh (Nat.le_succ _))
  have la : X.s_0.heap.objs.size ≤ s.heap.objs.size + 1 := Nat.le_succ_of_le I.sz
  have e2 : ((s.heap.push (xTup us)).push (xObj C none s.heap.objs.size)).get? (s.heap.objs.size + 1) = some (xObj C none s.heap.objs.size) := by
    have z := Heap.get?_push_size (s.heap.push (xTup us)) (o := xObj C none s.heap.objs.size) rfl
    rwa [Heap.size_push] at z
  have I2 : Inv X pins σ (upd H (s.heap.objs.size + 1) (xo (s.heap.objs.size + 1) C none (v0 s.heap.objs.size))) { s with heap := (s.heap.push (xTup us)).push (xObj C none s.heap.objs.size) } :=
    I.laid (t' := s.toks) (fun b u q => Heap.get?_push_of_some _ (Heap.get?_push_of_some _ q)) (Nat.le_succ _) (xo_ok e2)
  have r2 : Vals (V.ref (s.heap.objs.size + 1) :: vs) (Value.ref (s.heap.objs.size + 1) :: us) := .cons rfl r
  have hl : ((Value.ref (s.heap.objs.size + 1) :: us) ++ []).length = ps.length := by
    have z := r2.length
    rw [F.len _ _ _ _ hq] at z
    rw [List.append_nil]
    exact z.symm
  have hbd := hb { s with heap := (s.heap.push (xTup us)).push (xObj C none s.heap.objs.size) } (Value.ref (s.heap.objs.size + 1) :: us) I2.kIn hl
  rw [List.append_nil] at hbd
  obtain ⟨nm, q, N, bs, bm, sn, sub, ab, col, dd, k0, k1, k2, k3, k5, lC, mC⟩ := M.xc.obj
  have run := F.run _ X.stack _ _ ⟨Value.ref (s.heap.objs.size + 1) :: us, []⟩ (Value.ref (s.heap.objs.size + 1) :: us) _ _ E (hr.make C us []) (I2.env0.make C us []) hbd r2 hq
  refine wpAny_call ?_
  have KX := I.kIn
  obtain ⟨hh, g, d, tk, os⟩ := s
  refine call_x (xmro_tl mC) (by rw [← r.length]; exact hz) (KX _ _ lC) (PySem.W.looks_findIn KX M.init) (fun self => PySem.W.bind_fn KX self (beq_iff_eq.mp M.fn)) (codeAny_mono run fun r' s' hq' => ?_)
  cases r' with
  | error e => exact hx pins σ _ _ e s' I2 hq'
  | ok fl =>
    cases fl with
    | ret u =>
      obtain ⟨v, H', I3, rv, ev, q3⟩ := I2.after hq'
      subst ev
      exact ⟨rv, ⟨V.ref _, H', I3, rfl, _, _, rfl, la, q3⟩⟩
    | next => exact False.elim hq'
    | brk => exact False.elim hq'
    | cont => exact False.elim hq'
def tRaise (C : Addr) (sp : Sp) (E : XK) (t : TA) : TS := fun _ σ H => t σ H fun vs H1 => vs.length ≤ sizeLine ∧ ∀ a tt, H1 a = none →
  sp (.ref a :: vs) (upd H1 a (xo a C none (v0 tt))) (fun v H2 => v = .non ∧ ∃ dx, H2 a = some (xo a C (some dx) (v0 tt)) ∧ E (.ref C) (some dx) (drp H2 a)) E
theorem raise_core {ec : Expr} {Q : Flow → Shared → Prop} (hc : X.calm = true) (M : XM X.K C fI) (ht : Thrown g X E) (I : Inv X pins σ H s)
    (h : wpAny (model X.prog X.w) X.A (eval ec X.env) (EP X pins σ fun v H2 => ∃ a tt, v = .ref a ∧ X.s_0.heap.objs.size ≤ a ∧ ∃ dx, H2 a = some (xo a C (some dx) (v0 tt)) ∧ E (.ref C) (some dx) (drp H2 a)) X.xe s) :
    wpAny (model X.prog X.w) X.A (exec (.Raise (some ec) none pos) X.env) Q X.xe s := by
  obtain ⟨nm, q, N, bs, bm, sn, sub, ab, col, dd, k0, k1, k2, k3, k5, lC, mC⟩ := M.xc.obj
  have main : wpAny (model X.prog X.w) X.A (eval ec X.env) (fun v s1 => ∃ e od vs, v = .ref e ∧ s1.heap.get? C = some (excClassObj nm q C N bs bm true sn sub ab col dd k0 k1 k2 k3 k5 "Exception.__new__") ∧
      s1.heap.get? e = some { cls := .ref C, dict := od, data := .fields vs } ∧ vs[1]? = some .none ∧ X.xe (.ref e) s1) X.xe s := by
    refine thn h fun u s1 ⟨v, H2, I2, rv, a, tt, ev, la, dx, ha, hE⟩ => ?_
    subst ev
    obtain rfl : u = Value.ref a := rv
    exact ⟨a, some dx, v0 tt, rfl, I2.kIn _ _ lC, (I2.hok a _ ha).1, rfl, ht pins σ H2 s1 a C dx (v0 tt) I2 la ha rfl (fun _ => rfl) hE⟩
  rw [arm_exec_Raise]
  first
    | exact wpAny_bind (wpAny_standAt (raiseStmt_x (xmro_obj mC).2.1 (I.ok.hd hc) (wpAny_bind (thn main fun v s3 h3 => wpAny_bind (wpAny_standAt (wpAny_pure h3))))))
    | (simp only [evalOpt, Option.map]; exact wpAny_bind (wpAny_standAt (raiseStmt_x (xmro_obj mC).2.1 (I.ok.hd hc) (wpAny_bind (thn main fun v s3 h3 => wpAny_bind (wpAny_standAt (wpAny_pure h3)))))))
theorem ps_raise (hc : X.calm = true) (M : XM X.K C fI) (F : FnOk X.prog X.w X.K X.mg X.base CX k fI fd ps sp) (hr : Room (k + 1) X.A) (hb : Binds X.K fd ps []) (hx : Passes CX X E) (ht : Thrown g X E) (hg : Gl X x) (hm : X.mg x = some (.ref C)) (ha : PA X (e :: es) t)
    (hdb : (x == ("__debug__" : Str)) = false := by decide) (he : starEach (e :: es) X.env = (false, eval e X.env) :: starEach es X.env := by rfl) (hpl : (backTo cpos (starEach es X.env)).any (·.1) = false := by rfl) :
    PS X (.Raise (some (.Call (.Name x np) (e :: es) [] cpos)) none pos) (tRaise C sp E t) := by
  intro pins s σ H D I h
  refine raise_core hc M ht I (wpAny_Call_Name_kw (ld_glob I hg hm ?_ hdb))
  refine PySem.W.callWith_K (h₀ := X.base) I.ok.mod.kin M.kp (thn (ha cpos pins s σ H _ I h) fun us s1 ⟨vs, H1, I1, r, hz, q⟩ => ⟨I1.kIn, ?_⟩) he hpl
  exact run_makeX M F hr hb hx I1 r hz q
theorem ps_raise0 (hc : X.calm = true) (M : XM X.K C fI) (F : FnOk X.prog X.w X.K X.mg X.base CX k fI fd ps sp) (hr : Room (k + 1) X.A) (hb : Binds X.K fd ps []) (hx : Passes CX X E) (ht : Thrown g X E) (hg : Gl X x) (hm : X.mg x = some (.ref C))
    (hdb : (x == ("__debug__" : Str)) = false := by decide) :
    PS X (.Raise (some (.Call (.Name x np) [] [] cpos)) none pos) (tRaise C sp E tNil) := by
  intro pins s σ H D I h
  refine raise_core hc M ht I (wpAny_Call_Name_kw (ld_glob I hg hm ?_ hdb))
  exact PySem.W.callWith_K0 I.kIn M.kp (run_makeX (us := []) (vs := []) M F hr hb hx I .nil (Nat.zero_le _) h.2)
end
end LX
end
section
set_option Elab.async false
set_option linter.all false
set_option maxRecDepth 100000
namespace LX
open PySem PySem.Spec PyProof.Rows L2
section
variable {X : Cx} {pins : List (Addr × Obj)} {σ : L2.St} {H : Hp} {s : Shared}
theorem mem_lookup {α : Type} {z : Str} {v : α} : ∀ {fs : List (Str × α)}, fs.lookup z = some v → z ∈ fs.map (·.1)
  | [], e => by cases e
  | (g, x) :: r, e => by
    rw [List.lookup_cons] at e
    by_cases q : (z == g) = true
    · rw [eq_of_beq q]; exact List.mem_cons_self
    · rw [Bool.not_eq_true] at q
      rw [q] at e
      exact List.mem_cons_of_mem _ (mem_lookup (fs := r) e)
theorem track {a : Addr} {o : HO} (I : Inv X pins σ H s) (na : H a = none) (la : X.s_0.heap.objs.size ≤ a) (nL : a ≠ X.env.locals) (nC : ∀ x c, X.env.cells.lookup x = some c → c ≠ a) (nP : ∀ p ∈ X.pn ++ pins, p.1 ≠ a)
    (new : ObjOk X.prog X.w (upd H a o) s.heap a o) : Inv X pins σ (upd H a o) s := by
  refine ⟨I.ok, I.os, I.bare, ⟨I.base.keep, I.base.slot, fun b u e n hx => ?_, I.base.there, fun b xs e => ?_, fun b u v e => ?_, fun b ps e => ?_⟩, I.loc, I.cell, ?_, fun x c e => ?_, fun p hp => ?_, fun b u e => ?_, I.len⟩
  · rw [upd_ne (Nat.ne_of_lt (Nat.lt_of_lt_of_le (Heap.lt_size e) la))]
    exact I.base.free b u e n hx
  · have q := I.base.tups b xs e
    rw [upd_ne (ne_of_none q na)]
    exact q
  · have q := I.base.frzs b u v e
    rw [upd_ne (ne_of_none q na)]
    exact q
  · obtain ⟨m, q⟩ := I.base.tbls b ps e
    exact ⟨m, by rw [upd_ne (ne_of_none q na)]; exact q⟩
  · rw [upd_ne (Ne.symm nL)]
    exact I.free
  · rw [upd_ne (nC x c e)]
    exact I.freeC x c e
  · obtain ⟨h1, h2, h3, h4, h5⟩ := I.pin p hp
    exact ⟨h1, by rw [upd_ne (nP p hp)]; exact h2, h3, h4, h5⟩
  · by_cases hb : b = a
    · subst hb
      rw [upd_same] at e
      cases e
      exact new
    · rw [upd_ne hb] at e
      refine (I.hok b u e).stay (fun _ _ _ z => z) (fun c q => ?_) fun c xs q => ?_
      · rw [upd_ne (ne_of_none q na)]
        exact q
      · rw [upd_ne (ne_of_none q na)]
        exact q
def sXset (K : PySem.W.Frag) (nm : Str) (ta tv : TE) : TS := fun D σ H => tv σ H fun y H1 => ta σ H1 fun x H2 => ∃ a C vs, x = .ref a ∧ XC K C ∧ H2 a = some (xo a C none vs) ∧
  ∀ dx, H2 dx = none → dx ≠ a → D.nx σ (upd (upd H2 dx (.xd [(nm, y)])) a (xo a C (some dx) vs))
theorem xset_ok {a C : Addr} {vs : Array Value} {y : V} {u : Value} {nm : Str} {A : Around} {E : Value → Shared → Prop} {Q : Unit → Shared → Prop} (I : Inv X pins σ H s) (c : XC X.K C) (hnm : XNm nm) (ea : H a = some (xo a C none vs)) (ry : RelV y u)
    (k : ∀ dx s', H dx = none → dx ≠ a → Inv X pins σ (upd (upd H dx (.xd [(nm, y)])) a (xo a C (some dx) vs)) s' → Q () s') : wpAny (model X.prog X.w) A (setAttr (.ref a) nm u) Q E s := by
  have hx : s.heap.get? a = some { cls := .ref C, dict := none, data := .fields vs } := (I.hok a _ ea).1
  obtain ⟨cd, hc, hm, hd⟩ := c.cls
  refine set_x I.kIn hx hc hm hd c.sa (c.no hnm) fun h' e1 n1 keep => ?_
  have nd : H s.heap.objs.size = none := I.hok.fresh (Nat.le_refl _)
  have nda : s.heap.objs.size ≠ a := Nat.ne_of_gt (Heap.lt_size hx)
  have old : ∀ b o, s.heap.get? b = some o → b ≠ s.heap.objs.size := fun b o e => Nat.ne_of_lt (Heap.lt_size e)
  refine k s.heap.objs.size _ nd nda (I.un (t' := s.toks + 2) ⟨fun b o e n _ _ => ?_, fun b o e n _ _ => ?_, fun b o e n _ => ?_, fun b o e _ => ?_, fun b xs e => ?_, fun b o v e => ?_, fun b ps e => ?_⟩ fun b o e => ?_)
  · exact keep b o (fun z => by rw [z, ea] at n; cases n) e
  · exact ⟨o.slots, keep b o (fun z => by rw [z, ea] at n; cases n) e⟩
  · rw [upd_ne (fun z => by rw [z, ea] at n; cases n), upd_ne (old b o e)]
    exact n
  · by_cases z : b = a
    · exact ⟨_, by rw [z]; exact e1⟩
    · exact ⟨o, keep b o z e⟩
  · rw [upd_ne (fun z => by rw [z, ea] at e; cases e), upd_ne (ne_of_none e nd)]
    exact e
  · rw [upd_ne (fun z => by rw [z, ea] at e; cases e), upd_ne (ne_of_none e nd)]
    exact e
  · exact ⟨#[], by rw [upd_ne (fun z => by rw [z, ea] at e; cases e), upd_ne (ne_of_none e nd), e]; simp⟩
  · by_cases z : b = a
    · subst z
      rw [upd_same] at e
      cases e
      exact xo_ok e1
    · rw [upd_ne z] at e
      by_cases z2 : b = s.heap.objs.size
      · subst z2
        rw [upd_same] at e
        cases e
        refine ⟨_, n1, fun g => ?_⟩
        show RelO (List.lookup g [(nm, y)]) (if g = nm then some u else none)
        by_cases q : g = nm
        · rw [if_pos q, q, List.lookup_cons, show (nm == nm) = true from beq_self_eq_true nm]
          exact ry
        · rw [if_neg q, List.lookup_cons, show (g == nm) = false from beq_eq_false_iff_ne.mpr q]
          exact True.intro
      · rw [upd_ne z2] at e
        refine (I.hok b o e).stay (fun c' v hc' q => ?_) (fun c' q => ?_) fun c' xs q => ?_
        · refine keep c' v ?_ q
          rcases hc' with y1 | y1
          · rw [y1]; exact z
          · intro y2
            rw [y2, ea] at y1
            cases y1
        · rw [upd_ne (fun y2 => by rw [y2, ea] at q; cases q), upd_ne (ne_of_none q nd)]
          exact q
        · rw [upd_ne (fun y2 => by rw [y2, ea] at q; cases q), upd_ne (ne_of_none q nd)]
          exact q
theorem ps_xset {o value : Expr} {ta tv : TE} {nm : Str} {pos pos' : Pos} (hnm : XNm nm) (ha : PE X o ta) (hv : PE X value tv) (hs : swapsWith value (some (.Attribute o nm pos')) pos.line X.env = pure false) :
    PS X (.Assign [.Attribute o nm pos'] value pos) (sXset X.K nm ta tv) := by
  intro pins s σ H D I h
  refine plainObj_wpAny_Assign_Attribute (thn (hv pins s σ H _ I h) fun u s1 ⟨y, H1, I1, ry, q1⟩ => thn (ha pins s1 σ H1 _ I1 q1) fun w' s2 ⟨x, H2, I2, rx, a, C, vs, ex, c, ea, q2⟩ => ?_) hs
  subst ex
  obtain rfl : w' = Value.ref a := rx
  exact xset_ok I2 c hnm ea ry fun dx s' n1 n2 I3 => ⟨_, _, I3, q2 dx n1 n2⟩
def sXset2 (K : PySem.W.Frag) (nm : Str) (ta tv : TE) : TS := fun D σ H => tv σ H fun y H1 => ta σ H1 fun x H2 => ∃ a C vs dx fs, x = .ref a ∧ XC K C ∧ H2 a = some (xo a C (some dx) vs) ∧ H2 dx = some (.xd fs) ∧ fs.length < 1000 ∧
  D.nx σ (upd H2 dx (.xd (putF nm y fs)))
theorem xset2_ok {a C dx : Addr} {vs : Array Value} {fs : List (Str × V)} {y : V} {u : Value} {nm : Str} {A : Around} {E : Value → Shared → Prop} {Q : Unit → Shared → Prop} (I : Inv X pins σ H s) (c : XC X.K C) (hnm : XNm nm) (ea : H a = some (xo a C (some dx) vs)) (ed : H dx = some (.xd fs)) (hl : fs.length < 1000) (ry : RelV y u)
    (k : ∀ s', Inv X pins σ (upd H dx (.xd (putF nm y fs))) s' → Q () s') : wpAny (model X.prog X.w) A (setAttr (.ref a) nm u) Q E s := by
  have hx : s.heap.get? a = some { cls := .ref C, dict := some dx, data := .fields vs } := (I.hok a _ ea).1
  obtain ⟨mA, ns, rel⟩ := I.hok dx _ ed
  obtain ⟨cd, hc, hm, hd⟩ := c.cls
  have wi : PySem.Within mA (fs.map (·.1)) := fun z hz => by
    have r := rel z
    cases e : fs.lookup z with
    | none =>
      rw [e] at r
      cases q : mA z with
      | none => exact absurd q hz
      | some _ => rw [q] at r; exact r.elim
    | some v => exact mem_lookup e
  have dxa : dx ≠ a := fun z => by
    rw [z, ea] at ed
    cases ed
  refine set_x2 I.kIn hx ns wi (by rw [List.length_map]; exact hl) hc hm hd c.sa (c.no hnm) fun h' n1 sb => ?_
  refine k _ (I.un (t' := s.toks + 2) ⟨fun b o e n _ _ => ?_, fun b o e n _ _ => ?_, fun b o e n _ => ?_, fun b o e _ => ?_, fun b xs e => ?_, fun b o v e => ?_, fun b ps e => ?_⟩ fun b o e => ?_)
  · exact (sb.2 b (fun z => by rw [z, ed] at n; cases n)).trans e
  · exact ⟨o.slots, (sb.2 b (fun z => by rw [z, ed] at n; cases n)).trans e⟩
  · rw [upd_ne (fun z => by rw [z, ed] at n; cases n)]
    exact n
  · by_cases z : b = dx
    · obtain ⟨o', _, _, q, _⟩ := id n1
      exact ⟨o', by rw [z]; exact q⟩
    · exact ⟨o, (sb.2 b z).trans e⟩
  · rw [upd_ne (fun z => by rw [z, ed] at e; cases e)]
    exact e
  · rw [upd_ne (fun z => by rw [z, ed] at e; cases e)]
    exact e
  · exact ⟨#[], by rw [upd_ne (fun z => by rw [z, ed] at e; cases e), e]; simp⟩
  · by_cases z : b = dx
    · subst z
      rw [upd_same] at e
      cases e
      refine ⟨_, n1, fun g => ?_⟩
      show RelO ((putF nm y fs).lookup g) (if g = nm then some u else mA g)
      rw [lookup_putF]
      by_cases q : g = nm
      · rw [if_pos q, if_pos q]; exact ry
      · rw [if_neg q, if_neg q]; exact rel g
    · rw [upd_ne z] at e
      refine (I.hok b o e).stay (fun c' v hc' q => (sb.2 c' ?_).trans q) (fun c' q => ?_) fun c' xs q => ?_
      · rcases hc' with y1 | y1
        · rw [y1]; exact z
        · intro y2
          rw [y2, ed] at y1
          cases y1
      · rw [upd_ne (fun y2 => by rw [y2, ed] at q; cases q)]
        exact q
      · rw [upd_ne (fun y2 => by rw [y2, ed] at q; cases q)]
        exact q
theorem ps_xset2 {o value : Expr} {ta tv : TE} {nm : Str} {pos pos' : Pos} (hnm : XNm nm) (ha : PE X o ta) (hv : PE X value tv) (hs : swapsWith value (some (.Attribute o nm pos')) pos.line X.env = pure false) :
    PS X (.Assign [.Attribute o nm pos'] value pos) (sXset2 X.K nm ta tv) := by
  intro pins s σ H D I h
  refine plainObj_wpAny_Assign_Attribute (thn (hv pins s σ H _ I h) fun u s1 ⟨y, H1, I1, ry, q1⟩ => thn (ha pins s1 σ H1 _ I1 q1) fun w' s2 ⟨x, H2, I2, rx, a, C, vs, dx, fs, ex, c, ea, ed, hl, q2⟩ => ?_) hs
  subst ex
  obtain rfl : w' = Value.ref a := rx
  exact xset2_ok I2 c hnm ea ed hl ry fun s' I3 => ⟨_, _, I3, q2⟩
def tXget (K : PySem.W.Frag) (nm : Str) (te : TE) : TE := fun σ H Q => te σ H fun x H1 => ∃ a C dx fs v, x = .ref a ∧ XC K C ∧ XA H1 a C dx ∧ H1 dx = some (.xd fs) ∧ fs.lookup nm = some v ∧ Q v H1
theorem pe_xget {e : Expr} {te : TE} {nm : Str} {pos : Pos} (hnm : XNm nm) (he : PE X e te) (hb : attributeBase e nm X.env (eval e X.env) = eval e X.env) : PE X (.Attribute e nm pos) (tXget X.K nm te) := by
  intro pins s σ H Q I h
  refine attr_of hb (thn (he pins s σ H _ I h) fun u s1 ⟨x, H1, I1, rx, a, C, dx, fs, v, ex, c, ea, ed, l, q⟩ => ?_)
  subst ex
  obtain rfl : u = Value.ref a := rx
  obtain ⟨vs, hx⟩ := ea.get I1.hok
  obtain ⟨mA, ns, rel⟩ := I1.hok dx _ ed
  obtain ⟨od, ho, hl⟩ := lookIn_ns ns
  obtain ⟨cd, hc, hm, hd⟩ := c.cls
  have r := rel nm
  rw [l] at r
  obtain ⟨u, hu, ru⟩ := RelO.some_of r
  exact get_x (ox := { cls := .ref C, dict := some dx, data := .fields vs }) (dx := dx) I1.kIn ⟨hx, rfl, rfl, ho⟩ hc hm hd c.ga c.gh (c.no hnm) (by rw [hl, hu]) (handed_of ru) ⟨v, H1, I1.tok _, ru, q⟩
structure XB (K : PySem.W.Frag) (C f : Addr) : Prop where
  g : PySem.W.specialIn K (.ref C) "__getattribute__" = some (some (.builtin "type.__getattribute__"))
  r : PySem.W.readsIn K C (.type "type") = true
  i : PySem.W.findCls K (.ref C) (.type "type") "__init__" = some (.val (.ref f))
  kp : PySem.W.keepIn K (.ref f) = true
theorem pe_base {CX : CXT} {k : Nat} {f C : Addr} {fd : FuncData} {ps : List Str} {sp : Sp} {E : XK} {x : Str} {p pos apos : Pos} {e : Expr} {es : List Expr} {t : TA} {pl : Sem Bool} (B : XB X.K C f) (F : FnOk X.prog X.w X.K X.mg X.base CX k f fd ps sp) (hr : Room k X.A) (hb : Binds X.K fd ps [])
    (hx : Passes CX X E) (hg : Gl X x) (hm : X.mg x = some (.ref C)) (ha : PA X (e :: es) t) (hdb : (x == ("__debug__" : Str)) = false := by decide)
    (hst : starEach (e :: es) X.env = (false, eval e X.env) :: starEach es X.env := by rfl) (hpl : (backTo pos (starEach es X.env)).any (·.1) = false := by rfl)
    (ht : eval (.Call (.Attribute (.Name x p) "__init__" apos) (e :: es) [] pos) X.env = (do
      let ov ← eval (.Name x p) X.env
      standAt apos.atName
      let (f, first) ← holding [ov] (getMethod ov "__init__" pl)
      callWith pos f first (backTo pos (starEach (e :: es) X.env)) (backToKw pos (keywordEach [] X.env))) := by rfl) :
    PE X (.Call (.Attribute (.Name x p) "__init__" apos) (e :: es) [] pos) (tCall sp [] E t) := by
  intro pins s σ H Q I h
  refine PySem.W.methodCall_KW (pl := pl) (ld_glob I hg hm ?_ hdb) ht
  refine PySem.W.method_cls I.kIn B.g (PySem.W.cls_value I.kIn B.r B.i rfl ?_)
  have I' := I.tok (s.toks + 1)
  refine PySem.W.callWith_K (first := []) (h₀ := X.base) I.ok.mod.kin B.kp (thn (ha pos pins _ σ H _ I' h) fun us s1 ⟨vs, H1, I1, r, q⟩ => ⟨I1.kIn, ?_⟩) hst hpl
  exact run_fn F hr hb .nil hx I1 r q
end
end LX
end
section
set_option Elab.async false
set_option linter.all false
set_option maxRecDepth 100000
namespace LX
open PySem PySem.Spec PyProof.Rows L2
def EX (K : PySem.W.Frag) (CO : Addr) (rt : VK) : XK := fun c od H' => ∃ C dx fs v, c = .ref C ∧ od = some dx ∧ XS K C CO ∧ H' dx = some (.xd fs) ∧ fs.lookup ("answer" : Str) = some v ∧ ∀ a o, H' a = none → rt v (upd H' a o)
section
variable {X : Cx} {pins : List (Addr × Obj)} {σ : L2.St} {H : Hp} {s : Shared}
theorem one {b c : Addr} (h : b ∈ [c]) : b = c := by simpa using h
theorem two2 {a b c : Addr} (h : b = c) : b ∈ [a, c] := by simp [h]
abbrev Cx.held (X : Cx) (e : Value) : Cx := { X with A := X.A.mark (some e), calm := false, xe := fun _ _ => False }
theorem okHeld (ok : X.Ok) (e : Value) : (Cx.held X e).Ok := { ok with hd := (fun z => Bool.noConfusion (show false = true from z)), frames := ok.frames }
theorem invHeld (I : Inv X pins σ H s) (e : Value) : Inv (Cx.held X e) pins σ H s := ⟨okHeld I.ok e, I.os, I.bare, I.base, I.loc, I.cell, I.free, I.freeC, I.pin, I.hok, I.len⟩
theorem invBack {e : Value} (ok : X.Ok) (I : Inv (Cx.held X e) pins σ H s) : Inv X pins σ H s := ⟨ok, I.os, I.bare, I.base, I.loc, I.cell, I.free, I.freeC, I.pin, I.hok, I.len⟩
abbrev Cx.bear (X : Cx) (W : Value → Shared → Prop) (pn : List (Addr × Obj)) : Cx := { X with xe := W, pn := pn }
theorem invBear (I : Inv X pins σ H s) (W : Value → Shared → Prop) : Inv (Cx.bear X W (X.pn ++ pins)) [] σ H s :=
  ⟨{ I.ok with hd := I.ok.hd }, I.os, I.bare, I.base, I.loc, I.cell, I.free, I.freeC, fun p hp => I.pin p (by simpa using hp), I.hok, I.len⟩
theorem invUnbear {W : Value → Shared → Prop} {pins' : List (Addr × Obj)} (ok : X.Ok) (I : Inv (Cx.bear X W (X.pn ++ pins)) pins' σ H s) : Inv X pins σ H s :=
  ⟨ok, I.os, I.bare, I.base, I.loc, I.cell, I.free, I.freeC, fun p hp => I.pin p (List.mem_append_left _ hp), I.hok, I.len⟩
theorem forget {h' : Heap} {t' : Nat} {m' : Str → Option Value} (I : Inv X pins σ H s) (hn : h'.Ns X.env.locals m') (sb : Heap.SameBut X.env.locals s.heap h') : Inv X pins (List.replicate X.N.length none) H { s with heap := h', toks := t' } := by
  have ne : ∀ b o, X.s_0.heap.get? b = some o → b ≠ X.env.locals := fun b o e => Nat.ne_of_lt (Nat.lt_of_lt_of_le (Heap.lt_size e) I.ok.above)
  refine ⟨I.ok, I.os, I.bare, ⟨fun b o e n hb hx => (sb.2 b (ne b o e)).trans (I.base.keep b o e n hb hx), fun b o e n hb hx => ?_, I.base.free, fun b o e hx => ?_, I.base.tups, I.base.frzs, I.base.tbls⟩, ⟨m', hn, fun i x v _ e _ => ?_⟩, fun x c e => ?_, I.free, I.freeC, fun p hp => ?_, fun b o e => ?_, List.length_replicate⟩
  · obtain ⟨sl, q⟩ := I.base.slot b o e n hb hx
    exact ⟨sl, (sb.2 b (ne b o e)).trans q⟩
  · obtain ⟨o', q⟩ := I.base.there b o e hx
    exact ⟨o', (sb.2 b (ne b o e)).trans q⟩
  · rw [List.getElem?_replicate] at e
    split at e <;> cases e
  · obtain ⟨v, o, q1, q2⟩ := I.cell x c e
    exact ⟨v, o, (sb.2 c (I.cne x c e)).trans q1, q2⟩
  · obtain ⟨h1, h2, h3, h4, h5⟩ := I.pin p hp
    exact ⟨(sb.2 p.1 h3).trans h1, h2, h3, h4, h5⟩
  · refine (I.hok b o e).stay (fun c v hc q => (sb.2 c ?_).trans q) (fun _ q => q) fun _ _ q => q
    rintro rfl
    rcases hc with z | z
    · rw [← z, I.free] at e
      cases e
    · rw [I.free] at z
      cases z
theorem caught {a C dx T : Addr} {H' : Hp} {s' : Shared} {h4 : Heap} {T4 : Addr} {g : Bool} (I : Inv X pins σ H s) (os' : s'.os = s.os) (bare' : AllBare s'.gens) (un : Un (frs X.stack) [] H H' s.heap s'.heap) (hok : HOk X.prog X.w H' s'.heap)
    (la : s.heap.objs.size ≤ a) (lT : s.heap.objs.size ≤ T) (na : H' a = none) (nT : H' T = none) (fl4 : Fl g h4 a (.ref C) (some dx) T4) (st : Stp (frs X.stack) a [T] s'.heap h4) :
    Inv X pins σ (upd H' a (xf a C dx)) { s' with heap := h4 } ∧ (g = false → Inv X pins σ (upd H' a (xg a C dx)) { s' with heap := h4 }) := by
  have I1 : Inv X pins σ H' s' := I.call' (ch := []) os' un hok bare' (fun b z => absurd z (by simp))
  have old : ∀ b o, s.heap.get? b = some o → b ≠ a ∧ b ≠ T := fun b o e => ⟨Nat.ne_of_lt (Nat.lt_of_lt_of_le (Heap.lt_size e) la), Nat.ne_of_lt (Nat.lt_of_lt_of_le (Heap.lt_size e) lT)⟩
  have hL : ∀ b, s.heap.objs.size ≤ b → b ≠ X.env.locals := fun b l => Nat.ne_of_gt (Nat.lt_of_lt_of_le I.lt l)
  have hCe : ∀ b, s.heap.objs.size ≤ b → ∀ x c, X.env.cells.lookup x = some c → c ≠ b := fun b l x c e => by
    obtain ⟨v, o, q, _⟩ := I.cell x c e
    exact Nat.ne_of_lt (Nat.lt_of_lt_of_le (Heap.lt_size q) l)
  have hP : ∀ b, s.heap.objs.size ≤ b → ∀ p ∈ X.pn ++ pins, p.1 ≠ b := fun b l p hp => Nat.ne_of_lt (Nat.lt_of_lt_of_le (Heap.lt_size (I.pin p hp).1) l)
  have fs4 : ∀ b ∈ frs X.stack, H' b = none := fun b hb => by
    obtain ⟨_, o, ho, _⟩ := I.stack.mem hb
    exact un.free b o ho (I.stkFree b hb) (by simp)
  have I2 : Inv X pins σ H' { s' with heap := h4 } := by
    obtain ⟨m, ⟨oL, es, ep, hoL, r⟩, _⟩ := id I1.loc
    have nLa : X.env.locals ≠ a := Ne.symm (hL a la)
    have nLT : X.env.locals ∉ [T] := fun z => hL T lT (one z).symm
    obtain ⟨slL, hL4⟩ := st.slot _ oL nLa nLT hoL
    refine I1.step (g' := s'.gens) (d' := s'.drawn) (t' := s'.toks) (ch := [a, T]) (fun b hb => ?_) (fun b o h1 h2 h3 e n => ?_) (fun b o h1 h2 h3 e n => ?_) (fun b o _ _ n => n) (fun b o h3 e => ?_) (fun _ _ q => q) (fun _ _ _ q => q) (fun _ ps q => ⟨#[], by rw [q]; simp⟩) (fun m' hm => ?_) (hok_stp hok st na (fun b hb => by
      have z : b = T := by simpa using hb
      rw [z]; exact nT) fs4) I1.bare
    · have lb : s.heap.objs.size ≤ b := by
        rcases List.mem_cons.mp hb with z | z
        · rw [z]; exact la
        · have z : b = T := by simpa using z
          rw [z]; exact lT
      exact ⟨.inr (Nat.le_trans I.sz lb), hL b lb, hCe b lb, hP b lb⟩
    · refine st.keep b o (fun z => h3 (by simp [z])) (fun z => h3 (two2 (one z))) (fun z => ?_) e
      rcases List.mem_cons.mp (I1.stkSub b z) with y | y
      · exact h1 y
      · exact h2 y
    · exact st.slot b o (fun z => h3 (by simp [z])) (fun z => h3 (two2 (one z))) e
    · obtain ⟨sl, q⟩ := st.slot b o (fun z => h3 (by simp [z])) (fun z => h3 (two2 (one z))) e
      exact ⟨_, q⟩
    · obtain ⟨o', es', ep', ho', r'⟩ := hm
      rw [hoL] at ho'
      cases ho'
      exact ⟨_, es', ep', hL4, r'⟩
  obtain ⟨vs, oT, ts, he, _, _, _, _, _, h2⟩ := fl4
  exact ⟨track I2 na (Nat.le_trans I.sz la) (hL a la) (hCe a la) (hP a la) (xf_ok he), fun z => track I2 na (Nat.le_trans I.sz la) (hL a la) (hCe a la) (hP a la) (xg_ok he (h2 z))⟩
end
def tTry (K : PySem.W.Frag) (CO : Addr) (tb : XK → TS) : TS := fun D σ H => tb (EX K CO D.rt) D σ H
theorem ps_try {X : Cx} {CO : Addr} {xO n : Str} {i : Nat} {body : List Stmt} {tb : XK → TS} {np np2 ap rp hp pos : Pos} (hst : X.stack = X.env :: X.outer) (hfr : X.env.frame = some X.env.locals) (hN : X.N.Nodup) (hi : X.N[i]? = some n) (hl : X.env.kindOf n = some .local)
    (hx : Loc X.env.scope n) (hv : Vis X.env.scope n) (hg : Gl X xO) (hm : X.mg xO = some (.ref CO)) (hO : XC X.K CO) (hf : X.fn n = true)
    (hb : ∀ W pn E, (∀ g, Passes (CXf g X.prog X.w) (Cx.bear X W pn) E) → PSs (Cx.bear X W pn) body (tb E)) (hd : (n == ("__debug__" : Str)) = false := by decide) (hcd : (n == ("__classdict__" : Str)) = false := by decide) (hdO : (xO == ("__debug__" : Str)) = false := by decide) :
    PS X (.Try body [.ExceptHandler (some (.Name xO np)) (some n) [.Return (some (.Attribute (.Name n np2) "answer" ap)) rp] hp] [] [] pos) (tTry X.K CO tb) := by
  intro pins s σ H D I h
  refine wpAny_Try_except ?_
  have ok := I.ok
  generalize hW : (fun (e : Value) (s₁ : Shared) => wpAny (model X.prog X.w) X.A (noteFrame e X.env) (fun _ s₂ => wpAny (model X.prog X.w) X.A (setFlight e none) (fun _ s₃ =>
    wpAny (model X.prog X.w) X.A (handleBy e X.env [.ExceptHandler (some (.Name xO np)) (some n) [.Return (some (.Attribute (.Name n np2) "answer" ap)) rp] hp]) (SP X pins D) X.xe s₃) X.xe s₂) X.xe s₁) = W
  have pass : ∀ g, Passes (CXf g X.prog X.w) (Cx.bear X W (X.pn ++ pins)) (EX X.K CO D.rt) := by
    intro g pins1 σ1 H1 s1 e s' I1 hcx
    show W e s'
    rw [← hW]
    obtain ⟨a, C, dx, H', T, rfl, os', bare', un, hok, fl, la, lT, na, nT, C', dx', fs, v, eC, edx, xs, hdx, hlk, hrt⟩ := hcx
    cases eC
    cases edx
    have I1' : Inv X pins σ1 H1 s1 := invUnbear ok I1
    have fr' : ∀ b ∈ frs X.stack, ∀ o, s1.heap.get? b = some o → ∃ sl, s'.heap.get? b = some { o with slots := sl } := fun b hb o e => un.any e (I1'.stkFree b hb) (by simp)
    have fun' : s'.heap.FunFrames X.base (X.env :: X.outer) := by
      rw [← hst]
      exact funs_un I1'.stack fr'
    refine look_step (base := X.base) (L := X.env.locals) (head := .ref T) (vs := #[]) (by rw [← hst]; exact ok.frames) fun' hfr (.inr ⟨T, rfl, fl⟩) fun h4 T4 hT4 fl4 st => ?_
    have st' : Stp (frs X.stack) a [T] s'.heap h4 := by
      rw [hst]
      exact st
    have I4 := (caught I1' os' bare' un hok la lT na nT fl4 st').1
    have J := invHeld I4 (.ref a)
    obtain ⟨nm, q, N, bs, bm, sn, sub, ab, col, dd, k0, k1, k2, k3, k5, lC, mC⟩ := xs.obj
    obtain ⟨nm', q', N', bs', bm', sn', sub', ab', col', dd', k0', k1', k2', k3', k5', lO, mO⟩ := hO.obj
    have hsub : (Value.ref C :: bm).contains (.ref CO) = true := by
      have z : PySem.W.mroIn X.K C (.ref CO) = some true := xs.sub
      unfold PySem.W.mroIn PySem.W.clsIn at z
      rw [lC] at z
      exact Option.some.inj z
    have hea := (J.hok a _ upd_same).1
    obtain ⟨vs4, hea⟩ := hea
    refine wpAny_handleBy_cons (codeAny_handlers_test (ld_glob J hg hm ?_ hdO)) (by intro z; cases z)
    refine match_x (J.kIn _ _ lC) (J.kIn _ _ lO) hea rfl (xmro_obj mO).2.1 hsub ?_
    refine codeAny_handlers_suite_as (land_again fl4 ?_)
    refine store_ok (X := Cx.held X (.ref a)) (v := .ref a) J hN hi hx rfl (fun s5 I5 => ?_) (.inl hf)
    have suite : PSs (Cx.held X (.ref a)) [.Return (some (.Attribute (.Name n np2) "answer" ap)) rp] (tRet (tXget X.K "answer" (tVar i))) := pss_one (ps_ret (pe_xget (.inl rfl) (pe_var (X := Cx.held X (.ref a)) hi hv hd hcd) rfl))
    have len5 : i < σ1.length := by
      rw [I1'.len]
      exact (List.getElem?_eq_some_iff.mp hi).1
    refine wpAny_mono (suite pins s5 _ _ { nx := fun _ _ => False, rt := fun v H' => D.rt v H' } I5 ⟨.ref a, List.getElem?_set_self len5, a, C, dx, fs, v, rfl, xs.toXC, .inl upd_same, ?_, hlk, hrt a _ na⟩) (fun f s6 hs6 => ?_) fun _ _ z => z.elim
    · have ne : dx ≠ a := fun z => by
        rw [z, na] at hdx
        cases hdx
      rw [upd_ne ne]
      exact hdx
    · cases f with
      | next => obtain ⟨_, _, _, z⟩ := hs6; exact z.elim
      | brk => obtain ⟨_, _, _, z⟩ := hs6; exact z.elim
      | cont => obtain ⟨_, _, _, z⟩ := hs6; exact z.elim
      | ret u =>
        obtain ⟨v6, σ6, H6, I6, r6, q6⟩ := hs6
        have I6' := invBack ok I6
        obtain ⟨m6, hn6, _⟩ := id I6'.loc
        refine wpAny_nameGoes hl hn6 (by rw [ok.kind]; rfl) fun h7 m7 hn7 sb => ?_
        exact ⟨v6, _, H6, forget I6' hn7 sb, r6, q6⟩
  refine wpAny_mono (hb W (X.pn ++ pins) (EX X.K CO D.rt) pass [] s σ H D (invBear I W) h) (fun f s1 h1 => ?_) fun _ _ z => z
  cases f with
  | next =>
    obtain ⟨σ1, H1, I1, q1⟩ := h1
    exact wpAny_execs_nil ⟨σ1, H1, invUnbear ok I1, q1⟩
  | brk =>
    obtain ⟨σ1, H1, I1, q1⟩ := h1
    exact ⟨σ1, H1, invUnbear ok I1, q1⟩
  | cont =>
    obtain ⟨σ1, H1, I1, q1⟩ := h1
    exact ⟨σ1, H1, invUnbear ok I1, q1⟩
  | ret u =>
    obtain ⟨v1, σ1, H1, I1, r1, q1⟩ := h1
    exact ⟨v1, σ1, H1, invUnbear ok I1, r1, q1⟩
end LX
end
section
set_option Elab.async false
set_option linter.all false
set_option maxRecDepth 100000
namespace LX
open PySem PySem.Spec PyProof.Rows L2
theorem calm_of {k : Nat} {A : Around} {env : Env} (hr : Room k (A.deeper env)) (h : 4 ≤ k) : A.handled.isNone = true := by
  have z : A.handled = none := hr.hd h
  rw [z]
  rfl
theorem room_mark {k : Nat} {A : Around} {e : Option Value} (hr : Room k A) (h : k < 4) : Room k (A.mark e) := ⟨fun z => absurd z (by omega), hr.dp, hr.un⟩
theorem okX {P : Program} {w : World} {K : PySem.W.Frag} {mg : Str → Option Value} {base : Heap} {x qual : Str} {st : Stmt} {f : Addr} {fd : FuncData} {N ps : List Str} {k : Nat} {sp : Sp} (g : Bool) (F : Fun K x qual st f fd) (S : FnScope N ps (defScope st)) (len : ∀ vs H Q E, sp vs H Q E → vs.length = ps.length)
    (hbody : ∀ (cdv : Value) (A : Around) (outer : List Env) (s : Shared) (H : Hp) (vs : List V) (Q : VK) (E : XK), Room k (A.deeper (envOfC qual (defScope st) s.heap.objs.size f cdv)) → sp vs H Q E →
      ∃ t, PSs (cxOf (CXf g P w) P w K mg base N qual (defScope st) f cdv A outer s H E) (defBody st) t ∧ t { nx := fun _ H' => Q .non H', rt := Q } (start N vs) H) : FnOk P w K mg base (CXf g P w) (k + 1) f fd ps sp := by
  obtain ⟨oc, od, kV, doc, pm, an, cdv, ct, osl, rfl, lk, hcd⟩ := F.ex
  exact fn_of lk hcd S len fun A outer s H vs Q E hr hsp => hbody cdv A outer s H vs Q E hr hsp
theorem entry_unchain : entryFor table "proto.unchain" = some Builtin.«proto.unchain» := entryFor_of_fast (by kernel_rfl)
section
variable {prog : Program} {w : World} {A : Around} {E : Value → Shared → Prop} {s : Shared}
theorem unchain_ok {e : Value} {c : Addr} {oc : Obj} {wc : Array Value} {Q : Value → Shared → Prop} (hc : s.heap.get? c = some oc) (hd : oc.data = .fields wc) (h2 : wc[2]? = some .none) (q : Q .none s) :
    wpAny (model prog w) A (runValue (.builtin "proto.unchain" ⟨[e, .ref c, .ref c, .bool false], []⟩)) Q E s := by
  refine wpAny_runValue (codeAny_builtin entry_unchain ?_)
  unfold Builtin.«proto.unchain»
  refine wpAny_bind (wpAny_field hc hd h2 ?_)
  rw [if_pos (by decide)]
  show wpAny _ _ (pure (Fin.done (.ret .none))) _ _ _
  exact wpAny_pure q
theorem raiseNew_some {α : Type} {e c : Addr} {oe oc : Obj} {vs wc : Array Value} {Q : α → Shared → Prop} (hh : A.handled = some (.ref c)) (ne : e ≠ c) (he : s.heap.get? e = some oe) (hde : oe.data = .fields vs) (hz : 2 < vs.size)
    (hc : s.heap.get? c = some oc) (hd : oc.data = .fields wc) (h2 : wc[2]? = some .none) (h : E (.ref e) { s with heap := s.heap.update e (Obj.mapFields (·.setIfInBounds 2 (.ref c))) }) :
    wpAny (model prog w) A (raiseNew (.ref e) : Sem α) Q E s := by
  unfold raiseNew
  refine wpAny_bind (wpAny_handled ?_)
  rw [hh]
  have n : (Value.ref c != Value.ref e) = true := by
    simp
    exact fun z => ne z.symm
  dsimp only
  rw [if_pos n]
  refine wpAny_bind (wpAny_holding (unchain_ok hc hd h2 ?_))
  show wpAny _ _ (setField (.ref e) 2 (.ref c) >>= fun _ => throw (.ref e)) _ _ _
  exact wpAny_bind (wpAny_setField he hde hz (wpAny_throw h))
theorem raiseStmt_xN {env : Env} {x y : Sem Value} {nm q : Str} {C N c : Addr} {bs bm : List Value} {hdct : Bool} {sn : List Str} {sub : List Value} {ab : Bool} {col : Option Bool} {dd : Option Addr} {k0 k1 k2 k3 k5 : Option Value} {newId : String} {Q : Flow → Shared → Prop}
    (hbase : bm.contains (.type "BaseException") = true) (hh : A.handled = some (.ref c)) (hy : ∀ (Q' : Value → Shared → Prop) (s' : Shared), Q' .none s' → wpAny (model prog w) A y Q' E s')
    (k : wpAny (model prog w) A x (fun v s1 => ∃ e od vs oc wc, v = .ref e ∧ e ≠ c ∧ s1.heap.get? C = some (excClassObj nm q C N bs bm hdct sn sub ab col dd k0 k1 k2 k3 k5 newId) ∧
      s1.heap.get? e = some { cls := .ref C, dict := od, data := .fields vs } ∧ vs[1]? = some .none ∧ 4 < vs.size ∧ s1.heap.get? c = some oc ∧ oc.data = .fields wc ∧ wc[2]? = some .none ∧
      ∀ h' vs', (∀ b o, b ≠ e → s1.heap.get? b = some o → h'.get? b = some o) → h'.get? e = some { cls := .ref C, dict := od, data := .fields vs' } → vs'[1]? = some .none → E (.ref e) { s1 with heap := h' }) E s) :
    wpAny (model prog w) A (raiseStmt env (some x) (some y)) Q E s := by
  have hcB : (Value.ref C :: bm).contains (.type "BaseException") = true := by rw [List.contains_cons, hbase, Bool.or_true]
  unfold raiseStmt
  refine wpAny_bind (wpAny_mono k (fun v s1 k1 => ?_) fun _ _ z => z)
  obtain ⟨e, od, vs, oc, wc, rfl, nec, hC, he, h1, hz, hc, hd, h2, hE⟩ := k1
  refine wpAny_bind (wpAny_holding (hy _ _ ?_))
  obtain ⟨hp, g, d, tk, os⟩ := s1
  have h3s : 3 < vs.size := by omega
  have e3 := Heap.get?_update_self (Obj.mapFields (·.setIfInBounds 3 Value.none)) he rfl
  have e4 := Heap.get?_update_self (Obj.mapFields (·.setIfInBounds 4 (Value.bool true))) e3 rfl
  have C4 : ∀ o, hp.get? C = some o → C ≠ e → ((hp.update e (Obj.mapFields (·.setIfInBounds 3 Value.none))).update e (Obj.mapFields (·.setIfInBounds 4 (Value.bool true)))).get? C = some o := fun o q n => by
    rw [Heap.get?_update_other _ _ (Ne.symm n), Heap.get?_update_other _ _ (Ne.symm n)]
    exact q
  have nCe : C ≠ e := fun z => by
    rw [z, he] at hC
    cases hC
  have hC4 := C4 _ hC nCe
  have hc4 : ((hp.update e (Obj.mapFields (·.setIfInBounds 3 Value.none))).update e (Obj.mapFields (·.setIfInBounds 4 (Value.bool true)))).get? c = some oc := by
    rw [Heap.get?_update_other _ _ nec, Heap.get?_update_other _ _ nec]
    exact hc
  have h14 : ((vs.setIfInBounds 3 Value.none).setIfInBounds 4 (Value.bool true))[1]? = some .none := by
    simpa [Array.getElem?_setIfInBounds] using h1
  repeat (first | with_reducible refine wpAny_loadPart_at he ?_ | with_reducible refine wpAny_loadPart_at hC ?_ | (with_reducible refine wpAny_isSubtype_exc hC ?_; rw [hcB]) | wp_step)
  have h14' : ((fun x : Array Value => x.setIfInBounds 4 (Value.bool true)) ((fun x : Array Value => x.setIfInBounds 3 Value.none) vs))[1]? = some .none := h14
  rw [h14']
  refine wpAny_pure ?_
  rw [if_neg (by decide)]
  refine wpAny_pure ?_
  refine raiseNew_some (vs := (vs.setIfInBounds 3 Value.none).setIfInBounds 4 (Value.bool true)) hh nec e4 rfl (by simp; omega) hc4 hd h2 ?_
  refine hE _ (((vs.setIfInBounds 3 Value.none).setIfInBounds 4 (Value.bool true)).setIfInBounds 2 (.ref c)) (fun b o n q => ?_) (Heap.get?_update_self _ e4 rfl) ?_
  · rw [Heap.get?_update_other _ _ (Ne.symm n), Heap.get?_update_other _ _ (Ne.symm n), Heap.get?_update_other _ _ (Ne.symm n)]
    exact q
  · simpa [Array.getElem?_setIfInBounds] using h1
end
section
variable {X : Cx} {pins : List (Addr × Obj)} {σ : L2.St} {H : Hp} {s : Shared}
abbrev Cx.heldX (X : Cx) (e : Value) : Cx := { X with A := X.A.mark (some e), calm := false }
theorem invHeldX (I : Inv X pins σ H s) (e : Value) : Inv (Cx.heldX X e) pins σ H s := ⟨{ I.ok with hd := (fun z => Bool.noConfusion (show false = true from z)), frames := I.ok.frames }, I.os, I.bare, I.base, I.loc, I.cell, I.free, I.freeC, I.pin, I.hok, I.len⟩
theorem invBackX {e : Value} (ok : X.Ok) (I : Inv (Cx.heldX X e) pins σ H s) : Inv X pins σ H s := ⟨ok, I.os, I.bare, I.base, I.loc, I.cell, I.free, I.freeC, I.pin, I.hok, I.len⟩
theorem drp_upd {a : Addr} {o : HO} : drp (upd H a o) a = drp H a := by
  funext b
  by_cases n : b = a
  · rw [n, drp_same, drp_same]
  · rw [drp_ne n, drp_ne n, upd_ne n]
def tRaiseN (c Cc dc CD : Addr) (sp : Sp) (E : XK) (t : TA) : TS := fun _ σ H => t σ H fun vs H1 => vs.length ≤ sizeLine ∧ ∀ a tt, H1 a = none →
  sp (.ref a :: vs) (upd H1 a (xo a CD none (v0 tt))) (fun v H2 => v = .non ∧ a ≠ c ∧ ∃ dx, H2 a = some (xo a CD (some dx) (v0 tt)) ∧ H2 c = some (xg c Cc dc) ∧ E (.ref CD) (some dx) (drp H2 a)) E0
theorem raiseN_core {c Cc dc CD fI : Addr} {E : XK} {ec : Expr} {j : Nat} {vp rp : Pos} {Q : Flow → Shared → Prop} (ok : X.Ok) (M : XM X.K CD fI) (ht : Thrown true X E) (I : Inv (Cx.heldX X (.ref c)) pins σ H s)
    (h : wpAny (model X.prog X.w) (Cx.heldX X (.ref c)).A (eval ec X.env) (EP (Cx.heldX X (.ref c)) pins σ fun v H2 => ∃ a tt, v = .ref a ∧ X.s_0.heap.objs.size ≤ a ∧ a ≠ c ∧ ∃ dx, H2 a = some (xo a CD (some dx) (v0 tt)) ∧ H2 c = some (xg c Cc dc) ∧ E (.ref CD) (some dx) (drp H2 a)) X.xe s) :
    wpAny (model X.prog X.w) (Cx.heldX X (.ref c)).A (exec (.Raise (some ec) (some (.Constant .none j vp)) rp) X.env) Q X.xe s := by
  obtain ⟨nm, q, N, bs, bm, sn, sub, ab, col, dd, k0, k1, k2, k3, k5, lC, mC⟩ := M.xc.obj
  have main : wpAny (model X.prog X.w) (Cx.heldX X (.ref c)).A (eval ec X.env) (fun v s1 => ∃ e od vs oc wc, v = .ref e ∧ e ≠ c ∧ s1.heap.get? CD = some (excClassObj nm q CD N bs bm true sn sub ab col dd k0 k1 k2 k3 k5 "Exception.__new__") ∧
      s1.heap.get? e = some { cls := .ref CD, dict := od, data := .fields vs } ∧ vs[1]? = some .none ∧ 4 < vs.size ∧ s1.heap.get? c = some oc ∧ oc.data = .fields wc ∧ wc[2]? = some .none ∧
      ∀ h' vs', (∀ b o, b ≠ e → s1.heap.get? b = some o → h'.get? b = some o) → h'.get? e = some { cls := .ref CD, dict := od, data := .fields vs' } → vs'[1]? = some .none → X.xe (.ref e) { s1 with heap := h' }) X.xe s := by
    refine thn h fun u s1 ⟨v, H2, I2, rv, a, tt, ev, la, nac, dx, ha, hcx, hE⟩ => ?_
    subst ev
    obtain rfl : u = Value.ref a := rv
    obtain ⟨wc, hc1, hc2⟩ := (I2.hok c _ hcx).1
    refine ⟨a, some dx, v0 tt, _, wc, rfl, nac, I2.kIn _ _ lC, (I2.hok a _ ha).1, rfl, (by show 4 < 6; decide), hc1, rfl, hc2, fun h' vs' keep he' h1' => ?_⟩
    have I3 := I2.write (x := a) (e := a) (o := xo a CD (some dx) vs') (h' := h') (t' := s1.toks) (by rw [ha]; exact True.intro) (.inl rfl) (fun b u hb z => keep b u hb z) ⟨_, he'⟩ (xo_ok he')
    exact ht pins σ _ _ a CD dx vs' (invBackX ok I3) la upd_same h1' (fun z => Bool.noConfusion z) (by rw [drp_upd]; exact hE)
  rw [arm_exec_Raise]
  refine wpAny_bind (wpAny_standAt (raiseStmt_xN (c := c) (xmro_obj mC).2.1 rfl (fun Q' s' h' => ?_) (wpAny_bind (thn main fun v s3 h3 => wpAny_bind (wpAny_standAt (wpAny_pure h3))))))
  exact wpAny_bind (Constant_none (wpAny_bind (wpAny_standAt (wpAny_pure h'))))
theorem ps_raiseN0 {c Cc dc CD fI : Addr} {k : Nat} {fd : FuncData} {ps : List Str} {sp : Sp} {E : XK} {x : Str} {np cpos vp rp : Pos} {j : Nat} (ok : X.Ok) (M : XM X.K CD fI) (F : FnOk X.prog X.w X.K X.mg X.base CX0 k fI fd ps sp) (hr : Room (k + 1) X.A) (hk : k + 1 < 4) (hb : Binds X.K fd ps []) (ht : Thrown true X E) (hg : Gl X x) (hm : X.mg x = some (.ref CD))
    (hdb : (x == ("__debug__" : Str)) = false := by decide) : PS (Cx.heldX X (.ref c)) (.Raise (some (.Call (.Name x np) [] [] cpos)) (some (.Constant .none j vp)) rp) (tRaiseN c Cc dc CD sp E tNil) := by
  intro pins s σ H D I h
  refine raiseN_core (X := X) (Cc := Cc) (dc := dc) ok M ht I (wpAny_Call_Name_kw (ld_glob I hg hm ?_ hdb))
  exact PySem.W.callWith_K0 I.kIn M.kp (run_makeX (X := Cx.heldX X (.ref c)) (us := []) (vs := []) M F (room_mark hr hk) hb (E := E0) (fun _ _ _ _ _ _ _ z => z.elim) I .nil (Nat.zero_le _) h.2)
def ER (K : PySem.W.Frag) (CO : Addr) (Ec : Addr → Addr → Hp → Prop) : XK := fun c od H' => ∃ C dx, c = .ref C ∧ od = some dx ∧ XS K C CO ∧ Ec C dx H'
def tTryR (K : PySem.W.Frag) (CO CD : Addr) (sp : Sp) (E : XK) (tb : XK → TS) : TS := fun D σ H => tb (ER K CO fun C dx H' => ∀ a, H' a = none → ∀ σ1, tRaiseN a C dx CD sp E tNil { nx := fun _ _ => False, rt := fun _ _ => False } σ1 (upd H' a (xg a C dx))) D σ H
theorem ps_tryR {CO CD fI : Addr} {k : Nat} {fd : FuncData} {ps : List Str} {sp : Sp} {E : XK} {xO xD : Str} {body : List Stmt} {tb : XK → TS} {np np2 cpos vp rp hp pos : Pos} {j : Nat} (hst : X.stack = X.env :: X.outer) (hfr : X.env.frame = some X.env.locals) (hg : Gl X xO) (hm : X.mg xO = some (.ref CO)) (hO : XC X.K CO)
    (M : XM X.K CD fI) (F : FnOk X.prog X.w X.K X.mg X.base CX0 k fI fd ps sp) (hr : Room (k + 1) X.A) (hk : k + 1 < 4) (hbd : Binds X.K fd ps []) (ht : Thrown true X E) (gD : Gl X xD) (mD : X.mg xD = some (.ref CD)) (hpo : ∀ e, PassesOwnAt (model X.prog X.w) (X.A.mark (some e)) X.A X.env X.xe)
    (hb : ∀ W pn E', Passes (CXf false X.prog X.w) (Cx.bear X W pn) E' → PSs (Cx.bear X W pn) body (tb E')) (hdO : (xO == ("__debug__" : Str)) = false := by decide) (hdD : (xD == ("__debug__" : Str)) = false := by decide) :
    PS X (.Try body [.ExceptHandler (some (.Name xO np)) none [.Raise (some (.Call (.Name xD np2) [] [] cpos)) (some (.Constant .none j vp)) rp] hp] [] [] pos) (tTryR X.K CO CD sp E tb) := by
  intro pins s σ H D I h
  refine wpAny_Try_except ?_
  have ok := I.ok
  generalize hW : (fun (e : Value) (s₁ : Shared) => wpAny (model X.prog X.w) X.A (noteFrame e X.env) (fun _ s₂ => wpAny (model X.prog X.w) X.A (setFlight e none) (fun _ s₃ =>
    wpAny (model X.prog X.w) X.A (handleBy e X.env [.ExceptHandler (some (.Name xO np)) none [.Raise (some (.Call (.Name xD np2) [] [] cpos)) (some (.Constant .none j vp)) rp] hp]) (SP X pins D) X.xe s₃) X.xe s₂) X.xe s₁) = W
  generalize hEc : (fun (C dx : Addr) (H' : Hp) => ∀ a, H' a = none → ∀ σ1, tRaiseN a C dx CD sp E tNil { nx := fun _ _ => False, rt := fun _ _ => False } σ1 (upd H' a (xg a C dx))) = Ec
  have pass : Passes (CXf false X.prog X.w) (Cx.bear X W (X.pn ++ pins)) (ER X.K CO Ec) := by
    intro pins1 σ1 H1 s1 e s' I1 hcx
    show W e s'
    rw [← hW]
    obtain ⟨a, C, dx, H', T, rfl, os', bare', un, hok, fl, la, lT, na, nT, C', dx', eC, edx, xs, hEc'⟩ := hcx
    cases eC
    cases edx
    have I1' : Inv X pins σ1 H1 s1 := invUnbear ok I1
    have fr' : ∀ b ∈ frs X.stack, ∀ o, s1.heap.get? b = some o → ∃ sl, s'.heap.get? b = some { o with slots := sl } := fun b hb o e => un.any e (I1'.stkFree b hb) (by simp)
    have fun' : s'.heap.FunFrames X.base (X.env :: X.outer) := by
      rw [← hst]
      exact funs_un I1'.stack fr'
    refine look_step (g := false) (base := X.base) (L := X.env.locals) (head := .ref T) (vs := #[]) (by rw [← hst]; exact ok.frames) fun' hfr (.inr ⟨T, rfl, fl⟩) fun h4 T4 hT4 fl4 st => ?_
    have st' : Stp (frs X.stack) a [T] s'.heap h4 := by
      rw [hst]
      exact st
    have I4 := (caught I1' os' bare' un hok la lT na nT fl4 st').2 rfl
    have J := invHeldX I4 (.ref a)
    obtain ⟨nm, q, N, bs, bm, sn, sub, ab, col, dd, k0, k1, k2, k3, k5, lC, mC⟩ := xs.obj
    obtain ⟨nm', q', N', bs', bm', sn', sub', ab', col', dd', k0', k1', k2', k3', k5', lO, mO⟩ := hO.obj
    have hsub : (Value.ref C :: bm).contains (.ref CO) = true := by
      have z : PySem.W.mroIn X.K C (.ref CO) = some true := xs.sub
      unfold PySem.W.mroIn PySem.W.clsIn at z
      rw [lC] at z
      exact Option.some.inj z
    have hea := (J.hok a _ upd_same).1
    obtain ⟨vs4, hea, _⟩ := hea
    refine wpAny_handleBy_cons (codeAny_handlers_test (ld_glob J hg hm ?_ hdO)) (by intro z; cases z)
    refine match_x (J.kIn _ _ lC) (J.kIn _ _ lO) hea rfl (xmro_obj mO).2.1 hsub ?_
    refine codeAny_handlers_suite (land_again fl4 ?_)
    refine wpAny_passesOwnAt (hpo (.ref a)) ?_
    rw [← hEc] at hEc'
    have suite := pss_one (ps_raiseN0 (X := X) (c := a) (Cc := C) (dc := dx) (np := np2) (cpos := cpos) (vp := vp) (rp := rp) (j := j) ok M F hr hk hbd ht gD mD hdD)
    refine wpAny_mono (suite pins _ _ _ { nx := fun _ _ => False, rt := fun _ _ => False } J (hEc' a na σ1)) (fun f s6 hs6 => ?_) fun _ _ z => z
    cases f with
    | next => obtain ⟨_, _, _, z⟩ := hs6; exact z.elim
    | brk => obtain ⟨_, _, _, z⟩ := hs6; exact z.elim
    | cont => obtain ⟨_, _, _, z⟩ := hs6; exact z.elim
    | ret u => obtain ⟨_, _, _, _, _, z⟩ := hs6; exact z.elim
  subst hEc
  refine wpAny_mono (hb W (X.pn ++ pins) _ pass [] s σ H D (invBear I W) h) (fun f s1 h1 => ?_) fun _ _ z => z
  cases f with
  | next =>
    obtain ⟨σ1, H1, I1, q1⟩ := h1
    exact wpAny_execs_nil ⟨σ1, H1, invUnbear ok I1, q1⟩
  | brk =>
    obtain ⟨σ1, H1, I1, q1⟩ := h1
    exact ⟨σ1, H1, invUnbear ok I1, q1⟩
  | cont =>
    obtain ⟨σ1, H1, I1, q1⟩ := h1
    exact ⟨σ1, H1, invUnbear ok I1, q1⟩
  | ret u =>
    obtain ⟨v1, σ1, H1, I1, r1, q1⟩ := h1
    exact ⟨v1, σ1, H1, invUnbear ok I1, r1, q1⟩
end
end LX
end
section
set_option linter.all false
namespace VM
open Vaflxa
def pk (t : Text) (p : Nat) : Int := match t[p]? with
  | some c => (c.toNat : Int)
  | none => -1
theorem pk_some {t : Text} {p : Nat} {c : UInt8} (h : t[p]? = some c) : pk t p = (c.toNat : Int) := by unfold pk; rw [h]
theorem pk_none {t : Text} {p : Nat} (h : t[p]? = none) : pk t p = -1 := by unfold pk; rw [h]
theorem at_cases (t : Text) (p : Nat) (hp : p ≤ t.length) : (p = t.length ∧ t[p]? = none ∧ t.drop p = [] ∧ pk t p = -1) ∨ ∃ c, p < t.length ∧ t[p]? = some c ∧ t.drop p = c :: t.drop (p + 1) ∧ pk t p = (c.toNat : Int) := by
  by_cases h : p < t.length
  · refine .inr ⟨t[p], h, List.getElem?_eq_getElem h, List.drop_eq_getElem_cons h, pk_some (List.getElem?_eq_getElem h)⟩
  · have e : p = t.length := by omega
    have n : t[p]? = none := List.getElem?_eq_none_iff.mpr (by omega)
    exact .inl ⟨e, n, List.drop_eq_nil_iff.mpr (by omega), pk_none n⟩
theorem byte_eq {c d : UInt8} : ((c.toNat : Int) = (d.toNat : Int)) ↔ c = d := by
  constructor
  · intro h
    exact UInt8.toNat_inj.mp (by omega)
  · intro h
    rw [h]
def inR (b : Int) (r : Int × Int) : Bool := decide (r.1 ≤ b) && decide (b ≤ r.2)
def inRs (rs : List (Int × Int)) (b : Int) : Bool := rs.any (inR b)
def rN : List (Int × Int) := [(48, 57), (65, 90), (97, 122)]
def rngs : Cls → List (Int × Int)
  | .empty => []
  | .digits => [(48, 57)]
  | .small => [(97, 122)]
  | .capitals => [(65, 90)]
  | .letters => [(65, 90), (97, 122)]
  | .words => [(48, 57), (65, 90), (97, 122)]
  | .blanks => [(32, 32)]
  | .sign c => [((c.toNat : Int), (c.toNat : Int))]
theorem inR_eq (c : UInt8) (lo hi : UInt8) : inR (c.toNat : Int) ((lo.toNat : Int), (hi.toNat : Int)) = (decide (lo ≤ c) && decide (c ≤ hi)) := by
  unfold inR
  simp only [UInt8.le_iff_toNat_le, Int.ofNat_le]
theorem isDigit_eq (c : UInt8) : isDigit c = inRs [(48, 57)] (c.toNat : Int) := by
  have := inR_eq c 48 57
  unfold inRs isDigit
  simp only [List.any_cons, List.any_nil, Bool.or_false]
  exact this.symm
theorem isSmall_eq (c : UInt8) : isSmall c = inRs [(97, 122)] (c.toNat : Int) := by
  have := inR_eq c 97 122
  unfold inRs isSmall
  simp only [List.any_cons, List.any_nil, Bool.or_false]
  exact this.symm
theorem isCapital_eq (c : UInt8) : isCapital c = inRs [(65, 90)] (c.toNat : Int) := by
  have := inR_eq c 65 90
  unfold inRs isCapital
  simp only [List.any_cons, List.any_nil, Bool.or_false]
  exact this.symm
theorem isByte_eq (c : UInt8) : isByte c = inRs [(32, 126)] (c.toNat : Int) := by
  have := inR_eq c 32 126
  unfold inRs isByte
  simp only [List.any_cons, List.any_nil, Bool.or_false]
  exact this.symm
theorem inRs_app (a b : List (Int × Int)) (x : Int) : inRs (a ++ b) x = (inRs a x || inRs b x) := by unfold inRs; rw [List.any_append]
theorem isLetter_eq (c : UInt8) : isLetter c = inRs [(65, 90), (97, 122)] (c.toNat : Int) := by
  unfold isLetter
  rw [isSmall_eq, isCapital_eq, Bool.or_comm, ← inRs_app]
  rfl
theorem isWord_eq (c : UInt8) : (isLetter c || isDigit c) = inRs [(48, 57), (65, 90), (97, 122)] (c.toNat : Int) := by
  rw [isLetter_eq, isDigit_eq, Bool.or_comm, ← inRs_app]
  rfl
theorem inClass_eq (k : Cls) (c : UInt8) : inClass k c = inRs (rngs k) (c.toNat : Int) := by
  cases k with
  | empty => rfl
  | digits => exact isDigit_eq c
  | small => exact isSmall_eq c
  | capitals => exact isCapital_eq c
  | letters => exact isLetter_eq c
  | words => exact isWord_eq c
  | blanks =>
    have := inR_eq c 32 32
    show (c == 32) = _
    unfold inRs rngs
    simp only [List.any_cons, List.any_nil, Bool.or_false]
    refine Eq.trans ?_ this.symm
    rw [Bool.eq_iff_iff]
    simp only [beq_iff_eq, Bool.and_eq_true, decide_eq_true_eq]
    constructor
    · rintro rfl
      exact ⟨UInt8.le_refl _, UInt8.le_refl _⟩
    · rintro ⟨a, b⟩
      exact UInt8.le_antisymm b a
  | sign d =>
    have := inR_eq c d d
    show (c == d) = _
    unfold inRs rngs
    simp only [List.any_cons, List.any_nil, Bool.or_false]
    refine Eq.trans ?_ this.symm
    rw [Bool.eq_iff_iff]
    simp only [beq_iff_eq, Bool.and_eq_true, decide_eq_true_eq]
    constructor
    · rintro rfl
      exact ⟨UInt8.le_refl _, UInt8.le_refl _⟩
    · rintro ⟨a, b⟩
      exact UInt8.le_antisymm b a
theorem isEmpty_eq (k : Cls) : isEmptyClass k = (rngs k).isEmpty := by cases k <;> rfl
theorem tw_get {t : Text} {p : Nat} : ∀ {l : Text} {i : Nat}, i < (l.takeWhile isDigit).length → ∃ c, l[i]? = some c ∧ isDigit c = true ∧ (l.takeWhile isDigit)[i]? = some c
  | [], i, h => by simp at h
  | a :: l, i, h => by
    by_cases q : isDigit a = true
    · rw [List.takeWhile_cons_of_pos q] at h ⊢
      cases i with
      | zero => exact ⟨a, rfl, q, rfl⟩
      | succ i =>
        obtain ⟨c, h1, h2, h3⟩ := tw_get (t := t) (p := p) (l := l) (i := i) (by simpa using h)
        exact ⟨c, by simpa using h1, h2, by simpa using h3⟩
    · rw [List.takeWhile_cons_of_neg q] at h
      simp at h
theorem tw_end : ∀ {l : Text} {c : UInt8}, l[(l.takeWhile isDigit).length]? = some c → isDigit c = false
  | [], c, h => by simp at h
  | a :: l, c, h => by
    by_cases q : isDigit a = true
    · rw [List.takeWhile_cons_of_pos q] at h
      exact tw_end (l := l) (by simpa using h)
    · rw [List.takeWhile_cons_of_neg q] at h
      have e : a = c := by simpa using h
      rw [← e]
      exact Bool.eq_false_iff.mpr q
theorem tw_len (l : Text) : (l.takeWhile isDigit).length ≤ l.length := (List.takeWhile_sublist _).length_le
def dg (t : Text) (p : Nat) : Text := (t.drop p).takeWhile isDigit
def dgi (t : Text) (p : Nat) : List Int := (dg t p).map fun c => (c.toNat : Int) - 48
theorem dg_go {t : Text} {p i : Nat} (h : i < (dg t p).length) : ∃ c, t[p + i]? = some c ∧ isDigit c = true ∧ (dg t p)[i]? = some c := by
  obtain ⟨c, h1, h2, h3⟩ := tw_get (t := t) (p := p) (l := t.drop p) (i := i) h
  exact ⟨c, by rw [List.getElem?_drop] at h1; exact h1, h2, h3⟩
theorem dg_stop {t : Text} {p : Nat} : inRs [(48, 57)] (pk t (p + (dg t p).length)) = false := by
  unfold pk
  split
  · rename_i c e
    rw [← isDigit_eq]
    exact tw_end (l := t.drop p) (by rw [List.getElem?_drop]; exact e)
  · decide
theorem dg_le {t : Text} {p : Nat} (hp : p ≤ t.length) : p + (dg t p).length ≤ t.length := by
  have := tw_len (t.drop p)
  unfold dg
  rw [List.length_drop] at this
  omega
theorem dig_ge {c : UInt8} (h : isDigit c = true) : 48 ≤ c.toNat ∧ c.toNat ≤ 57 := by
  unfold isDigit at h
  simp only [Bool.and_eq_true, decide_eq_true_eq, UInt8.le_iff_toNat_le] at h
  exact h
theorem fold_eq : ∀ (l : Text) (a : Nat), (∀ c ∈ l, isDigit c = true) → (l.map fun c => (c.toNat : Int) - 48).foldl (fun (m x : Int) => 10 * m + x) (a : Int) = ((l.foldl (fun (m : Nat) c => 10 * m + (c.toNat - 48)) a : Nat) : Int)
  | [], a, _ => rfl
  | c :: l, a, h => by
    have g := dig_ge (h c (List.mem_cons_self ..))
    rw [List.map_cons, List.foldl_cons, List.foldl_cons, ← fold_eq l _ fun x hx => h x (List.mem_cons_of_mem _ hx)]
    congr 1
    omega
theorem dg_all {t : Text} {p : Nat} : ∀ c ∈ dg t p, isDigit c = true := fun c h => by
  unfold dg at h
  exact List.all_eq_true.mp (List.all_takeWhile (p := isDigit) (l := t.drop p)) c h
def dgn (t : Text) (p : Nat) : Nat := (dg t p).foldl (fun (m : Nat) c => 10 * m + (c.toNat - 48)) 0
theorem dgi_fold (t : Text) (p : Nat) : (dgi t p).foldl (fun (m x : Int) => 10 * m + x) 0 = (dgn t p : Int) := fold_eq _ 0 dg_all
theorem numberAt_eq (low high : Nat) (t : Text) (p : Nat) : numberAt low high (p, t.drop p) =
    if (dg t p).length = 0 then .error ⟨1, p⟩ else if 2 < (dg t p).length ∨ (1 < (dg t p).length ∧ (dgi t p)[0]? = some 0) then .error ⟨3, p⟩
    else if ¬ (low ≤ dgn t p ∧ dgn t p ≤ high) then .error ⟨3, p⟩ else .ok (dgn t p, (p + (dg t p).length, t.drop (p + (dg t p).length))) := by
  unfold numberAt
  show (if (dg t p).isEmpty = true then _ else if 2 < (dg t p).length ∨ ((dg t p).length = 2 ∧ (dg t p).headD 0 = 48) ∨ dgn t p < low ∨ high < dgn t p then _ else _) = _
  have e0 : ((dg t p).isEmpty = true) ↔ (dg t p).length = 0 := by rw [List.isEmpty_iff, List.length_eq_zero_iff]
  by_cases z : (dg t p).length = 0
  · rw [if_pos (e0.mpr z), if_pos z]
    rfl
  · rw [if_neg (fun q => z (e0.mp q)), if_neg z]
    have hd : (dgi t p)[0]? = some 0 ↔ (dg t p).headD 0 = 48 := by
      have al := dg_all (t := t) (p := p)
      unfold dgi
      cases q : dg t p with
      | nil =>
        rw [q] at z
        exact absurd rfl z
      | cons c l =>
        simp only [List.map_cons, List.getElem?_cons_zero, List.headD_cons, Option.some.injEq]
        have g := dig_ge (al c (by rw [q]; exact List.mem_cons_self ..))
        constructor
        · intro e
          exact UInt8.toNat_inj.mp (by show c.toNat = 48; omega)
        · rintro rfl
          rfl
    by_cases z2 : 2 < (dg t p).length ∨ (1 < (dg t p).length ∧ (dgi t p)[0]? = some 0)
    · rw [if_pos z2, if_pos]
      · rfl
      · rcases z2 with z2 | ⟨z2, z3⟩
        · exact .inl z2
        · by_cases z4 : 2 < (dg t p).length
          · exact .inl z4
          · exact .inr (.inl ⟨by omega, hd.mp z3⟩)
    · rw [if_neg z2]
      have n1 : ¬ 2 < (dg t p).length := fun q => z2 (.inl q)
      have n2 : ¬ ((dg t p).length = 2 ∧ (dg t p).headD 0 = 48) := fun q => z2 (.inr ⟨by omega, hd.mpr q.2⟩)
      by_cases z5 : low ≤ dgn t p ∧ dgn t p ≤ high
      · rw [if_neg (not_not_intro z5), if_neg]
        · show Except.ok (dgn t p, (p + (dg t p).length, (t.drop p).drop (dg t p).length)) = _
          rw [List.drop_drop]
        · rintro (q | q | q | q)
          · exact n1 q
          · exact n2 q
          · omega
          · omega
      · rw [if_pos z5, if_pos]
        · rfl
        · exact .inr (.inr (by omega))
end VM
end
section
set_option linter.all false
namespace VM
open Vaflxa
def mExp (t : Text) (c : Int) (p : Nat) : Except Fault Nat := if pk t p = c then .ok (p + 1) else .error ⟨1, p⟩
def mNum (t : Text) (low high p : Nat) : Except Fault (Nat × Nat) :=
  if (dg t p).length = 0 then .error ⟨1, p⟩ else if 2 < (dg t p).length ∨ (1 < (dg t p).length ∧ (dgi t p)[0]? = some 0) then .error ⟨3, p⟩
  else if ¬ (low ≤ dgn t p ∧ dgn t p ≤ high) then .error ⟨3, p⟩ else .ok (dgn t p, p + (dg t p).length)
def mSingle (t : Text) (p : Nat) : Except Fault (Cls × Nat) := match t[p]? with
  | some c => if inRs [(33, 126)] (c.toNat : Int) = false ∨ inRs rN (c.toNat : Int) = true then .error ⟨1, p⟩ else .ok (.sign c, p + 1)
  | none => .error ⟨1, p⟩
def sgns : List (Int × Cls) := [(68, .digits), (76, .small), (85, .capitals), (65, .letters), (78, .words), (66, .blanks), (46, .empty)]
def mCls (t : Text) (p : Nat) : Except Fault (Cls × Nat) :=
  if pk t p = 39 then mSingle t (p + 1) else match sgns.find? (fun x => decide (x.1 = pk t p)) with
    | some x => .ok (x.2, p + 1)
    | none => .error ⟨1, p⟩
def mDir (t : Text) (p : Nat) : Except Fault (Bool × Nat) :=
  if pk t p = 45 then .ok (true, p + 1) else match mExp t 43 p with
    | .error e => .error e
    | .ok p1 => .ok (false, p1)
def mBorder (t : Text) (p : Nat) : Except Fault (Pos × Nat) := match mCls t p with
  | .error e => .error e
  | .ok (l, p1) => match mExp t 124 p1 with
    | .error e => .error e
    | .ok p2 => match mCls t p2 with
      | .error e => .error e
      | .ok (r, p3) => if (isEmptyClass l && isEmptyClass r) = true then .error ⟨4, p⟩ else match mDir t p3 with
        | .error e => .error e
        | .ok (b, p4) => match mNum t 1 40 p4 with
          | .error e => .error e
          | .ok (n, p5) => .ok (if b then .right l r n else .left l r n, p5)
def mPos (t : Text) (p : Nat) : Except Fault (Pos × Nat) :=
  if pk t p = 43 ∨ pk t p = 45 then match mDir t p with
    | .error e => .error e
    | .ok (b, p1) => match mNum t 0 60 p1 with
      | .error e => .error e
      | .ok (n, p2) => .ok (if b then .finish n else .start n, p2)
  else mBorder t p
def up {α : Type} (t : Text) : Except Fault (α × Nat) → Res (α × At)
  | .error e => .error e
  | .ok (x, p) => .ok (x, (p, t.drop p))
def up1 (t : Text) : Except Fault Nat → Res At
  | .error e => .error e
  | .ok p => .ok (p, t.drop p)
def In {α : Type} (t : Text) (r : Except Fault (α × Nat)) : Prop := ∀ x p, r = .ok (x, p) → p ≤ t.length
theorem pk_c {t : Text} {p : Nat} {c : UInt8} (h : t[p]? = some c) (d : UInt8) : pk t p = (d.toNat : Int) ↔ c = d := by rw [pk_some h]; exact byte_eq
theorem exp_eq (t : Text) (c : UInt8) (p : Nat) (hp : p ≤ t.length) : expect c (p, t.drop p) = up1 t (mExp t (c.toNat : Int) p) := by
  unfold expect mExp
  rcases at_cases t p hp with ⟨e, n, d, k⟩ | ⟨a, l, n, d, k⟩
  · dsimp only
    rw [d, k, if_neg (by omega)]
    rfl
  · dsimp only
    rw [d]
    dsimp only
    by_cases q : a = c
    · rw [if_pos q, if_pos ((pk_c n c).mpr q)]
      rfl
    · rw [if_neg q, if_neg (fun z => q ((pk_c n c).mp z))]
      rfl
theorem exp_in {t : Text} {c : Int} {p p1 : Nat} (hc : 0 ≤ c) (hp : p ≤ t.length) (h : mExp t c p = .ok p1) : p1 ≤ t.length := by
  unfold mExp at h
  split at h
  · rename_i q
    cases h
    rcases at_cases t p hp with ⟨e, n, d, k⟩ | ⟨a, l, n, d, k⟩
    · omega
    · exact l
  · cases h
theorem num_eq (t : Text) (low high p : Nat) : numberAt low high (p, t.drop p) = up t (mNum t low high p) := by
  rw [numberAt_eq]
  unfold mNum
  repeat' split
  all_goals rfl
theorem num_in {t : Text} {low high p : Nat} (hp : p ≤ t.length) : In t (mNum t low high p) := by
  intro x q h
  unfold mNum at h
  split at h
  · cases h
  · split at h
    · cases h
    · split at h
      · cases h
      · cases h
        exact dg_le hp
theorem sign_eq (c : UInt8) : isSign c = true ↔ ¬ (inRs [(33, 126)] (c.toNat : Int) = false ∨ inRs rN (c.toNat : Int) = true) := by
  unfold isSign
  rw [isByte_eq]
  have e : (isLetter c || isDigit c) = inRs rN (c.toNat : Int) := isWord_eq c
  rw [← e]
  have b : (c != 32) = !decide (c.toNat = 32) := by
    rw [Bool.eq_iff_iff]
    simp only [bne_iff_ne, ne_eq, Bool.not_eq_true', decide_eq_false_iff_not]
    constructor
    · intro h z
      exact h (UInt8.toNat_inj.mp z)
    · intro h z
      exact h (by rw [z]; rfl)
  rw [b]
  unfold inRs inR
  cases isLetter c <;> cases isDigit c <;> simp <;> omega
theorem find_none {b : Int} (h : b = -1) : sgns.find? (fun x => decide (x.1 = b)) = none := by subst h; rfl
theorem cls_eq (t : Text) (p : Nat) (hp : p ≤ t.length) : clsAt (p, t.drop p) = up t (mCls t p) := by
  unfold clsAt mCls
  rcases at_cases t p hp with ⟨e, n, d, k⟩ | ⟨a, l, n, d, k⟩
  · dsimp only
    rw [d, k, if_neg (by omega), find_none rfl]
    rfl
  · dsimp only
    rw [d]
    dsimp only
    by_cases q : a = 39
    · subst q
      rw [if_pos (show pk t p = 39 from k)]
      rw [if_neg (by decide), if_neg (by decide), if_neg (by decide), if_neg (by decide), if_neg (by decide), if_neg (by decide), if_neg (by decide), if_pos rfl]
      unfold mSingle
      rcases at_cases t (p + 1) l with ⟨e', n', d', k'⟩ | ⟨a', l', n', d', k'⟩
      · rw [d', n']
        rfl
      · rw [d', n']
        dsimp only
        by_cases z : isSign a' = true
        · rw [if_pos z, if_neg ((sign_eq a').mp z)]
          rfl
        · rw [if_neg z, if_pos (Decidable.of_not_not fun w => z ((sign_eq a').mpr w))]
          rfl
    · have hk : ¬ pk t p = 39 := fun z => q ((pk_c n 39).mp z)
      rw [if_neg hk, k]
      have f : ∀ (d : UInt8), a ≠ d → decide ((d.toNat : Int) = (a.toNat : Int)) = false := fun d z => decide_eq_false fun w => z (byte_eq.mp w.symm)
      by_cases q1 : a = 46
      · subst q1; rfl
      rw [if_neg q1]
      by_cases q2 : a = 68
      · subst q2; rfl
      rw [if_neg q2]
      by_cases q3 : a = 76
      · subst q3; rfl
      rw [if_neg q3]
      by_cases q4 : a = 85
      · subst q4; rfl
      rw [if_neg q4]
      by_cases q5 : a = 65
      · subst q5; rfl
      rw [if_neg q5]
      by_cases q6 : a = 78
      · subst q6; rfl
      rw [if_neg q6]
      by_cases q7 : a = 66
      · subst q7; rfl
      rw [if_neg q7, if_neg q]
      have g : sgns.find? (fun x => decide (x.1 = (a.toNat : Int))) = none := by
        have h1 := f 68 q2
        have h2 := f 76 q3
        have h3 := f 85 q4
        have h4 := f 65 q5
        have h5 := f 78 q6
        have h6 := f 66 q7
        have h7 := f 46 q1
        unfold sgns
        simp only [List.find?_cons, List.find?_nil]
        rw [show decide ((68 : Int) = (a.toNat : Int)) = false from h1, show decide ((76 : Int) = (a.toNat : Int)) = false from h2, show decide ((85 : Int) = (a.toNat : Int)) = false from h3, show decide ((65 : Int) = (a.toNat : Int)) = false from h4,
          show decide ((78 : Int) = (a.toNat : Int)) = false from h5, show decide ((66 : Int) = (a.toNat : Int)) = false from h6, show decide ((46 : Int) = (a.toNat : Int)) = false from h7]
      rw [g]
      rfl
theorem cls_in {t : Text} {p : Nat} (hp : p ≤ t.length) : In t (mCls t p) := by
  intro x q h
  unfold mCls at h
  rcases at_cases t p hp with ⟨e, n, d, k⟩ | ⟨a, l, n, d, k⟩
  · rw [k, if_neg (by omega), find_none rfl] at h
    cases h
  · split at h
    · unfold mSingle at h
      split at h
      · rename_i c e
        split at h
        · cases h
        · cases h
          exact (List.getElem?_eq_some_iff.mp e).1
      · cases h
    · split at h
      · cases h
        exact l
      · cases h
end VM
end
section
set_option linter.all false
namespace VM
open Vaflxa
theorem dir_in {t : Text} {p : Nat} (hp : p ≤ t.length) : In t (mDir t p) := by
  intro x q h
  unfold mDir at h
  rcases at_cases t p hp with ⟨e, n, d, k⟩ | ⟨a, l, n, d, k⟩
  · rw [k, if_neg (by omega)] at h
    unfold mExp at h
    rw [k, if_neg (by omega)] at h
    cases h
  · split at h
    · cases h
      exact l
    · split at h
      · cases h
      · rename_i e
        cases h
        exact exp_in (by decide) hp e
theorem counted_43 (l r : Cls) (p : Nat) (s : Text) : countedAt l r (p, 43 :: s) = (match numberAt 1 40 (p + 1, s) with | .error e => .error e | .ok (n, b) => .ok (.left l r n, b)) := rfl
theorem counted_45 (l r : Cls) (p : Nat) (s : Text) : countedAt l r (p, 45 :: s) = (match numberAt 1 40 (p + 1, s) with | .error e => .error e | .ok (n, b) => .ok (.right l r n, b)) := rfl
theorem counted_no (l r : Cls) (p : Nat) (s : Text) {a : UInt8} (h1 : a ≠ 43) (h2 : a ≠ 45) : countedAt l r (p, a :: s) = .error ⟨1, p⟩ := by
  unfold countedAt
  dsimp only
  split
  · rename_i h; cases h; exact absurd rfl h1
  · rename_i h; cases h; exact absurd rfl h2
  · rfl
theorem posAt_43 (p : Nat) (s : Text) : posAt (p, 43 :: s) = (match numberAt 0 60 (p + 1, s) with | .error e => .error e | .ok (n, b) => .ok (.start n, b)) := rfl
theorem posAt_45 (p : Nat) (s : Text) : posAt (p, 45 :: s) = (match numberAt 0 60 (p + 1, s) with | .error e => .error e | .ok (n, b) => .ok (.finish n, b)) := rfl
theorem posAt_no (p : Nat) (s : Text) {a : UInt8} (h1 : a ≠ 43) (h2 : a ≠ 45) : posAt (p, a :: s) = borderAt (p, a :: s) := by
  unfold posAt
  dsimp only
  split
  · rename_i h; cases h; exact absurd rfl h1
  · rename_i h; cases h; exact absurd rfl h2
  · rfl
theorem nk {t : Text} {p : Nat} {a : UInt8} (n : t[p]? = some a) (d : UInt8) (q : a ≠ d) : ¬ pk t p = (d.toNat : Int) := fun z => q ((pk_c n d).mp z)
theorem counted_eq (l r : Cls) (t : Text) (p : Nat) (hp : p ≤ t.length) : countedAt l r (p, t.drop p) = match mDir t p with
    | .error e => .error e
    | .ok (b, p4) => up t (match mNum t 1 40 p4 with
      | .error e => .error e
      | .ok (n, p5) => .ok (if b then .right l r n else .left l r n, p5)) := by
  unfold mDir
  rcases at_cases t p hp with ⟨e, n, d, k⟩ | ⟨a, lt, n, d, k⟩
  · rw [d, k, if_neg (by omega)]
    unfold mExp
    rw [k, if_neg (by omega)]
    rfl
  · rw [d]
    by_cases q : a = 43
    · subst q
      rw [if_neg (by rw [k]; decide), counted_43, num_eq]
      unfold mExp
      rw [if_pos (show pk t p = 43 from k)]
      dsimp only
      cases mNum t 1 40 (p + 1) with
      | error e => rfl
      | ok x => rfl
    · by_cases q2 : a = 45
      · subst q2
        rw [if_pos (show pk t p = 45 from k), counted_45, num_eq]
        dsimp only
        cases mNum t 1 40 (p + 1) with
        | error e => rfl
        | ok x => rfl
      · rw [if_neg (show ¬ pk t p = 45 from nk n 45 q2), counted_no l r p _ q q2]
        unfold mExp
        rw [if_neg (show ¬ pk t p = 43 from nk n 43 q)]
theorem border_eq (t : Text) (p : Nat) (hp : p ≤ t.length) : borderAt (p, t.drop p) = up t (mBorder t p) := by
  unfold borderAt mBorder
  rw [cls_eq t p hp]
  have i1 := cls_in hp
  cases e1 : mCls t p with
  | error e => rfl
  | ok x =>
    obtain ⟨l, p1⟩ := x
    have h1 := i1 _ _ e1
    dsimp only [up]
    rw [exp_eq t 124 p1 h1, show ((124 : UInt8).toNat : Int) = 124 from rfl]
    cases e2 : mExp t 124 p1 with
    | error e => rfl
    | ok p2 =>
      have h2 := exp_in (by decide) h1 e2
      dsimp only [up1]
      rw [cls_eq t p2 h2]
      have i3 := cls_in h2
      cases e3 : mCls t p2 with
      | error e => rfl
      | ok y =>
        obtain ⟨r, p3⟩ := y
        have h3 := i3 _ _ e3
        dsimp only [up]
        split
        · rfl
        · rw [counted_eq l r t p3 h3]
          cases mDir t p3 with
          | error e => rfl
          | ok z => rfl
theorem border_in {t : Text} {p : Nat} (hp : p ≤ t.length) : In t (mBorder t p) := by
  intro x q h
  unfold mBorder at h
  have i1 := cls_in hp
  cases e1 : mCls t p with
  | error e => rw [e1] at h; cases h
  | ok y =>
    obtain ⟨l, p1⟩ := y
    rw [e1] at h
    dsimp only at h
    cases e2 : mExp t 124 p1 with
    | error e => rw [e2] at h; cases h
    | ok p2 =>
      rw [e2] at h
      dsimp only at h
      have h2 := exp_in (by decide) (i1 _ _ e1) e2
      cases e3 : mCls t p2 with
      | error e => rw [e3] at h; cases h
      | ok y =>
        obtain ⟨r, p3⟩ := y
        rw [e3] at h
        dsimp only at h
        split at h
        · cases h
        · cases e4 : mDir t p3 with
          | error e => rw [e4] at h; cases h
          | ok z =>
            obtain ⟨b, p4⟩ := z
            rw [e4] at h
            dsimp only at h
            have h4 := dir_in (cls_in h2 _ _ e3) _ _ e4
            cases e5 : mNum t 1 40 p4 with
            | error e => rw [e5] at h; cases h
            | ok z =>
              rw [e5] at h
              cases h
              exact num_in h4 _ _ e5
theorem pos_eq (t : Text) (p : Nat) (hp : p ≤ t.length) : posAt (p, t.drop p) = up t (mPos t p) := by
  unfold mPos
  rcases at_cases t p hp with ⟨e, n, d, k⟩ | ⟨a, lt, n, d, k⟩
  · rw [if_neg (by omega), ← border_eq t p hp, d]
    rfl
  · by_cases q : a = 43
    · subst q
      rw [if_pos (.inl (show pk t p = 43 from k)), d, posAt_43, num_eq]
      unfold mDir mExp
      rw [if_neg (by rw [k]; decide), if_pos (show pk t p = 43 from k)]
      dsimp only
      cases mNum t 0 60 (p + 1) with
      | error e => rfl
      | ok x => rfl
    · by_cases q2 : a = 45
      · subst q2
        rw [if_pos (.inr (show pk t p = 45 from k)), d, posAt_45, num_eq]
        unfold mDir
        rw [if_pos (show pk t p = 45 from k)]
        dsimp only
        cases mNum t 0 60 (p + 1) with
        | error e => rfl
        | ok x => rfl
      · rw [if_neg (show ¬ (pk t p = 43 ∨ pk t p = 45) from fun z => z.elim (nk n 43 q) (nk n 45 q2)), ← border_eq t p hp, d, posAt_no p _ q q2]
theorem pos_in {t : Text} {p : Nat} (hp : p ≤ t.length) : In t (mPos t p) := by
  intro x q h
  unfold mPos at h
  split at h
  · cases e4 : mDir t p with
    | error e => rw [e4] at h; cases h
    | ok z =>
      obtain ⟨b, p4⟩ := z
      rw [e4] at h
      dsimp only at h
      cases e5 : mNum t 0 60 p4 with
      | error e => rw [e5] at h; cases h
      | ok z =>
        rw [e5] at h
        cases h
        exact num_in (dir_in hp _ _ e4) _ _ e5
  · exact border_in hp x q h
end VM
end
section
set_option linter.all false
namespace VM
open Vaflxa
end VM
namespace VM
open Vaflxa
end VM
namespace VM
open Vaflxa
end VM
namespace VM
open Vaflxa
theorem num_lo {t : Text} {lo hi p n q : Nat} (h : mNum t lo hi p = .ok (n, q)) : lo ≤ n := by
  unfold mNum at h
  split at h
  · cases h
  · split at h
    · cases h
    · split at h
      · cases h
      · rename_i z
        cases h
        exact (Decidable.of_not_not z).1
end VM
end
section
set_option Elab.async false
set_option linter.all false
set_option maxRecDepth 100000
namespace FP
open PySem PySem.Spec PyProof.Rows L2 LX VM
def KT (K : PySem.W.Frag) (a : Addr) (xs : List V) : Prop := ∃ (o : Obj) (its : Array Value) (n : Nat), K.lookup a = some o ∧ o.cls = .type "tuple" ∧ o.data = .seq its n ∧ its.size ≤ sizeLine ∧ Vals xs its.toList
theorem KT.sq {K : PySem.W.Frag} {a : Addr} {xs : List V} (h : KT K a xs) (H : Hp) : SqT K H a xs := .inr h
theorem KT.two {K : PySem.W.Frag} {b : Addr} {db : Option Addr} {sb : Array (Option Value)} {n : Nat} {x y : Int} {t u : Tok} (h : K.lookup b = some ⟨.type "tuple", db, .seq #[.int x t, .int y u] n, sb⟩) : KT K b [.int x, .int y] :=
  ⟨_, _, _, h, rfl, rfl, by show 2 ≤ sizeLine; decide, .cons ⟨t, rfl⟩ (.cons ⟨u, rfl⟩ .nil)⟩
theorem vals_refs : ∀ bs : List Addr, Vals (bs.map V.ref) (bs.map Value.ref)
  | [] => .nil
  | _ :: r => .cons rfl (vals_refs r)
theorem KT.refs {K : PySem.W.Frag} {a : Addr} {bs : List Addr} {dd : Option Addr} {sl : Array (Option Value)} {n : Nat} (h : K.lookup a = some ⟨.type "tuple", dd, .seq (bs.map Value.ref).toArray n, sl⟩) (hz : bs.length ≤ 1000) : KT K a (bs.map V.ref) :=
  ⟨_, _, _, h, rfl, rfl, by rw [List.size_toArray, List.length_map]; exact Nat.le_trans hz (by decide), by simpa using vals_refs bs⟩
def RgK (K : PySem.W.Frag) (a : Addr) (rs : List (Int × Int)) : Prop := ∃ bs : List Addr, KT K a (bs.map V.ref) ∧ Paired (fun b (r : Int × Int) => KT K b [.int r.1, .int r.2]) bs rs
def Rg (K : PySem.W.Frag) (H : Hp) (a : Addr) (rs : List (Int × Int)) : Prop := ∃ bs : List Addr, SqT K H a (bs.map V.ref) ∧ Paired (fun b (r : Int × Int) => SqT K H b [.int r.1, .int r.2]) bs rs
theorem RgK.rg {K : PySem.W.Frag} {a : Addr} {rs : List (Int × Int)} (h : RgK K a rs) (H : Hp) : Rg K H a rs := by
  obtain ⟨bs, h1, h2⟩ := h
  exact ⟨bs, h1.sq H, Paired.mapP h2 fun b r q => q.sq H⟩
def Kp (ch : List Addr) (H H' : Hp) : Prop := ∀ b o, H b = some o → b ∉ ch → H' b = some o
theorem Kp.refl (ch : List Addr) (H : Hp) : Kp ch H H := fun _ _ h _ => h
theorem Kp.trans {ch : List Addr} {H H1 H2 : Hp} (a : Kp ch H H1) (b : Kp ch H1 H2) : Kp ch H H2 := fun c o h n => b c o (a c o h n) n
theorem Kp.new {ch : List Addr} {H : Hp} {a : Addr} {o : HO} (n : H a = none) : Kp ch H (upd H a o) := fun c u e _ => by
  rw [upd_ne (ne_of_none e n)]
  exact e
theorem Kp.put {ch : List Addr} {H : Hp} {a : Addr} {o : HO} (n : a ∈ ch) : Kp ch H (upd H a o) := fun c u e m => by
  rw [upd_ne (fun z => m (by rw [z]; exact n))]
  exact e
def Ins (ch : List Addr) (H : Hp) : Prop := ∀ b ∈ ch, ∃ C dx fs, H b = some (.ins C dx fs)
theorem Ins.nil {H : Hp} : Ins [] H := fun _ m => by simp at m
theorem Ins.one {H : Hp} {b C dx : Addr} {fs : List (Str × V)} (h : H b = some (.ins C dx fs)) : Ins [b] H := fun c m => by
  have z : c = b := by simpa using m
  exact ⟨C, dx, fs, by rw [z]; exact h⟩
theorem Kp.sqT {K : PySem.W.Frag} {ch : List Addr} {H H' : Hp} {a : Addr} {xs : List V} (k : Kp ch H H') (n : Ins ch H) (h : SqT K H a xs) : SqT K H' a xs := by
  rcases h with (h | ⟨o, h⟩) | h
  · exact .inl (.inl (k a _ h fun m => by obtain ⟨_, _, _, e⟩ := n a m; rw [e] at h; cases h))
  · exact .inl (.inr ⟨o, k a _ h fun m => by obtain ⟨_, _, _, e⟩ := n a m; rw [e] at h; cases h⟩)
  · exact .inr h
theorem Kp.sqL {K : PySem.W.Frag} {ch : List Addr} {H H' : Hp} {a : Addr} {xs : List V} (k : Kp ch H H') (n : Ins ch H) (h : SqL K H a xs) : SqL K H' a xs := by
  rcases h with (h | ⟨o, h⟩) | h
  · exact .inl (.inl (k a _ h fun m => by obtain ⟨_, _, _, e⟩ := n a m; rw [e] at h; cases h))
  · exact .inl (.inr ⟨o, k a _ h fun m => by obtain ⟨_, _, _, e⟩ := n a m; rw [e] at h; cases h⟩)
  · exact .inr h
theorem Kp.rg {K : PySem.W.Frag} {ch : List Addr} {H H' : Hp} {a : Addr} {rs : List (Int × Int)} (k : Kp ch H H') (n : Ins ch H) (h : Rg K H a rs) : Rg K H' a rs := by
  obtain ⟨bs, h1, h2⟩ := h
  exact ⟨bs, k.sqT n h1, Paired.mapP h2 fun b r q => k.sqT n q⟩
theorem lk0 {f : Str} {v : V} {fs : List (Str × V)} : (putF f v fs).lookup f = some v := by rw [lookup_putF, if_pos rfl]
theorem lk1 {f g : Str} {v : V} {fs : List (Str × V)} (h : ¬ g = f) : (putF f v fs).lookup g = fs.lookup g := by rw [lookup_putF, if_neg h]
theorem put_put (f : Str) (u v : V) : ∀ fs : List (Str × V), putF f v (putF f u fs) = putF f v fs
  | [] => by
    show (if f = f then [(f, v)] else _) = _
    rw [if_pos rfl]
    rfl
  | (g, x) :: r => by
    show putF f v (if g = f then (g, u) :: r else (g, x) :: putF f u r) = if g = f then (g, v) :: r else (g, x) :: putF f v r
    by_cases h : g = f
    · rw [if_pos h, if_pos h]
      show (if g = f then (g, v) :: r else _) = _
      rw [if_pos h]
    · rw [if_neg h, if_neg h]
      show (if g = f then _ else (g, x) :: putF f v (putF f u r)) = _
      rw [if_neg h, put_put f u v r]
theorem passAny {X : Cx} {E : XK} : Passes CX0 X E := fun _ _ _ _ _ _ _ h => h.elim
def bz (t : Vaflxa.Text) : List V := t.map fun c => V.int (c.toNat : Int)
theorem bz_len (t : Vaflxa.Text) : (bz t).length = t.length := List.length_map ..
theorem bz_get {t : Vaflxa.Text} {p : Nat} {c : UInt8} (h : t[p]? = some c) : (bz t)[p]? = some (V.int (c.toNat : Int)) := by
  unfold bz
  rw [List.getElem?_map, h]
  rfl
structure DKs (K : PySem.W.Frag) (d : Addr) (keys : List Str) (es : Array DictEntry) (n : Nat) : Prop where
  l : K.lookup d = some ⟨.type "dict", none, .dict es n, #[]⟩
  o : (d == sysModules) = false
  k : Paired (fun (en : DictEntry) (x : Str) => ∃ t, en.key = .str x t) es.toList keys
def Itm (keys : List Str) : It := ⟨fun i _ => i < keys.length, fun i H x H' => H' = H ∧ ∃ k, keys[i]? = some k ∧ x = .str k, fun i _ => keys.length ≤ i⟩
theorem DKs.size {K : PySem.W.Frag} {d : Addr} {keys : List Str} {es : Array DictEntry} {n : Nat} (h : DKs K d keys es n) : es.size = keys.length := by
  have e := Paired.length h.k
  rw [Array.length_toList] at e
  exact e
theorem paired_right {α β : Type} {F : α → β → Prop} : ∀ {l : List α} {m : List β}, Paired F l m → ∀ {i : Nat} {b : β}, m[i]? = some b → ∃ a, l[i]? = some a ∧ F a b
  | _, _, .nil, i, b, e => by simp at e
  | _, _, .cons r t, 0, b, e => by
    have z := Option.some.inj e
    subst z
    exact ⟨_, rfl, r⟩
  | _, _, .cons r t, i + 1, b, e => by
    obtain ⟨a, h1, h2⟩ := paired_right t (i := i) (b := b) (by simpa using e)
    exact ⟨a, by simpa using h1, h2⟩
theorem turn_keysM {P : Program} {w : World} {K : PySem.W.Frag} {tg : Expr} {d it : Addr} {keys : List Str} {es : Array DictEntry} {n : Nat} (D : DKs K d keys es n) : Turn P w K tg (Itm keys) [it] it (fun i h => h.IsKeyIter it d i keys.length n) where
  mem := by simp
  obj := fun i h st b hb => by
    have e : b = it := by simpa using hb
    subst e
    obtain ⟨oi, e, c, dd⟩ := st
    exact ⟨oi, e, fun v z => by rw [dd] at z; cases z⟩
  keep := fun i h h' st k => st.at fun oi e => k it (by simp) oi e
  item := by
    intro X hP hw hK hc i pins s σ H E I hf st hg
    subst hP hw hK
    have hg : i < keys.length := hg
    obtain ⟨f0, f1, f2, f3, f4, f5⟩ := hf it (by simp)
    obtain ⟨k, hk⟩ : ∃ k, keys[i]? = some k := ⟨keys[i], List.getElem?_eq_getElem hg⟩
    obtain ⟨en, he, t, hkey⟩ := paired_right D.k hk
    refine next_key_item st (I.kIn _ _ D.l) rfl D.size (by rw [← Array.getElem?_toList]; exact he) fun h' st' sb => ?_
    have I1 : Inv X pins σ H { s with heap := h' } := I.turned (t' := s.toks) (fun b ob hb e => (sb.2 b hb).trans e) f0 f1 f3 f4 f5
    obtain ⟨oi, e, c, dd⟩ := id st'
    exact ⟨en.key, rfl, go_of (s := { s with heap := h' }) e c dd (by decide) ⟨.str k, H, I1, ⟨t, hkey⟩, ⟨rfl, k, hk, rfl⟩, st', fun b hb => (hf b hb).1⟩⟩
  done := by
    intro X hP hw hK hc i pins s σ H E I hf st hg
    subst hP hw hK
    obtain ⟨f0, f1, f2, f3, f4, f5⟩ := hf it (by simp)
    exact next_key_end (I.ok.hd hc) st (I.kIn _ _ D.l) rfl D.size hg fun h' eb => ⟨rfl, I.turned (t' := s.toks) (fun b ob hb e => eb b ob hb e) f0 f1 f3 f4 f5⟩
  self := fun A i s Q E st h => wpAny_pyIter_keyiter st h
def iKeysM2 (K : PySem.W.Frag) (td : TE) : TI := fun σ H R => td σ H fun x H1 => ∃ d keys es n, x = .ref d ∧ DKs K d keys es n ∧ R (Itm keys) H1
theorem pi_keysM2 {X : Cx} {tg e : Expr} {td : TE} (he : PE X e td) : PI X tg e (iKeysM2 X.K td) := by
  intro pins s σ H R I h
  refine thn (he pins s σ H _ I h) fun u s1 ⟨x, H1, I1, rx, d, keys, es, n, ex, D, q⟩ => ?_
  subst ex
  obtain rfl : u = Value.ref d := rx
  refine iter_keys D.o (I1.kIn _ _ D.l) ⟨rfl, rfl, rfl⟩ rfl (pi_one (tk := s1.toks) I1 _ (turn_keysM D) ⟨_, Heap.get?_push_size _ rfl, rfl, ?_⟩ q)
  rw [D.size] <;> rfl
theorem for_keysM {keys : List Str} {g : TG} {tb : TS} {D : Ends} {σ : L2.St} {H : Hp} (Pv : Nat → L2.St → Hp → Prop) (h0 : Pv 0 σ H)
    (hs : ∀ i k σ H, keys[i]? = some k → Pv i σ H → g (.str k) σ H fun σ2 H2 => tb { D with nx := Pv (i + 1), ct := Pv (i + 1), bk := D.nx } σ2 H2) (hd : ∀ σ H, Pv keys.length σ H → D.nx σ H) :
    ∃ W : Nat → Nat → L2.St → Hp → Prop, (∃ m, W 0 m σ H) ∧ ∀ i m σ H, W i m σ H →
      ((Itm keys).stop i H ∧ D.nx σ H) ∨ ((Itm keys).go i H ∧ ∃ N : L2.St → Hp → Prop, (∀ σ' H', N σ' H' → ∃ m', m' < m ∧ W (i + 1) m' σ' H') ∧ ∀ x H', (Itm keys).yld i H x H' → g x σ H' fun σ2 H2 => tb { D with nx := N, ct := N, bk := D.nx } σ2 H2) := by
  refine ⟨fun i m σ H => m = keys.length - i ∧ i ≤ keys.length ∧ Pv i σ H, ⟨keys.length, by simp, Nat.zero_le _, h0⟩, ?_⟩
  rintro i m σ H ⟨rfl, hi, p⟩
  by_cases hlt : i < keys.length
  · refine .inr ⟨hlt, Pv (i + 1), fun σ' H' p' => ⟨keys.length - (i + 1), by omega, rfl, hlt, p'⟩, fun x H' y => ?_⟩
    obtain ⟨e, k, hk, ex⟩ := y
    subst e ex
    exact hs i k σ _ hk p
  · have e : i = keys.length := by omega
    subst e
    exact .inl ⟨Nat.le_refl _, hd σ H p⟩
def rIxM (K : PySem.W.Frag) (Pm : Params) : R2 := fun x y H Q => ∃ d k es n b, x = .ref d ∧ y = .str k ∧ K.lookup d = some ⟨.type "dict", none, .dict es n, #[]⟩ ∧ PySem.W.KeysLit Pm es.toList ∧ PySem.W.nsIn K d k = some (some (.ref b)) ∧ Q (.ref b) H
theorem ix_dictM {X : Cx} : IxR X (rIxM X.K X.w.params) := by
  intro value slice pins s σ H x y v u Q I rx ry h hs
  obtain ⟨d, k, es, n, b, rfl, rfl, hl, hk, hn, q⟩ := h
  obtain rfl : v = Value.ref d := rx
  obtain ⟨t, rfl⟩ := ry
  obtain ⟨m, fr⟩ := I.fr
  exact PySem.W.topItem_K fr I.ok.mod.kin hl hk hn ⟨.ref b, H, I.tok _, rfl, q⟩ hs
end FP
end
section
set_option Elab.async false
set_option linter.all false
set_option maxRecDepth 100000
namespace FP
open PySem PySem.Spec PyProof.Rows L2 LX VM
theorem bt_ord : bootBuiltins "ord" = some (.builtin "ord") := by decide +kernel
theorem pgr {X : Cx} {x : Str} {a : Addr} {pos : Pos} (hg : Gl X x) (hm : X.mg x = some (.ref a)) (hd : (x == ("__debug__" : Str)) = false := by decide) : PE X (.Name x pos) (tC (.ref a)) := pe_glob hg hm (v := .ref a) rfl hd
theorem pgi {X : Cx} {x : Str} {n : Int} {t : Tok} {pos : Pos} (hg : Gl X x) (hm : X.mg x = some (.int n t)) (hd : (x == ("__debug__" : Str)) = false := by decide) : PE X (.Name x pos) (tC (.int n)) := pe_glob hg hm (v := .int n) ⟨t, rfl⟩ hd
def GDef (K : PySem.W.Frag) (mg : Str → Option Value) (x : Str) (st : Stmt) : Prop := ∃ f fd, mg x = some (.ref f) ∧ Fun K x x st f fd
def GFn (P : Program) (w : World) (K : PySem.W.Frag) (mg : Str → Option Value) (base : Heap) (CX : CXT) (k : Nat) (x : Str) (ps : List Str) (sp : Sp) : Prop :=
  ∃ f fd, mg x = some (.ref f) ∧ PySem.W.keepIn K (.ref f) = true ∧ Binds K fd ps [] ∧ FnOk P w K mg base CX k f fd ps sp
def MDef (K : PySem.W.Frag) (C : Addr) (m q : Str) (st : Stmt) : Prop := ∃ f fd, Meth K C m f ∧ Fun K m q st f fd
def MFn (P : Program) (w : World) (K : PySem.W.Frag) (mg : Str → Option Value) (base : Heap) (CX : CXT) (k : Nat) (C : Addr) (m : Str) (ps : List Str) (sp : Sp) : Prop :=
  ∃ f fd, Meth K C m f ∧ Binds K fd ps [] ∧ FnOk P w K mg base CX k f fd ps sp
def MkDef (K : PySem.W.Frag) (mg : Str → Option Value) (x q : Str) (C : Addr) (st : Stmt) : Prop := ∃ f fd, mg x = some (.ref C) ∧ Cls K C ∧ Mk K C f ∧ Fun K "__init__" q st f fd
def MkFn (P : Program) (w : World) (K : PySem.W.Frag) (mg : Str → Option Value) (base : Heap) (CX : CXT) (k : Nat) (x : Str) (C : Addr) (ps : List Str) (sp : Sp) : Prop :=
  ∃ f fd, mg x = some (.ref C) ∧ Cls K C ∧ Mk K C f ∧ Binds K fd ps [] ∧ FnOk P w K mg base CX k f fd ps sp
def XDef (K : PySem.W.Frag) (mg : Str → Option Value) (x q : Str) (C : Addr) (st : Stmt) : Prop := ∃ f fd, mg x = some (.ref C) ∧ XM K C f ∧ Fun K "__init__" q st f fd
def XFn (P : Program) (w : World) (K : PySem.W.Frag) (mg : Str → Option Value) (base : Heap) (CX : CXT) (k : Nat) (x : Str) (C : Addr) (ps : List Str) (sp : Sp) : Prop :=
  ∃ f fd, mg x = some (.ref C) ∧ XM K C f ∧ Binds K fd ps [] ∧ FnOk P w K mg base CX k f fd ps sp
theorem gdef_mk {K : PySem.W.Frag} {h : Heap} {mg : Str → Option Value} {x : Str} {st : Stmt} {f : Addr} {oc : Value} {od an : Option Addr} {osl : Array (Option Value)} {kV doc pm cdv ct : Value} (X : K.In h) (G : h.Ns mainGlobals mg) (a : PySem.W.nsIn K mainGlobals x = some (some (.ref f)))
    (l : K.lookup f = some ⟨oc, od, .func (PySem.W.fnOf x x (defArgs st) (defBody st) (defScope st) .none kV doc pm an cdv ct), osl⟩) (c : PySem.W.codeIn K cdv x = true) (k : PySem.W.keepIn K (.ref f) = true) : GDef K mg x st := ⟨f, _, PySem.W.mg_of X G a, fun_mk l c k⟩
theorem mdef_mk {K : PySem.W.Frag} {C : Addr} {m q : Str} {st : Stmt} {f : Addr} {oc : Value} {od an : Option Addr} {osl : Array (Option Value)} {kV doc pm cdv ct : Value} (a : PySem.W.findIn K (.ref C) m = some (some (.ref f))) (i : PySem.W.isFn K (.ref f) = true)
    (l : K.lookup f = some ⟨oc, od, .func (PySem.W.fnOf m q (defArgs st) (defBody st) (defScope st) .none kV doc pm an cdv ct), osl⟩) (c : PySem.W.codeIn K cdv q = true) (k : PySem.W.keepIn K (.ref f) = true) : MDef K C m q st := ⟨f, _, ⟨a, i, k⟩, fun_mk l c k⟩
def NumG (mg : Str → Option Value) (x : Str) (n : Int) : Prop := ∃ t, mg x = some (.int n t)
def RgG (K : PySem.W.Frag) (mg : Str → Option Value) (x : Str) (rs : List (Int × Int)) : Prop := ∃ a, mg x = some (.ref a) ∧ RgK K a rs
def rgD (rs : List (Int × Int)) : PyData := .tuple (rs.map fun r => .tuple [.int r.1, .int r.2])
theorem rg_all {K : PySem.W.Frag} {H : Hp} : ∀ {bs : List Addr} {rs : List (Int × Int)}, Paired (fun b (r : Int × Int) => SqT K H b [.int r.1, .int r.2]) bs rs → DpAll K H (bs.map V.ref) (rs.map fun r => .tuple [.int r.1, .int r.2])
  | _, _, .nil => .nil
  | _, _, .cons r t => .cons (.tup r (.cons (.int _) (.cons (.int _) .nil))) (rg_all t)
theorem Rg.dp {K : PySem.W.Frag} {H : Hp} {a : Addr} {rs : List (Int × Int)} (h : Rg K H a rs) : Dp K H (.ref a) (rgD rs) := by
  obtain ⟨bs, h1, h2⟩ := h
  exact .tup h1 (rg_all h2)
theorem rg_shaped (rs : List (Int × Int)) : SeqAt.shaped (rgD rs) = true := by
  have h1 : ∀ l : List (Int × Int), PyData.canLayAll0 (l.map fun r => .tuple [.int r.1, .int r.2]) = true := by
    intro l
    induction l with
    | nil => rfl
    | cons r l ih =>
      rw [List.map_cons]
      unfold PyData.canLayAll0
      rw [ih, Bool.and_true]
      rfl
  have h2 : ∀ l : List (Int × Int), PyData.depthAll (l.map fun r => .tuple [.int r.1, .int r.2]) ≤ 1 := by
    intro l
    induction l with
    | nil => exact Nat.zero_le _
    | cons r l ih =>
      rw [List.map_cons]
      unfold PyData.depthAll
      exact Nat.max_le.mpr ⟨by simp [PyData.depth, PyData.depthAll], ih⟩
  unfold SeqAt.shaped rgD
  rw [Bool.and_eq_true]
  refine ⟨?_, decide_eq_true ?_⟩
  · unfold PyData.canLay0
    exact h1 rs
  · unfold PyData.depth
    have := h2 rs
    omega
theorem map_get {α β : Type} {f : α → β} {as : List α} {i : Nat} {y : β} (h : (as.map f)[i]? = some y) : ∃ c, as[i]? = some c ∧ y = f c := by
  rw [List.getElem?_map] at h
  cases e : as[i]? with
  | none =>
    rw [e] at h
    cases h
  | some c =>
    rw [e] at h
    exact ⟨c, rfl, (Option.some.inj h).symm⟩
theorem paired_left {α β : Type} {F : α → β → Prop} : ∀ {l : List α} {m : List β}, Paired F l m → ∀ {i : Nat} {a : α}, l[i]? = some a → ∃ b, m[i]? = some b ∧ F a b
  | _, _, .nil, i, b, e => by simp at e
  | _, _, .cons r t, 0, b, e => by
    have z := Option.some.inj e
    subst z
    exact ⟨_, rfl, r⟩
  | _, _, .cons r t, i + 1, b, e => by
    obtain ⟨a, h1, h2⟩ := paired_left t (i := i) (a := b) (by simpa using e)
    exact ⟨a, by simpa using h1, h2⟩
theorem take_snoc {α : Type} : ∀ {l : List α} {i : Nat} {x : α}, l[i]? = some x → l.take (i + 1) = l.take i ++ [x]
  | [], i, x, h => by simp at h
  | a :: l, 0, x, h => by
    have e : a = x := Option.some.inj h
    subst e
    rfl
  | a :: l, i + 1, x, h => by
    have ih := take_snoc (l := l) (i := i) (x := x) h
    show a :: l.take (i + 1) = a :: l.take i ++ [x]
    rw [ih]
    rfl
theorem dup {T G : Prop} (f : T → G) (t : T) : G := f t
theorem decI {i j : Int} : decide (V.int i = V.int j) = decide (i = j) := by
  rw [Bool.eq_iff_iff]
  simp only [decide_eq_true_eq]
  exact ⟨fun h => by injection h, fun h => by rw [h]⟩
def FailsN (C : Addr) (E : XK) (ks : List Int) : Prop := ∀ dx l fs H', H' dx = some (.xd fs) → fs.lookup ("answer" : Str) = some (.ref l) → H' l = some (.lst (ks.map V.int)) → E (.ref C) (some dx) H'
def FailsP (C : Addr) (E : XK) (kd pl : Int) : Prop := ∀ dx l fs H', H' dx = some (.xd fs) → fs.lookup ("answer" : Str) = some (.ref l) → H' l = some (.lst [.int kd, .int pl]) → fs.lookup ("kind" : Str) = some (.int kd) → fs.lookup ("place" : Str) = some (.int pl) → E (.ref C) (some dx) H'
def spOther (K : PySem.W.Frag) : Sp := fun vs H Q _ => ∃ a v C us, vs = [.ref a, v] ∧ XC K C ∧ H a = some (xo a C none us) ∧ ∀ dx, H dx = none → dx ≠ a → Q .non (upd (upd H dx (.xd [("answer", v)])) a (xo a C (some dx) us))
def spX0 (C : Addr) (ks : List Int) : Sp := fun vs H Q _ => ∃ a us, vs = [.ref a] ∧ H a = some (xo a C none us) ∧ ∀ dx l fs H2, Kp [a] H H2 → H2 a = some (xo a C (some dx) us) → H2 dx = some (.xd fs) → fs.lookup ("answer" : Str) = some (.ref l) → H2 l = some (.lst (ks.map V.int)) → l ≠ a → dx ≠ a → Q .non H2
def spPF (C : Addr) : Sp := fun vs H Q _ => ∃ a us kd pl, vs = [.ref a, .int kd, .int pl] ∧ H a = some (xo a C none us) ∧ ∀ dx l fs H2, Kp [a] H H2 → H2 a = some (xo a C (some dx) us) → H2 dx = some (.xd fs) → fs.lookup ("answer" : Str) = some (.ref l) → H2 l = some (.lst [.int kd, .int pl]) →
  fs.lookup ("kind" : Str) = some (.int kd) → fs.lookup ("place" : Str) = some (.int pl) → l ≠ a → dx ≠ a → Q .non H2
theorem rd_PF {H1 : Hp} {C : Addr} {E : XK} {kd pl : Int} (hE : FailsP C E kd pl) : ([V.int kd, V.int pl] : List V).length ≤ sizeLine ∧ ∀ a tt, H1 a = none → spPF C (.ref a :: [V.int kd, V.int pl]) (upd H1 a (xo a C none (v0 tt)))
    (fun v H2 => v = .non ∧ ∃ dx, H2 a = some (xo a C (some dx) (v0 tt)) ∧ E (.ref C) (some dx) (drp H2 a)) E := by
  refine ⟨by show 2 ≤ sizeLine; decide, fun a tt na => ⟨a, _, kd, pl, rfl, upd_same, fun dx l fs H2 _ h1 h2 h3 h4 h5 h6 n1 n2 => ⟨rfl, dx, h1, hE dx l fs _ ?_ h3 ?_ h5 h6⟩⟩⟩
  · rw [drp_ne n2]; exact h2
  · rw [drp_ne n1]; exact h4
theorem rd_X0 {H1 : Hp} {C : Addr} {E : XK} {ks : List Int} (hE : FailsN C E ks) : ([] : List V).length ≤ sizeLine ∧ ∀ a tt, H1 a = none → spX0 C ks (.ref a :: []) (upd H1 a (xo a C none (v0 tt)))
    (fun v H2 => v = .non ∧ ∃ dx, H2 a = some (xo a C (some dx) (v0 tt)) ∧ E (.ref C) (some dx) (drp H2 a)) E := by
  refine ⟨Nat.zero_le _, fun a tt na => ⟨a, _, rfl, upd_same, fun dx l fs H2 _ h1 h2 h3 h4 n1 n2 => ⟨rfl, dx, h1, hE dx l fs _ ?_ h3 ?_⟩⟩⟩
  · rw [drp_ne n2]; exact h2
  · rw [drp_ne n1]; exact h4
theorem rd_X0N {H1 : Hp} {c Cc dc C : Addr} {E : XK} {ks : List Int} {D : Ends} {σ : L2.St} (hE : FailsN C E ks) (hc : H1 c = none) : tRaiseN c Cc dc C (spX0 C ks) E tNil D σ (upd H1 c (xg c Cc dc)) := by
  refine ⟨Nat.zero_le _, fun a tt na => ⟨a, _, rfl, upd_same, fun dx l fs H2 kp h1 h2 h3 h4 n1 n2 => ⟨rfl, ?_, dx, h1, ?_, hE dx l fs _ ?_ h3 ?_⟩⟩⟩
  · intro z
    rw [z, upd_same] at na
    cases na
  · have nca : c ≠ a := fun z => by
      rw [← z, upd_same] at na
      cases na
    refine kp c _ ?_ (by simp [nca])
    rw [upd_ne nca, upd_same]
  · rw [drp_ne n2]; exact h2
  · rw [drp_ne n1]; exact h4
def cf (l : Addr) (p : Int) : List (Str × V) := putF "place" (.int p) (putF "text" (.ref l) [])
def CurAt (C : Addr) (H : Hp) (c l : Addr) (p : Int) : Prop := ∃ dx, H c = some (.ins C dx (cf l p))
theorem cf_place (l : Addr) (p : Int) : (cf l p).lookup ("place" : Str) = some (.int p) := lk0
theorem cf_text (l : Addr) (p : Int) : (cf l p).lookup ("text" : Str) = some (.ref l) := (lk1 (by decide +kernel)).trans lk0
theorem cf_no {l : Addr} {p : Int} {m : Str} (h1 : ¬ m = "place") (h2 : ¬ m = "text") : (cf l p).lookup m = none := by
  unfold cf
  rw [lk1 h1, lk1 h2]
  rfl
theorem cf_put (l : Addr) (p q : Int) : putF "place" (.int q) (cf l p) = cf l q := put_put _ _ _ _
theorem cf_len (l : Addr) (p : Int) : (cf l p).length < 1000 := by
  have h : (cf l p).length ≤ 2 := by
    unfold cf
    have h1 := length_putF "place" (V.int p) (putF "text" (.ref l) [])
    have h2 := length_putF "text" (V.ref l) []
    have h3 : ([] : List (Str × V)).length = 0 := rfl
    omega
  omega
structure CurT (K : PySem.W.Frag) (C : Addr) : Prop where
  cl : Cls K C
  nT : NoAttr K C "text"
  nP : NoAttr K C "place"
theorem pk_end {t : Vaflxa.Text} : pk t t.length = -1 := pk_none (List.getElem?_eq_none_iff.mpr (Nat.le_refl _))
end FP
namespace FP
open PySem PySem.Spec PyProof.Rows L2 LX VM
theorem Kp.over {ch : List Addr} {H H1 : Hp} {a : Addr} {o : HO} (k : Kp ch H H1) (n : H a = none) : Kp ch H (upd H1 a o) := fun b u e m => by
  rw [upd_ne (ne_of_none e n)]
  exact k b u e m
def At (K : PySem.W.Frag) (C : Addr) (H : Hp) (c l : Addr) (t : Vaflxa.Text) (p : Nat) : Prop := CurAt C H c l p ∧ SqL K H l (bz t) ∧ p ≤ t.length
theorem CurAt.ins {C : Addr} {H : Hp} {c l : Addr} {p : Int} (h : CurAt C H c l p) : Ins [c] H := by
  obtain ⟨dx, e⟩ := h
  exact Ins.one e
theorem At.step {K : PySem.W.Frag} {C : Addr} {H H' : Hp} {c l : Addr} {t : Vaflxa.Text} {p q : Nat} (h : At K C H c l t p) (hc : CurAt C H' c l q) (k : Kp [c] H H') (hq : q ≤ t.length) : At K C H' c l t q :=
  ⟨hc, k.sqL h.1.ins h.2.1, hq⟩
theorem CurAt.new {C : Addr} {H : Hp} {c l a : Addr} {p : Int} {o : HO} (h : CurAt C H c l p) (n : H a = none) : CurAt C (upd H a o) c l p := by
  obtain ⟨dx, e⟩ := h
  exact ⟨dx, by rw [upd_ne (ne_of_none e n)]; exact e⟩
def Rds {α : Type} (C CP : Addr) (c l : Addr) (H : Hp) (Q : VK) (E : XK) (W : α → V → Hp → Prop) : Except Vaflxa.Fault (α × Nat) → Prop
  | .ok (x, p) => ∀ v H', CurAt C H' c l (p : Int) → Kp [c] H H' → W x v H' → Q v H'
  | .error e => FailsP CP E (e.kind : Int) (e.place : Int)
def isCls (K : PySem.W.Frag) (k : Vaflxa.Cls) (v : V) (H : Hp) : Prop := ∃ a, v = .ref a ∧ Rg K H a (rngs k)
def ordOf (x : Str) : Int := (x.cps.getD 0 0 : Nat)
def clsKeys : List Str := ["D", "L", "U", "A", "N", "B", "."]
theorem key_one {i : Nat} {k : Str} (h : clsKeys[i]? = some k) : k.length = 1 ∧ ∃ cl, sgns[i]? = some (ordOf k, cl) := by
  match i, h with
  | 0, h => cases h; exact ⟨by decide +kernel, .digits, rfl⟩
  | 1, h => cases h; exact ⟨by decide +kernel, .small, rfl⟩
  | 2, h => cases h; exact ⟨by decide +kernel, .capitals, rfl⟩
  | 3, h => cases h; exact ⟨by decide +kernel, .letters, rfl⟩
  | 4, h => cases h; exact ⟨by decide +kernel, .words, rfl⟩
  | 5, h => cases h; exact ⟨by decide +kernel, .blanks, rfl⟩
  | 6, h => cases h; exact ⟨by decide +kernel, .empty, rfl⟩
  | i + 7, h => simp [clsKeys] at h
def ClsG (K : PySem.W.Frag) (mg : Str → Option Value) (Pm : Params) : Prop := ∃ d es n, mg "CLASS_RANGES" = some (.ref d) ∧ DKs K d clsKeys es n ∧ PySem.W.KeysLit Pm es.toList ∧
  ∀ (i : Nat) (k : Str) (z : Int) (cl : Vaflxa.Cls), clsKeys[i]? = some k → sgns[i]? = some (z, cl) → ∃ b, PySem.W.nsIn K d k = some (some (.ref b)) ∧ RgK K b (rngs cl)
theorem find_at {α : Type} {p : α → Bool} : ∀ {l : List α} {i : Nat} {x : α}, (l.take i).find? p = none → l[i]? = some x → p x = true → l.find? p = some x
  | [], i, x, _, h, _ => by simp at h
  | a :: l, 0, x, _, h, q => by
    have e : a = x := Option.some.inj h
    subst e
    rw [List.find?_cons, q]
  | a :: l, i + 1, x, h0, h, q => by
    rw [List.take_succ_cons, List.find?_cons] at h0
    rw [List.find?_cons]
    cases e : p a with
    | true => rw [e] at h0; cases h0
    | false =>
      rw [e] at h0
      exact find_at (l := l) (i := i) h0 (by simpa using h) q
theorem find_snoc {α : Type} {p : α → Bool} {l : List α} {i : Nat} {x : α} (h0 : (l.take i).find? p = none) (h : l[i]? = some x) (q : p x = false) : (l.take (i + 1)).find? p = none := by
  rw [take_snoc h, List.find?_append, h0, List.find?_cons, q]
  rfl
def bfr (rs : List (Int × Int)) (t : Vaflxa.Text) (p : Nat) : Bool := decide (0 < p) && inRs rs (pk t (p - 1))
def bhd (rs : List (Int × Int)) (t : Vaflxa.Text) (p : Nat) : Bool := decide (p < t.length) && inRs rs (pk t p)
def bgn (rs : List (Int × Int)) (t : Vaflxa.Text) (p : Nat) : Bool := rs.isEmpty || (bhd rs t p && !bfr rs t p)
def ens (rs : List (Int × Int)) (t : Vaflxa.Text) (p : Nat) : Bool := rs.isEmpty || (bfr rs t p && !bhd rs t p)
theorem byteIn_eq (k : Vaflxa.Cls) (t : Vaflxa.Text) (p : Nat) : Vaflxa.byteIn k t p = bhd (rngs k) t p := by
  unfold Vaflxa.byteIn bhd
  by_cases h : p < t.length
  · have e : t[p]? = some t[p] := List.getElem?_eq_getElem h
    rw [e, decide_eq_true h, pk_some e]
    exact inClass_eq k _
  · have e : t[p]? = none := List.getElem?_eq_none_iff.mpr (by omega)
    rw [e, decide_eq_false h]
    rfl
theorem beforeIn_eq (k : Vaflxa.Cls) (t : Vaflxa.Text) (p : Nat) (hp : p ≤ t.length) : Vaflxa.beforeIn k t p = bfr (rngs k) t p := by
  unfold Vaflxa.beforeIn bfr
  rw [byteIn_eq]
  unfold bhd
  by_cases h : 0 < p
  · rw [decide_eq_true (show p - 1 < t.length by omega), Bool.true_and]
  · rw [decide_eq_false h, Bool.false_and, Bool.false_and]
theorem begins_eq (k : Vaflxa.Cls) (t : Vaflxa.Text) (p : Nat) (hp : p ≤ t.length) : Vaflxa.begins k t p = bgn (rngs k) t p := by
  unfold Vaflxa.begins bgn
  rw [isEmpty_eq, byteIn_eq, beforeIn_eq k t p hp]
theorem ends_eq (k : Vaflxa.Cls) (t : Vaflxa.Text) (p : Nat) (hp : p ≤ t.length) : Vaflxa.ends k t p = ens (rngs k) t p := by
  unfold Vaflxa.ends ens
  rw [isEmpty_eq, byteIn_eq, beforeIn_eq k t p hp]
def nz (l : List Nat) : List V := l.map fun (n : Nat) => V.int ((n : Nat) : Int)
def bord (r1 r2 : List (Int × Int)) (t : Vaflxa.Text) : List Nat := (List.range (t.length + 1)).filter fun p => ens r1 t p && bgn r2 t p
theorem borders_eq (k m : Vaflxa.Cls) (t : Vaflxa.Text) : Vaflxa.borders k m t = bord (rngs k) (rngs m) t := by
  unfold Vaflxa.borders bord
  refine List.filter_congr fun p hp => ?_
  have h : p ≤ t.length := by
    have := List.mem_range.mp hp
    omega
  rw [ends_eq k t p h, begins_eq m t p h]
theorem eqv_empty (rs : List (Int × Int)) : PyData.eqv (rgD rs) (rgD []) = rs.isEmpty := by
  cases rs <;> rfl
end FP
end
section
set_option Elab.async false
set_option linter.all false
set_option maxRecDepth 100000
namespace FP
open PySem PySem.Spec PyProof.Rows L2 LX VM
def efs (b : Bool) (n : Int) : List (Str × V) := putF "distance" (.int n) (putF "from_right" (.bl b) [])
def bfs (x y : Addr) (b : Bool) (n : Int) : List (Str × V) := putF "rank" (.int n) (putF "from_right" (.bl b) (putF "right" (.ref y) (putF "left" (.ref x) [])))
theorem putF_le (f : Str) (v : V) (fs : List (Str × V)) {n : Nat} (h : fs.length ≤ n) : (putF f v fs).length ≤ n + 1 := by
  have := length_putF f v fs
  omega
theorem nil_le : ([] : List (Str × V)).length ≤ 0 := Nat.le_refl _
theorem lt1000 {fs : List (Str × V)} {n : Nat} (h : fs.length ≤ n) (hn : n < 1000) : fs.length < 1000 := Nat.lt_of_le_of_lt h hn
structure Cs where
  E : Addr
  B : Addr
  C : Addr
  T : Addr
def isPos (K : PySem.W.Frag) (cs : Cs) : Vaflxa.Pos → Addr → Hp → Prop
  | .start n, a, H => ∃ dx, H a = some (.ins cs.E dx (efs false n))
  | .finish n, a, H => ∃ dx, H a = some (.ins cs.E dx (efs true n))
  | .left l r n, a, H => ∃ dx x y, H a = some (.ins cs.B dx (bfs x y false n)) ∧ Rg K H x (rngs l) ∧ Rg K H y (rngs r) ∧ 1 ≤ n
  | .right l r n, a, H => ∃ dx x y, H a = some (.ins cs.B dx (bfs x y true n)) ∧ Rg K H x (rngs l) ∧ Rg K H y (rngs r) ∧ 1 ≤ n
section
variable {K : PySem.W.Frag} {cs : Cs} {ch : List Addr} {H H' : Hp} {a : Addr}
theorem efs_no {b : Bool} {n : Int} {m : Str} (h1 : ¬ m = "distance") (h2 : ¬ m = "from_right") : (efs b n).lookup m = none := by
  unfold efs
  rw [lk1 h1, lk1 h2]
  rfl
theorem bfs_no {x y : Addr} {b : Bool} {n : Int} {m : Str} (h1 : ¬ m = "rank") (h2 : ¬ m = "from_right") (h3 : ¬ m = "right") (h4 : ¬ m = "left") : (bfs x y b n).lookup m = none := by
  unfold bfs
  rw [lk1 h1, lk1 h2, lk1 h3, lk1 h4]
  rfl
theorem efs_d (b : Bool) (n : Int) : (efs b n).lookup ("distance" : Str) = some (.int n) := lk0
theorem efs_f (b : Bool) (n : Int) : (efs b n).lookup ("from_right" : Str) = some (.bl b) := (lk1 (by decide +kernel)).trans lk0
theorem bfs_k (x y : Addr) (b : Bool) (n : Int) : (bfs x y b n).lookup ("rank" : Str) = some (.int n) := lk0
theorem bfs_f (x y : Addr) (b : Bool) (n : Int) : (bfs x y b n).lookup ("from_right" : Str) = some (.bl b) := (lk1 (by decide +kernel)).trans lk0
theorem bfs_r (x y : Addr) (b : Bool) (n : Int) : (bfs x y b n).lookup ("right" : Str) = some (.ref y) := (lk1 (by decide +kernel)).trans ((lk1 (by decide +kernel)).trans lk0)
theorem bfs_l (x y : Addr) (b : Bool) (n : Int) : (bfs x y b n).lookup ("left" : Str) = some (.ref x) := (lk1 (by decide +kernel)).trans ((lk1 (by decide +kernel)).trans ((lk1 (by decide +kernel)).trans lk0))
end
def tOrE (t u : TE) : TE := fun σ H Q => t σ H Q ∨ u σ H Q
theorem pe_or2 {X : Cx} {e : Expr} {t u : TE} (h1 : PE X e t) (h2 : PE X e u) : PE X e (tOrE t u) := fun pins s σ H Q I h => h.elim (fun z => h1 pins s σ H Q I z) fun z => h2 pins s σ H Q I z
end FP
end
section
set_option Elab.async false
set_option linter.all false
set_option maxRecDepth 100000
namespace FP
open PySem PySem.Spec PyProof.Rows L2 LX VM
section
variable {K : PySem.W.Frag} {h : Heap} {mg : Str → Option Value}
theorem rgk0 {a : Addr} {dd : Option Addr} {sl : Array (Option Value)} {n : Nat} (l : K.lookup a = some ⟨.type "tuple", dd, .seq #[] n, sl⟩) : RgK K a [] := ⟨[], KT.refs (bs := []) l (by decide), .nil⟩
theorem rgk1 {a b1 : Addr} {dd d1 : Option Addr} {sl s1 : Array (Option Value)} {n n1 : Nat} {x1 y1 : Int} {t1 u1 : Tok} (l : K.lookup a = some ⟨.type "tuple", dd, .seq #[.ref b1] n, sl⟩) (l1 : K.lookup b1 = some ⟨.type "tuple", d1, .seq #[.int x1 t1, .int y1 u1] n1, s1⟩) : RgK K a [(x1, y1)] :=
  ⟨[b1], KT.refs (bs := [b1]) l (by show 1 ≤ 1000; decide), .cons (KT.two l1) .nil⟩
theorem rgk2 {a b1 b2 : Addr} {dd d1 d2 : Option Addr} {sl s1 s2 : Array (Option Value)} {n n1 n2 : Nat} {x1 y1 x2 y2 : Int} {t1 u1 t2 u2 : Tok} (l : K.lookup a = some ⟨.type "tuple", dd, .seq #[.ref b1, .ref b2] n, sl⟩) (l1 : K.lookup b1 = some ⟨.type "tuple", d1, .seq #[.int x1 t1, .int y1 u1] n1, s1⟩)
    (l2 : K.lookup b2 = some ⟨.type "tuple", d2, .seq #[.int x2 t2, .int y2 u2] n2, s2⟩) : RgK K a [(x1, y1), (x2, y2)] :=
  ⟨[b1, b2], KT.refs (bs := [b1, b2]) l (by show 2 ≤ 1000; decide), .cons (KT.two l1) (.cons (KT.two l2) .nil)⟩
theorem rgk3 {a b1 b2 b3 : Addr} {dd d1 d2 d3 : Option Addr} {sl s1 s2 s3 : Array (Option Value)} {n n1 n2 n3 : Nat} {x1 y1 x2 y2 x3 y3 : Int} {t1 u1 t2 u2 t3 u3 : Tok} (l : K.lookup a = some ⟨.type "tuple", dd, .seq #[.ref b1, .ref b2, .ref b3] n, sl⟩) (l1 : K.lookup b1 = some ⟨.type "tuple", d1, .seq #[.int x1 t1, .int y1 u1] n1, s1⟩)
    (l2 : K.lookup b2 = some ⟨.type "tuple", d2, .seq #[.int x2 t2, .int y2 u2] n2, s2⟩) (l3 : K.lookup b3 = some ⟨.type "tuple", d3, .seq #[.int x3 t3, .int y3 u3] n3, s3⟩) : RgK K a [(x1, y1), (x2, y2), (x3, y3)] :=
  ⟨[b1, b2, b3], KT.refs (bs := [b1, b2, b3]) l (by show 3 ≤ 1000; decide), .cons (KT.two l1) (.cons (KT.two l2) (.cons (KT.two l3) .nil))⟩
theorem rgG (X : K.In h) (G : h.Ns mainGlobals mg) {x : Str} {a : Addr} {rs : List (Int × Int)} (e : PySem.W.nsIn K mainGlobals x = some (some (.ref a))) (r : RgK K a rs) : RgG K mg x rs := ⟨a, PySem.W.mg_of X G e, r⟩
theorem numG (X : K.In h) (G : h.Ns mainGlobals mg) {x : Str} {n : Int} {t : Tok} (e : PySem.W.nsIn K mainGlobals x = some (some (.int n t))) : NumG mg x n := ⟨t, PySem.W.mg_of X G e⟩
theorem clsG_mk (X : K.In h) (G : h.Ns mainGlobals mg) {Pm : Params} {d b0 b1 b2 b3 b4 b5 b6 : Addr} {es : Array DictEntry} {n : Nat} (e : PySem.W.nsIn K mainGlobals "CLASS_RANGES" = some (some (.ref d))) (l : K.lookup d = some ⟨.type "dict", none, .dict es n, #[]⟩) (o : (d == sysModules) = false)
    (k : Paired (fun (en : DictEntry) (x : Str) => ∃ t, en.key = .str x t) es.toList clsKeys) (kl : PySem.W.KeysLit Pm es.toList)
    (n0 : PySem.W.nsIn K d "D" = some (some (.ref b0))) (r0 : RgK K b0 (rngs .digits)) (n1 : PySem.W.nsIn K d "L" = some (some (.ref b1))) (r1 : RgK K b1 (rngs .small)) (n2 : PySem.W.nsIn K d "U" = some (some (.ref b2))) (r2 : RgK K b2 (rngs .capitals)) (n3 : PySem.W.nsIn K d "A" = some (some (.ref b3))) (r3 : RgK K b3 (rngs .letters))
    (n4 : PySem.W.nsIn K d "N" = some (some (.ref b4))) (r4 : RgK K b4 (rngs .words)) (n5 : PySem.W.nsIn K d "B" = some (some (.ref b5))) (r5 : RgK K b5 (rngs .blanks)) (n6 : PySem.W.nsIn K d "." = some (some (.ref b6))) (r6 : RgK K b6 (rngs .empty)) : ClsG K mg Pm := by
  refine ⟨d, es, n, PySem.W.mg_of X G e, ⟨l, o, k⟩, kl, fun i k z cl hi hs => ?_⟩
  match i, hi, hs with
  | 0, hi, hs => cases hi; cases hs; exact ⟨b0, n0, r0⟩
  | 1, hi, hs => cases hi; cases hs; exact ⟨b1, n1, r1⟩
  | 2, hi, hs => cases hi; cases hs; exact ⟨b2, n2, r2⟩
  | 3, hi, hs => cases hi; cases hs; exact ⟨b3, n3, r3⟩
  | 4, hi, hs => cases hi; cases hs; exact ⟨b4, n4, r4⟩
  | 5, hi, hs => cases hi; cases hs; exact ⟨b5, n5, r5⟩
  | 6, hi, hs => cases hi; cases hs; exact ⟨b6, n6, r6⟩
  | i + 7, hi, hs => simp [clsKeys] at hi
theorem xc_mk {C : Addr} {nm q : Str} {N : Addr} {bs bm : List Value} {sn : List Str} {sub : List Value} {ab : Bool} {col : Option Bool} {dd : Option Addr} {k0 k1 k2 k3 k5 : Option Value} (l : K.lookup C = some (excClassObj nm q C N bs bm true sn sub ab col dd k0 k1 k2 k3 k5 "Exception.__new__")) (hm : xmro bm = true)
    (sa : PySem.W.findIn K (.ref C) "__setattr__" = some (some (.builtin "object.__setattr__"))) (ga : PySem.W.findIn K (.ref C) "__getattribute__" = some (some (.builtin "BaseException.__getattribute__"))) (gh : PySem.W.findIn K (.ref C) "__getattr__" = some none)
    (na : PySem.W.findIn K (.ref C) "answer" = some none) (nk : PySem.W.findIn K (.ref C) "kind" = some none) (np : PySem.W.findIn K (.ref C) "place" = some none) : XC K C := ⟨⟨nm, q, N, bs, bm, sn, sub, ab, col, dd, k0, k1, k2, k3, k5, l, hm⟩, sa, ga, gh, na, nk, np⟩
theorem xdef_mk (X : K.In h) (G : h.Ns mainGlobals mg) {x q : Str} {C : Addr} {st : Stmt} {f : Addr} {oc : Value} {od an : Option Addr} {osl : Array (Option Value)} {kV doc pm cdv ct : Value} (e : PySem.W.nsIn K mainGlobals x = some (some (.ref C))) (xc : XC K C) (i : PySem.W.findIn K (.ref C) "__init__" = some (some (.ref f))) (fn : PySem.W.isFn K (.ref f) = true) (kc : PySem.W.keepIn K (.ref C) = true)
    (l : K.lookup f = some ⟨oc, od, .func (PySem.W.fnOf "__init__" q (defArgs st) (defBody st) (defScope st) .none kV doc pm an cdv ct), osl⟩) (c : PySem.W.codeIn K cdv q = true) (k : PySem.W.keepIn K (.ref f) = true) : XDef K mg x q C st := ⟨f, _, PySem.W.mg_of X G e, ⟨xc, i, fn, kc⟩, fun_mk l c k⟩
theorem mkdef_mk (X : K.In h) (G : h.Ns mainGlobals mg) {x q : Str} {C : Addr} {st : Stmt} {f : Addr} {oc : Value} {od an : Option Addr} {osl : Array (Option Value)} {kV doc pm cdv ct : Value} (e : PySem.W.nsIn K mainGlobals x = some (some (.ref C))) (cl : Cls K C) (mk : PySem.W.makesIn K C = true) (i : PySem.W.findIn K (.ref C) "__init__" = some (some (.ref f))) (fn : PySem.W.isFn K (.ref f) = true) (kc : PySem.W.keepIn K (.ref C) = true)
    (l : K.lookup f = some ⟨oc, od, .func (PySem.W.fnOf "__init__" q (defArgs st) (defBody st) (defScope st) .none kV doc pm an cdv ct), osl⟩) (c : PySem.W.codeIn K cdv q = true) (k : PySem.W.keepIn K (.ref f) = true) : MkDef K mg x q C st := ⟨f, _, PySem.W.mg_of X G e, cl, ⟨mk, i, fn, kc⟩, fun_mk l c k⟩
end
theorem bz_of (l : List Int) (h : ∀ x ∈ l, 0 ≤ x ∧ x ≤ 255) : bz (l.map fun b => UInt8.ofNat b.toNat) = l.map V.int := by
  unfold bz
  rw [List.map_map]
  refine List.map_congr_left fun x hx => ?_
  have hb := h x hx
  show V.int ((UInt8.ofNat x.toNat).toNat : Int) = V.int x
  have e : (UInt8.ofNat x.toNat).toNat = x.toNat := by
    rw [UInt8.toNat_ofNat']
    omega
  rw [e]
  congr 1
  omega
theorem in_of {l : List Int} {lo hi : Int} (h : l.all (PySem.W.Codec.inInt lo hi) = true) : ∀ x ∈ l, lo ≤ x ∧ x ≤ hi := fun x hx => PySem.W.Codec.inInt_iff.mp (List.all_eq_true.mp h x hx)
theorem text_of {l : List Int} (h : ∀ x ∈ l, 0 ≤ x ∧ x ≤ 255) : VaflxaNeutral.text? l = some (l.map fun b => UInt8.ofNat b.toNat) := by
  unfold VaflxaNeutral.text? NeutralIO.bytes
  rw [if_pos]
  rw [List.all_eq_true]
  intro x hx
  have hb := h x hx
  rw [decide_eq_true hb.1, decide_eq_true hb.2]
  rfl
def tx (l : List Int) : Vaflxa.Text := l.map fun b => UInt8.ofNat b.toNat
def Byt (l : List Int) : Prop := ∀ x ∈ l, 0 ≤ x ∧ x ≤ 255
theorem two_of {f : List UInt8 → List UInt8 → Vaflxa.Call} {p q : List Int} (h1 : Byt p) (h2 : Byt q) : VaflxaNeutral.two f p q = some (f (tx p) (tx q)) := by
  unfold VaflxaNeutral.two
  rw [text_of h1, text_of h2]
  rfl
theorem ans_of6 {p q : List Int} (h1 : Byt p) (h2 : Byt q) : PyVaflxa.place p q = Vaflxa.answerOf (.place (tx p) (tx q)) := by
  show (VaflxaNeutral.step VaflxaNeutral.start [[6], p, q]).2 = _
  have e : VaflxaNeutral.callOf [[6], p, q] = some (.place (tx p) (tx q)) := two_of h1 h2
  unfold VaflxaNeutral.step
  rw [e]
  rfl
theorem dw_ans {K : PySem.W.Frag} {H : Hp} {p : Addr} {ns ms : List Int} (e : ns = ms) (h : H p = some (.lst (ms.map V.int))) : Dw K H (.ref p) (.list (ns.map PySem.W.WData.int)) := by
  rw [e]
  exact .lst (SqL.of h) (dw_ints _)
end FP
end
section
set_option Elab.async false
set_option linter.all false
set_option maxRecDepth 100000
set_option maxHeartbeats 2000000
namespace FP
open PySem PySem.Spec PyProof.Rows L2 LX VM
def top (i : Nat) : Stmt := PySem.Challenge.pw_fieldprograms_s07_place.main.body.getD i (.Pass ⟨0, 0, 0, 0⟩)
abbrev d__wall : Stmt := top 0
abbrev d_OtherAnswer_init : Stmt := inClass (top 2) 0
abbrev d_ProgramFault_init : Stmt := inClass (top 3) 0
abbrev d_NoPosition_init : Stmt := inClass (top 4) 0
abbrev d_NoField_init : Stmt := inClass (top 5) 0
abbrev d_both_empty : Stmt := top 9
abbrev d_holds : Stmt := top 10
abbrev d_holds_before : Stmt := top 11
abbrev d_holds_behind : Stmt := top 12
abbrev d_begins : Stmt := top 13
abbrev d_ends : Stmt := top 14
abbrev d_border_places : Stmt := top 15
abbrev d_check_field : Stmt := top 19
abbrev d_Cursor_init : Stmt := inClass (top 22) 0
abbrev d_Cursor_at_end : Stmt := inClass (top 22) 1
abbrev d_Cursor_peek : Stmt := inClass (top 22) 2
abbrev d_Cursor_sees : Stmt := inClass (top 22) 3
abbrev d_Cursor_take : Stmt := inClass (top 22) 4
abbrev d_Cursor_take_sign : Stmt := inClass (top 22) 5
abbrev d_EndPosition_init : Stmt := inClass (top 24) 0
abbrev d_EndPosition_place_in : Stmt := inClass (top 24) 1
abbrev d_EndPosition_cost : Stmt := inClass (top 24) 2
abbrev d_EndPosition_written : Stmt := inClass (top 24) 3
abbrev d_BorderPosition_init : Stmt := inClass (top 25) 0
abbrev d_BorderPosition_place_in : Stmt := inClass (top 25) 1
abbrev d_BorderPosition_cost : Stmt := inClass (top 25) 2
abbrev d_BorderPosition_written : Stmt := inClass (top 25) 3
abbrev d_read_lone_position : Stmt := top 31
abbrev d_read_position : Stmt := top 32
abbrev d_read_border : Stmt := top 33
abbrev d_read_direction : Stmt := top 34
abbrev d_read_class : Stmt := top 35
abbrev d_read_single : Stmt := top 36
abbrev d_read_number : Stmt := top 37
abbrev d_place : Stmt := top 39
section
variable {P : Program} {w : World} {K : PySem.W.Frag} {mg : Str → Option Value} {base : Heap}
theorem sc_Other : FnScope ["self", "answer"] ["self", "answer"] (defScope d_OtherAnswer_init) := ⟨rfl, rfl, rfl, by decide +kernel, rfl, by decide +kernel, by decide +kernel⟩
theorem ok_Other {f : Addr} {fd : FuncData} (F : Fun K "__init__" "OtherAnswer.__init__" d_OtherAnswer_init f fd) : FnOk P w K mg base CX0 1 f fd ["self", "answer"] (spOther K) := by
  refine F.ok sc_Other (fun vs H Q E h => ?_) (fun cdv A outer s H vs Q E hr h => ?_)
  · obtain ⟨a, v, C, us, rfl, _⟩ := h
    rfl
  · obtain ⟨a, v, C, us, rfl, xc, ha, k⟩ := h
    refine ⟨_, pss_one (ps_xset (.inl rfl) (pv 0) (pv 1) rfl), ?_⟩
    exact ⟨_, rfl, _, rfl, a, C, us, rfl, xc, ha, k⟩
def OthT (K : PySem.W.Frag) (mg : Str → Option Value) (CO : Addr) : Prop := ∃ fO fdO, mg "OtherAnswer" = some (.ref CO) ∧ XB K CO fO ∧ Fun K "__init__" "OtherAnswer.__init__" d_OtherAnswer_init fO fdO
def OthF (P : Program) (w : World) (K : PySem.W.Frag) (mg : Str → Option Value) (base : Heap) (CO : Addr) : Prop :=
  ∃ fO fdO, mg "OtherAnswer" = some (.ref CO) ∧ XB K CO fO ∧ Binds K fdO ["self", "answer"] [] ∧ FnOk P w K mg base CX0 1 fO fdO ["self", "answer"] (spOther K)
theorem OthT.fn {CO : Addr} (h : OthT K mg CO) : OthF P w K mg base CO := by
  obtain ⟨f, fd, m, b, F⟩ := h
  exact ⟨f, fd, m, b, F.binds (ps := ["self", "answer"]) fun _ _ _ _ _ _ us hl => match us, hl with | [_, _], _ => rfl, ok_Other F⟩
theorem oth_mk {h : Heap} (X : K.In h) (G : h.Ns mainGlobals mg) {CO : Addr} {f : Addr} {oc : Value} {od an : Option Addr} {osl : Array (Option Value)} {kV doc pm cdv ct : Value} (e : PySem.W.nsIn K mainGlobals "OtherAnswer" = some (some (.ref CO))) (g : PySem.W.specialIn K (.ref CO) "__getattribute__" = some (some (.builtin "type.__getattribute__"))) (r : PySem.W.readsIn K CO (.type "type") = true)
    (i : PySem.W.findCls K (.ref CO) (.type "type") "__init__" = some (.val (.ref f))) (kp : PySem.W.keepIn K (.ref f) = true) (l : K.lookup f = some ⟨oc, od, .func (PySem.W.fnOf "__init__" "OtherAnswer.__init__" (defArgs d_OtherAnswer_init) (defBody d_OtherAnswer_init) (defScope d_OtherAnswer_init) .none kV doc pm an cdv ct), osl⟩) (c : PySem.W.codeIn K cdv "OtherAnswer.__init__" = true) (k : PySem.W.keepIn K (.ref f) = true) : OthT K mg CO :=
  ⟨f, _, PySem.W.mg_of X G e, ⟨g, r, i, kp⟩, fun_mk l c k⟩
theorem sc_PF : FnScope ["self", "kind", "place"] ["self", "kind", "place"] (defScope d_ProgramFault_init) := ⟨rfl, rfl, rfl, by decide +kernel, rfl, by decide +kernel, by decide +kernel⟩
theorem ok_PF {C CO : Addr} (D : XDef K mg "ProgramFault" "ProgramFault.__init__" C d_ProgramFault_init) (O : OthF P w K mg base CO) : XFn P w K mg base CX0 2 "ProgramFault" C ["self", "kind", "place"] (spPF C) := by
  obtain ⟨f, fd, m, M, F⟩ := D
  obtain ⟨fO, fdO, mO, B, bO, GO⟩ := O
  refine ⟨f, fd, m, M, F.binds (ps := ["self", "kind", "place"]) fun _ _ _ _ _ _ us hl => match us, hl with | [_, _, _], _ => rfl, F.ok sc_PF (fun vs H Q E h => ?_) (fun cdv A outer s H vs Q E hr h => ?_)⟩
  · obtain ⟨a, us, kd, pl, rfl, _⟩ := h
    rfl
  · obtain ⟨a, us, kd, pl, rfl, ha, k⟩ := h
    refine ⟨_, pss_cons (ps_expr (pe_base B GO hr bO (passAny (E := E0)) rfl mO (pa_cons (pv 0) (pa_cons (pe_lst (pa_cons (pv 1) (pa_cons (pv 2) pa_nil))) pa_nil)))) (pss_cons (ps_xset2 (.inr (.inl rfl)) (pv 0) (pv 1) rfl) (pss_one (ps_xset2 (.inr (.inr rfl)) (pv 0) (pv 2) rfl))), ?_⟩
    refine ⟨_, rfl, _, rfl, _, rfl, (by show 2 ≤ sizeLine; decide), fun l hl => ?_⟩
    have nla : l ≠ a := Ne.symm (ne_of_none ha hl)
    refine ⟨a, _, C, us, rfl, M.xc, (by rw [upd_ne (Ne.symm nla)]; exact ha), fun dx hdx nda => ?_⟩
    have nld : l ≠ dx := fun z => by
      rw [← z, upd_same] at hdx
      cases hdx
    refine ⟨_, rfl, _, rfl, a, C, us, dx, _, rfl, M.xc, upd_same, (by rw [upd_ne nda, upd_same]), (by show 1 < 1000; decide), ?_⟩
    refine ⟨_, rfl, _, rfl, a, C, us, dx, _, rfl, M.xc, (by rw [upd_ne (Ne.symm nda), upd_same]), upd_same, ?_, ?_⟩
    · have h1 := length_putF "kind" (V.int kd) [(("answer" : Str), V.ref l)]
      have h2 : ([(("answer" : Str), V.ref l)] : List (Str × V)).length = 1 := rfl
      omega
    · refine k dx l _ _ (fun b o hb n => ?_) ?_ upd_same ?_ ?_ ?_ ?_ nla nda
      · have nbl : b ≠ l := ne_of_none hb hl
        have hb1 : upd H l (.lst [V.int kd, V.int pl]) b = some o := by rw [upd_ne nbl]; exact hb
        have nbd : b ≠ dx := ne_of_none hb1 hdx
        have nba : b ≠ a := fun z => n (by simp [z])
        rw [upd_ne nbd, upd_ne nbd, upd_ne nba, upd_ne nbd]
        exact hb1
      · rw [upd_ne (Ne.symm nda), upd_ne (Ne.symm nda), upd_same]
      · rw [lk1 (by decide +kernel), lk1 (by decide +kernel)]
        rfl
      · rw [upd_ne nld, upd_ne nld, upd_ne nla, upd_ne nld, upd_same]
      · rw [lk1 (by decide +kernel), lk0]
      · rw [lk0]
theorem sc_NoPosition : FnScope ["self"] ["self"] (defScope d_NoPosition_init) := ⟨rfl, rfl, rfl, by decide +kernel, rfl, by decide +kernel, by decide +kernel⟩
theorem ok_NoPosition {C CO : Addr} (D : XDef K mg "NoPosition" "NoPosition.__init__" C d_NoPosition_init) (O : OthF P w K mg base CO) : XFn P w K mg base CX0 2 "NoPosition" C ["self"] (spX0 C [-4]) := by
  obtain ⟨f, fd, m, M, F⟩ := D
  obtain ⟨fO, fdO, mO, B, bO, GO⟩ := O
  refine ⟨f, fd, m, M, F.binds (ps := ["self"]) fun _ _ _ _ _ _ us hl => match us, hl with | [_], _ => rfl, F.ok sc_NoPosition (fun vs H Q E h => ?_) (fun cdv A outer s H vs Q E hr h => ?_)⟩
  · obtain ⟨a, us, rfl, _⟩ := h
    rfl
  · obtain ⟨a, us, rfl, ha, k⟩ := h
    refine ⟨_, pss_one (ps_expr (pe_base B GO hr bO (passAny (E := E0)) rfl mO (pa_cons (pv 0) (pa_cons (pe_lst (pa_cons (pe_un un_neg pe_int) pa_nil)) pa_nil)))), ?_⟩
    refine ⟨_, rfl, _, rfl, (by show 1 ≤ sizeLine; decide), fun l hl => ?_⟩
    have nla : l ≠ a := Ne.symm (ne_of_none ha hl)
    refine ⟨a, _, C, us, rfl, M.xc, (by rw [upd_ne (Ne.symm nla)]; exact ha), fun dx hdx nda => ?_⟩
    have nld : l ≠ dx := fun z => by
      rw [← z, upd_same] at hdx
      cases hdx
    refine k dx l _ _ (((Kp.new hl).trans (Kp.new hdx)).trans (Kp.put (by simp))) upd_same (by rw [upd_ne nda, upd_same]) rfl ?_ nla nda
    rw [upd_ne nla, upd_ne nld, upd_same]
    rfl
theorem sc_NoField : FnScope ["self"] ["self"] (defScope d_NoField_init) := ⟨rfl, rfl, rfl, by decide +kernel, rfl, by decide +kernel, by decide +kernel⟩
theorem ok_NoField {C CO : Addr} (D : XDef K mg "NoField" "NoField.__init__" C d_NoField_init) (O : OthF P w K mg base CO) : XFn P w K mg base CX0 2 "NoField" C ["self"] (spX0 C [-1]) := by
  obtain ⟨f, fd, m, M, F⟩ := D
  obtain ⟨fO, fdO, mO, B, bO, GO⟩ := O
  refine ⟨f, fd, m, M, F.binds (ps := ["self"]) fun _ _ _ _ _ _ us hl => match us, hl with | [_], _ => rfl, F.ok sc_NoField (fun vs H Q E h => ?_) (fun cdv A outer s H vs Q E hr h => ?_)⟩
  · obtain ⟨a, us, rfl, _⟩ := h
    rfl
  · obtain ⟨a, us, rfl, ha, k⟩ := h
    refine ⟨_, pss_one (ps_expr (pe_base B GO hr bO (passAny (E := E0)) rfl mO (pa_cons (pv 0) (pa_cons (pe_lst (pa_cons (pe_un un_neg pe_int) pa_nil)) pa_nil)))), ?_⟩
    refine ⟨_, rfl, _, rfl, (by show 1 ≤ sizeLine; decide), fun l hl => ?_⟩
    have nla : l ≠ a := Ne.symm (ne_of_none ha hl)
    refine ⟨a, _, C, us, rfl, M.xc, (by rw [upd_ne (Ne.symm nla)]; exact ha), fun dx hdx nda => ?_⟩
    have nld : l ≠ dx := fun z => by
      rw [← z, upd_same] at hdx
      cases hdx
    refine k dx l _ _ (((Kp.new hl).trans (Kp.new hdx)).trans (Kp.put (by simp))) upd_same (by rw [upd_ne nda, upd_same]) rfl ?_ nla nda
    rw [upd_ne nla, upd_ne nld, upd_same]
    rfl
def spHolds (K : PySem.W.Frag) : Sp := fun vs H Q _ => ∃ a rs b, vs = [.ref a, .int b] ∧ Rg K H a rs ∧ Q (.bl (inRs rs b)) H
theorem sc_holds : FnScope ["ranges", "byte", "low_high"] ["ranges", "byte"] (defScope d_holds) := ⟨rfl, rfl, rfl, by decide +kernel, rfl, by decide +kernel, by decide +kernel⟩
theorem ok_holds (D : GDef K mg "holds" d_holds) : GFn P w K mg base CX0 5 "holds" ["ranges", "byte"] (spHolds K) := by
  obtain ⟨f, fd, m, F⟩ := D
  refine ⟨f, fd, m, F.kp, F.binds (ps := ["ranges", "byte"]) fun _ _ _ _ _ _ us hl => match us, hl with | [_, _], _ => rfl, F.ok sc_holds (fun vs H Q E h => ?_) (fun cdv A outer s H vs Q E hr h => ?_)⟩
  · obtain ⟨a, rs, b, rfl, _⟩ := h
    rfl
  · obtain ⟨a, rs, b, rfl, ⟨bs, hA, hB⟩, k⟩ := h
    have hcm := calm_of hr (by decide)
    refine ⟨_, pss_cons (ps_for PassesOwn.never hcm (pi_tup (pv 0)) (pg_name (i := 2) sc_holds.nd rfl (Or.inl rfl)) (pss_one (ps_if (pt_chain op_le op_le (pe_ix ix_tup (pv 2) pe_int (fun _ _ => rfl)) (pv 1) (pe_ix ix_tup (pv 2) pe_int (fun _ _ => rfl))) (pss_one (ps_ret pe_bl)) pss_nil))) (pss_one (ps_ret pe_bl)), ?_⟩
    have hlen : bs.length = rs.length := Paired.length hB
    refine ⟨_, rfl, a, rfl, ⟨_, hA⟩, for_tup (K := K) (a := a) (xs := bs.map V.ref) (fun i σ H' => ∃ v : Option V, σ = [some (.ref a), some (.int b), v] ∧ H' = H ∧ inRs (rs.take i) b = false)
      ⟨none, rfl, rfl, rfl⟩ (fun i σ H' _ ⟨_, _, e, _⟩ => by rw [e]; exact hA) ?_ ?_⟩
    · rintro i y σ H' hi ⟨v, rfl, rfl, hno⟩
      obtain ⟨c, hc, rfl⟩ := map_get hi
      obtain ⟨r, hr', hS⟩ := paired_left hB hc
      refine ⟨_, rfl, c, _, 0, _, rfl, rfl, hS, atI_nat (j := 0) rfl, _, rfl, _, _, rfl, rfl, _, rfl, ?_⟩
      have step : inRs (rs.take (i + 1)) b = (inRs (rs.take i) b || VM.inR b r) := by
        rw [take_snoc hr', inRs_app]
        unfold inRs
        simp only [List.any_cons, List.any_nil, Bool.or_false]
      refine ite2 (fun h1 => ?_) fun h1 => ?_
      · refine ⟨_, rfl, c, _, 1, _, rfl, rfl, hS, atI_nat (j := 1) rfl, _, _, rfl, rfl, _, rfl, ?_⟩
        refine ite2 (fun h2 => ?_) fun h2 => ?_
        · have e : inRs rs b = true := by
            unfold inRs
            rw [List.any_eq_true]
            exact ⟨r, List.mem_of_getElem? hr', by unfold VM.inR; rw [h1, h2]; rfl⟩
          show Q (.bl true) H'
          rw [← e]
          exact k
        · refine ⟨_, rfl, rfl, ?_⟩
          rw [step, hno]
          unfold VM.inR
          rw [Bool.not_eq_true] at h2
          rw [h2, Bool.and_false]
          rfl
      · refine ⟨false, rfl, iteF ⟨_, rfl, rfl, ?_⟩⟩
        rw [step, hno]
        unfold VM.inR
        rw [Bool.not_eq_true] at h1
        rw [h1]
        rfl
    · rintro σ H' ⟨v, rfl, rfl, hno⟩
      rw [List.length_map, hlen, List.take_length] at hno
      show Q (.bl false) H'
      rw [← hno]
      exact k
def spCInit (C : Addr) : Sp := fun vs H Q _ => ∃ c l dx, vs = [.ref c, .ref l] ∧ H c = some (.ins C dx []) ∧ Q .non (upd H c (.ins C dx (cf l 0)))
theorem sc_CInit : FnScope ["self", "text"] ["self", "text"] (defScope d_Cursor_init) := ⟨rfl, rfl, rfl, by decide +kernel, rfl, by decide +kernel, by decide +kernel⟩
theorem ok_CInit {C : Addr} (D : MkDef K mg "Cursor" "Cursor.__init__" C d_Cursor_init) (T : CurT K C) : MkFn P w K mg base CX0 1 "Cursor" C ["self", "text"] (spCInit C) := by
  obtain ⟨f, fd, m, cl, M, F⟩ := D
  refine ⟨f, fd, m, cl, M, F.binds (ps := ["self", "text"]) fun _ _ _ _ _ _ us hl => match us, hl with | [_, _], _ => rfl, F.ok sc_CInit (fun vs H Q E h => ?_) (fun cdv A outer s H vs Q E hr h => ?_)⟩
  · obtain ⟨c, l, dx, rfl, _⟩ := h
    rfl
  · obtain ⟨c, l, dx, rfl, hc, k⟩ := h
    refine ⟨_, pss_cons (ps_fld (pv 0) (pv 1) rfl) (pss_one (ps_fld (pv 0) pe_int rfl)), ?_⟩
    refine ⟨_, rfl, _, rfl, c, C, dx, [], rfl, hc, T.cl, T.nT, (by show 0 < 1000; decide), ?_⟩
    refine ⟨_, rfl, c, C, dx, _, rfl, upd_same, T.cl, T.nP, (by show 1 < 1000; decide), ?_⟩
    show Q .non _
    rw [upd_upd]
    exact k
def spAtEnd (K : PySem.W.Frag) (C : Addr) : Sp := fun vs H Q _ => ∃ c l t p, vs = [.ref c] ∧ At K C H c l t p ∧ Q (.bl (decide (p = t.length))) H
theorem sc_AtEnd : FnScope ["self"] ["self"] (defScope d_Cursor_at_end) := ⟨rfl, rfl, rfl, by decide +kernel, rfl, by decide +kernel, by decide +kernel⟩
theorem ok_AtEnd {C : Addr} (D : MDef K C "at_end" "Cursor.at_end" d_Cursor_at_end) (T : CurT K C) (hl : mg "len" = none) : MFn P w K mg base CX0 1 C "at_end" ["self"] (spAtEnd K C) := by
  obtain ⟨f, fd, m, F⟩ := D
  refine ⟨f, fd, m, F.binds (ps := ["self"]) fun _ _ _ _ _ _ us hl => match us, hl with | [_], _ => rfl, F.ok sc_AtEnd (fun vs H Q E h => ?_) (fun cdv A outer s H vs Q E hr h => ?_)⟩
  · obtain ⟨c, l, t, p, rfl, _⟩ := h
    rfl
  · obtain ⟨c, l, t, p, rfl, ⟨⟨dx, hc⟩, hS, hp⟩, k⟩ := h
    refine ⟨_, pss_one (ps_ret (pe_cmpR op_eq (pe_fld (pv 0) rfl) (pe_callB call_len_seq (by rfl) hl PySem.boot_len (pa_cons (pe_fld (pv 0) rfl) pa_nil)) (nomark _))), ?_⟩
    refine ⟨_, rfl, c, C, dx, _, _, rfl, hc, T.cl, T.nP, cf_place _ _, _, rfl, c, C, dx, _, _, rfl, hc, T.cl, T.nT, cf_text _ _, l, _, rfl, .inl hS, rfl, ?_⟩
    show Q (.bl (decide (V.int (p : Int) = V.int ((bz t).length : Int)))) H
    rw [decI, bz_len, show decide ((p : Int) = (t.length : Int)) = decide (p = t.length) by rw [decide_eq_decide]; omega]
    exact k
def spPeek (K : PySem.W.Frag) (C : Addr) : Sp := fun vs H Q _ => ∃ c l t p, vs = [.ref c] ∧ At K C H c l t p ∧ Q (.int (pk t p)) H
theorem sc_Peek : FnScope ["self"] ["self"] (defScope d_Cursor_peek) := ⟨rfl, rfl, rfl, by decide +kernel, rfl, by decide +kernel, by decide +kernel⟩
theorem ok_Peek {C : Addr} (D : MDef K C "peek" "Cursor.peek" d_Cursor_peek) (T : CurT K C) (hE : MFn P w K mg base CX0 1 C "at_end" ["self"] (spAtEnd K C)) (hN : NumG mg "NO_BYTE" (-1)) : MFn P w K mg base CX0 2 C "peek" ["self"] (spPeek K C) := by
  obtain ⟨f, fd, m, F⟩ := D
  obtain ⟨fE, fdE, mE, bE, GE⟩ := hE
  obtain ⟨tn, mN⟩ := hN
  refine ⟨f, fd, m, F.binds (ps := ["self"]) fun _ _ _ _ _ _ us hl => match us, hl with | [_], _ => rfl, F.ok sc_Peek (fun vs H Q E h => ?_) (fun cdv A outer s H vs Q E hr h => ?_)⟩
  · obtain ⟨c, l, t, p, rfl, _⟩ := h
    rfl
  · obtain ⟨c, l, t, p, rfl, ⟨⟨dx, hc⟩, hS, hp⟩, k⟩ := h
    refine ⟨_, pss_cons (ps_if (pt_val (pe_meth0 (pv 0) T.cl mE GE hr bE .nil pass0)) (pss_one (ps_ret (pgi rfl mN))) pss_nil) (pss_one (ps_ret (pe_ix ix_list (pe_fld (pv 0) rfl) (pe_fld (pv 0) rfl) (fun _ _ => rfl)))), ?_⟩
    refine ⟨_, rfl, c, dx, _, rfl, hc, cf_no (by decide +kernel) (by decide +kernel), c, l, t, p, rfl, ⟨⟨dx, hc⟩, hS, hp⟩, _, rfl, ?_⟩
    refine ite2 (fun h1 => ?_) fun h1 => ?_
    · have e : p = t.length := of_decide_eq_true h1
      show Q (.int (-1)) H
      rw [e, pk_end] at k
      exact k
    · have hlt : p < t.length := by
        have : ¬ p = t.length := fun z => h1 (decide_eq_true z)
        omega
      have hg : t[p]? = some t[p] := List.getElem?_eq_getElem hlt
      refine ⟨_, rfl, c, C, dx, _, _, rfl, hc, T.cl, T.nT, cf_text _ _, _, rfl, c, C, dx, _, _, rfl, hc, T.cl, T.nP, cf_place _ _, l, _, _, _, rfl, rfl, hS, atI_nat (bz_get hg), ?_⟩
      rw [pk_some hg] at k
      exact k
def spSees (K : PySem.W.Frag) (C : Addr) : Sp := fun vs H Q _ => ∃ c l t p x, vs = [.ref c, .str x] ∧ At K C H c l t p ∧ x.length = 1 ∧ Q (.bl (decide (pk t p = ordOf x))) H
theorem sc_Sees : FnScope ["self", "sign"] ["self", "sign"] (defScope d_Cursor_sees) := ⟨rfl, rfl, rfl, by decide +kernel, rfl, by decide +kernel, by decide +kernel⟩
theorem ok_Sees {C : Addr} (D : MDef K C "sees" "Cursor.sees" d_Cursor_sees) (T : CurT K C) (hP : MFn P w K mg base CX0 2 C "peek" ["self"] (spPeek K C)) (ho : mg "ord" = none) : MFn P w K mg base CX0 3 C "sees" ["self", "sign"] (spSees K C) := by
  obtain ⟨f, fd, m, F⟩ := D
  obtain ⟨fP, fdP, mP, bP, GP⟩ := hP
  refine ⟨f, fd, m, F.binds (ps := ["self", "sign"]) fun _ _ _ _ _ _ us hl => match us, hl with | [_, _], _ => rfl, F.ok sc_Sees (fun vs H Q E h => ?_) (fun cdv A outer s H vs Q E hr h => ?_)⟩
  · obtain ⟨c, l, t, p, x, rfl, _⟩ := h
    rfl
  · obtain ⟨c, l, t, p, x, rfl, hA, hx, k⟩ := h
    obtain ⟨dx, hc⟩ := hA.1
    refine ⟨_, pss_one (ps_ret (pe_cmpR op_eq (pe_meth0 (pv 0) T.cl mP GP hr bP .nil pass0) (pe_callB call_ord (by rfl) ho bt_ord (pa_cons (pv 1) pa_nil)) (nomark _))), ?_⟩
    refine ⟨_, rfl, c, dx, _, rfl, hc, cf_no (by decide +kernel) (by decide +kernel), c, l, t, p, rfl, hA, _, rfl, x, rfl, hx, rfl, ?_⟩
    show Q (.bl (decide (V.int (pk t p) = V.int (ordOf x)))) H
    rw [decI]
    exact k
def spTake (K : PySem.W.Frag) (C : Addr) : Sp := fun vs H Q _ => ∃ c l t p, vs = [.ref c] ∧ At K C H c l t p ∧ ∀ H', CurAt C H' c l ((p + 1 : Nat) : Int) → Kp [c] H H' → Q (.int (pk t p)) H'
theorem sc_Take : FnScope ["self", "byte"] ["self"] (defScope d_Cursor_take) := ⟨rfl, rfl, rfl, by decide +kernel, rfl, by decide +kernel, by decide +kernel⟩
theorem ok_Take {C : Addr} (D : MDef K C "take" "Cursor.take" d_Cursor_take) (T : CurT K C) (hP : MFn P w K mg base CX0 2 C "peek" ["self"] (spPeek K C)) : MFn P w K mg base CX0 3 C "take" ["self"] (spTake K C) := by
  obtain ⟨f, fd, m, F⟩ := D
  obtain ⟨fP, fdP, mP, bP, GP⟩ := hP
  refine ⟨f, fd, m, F.binds (ps := ["self"]) fun _ _ _ _ _ _ us hl => match us, hl with | [_], _ => rfl, F.ok sc_Take (fun vs H Q E h => ?_) (fun cdv A outer s H vs Q E hr h => ?_)⟩
  · obtain ⟨c, l, t, p, rfl, _⟩ := h
    rfl
  · obtain ⟨c, l, t, p, rfl, hA, k⟩ := h
    obtain ⟨dx, hc⟩ := hA.1
    refine ⟨_, pss_cons (ps_set (i := 1) sc_Take.nd rfl (Or.inl rfl) (pe_meth0 (pv 0) T.cl mP GP hr bP .nil pass0)) (pss_cons (ps_fldaug (pv 0) pe_int in_add) (pss_one (ps_ret (pv 1)))), ?_⟩
    refine ⟨_, rfl, c, dx, _, rfl, hc, cf_no (by decide +kernel) (by decide +kernel), c, l, t, p, rfl, hA, ?_⟩
    refine ⟨_, rfl, c, C, dx, _, _, rfl, hc, T.cl, T.nP, cf_place _ _, _, _, rfl, rfl, dx, _, hc, cf_len _ _, ?_⟩
    refine ⟨_, rfl, ?_⟩
    refine k _ ⟨dx, ?_⟩ (Kp.put (by simp))
    rw [upd_same]
    exact congrArg (fun q => some (HO.ins C dx q)) (cf_put l p (p + 1))
def spSign (K : PySem.W.Frag) (C CP : Addr) : Sp := fun vs H Q E => ∃ c l t p x, vs = [.ref c, .str x] ∧ At K C H c l t p ∧ x.length = 1 ∧ (match mExp t (ordOf x) p with
  | .ok p1 => ∀ H', CurAt C H' c l (p1 : Int) → Kp [c] H H' → Q .non H'
  | .error e => FailsP CP E (e.kind : Int) (e.place : Int))
theorem sc_Sign : FnScope ["self", "sign"] ["self", "sign"] (defScope d_Cursor_take_sign) := ⟨rfl, rfl, rfl, by decide +kernel, rfl, by decide +kernel, by decide +kernel⟩
theorem ok_Sign {C CP : Addr} (D : MDef K C "take_sign" "Cursor.take_sign" d_Cursor_take_sign) (T : CurT K C) (hV : MFn P w K mg base CX0 3 C "sees" ["self", "sign"] (spSees K C)) (hT : MFn P w K mg base CX0 3 C "take" ["self"] (spTake K C)) (hX : XFn P w K mg base CX0 2 "ProgramFault" CP ["self", "kind", "place"] (spPF CP)) :
    MFn P w K mg base (CXf false P w) 5 C "take_sign" ["self", "sign"] (spSign K C CP) := by
  obtain ⟨f, fd, m, F⟩ := D
  obtain ⟨fV, fdV, mV, bV, GV⟩ := hV
  obtain ⟨fT, fdT, mT, bT, GT⟩ := hT
  obtain ⟨fX, fdX, mX, MX, bX, GX⟩ := hX
  refine ⟨f, fd, m, F.binds (ps := ["self", "sign"]) fun _ _ _ _ _ _ us hl => match us, hl with | [_, _], _ => rfl, okX false F sc_Sign (fun vs H Q E h => ?_) (fun cdv A outer s H vs Q E hr h => ?_)⟩
  · obtain ⟨c, l, t, p, x, rfl, _⟩ := h
    rfl
  · obtain ⟨c, l, t, p, x, rfl, hA, hx, k⟩ := h
    obtain ⟨dx, hc⟩ := hA.1
    have hcm := calm_of hr (by decide)
    have hr3 : Room 3 _ := hr.mono (by decide)
    refine ⟨_, pss_cons (ps_if (pt_not (pt_val (pe_meth (pv 0) T.cl mV GV hr3 bV .nil pass0 (pa_cons (pv 1) pa_nil)))) (pss_one (ps_raise hcm MX GX hr3 bX (passAny (E := E)) thrown rfl mX (pa_cons pe_int (pa_cons (pe_fld (pv 0) rfl) pa_nil)))) pss_nil)
      (pss_one (ps_expr (pe_meth0 (pv 0) T.cl mT GT hr3 bT .nil pass0))), ?_⟩
    refine ⟨_, rfl, c, dx, _, rfl, hc, cf_no (by decide +kernel) (by decide +kernel), _, rfl, c, l, t, p, x, rfl, hA, hx, _, rfl, ?_⟩
    unfold mExp at k
    by_cases e : pk t p = ordOf x
    · rw [decide_eq_true e]
      rw [if_pos e] at k
      refine iteF ⟨_, rfl, c, dx, _, rfl, hc, cf_no (by decide +kernel) (by decide +kernel), c, l, t, p, rfl, hA, fun H1 c1 kp => ?_⟩
      exact k H1 c1 kp
    · rw [decide_eq_false e]
      rw [if_neg e] at k
      exact iteT ⟨_, rfl, c, C, dx, _, _, rfl, hc, T.cl, T.nP, cf_place _ _, rd_PF k⟩
def spBoth (K : PySem.W.Frag) : Sp := fun vs H Q _ => ∃ a b r1 r2, vs = [.ref a, .ref b] ∧ Rg K H a r1 ∧ Rg K H b r2 ∧ Q (.bl (r1.isEmpty && r2.isEmpty)) H
theorem sc_both : FnScope ["left", "right"] ["left", "right"] (defScope d_both_empty) := ⟨rfl, rfl, rfl, by decide +kernel, rfl, by decide +kernel, by decide +kernel⟩
theorem ok_both (D : GDef K mg "both_empty" d_both_empty) (hE : RgG K mg "EMPTY_CLASS" []) : GFn P w K mg base CX0 1 "both_empty" ["left", "right"] (spBoth K) := by
  obtain ⟨f, fd, m, F⟩ := D
  obtain ⟨z, mE, hz⟩ := hE
  refine ⟨f, fd, m, F.kp, F.binds (ps := ["left", "right"]) fun _ _ _ _ _ _ us hl => match us, hl with | [_, _], _ => rfl, F.ok sc_both (fun vs H Q E h => ?_) (fun cdv A outer s H vs Q E hr h => ?_)⟩
  · obtain ⟨a, b, r1, r2, rfl, _⟩ := h
    rfl
  · obtain ⟨a, b, r1, r2, rfl, h1, h2, k⟩ := h
    refine ⟨_, pss_one (ps_ret (pe_and (pe_cmpR (op_eqD hr.units) (pv 0) (pgr rfl mE) (nomark _)) (pe_one (pe_cmpR (op_eqD hr.units) (pv 1) (pgr rfl mE) (nomark _))))), ?_⟩
    refine ⟨_, rfl, _, _, h1.dp, (hz.rg H).dp, rg_shaped _, rg_shaped _, _, rfl, ?_⟩
    rw [eqv_empty]
    cases e : r1.isEmpty with
    | true =>
      refine iteT ⟨_, rfl, _, _, h2.dp, (hz.rg H).dp, rg_shaped _, rg_shaped _, ?_⟩
      rw [eqv_empty]
      rw [e] at k
      exact k
    | false =>
      refine iteF ?_
      rw [e] at k
      exact k
def spBeh (K : PySem.W.Frag) (g : List (Int × Int) → Vaflxa.Text → Nat → Bool) : Sp := fun vs H Q _ => ∃ a rs l t p, vs = [.ref a, .ref l, .int ((p : Nat) : Int)] ∧ Rg K H a rs ∧ SqL K H l (bz t) ∧ p ≤ t.length ∧ Q (.bl (g rs t p)) H
theorem sc_before : FnScope ["ranges", "text", "place"] ["ranges", "text", "place"] (defScope d_holds_before) := ⟨rfl, rfl, rfl, by decide +kernel, rfl, by decide +kernel, by decide +kernel⟩
theorem ok_before (D : GDef K mg "holds_before" d_holds_before) (hH : GFn P w K mg base CX0 5 "holds" ["ranges", "byte"] (spHolds K)) : GFn P w K mg base CX0 6 "holds_before" ["ranges", "text", "place"] (spBeh K bfr) := by
  obtain ⟨f, fd, m, F⟩ := D
  obtain ⟨fH, fdH, mH, kH, bH, GH⟩ := hH
  refine ⟨f, fd, m, F.kp, F.binds (ps := ["ranges", "text", "place"]) fun _ _ _ _ _ _ us hl => match us, hl with | [_, _, _], _ => rfl, F.ok sc_before (fun vs H Q E h => ?_) (fun cdv A outer s H vs Q E hr h => ?_)⟩
  · obtain ⟨a, rs, l, t, p, rfl, _⟩ := h
    rfl
  · obtain ⟨a, rs, l, t, p, rfl, hR, hS, hp, k⟩ := h
    refine ⟨_, pss_one (ps_ret (pe_and (pe_cmpR op_gt (pv 2) pe_int (nomark _)) (pe_one (pe_call GH hr rfl mH kH bH .nil pass0 (pa_cons (pv 0) (pa_cons (pe_ix ix_list (pv 1) (pe_op op_sub (pv 2) pe_int) (fun _ _ => rfl)) pa_nil)))))), ?_⟩
    refine ⟨_, rfl, _, _, rfl, rfl, _, rfl, ?_⟩
    refine ite2 (fun h1 => ?_) fun h1 => ?_
    · have h0 : 0 < p := by
        have := of_decide_eq_true h1
        omega
      have hlt : p - 1 < t.length := by omega
      have hg : t[p - 1]? = some t[p - 1] := List.getElem?_eq_getElem hlt
      refine ⟨_, rfl, _, rfl, _, rfl, _, _, rfl, rfl, l, _, _, _, rfl, rfl, hS, at_of (j := p - 1) (by omega) (bz_get hg), a, rs, _, rfl, hR, ?_⟩
      unfold bfr at k
      rw [decide_eq_true h0, Bool.true_and, pk_some hg] at k
      exact k
    · have h0 : ¬ 0 < p := fun z => h1 (decide_eq_true (by omega))
      unfold bfr at k
      rw [decide_eq_false h0, Bool.false_and] at k
      exact k
theorem sc_behind : FnScope ["ranges", "text", "place"] ["ranges", "text", "place"] (defScope d_holds_behind) := ⟨rfl, rfl, rfl, by decide +kernel, rfl, by decide +kernel, by decide +kernel⟩
theorem ok_behind (D : GDef K mg "holds_behind" d_holds_behind) (hH : GFn P w K mg base CX0 5 "holds" ["ranges", "byte"] (spHolds K)) (hl : mg "len" = none) : GFn P w K mg base CX0 6 "holds_behind" ["ranges", "text", "place"] (spBeh K bhd) := by
  obtain ⟨f, fd, m, F⟩ := D
  obtain ⟨fH, fdH, mH, kH, bH, GH⟩ := hH
  refine ⟨f, fd, m, F.kp, F.binds (ps := ["ranges", "text", "place"]) fun _ _ _ _ _ _ us hl => match us, hl with | [_, _, _], _ => rfl, F.ok sc_behind (fun vs H Q E h => ?_) (fun cdv A outer s H vs Q E hr h => ?_)⟩
  · obtain ⟨a, rs, l, t, p, rfl, _⟩ := h
    rfl
  · obtain ⟨a, rs, l, t, p, rfl, hR, hS, hp, k⟩ := h
    refine ⟨_, pss_one (ps_ret (pe_and (pe_cmpR op_lt (pv 2) (pe_callB call_len_seq (by rfl) hl PySem.boot_len (pa_cons (pv 1) pa_nil)) (nomark _)) (pe_one (pe_call GH hr rfl mH kH bH .nil pass0 (pa_cons (pv 0) (pa_cons (pe_ix ix_list (pv 1) (pv 2) (fun _ _ => rfl)) pa_nil)))))), ?_⟩
    refine ⟨_, rfl, _, rfl, l, _, rfl, .inl hS, _, _, rfl, rfl, _, rfl, ?_⟩
    refine ite2 (fun h1 => ?_) fun h1 => ?_
    · have hlt : p < t.length := by
        have := of_decide_eq_true h1
        rw [bz_len] at this
        omega
      have hg : t[p]? = some t[p] := List.getElem?_eq_getElem hlt
      refine ⟨_, rfl, _, rfl, _, rfl, l, _, _, _, rfl, rfl, hS, atI_nat (bz_get hg), a, rs, _, rfl, hR, ?_⟩
      unfold bhd at k
      rw [decide_eq_true hlt, Bool.true_and, pk_some hg] at k
      exact k
    · have h0 : ¬ p < t.length := fun z => h1 (decide_eq_true (by rw [bz_len]; omega))
      unfold bhd at k
      rw [decide_eq_false h0, Bool.false_and] at k
      exact k
theorem sc_begins : FnScope ["ranges", "text", "place"] ["ranges", "text", "place"] (defScope d_begins) := ⟨rfl, rfl, rfl, by decide +kernel, rfl, by decide +kernel, by decide +kernel⟩
theorem ok_begins (D : GDef K mg "begins" d_begins) (hE : RgG K mg "EMPTY_CLASS" []) (hB : GFn P w K mg base CX0 6 "holds_before" ["ranges", "text", "place"] (spBeh K bfr)) (hF : GFn P w K mg base CX0 6 "holds_behind" ["ranges", "text", "place"] (spBeh K bhd)) : GFn P w K mg base CX0 7 "begins" ["ranges", "text", "place"] (spBeh K bgn) := by
  obtain ⟨f, fd, m, F⟩ := D
  obtain ⟨z, mE, hz⟩ := hE
  obtain ⟨fB, fdB, mB, kB, bB, GB⟩ := hB
  obtain ⟨fF, fdF, mF, kF, bF, GF⟩ := hF
  refine ⟨f, fd, m, F.kp, F.binds (ps := ["ranges", "text", "place"]) fun _ _ _ _ _ _ us hl => match us, hl with | [_, _, _], _ => rfl, F.ok sc_begins (fun vs H Q E h => ?_) (fun cdv A outer s H vs Q E hr h => ?_)⟩
  · obtain ⟨a, rs, l, t, p, rfl, _⟩ := h
    rfl
  · obtain ⟨a, rs, l, t, p, rfl, hR, hS, hp, k⟩ := h
    refine ⟨_, pss_cons (ps_if (pt_cmpR (op_eqD hr.units) (pv 0) (pgr rfl mE) (nomark _)) (pss_one (ps_ret pe_bl)) pss_nil)
      (pss_one (ps_ret (pe_and (pe_call GF hr rfl mF kF bF .nil pass0 (pa_cons (pv 0) (pa_cons (pv 1) (pa_cons (pv 2) pa_nil)))) (pe_one (pe_not (pe_call GB hr rfl mB kB bB .nil pass0 (pa_cons (pv 0) (pa_cons (pv 1) (pa_cons (pv 2) pa_nil))))))))), ?_⟩
    refine ⟨_, rfl, _, _, hR.dp, (hz.rg H).dp, rg_shaped _, rg_shaped _, _, rfl, ?_⟩
    rw [eqv_empty]
    unfold bgn at k
    cases e : rs.isEmpty with
    | true =>
      refine iteT ?_
      rw [e] at k
      exact k
    | false =>
      refine iteF ?_
      rw [e, Bool.false_or] at k
      refine ⟨_, rfl, _, rfl, _, rfl, a, rs, l, t, p, rfl, hR, hS, hp, _, rfl, ?_⟩
      cases e2 : bhd rs t p with
      | true =>
        refine iteT ⟨_, rfl, _, rfl, _, rfl, a, rs, l, t, p, rfl, hR, hS, hp, _, rfl, ?_⟩
        rw [e2, Bool.true_and] at k
        exact k
      | false =>
        refine iteF ?_
        rw [e2, Bool.false_and] at k
        exact k
theorem sc_ends : FnScope ["ranges", "text", "place"] ["ranges", "text", "place"] (defScope d_ends) := ⟨rfl, rfl, rfl, by decide +kernel, rfl, by decide +kernel, by decide +kernel⟩
theorem ok_ends (D : GDef K mg "ends" d_ends) (hE : RgG K mg "EMPTY_CLASS" []) (hB : GFn P w K mg base CX0 6 "holds_before" ["ranges", "text", "place"] (spBeh K bfr)) (hF : GFn P w K mg base CX0 6 "holds_behind" ["ranges", "text", "place"] (spBeh K bhd)) : GFn P w K mg base CX0 7 "ends" ["ranges", "text", "place"] (spBeh K ens) := by
  obtain ⟨f, fd, m, F⟩ := D
  obtain ⟨z, mE, hz⟩ := hE
  obtain ⟨fB, fdB, mB, kB, bB, GB⟩ := hB
  obtain ⟨fF, fdF, mF, kF, bF, GF⟩ := hF
  refine ⟨f, fd, m, F.kp, F.binds (ps := ["ranges", "text", "place"]) fun _ _ _ _ _ _ us hl => match us, hl with | [_, _, _], _ => rfl, F.ok sc_ends (fun vs H Q E h => ?_) (fun cdv A outer s H vs Q E hr h => ?_)⟩
  · obtain ⟨a, rs, l, t, p, rfl, _⟩ := h
    rfl
  · obtain ⟨a, rs, l, t, p, rfl, hR, hS, hp, k⟩ := h
    refine ⟨_, pss_cons (ps_if (pt_cmpR (op_eqD hr.units) (pv 0) (pgr rfl mE) (nomark _)) (pss_one (ps_ret pe_bl)) pss_nil)
      (pss_one (ps_ret (pe_and (pe_call GB hr rfl mB kB bB .nil pass0 (pa_cons (pv 0) (pa_cons (pv 1) (pa_cons (pv 2) pa_nil)))) (pe_one (pe_not (pe_call GF hr rfl mF kF bF .nil pass0 (pa_cons (pv 0) (pa_cons (pv 1) (pa_cons (pv 2) pa_nil))))))))), ?_⟩
    refine ⟨_, rfl, _, _, hR.dp, (hz.rg H).dp, rg_shaped _, rg_shaped _, _, rfl, ?_⟩
    rw [eqv_empty]
    unfold ens at k
    cases e : rs.isEmpty with
    | true =>
      refine iteT ?_
      rw [e] at k
      exact k
    | false =>
      refine iteF ?_
      rw [e, Bool.false_or] at k
      refine ⟨_, rfl, _, rfl, _, rfl, a, rs, l, t, p, rfl, hR, hS, hp, _, rfl, ?_⟩
      cases e2 : bfr rs t p with
      | true =>
        refine iteT ⟨_, rfl, _, rfl, _, rfl, a, rs, l, t, p, rfl, hR, hS, hp, _, rfl, ?_⟩
        rw [e2, Bool.true_and] at k
        exact k
      | false =>
        refine iteF ?_
        rw [e2, Bool.false_and] at k
        exact k
def spBord (K : PySem.W.Frag) : Sp := fun vs H Q _ => ∃ a r1 b r2 l t, vs = [.ref a, .ref b, .ref l] ∧ Rg K H a r1 ∧ Rg K H b r2 ∧ SqL K H l (bz t) ∧ t.length ≤ 10000 ∧ ∀ D H', H' D = some (.lst (nz (bord r1 r2 t))) → Kp [] H H' → Q (.ref D) H'
theorem sc_bord : FnScope ["left", "right", "text", "place"] ["left", "right", "text"] (defScope d_border_places) := ⟨rfl, rfl, rfl, by decide +kernel, rfl, by decide +kernel, by decide +kernel⟩
def bordTo (r1 r2 : List (Int × Int)) (t : Vaflxa.Text) (i : Nat) : List Nat := (List.range i).filter fun p => ens r1 t p && bgn r2 t p
theorem bordTo_step (r1 r2 : List (Int × Int)) (t : Vaflxa.Text) (i : Nat) : bordTo r1 r2 t (i + 1) = bordTo r1 r2 t i ++ (if (ens r1 t i && bgn r2 t i) = true then [i] else []) := by
  unfold bordTo
  rw [List.range_succ, List.filter_append, List.filter_cons, List.filter_nil]
theorem bordTo_len (r1 r2 : List (Int × Int)) (t : Vaflxa.Text) (i : Nat) : (bordTo r1 r2 t i).length ≤ i := by
  unfold bordTo
  exact Nat.le_trans (List.length_filter_le _ _) (by rw [List.length_range]; exact Nat.le_refl _)
theorem ok_bord (D : GDef K mg "border_places" d_border_places) (hE : GFn P w K mg base CX0 7 "ends" ["ranges", "text", "place"] (spBeh K ens)) (hB : GFn P w K mg base CX0 7 "begins" ["ranges", "text", "place"] (spBeh K bgn)) (hl : mg "len" = none) (hrg : mg "range" = none) :
    GFn P w K mg base CX0 8 "border_places" ["left", "right", "text"] (spBord K) := by
  obtain ⟨f, fd, m, F⟩ := D
  obtain ⟨fE, fdE, mE, kE, bE, GE⟩ := hE
  obtain ⟨fB, fdB, mB, kB, bB, GB⟩ := hB
  refine ⟨f, fd, m, F.kp, F.binds (ps := ["left", "right", "text"]) fun _ _ _ _ _ _ us hl => match us, hl with | [_, _, _], _ => rfl, F.ok sc_bord (fun vs H Q E h => ?_) (fun cdv A outer s H vs Q E hr h => ?_)⟩
  · obtain ⟨a, r1, b, r2, l, t, rfl, _⟩ := h
    rfl
  · obtain ⟨a, r1, b, r2, l, t, rfl, hR1, hR2, hS, hlen, k⟩ := h
    have hcm := calm_of hr (by decide)
    refine ⟨_, pss_one (ps_ret (pe_lc (own := [("place", 3)]) hcm sc_bord.nd (pi_range1 rfl hrg (pa_cons (pe_op op_add (pe_callB call_len_seq (by rfl) hl PySem.boot_len (pa_cons (pv 2) pa_nil)) pe_int) pa_nil)) (show BlkOk ["left", "right", "text", "place"] (defScope d_border_places) _ [("place", 3)] from ⟨rfl, by decide +kernel, by decide +kernel, by decide +kernel, by decide +kernel⟩)
      (fun s' H' C cl fp => pg_name (i := 3) sc_bord.nd rfl (Or.inl rfl))
      (fun s' H' C cl fp => pts_one (PW.pt (pw_and (pt_val (pe_call GE hr rfl mE kE bE .nil pass0 (pa_cons (pv 0) (pa_cons (pv 2) (pa_cons (pv 3) pa_nil))))) (pw_and1 (pt_val (pe_call GB hr rfl mB kB bB .nil pass0 (pa_cons (pv 1) (pa_cons (pv 2) (pa_cons (pv 3) pa_nil)))))))))
      (fun s' H' C cl fp => pv 3))), ?_⟩
    refine ⟨_, rfl, l, _, rfl, .inl hS, _, _, rfl, rfl, _, rfl, ?_, ?_, fun D hD => ?_⟩
    · rw [bz_len]; omega
    · rw [bz_len]; omega
    have en : (((bz t).length : Int) + 1).toNat = t.length + 1 := by rw [bz_len]; omega
    rw [en]
    refine ⟨fun i m H' => m = t.length + 1 - i ∧ i ≤ t.length + 1 ∧ H' = upd H D (.lst (nz (bordTo r1 r2 t i))), ⟨_, rfl, Nat.zero_le _, rfl⟩, ?_⟩
    rintro i mm H' ⟨rfl, hi, rfl⟩
    by_cases hlt : i < t.length + 1
    · refine .inr ⟨hlt, fun H' => H' = upd H D (.lst (nz (bordTo r1 r2 t (i + 1)))), fun H' e => ⟨t.length + 1 - (i + 1), by omega, rfl, hlt, e⟩, fun x H' y => ?_⟩
      obtain ⟨e1, e2⟩ := y
      subst e1 e2
      have hi' : i ≤ t.length := by omega
      have kp : Kp [] H (upd H D (.lst (nz (bordTo r1 r2 t i)))) := Kp.new hD
      refine ⟨rfl, _, rfl, _, rfl, _, rfl, a, r1, l, t, i, ?_, kp.rg Ins.nil hR1, kp.sqL Ins.nil hS, hi', _, rfl, ?_⟩
      · rw [Int.zero_add]; rfl
      cases e1 : ens r1 t i with
      | false =>
        refine iteF (iteF ?_)
        rw [bordTo_step, e1, Bool.false_and, if_neg (by decide), List.append_nil]
      | true =>
        refine iteT ⟨_, rfl, _, rfl, _, rfl, b, r2, l, t, i, ?_, kp.rg Ins.nil hR2, kp.sqL Ins.nil hS, hi', _, rfl, ?_⟩
        · rw [Int.zero_add]; rfl
        cases e2 : bgn r2 t i with
        | false =>
          refine iteF ?_
          rw [bordTo_step, e1, e2, Bool.and_false, if_neg (by decide), List.append_nil]
        | true =>
          refine iteT ⟨_, rfl, _, upd_same, ?_, ?_⟩
          · have := bordTo_len r1 r2 t i
            unfold nz
            rw [List.length_map, sizeLine_eq]
            omega
          · rw [upd_upd, bordTo_step, e1, e2, Bool.and_true, if_pos rfl]
            unfold nz
            rw [List.map_append, Int.zero_add]
            rfl
    · have e : i = t.length + 1 := by omega
      subst e
      exact .inl ⟨Nat.le_refl _, k D _ upd_same (Kp.new hD)⟩
def spCheck (K : PySem.W.Frag) (CF : Addr) : Sp := fun vs H Q E => ∃ l t, vs = [.ref l] ∧ SqL K H l (bz t) ∧ (if Vaflxa.goodText 40 t = true then Q .non H else FailsN CF E [-1])
theorem sc_check : FnScope ["text", "byte"] ["text"] (defScope d_check_field) := ⟨rfl, rfl, rfl, by decide +kernel, rfl, by decide +kernel, by decide +kernel⟩
theorem ok_check {CF : Addr} (D : GDef K mg "check_field" d_check_field) (hH : GFn P w K mg base CX0 5 "holds" ["ranges", "byte"] (spHolds K)) (hX : XFn P w K mg base CX0 2 "NoField" CF ["self"] (spX0 CF [-1])) (hl : mg "len" = none) (hN : NumG mg "MOST_FIELD_BYTES" 40) (hB : RgG K mg "FIELD_BYTES" [(32, 126)]) :
    GFn P w K mg base (CXf false P w) 6 "check_field" ["text"] (spCheck K CF) := by
  obtain ⟨f, fd, m, F⟩ := D
  obtain ⟨fH, fdH, mH, kH, bH, GH⟩ := hH
  obtain ⟨fX, fdX, mX, MX, bX, GX⟩ := hX
  obtain ⟨tn, mN⟩ := hN
  obtain ⟨ab, mB, hB⟩ := hB
  refine ⟨f, fd, m, F.kp, F.binds (ps := ["text"]) fun _ _ _ _ _ _ us hl => match us, hl with | [_], _ => rfl, okX false F sc_check (fun vs H Q E h => ?_) (fun cdv A outer s H vs Q E hr h => ?_)⟩
  · obtain ⟨l, t, rfl, _⟩ := h
    rfl
  · obtain ⟨l, t, rfl, hS, k⟩ := h
    have hcm := calm_of hr (by decide)
    have hr3 : Room 3 _ := hr.mono (by decide)
    refine ⟨_, pss_cons (ps_if (pt_cmpR op_gt (pe_callB call_len_seq (by rfl) hl PySem.boot_len (pa_cons (pv 0) pa_nil)) (pgi rfl mN) (nomark _)) (pss_one (ps_raise0 hcm MX GX hr3 bX (passAny (E := E)) thrown rfl mX)) pss_nil)
      (pss_one (ps_for ownX hcm (pi_list (pv 0)) (pg_name (i := 1) sc_check.nd rfl (Or.inl rfl)) (pss_one (ps_if (pt_not (pt_val (pe_call GH hr rfl mH kH bH .nil pass0 (pa_cons (pgr rfl mB) (pa_cons (pv 1) pa_nil))))) (pss_one (ps_raise0 hcm MX GX hr3 bX (passAny (E := E)) thrown rfl mX)) pss_nil)))), ?_⟩
    refine ⟨_, rfl, l, _, rfl, .inl hS, _, _, rfl, rfl, _, rfl, ?_⟩
    refine ite2 (fun h1 => ?_) fun h1 => ?_
    · have h40 := of_decide_eq_true h1
      rw [bz_len] at h40
      have e : Vaflxa.goodText 40 t = false := by
        unfold Vaflxa.goodText
        rw [decide_eq_false (by omega)]
        rfl
      rw [e, if_neg (by decide)] at k
      exact rd_X0 k
    · have h40 : t.length ≤ 40 := by
        rw [bz_len] at h1
        have : ¬ ((40 : Int) < (t.length : Int)) := fun z => h1 (decide_eq_true z)
        omega
      have good : Vaflxa.goodText 40 t = t.all Vaflxa.isByte := by
        unfold Vaflxa.goodText
        rw [decide_eq_true h40]
        rfl
      rw [good] at k
      refine ⟨_, rfl, l, rfl, ⟨_, hS⟩, for_list (K := K) (a := l) (xs := bz t) (fun i σ H' => ∃ v : Option V, σ = [some (.ref l), v] ∧ H' = H ∧ (t.take i).all Vaflxa.isByte = true)
        ⟨none, rfl, rfl, rfl⟩ (fun i σ H' _ ⟨_, _, e, _⟩ => by rw [e]; exact hS) ?_ ?_⟩
      · rintro i y σ H' hi ⟨v, rfl, rfl, hno⟩
        obtain ⟨c, hc, rfl⟩ := map_get hi
        refine ⟨_, rfl, ab, _, _, rfl, hB.rg _, _, rfl, ?_⟩
        rw [← isByte_eq]
        cases e : Vaflxa.isByte c with
        | true =>
          refine iteF ⟨_, rfl, rfl, ?_⟩
          rw [take_snoc hc, List.all_append, hno, List.all_cons, e]
          rfl
        | false =>
          refine iteT ?_
          have e2 : t.all Vaflxa.isByte = false := by
            rw [List.all_eq_false]
            exact ⟨c, List.mem_of_getElem? hc, by rw [e]; decide⟩
          rw [e2, if_neg (by decide)] at k
          exact rd_X0 k
      · rintro σ H' ⟨v, rfl, rfl, hno⟩
        have e2 : t.all Vaflxa.isByte = true := by
          rw [bz_len, List.take_length] at hno
          exact hno
        rw [e2, if_pos rfl] at k
        exact k
def spSingle (K : PySem.W.Frag) (C CP : Addr) : Sp := fun vs H Q E => ∃ c l t p, vs = [.ref c] ∧ At K C H c l t p ∧ Rds C CP c l H Q E (isCls K) (mSingle t p)
theorem sc_single : FnScope ["cursor", "byte"] ["cursor"] (defScope d_read_single) := ⟨rfl, rfl, rfl, by decide +kernel, rfl, by decide +kernel, by decide +kernel⟩
theorem mSingle_bad {t : Vaflxa.Text} {p : Nat} (h : inRs [(33, 126)] (pk t p) = false ∨ inRs rN (pk t p) = true) : mSingle t p = .error ⟨1, p⟩ := by
  unfold mSingle
  cases e : t[p]? with
  | none => rfl
  | some c =>
    rw [pk_some e] at h
    show (if _ then _ else _) = _
    rw [if_pos h]
theorem mSingle_ok {t : Vaflxa.Text} {p : Nat} (h1 : inRs [(33, 126)] (pk t p) = true) (h2 : inRs rN (pk t p) = false) : ∃ c, t[p]? = some c ∧ mSingle t p = .ok (.sign c, p + 1) := by
  unfold mSingle
  cases e : t[p]? with
  | none =>
    rw [pk_none e] at h1
    exact absurd h1 (by decide)
  | some c =>
    rw [pk_some e] at h1 h2
    refine ⟨c, rfl, ?_⟩
    show (if _ then _ else _) = _
    rw [if_neg (by rw [h1, h2]; decide)]
theorem ok_single {C CP : Addr} (D : GDef K mg "read_single" d_read_single) (T : CurT K C) (hP : MFn P w K mg base CX0 2 C "peek" ["self"] (spPeek K C)) (hT : MFn P w K mg base CX0 3 C "take" ["self"] (spTake K C)) (hH : GFn P w K mg base CX0 5 "holds" ["ranges", "byte"] (spHolds K))
    (hX : XFn P w K mg base CX0 2 "ProgramFault" CP ["self", "kind", "place"] (spPF CP)) (hS : RgG K mg "SINGLE_BYTES" [(33, 126)]) (hG : ClsG K mg w.params) : GFn P w K mg base (CXf false P w) 6 "read_single" ["cursor"] (spSingle K C CP) := by
  obtain ⟨f, fd, m, F⟩ := D
  obtain ⟨fH, fdH, mH, kH, bH, GH⟩ := hH
  obtain ⟨fP, fdP, mP, bP, GP⟩ := hP
  obtain ⟨fT, fdT, mT, bT, GT⟩ := hT
  obtain ⟨fX, fdX, mX, MX, bX, GX⟩ := hX
  obtain ⟨aS, mS, hS⟩ := hS
  obtain ⟨d, es, n, mD, hD, hK, hI⟩ := hG
  obtain ⟨bN, nN, rNk⟩ := hI 4 "N" 78 .words rfl rfl
  refine ⟨f, fd, m, F.kp, F.binds (ps := ["cursor"]) fun _ _ _ _ _ _ us hl => match us, hl with | [_], _ => rfl, okX false F sc_single (fun vs H Q E h => ?_) (fun cdv A outer s H vs Q E hr h => ?_)⟩
  · obtain ⟨c, l, t, p, rfl, _⟩ := h
    rfl
  · obtain ⟨c, l, t, p, rfl, hA, k⟩ := h
    obtain ⟨dx, hc⟩ := hA.1
    have hcm := calm_of hr (by decide)
    have hr3 : Room 3 _ := hr.mono (by decide)
    refine ⟨_, pss_cons (ps_set (i := 1) sc_single.nd rfl (Or.inl rfl) (pe_meth0 (pv 0) T.cl mP GP (hr3.mono (by decide)) bP .nil pass0))
      (pss_cons (ps_if (PW.pt (pw_or (pt_not (pt_val (pe_call GH hr rfl mH kH bH .nil pass0 (pa_cons (pgr rfl mS) (pa_cons (pv 1) pa_nil))))) (pw_or1 (pt_val (pe_call GH hr rfl mH kH bH .nil pass0 (pa_cons (pe_ix ix_dictM (pgr rfl mD) pe_str (fun _ _ => rfl)) (pa_cons (pv 1) pa_nil)))))))
        (pss_one (ps_raise hcm MX GX hr3 bX (passAny (E := E)) thrown rfl mX (pa_cons pe_int (pa_cons (pe_fld (pv 0) rfl) pa_nil)))) pss_nil)
      (pss_cons (ps_expr (pe_meth0 (pv 0) T.cl mT GT hr3 bT .nil pass0)) (pss_one (ps_ret (pe_tup (pa_cons (pe_tup (pa_cons (pv 1) (pa_cons (pv 1) pa_nil))) pa_nil)))))), ?_⟩
    refine ⟨_, rfl, c, dx, _, rfl, hc, cf_no (by decide +kernel) (by decide +kernel), c, l, t, p, rfl, hA, ?_⟩
    refine ⟨_, rfl, aS, _, _, rfl, hS.rg _, _, rfl, ?_⟩
    have bad : inRs [(33, 126)] (pk t p) = false ∨ inRs rN (pk t p) = true → FailsP CP E ((1 : Nat) : Int) (p : Int) := fun z => by
      rw [mSingle_bad z] at k
      exact k
    cases e1 : inRs [(33, 126)] (pk t p) with
    | false =>
      refine iteT (iteT ?_)
      exact ⟨_, rfl, c, C, dx, _, _, rfl, hc, T.cl, T.nP, cf_place _ _, rd_PF (bad (.inl e1))⟩
    | true =>
      refine iteF ⟨d, _, es, n, bN, rfl, rfl, hD.l, hK, nN, _, rfl, bN, _, _, rfl, rNk.rg _, _, rfl, ?_⟩
      show if inRs rN (pk t p) = true then _ else _
      cases e2 : inRs rN (pk t p) with
      | true =>
        refine iteT ?_
        exact ⟨_, rfl, c, C, dx, _, _, rfl, hc, T.cl, T.nP, cf_place _ _, rd_PF (bad (.inr e2))⟩
      | false =>
        refine iteF ?_
        obtain ⟨b, hb, hk⟩ := mSingle_ok e1 e2
        rw [hk] at k
        refine ⟨_, rfl, c, dx, _, rfl, hc, cf_no (by decide +kernel) (by decide +kernel), c, l, t, p, rfl, hA, fun H1 c1 kp => ?_⟩
        refine ⟨_, rfl, _, rfl, (by show 2 ≤ sizeLine; decide), fun q hq => ⟨(by show 1 ≤ sizeLine; decide), fun r hr' => ?_⟩⟩
        refine k _ _ ((c1.new hq).new hr') ((kp.trans (Kp.new hq)).trans (Kp.new hr')) ⟨r, rfl, [q], SqT.of upd_same, .cons (SqT.of ?_) .nil⟩
        have nqr : q ≠ r := fun z => by
          rw [← z, upd_same] at hr'
          cases hr'
        rw [upd_ne nqr, upd_same, pk_some hb]
def spClass (K : PySem.W.Frag) (C CP : Addr) : Sp := fun vs H Q E => ∃ c l t p, vs = [.ref c] ∧ At K C H c l t p ∧ Rds C CP c l H Q E (isCls K) (mCls t p)
theorem sc_class : FnScope ["cursor", "sign"] ["cursor"] (defScope d_read_class) := ⟨rfl, rfl, rfl, by decide +kernel, rfl, by decide +kernel, by decide +kernel⟩
theorem ok_class {C CP : Addr} (D : GDef K mg "read_class" d_read_class) (T : CurT K C) (hV : MFn P w K mg base CX0 3 C "sees" ["self", "sign"] (spSees K C)) (hT : MFn P w K mg base CX0 3 C "take" ["self"] (spTake K C)) (hS : GFn P w K mg base (CXf false P w) 6 "read_single" ["cursor"] (spSingle K C CP))
    (hX : XFn P w K mg base CX0 2 "ProgramFault" CP ["self", "kind", "place"] (spPF CP)) (hG : ClsG K mg w.params) : GFn P w K mg base (CXf false P w) 7 "read_class" ["cursor"] (spClass K C CP) := by
  obtain ⟨f, fd, m, F⟩ := D
  obtain ⟨fV, fdV, mV, bV, GV⟩ := hV
  obtain ⟨fT, fdT, mT, bT, GT⟩ := hT
  obtain ⟨fS, fdS, mS, kS, bS, GS⟩ := hS
  obtain ⟨fX, fdX, mX, MX, bX, GX⟩ := hX
  obtain ⟨d, es, n, mD, hD, hK, hI⟩ := hG
  refine ⟨f, fd, m, F.kp, F.binds (ps := ["cursor"]) fun _ _ _ _ _ _ us hl => match us, hl with | [_], _ => rfl, okX false F sc_class (fun vs H Q E h => ?_) (fun cdv A outer s H vs Q E hr h => ?_)⟩
  · obtain ⟨c, l, t, p, rfl, _⟩ := h
    rfl
  · obtain ⟨c, l, t, p, rfl, hA, k⟩ := h
    obtain ⟨dx, hc⟩ := hA.1
    have hcm := calm_of hr (by decide)
    have hr3 : Room 3 _ := hr.mono (by decide)
    refine ⟨_, pss_cons (ps_if (pt_val (pe_meth (pv 0) T.cl mV GV hr3 bV .nil pass0 (pa_cons pe_str pa_nil))) (pss_cons (ps_expr (pe_meth0 (pv 0) T.cl mT GT hr3 bT .nil pass0)) (pss_one (ps_ret (pe_call GS hr rfl mS kS bS .nil (passX (E := E) (fun z => z)) (pa_cons (pv 0) pa_nil))))) pss_nil)
      (pss_cons (ps_for ownX hcm (pi_keysM2 (pgr rfl mD)) (pg_name (i := 1) sc_class.nd rfl (Or.inl rfl)) (pss_one (ps_if (pt_val (pe_meth (pv 0) T.cl mV GV hr3 bV .nil pass0 (pa_cons (pv 1) pa_nil))) (pss_cons (ps_expr (pe_meth0 (pv 0) T.cl mT GT hr3 bT .nil pass0)) (pss_one (ps_ret (pe_ix ix_dictM (pgr rfl mD) (pv 1) (fun _ _ => rfl))))) pss_nil)))
      (pss_one (ps_raise hcm MX GX hr3 bX (passAny (E := E)) thrown rfl mX (pa_cons pe_int (pa_cons (pe_fld (pv 0) rfl) pa_nil))))), ?_⟩
    refine ⟨_, rfl, c, dx, _, rfl, hc, cf_no (by decide +kernel) (by decide +kernel), c, l, t, p, _, rfl, hA, by decide +kernel, _, rfl, ?_⟩
    show if decide (pk t p = 39) = true then _ else _
    unfold mCls at k
    refine ite2 (fun h1 => ?_) fun h1 => ?_
    · have e39 := of_decide_eq_true h1
      rw [if_pos e39] at k
      have hlt : p + 1 ≤ t.length := by
        rcases at_cases t p hA.2.2 with ⟨_, _, _, q⟩ | ⟨_, q, _⟩
        · omega
        · exact q
      refine ⟨_, rfl, c, dx, _, rfl, hc, cf_no (by decide +kernel) (by decide +kernel), c, l, t, p, rfl, hA, fun H1 c1 kp => ?_⟩
      refine ⟨_, rfl, c, l, t, p + 1, rfl, hA.step c1 kp hlt, ?_⟩
      cases e : mSingle t (p + 1) with
      | error e' =>
        rw [e] at k
        exact k
      | ok r =>
        obtain ⟨kc, p1⟩ := r
        rw [e] at k
        exact fun v H' h1 h2 h3 => k v H' h1 (kp.trans h2) h3
    · have e39 : ¬ pk t p = 39 := fun z => h1 (decide_eq_true z)
      rw [if_neg e39] at k
      refine ⟨d, clsKeys, es, n, rfl, hD, for_keysM (fun i σ H' => ∃ v : Option V, σ = [some (.ref c), v] ∧ H' = H ∧ (sgns.take i).find? (fun x => decide (x.1 = pk t p)) = none) ⟨none, rfl, rfl, rfl⟩ ?_ ?_⟩
      · rintro i x σ H' hi ⟨v, rfl, rfl, hno⟩
        obtain ⟨hx1, kc, hs⟩ := key_one hi
        refine ⟨_, rfl, c, dx, _, rfl, hc, cf_no (by decide +kernel) (by decide +kernel), _, rfl, c, l, t, p, x, rfl, hA, hx1, _, rfl, ?_⟩
        refine ite2 (fun h2 => ?_) fun h2 => ?_
        · have ex := of_decide_eq_true h2
          have hf : sgns.find? (fun x => decide (x.1 = pk t p)) = some (ordOf x, kc) := find_at hno hs (decide_eq_true ex.symm)
          rw [hf] at k
          obtain ⟨b, nb, rb⟩ := hI i x _ kc hi hs
          refine ⟨_, rfl, c, dx, _, rfl, hc, cf_no (by decide +kernel) (by decide +kernel), c, l, t, p, rfl, hA, fun H1 c1 kp => ?_⟩
          refine ⟨_, rfl, d, x, es, n, b, rfl, rfl, hD.l, hK, nb, ?_⟩
          exact k _ _ c1 kp ⟨b, rfl, rb.rg _⟩
        · refine ⟨_, rfl, rfl, find_snoc hno hs (decide_eq_false fun z => h2 (decide_eq_true z.symm))⟩
      · rintro σ H' ⟨v, rfl, rfl, hno⟩
        have hf : sgns.find? (fun x => decide (x.1 = pk t p)) = none := hno
        rw [hf] at k
        exact ⟨_, rfl, c, C, dx, _, _, rfl, hc, T.cl, T.nP, cf_place _ _, rd_PF k⟩
def spDir (K : PySem.W.Frag) (C CP : Addr) : Sp := fun vs H Q E => ∃ c l t p, vs = [.ref c] ∧ At K C H c l t p ∧ Rds C CP c l H Q E (fun b v _ => v = .bl b) (mDir t p)
theorem sc_dir : FnScope ["cursor"] ["cursor"] (defScope d_read_direction) := ⟨rfl, rfl, rfl, by decide +kernel, rfl, by decide +kernel, by decide +kernel⟩
theorem ok_dir {C CP : Addr} (D : GDef K mg "read_direction" d_read_direction) (T : CurT K C) (hV : MFn P w K mg base CX0 3 C "sees" ["self", "sign"] (spSees K C)) (hT : MFn P w K mg base CX0 3 C "take" ["self"] (spTake K C)) (hS : MFn P w K mg base (CXf false P w) 5 C "take_sign" ["self", "sign"] (spSign K C CP)) :
    GFn P w K mg base (CXf false P w) 6 "read_direction" ["cursor"] (spDir K C CP) := by
  obtain ⟨f, fd, m, F⟩ := D
  obtain ⟨fV, fdV, mV, bV, GV⟩ := hV
  obtain ⟨fT, fdT, mT, bT, GT⟩ := hT
  obtain ⟨fS, fdS, mS, bS, GS⟩ := hS
  refine ⟨f, fd, m, F.kp, F.binds (ps := ["cursor"]) fun _ _ _ _ _ _ us hl => match us, hl with | [_], _ => rfl, okX false F sc_dir (fun vs H Q E h => ?_) (fun cdv A outer s H vs Q E hr h => ?_)⟩
  · obtain ⟨c, l, t, p, rfl, _⟩ := h
    rfl
  · obtain ⟨c, l, t, p, rfl, hA, k⟩ := h
    obtain ⟨dx, hc⟩ := hA.1
    have hr3 : Room 3 _ := hr.mono (by decide)
    refine ⟨_, pss_cons (ps_if (pt_val (pe_meth (pv 0) T.cl mV GV hr3 bV .nil pass0 (pa_cons pe_str pa_nil))) (pss_cons (ps_expr (pe_meth0 (pv 0) T.cl mT GT hr3 bT .nil pass0)) (pss_one (ps_ret pe_bl))) pss_nil)
      (pss_cons (ps_expr (pe_meth (pv 0) T.cl mS GS hr bS .nil (passX (E := E) (fun z => z)) (pa_cons pe_str pa_nil))) (pss_one (ps_ret pe_bl))), ?_⟩
    refine ⟨_, rfl, c, dx, _, rfl, hc, cf_no (by decide +kernel) (by decide +kernel), c, l, t, p, _, rfl, hA, by decide +kernel, _, rfl, ?_⟩
    show if decide (pk t p = 45) = true then _ else _
    unfold mDir at k
    by_cases e : pk t p = 45
    · rw [decide_eq_true e]
      rw [if_pos e] at k
      exact iteT ⟨_, rfl, c, dx, _, rfl, hc, cf_no (by decide +kernel) (by decide +kernel), c, l, t, p, rfl, hA, fun H1 c1 kp => k _ H1 c1 kp rfl⟩
    · rw [decide_eq_false e]
      rw [if_neg e] at k
      refine iteF ⟨_, rfl, c, dx, _, rfl, hc, cf_no (by decide +kernel) (by decide +kernel), c, l, t, p, _, rfl, hA, by decide +kernel, ?_⟩
      show match mExp t 43 p with | .ok p1 => _ | .error e => _
      cases e2 : mExp t 43 p with
      | error e' =>
        rw [e2] at k
        exact k
      | ok p1 =>
        rw [e2] at k
        exact fun H1 c1 kp => k _ H1 c1 kp rfl
def spNum (K : PySem.W.Frag) (C CP : Addr) : Sp := fun vs H Q E => ∃ c l t p lo hi, vs = [.ref c, .int ((lo : Nat) : Int), .int ((hi : Nat) : Int)] ∧ At K C H c l t p ∧ t.length ≤ 10000 ∧ Rds C CP c l H Q E (fun (n : Nat) v _ => v = .int (n : Int)) (mNum t lo hi p)
theorem sc_num : FnScope ["cursor", "low", "high", "first", "digits", "number", "digit"] ["cursor", "low", "high"] (defScope d_read_number) := ⟨rfl, rfl, rfl, by decide +kernel, rfl, by decide +kernel, by decide +kernel⟩
theorem ok_num {C CP : Addr} (D : GDef K mg "read_number" d_read_number) (T : CurT K C) (hP : MFn P w K mg base CX0 2 C "peek" ["self"] (spPeek K C)) (hT : MFn P w K mg base CX0 3 C "take" ["self"] (spTake K C)) (hH : GFn P w K mg base CX0 5 "holds" ["ranges", "byte"] (spHolds K))
    (hX : XFn P w K mg base CX0 2 "ProgramFault" CP ["self", "kind", "place"] (spPF CP)) (hG : ClsG K mg w.params) (hl : mg "len" = none) (ho : mg "ord" = none) (hN : NumG mg "MOST_DIGITS" 2) : GFn P w K mg base (CXf false P w) 6 "read_number" ["cursor", "low", "high"] (spNum K C CP) := by
  obtain ⟨f, fd, m, F⟩ := D
  obtain ⟨fH, fdH, mH, kH, bH, GH⟩ := hH
  obtain ⟨fP, fdP, mP, bP, GP⟩ := hP
  obtain ⟨fT, fdT, mT, bT, GT⟩ := hT
  obtain ⟨fX, fdX, mX, MX, bX, GX⟩ := hX
  obtain ⟨d, es, n, mD, hD, hK, hI⟩ := hG
  obtain ⟨bD, nD, rDk⟩ := hI 0 "D" 68 .digits rfl rfl
  obtain ⟨tn, mN⟩ := hN
  refine ⟨f, fd, m, F.kp, F.binds (ps := ["cursor", "low", "high"]) fun _ _ _ _ _ _ us hl => match us, hl with | [_, _, _], _ => rfl, okX false F sc_num (fun vs H Q E h => ?_) (fun cdv A outer s H vs Q E hr h => ?_)⟩
  · obtain ⟨c, l, t, p, lo, hi, rfl, _⟩ := h
    rfl
  · obtain ⟨c, l, t, p, lo, hi, rfl, hA, ht, k⟩ := h
    obtain ⟨dx, hc⟩ := hA.1
    have hcm := calm_of hr (by decide)
    have hr3 : Room 3 _ := hr.mono (by decide)
    refine ⟨_, pss_cons (ps_set (i := 3) sc_num.nd rfl (Or.inl rfl) (pe_fld (pv 0) rfl))
      (pss_cons (ps_set (i := 4) sc_num.nd rfl (Or.inl rfl) (pe_lst pa_nil))
      (pss_cons (ps_while ownX (pt_val (pe_call GH hr rfl mH kH bH .nil pass0 (pa_cons (pe_ix ix_dictM (pgr rfl mD) pe_str (fun _ _ => rfl)) (pa_cons (pe_meth0 (pv 0) T.cl mP GP (hr3.mono (by decide)) bP .nil pass0) pa_nil))))
        (pss_one (ps_expr (pe_bm PySem.F.plainAttrs_list PySem.F.slot_list_append PySem.F.type_list_append mt_append (pv 4) (pa_cons (pe_op op_sub (pe_meth0 (pv 0) T.cl mT GT hr3 bT .nil pass0) (pe_callB call_ord (by rfl) ho bt_ord (pa_cons pe_str pa_nil))) pa_nil)))))
      (pss_cons (ps_if (pt_cmpR op_eq (pe_callB call_len_seq (by rfl) hl PySem.boot_len (pa_cons (pv 4) pa_nil)) pe_int (nomark _)) (pss_one (ps_raise hcm MX GX hr3 bX (passAny (E := E)) thrown rfl mX (pa_cons pe_int (pa_cons (pv 3) pa_nil)))) pss_nil)
      (pss_cons (ps_if (PW.pt (pw_or (pt_cmpR op_gt (pe_callB call_len_seq (by rfl) hl PySem.boot_len (pa_cons (pv 4) pa_nil)) (pgi rfl mN) (nomark _))
          (pw_or1 (PW.pt (pw_and (pt_cmpR op_gt (pe_callB call_len_seq (by rfl) hl PySem.boot_len (pa_cons (pv 4) pa_nil)) pe_int (nomark _)) (pw_and1 (pt_cmpR op_eq (pe_ix ix_list (pv 4) pe_int (fun _ _ => rfl)) pe_int (nomark _))))))))
        (pss_one (ps_raise hcm MX GX hr3 bX (passAny (E := E)) thrown rfl mX (pa_cons pe_int (pa_cons (pv 3) pa_nil)))) pss_nil)
      (pss_cons (ps_set (i := 5) sc_num.nd rfl (Or.inl rfl) pe_int)
      (pss_cons (ps_for ownX hcm (pi_list (pv 4)) (pg_name (i := 6) sc_num.nd rfl (Or.inl rfl)) (pss_one (ps_set (i := 5) sc_num.nd rfl (Or.inl rfl) (pe_op op_add (pe_op op_mul pe_int (pv 5)) (pv 6)))))
      (pss_cons (ps_if (pt_not (pt_chain op_le op_le (pv 1) (pv 5) (pv 2))) (pss_one (ps_raise hcm MX GX hr3 bX (passAny (E := E)) thrown rfl mX (pa_cons pe_int (pa_cons (pv 3) pa_nil)))) pss_nil)
      (pss_one (ps_ret (pv 5)))))))))), ?_⟩
    refine ⟨_, rfl, c, C, dx, _, _, rfl, hc, T.cl, T.nP, cf_place _ _, ?_⟩
    refine ⟨Nat.zero_le _, fun D hD' => ?_⟩
    have lenI : (dgi t p).length = (dg t p).length := by unfold dgi; rw [List.length_map]
    have le2 : p + (dg t p).length ≤ t.length := dg_le hA.2.2
    -- the loop over the digits
    have nDc : D ≠ c := fun z => by
      rw [z, hc] at hD'
      cases hD'
    refine ⟨fun m σ H' => ∃ i, m = (dg t p).length - i ∧ i ≤ (dg t p).length ∧ σ = [some (.ref c), some (.int lo), some (.int hi), some (.int p), some (.ref D), none, none] ∧ CurAt C H' c l ((p + i : Nat) : Int) ∧ H' D = some (.lst (((dgi t p).take i).map V.int)) ∧ Kp [c] H H',
      ⟨_, 0, rfl, Nat.zero_le _, rfl, hA.1.new hD', upd_same, Kp.new hD'⟩, ?_⟩
    rintro mm σ H1 ⟨i, rfl, hi', rfl, c1, h1, kp⟩
    have hA1 : At K C H1 c l t (p + i) := hA.step c1 kp (by omega)
    obtain ⟨dx1, hc1⟩ := c1
    refine ⟨d, _, es, n, bD, rfl, rfl, hD.l, hK, nD, _, rfl, c, dx1, _, rfl, hc1, cf_no (by decide +kernel) (by decide +kernel), c, l, t, p + i, rfl, hA1, bD, _, _, rfl, rDk.rg _, _, rfl, ?_⟩
    show if inRs [(48, 57)] (pk t (p + i)) = true then _ else _
    by_cases hlt : i < (dg t p).length
    · obtain ⟨b, hb1, hb2, hb3⟩ := dg_go hlt
      have e : inRs [(48, 57)] (pk t (p + i)) = true := by
        rw [pk_some hb1, ← isDigit_eq]
        exact hb2
      rw [e]
      refine iteT ⟨fun σ H' => i + 1 ≤ (dg t p).length ∧ σ = [some (.ref c), some (.int lo), some (.int hi), some (.int p), some (.ref D), none, none] ∧ CurAt C H' c l ((p + (i + 1) : Nat) : Int) ∧ H' D = some (.lst (((dgi t p).take (i + 1)).map V.int)) ∧ Kp [c] H H',
        fun σ' H' h => ⟨_, by omega, i + 1, rfl, h⟩, ?_⟩
      refine ⟨_, rfl, .inl ⟨rfl, _, SqL.of h1⟩, _, rfl, c, dx1, _, rfl, hc1, cf_no (by decide +kernel) (by decide +kernel), c, l, t, p + i, rfl, hA1, fun H2 c2 kp2 => ?_⟩
      have h2 : H2 D = some (.lst (((dgi t p).take i).map V.int)) := kp2 D _ h1 (by simp [nDc])
      have szi : ((dgi t p).take i).length ≤ i := by rw [List.length_take]; exact Nat.min_le_left _ _
      refine ⟨_, rfl, by decide +kernel, _, _, rfl, rfl, D, _, _, rfl, rfl, h2, ?_, ?_⟩
      · rw [List.length_map, sizeLine_eq]
        omega
      · have hg : (dgi t p)[i]? = some ((b.toNat : Int) - 48) := by
          unfold dgi
          rw [List.getElem?_map, hb3]
          rfl
        refine ⟨hlt, rfl, ?_, ?_, (kp.trans kp2).over hD'⟩
        · obtain ⟨dx2, e2⟩ := c2
          exact ⟨dx2, by rw [upd_ne (Ne.symm nDc)]; exact e2⟩
        · rw [upd_same, take_snoc hg, List.map_append, pk_some hb1]
          rfl
    · have ei : i = (dg t p).length := by omega
      subst ei
      rw [dg_stop]
      refine iteF ?_
      rw [← lenI, List.take_length] at h1
      have h1L : SqL K H1 D ((dgi t p).map V.int) := SqL.of h1
      have lenM : (((dgi t p).map V.int).length : Int) = ((dg t p).length : Int) := by rw [List.length_map, lenI]
      unfold mNum at k
      refine ⟨_, rfl, D, _, rfl, .inl h1L, rfl, _, rfl, ?_⟩
      rw [decI, lenM]
      by_cases z0 : (dg t p).length = 0
      · rw [decide_eq_true (show ((dg t p).length : Int) = 0 by omega)]
        rw [if_pos z0] at k
        exact iteT ⟨_, rfl, rd_PF k⟩
      rw [decide_eq_false (show ¬ ((dg t p).length : Int) = 0 by omega)]
      rw [if_neg z0] at k
      refine iteF ⟨_, rfl, D, _, rfl, .inl h1L, _, _, rfl, rfl, _, rfl, ?_⟩
      rw [lenM]
      by_cases z2 : 2 < (dg t p).length ∨ (1 < (dg t p).length ∧ (dgi t p)[0]? = some 0)
      · rw [if_pos z2] at k
        by_cases z3 : 2 < (dg t p).length
        · rw [decide_eq_true (show (2 : Int) < ((dg t p).length : Int) by omega)]
          exact iteT (iteT ⟨_, rfl, rd_PF k⟩)
        · rw [decide_eq_false (show ¬ (2 : Int) < ((dg t p).length : Int) by omega)]
          have z4 : 1 < (dg t p).length ∧ (dgi t p)[0]? = some 0 := z2.resolve_left z3
          refine iteF ⟨_, rfl, D, _, rfl, .inl h1L, _, _, rfl, rfl, _, rfl, ?_⟩
          rw [lenM, decide_eq_true (show (1 : Int) < ((dg t p).length : Int) by omega)]
          refine iteT ⟨_, rfl, D, _, _, _, rfl, rfl, h1L, atI_nat (j := 0) (by rw [List.getElem?_map, z4.2]; rfl), rfl, _, rfl, ?_⟩
          exact iteT ⟨_, rfl, rd_PF k⟩
      rw [if_neg z2] at k
      have f2 : decide ((2 : Int) < ((dg t p).length : Int)) = false := decide_eq_false (by omega)
      have f1 : 1 < (dg t p).length → decide ((1 : Int) < ((dg t p).length : Int)) = true := fun z => decide_eq_true (by omega)
      have f0 : ¬ 1 < (dg t p).length → decide ((1 : Int) < ((dg t p).length : Int)) = false := fun z => decide_eq_false (by omega)
      have fd : 1 < (dg t p).length → ∃ d0, (dgi t p)[0]? = some d0 := fun z => ⟨_, List.getElem?_eq_getElem (by omega)⟩
      refine' dup (fun rest => ?nav) ?rst
      case nav =>
        rw [f2]
        refine iteF ⟨_, rfl, D, _, rfl, .inl h1L, _, _, rfl, rfl, _, rfl, ?_⟩
        rw [lenM]
        by_cases z4 : 1 < (dg t p).length
        · rw [f1 z4]
          obtain ⟨d0, hd0⟩ := fd z4
          refine iteT ⟨_, rfl, D, _, _, _, rfl, rfl, h1L, atI_nat (j := 0) (v := V.int d0) (by rw [List.getElem?_map, hd0]; rfl), rfl, _, rfl, ?_⟩
          rw [decI, decide_eq_false (show ¬ d0 = 0 from fun z => z2 (.inr ⟨z4, by rw [hd0, z]⟩))]
          exact iteF rest
        · rw [f0 z4]
          exact iteF (iteF rest)
      case rst =>
        refine ⟨_, rfl, D, rfl, ⟨_, h1L⟩, for_list (K := K) (a := D) (xs := (dgi t p).map V.int) (fun i σ H' => ∃ v : Option V, σ = [some (.ref c), some (.int lo), some (.int hi), some (.int p), some (.ref D), some (.int (((dgi t p).take i).foldl (fun (m x : Int) => 10 * m + x) 0)), v] ∧ H' = H1)
          ⟨none, rfl, rfl⟩ (fun i σ H' _ ⟨_, _, e⟩ => by rw [e]; exact h1L) ?_ ?_⟩
        · rintro i y σ H' hi ⟨v, rfl, rfl⟩
          obtain ⟨z, hz, rfl⟩ := map_get hi
          refine ⟨_, rfl, _, _, rfl, rfl, .inl ⟨by decide, by decide⟩, _, rfl, _, _, rfl, rfl, some (V.int z), ?_, rfl⟩
          rw [take_snoc hz, List.foldl_append]
          rfl
        · rintro σ H' ⟨v, rfl, rfl⟩
          rw [List.length_map, List.take_length, dgi_fold]
          refine ⟨_, rfl, _, rfl, _, _, rfl, rfl, _, rfl, ?_⟩
          by_cases z5 : lo ≤ dgn t p
          · rw [decide_eq_true (show (lo : Int) ≤ (dgn t p : Int) by omega)]
            refine iteT ⟨_, rfl, _, _, rfl, rfl, _, rfl, ?_⟩
            by_cases z6 : dgn t p ≤ hi
            · rw [decide_eq_true (show (dgn t p : Int) ≤ (hi : Int) by omega)]
              rw [if_neg (not_not_intro ⟨z5, z6⟩)] at k
              exact iteF ⟨_, rfl, k _ _ ⟨dx1, hc1⟩ kp rfl⟩
            · rw [decide_eq_false (show ¬ (dgn t p : Int) ≤ (hi : Int) by omega)]
              rw [if_pos (fun z => z6 z.2)] at k
              exact iteT ⟨_, rfl, rd_PF k⟩
          · rw [decide_eq_false (show ¬ (lo : Int) ≤ (dgn t p : Int) by omega)]
            rw [if_pos (fun z => z5 z.1)] at k
            exact iteF ⟨_, rfl, iteT ⟨_, rfl, rd_PF k⟩⟩
structure EndT (K : PySem.W.Frag) (C : Addr) : Prop where
  cl : Cls K C
  nF : NoAttr K C "from_right"
  nD : NoAttr K C "distance"
structure BorT (K : PySem.W.Frag) (C : Addr) : Prop where
  cl : Cls K C
  nL : NoAttr K C "left"
  nR : NoAttr K C "right"
  nF : NoAttr K C "from_right"
  nK : NoAttr K C "rank"
def spEI (C : Addr) : Sp := fun vs H Q _ => ∃ a b n dx, vs = [.ref a, .bl b, .int n] ∧ H a = some (.ins C dx []) ∧ Q .non (upd H a (.ins C dx (efs b n)))
theorem sc_EI : FnScope ["self", "from_right", "distance"] ["self", "from_right", "distance"] (defScope d_EndPosition_init) := ⟨rfl, rfl, rfl, by decide +kernel, rfl, by decide +kernel, by decide +kernel⟩
theorem ok_EI {C : Addr} (D : MkDef K mg "EndPosition" "EndPosition.__init__" C d_EndPosition_init) (T : EndT K C) : MkFn P w K mg base CX0 1 "EndPosition" C ["self", "from_right", "distance"] (spEI C) := by
  obtain ⟨f, fd, m, cl, M, F⟩ := D
  refine ⟨f, fd, m, cl, M, F.binds (ps := ["self", "from_right", "distance"]) fun _ _ _ _ _ _ us hl => match us, hl with | [_, _, _], _ => rfl, F.ok sc_EI (fun vs H Q E h => ?_) (fun cdv A outer s H vs Q E hr h => ?_)⟩
  · obtain ⟨a, b, n, dx, rfl, _⟩ := h
    rfl
  · obtain ⟨a, b, n, dx, rfl, ha, k⟩ := h
    refine ⟨_, pss_cons (ps_fld (pv 0) (pv 1) rfl) (pss_one (ps_fld (pv 0) (pv 2) rfl)), ?_⟩
    refine ⟨_, rfl, _, rfl, a, C, dx, [], rfl, ha, T.cl, T.nF, (by show 0 < 1000; decide), ?_⟩
    refine ⟨_, rfl, _, rfl, a, C, dx, _, rfl, upd_same, T.cl, T.nD, (by show 1 < 1000; decide), ?_⟩
    show Q .non _
    rw [upd_upd]
    exact k
def spBI (C : Addr) : Sp := fun vs H Q _ => ∃ a x y b n dx, vs = [.ref a, .ref x, .ref y, .bl b, .int n] ∧ H a = some (.ins C dx []) ∧ Q .non (upd H a (.ins C dx (bfs x y b n)))
theorem sc_BI : FnScope ["self", "left", "right", "from_right", "rank"] ["self", "left", "right", "from_right", "rank"] (defScope d_BorderPosition_init) := ⟨rfl, rfl, rfl, by decide +kernel, rfl, by decide +kernel, by decide +kernel⟩
theorem ok_BI {C : Addr} (D : MkDef K mg "BorderPosition" "BorderPosition.__init__" C d_BorderPosition_init) (T : BorT K C) : MkFn P w K mg base CX0 1 "BorderPosition" C ["self", "left", "right", "from_right", "rank"] (spBI C) := by
  obtain ⟨f, fd, m, cl, M, F⟩ := D
  refine ⟨f, fd, m, cl, M, F.binds (ps := ["self", "left", "right", "from_right", "rank"]) fun _ _ _ _ _ _ us hl => match us, hl with | [_, _, _, _, _], _ => rfl, F.ok sc_BI (fun vs H Q E h => ?_) (fun cdv A outer s H vs Q E hr h => ?_)⟩
  · obtain ⟨a, x, y, b, n, dx, rfl, _⟩ := h
    rfl
  · obtain ⟨a, x, y, b, n, dx, rfl, ha, k⟩ := h
    refine ⟨_, pss_cons (ps_fld (pv 0) (pv 1) rfl) (pss_cons (ps_fld (pv 0) (pv 2) rfl) (pss_cons (ps_fld (pv 0) (pv 3) rfl) (pss_one (ps_fld (pv 0) (pv 4) rfl)))), ?_⟩
    have l1 := putF_le "left" (V.ref x) [] nil_le
    have l2 := putF_le "right" (V.ref y) _ l1
    have l3 := putF_le "from_right" (V.bl b) _ l2
    refine ⟨_, rfl, _, rfl, a, C, dx, [], rfl, ha, T.cl, T.nL, (by show 0 < 1000; decide), ?_⟩
    refine ⟨_, rfl, _, rfl, a, C, dx, _, rfl, upd_same, T.cl, T.nR, lt1000 l1 (by decide), ?_⟩
    refine ⟨_, rfl, _, rfl, a, C, dx, _, rfl, upd_same, T.cl, T.nF, lt1000 l2 (by decide), ?_⟩
    refine ⟨_, rfl, _, rfl, a, C, dx, _, rfl, upd_same, T.cl, T.nK, lt1000 l3 (by decide), ?_⟩
    show Q .non _
    rw [upd_upd, upd_upd, upd_upd]
    exact k
def posV (K : PySem.W.Frag) (cs : Cs) (x : Vaflxa.Pos) (v : V) (H : Hp) : Prop := ∃ a, v = .ref a ∧ isPos K cs x a H
def spBorder (K : PySem.W.Frag) (cs : Cs) (C CP : Addr) : Sp := fun vs H Q E => ∃ c l t p, vs = [.ref c] ∧ At K C H c l t p ∧ t.length ≤ 10000 ∧ Rds C CP c l H Q E (posV K cs) (mBorder t p)
theorem sc_border : FnScope ["cursor", "first", "left", "right", "from_right"] ["cursor"] (defScope d_read_border) := ⟨rfl, rfl, rfl, by decide +kernel, rfl, by decide +kernel, by decide +kernel⟩
theorem made_new {H : Hp} {x dx C : Addr} {fs : List (Str × V)} (hx : H x = none) (hdx : H dx = none) (nd : dx ≠ x) (ch : List Addr) : Kp ch H (upd (upd H dx (.own x)) x (.ins C dx fs)) := (Kp.new hdx).trans (Kp.new (by rw [upd_ne (Ne.symm nd)]; exact hx))
theorem CurAt.kp {C : Addr} {H H' : Hp} {c l : Addr} {p : Int} (h : CurAt C H c l p) (k : Kp [] H H') : CurAt C H' c l p := by
  obtain ⟨dx, e⟩ := h
  exact ⟨dx, k c _ e (by simp)⟩
theorem ok_border {cs : Cs} {C CP : Addr} (D : GDef K mg "read_border" d_read_border) (T : CurT K C) (hC : GFn P w K mg base (CXf false P w) 7 "read_class" ["cursor"] (spClass K C CP)) (hS : MFn P w K mg base (CXf false P w) 5 C "take_sign" ["self", "sign"] (spSign K C CP))
    (hB : GFn P w K mg base CX0 1 "both_empty" ["left", "right"] (spBoth K)) (hD : GFn P w K mg base (CXf false P w) 6 "read_direction" ["cursor"] (spDir K C CP)) (hN : GFn P w K mg base (CXf false P w) 6 "read_number" ["cursor", "low", "high"] (spNum K C CP))
    (hI : MkFn P w K mg base CX0 1 "BorderPosition" cs.B ["self", "left", "right", "from_right", "rank"] (spBI cs.B)) (hX : XFn P w K mg base CX0 2 "ProgramFault" CP ["self", "kind", "place"] (spPF CP)) (hR : NumG mg "MOST_RANK" 40) :
    GFn P w K mg base (CXf false P w) 8 "read_border" ["cursor"] (spBorder K cs C CP) := by
  obtain ⟨f, fd, m, F⟩ := D
  obtain ⟨fC, fdC, mC, kC, bC, GC⟩ := hC
  obtain ⟨fS, fdS, mS, bS, GS⟩ := hS
  obtain ⟨fB, fdB, mB, kB, bB, GB⟩ := hB
  obtain ⟨fD, fdD, mD, kD, bD, GD⟩ := hD
  obtain ⟨fN, fdN, mN, kN, bN, GN⟩ := hN
  obtain ⟨fI, fdI, mI, cI, MI, bI, GI⟩ := hI
  obtain ⟨fX, fdX, mX, MX, bX, GX⟩ := hX
  obtain ⟨tr, mR⟩ := hR
  refine ⟨f, fd, m, F.kp, F.binds (ps := ["cursor"]) fun _ _ _ _ _ _ us hl => match us, hl with | [_], _ => rfl, okX false F sc_border (fun vs H Q E h => ?_) (fun cdv A outer s H vs Q E hr h => ?_)⟩
  · obtain ⟨c, l, t, p, rfl, _⟩ := h
    rfl
  · obtain ⟨c, l, t, p, rfl, hA, ht, k⟩ := h
    obtain ⟨dx, hc⟩ := hA.1
    have hcm := calm_of hr (by decide)
    have hr6 : Room 6 _ := hr.mono (by decide)
    have hr5 : Room 5 _ := hr.mono (by decide)
    have hr3 : Room 3 _ := hr.mono (by decide)
    have hr2 : Room 2 _ := hr.mono (by decide)
    have hr1 : Room 1 _ := hr.mono (by decide)
    refine ⟨_, pss_cons (ps_set (i := 1) sc_border.nd rfl (Or.inl rfl) (pe_fld (pv 0) rfl))
      (pss_cons (ps_set (i := 2) sc_border.nd rfl (Or.inl rfl) (pe_call GC hr rfl mC kC bC .nil (passX (E := E) (fun z => z)) (pa_cons (pv 0) pa_nil)))
      (pss_cons (ps_expr (pe_meth (pv 0) T.cl mS GS hr5 bS .nil (passX (E := E) (fun z => z)) (pa_cons pe_str pa_nil)))
      (pss_cons (ps_set (i := 3) sc_border.nd rfl (Or.inl rfl) (pe_call GC hr rfl mC kC bC .nil (passX (E := E) (fun z => z)) (pa_cons (pv 0) pa_nil)))
      (pss_cons (ps_if (pt_val (pe_call GB hr1 rfl mB kB bB .nil pass0 (pa_cons (pv 2) (pa_cons (pv 3) pa_nil)))) (pss_one (ps_raise hcm MX GX hr3 bX (passAny (E := E)) thrown rfl mX (pa_cons pe_int (pa_cons (pv 1) pa_nil)))) pss_nil)
      (pss_cons (ps_set (i := 4) sc_border.nd rfl (Or.inl rfl) (pe_call GD hr6 rfl mD kD bD .nil (passX (E := E) (fun z => z)) (pa_cons (pv 0) pa_nil)))
      (pss_one (ps_ret (pe_make MI GI hr2 rfl mI bI .nil pass0 (pa_cons (pv 2) (pa_cons (pv 3) (pa_cons (pv 4) (pa_cons (pe_call GN hr6 rfl mN kN bN .nil (passX (E := E) (fun z => z)) (pa_cons (pv 0) (pa_cons pe_int (pa_cons (pgi rfl mR) pa_nil)))) pa_nil)))))))))))), ?_⟩
    refine ⟨_, rfl, c, C, dx, _, _, rfl, hc, T.cl, T.nP, cf_place _ _, ?_⟩
    refine ⟨_, rfl, c, l, t, p, rfl, hA, ?_⟩
    unfold mBorder at k
    cases e1 : mCls t p with
    | error e => simp only [e1] at k; exact k
    | ok r1 =>
      obtain ⟨k1, p1⟩ := r1
      simp only [e1] at k
      have i1 := cls_in hA.2.2 _ _ e1
      intro v1 H1 c1 kp1 hv1
      obtain ⟨x, rfl, hx⟩ := hv1
      have hA1 := hA.step c1 kp1 i1
      obtain ⟨dx1, hc1⟩ := id c1
      refine ⟨_, rfl, c, dx1, _, rfl, hc1, cf_no (by decide +kernel) (by decide +kernel), c, l, t, p1, _, rfl, hA1, by decide +kernel, ?_⟩
      show match mExp t 124 p1 with | .ok p1 => _ | .error e => _
      cases e2 : mExp t 124 p1 with
      | error e => simp only [e2] at k; exact k
      | ok p2 =>
        simp only [e2] at k
        have i2 := exp_in (by decide) i1 e2
        intro H2 c2 kp2
        have hA2 := hA1.step c2 kp2 i2
        have hx2 : Rg K H2 x (rngs k1) := kp2.rg c1.ins hx
        refine ⟨_, rfl, c, l, t, p2, rfl, hA2, ?_⟩
        cases e3 : mCls t p2 with
        | error e => simp only [e3] at k; exact k
        | ok r3 =>
          obtain ⟨k2, p3⟩ := r3
          simp only [e3] at k
          have i3 := cls_in i2 _ _ e3
          intro v3 H3 c3 kp3 hv3
          obtain ⟨y, rfl, hy⟩ := hv3
          have hA3 := hA2.step c3 kp3 i3
          have hx3 : Rg K H3 x (rngs k1) := kp3.rg c2.ins hx2
          refine ⟨_, rfl, _, rfl, x, y, _, _, rfl, hx3, hy, _, rfl, ?_⟩
          rw [← isEmpty_eq, ← isEmpty_eq]
          have k : Rds C CP c l H Q E (posV K cs) (if (Vaflxa.isEmptyClass k1 && Vaflxa.isEmptyClass k2) = true then .error ⟨4, p⟩ else match mDir t p3 with
            | .error e => .error e
            | .ok (b, p4) => match mNum t 1 40 p4 with
              | .error e => .error e
              | .ok (n, p5) => .ok (if b then .right k1 k2 n else .left k1 k2 n, p5)) := k
          cases e4 : (Vaflxa.isEmptyClass k1 && Vaflxa.isEmptyClass k2) with
          | true =>
            rw [e4, if_pos rfl] at k
            exact iteT ⟨_, rfl, rd_PF k⟩
          | false =>
            rw [e4, if_neg (by decide)] at k
            refine iteF ⟨_, rfl, c, l, t, p3, rfl, hA3, ?_⟩
            cases e5 : mDir t p3 with
            | error e => simp only [e5] at k; exact k
            | ok r5 =>
              obtain ⟨b, p4⟩ := r5
              simp only [e5] at k
              have i4 := dir_in i3 _ _ e5
              intro v4 H4 c4 kp4 hv4
              subst hv4
              have hA4 := hA3.step c4 kp4 i4
              have hx4 : Rg K H4 x (rngs k1) := kp4.rg c3.ins hx3
              have hy4 : Rg K H4 y (rngs k2) := kp4.rg c3.ins hy
              refine ⟨_, rfl, _, rfl, _, rfl, _, rfl, c, l, t, p4, 1, 40, rfl, hA4, ht, ?_⟩
              have k : Rds C CP c l H Q E (posV K cs) (match mNum t 1 40 p4 with
                | .error e => .error e
                | .ok (n, p5) => .ok (if b then .right k1 k2 n else .left k1 k2 n, p5)) := k
              cases e6 : mNum t 1 40 p4 with
              | error e => simp only [e6] at k; exact k
              | ok r6 =>
                obtain ⟨n, p5⟩ := r6
                simp only [e6] at k
                intro v5 H5 c5 kp5 hv5
                subst hv5
                have hx5 : Rg K H5 x (rngs k1) := kp5.rg c4.ins hx4
                have hy5 : Rg K H5 y (rngs k2) := kp5.rg c4.ins hy4
                intro a da ha hda nda
                refine ⟨a, x, y, b, _, da, rfl, upd_same, ⟨rfl, ?_⟩⟩
                rw [upd_upd]
                have kpn : Kp [] H5 (upd (upd H5 da (.own a)) a (.ins cs.B da (bfs x y b (n : Int)))) := made_new ha hda nda []
                refine k _ _ (c5.kp kpn) ((((((kp1.trans kp2).trans kp3).trans kp4).trans kp5)).trans (made_new ha hda nda [c])) ⟨a, rfl, ?_⟩
                cases b with
                | true => exact ⟨da, x, y, upd_same, kpn.rg Ins.nil hx5, kpn.rg Ins.nil hy5, num_lo e6⟩
                | false => exact ⟨da, x, y, upd_same, kpn.rg Ins.nil hx5, kpn.rg Ins.nil hy5, num_lo e6⟩
def spPosn (K : PySem.W.Frag) (cs : Cs) (C CP : Addr) : Sp := fun vs H Q E => ∃ c l t p, vs = [.ref c] ∧ At K C H c l t p ∧ t.length ≤ 10000 ∧ Rds C CP c l H Q E (posV K cs) (mPos t p)
theorem sc_posn : FnScope ["cursor", "from_right"] ["cursor"] (defScope d_read_position) := ⟨rfl, rfl, rfl, by decide +kernel, rfl, by decide +kernel, by decide +kernel⟩
theorem ok_posn {cs : Cs} {C CP : Addr} (D : GDef K mg "read_position" d_read_position) (T : CurT K C) (hV : MFn P w K mg base CX0 3 C "sees" ["self", "sign"] (spSees K C)) (hB : GFn P w K mg base (CXf false P w) 8 "read_border" ["cursor"] (spBorder K cs C CP))
    (hD : GFn P w K mg base (CXf false P w) 6 "read_direction" ["cursor"] (spDir K C CP)) (hN : GFn P w K mg base (CXf false P w) 6 "read_number" ["cursor", "low", "high"] (spNum K C CP)) (hI : MkFn P w K mg base CX0 1 "EndPosition" cs.E ["self", "from_right", "distance"] (spEI cs.E)) (hR : NumG mg "MOST_DISTANCE" 60) :
    GFn P w K mg base (CXf false P w) 9 "read_position" ["cursor"] (spPosn K cs C CP) := by
  obtain ⟨f, fd, m, F⟩ := D
  obtain ⟨fV, fdV, mV, bV, GV⟩ := hV
  obtain ⟨fB, fdB, mB, kB, bB, GB⟩ := hB
  obtain ⟨fD, fdD, mD, kD, bD, GD⟩ := hD
  obtain ⟨fN, fdN, mN, kN, bN, GN⟩ := hN
  obtain ⟨fI, fdI, mI, cI, MI, bI, GI⟩ := hI
  obtain ⟨tr, mR⟩ := hR
  refine ⟨f, fd, m, F.kp, F.binds (ps := ["cursor"]) fun _ _ _ _ _ _ us hl => match us, hl with | [_], _ => rfl, okX false F sc_posn (fun vs H Q E h => ?_) (fun cdv A outer s H vs Q E hr h => ?_)⟩
  · obtain ⟨c, l, t, p, rfl, _⟩ := h
    rfl
  · obtain ⟨c, l, t, p, rfl, hA, ht, k⟩ := h
    obtain ⟨dx, hc⟩ := hA.1
    have hr6 : Room 6 _ := hr.mono (by decide)
    have hr3 : Room 3 _ := hr.mono (by decide)
    have hr2 : Room 2 _ := hr.mono (by decide)
    refine ⟨_, pss_cons (ps_if (PW.pt (pw_or (pt_val (pe_meth (pv 0) T.cl mV GV hr3 bV .nil pass0 (pa_cons pe_str pa_nil))) (pw_or1 (pt_val (pe_meth (pv 0) T.cl mV GV hr3 bV .nil pass0 (pa_cons pe_str pa_nil))))))
        (pss_cons (ps_set (i := 1) sc_posn.nd rfl (Or.inl rfl) (pe_call GD hr6 rfl mD kD bD .nil (passX (E := E) (fun z => z)) (pa_cons (pv 0) pa_nil)))
          (pss_one (ps_ret (pe_make MI GI hr2 rfl mI bI .nil pass0 (pa_cons (pv 1) (pa_cons (pe_call GN hr6 rfl mN kN bN .nil (passX (E := E) (fun z => z)) (pa_cons (pv 0) (pa_cons pe_int (pa_cons (pgi rfl mR) pa_nil)))) pa_nil)))))) pss_nil)
      (pss_one (ps_ret (pe_call GB hr rfl mB kB bB .nil (passX (E := E) (fun z => z)) (pa_cons (pv 0) pa_nil)))), ?_⟩
    refine ⟨_, rfl, c, dx, _, rfl, hc, cf_no (by decide +kernel) (by decide +kernel), c, l, t, p, _, rfl, hA, by decide +kernel, _, rfl, ?_⟩
    show if decide (pk t p = 43) = true then _ else _
    unfold mPos at k
    by_cases zz : pk t p = 43 ∨ pk t p = 45
    rotate_left
    · have z1 : ¬ pk t p = 43 := fun z => zz (.inl z)
      have z2 : ¬ pk t p = 45 := fun z => zz (.inr z)
      rw [decide_eq_false z1]
      refine iteF ⟨_, rfl, c, dx, _, rfl, hc, cf_no (by decide +kernel) (by decide +kernel), c, l, t, p, _, rfl, hA, by decide +kernel, _, rfl, ?_⟩
      show if decide (pk t p = 45) = true then _ else _
      rw [decide_eq_false z2]
      rw [if_neg zz] at k
      exact iteF ⟨_, rfl, c, l, t, p, rfl, hA, ht, k⟩
    rw [if_pos zz] at k
    refine' dup (fun yes => ?nav) ?yes
    case nav =>
      by_cases z1 : pk t p = 43
      · rw [decide_eq_true z1]
        exact iteT (iteT yes)
      · rw [decide_eq_false z1]
        refine iteF ⟨_, rfl, c, dx, _, rfl, hc, cf_no (by decide +kernel) (by decide +kernel), c, l, t, p, _, rfl, hA, by decide +kernel, _, rfl, ?_⟩
        show if decide (pk t p = 45) = true then _ else _
        rw [decide_eq_true (zz.resolve_left z1)]
        exact iteT yes
    case yes =>
      refine ⟨_, rfl, c, l, t, p, rfl, hA, ?_⟩
      cases e5 : mDir t p with
      | error e => simp only [e5] at k; exact k
      | ok r5 =>
        obtain ⟨b, p4⟩ := r5
        simp only [e5] at k
        have i4 := dir_in hA.2.2 _ _ e5
        intro v4 H4 c4 kp4 hv4
        subst hv4
        have hA4 := hA.step c4 kp4 i4
        refine ⟨_, rfl, _, rfl, c, l, t, p4, 0, 60, rfl, hA4, ht, ?_⟩
        have k : Rds C CP c l H Q E (posV K cs) (match mNum t 0 60 p4 with
          | .error e => .error e
          | .ok (n, p5) => .ok (if b then .finish n else .start n, p5)) := k
        cases e6 : mNum t 0 60 p4 with
        | error e => simp only [e6] at k; exact k
        | ok r6 =>
          obtain ⟨n, p5⟩ := r6
          simp only [e6] at k
          intro v5 H5 c5 kp5 hv5
          subst hv5
          intro a da ha hda nda
          refine ⟨a, b, _, da, rfl, upd_same, ⟨rfl, ?_⟩⟩
          rw [upd_upd]
          have kpn : Kp [] H5 (upd (upd H5 da (.own a)) a (.ins cs.E da (efs b (n : Int)))) := made_new ha hda nda []
          refine k _ _ (c5.kp kpn) ((kp4.trans kp5).trans (made_new ha hda nda [c])) ⟨a, rfl, ?_⟩
          cases b with
          | true => exact ⟨da, upd_same⟩
          | false => exact ⟨da, upd_same⟩
def optV : Option Nat → V
  | none => .non
  | some n => .int (n : Int)
def spPlE (K : PySem.W.Frag) (cs : Cs) : Sp := fun vs H Q _ => ∃ a dx b n l t, vs = [.ref a, .ref l] ∧ H a = some (.ins cs.E dx (efs b ((n : Nat) : Int))) ∧ SqL K H l (bz t) ∧ Q (optV (if n ≤ t.length then some (if b = true then t.length - n else n) else none)) H
theorem sc_plE : FnScope ["self", "text"] ["self", "text"] (defScope d_EndPosition_place_in) := ⟨rfl, rfl, rfl, by decide +kernel, rfl, by decide +kernel, by decide +kernel⟩
theorem ok_plE {cs : Cs} (D : MDef K cs.E "place_in" "EndPosition.place_in" d_EndPosition_place_in) (T : EndT K cs.E) (hl : mg "len" = none) : MFn P w K mg base CX0 1 cs.E "place_in" ["self", "text"] (spPlE K cs) := by
  obtain ⟨f, fd, m, F⟩ := D
  refine ⟨f, fd, m, F.binds (ps := ["self", "text"]) fun _ _ _ _ _ _ us hl => match us, hl with | [_, _], _ => rfl, F.ok sc_plE (fun vs H Q E h => ?_) (fun cdv A outer s H vs Q E hr h => ?_)⟩
  · obtain ⟨a, dx, b, n, l, t, rfl, _⟩ := h
    rfl
  · obtain ⟨a, dx, b, n, l, t, rfl, ha, hS, k⟩ := h
    refine ⟨_, pss_cons (ps_if (pt_cmpR op_gt (pe_fld (pv 0) rfl) (pe_callB call_len_seq (by rfl) hl PySem.boot_len (pa_cons (pv 1) pa_nil)) (nomark _)) (pss_one (ps_ret pe_non)) pss_nil)
      (pss_cons (ps_if (pt_val (pe_fld (pv 0) rfl)) (pss_one (ps_ret (pe_op op_sub (pe_callB call_len_seq (by rfl) hl PySem.boot_len (pa_cons (pv 1) pa_nil)) (pe_fld (pv 0) rfl)))) pss_nil)
      (pss_one (ps_ret (pe_fld (pv 0) rfl)))), ?_⟩
    refine ⟨_, rfl, a, cs.E, dx, _, _, rfl, ha, T.cl, T.nD, efs_d _ _, _, rfl, l, _, rfl, .inl hS, _, _, rfl, rfl, _, rfl, ?_⟩
    rw [bz_len]
    by_cases z : n ≤ t.length
    · rw [decide_eq_false (show ¬ (t.length : Int) < (n : Int) by omega)]
      rw [if_pos z] at k
      refine iteF ⟨_, rfl, a, cs.E, dx, _, _, rfl, ha, T.cl, T.nF, efs_f _ _, _, rfl, ?_⟩
      cases b with
      | true =>
        refine iteT ⟨_, rfl, l, _, rfl, .inl hS, _, rfl, a, cs.E, dx, _, _, rfl, ha, T.cl, T.nD, efs_d _ _, _, _, rfl, rfl, ?_⟩
        rw [bz_len]
        have e : ((t.length - n : Nat) : Int) = (t.length : Int) - (n : Int) := by omega
        rw [if_pos rfl] at k
        have k : Q (.int ((t.length - n : Nat) : Int)) H := k
        rw [e] at k
        exact k
      | false =>
        rw [if_neg (by decide)] at k
        exact iteF ⟨_, rfl, a, cs.E, dx, _, _, rfl, ha, T.cl, T.nD, efs_d _ _, k⟩
    · rw [decide_eq_true (show (t.length : Int) < (n : Int) by omega)]
      rw [if_neg z] at k
      exact iteT k
def spPlB (K : PySem.W.Frag) (cs : Cs) : Sp := fun vs H Q _ => ∃ a dx x y b n r1 r2 l t, vs = [.ref a, .ref l] ∧ H a = some (.ins cs.B dx (bfs x y b ((n : Nat) : Int))) ∧ Rg K H x r1 ∧ Rg K H y r2 ∧ 1 ≤ n ∧ SqL K H l (bz t) ∧ t.length ≤ 10000 ∧ ∀ H', Kp [] H H' → Q (optV (if b = true then (bord r1 r2 t).reverse[n - 1]? else (bord r1 r2 t)[n - 1]?)) H'
theorem sc_plB : FnScope ["self", "text", "places"] ["self", "text"] (defScope d_BorderPosition_place_in) := ⟨rfl, rfl, rfl, by decide +kernel, rfl, by decide +kernel, by decide +kernel⟩
theorem nz_len (l : List Nat) : (nz l).length = l.length := by
  unfold nz
  exact List.length_map ..
theorem nz_get {l : List Nat} {i n : Nat} (h : l[i]? = some n) : (nz l)[i]? = some (V.int (n : Int)) := by
  unfold nz
  rw [List.getElem?_map, h]
  rfl
theorem ok_plB {cs : Cs} (D : MDef K cs.B "place_in" "BorderPosition.place_in" d_BorderPosition_place_in) (T : BorT K cs.B) (hP : GFn P w K mg base CX0 8 "border_places" ["left", "right", "text"] (spBord K)) (hl : mg "len" = none) : MFn P w K mg base CX0 9 cs.B "place_in" ["self", "text"] (spPlB K cs) := by
  obtain ⟨f, fd, m, F⟩ := D
  obtain ⟨fP, fdP, mP, kP, bP, GP⟩ := hP
  refine ⟨f, fd, m, F.binds (ps := ["self", "text"]) fun _ _ _ _ _ _ us hl => match us, hl with | [_, _], _ => rfl, F.ok sc_plB (fun vs H Q E h => ?_) (fun cdv A outer s H vs Q E hr h => ?_)⟩
  · obtain ⟨a, dx, x, y, b, n, r1, r2, l, t, rfl, _⟩ := h
    rfl
  · obtain ⟨a, dx, x, y, b, n, r1, r2, l, t, rfl, ha, h1, h2, hn, hS, ht, k⟩ := h
    refine ⟨_, pss_cons (ps_set (i := 2) sc_plB.nd rfl (Or.inl rfl) (pe_call GP hr rfl mP kP bP .nil pass0 (pa_cons (pe_fld (pv 0) rfl) (pa_cons (pe_fld (pv 0) rfl) (pa_cons (pv 1) pa_nil)))))
      (pss_cons (ps_if (pt_cmpR op_gt (pe_fld (pv 0) rfl) (pe_callB call_len_seq (by rfl) hl PySem.boot_len (pa_cons (pv 2) pa_nil)) (nomark _)) (pss_one (ps_ret pe_non)) pss_nil)
      (pss_cons (ps_if (pt_val (pe_fld (pv 0) rfl)) (pss_one (ps_ret (pe_ix ix_list (pv 2) (pe_op op_sub (pe_callB call_len_seq (by rfl) hl PySem.boot_len (pa_cons (pv 2) pa_nil)) (pe_fld (pv 0) rfl)) (fun _ _ => rfl)))) pss_nil)
      (pss_one (ps_ret (pe_ix ix_list (pv 2) (pe_op op_sub (pe_fld (pv 0) rfl) pe_int) (fun _ _ => rfl)))))), ?_⟩
    refine ⟨_, rfl, a, cs.B, dx, _, _, rfl, ha, T.cl, T.nL, bfs_l _ _ _ _, _, rfl, a, cs.B, dx, _, _, rfl, ha, T.cl, T.nR, bfs_r _ _ _ _, _, rfl, x, r1, y, r2, l, t, rfl, h1, h2, hS, ht, fun D H1 hD kp => ?_⟩
    have k := k H1 kp
    have ha1 : H1 a = some (.ins cs.B dx (bfs x y b ((n : Nat) : Int))) := kp a _ ha (by simp)
    have hL : SqL K H1 D (nz (bord r1 r2 t)) := SqL.of hD
    refine ⟨_, rfl, a, cs.B, dx, _, _, rfl, ha1, T.cl, T.nK, bfs_k _ _ _ _, _, rfl, D, _, rfl, .inl hL, _, _, rfl, rfl, _, rfl, ?_⟩
    rw [nz_len]
    by_cases z : n ≤ (bord r1 r2 t).length
    · rw [decide_eq_false (show ¬ ((bord r1 r2 t).length : Int) < (n : Int) by omega)]
      refine iteF ⟨_, rfl, a, cs.B, dx, _, _, rfl, ha1, T.cl, T.nF, bfs_f _ _ _ _, _, rfl, ?_⟩
      cases b with
      | true =>
        obtain ⟨v, hv⟩ : ∃ v, (bord r1 r2 t)[(bord r1 r2 t).length - n]? = some v := ⟨_, List.getElem?_eq_getElem (by omega)⟩
        have e : (bord r1 r2 t).reverse[n - 1]? = some v := by
          rw [List.getElem?_reverse (by omega), ← hv]
          congr 1
          omega
        rw [if_pos rfl, e] at k
        refine iteT ⟨_, rfl, _, rfl, D, _, rfl, .inl hL, _, rfl, a, cs.B, dx, _, _, rfl, ha1, T.cl, T.nK, bfs_k _ _ _ _, _, _, rfl, rfl, D, _, _, _, rfl, rfl, hL, at_of (j := (bord r1 r2 t).length - n) (by rw [nz_len]; omega) (nz_get hv), k⟩
      | false =>
        obtain ⟨v, hv⟩ : ∃ v, (bord r1 r2 t)[n - 1]? = some v := ⟨_, List.getElem?_eq_getElem (by omega)⟩
        rw [if_neg (by decide), hv] at k
        exact iteF ⟨_, rfl, _, rfl, a, cs.B, dx, _, _, rfl, ha1, T.cl, T.nK, bfs_k _ _ _ _, _, _, rfl, rfl, D, _, _, _, rfl, rfl, hL, at_of (j := n - 1) (by omega) (nz_get hv), k⟩
    · rw [decide_eq_true (show ((bord r1 r2 t).length : Int) < (n : Int) by omega)]
      have e1 : (bord r1 r2 t)[n - 1]? = none := List.getElem?_eq_none_iff.mpr (by omega)
      have e2 : (bord r1 r2 t).reverse[n - 1]? = none := List.getElem?_eq_none_iff.mpr (by rw [List.length_reverse]; omega)
      rw [e1, e2] at k
      have e3 : (if b = true then (none : Option Nat) else none) = none := by cases b <;> rfl
      rw [e3] at k
      exact iteT k
theorem rd_pl {cs : Cs} {p : Vaflxa.Pos} {x l : Addr} {t : Vaflxa.Text} {H : Hp} {Q : VK} {E : XK} (h : isPos K cs p x H) (hS : SqL K H l (bz t)) (ht : t.length ≤ 10000) (k : ∀ H', Kp [] H H' → Q (optV (Vaflxa.placeOf p t)) H') :
    (∃ dx fs, H x = some (.ins cs.E dx fs) ∧ fs.lookup ("place_in" : Str) = none ∧ spPlE K cs [.ref x, .ref l] H Q E) ∨ (∃ dx fs, H x = some (.ins cs.B dx fs) ∧ fs.lookup ("place_in" : Str) = none ∧ spPlB K cs [.ref x, .ref l] H Q E) := by
  cases p with
  | start n =>
    obtain ⟨dx, e⟩ := h
    exact .inl ⟨dx, _, e, efs_no (by decide +kernel) (by decide +kernel), x, dx, _, n, l, t, rfl, e, hS, k H (Kp.refl _ _)⟩
  | finish n =>
    obtain ⟨dx, e⟩ := h
    exact .inl ⟨dx, _, e, efs_no (by decide +kernel) (by decide +kernel), x, dx, _, n, l, t, rfl, e, hS, k H (Kp.refl _ _)⟩
  | left a b n =>
    obtain ⟨dx, u, v, e, h1, h2, hn⟩ := h
    refine .inr ⟨dx, _, e, bfs_no (by decide +kernel) (by decide +kernel) (by decide +kernel) (by decide +kernel), x, dx, u, v, false, n, _, _, l, t, rfl, e, h1, h2, hn, hS, ht, fun H' kp => ?_⟩
    have k := k H' kp
    have e2 : Vaflxa.placeOf (.left a b n) t = (bord (rngs a) (rngs b) t)[n - 1]? := by
      show (if n = 0 then none else (Vaflxa.borders a b t)[n - 1]?) = _
      rw [if_neg (by omega), borders_eq]
    rw [e2] at k
    exact k
  | right a b n =>
    obtain ⟨dx, u, v, e, h1, h2, hn⟩ := h
    refine .inr ⟨dx, _, e, bfs_no (by decide +kernel) (by decide +kernel) (by decide +kernel) (by decide +kernel), x, dx, u, v, true, n, _, _, l, t, rfl, e, h1, h2, hn, hS, ht, fun H' kp => ?_⟩
    have k := k H' kp
    have e2 : Vaflxa.placeOf (.right a b n) t = (bord (rngs a) (rngs b) t).reverse[n - 1]? := by
      show (if n = 0 then none else (Vaflxa.borders a b t).reverse[n - 1]?) = _
      rw [if_neg (by omega), borders_eq]
    rw [e2] at k
    exact k
def spLoneP (K : PySem.W.Frag) (cs : Cs) (CN : Addr) : Sp := fun vs H Q E => ∃ l t, vs = [.ref l] ∧ SqL K H l (bz t) ∧ t.length ≤ 10000 ∧ (match Vaflxa.posOf t with
  | some x => ∀ v H', Kp [] H H' → posV K cs x v H' → Q v H'
  | none => FailsN CN E [-4])
theorem sc_loneP : FnScope ["text", "cursor", "position"] ["text"] (defScope d_read_lone_position) := ⟨rfl, rfl, rfl, by decide +kernel, rfl, by decide +kernel, by decide +kernel⟩
theorem posOf_eq (t : Vaflxa.Text) : Vaflxa.posOf t = match mPos t 0 with
    | .ok (x, p) => if p = t.length then some x else none
    | .error _ => none := by
  have e := pos_eq t 0 (Nat.zero_le _)
  rw [List.drop_zero] at e
  unfold Vaflxa.posOf
  rw [e]
  cases h : mPos t 0 with
  | error e => rfl
  | ok r =>
    obtain ⟨x, p⟩ := r
    have hp := pos_in (Nat.zero_le _) x p h
    by_cases q : p = t.length
    · have z : t.drop p = [] := List.drop_eq_nil_iff.mpr (by omega)
      show (match (Except.ok (x, (p, t.drop p)) : Vaflxa.Res (Vaflxa.Pos × Vaflxa.At)) with | .ok (k, (_, [])) => some k | _ => none) = if p = t.length then some x else none
      rw [if_pos q, z]
    · have z : t.drop p = t[p]'(by omega) :: t.drop (p + 1) := List.drop_eq_getElem_cons (by omega)
      show (match (Except.ok (x, (p, t.drop p)) : Vaflxa.Res (Vaflxa.Pos × Vaflxa.At)) with | .ok (k, (_, [])) => some k | _ => none) = if p = t.length then some x else none
      rw [if_neg q, z]
theorem ok_loneP {cs : Cs} {C CP CN : Addr} (D : GDef K mg "read_lone_position" d_read_lone_position) (T : CurT K C) (hI : MkFn P w K mg base CX0 1 "Cursor" C ["self", "text"] (spCInit C)) (hE : MFn P w K mg base CX0 1 C "at_end" ["self"] (spAtEnd K C)) (hR : GFn P w K mg base (CXf false P w) 9 "read_position" ["cursor"] (spPosn K cs C CP))
    (mP : mg "ProgramFault" = some (.ref CP)) (sP : XS K CP CP) (hX : XFn P w K mg base CX0 2 "NoPosition" CN ["self"] (spX0 CN [-4])) : GFn P w K mg base (CXf true P w) 10 "read_lone_position" ["text"] (spLoneP K cs CN) := by
  obtain ⟨f, fd, m, F⟩ := D
  obtain ⟨fI, fdI, mI, cI, MI, bI, GI⟩ := hI
  obtain ⟨fE, fdE, mE, bE, GE⟩ := hE
  obtain ⟨fR, fdR, mR, kR, bR, GR⟩ := hR
  obtain ⟨fX, fdX, mX, MX, bX, GX⟩ := hX
  refine ⟨f, fd, m, F.kp, F.binds (ps := ["text"]) fun _ _ _ _ _ _ us hl => match us, hl with | [_], _ => rfl, okX true F sc_loneP (fun vs H Q E h => ?_) (fun cdv A outer s H vs Q E hr h => ?_)⟩
  · obtain ⟨l, t, rfl, _⟩ := h
    rfl
  · obtain ⟨l, t, rfl, hS, ht, k⟩ := h
    have hcm := calm_of hr (by decide)
    have hr3 : Room 3 _ := hr.mono (by decide)
    refine ⟨_, pss_cons (ps_set (i := 1) sc_loneP.nd rfl (Or.inl rfl) (pe_make MI GI (hr3.mono (by decide)) rfl mI bI .nil pass0 (pa_cons (pv 0) pa_nil)))
      (pss_cons (ps_tryR (E := E) rfl rfl rfl mP sP.toXC MX GX hr3 (by decide) bX thrown rfl mX (fun e => PassesOwnAt.leaving) (fun W pn E' hp => pss_one (ps_set (i := 2) sc_loneP.nd rfl (Or.inl rfl) (pe_call GR hr rfl mR kR bR .nil hp (pa_cons (pv 1) pa_nil)))))
      (pss_cons (ps_if (pt_not (pt_val (pe_meth0 (pv 1) T.cl mE GE (hr3.mono (by decide)) bE .nil pass0))) (pss_one (ps_raise0 hcm MX GX hr3 bX (passAny (E := E)) thrown rfl mX)) pss_nil)
      (pss_one (ps_ret (pv 2))))), ?_⟩
    refine ⟨_, rfl, fun c dx hc hdx nd => ⟨c, l, dx, rfl, upd_same, ⟨rfl, ?_⟩⟩⟩
    rw [upd_upd]
    have hc1 : CurAt C (upd (upd H dx (.own c)) c (.ins C dx (cf l 0))) c l ((0 : Nat) : Int) := ⟨dx, upd_same⟩
    have kp0 : Kp [] H (upd (upd H dx (.own c)) c (.ins C dx (cf l 0))) := made_new hc hdx nd []
    have hA : At K C (upd (upd H dx (.own c)) c (.ins C dx (cf l 0))) c l t 0 := ⟨hc1, kp0.sqL Ins.nil hS, Nat.zero_le _⟩
    rw [posOf_eq] at k
    refine ⟨_, rfl, c, l, t, 0, rfl, hA, ht, ?_⟩
    cases e : mPos t 0 with
    | error e' =>
      rw [e] at k
      have k : FailsN CN E [-4] := k
      intro dx' l' fs H' h1 h2 h3 h4 h5
      exact ⟨CP, dx', rfl, rfl, sP, fun a na σ1 => rd_X0N k na⟩
    | ok r =>
      obtain ⟨x, p⟩ := r
      rw [e] at k
      intro v H' hc2 kp hcl
      have hp := pos_in (Nat.zero_le _) x p e
      have hA2 := hA.step hc2 kp hp
      obtain ⟨dx2, hc3⟩ := hc2
      refine ⟨_, rfl, c, dx2, _, rfl, hc3, cf_no (by decide +kernel) (by decide +kernel), c, l, t, p, rfl, hA2, _, rfl, ?_⟩
      have k : (match (if p = t.length then some x else none) with
        | some x => ∀ v H', Kp [] H H' → posV K cs x v H' → Q v H'
        | none => FailsN CN E [-4]) := k
      by_cases q : p = t.length
      · rw [if_pos q] at k
        rw [decide_eq_true q]
        refine iteF ⟨_, rfl, k v H' (fun b o hb _ => ?_) hcl⟩
        exact kp b o (kp0 b o hb (by simp)) (fun z => by
          have z : b = c := by simpa using z
          rw [z, hc] at hb
          cases hb)
      · rw [if_neg q] at k
        rw [decide_eq_false q]
        refine iteT ?_
        exact rd_X0 k
theorem failsEX {C CO : Addr} {rt : VK} {ks : List Int} (xs : XS K C CO) (h : ∀ q H', H' q = some (.lst (ks.map V.int)) → rt (.ref q) H') : FailsN C (EX K CO rt) ks := by
  intro dx l fs H' h1 h2 h3
  exact ⟨C, dx, fs, .ref l, rfl, rfl, xs, h1, h2, fun a o na => h l _ (by rw [upd_ne (ne_of_none h3 na)]; exact h3)⟩
theorem ans_place (p t : Vaflxa.Text) : Vaflxa.answerOf (.place p t) = (match Vaflxa.posOf p with
    | none => [-4]
    | some x => if Vaflxa.goodText Vaflxa.MOST_FIELD t = true then (match Vaflxa.placeOf x t with
      | some n => [0, Vaflxa.nat n]
      | none => [1]) else [-1]) := rfl
def spPlace (K : PySem.W.Frag) : Sp := fun vs H Q _ => ∃ l1 t1 l2 t2, vs = [.ref l1, .ref l2] ∧ SqL K H l1 (bz t1) ∧ t1.length ≤ 10000 ∧ SqL K H l2 (bz t2) ∧ t2.length ≤ 10000 ∧ ∀ q H', H' q = some (.lst ((Vaflxa.answerOf (.place t1 t2)).map V.int)) → Q (.ref q) H'
theorem sc_place : FnScope ["position", "t", "found", "other", "where"] ["position", "t"] (defScope d_place) := ⟨rfl, rfl, rfl, by decide +kernel, rfl, by decide +kernel, by decide +kernel⟩
theorem ok_place {cs : Cs} {CO CN CF f : Addr} {fd : FuncData} (F : Fun K "place" "place" d_place f fd) (mO : mg "OtherAnswer" = some (.ref CO)) (xO : XC K CO) (sN : XS K CN CO) (sF : XS K CF CO) (TE : EndT K cs.E) (TB : BorT K cs.B) (hP : GFn P w K mg base (CXf true P w) 10 "read_lone_position" ["text"] (spLoneP K cs CN)) (hC : GFn P w K mg base (CXf false P w) 6 "check_field" ["text"] (spCheck K CF))
    (hE : MFn P w K mg base CX0 1 cs.E "place_in" ["self", "text"] (spPlE K cs)) (hB : MFn P w K mg base CX0 9 cs.B "place_in" ["self", "text"] (spPlB K cs)) : FnOk P w K mg base CX0 11 f fd ["position", "t"] (spPlace K) := by
  obtain ⟨fP, fdP, mP, kP, bP, GP⟩ := hP
  obtain ⟨fC, fdC, mC, kC, bC, GC⟩ := hC
  obtain ⟨fE, fdE, mE, bE, GE⟩ := hE
  obtain ⟨fB, fdB, mB, bB, GB⟩ := hB
  refine F.ok sc_place (fun vs H Q E h => ?_) (fun cdv A outer s H vs Q E hr h => ?_)
  · obtain ⟨l1, t1, l2, t2, rfl, _⟩ := h
    rfl
  · obtain ⟨l1, t1, l2, t2, rfl, hS1, ht1, hS2, ht2, k⟩ := h
    have hr9 : Room 9 _ := hr.mono (by decide)
    have hr6 : Room 6 _ := hr.mono (by decide)
    have hr1 : Room 1 _ := hr.mono (by decide)
    refine ⟨_, pss_cons (ps_try (i := 3) rfl rfl sc_place.nd rfl rfl (Or.inl rfl) (Or.inl rfl) rfl mO xO rfl (fun W pn E' hp => pss_cons (ps_set (i := 2) sc_place.nd rfl (Or.inl rfl) (pe_call GP hr rfl mP kP bP .nil (hp true) (pa_cons (pv 0) pa_nil))) (pss_one (ps_expr (pe_call GC hr6 rfl mC kC bC .nil (hp false) (pa_cons (pv 1) pa_nil))))))
      (pss_cons (ps_set (i := 4) sc_place.nd rfl (Or.inl rfl) (pe_or2 (pe_meth (pv 2) TE.cl mE GE hr1 bE .nil pass0 (pa_cons (pv 1) pa_nil)) (pe_meth (pv 2) TB.cl mB GB hr9 bB .nil pass0 (pa_cons (pv 1) pa_nil))))
      (pss_cons (ps_if (pt_cmpR op_isN (pv 4) pe_non (nomark _)) (pss_one (ps_ret (pe_lst (pa_cons pe_int pa_nil)))) pss_nil)
      (pss_one (ps_ret (pe_lst (pa_cons pe_int (pa_cons (pv 4) pa_nil))))))), ?_⟩
    refine ⟨_, rfl, l1, t1, rfl, hS1, ht1, ?_⟩
    rw [ans_place] at k
    cases e1 : Vaflxa.posOf t1 with
    | none =>
      rw [e1] at k
      exact failsEX sN fun q H' hq => k q H' hq
    | some x =>
      rw [e1] at k
      have k : ∀ q H', H' q = some (.lst ((if Vaflxa.goodText Vaflxa.MOST_FIELD t2 = true then (match Vaflxa.placeOf x t2 with | some n => [0, Vaflxa.nat n] | none => [1]) else [-1] : List Int).map V.int)) → Q (.ref q) H' := k
      intro v H1 kp1 hv
      obtain ⟨a, rfl, hp⟩ := hv
      have hS2' := kp1.sqL Ins.nil hS2
      refine ⟨_, rfl, l2, t2, rfl, hS2', ?_⟩
      show if Vaflxa.goodText 40 t2 = true then _ else _
      cases e4 : Vaflxa.goodText 40 t2 with
      | false =>
        rw [show Vaflxa.goodText Vaflxa.MOST_FIELD t2 = false from e4, if_neg (by decide)] at k
        refine iteF ?_
        exact failsEX sF fun q H' hq => k q H' hq
      | true =>
        rw [show Vaflxa.goodText Vaflxa.MOST_FIELD t2 = true from e4, if_pos rfl] at k
        refine iteT ?_
        have fin : ∀ R : VK, (∀ H', Kp [] H1 H' → R (optV (Vaflxa.placeOf x t2)) H') → tOrE (tMeth cs.E "place_in" (spPlE K cs) [] E0 (tVar 2) (tCons (tVar 1) tNil)) (tMeth cs.B "place_in" (spPlB K cs) [] E0 (tVar 2) (tCons (tVar 1) tNil)) [some (.ref l1), some (.ref l2), some (.ref a), none, none] H1 R := fun R hR => by
          rcases rd_pl (E := E0) hp hS2' ht2 hR with ⟨dz, fs, e1, e2, e3⟩ | ⟨dz, fs, e1, e2, e3⟩
          · exact .inl ⟨_, rfl, a, dz, fs, rfl, e1, e2, _, rfl, e3⟩
          · exact .inr ⟨_, rfl, a, dz, fs, rfl, e1, e2, _, rfl, e3⟩
        refine fin _ fun H2 kp2 => ?_
        refine ⟨_, rfl, rfl, _, rfl, ?_⟩
        cases e5 : Vaflxa.placeOf x t2 with
        | none =>
          rw [e5] at k
          refine iteT ⟨(by show 1 ≤ sizeLine; decide), fun q hq => k q _ ?_⟩
          rw [upd_same]
          rfl
        | some n =>
          rw [e5] at k
          refine iteF ⟨_, rfl, (by show 2 ≤ sizeLine; decide), fun q hq => k q _ ?_⟩
          rw [upd_same]
          rfl
end
end FP
namespace FP
noncomputable section
open PySem PySem.W
open PySem.Value renaming ref → R, int → I, str → S, type → T, none → V
open Option renaming none → O
open PySem.Obj renaming mk → M
open PySem.Data renaming fields → F, seq → Q
abbrev pw : Program := PySem.Challenge.pw_fieldprograms_s07_place
abbrev Z : String → Str := Str.ofString
abbrev N : Obj → BT → BT → BT := BT.node
abbrev E : BT := BT.nil
abbrev ke (P : Params) (s : String) (i : Nat) (v : Value) : DictEntry := DictEntry.mk (PyData.keyHash P (Str.ofString s)) (S (Str.ofString s) i) v
abbrev fd (a b : Str) (d : Stmt) := FuncData.mk a b (L2.defArgs d) (FuncBody.stmts (L2.defBody d)) (L2.defScope d)
def ho5 (P : Params) := M (T "tuple") O (Q #[] 0) #[]
def ho7 (P : Params) := M (T "code") O (F #[(S (Z "<module>") 182), (S (Z "<module>") 183), (S (Z "/claim/cut.py") 184), (I 1 0), (I 0 0), (I 0 0), (I 0 0), (I 0 0), (R 11), (Value.bool Bool.false), (I 181 0), (R 12), V, V, V, V, (I 185 0), (I 1 0), (S (Z "/claim/cut.py") 186)]) #[]
def ho6 (P : Params) := M V O (F #[]) #[]
def ho8 (P : Params) := M (T "frame") O Data.plain #[(Option.some (R 13)), (Option.some (R 3)), (Option.some (R 3)), O, (Option.some (S (Z "__main__") 164)), O, (Option.some (R 0))]
def ho12 (P : Params) := M (T "dict") O (Data.dict #[(ke P "__name__" 165 (S (Z "fieldprograms.answers") 194)), (ke P "__doc__" 166 V), (ke P "__package__" 167 V), (ke P "__loader__" 168 (Value.builtin "__main__.__loader__#opaque")), (ke P "__spec__" 169 V), (ke P "__annotations__" 170 (R 6)), (ke P "__builtins__" 171 (R 4)), (ke P "__file__" 173 (S (Z "/claim/cut.py") 172)), (ke P "__cached__" 174 V), (ke P "_wall" 193 (R 21)), (ke P "OtherAnswer" 224 (R 38))] 11) #[]
def ho14 (P : Params) := M (T "tuple") O (Q #[] 0) #[]
def ho30 (P : Params) := M (T "tuple") O (Q #[(S (Z "self") 211), (S (Z "answer") 212)] 0) #[]
def ho22 (P : Params) := M (T "builtin_function_or_method") O (F #[(Value.builtin "type.__prepare__"), (T "type")]) #[]
def ho38 (P : Params) := M (T "getset_descriptor") O (F #[(S (Z "__weakref__") 218), (R 38), (Value.builtin "ExceptionGroup.__weakref__"), V]) #[]
def ho18 (P : Params) := M V O (Data.func (fd (Z "_wall") (Z "_wall") d__wall 0 [] V V V V O V V 0)) #[]
def ho34 (P : Params) := M (T "function") O (Data.func (fd (Z "__init__") (Z "OtherAnswer.__init__") d_OtherAnswer_init 3 [] V V V (S (Z "fieldprograms.answers") 194) O (R 34) V 0)) #[]
def ho26 (P : Params) := M (T "code") O (F #[(S (Z "OtherAnswer") 198), (S (Z "OtherAnswer") 199), (S (Z "/claim/cut.py") 200), (I 5 0), (I 0 0), (I 0 0), (I 0 0), (I 0 0), (R 25), (Value.bool Bool.false), (I 181 0), (R 26), V, V, V, V, (I 201 0), (I 5 0), (S (Z "/claim/cut.py") 202)]) #[]
def ho16 (P : Params) := M (T "tuple") O (Q #[(S (Z "k") 190)] 0) #[]
def ho32 (P : Params) := M V O (Data.func (fd (Z "__init__") (Z "OtherAnswer.__init__") d_OtherAnswer_init 0 [] V V V V O V V 0)) #[]
def ho24 (P : Params) := M (T "tuple") O (Q #[] 0) #[]
def ho40 (P : Params) := M (T "builtin_function_or_method") O (F #[(Value.builtin "object.__init_subclass__"), (R 38)]) #[]
def ho20 (P : Params) := M (T "function") O (Data.func (fd (Z "_wall") (Z "_wall") d__wall 3 [] V V V (S (Z "__main__") 164) O (R 20) V 0)) #[]
def ho36 (P : Params) := M (T "dict") O (Data.dict #[(ke P "__module__" 203 (S (Z "fieldprograms.answers") 194)), (ke P "__firstlineno__" 207 (I 5 206)), (ke P "__init__" 215 (R 35)), (ke P "__static_attributes__" 217 (R 36)), (ke P "__weakref__" 219 (R 39)), (ke P "__doc__" 220 V)] 3) #[]
def ho28 (P : Params) := M (T "tuple") O (Q #[] 0) #[]
def ho11 (P : Params) := M V O (Data.dict #[(ke P "type.__subclasses__.Exception.0" 221 (I 38 0)), (ke P "type.__subclasses__.Exception.n" 222 (I 1 0))] 2) #[]
def ho15 (P : Params) := M V O (F #[]) #[]
def ho31 (P : Params) := M (T "tuple") O (Q #[] 0) #[]
def ho23 (P : Params) := M (T "dict") O (Data.dict #[(ke P "__module__" 203 (S (Z "fieldprograms.answers") 194)), (ke P "__qualname__" 205 (S (Z "OtherAnswer") 204)), (ke P "__firstlineno__" 207 (I 5 206)), (ke P "__init__" 215 (R 35)), (ke P "__static_attributes__" 217 (R 36))] 5) #[]
def ho39 (P : Params) := M (T "super") O (F #[(R 38), (R 38), (R 38)]) #[]
def ho13 (P : Params) := M V O (F #[(I 1 0), (I 0 0), (R 20), (I 5 0), (I 0 0), (R 27)]) #[]
def ho19 (P : Params) := M (T "code") O (F #[(S (Z "_wall") 187), (S (Z "_wall") 188), (S (Z "/claim/cut.py") 189), (I 1 0), (I 1 0), (I 0 0), (I 0 0), (I 3 0), (R 15), (Value.bool Bool.true), (I 181 0), (R 16), V, (R 17), (R 18), (R 19), (I 191 0), (I 1 0), (S (Z "/claim/cut.py") 192)]) #[]
def ho35 (P : Params) := M (T "tuple") O (Q #[(S (Z "answer") 216)] 0) #[]
def ho27 (P : Params) := M (T "frame") O Data.plain #[(Option.some (R 27)), (Option.some (R 3)), (Option.some (R 24)), O, (Option.some (S (Z "fieldprograms.answers") 194)), O, (Option.some (R 0))]
def ho17 (P : Params) := M (T "tuple") O (Q #[] 0) #[]
def ho33 (P : Params) := M (T "code") O (F #[(S (Z "__init__") 208), (S (Z "OtherAnswer.__init__") 209), (S (Z "/claim/cut.py") 210), (I 7 0), (I 2 0), (I 0 0), (I 0 0), (I 3 0), (R 29), (Value.bool Bool.true), (I 181 0), (R 30), V, (R 31), (R 32), (R 33), (I 213 0), (I 7 0), (S (Z "/claim/cut.py") 214)]) #[]
def ho25 (P : Params) := M V O (F #[(I 7 0), (I 4 0), (R 34)]) #[]
def ho21 (P : Params) := M (T "tuple") O (Q #[(T "Exception")] 0) #[]
def ho37 (P : Params) := M (T "type") O (Data.cls (ClassData.mk (Z "OtherAnswer") [(T "Exception")] [(R 38), (T "Exception"), (T "BaseException"), (T "object")] 37 (Z "OtherAnswer") Bool.true [] [] Bool.false O Bool.false)) #[(Option.some (R 22)), O, (Option.some (S (Z "OtherAnswer") 196)), (Option.some (S (Z "OtherAnswer") 204)), (Option.some (Value.builtin "Exception.__new__")), (Option.some (Value.bool Bool.true))]
def ho29 (P : Params) := M V O (F #[]) #[]
def ho41 (P : Params) := M (T "dict") O (Data.dict #[(ke P "__name__" 165 (S (Z "fieldprograms.answers") 194)), (ke P "__doc__" 166 V), (ke P "__package__" 167 V), (ke P "__loader__" 168 (Value.builtin "__main__.__loader__#opaque")), (ke P "__spec__" 169 V), (ke P "__annotations__" 170 (R 6)), (ke P "__builtins__" 171 (R 4)), (ke P "__file__" 173 (S (Z "/claim/cut.py") 172)), (ke P "__cached__" 174 V), (ke P "_wall" 193 (R 21)), (ke P "OtherAnswer" 224 (R 38)), (ke P "ProgramFault" 251 (R 58))] 12) #[]
def ho49 (P : Params) := M (T "code") O (F #[(S (Z "ProgramFault") 227), (S (Z "ProgramFault") 228), (S (Z "/claim/cut.py") 229), (I 9 0), (I 0 0), (I 0 0), (I 0 0), (I 0 0), (R 45), (Value.bool Bool.false), (I 181 0), (R 46), V, V, V, V, (I 230 0), (I 9 0), (S (Z "/claim/cut.py") 231)]) #[]
def ho57 (P : Params) := M (T "function") O (Data.func (fd (Z "__init__") (Z "ProgramFault.__init__") d_ProgramFault_init 3 [] V V V (S (Z "fieldprograms.answers") 194) O (R 54) V 0)) #[]
def ho53 (P : Params) := M (T "tuple") O (Q #[(S (Z "self") 240), (S (Z "kind") 241), (S (Z "place") 242)] 0) #[]
def ho45 (P : Params) := M (T "builtin_function_or_method") O (F #[(Value.builtin "type.__prepare__"), (T "type")]) #[]
def ho61 (P : Params) := M (T "super") O (F #[(R 58), (R 58), (R 58)]) #[]
def ho51 (P : Params) := M (T "tuple") O (Q #[] 0) #[]
def ho59 (P : Params) := M (T "dict") O (Data.dict #[(ke P "__module__" 232 (S (Z "fieldprograms.answers") 194)), (ke P "__firstlineno__" 236 (I 9 235)), (ke P "__init__" 245 (R 55)), (ke P "__static_attributes__" 248 (R 56)), (ke P "__doc__" 249 V)] 2) #[]
def ho55 (P : Params) := M V O (Data.func (fd (Z "__init__") (Z "ProgramFault.__init__") d_ProgramFault_init 0 [] V V V V O V V 0)) #[]
def ho47 (P : Params) := M (T "tuple") O (Q #[] 0) #[]
def ho50 (P : Params) := M (T "frame") O Data.plain #[(Option.some (R 47)), (Option.some (R 3)), (Option.some (R 44)), O, (Option.some (S (Z "fieldprograms.answers") 194)), O, (Option.some (R 0))]
def ho58 (P : Params) := M (T "tuple") O (Q #[(S (Z "kind") 246), (S (Z "place") 247)] 0) #[]
def ho42 (P : Params) := M V O (F #[(I 1 0), (I 0 0), (R 20), (I 5 0), (I 0 0), (R 27), (I 9 0), (I 0 0), (R 47)]) #[]
def ho54 (P : Params) := M (T "tuple") O (Q #[] 0) #[]
def ho46 (P : Params) := M (T "dict") O (Data.dict #[(ke P "__module__" 232 (S (Z "fieldprograms.answers") 194)), (ke P "__qualname__" 234 (S (Z "ProgramFault") 233)), (ke P "__firstlineno__" 236 (I 9 235)), (ke P "__init__" 245 (R 55)), (ke P "__static_attributes__" 248 (R 56))] 5) #[]
def ho62 (P : Params) := M (T "builtin_function_or_method") O (F #[(Value.builtin "object.__init_subclass__"), (R 58)]) #[]
def ho52 (P : Params) := M V O (F #[]) #[]
def ho44 (P : Params) := M (T "tuple") O (Q #[(R 38)] 0) #[]
def ho60 (P : Params) := M (T "type") O (Data.cls (ClassData.mk (Z "ProgramFault") [(R 38)] [(R 58), (R 38), (T "Exception"), (T "BaseException"), (T "object")] 57 (Z "ProgramFault") Bool.true [] [] Bool.false O Bool.false)) #[(Option.some (R 42)), O, (Option.some (S (Z "ProgramFault") 225)), (Option.some (S (Z "ProgramFault") 233)), (Option.some (Value.builtin "Exception.__new__")), (Option.some (Value.bool Bool.true))]
def ho43 (P : Params) := M (T "type") O (Data.cls (ClassData.mk (Z "OtherAnswer") [(T "Exception")] [(R 38), (T "Exception"), (T "BaseException"), (T "object")] 37 (Z "OtherAnswer") Bool.true [] [(R 58)] Bool.false O Bool.false)) #[(Option.some (R 22)), O, (Option.some (S (Z "OtherAnswer") 196)), (Option.some (S (Z "OtherAnswer") 204)), (Option.some (Value.builtin "Exception.__new__")), (Option.some (Value.bool Bool.true))]
def ho56 (P : Params) := M (T "code") O (F #[(S (Z "__init__") 237), (S (Z "ProgramFault.__init__") 238), (S (Z "/claim/cut.py") 239), (I 11 0), (I 3 0), (I 0 0), (I 0 0), (I 3 0), (R 49), (Value.bool Bool.true), (I 181 0), (R 50), V, (R 51), (R 52), (R 53), (I 243 0), (I 11 0), (S (Z "/claim/cut.py") 244)]) #[]
def ho48 (P : Params) := M V O (F #[(I 11 0), (I 4 0), (R 54)]) #[]
def ho63 (P : Params) := M (T "dict") O (Data.dict #[(ke P "__name__" 165 (S (Z "fieldprograms.answers") 194)), (ke P "__doc__" 166 V), (ke P "__package__" 167 V), (ke P "__loader__" 168 (Value.builtin "__main__.__loader__#opaque")), (ke P "__spec__" 169 V), (ke P "__annotations__" 170 (R 6)), (ke P "__builtins__" 171 (R 4)), (ke P "__file__" 173 (S (Z "/claim/cut.py") 172)), (ke P "__cached__" 174 V), (ke P "_wall" 193 (R 21)), (ke P "OtherAnswer" 224 (R 38)), (ke P "ProgramFault" 251 (R 58)), (ke P "NoPosition" 274 (R 77))] 13) #[]
def ho68 (P : Params) := M (T "dict") O (Data.dict #[(ke P "__module__" 259 (S (Z "fieldprograms.answers") 194)), (ke P "__qualname__" 261 (S (Z "NoPosition") 260)), (ke P "__firstlineno__" 263 (I 15 262)), (ke P "__init__" 270 (R 74)), (ke P "__static_attributes__" 271 (R 75))] 5) #[]
def ho84 (P : Params) := M (T "builtin_function_or_method") O (F #[(Value.builtin "object.__init_subclass__"), (R 77)]) #[]
def ho76 (P : Params) := M (T "tuple") O (Q #[] 0) #[]
def ho72 (P : Params) := M (T "frame") O Data.plain #[(Option.some (R 66)), (Option.some (R 3)), (Option.some (R 63)), O, (Option.some (S (Z "fieldprograms.answers") 194)), O, (Option.some (R 0))]
def ho80 (P : Params) := M (T "tuple") O (Q #[] 0) #[]
def ho70 (P : Params) := M V O (F #[(I 17 0), (I 4 0), (R 73)]) #[]
def ho78 (P : Params) := M (T "code") O (F #[(S (Z "__init__") 264), (S (Z "NoPosition.__init__") 265), (S (Z "/claim/cut.py") 266), (I 17 0), (I 1 0), (I 0 0), (I 0 0), (I 3 0), (R 68), (Value.bool Bool.true), (I 181 0), (R 69), V, (R 70), (R 71), (R 72), (I 268 0), (I 17 0), (S (Z "/claim/cut.py") 269)]) #[]
def ho74 (P : Params) := M V O (F #[]) #[]
def ho82 (P : Params) := M (T "type") O (Data.cls (ClassData.mk (Z "NoPosition") [(R 38)] [(R 77), (R 38), (T "Exception"), (T "BaseException"), (T "object")] 76 (Z "NoPosition") Bool.true [] [] Bool.false O Bool.false)) #[(Option.some (R 61)), O, (Option.some (S (Z "NoPosition") 252)), (Option.some (S (Z "NoPosition") 260)), (Option.some (Value.builtin "Exception.__new__")), (Option.some (Value.bool Bool.true))]
def ho66 (P : Params) := M (T "tuple") O (Q #[(R 38)] 0) #[]
def ho69 (P : Params) := M (T "tuple") O (Q #[] 0) #[]
def ho77 (P : Params) := M V O (Data.func (fd (Z "__init__") (Z "NoPosition.__init__") d_NoPosition_init 0 [] V V V V O V V 0)) #[]
def ho64 (P : Params) := M V O (F #[(I 1 0), (I 0 0), (R 20), (I 5 0), (I 0 0), (R 27), (I 9 0), (I 0 0), (R 47), (I 15 0), (I 0 0), (R 66)]) #[]
def ho73 (P : Params) := M (T "tuple") O (Q #[] 0) #[]
def ho81 (P : Params) := M (T "dict") O (Data.dict #[(ke P "__module__" 259 (S (Z "fieldprograms.answers") 194)), (ke P "__firstlineno__" 263 (I 15 262)), (ke P "__init__" 270 (R 74)), (ke P "__static_attributes__" 271 (R 75)), (ke P "__doc__" 272 V)] 2) #[]
def ho71 (P : Params) := M (T "code") O (F #[(S (Z "NoPosition") 254), (S (Z "NoPosition") 255), (S (Z "/claim/cut.py") 256), (I 15 0), (I 0 0), (I 0 0), (I 0 0), (I 0 0), (R 64), (Value.bool Bool.false), (I 181 0), (R 65), V, V, V, V, (I 257 0), (I 15 0), (S (Z "/claim/cut.py") 258)]) #[]
def ho79 (P : Params) := M (T "function") O (Data.func (fd (Z "__init__") (Z "NoPosition.__init__") d_NoPosition_init 3 [] V V V (S (Z "fieldprograms.answers") 194) O (R 73) V 0)) #[]
def ho65 (P : Params) := M (T "type") O (Data.cls (ClassData.mk (Z "OtherAnswer") [(T "Exception")] [(R 38), (T "Exception"), (T "BaseException"), (T "object")] 37 (Z "OtherAnswer") Bool.true [] [(R 58), (R 77)] Bool.false O Bool.false)) #[(Option.some (R 22)), O, (Option.some (S (Z "OtherAnswer") 196)), (Option.some (S (Z "OtherAnswer") 204)), (Option.some (Value.builtin "Exception.__new__")), (Option.some (Value.bool Bool.true))]
def ho75 (P : Params) := M (T "tuple") O (Q #[(S (Z "self") 267)] 0) #[]
def ho83 (P : Params) := M (T "super") O (F #[(R 77), (R 77), (R 77)]) #[]
def ho67 (P : Params) := M (T "builtin_function_or_method") O (F #[(Value.builtin "type.__prepare__"), (T "type")]) #[]
def ho85 (P : Params) := M (T "dict") O (Data.dict #[(ke P "__name__" 165 (S (Z "fieldprograms.classes") 298)), (ke P "__doc__" 166 V), (ke P "__package__" 167 V), (ke P "__loader__" 168 (Value.builtin "__main__.__loader__#opaque")), (ke P "__spec__" 169 V), (ke P "__annotations__" 170 (R 6)), (ke P "__builtins__" 171 (R 4)), (ke P "__file__" 173 (S (Z "/claim/cut.py") 172)), (ke P "__cached__" 174 V), (ke P "_wall" 193 (R 21)), (ke P "OtherAnswer" 224 (R 38)), (ke P "ProgramFault" 251 (R 58)), (ke P "NoPosition" 274 (R 77)), (ke P "NoField" 297 (R 96))] 14) #[]
def ho103 (P : Params) := M (T "dict") O (Data.dict #[(ke P "__module__" 282 (S (Z "fieldprograms.answers") 194)), (ke P "__firstlineno__" 286 (I 19 285)), (ke P "__init__" 293 (R 93)), (ke P "__static_attributes__" 294 (R 94)), (ke P "__doc__" 295 V)] 2) #[]
def ho95 (P : Params) := M (T "tuple") O (Q #[] 0) #[]
def ho91 (P : Params) := M (T "tuple") O (Q #[] 0) #[]
def ho99 (P : Params) := M V O (Data.func (fd (Z "__init__") (Z "NoField.__init__") d_NoField_init 0 [] V V V V O V V 0)) #[]
def ho105 (P : Params) := M (T "super") O (F #[(R 96), (R 96), (R 96)]) #[]
def ho89 (P : Params) := M (T "builtin_function_or_method") O (F #[(Value.builtin "type.__prepare__"), (T "type")]) #[]
def ho97 (P : Params) := M (T "tuple") O (Q #[(S (Z "self") 290)] 0) #[]
def ho93 (P : Params) := M (T "code") O (F #[(S (Z "NoField") 277), (S (Z "NoField") 278), (S (Z "/claim/cut.py") 279), (I 19 0), (I 0 0), (I 0 0), (I 0 0), (I 0 0), (R 83), (Value.bool Bool.false), (I 181 0), (R 84), V, V, V, V, (I 280 0), (I 19 0), (S (Z "/claim/cut.py") 281)]) #[]
def ho101 (P : Params) := M (T "function") O (Data.func (fd (Z "__init__") (Z "NoField.__init__") d_NoField_init 3 [] V V V (S (Z "fieldprograms.answers") 194) O (R 92) V 0)) #[]
def ho104 (P : Params) := M (T "type") O (Data.cls (ClassData.mk (Z "NoField") [(R 38)] [(R 96), (R 38), (T "Exception"), (T "BaseException"), (T "object")] 95 (Z "NoField") Bool.true [] [] Bool.false O Bool.false)) #[(Option.some (R 80)), O, (Option.some (S (Z "NoField") 275)), (Option.some (S (Z "NoField") 283)), (Option.some (Value.builtin "Exception.__new__")), (Option.some (Value.bool Bool.true))]
def ho88 (P : Params) := M (T "tuple") O (Q #[(R 38)] 0) #[]
def ho96 (P : Params) := M V O (F #[]) #[]
def ho86 (P : Params) := M V O (F #[(I 1 0), (I 0 0), (R 20), (I 5 0), (I 0 0), (R 27), (I 9 0), (I 0 0), (R 47), (I 15 0), (I 0 0), (R 66), (I 19 0), (I 0 0), (R 85)]) #[]
def ho92 (P : Params) := M V O (F #[(I 21 0), (I 4 0), (R 92)]) #[]
def ho100 (P : Params) := M (T "code") O (F #[(S (Z "__init__") 287), (S (Z "NoField.__init__") 288), (S (Z "/claim/cut.py") 289), (I 21 0), (I 1 0), (I 0 0), (I 0 0), (I 3 0), (R 87), (Value.bool Bool.true), (I 181 0), (R 88), V, (R 89), (R 90), (R 91), (I 291 0), (I 21 0), (S (Z "/claim/cut.py") 292)]) #[]
def ho106 (P : Params) := M (T "builtin_function_or_method") O (F #[(Value.builtin "object.__init_subclass__"), (R 96)]) #[]
def ho90 (P : Params) := M (T "dict") O (Data.dict #[(ke P "__module__" 282 (S (Z "fieldprograms.answers") 194)), (ke P "__qualname__" 284 (S (Z "NoField") 283)), (ke P "__firstlineno__" 286 (I 19 285)), (ke P "__init__" 293 (R 93)), (ke P "__static_attributes__" 294 (R 94))] 5) #[]
def ho98 (P : Params) := M (T "tuple") O (Q #[] 0) #[]
def ho87 (P : Params) := M (T "type") O (Data.cls (ClassData.mk (Z "OtherAnswer") [(T "Exception")] [(R 38), (T "Exception"), (T "BaseException"), (T "object")] 37 (Z "OtherAnswer") Bool.true [] [(R 58), (R 77), (R 96)] Bool.false O Bool.false)) #[(Option.some (R 22)), O, (Option.some (S (Z "OtherAnswer") 196)), (Option.some (S (Z "OtherAnswer") 204)), (Option.some (Value.builtin "Exception.__new__")), (Option.some (Value.bool Bool.true))]
def ho94 (P : Params) := M (T "frame") O Data.plain #[(Option.some (R 85)), (Option.some (R 3)), (Option.some (R 82)), O, (Option.some (S (Z "fieldprograms.answers") 194)), O, (Option.some (R 0))]
def ho102 (P : Params) := M (T "tuple") O (Q #[] 0) #[]
def ho107 (P : Params) := M (T "dict") O (Data.dict (List.toArray ((ke P "__name__" 165 (S (Z "fieldprograms.records") 393)) :: (ke P "__doc__" 166 V) :: (ke P "__package__" 167 V) :: (ke P "__loader__" 168 (Value.builtin "__main__.__loader__#opaque")) :: (ke P "__spec__" 169 V) :: (ke P "__annotations__" 170 (R 6)) :: (ke P "__builtins__" 171 (R 4)) :: (ke P "__file__" 173 (S (Z "/claim/cut.py") 172)) :: (ke P "__cached__" 174 V) :: (ke P "_wall" 193 (R 21)) :: (ke P "OtherAnswer" 224 (R 38)) :: (ke P "ProgramFault" 251 (R 58)) :: (ke P "NoPosition" 274 (R 77)) :: (ke P "NoField" 297 (R 96)) :: (ke P "CLASS_RANGES" 332 (R 99)) :: (ke P "EMPTY_CLASS" 333 (R 116)) :: (ke P "both_empty" 341 (R 123)) :: (ke P "holds" 350 (R 130)) :: (ke P "holds_before" 359 (R 137)) :: (ke P "holds_behind" 368 (R 144)) :: (ke P "begins" 377 (R 151)) :: (ke P "ends" 386 (R 158)) :: (ke P "border_places" 392 (R 163)) :: (ke P "MOST_FIELD_BYTES" 396 (I 40 395)) :: [])) 24) #[]
def ho137 (P : Params) := M (T "tuple") O (Q #[] 0) #[]
def ho169 (P : Params) := M (T "tuple") O (Q #[] 0) #[]
def ho153 (P : Params) := M (T "code") O (F #[(S (Z "holds_behind") 360), (S (Z "holds_behind") 361), (S (Z "/claim/cut.py") 362), (I 35 0), (I 3 0), (I 0 0), (I 0 0), (I 3 0), (R 138), (Value.bool Bool.true), (I 181 0), (R 139), V, (R 140), (R 141), (R 142), (I 366 0), (I 35 0), (S (Z "/claim/cut.py") 367)]) #[]
def ho121 (P : Params) := M (T "tuple") O (Q #[(I 97 319), (I 122 320)] 0) #[]
def ho145 (P : Params) := M V O (Data.func (fd (Z "holds_before") (Z "holds_before") d_holds_before 0 [] V V V V O V V 0)) #[]
def ho113 (P : Params) := M (T "tuple") O (Q #[(R 102)] 0) #[]
def ho161 (P : Params) := M (T "function") O (Data.func (fd (Z "begins") (Z "begins") d_begins 3 [] V V V (S (Z "fieldprograms.classes") 298) O (R 150) V 0)) #[]
def ho129 (P : Params) := M (T "tuple") O (Q #[(S (Z "left") 337), (S (Z "right") 338)] 0) #[]
def ho141 (P : Params) := M (T "tuple") O (Q #[] 0) #[]
def ho109 (P : Params) := M (T "dict") O (Data.dict #[(ke P "D" 300 (R 101)), (ke P "L" 303 (R 103)), (ke P "U" 306 (R 105)), (ke P "A" 309 (R 108)), (ke P "N" 314 (R 112)), (ke P "B" 321 (R 114)), (ke P "." 324 (R 115))] 7) #[]
def ho173 (P : Params) := M (T "function") O (Data.func (fd (Z "border_places") (Z "border_places") d_border_places 3 [] V V V (S (Z "fieldprograms.classes") 298) O (R 162) V 0)) #[]
def ho157 (P : Params) := M (T "tuple") O (Q #[(S (Z "ranges") 372), (S (Z "text") 373), (S (Z "place") 374)] 0) #[]
def ho125 (P : Params) := M (T "tuple") O (Q #[] 0) #[]
def ho149 (P : Params) := M V O (F #[]) #[]
def ho117 (P : Params) := M (T "tuple") O (Q #[(I 97 312), (I 122 313)] 0) #[]
def ho165 (P : Params) := M (T "tuple") O (Q #[] 0) #[]
def ho133 (P : Params) := M (T "function") O (Data.func (fd (Z "both_empty") (Z "both_empty") d_both_empty 3 [] V V V (S (Z "fieldprograms.classes") 298) O (R 122) V 0)) #[]
def ho139 (P : Params) := M (T "code") O (F #[(S (Z "holds") 342), (S (Z "holds") 343), (S (Z "/claim/cut.py") 344), (I 28 0), (I 2 0), (I 0 0), (I 0 0), (I 3 0), (R 124), (Value.bool Bool.true), (I 181 0), (R 125), V, (R 126), (R 127), (R 128), (I 348 0), (I 28 0), (S (Z "/claim/cut.py") 349)]) #[]
def ho171 (P : Params) := M V O (Data.func (fd (Z "border_places") (Z "border_places") d_border_places 0 [] V V V V O V V 0)) #[]
def ho155 (P : Params) := M (T "tuple") O (Q #[] 0) #[]
def ho123 (P : Params) := M (T "tuple") O (Q #[(I 32 322), (I 32 323)] 0) #[]
def ho147 (P : Params) := M (T "function") O (Data.func (fd (Z "holds_before") (Z "holds_before") d_holds_before 3 [] V V V (S (Z "fieldprograms.classes") 298) O (R 136) V 0)) #[]
def ho115 (P : Params) := M (T "tuple") O (Q #[(R 104)] 0) #[]
def ho163 (P : Params) := M V O (F #[]) #[]
def ho131 (P : Params) := M V O (Data.func (fd (Z "both_empty") (Z "both_empty") d_both_empty 0 [] V V V V O V V 0)) #[]
def ho143 (P : Params) := M (T "tuple") O (Q #[(S (Z "ranges") 354), (S (Z "text") 355), (S (Z "place") 356)] 0) #[]
def ho111 (P : Params) := M (T "tuple") O (Q #[(R 100)] 0) #[]
def ho159 (P : Params) := M V O (Data.func (fd (Z "begins") (Z "begins") d_begins 0 [] V V V V O V V 0)) #[]
def ho127 (P : Params) := M (T "tuple") O (Q #[] 0) #[]
def ho151 (P : Params) := M (T "tuple") O (Q #[] 0) #[]
def ho119 (P : Params) := M (T "tuple") O (Q #[(I 48 315), (I 57 316)] 0) #[]
def ho167 (P : Params) := M (T "code") O (F #[(S (Z "ends") 378), (S (Z "ends") 379), (S (Z "/claim/cut.py") 380), (I 41 0), (I 3 0), (I 0 0), (I 0 0), (I 3 0), (R 152), (Value.bool Bool.true), (I 181 0), (R 153), V, (R 154), (R 155), (R 156), (I 384 0), (I 41 0), (S (Z "/claim/cut.py") 385)]) #[]
def ho135 (P : Params) := M V O (F #[]) #[]
def ho138 (P : Params) := M V O (Data.func (fd (Z "holds") (Z "holds") d_holds 0 [] V V V V O V V 0)) #[]
def ho170 (P : Params) := M V O (F #[]) #[]
def ho154 (P : Params) := M (T "function") O (Data.func (fd (Z "holds_behind") (Z "holds_behind") d_holds_behind 3 [] V V V (S (Z "fieldprograms.classes") 298) O (R 143) V 0)) #[]
def ho122 (P : Params) := M (T "tuple") O (Q #[(R 109), (R 110), (R 111)] 0) #[]
def ho146 (P : Params) := M (T "code") O (F #[(S (Z "holds_before") 351), (S (Z "holds_before") 352), (S (Z "/claim/cut.py") 353), (I 33 0), (I 3 0), (I 0 0), (I 0 0), (I 3 0), (R 131), (Value.bool Bool.true), (I 181 0), (R 132), V, (R 133), (R 134), (R 135), (I 357 0), (I 33 0), (S (Z "/claim/cut.py") 358)]) #[]
def ho114 (P : Params) := M (T "tuple") O (Q #[(I 65 307), (I 90 308)] 0) #[]
def ho162 (P : Params) := M (T "tuple") O (Q #[] 0) #[]
def ho130 (P : Params) := M (T "tuple") O (Q #[] 0) #[]
def ho108 (P : Params) := M V O (F (List.toArray ((I 1 0) :: (I 0 0) :: (R 20) :: (I 5 0) :: (I 0 0) :: (R 27) :: (I 9 0) :: (I 0 0) :: (R 47) :: (I 15 0) :: (I 0 0) :: (R 66) :: (I 19 0) :: (I 0 0) :: (R 85) :: (I 26 0) :: (I 0 0) :: (R 122) :: (I 28 0) :: (I 0 0) :: (R 129) :: (I 33 0) :: (I 0 0) :: (R 136) :: (I 35 0) :: (I 0 0) :: (R 143) :: (I 37 0) :: (I 0 0) :: (R 150) :: (I 41 0) :: (I 0 0) :: (R 157) :: (I 45 0) :: (I 0 0) :: (R 162) :: []))) #[]
def ho142 (P : Params) := M V O (F #[]) #[]
def ho110 (P : Params) := M (T "tuple") O (Q #[(I 48 301), (I 57 302)] 0) #[]
def ho158 (P : Params) := M (T "tuple") O (Q #[] 0) #[]
def ho126 (P : Params) := M (T "tuple") O (Q #[] 0) #[]
def ho150 (P : Params) := M (T "tuple") O (Q #[(S (Z "ranges") 363), (S (Z "text") 364), (S (Z "place") 365)] 0) #[]
def ho118 (P : Params) := M (T "tuple") O (Q #[(R 106), (R 107)] 0) #[]
def ho166 (P : Params) := M V O (Data.func (fd (Z "ends") (Z "ends") d_ends 0 [] V V V V O V V 0)) #[]
def ho134 (P : Params) := M (T "tuple") O (Q #[] 0) #[]
def ho140 (P : Params) := M (T "function") O (Data.func (fd (Z "holds") (Z "holds") d_holds 3 [] V V V (S (Z "fieldprograms.classes") 298) O (R 129) V 0)) #[]
def ho172 (P : Params) := M (T "code") O (F #[(S (Z "border_places") 387), (S (Z "border_places") 388), (S (Z "/claim/cut.py") 389), (I 45 0), (I 3 0), (I 0 0), (I 0 0), (I 3 0), (R 159), (Value.bool Bool.true), (I 181 0), (R 160), V, V, V, (R 161), (I 390 0), (I 45 0), (S (Z "/claim/cut.py") 391)]) #[]
def ho156 (P : Params) := M V O (F #[]) #[]
def ho124 (P : Params) := M (T "tuple") O (Q #[(R 113)] 0) #[]
def ho148 (P : Params) := M (T "tuple") O (Q #[] 0) #[]
def ho116 (P : Params) := M (T "tuple") O (Q #[(I 65 310), (I 90 311)] 0) #[]
def ho164 (P : Params) := M (T "tuple") O (Q #[(S (Z "ranges") 381), (S (Z "text") 382), (S (Z "place") 383)] 0) #[]
def ho132 (P : Params) := M (T "code") O (F #[(S (Z "both_empty") 334), (S (Z "both_empty") 335), (S (Z "/claim/cut.py") 336), (I 26 0), (I 2 0), (I 0 0), (I 0 0), (I 3 0), (R 117), (Value.bool Bool.true), (I 181 0), (R 118), V, (R 119), (R 120), (R 121), (I 339 0), (I 26 0), (S (Z "/claim/cut.py") 340)]) #[]
def ho144 (P : Params) := M (T "tuple") O (Q #[] 0) #[]
def ho112 (P : Params) := M (T "tuple") O (Q #[(I 97 304), (I 122 305)] 0) #[]
def ho160 (P : Params) := M (T "code") O (F #[(S (Z "begins") 369), (S (Z "begins") 370), (S (Z "/claim/cut.py") 371), (I 37 0), (I 3 0), (I 0 0), (I 0 0), (I 3 0), (R 145), (Value.bool Bool.true), (I 181 0), (R 146), V, (R 147), (R 148), (R 149), (I 375 0), (I 37 0), (S (Z "/claim/cut.py") 376)]) #[]
def ho128 (P : Params) := M V O (F #[]) #[]
def ho152 (P : Params) := M V O (Data.func (fd (Z "holds_behind") (Z "holds_behind") d_holds_behind 0 [] V V V V O V V 0)) #[]
def ho120 (P : Params) := M (T "tuple") O (Q #[(I 65 317), (I 90 318)] 0) #[]
def ho168 (P : Params) := M (T "function") O (Data.func (fd (Z "ends") (Z "ends") d_ends 3 [] V V V (S (Z "fieldprograms.classes") 298) O (R 157) V 0)) #[]
def ho136 (P : Params) := M (T "tuple") O (Q #[(S (Z "ranges") 345), (S (Z "byte") 346), (S (Z "low_high") 347)] 0) #[]
def ho176 (P : Params) := M (T "dict") O (Data.dict (List.toArray ((ke P "__name__" 165 (S (Z "fieldprograms.cursor") 408)) :: (ke P "__doc__" 166 V) :: (ke P "__package__" 167 V) :: (ke P "__loader__" 168 (Value.builtin "__main__.__loader__#opaque")) :: (ke P "__spec__" 169 V) :: (ke P "__annotations__" 170 (R 6)) :: (ke P "__builtins__" 171 (R 4)) :: (ke P "__file__" 173 (S (Z "/claim/cut.py") 172)) :: (ke P "__cached__" 174 V) :: (ke P "_wall" 193 (R 21)) :: (ke P "OtherAnswer" 224 (R 38)) :: (ke P "ProgramFault" 251 (R 58)) :: (ke P "NoPosition" 274 (R 77)) :: (ke P "NoField" 297 (R 96)) :: (ke P "CLASS_RANGES" 332 (R 99)) :: (ke P "EMPTY_CLASS" 333 (R 116)) :: (ke P "both_empty" 341 (R 123)) :: (ke P "holds" 350 (R 130)) :: (ke P "holds_before" 359 (R 137)) :: (ke P "holds_behind" 368 (R 144)) :: (ke P "begins" 377 (R 151)) :: (ke P "ends" 386 (R 158)) :: (ke P "border_places" 392 (R 163)) :: (ke P "MOST_FIELD_BYTES" 396 (I 40 395)) :: (ke P "FIELD_BYTES" 399 (R 165)) :: (ke P "check_field" 407 (R 172)) :: (ke P "NO_BYTE" 412 (I (-(1 : Int)) 411)) :: [])) 27) #[]
def ho181 (P : Params) := M V O (F #[]) #[]
def ho185 (P : Params) := M (T "code") O (F #[(S (Z "check_field") 400), (S (Z "check_field") 401), (S (Z "/claim/cut.py") 402), (I 50 0), (I 1 0), (I 0 0), (I 0 0), (I 3 0), (R 166), (Value.bool Bool.true), (I 181 0), (R 167), V, (R 168), (R 169), (R 170), (I 405 0), (I 50 0), (S (Z "/claim/cut.py") 406)]) #[]
def ho183 (P : Params) := M (T "tuple") O (Q #[] 0) #[]
def ho179 (P : Params) := M (T "tuple") O (Q #[(R 164)] 0) #[]
def ho182 (P : Params) := M (T "tuple") O (Q #[(S (Z "text") 403), (S (Z "byte") 404)] 0) #[]
def ho177 (P : Params) := M V O (F (List.toArray ((I 1 0) :: (I 0 0) :: (R 20) :: (I 5 0) :: (I 0 0) :: (R 27) :: (I 9 0) :: (I 0 0) :: (R 47) :: (I 15 0) :: (I 0 0) :: (R 66) :: (I 19 0) :: (I 0 0) :: (R 85) :: (I 26 0) :: (I 0 0) :: (R 122) :: (I 28 0) :: (I 0 0) :: (R 129) :: (I 33 0) :: (I 0 0) :: (R 136) :: (I 35 0) :: (I 0 0) :: (R 143) :: (I 37 0) :: (I 0 0) :: (R 150) :: (I 41 0) :: (I 0 0) :: (R 157) :: (I 45 0) :: (I 0 0) :: (R 162) :: (I 50 0) :: (I 0 0) :: (R 171) :: []))) #[]
def ho178 (P : Params) := M (T "tuple") O (Q #[(I 32 397), (I 126 398)] 0) #[]
def ho186 (P : Params) := M (T "function") O (Data.func (fd (Z "check_field") (Z "check_field") d_check_field 3 [] V V V (S (Z "fieldprograms.records") 393) O (R 171) V 0)) #[]
def ho184 (P : Params) := M V O (Data.func (fd (Z "check_field") (Z "check_field") d_check_field 0 [] V V V V O V V 0)) #[]
def ho180 (P : Params) := M (T "tuple") O (Q #[] 0) #[]
def ho187 (P : Params) := M (T "dict") O (Data.dict (List.toArray ((ke P "__name__" 165 (S (Z "fieldprograms.positions") 481)) :: (ke P "__doc__" 166 V) :: (ke P "__package__" 167 V) :: (ke P "__loader__" 168 (Value.builtin "__main__.__loader__#opaque")) :: (ke P "__spec__" 169 V) :: (ke P "__annotations__" 170 (R 6)) :: (ke P "__builtins__" 171 (R 4)) :: (ke P "__file__" 173 (S (Z "/claim/cut.py") 172)) :: (ke P "__cached__" 174 V) :: (ke P "_wall" 193 (R 21)) :: (ke P "OtherAnswer" 224 (R 38)) :: (ke P "ProgramFault" 251 (R 58)) :: (ke P "NoPosition" 274 (R 77)) :: (ke P "NoField" 297 (R 96)) :: (ke P "CLASS_RANGES" 332 (R 99)) :: (ke P "EMPTY_CLASS" 333 (R 116)) :: (ke P "both_empty" 341 (R 123)) :: (ke P "holds" 350 (R 130)) :: (ke P "holds_before" 359 (R 137)) :: (ke P "holds_behind" 368 (R 144)) :: (ke P "begins" 377 (R 151)) :: (ke P "ends" 386 (R 158)) :: (ke P "border_places" 392 (R 163)) :: (ke P "MOST_FIELD_BYTES" 396 (I 40 395)) :: (ke P "FIELD_BYTES" 399 (R 165)) :: (ke P "check_field" 407 (R 172)) :: (ke P "NO_BYTE" 412 (I (-(1 : Int)) 411)) :: (ke P "Cursor" 480 (R 224)) :: [])) 28) #[]
def ho207 (P : Params) := M V O (Data.func (fd (Z "at_end") (Z "Cursor.at_end") d_Cursor_at_end 0 [] V V V V O V V 0)) #[]
def ho239 (P : Params) := M (T "dict") O (Data.dict #[(ke P "__module__" 420 (S (Z "fieldprograms.cursor") 408)), (ke P "__firstlineno__" 424 (I 58 423)), (ke P "__init__" 432 (R 186)), (ke P "at_end" 439 (R 193)), (ke P "peek" 446 (R 200)), (ke P "sees" 454 (R 207)), (ke P "take" 462 (R 214)), (ke P "take_sign" 470 (R 221)), (ke P "__static_attributes__" 473 (R 222)), (ke P "__dict__" 475 (R 225)), (ke P "__weakref__" 477 (R 226)), (ke P "__doc__" 478 V)] 4) #[]
def ho223 (P : Params) := M (T "function") O (Data.func (fd (Z "sees") (Z "Cursor.sees") d_Cursor_sees 3 [] V V V (S (Z "fieldprograms.cursor") 408) O (R 206) V 0)) #[]
def ho191 (P : Params) := M (T "dict") O (Data.dict #[(ke P "__module__" 420 (S (Z "fieldprograms.cursor") 408)), (ke P "__qualname__" 422 (S (Z "Cursor") 421)), (ke P "__firstlineno__" 424 (I 58 423)), (ke P "__init__" 432 (R 186)), (ke P "at_end" 439 (R 193)), (ke P "peek" 446 (R 200)), (ke P "sees" 454 (R 207)), (ke P "take" 462 (R 214)), (ke P "take_sign" 470 (R 221)), (ke P "__static_attributes__" 473 (R 222))] 10) #[]
def ho215 (P : Params) := M (T "code") O (F #[(S (Z "peek") 440), (S (Z "Cursor.peek") 441), (S (Z "/claim/cut.py") 442), (I 67 0), (I 1 0), (I 0 0), (I 0 0), (I 3 0), (R 194), (Value.bool Bool.true), (I 181 0), (R 195), V, (R 196), (R 197), (R 198), (I 444 0), (I 67 0), (S (Z "/claim/cut.py") 445)]) #[]
def ho231 (P : Params) := M (T "tuple") O (Q #[] 0) #[]
def ho199 (P : Params) := M (T "tuple") O (Q #[] 0) #[]
def ho211 (P : Params) := M V O (F #[]) #[]
def ho243 (P : Params) := M (T "super") O (F #[(R 224), (R 224), (R 224)]) #[]
def ho227 (P : Params) := M (T "tuple") O (Q #[] 0) #[]
def ho195 (P : Params) := M (T "frame") O Data.plain #[(Option.some (R 178)), (Option.some (R 3)), (Option.some (R 175)), O, (Option.some (S (Z "fieldprograms.cursor") 408)), O, (Option.some (R 0))]
def ho219 (P : Params) := M (T "tuple") O (Q #[(S (Z "self") 450), (S (Z "sign") 451)] 0) #[]
def ho235 (P : Params) := M V O (Data.func (fd (Z "take_sign") (Z "Cursor.take_sign") d_Cursor_take_sign 0 [] V V V V O V V 0)) #[]
def ho203 (P : Params) := M (T "tuple") O (Q #[] 0) #[]
def ho209 (P : Params) := M (T "function") O (Data.func (fd (Z "at_end") (Z "Cursor.at_end") d_Cursor_at_end 3 [] V V V (S (Z "fieldprograms.cursor") 408) O (R 192) V 0)) #[]
def ho241 (P : Params) := M (T "getset_descriptor") O (F #[(S (Z "__dict__") 474), (R 224), (Value.builtin "function.__dict__"), (Value.builtin "function.__dict__#set")]) #[]
def ho225 (P : Params) := M V O (F #[]) #[]
def ho193 (P : Params) := M V O (F #[(I 60 0), (I 4 0), (R 185), (I 64 0), (I 4 0), (R 192), (I 67 0), (I 4 0), (R 199), (I 72 0), (I 4 0), (R 206), (I 75 0), (I 4 0), (R 213), (I 80 0), (I 4 0), (R 220)]) #[]
def ho217 (P : Params) := M (T "tuple") O (Q #[] 0) #[]
def ho233 (P : Params) := M (T "tuple") O (Q #[(S (Z "self") 466), (S (Z "sign") 467)] 0) #[]
def ho201 (P : Params) := M (T "code") O (F #[(S (Z "__init__") 425), (S (Z "Cursor.__init__") 426), (S (Z "/claim/cut.py") 427), (I 60 0), (I 2 0), (I 0 0), (I 0 0), (I 3 0), (R 180), (Value.bool Bool.true), (I 181 0), (R 181), V, (R 182), (R 183), (R 184), (I 430 0), (I 60 0), (S (Z "/claim/cut.py") 431)]) #[]
def ho213 (P : Params) := M (T "tuple") O (Q #[] 0) #[]
def ho229 (P : Params) := M (T "code") O (F #[(S (Z "take") 455), (S (Z "Cursor.take") 456), (S (Z "/claim/cut.py") 457), (I 75 0), (I 1 0), (I 0 0), (I 0 0), (I 3 0), (R 208), (Value.bool Bool.true), (I 181 0), (R 209), V, (R 210), (R 211), (R 212), (I 460 0), (I 75 0), (S (Z "/claim/cut.py") 461)]) #[]
def ho197 (P : Params) := M V O (F #[]) #[]
def ho221 (P : Params) := M V O (Data.func (fd (Z "sees") (Z "Cursor.sees") d_Cursor_sees 0 [] V V V V O V V 0)) #[]
def ho189 (P : Params) := M (T "tuple") O (Q #[] 0) #[]
def ho237 (P : Params) := M (T "function") O (Data.func (fd (Z "take_sign") (Z "Cursor.take_sign") d_Cursor_take_sign 3 [] V V V (S (Z "fieldprograms.cursor") 408) O (R 220) V 0)) #[]
def ho205 (P : Params) := M (T "tuple") O (Q #[(S (Z "self") 436)] 0) #[]
def ho208 (P : Params) := M (T "code") O (F #[(S (Z "at_end") 433), (S (Z "Cursor.at_end") 434), (S (Z "/claim/cut.py") 435), (I 64 0), (I 1 0), (I 0 0), (I 0 0), (I 3 0), (R 187), (Value.bool Bool.true), (I 181 0), (R 188), V, (R 189), (R 190), (R 191), (I 437 0), (I 64 0), (S (Z "/claim/cut.py") 438)]) #[]
def ho240 (P : Params) := M (T "type") O (Data.cls (ClassData.mk (Z "Cursor") [(T "object")] [(R 224), (T "object")] 223 (Z "Cursor") Bool.true [] [] Bool.false O Bool.false)) #[O, O, (Option.some (S (Z "Cursor") 413)), (Option.some (S (Z "Cursor") 421)), (Option.some (Value.builtin "object.__new__")), (Option.some (Value.bool Bool.true))]
def ho224 (P : Params) := M (T "tuple") O (Q #[] 0) #[]
def ho192 (P : Params) := M (T "tuple") O (Q #[] 0) #[]
def ho216 (P : Params) := M (T "function") O (Data.func (fd (Z "peek") (Z "Cursor.peek") d_Cursor_peek 3 [] V V V (S (Z "fieldprograms.cursor") 408) O (R 199) V 0)) #[]
def ho232 (P : Params) := M V O (F #[]) #[]
def ho200 (P : Params) := M V O (Data.func (fd (Z "__init__") (Z "Cursor.__init__") d_Cursor_init 0 [] V V V V O V V 0)) #[]
def ho188 (P : Params) := M V O (F (List.toArray ((I 1 0) :: (I 0 0) :: (R 20) :: (I 5 0) :: (I 0 0) :: (R 27) :: (I 9 0) :: (I 0 0) :: (R 47) :: (I 15 0) :: (I 0 0) :: (R 66) :: (I 19 0) :: (I 0 0) :: (R 85) :: (I 26 0) :: (I 0 0) :: (R 122) :: (I 28 0) :: (I 0 0) :: (R 129) :: (I 33 0) :: (I 0 0) :: (R 136) :: (I 35 0) :: (I 0 0) :: (R 143) :: (I 37 0) :: (I 0 0) :: (R 150) :: (I 41 0) :: (I 0 0) :: (R 157) :: (I 45 0) :: (I 0 0) :: (R 162) :: (I 50 0) :: (I 0 0) :: (R 171) :: (I 58 0) :: (I 0 0) :: (R 178) :: []))) #[]
def ho212 (P : Params) := M (T "tuple") O (Q #[(S (Z "self") 443)] 0) #[]
def ho244 (P : Params) := M (T "builtin_function_or_method") O (F #[(Value.builtin "object.__init_subclass__"), (R 224)]) #[]
def ho228 (P : Params) := M V O (Data.func (fd (Z "take") (Z "Cursor.take") d_Cursor_take 0 [] V V V V O V V 0)) #[]
def ho196 (P : Params) := M (T "tuple") O (Q #[] 0) #[]
def ho220 (P : Params) := M (T "tuple") O (Q #[] 0) #[]
def ho236 (P : Params) := M (T "code") O (F #[(S (Z "take_sign") 463), (S (Z "Cursor.take_sign") 464), (S (Z "/claim/cut.py") 465), (I 80 0), (I 2 0), (I 0 0), (I 0 0), (I 3 0), (R 215), (Value.bool Bool.true), (I 181 0), (R 216), V, (R 217), (R 218), (R 219), (I 468 0), (I 80 0), (S (Z "/claim/cut.py") 469)]) #[]
def ho204 (P : Params) := M V O (F #[]) #[]
def ho210 (P : Params) := M (T "tuple") O (Q #[] 0) #[]
def ho242 (P : Params) := M (T "getset_descriptor") O (F #[(S (Z "__weakref__") 476), (R 224), (Value.builtin "ExceptionGroup.__weakref__"), V]) #[]
def ho226 (P : Params) := M (T "tuple") O (Q #[(S (Z "self") 458), (S (Z "byte") 459)] 0) #[]
def ho194 (P : Params) := M (T "code") O (F #[(S (Z "Cursor") 415), (S (Z "Cursor") 416), (S (Z "/claim/cut.py") 417), (I 58 0), (I 0 0), (I 0 0), (I 0 0), (I 0 0), (R 176), (Value.bool Bool.false), (I 181 0), (R 177), V, V, V, V, (I 418 0), (I 58 0), (S (Z "/claim/cut.py") 419)]) #[]
def ho218 (P : Params) := M V O (F #[]) #[]
def ho234 (P : Params) := M (T "tuple") O (Q #[] 0) #[]
def ho202 (P : Params) := M (T "function") O (Data.func (fd (Z "__init__") (Z "Cursor.__init__") d_Cursor_init 3 [] V V V (S (Z "fieldprograms.cursor") 408) O (R 185) V 0)) #[]
def ho214 (P : Params) := M V O (Data.func (fd (Z "peek") (Z "Cursor.peek") d_Cursor_peek 0 [] V V V V O V V 0)) #[]
def ho230 (P : Params) := M (T "function") O (Data.func (fd (Z "take") (Z "Cursor.take") d_Cursor_take 3 [] V V V (S (Z "fieldprograms.cursor") 408) O (R 213) V 0)) #[]
def ho198 (P : Params) := M (T "tuple") O (Q #[(S (Z "self") 428), (S (Z "text") 429)] 0) #[]
def ho222 (P : Params) := M (T "code") O (F #[(S (Z "sees") 447), (S (Z "Cursor.sees") 448), (S (Z "/claim/cut.py") 449), (I 72 0), (I 2 0), (I 0 0), (I 0 0), (I 3 0), (R 201), (Value.bool Bool.true), (I 181 0), (R 202), V, (R 203), (R 204), (R 205), (I 452 0), (I 72 0), (S (Z "/claim/cut.py") 453)]) #[]
def ho190 (P : Params) := M (T "builtin_function_or_method") O (F #[(Value.builtin "type.__prepare__"), (T "type")]) #[]
def ho238 (P : Params) := M (T "tuple") O (Q #[(S (Z "place") 471), (S (Z "text") 472)] 0) #[]
def ho206 (P : Params) := M (T "tuple") O (Q #[] 0) #[]
def ho245 (P : Params) := M (T "dict") O (Data.dict (List.toArray ((ke P "__name__" 165 (S (Z "fieldprograms.positions") 481)) :: (ke P "__doc__" 166 V) :: (ke P "__package__" 167 V) :: (ke P "__loader__" 168 (Value.builtin "__main__.__loader__#opaque")) :: (ke P "__spec__" 169 V) :: (ke P "__annotations__" 170 (R 6)) :: (ke P "__builtins__" 171 (R 4)) :: (ke P "__file__" 173 (S (Z "/claim/cut.py") 172)) :: (ke P "__cached__" 174 V) :: (ke P "_wall" 193 (R 21)) :: (ke P "OtherAnswer" 224 (R 38)) :: (ke P "ProgramFault" 251 (R 58)) :: (ke P "NoPosition" 274 (R 77)) :: (ke P "NoField" 297 (R 96)) :: (ke P "CLASS_RANGES" 332 (R 99)) :: (ke P "EMPTY_CLASS" 333 (R 116)) :: (ke P "both_empty" 341 (R 123)) :: (ke P "holds" 350 (R 130)) :: (ke P "holds_before" 359 (R 137)) :: (ke P "holds_behind" 368 (R 144)) :: (ke P "begins" 377 (R 151)) :: (ke P "ends" 386 (R 158)) :: (ke P "border_places" 392 (R 163)) :: (ke P "MOST_FIELD_BYTES" 396 (I 40 395)) :: (ke P "FIELD_BYTES" 399 (R 165)) :: (ke P "check_field" 407 (R 172)) :: (ke P "NO_BYTE" 412 (I (-(1 : Int)) 411)) :: (ke P "Cursor" 480 (R 224)) :: (ke P "EndPosition" 535 (R 266)) :: [])) 29) #[]
def ho273 (P : Params) := M (T "code") O (F #[(S (Z "cost") 512), (S (Z "EndPosition.cost") 513), (S (Z "/claim/cut.py") 514), (I 98 0), (I 1 0), (I 0 0), (I 0 0), (I 3 0), (R 250), (Value.bool Bool.true), (I 181 0), (R 251), V, (R 252), (R 253), (R 254), (I 516 0), (I 98 0), (S (Z "/claim/cut.py") 517)]) #[]
def ho257 (P : Params) := M (T "tuple") O (Q #[] 0) #[]
def ho281 (P : Params) := M (T "function") O (Data.func (fd (Z "written") (Z "EndPosition.written") d_EndPosition_written 3 [] V V V (S (Z "fieldprograms.positions") 481) O (R 262) V 0)) #[]
def ho249 (P : Params) := M (T "dict") O (Data.dict #[(ke P "__module__" 490 (S (Z "fieldprograms.positions") 481)), (ke P "__qualname__" 492 (S (Z "EndPosition") 491)), (ke P "__firstlineno__" 494 (I 85 493)), (ke P "__init__" 503 (R 242)), (ke P "place_in" 511 (R 249)), (ke P "cost" 518 (R 256)), (ke P "written" 525 (R 263)), (ke P "__static_attributes__" 528 (R 264))] 8) #[]
def ho265 (P : Params) := M V O (Data.func (fd (Z "place_in") (Z "EndPosition.place_in") d_EndPosition_place_in 0 [] V V V V O V V 0)) #[]
def ho277 (P : Params) := M (T "tuple") O (Q #[(S (Z "self") 522)] 0) #[]
def ho261 (P : Params) := M (T "tuple") O (Q #[] 0) #[]
def ho285 (P : Params) := M (T "getset_descriptor") O (F #[(S (Z "__dict__") 529), (R 266), (Value.builtin "function.__dict__"), (Value.builtin "function.__dict__#set")]) #[]
def ho253 (P : Params) := M (T "frame") O Data.plain #[(Option.some (R 234)), (Option.some (R 3)), (Option.some (R 231)), O, (Option.some (S (Z "fieldprograms.positions") 481)), O, (Option.some (R 0))]
def ho269 (P : Params) := M V O (F #[]) #[]
def ho275 (P : Params) := M (T "tuple") O (Q #[] 0) #[]
def ho259 (P : Params) := M (T "code") O (F #[(S (Z "__init__") 495), (S (Z "EndPosition.__init__") 496), (S (Z "/claim/cut.py") 497), (I 87 0), (I 3 0), (I 0 0), (I 0 0), (I 3 0), (R 236), (Value.bool Bool.true), (I 181 0), (R 237), V, (R 238), (R 239), (R 240), (I 501 0), (I 87 0), (S (Z "/claim/cut.py") 502)]) #[]
def ho283 (P : Params) := M (T "dict") O (Data.dict #[(ke P "__module__" 490 (S (Z "fieldprograms.positions") 481)), (ke P "__firstlineno__" 494 (I 85 493)), (ke P "__init__" 503 (R 242)), (ke P "place_in" 511 (R 249)), (ke P "cost" 518 (R 256)), (ke P "written" 525 (R 263)), (ke P "__static_attributes__" 528 (R 264)), (ke P "__dict__" 530 (R 267)), (ke P "__weakref__" 532 (R 268)), (ke P "__doc__" 533 V)] 4) #[]
def ho251 (P : Params) := M V O (F #[(I 87 0), (I 4 0), (R 241), (I 91 0), (I 4 0), (R 248), (I 98 0), (I 4 0), (R 255), (I 101 0), (I 4 0), (R 262)]) #[]
def ho267 (P : Params) := M (T "function") O (Data.func (fd (Z "place_in") (Z "EndPosition.place_in") d_EndPosition_place_in 3 [] V V V (S (Z "fieldprograms.positions") 481) O (R 248) V 0)) #[]
def ho279 (P : Params) := M V O (Data.func (fd (Z "written") (Z "EndPosition.written") d_EndPosition_written 0 [] V V V V O V V 0)) #[]
def ho247 (P : Params) := M (T "tuple") O (Q #[] 0) #[]
def ho263 (P : Params) := M (T "tuple") O (Q #[(S (Z "self") 507), (S (Z "text") 508)] 0) #[]
def ho287 (P : Params) := M (T "super") O (F #[(R 266), (R 266), (R 266)]) #[]
def ho255 (P : Params) := M V O (F #[]) #[]
def ho271 (P : Params) := M (T "tuple") O (Q #[] 0) #[]
def ho274 (P : Params) := M (T "function") O (Data.func (fd (Z "cost") (Z "EndPosition.cost") d_EndPosition_cost 3 [] V V V (S (Z "fieldprograms.positions") 481) O (R 255) V 0)) #[]
def ho258 (P : Params) := M V O (Data.func (fd (Z "__init__") (Z "EndPosition.__init__") d_EndPosition_init 0 [] V V V V O V V 0)) #[]
def ho282 (P : Params) := M (T "tuple") O (Q #[(S (Z "distance") 526), (S (Z "from_right") 527)] 0) #[]
def ho250 (P : Params) := M (T "tuple") O (Q #[] 0) #[]
def ho266 (P : Params) := M (T "code") O (F #[(S (Z "place_in") 504), (S (Z "EndPosition.place_in") 505), (S (Z "/claim/cut.py") 506), (I 91 0), (I 2 0), (I 0 0), (I 0 0), (I 3 0), (R 243), (Value.bool Bool.true), (I 181 0), (R 244), V, (R 245), (R 246), (R 247), (I 509 0), (I 91 0), (S (Z "/claim/cut.py") 510)]) #[]
def ho246 (P : Params) := M V O (F (List.toArray ((I 1 0) :: (I 0 0) :: (R 20) :: (I 5 0) :: (I 0 0) :: (R 27) :: (I 9 0) :: (I 0 0) :: (R 47) :: (I 15 0) :: (I 0 0) :: (R 66) :: (I 19 0) :: (I 0 0) :: (R 85) :: (I 26 0) :: (I 0 0) :: (R 122) :: (I 28 0) :: (I 0 0) :: (R 129) :: (I 33 0) :: (I 0 0) :: (R 136) :: (I 35 0) :: (I 0 0) :: (R 143) :: (I 37 0) :: (I 0 0) :: (R 150) :: (I 41 0) :: (I 0 0) :: (R 157) :: (I 45 0) :: (I 0 0) :: (R 162) :: (I 50 0) :: (I 0 0) :: (R 171) :: (I 58 0) :: (I 0 0) :: (R 178) :: (I 85 0) :: (I 0 0) :: (R 234) :: []))) #[]
def ho278 (P : Params) := M (T "tuple") O (Q #[] 0) #[]
def ho262 (P : Params) := M V O (F #[]) #[]
def ho286 (P : Params) := M (T "getset_descriptor") O (F #[(S (Z "__weakref__") 531), (R 266), (Value.builtin "ExceptionGroup.__weakref__"), V]) #[]
def ho254 (P : Params) := M (T "tuple") O (Q #[] 0) #[]
def ho270 (P : Params) := M (T "tuple") O (Q #[(S (Z "self") 515)] 0) #[]
def ho276 (P : Params) := M V O (F #[]) #[]
def ho260 (P : Params) := M (T "function") O (Data.func (fd (Z "__init__") (Z "EndPosition.__init__") d_EndPosition_init 3 [] V V V (S (Z "fieldprograms.positions") 481) O (R 241) V 0)) #[]
def ho284 (P : Params) := M (T "type") O (Data.cls (ClassData.mk (Z "EndPosition") [(T "object")] [(R 266), (T "object")] 265 (Z "EndPosition") Bool.true [] [] Bool.false O Bool.false)) #[O, O, (Option.some (S (Z "EndPosition") 483)), (Option.some (S (Z "EndPosition") 491)), (Option.some (Value.builtin "object.__new__")), (Option.some (Value.bool Bool.true))]
def ho252 (P : Params) := M (T "code") O (F #[(S (Z "EndPosition") 485), (S (Z "EndPosition") 486), (S (Z "/claim/cut.py") 487), (I 85 0), (I 0 0), (I 0 0), (I 0 0), (I 0 0), (R 232), (Value.bool Bool.false), (I 181 0), (R 233), V, V, V, V, (I 488 0), (I 85 0), (S (Z "/claim/cut.py") 489)]) #[]
def ho268 (P : Params) := M (T "tuple") O (Q #[] 0) #[]
def ho280 (P : Params) := M (T "code") O (F #[(S (Z "written") 519), (S (Z "EndPosition.written") 520), (S (Z "/claim/cut.py") 521), (I 101 0), (I 1 0), (I 0 0), (I 0 0), (I 3 0), (R 257), (Value.bool Bool.true), (I 181 0), (R 258), V, (R 259), (R 260), (R 261), (I 523 0), (I 101 0), (S (Z "/claim/cut.py") 524)]) #[]
def ho248 (P : Params) := M (T "builtin_function_or_method") O (F #[(Value.builtin "type.__prepare__"), (T "type")]) #[]
def ho264 (P : Params) := M (T "tuple") O (Q #[] 0) #[]
def ho288 (P : Params) := M (T "builtin_function_or_method") O (F #[(Value.builtin "object.__init_subclass__"), (R 266)]) #[]
def ho256 (P : Params) := M (T "tuple") O (Q #[(S (Z "self") 498), (S (Z "from_right") 499), (S (Z "distance") 500)] 0) #[]
def ho272 (P : Params) := M V O (Data.func (fd (Z "cost") (Z "EndPosition.cost") d_EndPosition_cost 0 [] V V V V O V V 0)) #[]
def ho289 (P : Params) := M (T "dict") O (Data.dict (List.toArray ((ke P "__name__" 165 (S (Z "fieldprograms.reader") 594)) :: (ke P "__doc__" 166 V) :: (ke P "__package__" 167 V) :: (ke P "__loader__" 168 (Value.builtin "__main__.__loader__#opaque")) :: (ke P "__spec__" 169 V) :: (ke P "__annotations__" 170 (R 6)) :: (ke P "__builtins__" 171 (R 4)) :: (ke P "__file__" 173 (S (Z "/claim/cut.py") 172)) :: (ke P "__cached__" 174 V) :: (ke P "_wall" 193 (R 21)) :: (ke P "OtherAnswer" 224 (R 38)) :: (ke P "ProgramFault" 251 (R 58)) :: (ke P "NoPosition" 274 (R 77)) :: (ke P "NoField" 297 (R 96)) :: (ke P "CLASS_RANGES" 332 (R 99)) :: (ke P "EMPTY_CLASS" 333 (R 116)) :: (ke P "both_empty" 341 (R 123)) :: (ke P "holds" 350 (R 130)) :: (ke P "holds_before" 359 (R 137)) :: (ke P "holds_behind" 368 (R 144)) :: (ke P "begins" 377 (R 151)) :: (ke P "ends" 386 (R 158)) :: (ke P "border_places" 392 (R 163)) :: (ke P "MOST_FIELD_BYTES" 396 (I 40 395)) :: (ke P "FIELD_BYTES" 399 (R 165)) :: (ke P "check_field" 407 (R 172)) :: (ke P "NO_BYTE" 412 (I (-(1 : Int)) 411)) :: (ke P "Cursor" 480 (R 224)) :: (ke P "EndPosition" 535 (R 266)) :: (ke P "BorderPosition" 593 (R 308)) :: (ke P "MOST_DIGITS" 597 (I 2 596)) :: (ke P "MOST_DISTANCE" 599 (I 60 598)) :: (ke P "MOST_RANK" 601 (I 40 600)) :: (ke P "SINGLE_BYTES" 604 (R 314)) :: [])) 34) #[]
def ho307 (P : Params) := M (T "tuple") O (Q #[(S (Z "self") 562), (S (Z "text") 563), (S (Z "places") 564)] 0) #[]
def ho291 (P : Params) := M (T "tuple") O (Q #[] 0) #[]
def ho323 (P : Params) := M V O (Data.func (fd (Z "written") (Z "BorderPosition.written") d_BorderPosition_written 0 [] V V V V O V V 0)) #[]
def ho315 (P : Params) := M (T "tuple") O (Q #[] 0) #[]
def ho299 (P : Params) := M V O (F #[]) #[]
def ho331 (P : Params) := M (T "super") O (F #[(R 308), (R 308), (R 308)]) #[]
def ho311 (P : Params) := M (T "function") O (Data.func (fd (Z "place_in") (Z "BorderPosition.place_in") d_BorderPosition_place_in 3 [] V V V (S (Z "fieldprograms.positions") 481) O (R 290) V 0)) #[]
def ho295 (P : Params) := M V O (F #[(I 105 0), (I 4 0), (R 283), (I 111 0), (I 4 0), (R 290), (I 119 0), (I 4 0), (R 297), (I 122 0), (I 4 0), (R 304)]) #[]
def ho327 (P : Params) := M (T "dict") O (Data.dict #[(ke P "__module__" 543 (S (Z "fieldprograms.positions") 481)), (ke P "__firstlineno__" 547 (I 103 546)), (ke P "__init__" 558 (R 284)), (ke P "place_in" 567 (R 291)), (ke P "cost" 574 (R 298)), (ke P "written" 581 (R 305)), (ke P "__static_attributes__" 586 (R 306)), (ke P "__dict__" 588 (R 309)), (ke P "__weakref__" 590 (R 310)), (ke P "__doc__" 591 V)] 4) #[]
def ho319 (P : Params) := M (T "tuple") O (Q #[] 0) #[]
def ho303 (P : Params) := M (T "code") O (F #[(S (Z "__init__") 548), (S (Z "BorderPosition.__init__") 549), (S (Z "/claim/cut.py") 550), (I 105 0), (I 5 0), (I 0 0), (I 0 0), (I 3 0), (R 278), (Value.bool Bool.true), (I 181 0), (R 279), V, (R 280), (R 281), (R 282), (I 556 0), (I 105 0), (S (Z "/claim/cut.py") 557)]) #[]
def ho309 (P : Params) := M V O (Data.func (fd (Z "place_in") (Z "BorderPosition.place_in") d_BorderPosition_place_in 0 [] V V V V O V V 0)) #[]
def ho293 (P : Params) := M (T "dict") O (Data.dict #[(ke P "__module__" 543 (S (Z "fieldprograms.positions") 481)), (ke P "__qualname__" 545 (S (Z "BorderPosition") 544)), (ke P "__firstlineno__" 547 (I 103 546)), (ke P "__init__" 558 (R 284)), (ke P "place_in" 567 (R 291)), (ke P "cost" 574 (R 298)), (ke P "written" 581 (R 305)), (ke P "__static_attributes__" 586 (R 306))] 8) #[]
def ho325 (P : Params) := M (T "function") O (Data.func (fd (Z "written") (Z "BorderPosition.written") d_BorderPosition_written 3 [] V V V (S (Z "fieldprograms.positions") 481) O (R 304) V 0)) #[]
def ho317 (P : Params) := M (T "code") O (F #[(S (Z "cost") 568), (S (Z "BorderPosition.cost") 569), (S (Z "/claim/cut.py") 570), (I 119 0), (I 1 0), (I 0 0), (I 0 0), (I 3 0), (R 292), (Value.bool Bool.true), (I 181 0), (R 293), V, (R 294), (R 295), (R 296), (I 572 0), (I 119 0), (S (Z "/claim/cut.py") 573)]) #[]
def ho301 (P : Params) := M (T "tuple") O (Q #[] 0) #[]
def ho333 (P : Params) := M (T "tuple") O (Q #[(I 33 602), (I 126 603)] 0) #[]
def ho313 (P : Params) := M V O (F #[]) #[]
def ho297 (P : Params) := M (T "frame") O Data.plain #[(Option.some (R 276)), (Option.some (R 3)), (Option.some (R 273)), O, (Option.some (S (Z "fieldprograms.positions") 481)), O, (Option.some (R 0))]
def ho329 (P : Params) := M (T "getset_descriptor") O (F #[(S (Z "__dict__") 587), (R 308), (Value.builtin "function.__dict__"), (Value.builtin "function.__dict__#set")]) #[]
def ho321 (P : Params) := M (T "tuple") O (Q #[(S (Z "self") 578)] 0) #[]
def ho305 (P : Params) := M (T "tuple") O (Q #[] 0) #[]
def ho308 (P : Params) := M (T "tuple") O (Q #[] 0) #[]
def ho292 (P : Params) := M (T "builtin_function_or_method") O (F #[(Value.builtin "type.__prepare__"), (T "type")]) #[]
def ho324 (P : Params) := M (T "code") O (F #[(S (Z "written") 575), (S (Z "BorderPosition.written") 576), (S (Z "/claim/cut.py") 577), (I 122 0), (I 1 0), (I 0 0), (I 0 0), (I 3 0), (R 299), (Value.bool Bool.true), (I 181 0), (R 300), V, (R 301), (R 302), (R 303), (I 579 0), (I 122 0), (S (Z "/claim/cut.py") 580)]) #[]
def ho316 (P : Params) := M V O (Data.func (fd (Z "cost") (Z "BorderPosition.cost") d_BorderPosition_cost 0 [] V V V V O V V 0)) #[]
def ho300 (P : Params) := M (T "tuple") O (Q #[(S (Z "self") 551), (S (Z "left") 552), (S (Z "right") 553), (S (Z "from_right") 554), (S (Z "rank") 555)] 0) #[]
def ho332 (P : Params) := M (T "builtin_function_or_method") O (F #[(Value.builtin "object.__init_subclass__"), (R 308)]) #[]
def ho290 (P : Params) := M V O (F (List.toArray ((I 1 0) :: (I 0 0) :: (R 20) :: (I 5 0) :: (I 0 0) :: (R 27) :: (I 9 0) :: (I 0 0) :: (R 47) :: (I 15 0) :: (I 0 0) :: (R 66) :: (I 19 0) :: (I 0 0) :: (R 85) :: (I 26 0) :: (I 0 0) :: (R 122) :: (I 28 0) :: (I 0 0) :: (R 129) :: (I 33 0) :: (I 0 0) :: (R 136) :: (I 35 0) :: (I 0 0) :: (R 143) :: (I 37 0) :: (I 0 0) :: (R 150) :: (I 41 0) :: (I 0 0) :: (R 157) :: (I 45 0) :: (I 0 0) :: (R 162) :: (I 50 0) :: (I 0 0) :: (R 171) :: (I 58 0) :: (I 0 0) :: (R 178) :: (I 85 0) :: (I 0 0) :: (R 234) :: (I 103 0) :: (I 0 0) :: (R 276) :: []))) #[]
def ho312 (P : Params) := M (T "tuple") O (Q #[] 0) #[]
def ho296 (P : Params) := M (T "code") O (F #[(S (Z "BorderPosition") 538), (S (Z "BorderPosition") 539), (S (Z "/claim/cut.py") 540), (I 103 0), (I 0 0), (I 0 0), (I 0 0), (I 0 0), (R 274), (Value.bool Bool.false), (I 181 0), (R 275), V, V, V, V, (I 541 0), (I 103 0), (S (Z "/claim/cut.py") 542)]) #[]
def ho328 (P : Params) := M (T "type") O (Data.cls (ClassData.mk (Z "BorderPosition") [(T "object")] [(R 308), (T "object")] 307 (Z "BorderPosition") Bool.true [] [] Bool.false O Bool.false)) #[O, O, (Option.some (S (Z "BorderPosition") 536)), (Option.some (S (Z "BorderPosition") 544)), (Option.some (Value.builtin "object.__new__")), (Option.some (Value.bool Bool.true))]
def ho320 (P : Params) := M V O (F #[]) #[]
def ho304 (P : Params) := M (T "function") O (Data.func (fd (Z "__init__") (Z "BorderPosition.__init__") d_BorderPosition_init 3 [] V V V (S (Z "fieldprograms.positions") 481) O (R 283) V 0)) #[]
def ho310 (P : Params) := M (T "code") O (F #[(S (Z "place_in") 559), (S (Z "BorderPosition.place_in") 560), (S (Z "/claim/cut.py") 561), (I 111 0), (I 2 0), (I 0 0), (I 0 0), (I 3 0), (R 285), (Value.bool Bool.true), (I 181 0), (R 286), V, (R 287), (R 288), (R 289), (I 565 0), (I 111 0), (S (Z "/claim/cut.py") 566)]) #[]
def ho294 (P : Params) := M (T "tuple") O (Q #[] 0) #[]
def ho326 (P : Params) := M (T "tuple") O (Q #[(S (Z "from_right") 582), (S (Z "left") 583), (S (Z "rank") 584), (S (Z "right") 585)] 0) #[]
def ho318 (P : Params) := M (T "function") O (Data.func (fd (Z "cost") (Z "BorderPosition.cost") d_BorderPosition_cost 3 [] V V V (S (Z "fieldprograms.positions") 481) O (R 297) V 0)) #[]
def ho302 (P : Params) := M V O (Data.func (fd (Z "__init__") (Z "BorderPosition.__init__") d_BorderPosition_init 0 [] V V V V O V V 0)) #[]
def ho334 (P : Params) := M (T "tuple") O (Q #[(R 313)] 0) #[]
def ho314 (P : Params) := M (T "tuple") O (Q #[(S (Z "self") 571)] 0) #[]
def ho298 (P : Params) := M (T "tuple") O (Q #[] 0) #[]
def ho330 (P : Params) := M (T "getset_descriptor") O (F #[(S (Z "__weakref__") 589), (R 308), (Value.builtin "ExceptionGroup.__weakref__"), V]) #[]
def ho322 (P : Params) := M (T "tuple") O (Q #[] 0) #[]
def ho306 (P : Params) := M V O (F #[]) #[]
def ho335 (P : Params) := M (T "dict") O (Data.dict (List.toArray ((ke P "__name__" 165 (S (Z "fieldprograms.desk") 669)) :: (ke P "__doc__" 166 V) :: (ke P "__package__" 167 V) :: (ke P "__loader__" 168 (Value.builtin "__main__.__loader__#opaque")) :: (ke P "__spec__" 169 V) :: (ke P "__annotations__" 170 (R 6)) :: (ke P "__builtins__" 171 (R 4)) :: (ke P "__file__" 173 (S (Z "/claim/cut.py") 172)) :: (ke P "__cached__" 174 V) :: (ke P "_wall" 193 (R 21)) :: (ke P "OtherAnswer" 224 (R 38)) :: (ke P "ProgramFault" 251 (R 58)) :: (ke P "NoPosition" 274 (R 77)) :: (ke P "NoField" 297 (R 96)) :: (ke P "CLASS_RANGES" 332 (R 99)) :: (ke P "EMPTY_CLASS" 333 (R 116)) :: (ke P "both_empty" 341 (R 123)) :: (ke P "holds" 350 (R 130)) :: (ke P "holds_before" 359 (R 137)) :: (ke P "holds_behind" 368 (R 144)) :: (ke P "begins" 377 (R 151)) :: (ke P "ends" 386 (R 158)) :: (ke P "border_places" 392 (R 163)) :: (ke P "MOST_FIELD_BYTES" 396 (I 40 395)) :: (ke P "FIELD_BYTES" 399 (R 165)) :: (ke P "check_field" 407 (R 172)) :: (ke P "NO_BYTE" 412 (I (-(1 : Int)) 411)) :: (ke P "Cursor" 480 (R 224)) :: (ke P "EndPosition" 535 (R 266)) :: (ke P "BorderPosition" 593 (R 308)) :: (ke P "MOST_DIGITS" 597 (I 2 596)) :: (ke P "MOST_DISTANCE" 599 (I 60 598)) :: (ke P "MOST_RANK" 601 (I 40 600)) :: (ke P "SINGLE_BYTES" 604 (R 314)) :: (ke P "read_lone_position" 613 (R 321)) :: (ke P "read_position" 621 (R 328)) :: (ke P "read_border" 632 (R 335)) :: (ke P "read_direction" 639 (R 342)) :: (ke P "read_class" 647 (R 349)) :: (ke P "read_single" 655 (R 356)) :: (ke P "read_number" 668 (R 363)) :: (ke P "place" 681 (R 370)) :: [])) 42) #[]
def ho341 (P : Params) := M V O (Data.func (fd (Z "read_lone_position") (Z "read_lone_position") d_read_lone_position 0 [] V V V V O V V 0)) #[]
def ho373 (P : Params) := M V O (F #[]) #[]
def ho357 (P : Params) := M (T "function") O (Data.func (fd (Z "read_border") (Z "read_border") d_read_border 3 [] V V V (S (Z "fieldprograms.reader") 594) O (R 334) V 0)) #[]
def ho389 (P : Params) := M (T "tuple") O (Q #[] 0) #[]
def ho349 (P : Params) := M (T "code") O (F #[(S (Z "read_position") 614), (S (Z "read_position") 615), (S (Z "/claim/cut.py") 616), (I 138 0), (I 1 0), (I 0 0), (I 0 0), (I 3 0), (R 322), (Value.bool Bool.true), (I 181 0), (R 323), V, (R 324), (R 325), (R 326), (I 619 0), (I 138 0), (S (Z "/claim/cut.py") 620)]) #[]
def ho381 (P : Params) := M (T "tuple") O (Q #[(S (Z "cursor") 659), (S (Z "low") 660), (S (Z "high") 661), (S (Z "first") 662), (S (Z "digits") 663), (S (Z "number") 664), (S (Z "digit") 665)] 0) #[]
def ho365 (P : Params) := M (T "tuple") O (Q #[] 0) #[]
def ho345 (P : Params) := M V O (F #[]) #[]
def ho377 (P : Params) := M (T "code") O (F #[(S (Z "read_single") 648), (S (Z "read_single") 649), (S (Z "/claim/cut.py") 650), (I 167 0), (I 1 0), (I 0 0), (I 0 0), (I 3 0), (R 350), (Value.bool Bool.true), (I 181 0), (R 351), V, (R 352), (R 353), (R 354), (I 653 0), (I 167 0), (S (Z "/claim/cut.py") 654)]) #[]
def ho361 (P : Params) := M (T "tuple") O (Q #[] 0) #[]
def ho353 (P : Params) := M (T "tuple") O (Q #[(S (Z "cursor") 625), (S (Z "first") 626), (S (Z "left") 627), (S (Z "right") 628), (S (Z "from_right") 629)] 0) #[]
def ho385 (P : Params) := M (T "function") O (Data.func (fd (Z "read_number") (Z "read_number") d_read_number 3 [] V V V (S (Z "fieldprograms.reader") 594) O (R 362) V 0)) #[]
def ho369 (P : Params) := M V O (Data.func (fd (Z "read_class") (Z "read_class") d_read_class 0 [] V V V V O V V 0)) #[]
def ho337 (P : Params) := M (T "tuple") O (Q #[] 0) #[]
def ho343 (P : Params) := M (T "function") O (Data.func (fd (Z "read_lone_position") (Z "read_lone_position") d_read_lone_position 3 [] V V V (S (Z "fieldprograms.reader") 594) O (R 320) V 0)) #[]
def ho375 (P : Params) := M (T "tuple") O (Q #[] 0) #[]
def ho359 (P : Params) := M V O (F #[]) #[]
def ho391 (P : Params) := M (T "code") O (F #[(S (Z "place") 671), (S (Z "place") 672), (S (Z "/claim/cut.py") 673), (I 189 0), (I 2 0), (I 0 0), (I 0 0), (I 3 0), (R 364), (Value.bool Bool.true), (I 181 0), (R 365), V, (R 366), (R 367), (R 368), (I 679 0), (I 189 0), (S (Z "/claim/cut.py") 680)]) #[]
def ho351 (P : Params) := M (T "tuple") O (Q #[] 0) #[]
def ho383 (P : Params) := M V O (Data.func (fd (Z "read_number") (Z "read_number") d_read_number 0 [] V V V V O V V 0)) #[]
def ho367 (P : Params) := M (T "tuple") O (Q #[(S (Z "cursor") 643), (S (Z "sign") 644)] 0) #[]
def ho347 (P : Params) := M (T "tuple") O (Q #[] 0) #[]
def ho379 (P : Params) := M (T "tuple") O (Q #[] 0) #[]
def ho363 (P : Params) := M (T "code") O (F #[(S (Z "read_direction") 633), (S (Z "read_direction") 634), (S (Z "/claim/cut.py") 635), (I 152 0), (I 1 0), (I 0 0), (I 0 0), (I 3 0), (R 336), (Value.bool Bool.true), (I 181 0), (R 337), V, (R 338), (R 339), (R 340), (I 637 0), (I 152 0), (S (Z "/claim/cut.py") 638)]) #[]
def ho355 (P : Params) := M V O (Data.func (fd (Z "read_border") (Z "read_border") d_read_border 0 [] V V V V O V V 0)) #[]
def ho387 (P : Params) := M V O (F #[]) #[]
def ho371 (P : Params) := M (T "function") O (Data.func (fd (Z "read_class") (Z "read_class") d_read_class 3 [] V V V (S (Z "fieldprograms.reader") 594) O (R 348) V 0)) #[]
def ho339 (P : Params) := M (T "tuple") O (Q #[(S (Z "text") 608), (S (Z "cursor") 609), (S (Z "position") 610)] 0) #[]
def ho342 (P : Params) := M (T "code") O (F #[(S (Z "read_lone_position") 605), (S (Z "read_lone_position") 606), (S (Z "/claim/cut.py") 607), (I 129 0), (I 1 0), (I 0 0), (I 0 0), (I 3 0), (R 315), (Value.bool Bool.true), (I 181 0), (R 316), V, (R 317), (R 318), (R 319), (I 611 0), (I 129 0), (S (Z "/claim/cut.py") 612)]) #[]
def ho374 (P : Params) := M (T "tuple") O (Q #[(S (Z "cursor") 651), (S (Z "byte") 652)] 0) #[]
def ho358 (P : Params) := M (T "tuple") O (Q #[] 0) #[]
def ho390 (P : Params) := M V O (Data.func (fd (Z "place") (Z "place") d_place 0 [] V V V V O V V 0)) #[]
def ho350 (P : Params) := M (T "function") O (Data.func (fd (Z "read_position") (Z "read_position") d_read_position 3 [] V V V (S (Z "fieldprograms.reader") 594) O (R 327) V 0)) #[]
def ho382 (P : Params) := M (T "tuple") O (Q #[] 0) #[]
def ho366 (P : Params) := M V O (F #[]) #[]
def ho336 (P : Params) := M V O (F (List.toArray ((I 1 0) :: (I 0 0) :: (R 20) :: (I 5 0) :: (I 0 0) :: (R 27) :: (I 9 0) :: (I 0 0) :: (R 47) :: (I 15 0) :: (I 0 0) :: (R 66) :: (I 19 0) :: (I 0 0) :: (R 85) :: (I 26 0) :: (I 0 0) :: (R 122) :: (I 28 0) :: (I 0 0) :: (R 129) :: (I 33 0) :: (I 0 0) :: (R 136) :: (I 35 0) :: (I 0 0) :: (R 143) :: (I 37 0) :: (I 0 0) :: (R 150) :: (I 41 0) :: (I 0 0) :: (R 157) :: (I 45 0) :: (I 0 0) :: (R 162) :: (I 50 0) :: (I 0 0) :: (R 171) :: (I 58 0) :: (I 0 0) :: (R 178) :: (I 85 0) :: (I 0 0) :: (R 234) :: (I 103 0) :: (I 0 0) :: (R 276) :: (I 129 0) :: (I 0 0) :: (R 320) :: (I 138 0) :: (I 0 0) :: (R 327) :: (I 143 0) :: (I 0 0) :: (R 334) :: (I 152 0) :: (I 0 0) :: (R 341) :: (I 158 0) :: (I 0 0) :: (R 348) :: (I 167 0) :: (I 0 0) :: (R 355) :: (I 173 0) :: (I 0 0) :: (R 362) :: (I 189 0) :: (I 0 0) :: (R 369) :: []))) #[]
def ho346 (P : Params) := M (T "tuple") O (Q #[(S (Z "cursor") 617), (S (Z "from_right") 618)] 0) #[]
def ho378 (P : Params) := M (T "function") O (Data.func (fd (Z "read_single") (Z "read_single") d_read_single 3 [] V V V (S (Z "fieldprograms.reader") 594) O (R 355) V 0)) #[]
def ho362 (P : Params) := M V O (Data.func (fd (Z "read_direction") (Z "read_direction") d_read_direction 0 [] V V V V O V V 0)) #[]
def ho354 (P : Params) := M (T "tuple") O (Q #[] 0) #[]
def ho386 (P : Params) := M (T "tuple") O (Q #[] 0) #[]
def ho370 (P : Params) := M (T "code") O (F #[(S (Z "read_class") 640), (S (Z "read_class") 641), (S (Z "/claim/cut.py") 642), (I 158 0), (I 1 0), (I 0 0), (I 0 0), (I 3 0), (R 343), (Value.bool Bool.true), (I 181 0), (R 344), V, (R 345), (R 346), (R 347), (I 645 0), (I 158 0), (S (Z "/claim/cut.py") 646)]) #[]
def ho338 (P : Params) := M V O (F #[]) #[]
def ho344 (P : Params) := M (T "tuple") O (Q #[] 0) #[]
def ho376 (P : Params) := M V O (Data.func (fd (Z "read_single") (Z "read_single") d_read_single 0 [] V V V V O V V 0)) #[]
def ho360 (P : Params) := M (T "tuple") O (Q #[(S (Z "cursor") 636)] 0) #[]
def ho392 (P : Params) := M (T "function") O (Data.func (fd (Z "place") (Z "place") d_place 3 [] V V V (S (Z "fieldprograms.desk") 669) O (R 369) V 0)) #[]
def ho352 (P : Params) := M V O (F #[]) #[]
def ho384 (P : Params) := M (T "code") O (F #[(S (Z "read_number") 656), (S (Z "read_number") 657), (S (Z "/claim/cut.py") 658), (I 173 0), (I 3 0), (I 0 0), (I 0 0), (I 3 0), (R 357), (Value.bool Bool.true), (I 181 0), (R 358), V, (R 359), (R 360), (R 361), (I 666 0), (I 173 0), (S (Z "/claim/cut.py") 667)]) #[]
def ho368 (P : Params) := M (T "tuple") O (Q #[] 0) #[]
def ho348 (P : Params) := M V O (Data.func (fd (Z "read_position") (Z "read_position") d_read_position 0 [] V V V V O V V 0)) #[]
def ho380 (P : Params) := M V O (F #[]) #[]
def ho364 (P : Params) := M (T "function") O (Data.func (fd (Z "read_direction") (Z "read_direction") d_read_direction 3 [] V V V (S (Z "fieldprograms.reader") 594) O (R 341) V 0)) #[]
def ho356 (P : Params) := M (T "code") O (F #[(S (Z "read_border") 622), (S (Z "read_border") 623), (S (Z "/claim/cut.py") 624), (I 143 0), (I 1 0), (I 0 0), (I 0 0), (I 3 0), (R 329), (Value.bool Bool.true), (I 181 0), (R 330), V, (R 331), (R 332), (R 333), (I 630 0), (I 143 0), (S (Z "/claim/cut.py") 631)]) #[]
def ho388 (P : Params) := M (T "tuple") O (Q #[(S (Z "position") 674), (S (Z "t") 675), (S (Z "found") 676), (S (Z "other") 677), (S (Z "where") 678)] 0) #[]
def ho372 (P : Params) := M (T "tuple") O (Q #[] 0) #[]
def ho340 (P : Params) := M (T "tuple") O (Q #[] 0) #[]
def kfr : Params → Frag := fun P => ((nat_lit 2), ho11 P) :: ((nat_lit 3), ho335 P) :: ((nat_lit 15), ho340 P) :: ((nat_lit 17), ho16 P) :: ((nat_lit 18), ho340 P) :: ((nat_lit 20), ho19 P) :: ((nat_lit 21), ho20 P) :: ((nat_lit 22), ho21 P) :: ((nat_lit 29), ho340 P) :: ((nat_lit 31), ho30 P) :: ((nat_lit 32), ho340 P) :: ((nat_lit 34), ho33 P) :: ((nat_lit 35), ho34 P) :: ((nat_lit 36), ho35 P) :: ((nat_lit 37), ho36 P) :: ((nat_lit 38), ho87 P) :: ((nat_lit 39), ho38 P) :: ((nat_lit 42), ho88 P) :: ((nat_lit 49), ho340 P) :: ((nat_lit 51), ho53 P) :: ((nat_lit 52), ho340 P) :: ((nat_lit 54), ho56 P) :: ((nat_lit 55), ho57 P) :: ((nat_lit 56), ho58 P) :: ((nat_lit 57), ho59 P) :: ((nat_lit 58), ho60 P) :: ((nat_lit 61), ho88 P) :: ((nat_lit 68), ho340 P) :: ((nat_lit 70), ho75 P) :: ((nat_lit 71), ho340 P) :: ((nat_lit 73), ho78 P) :: ((nat_lit 74), ho79 P) :: ((nat_lit 75), ho340 P) :: ((nat_lit 76), ho81 P) :: ((nat_lit 77), ho82 P) :: ((nat_lit 80), ho88 P) :: ((nat_lit 87), ho340 P) :: ((nat_lit 89), ho97 P) :: ((nat_lit 90), ho340 P) :: ((nat_lit 92), ho100 P) :: ((nat_lit 93), ho101 P) :: ((nat_lit 94), ho340 P) :: ((nat_lit 95), ho103 P) :: ((nat_lit 96), ho104 P) :: ((nat_lit 99), ho109 P) :: ((nat_lit 100), ho110 P) :: ((nat_lit 101), ho111 P) :: ((nat_lit 102), ho112 P) :: ((nat_lit 103), ho113 P) :: ((nat_lit 104), ho114 P) :: ((nat_lit 105), ho115 P) :: ((nat_lit 106), ho116 P) :: ((nat_lit 107), ho117 P) :: ((nat_lit 108), ho118 P) :: ((nat_lit 109), ho119 P) :: ((nat_lit 110), ho120 P) :: ((nat_lit 111), ho121 P) :: ((nat_lit 112), ho122 P) :: ((nat_lit 113), ho123 P) :: ((nat_lit 114), ho124 P) :: ((nat_lit 115), ho340 P) :: ((nat_lit 116), ho340 P) :: ((nat_lit 117), ho340 P) :: ((nat_lit 119), ho129 P) :: ((nat_lit 120), ho340 P) :: ((nat_lit 122), ho132 P) :: ((nat_lit 123), ho133 P) :: ((nat_lit 124), ho340 P) :: ((nat_lit 126), ho136 P) :: ((nat_lit 127), ho340 P) :: ((nat_lit 129), ho139 P) :: ((nat_lit 130), ho140 P) :: ((nat_lit 131), ho340 P) :: ((nat_lit 133), ho143 P) :: ((nat_lit 134), ho340 P) :: ((nat_lit 136), ho146 P) :: ((nat_lit 137), ho147 P) :: ((nat_lit 138), ho340 P) :: ((nat_lit 140), ho150 P) :: ((nat_lit 141), ho340 P) :: ((nat_lit 143), ho153 P) :: ((nat_lit 144), ho154 P) :: ((nat_lit 145), ho340 P) :: ((nat_lit 147), ho157 P) :: ((nat_lit 148), ho340 P) :: ((nat_lit 150), ho160 P) :: ((nat_lit 151), ho161 P) :: ((nat_lit 152), ho340 P) :: ((nat_lit 154), ho164 P) :: ((nat_lit 155), ho340 P) :: ((nat_lit 157), ho167 P) :: ((nat_lit 158), ho168 P) :: ((nat_lit 159), ho340 P) :: ((nat_lit 162), ho172 P) :: ((nat_lit 163), ho173 P) :: ((nat_lit 164), ho178 P) :: ((nat_lit 165), ho179 P) :: ((nat_lit 166), ho340 P) :: ((nat_lit 168), ho182 P) :: ((nat_lit 169), ho340 P) :: ((nat_lit 171), ho185 P) :: ((nat_lit 172), ho186 P) :: ((nat_lit 180), ho340 P) :: ((nat_lit 182), ho198 P) :: ((nat_lit 183), ho340 P) :: ((nat_lit 185), ho201 P) :: ((nat_lit 186), ho202 P) :: ((nat_lit 187), ho340 P) :: ((nat_lit 189), ho205 P) :: ((nat_lit 190), ho340 P) :: ((nat_lit 192), ho208 P) :: ((nat_lit 193), ho209 P) :: ((nat_lit 194), ho340 P) :: ((nat_lit 196), ho212 P) :: ((nat_lit 197), ho340 P) :: ((nat_lit 199), ho215 P) :: ((nat_lit 200), ho216 P) :: ((nat_lit 201), ho340 P) :: ((nat_lit 203), ho219 P) :: ((nat_lit 204), ho340 P) :: ((nat_lit 206), ho222 P) :: ((nat_lit 207), ho223 P) :: ((nat_lit 208), ho340 P) :: ((nat_lit 210), ho226 P) :: ((nat_lit 211), ho340 P) :: ((nat_lit 213), ho229 P) :: ((nat_lit 214), ho230 P) :: ((nat_lit 215), ho340 P) :: ((nat_lit 217), ho233 P) :: ((nat_lit 218), ho340 P) :: ((nat_lit 220), ho236 P) :: ((nat_lit 221), ho237 P) :: ((nat_lit 222), ho238 P) :: ((nat_lit 223), ho239 P) :: ((nat_lit 224), ho240 P) :: ((nat_lit 225), ho241 P) :: ((nat_lit 226), ho242 P) :: ((nat_lit 236), ho340 P) :: ((nat_lit 238), ho256 P) :: ((nat_lit 239), ho340 P) :: ((nat_lit 241), ho259 P) :: ((nat_lit 242), ho260 P) :: ((nat_lit 243), ho340 P) :: ((nat_lit 245), ho263 P) :: ((nat_lit 246), ho340 P) :: ((nat_lit 248), ho266 P) :: ((nat_lit 249), ho267 P) :: ((nat_lit 250), ho340 P) :: ((nat_lit 252), ho270 P) :: ((nat_lit 253), ho340 P) :: ((nat_lit 255), ho273 P) :: ((nat_lit 256), ho274 P) :: ((nat_lit 257), ho340 P) :: ((nat_lit 259), ho277 P) :: ((nat_lit 260), ho340 P) :: ((nat_lit 262), ho280 P) :: ((nat_lit 263), ho281 P) :: ((nat_lit 264), ho282 P) :: ((nat_lit 265), ho283 P) :: ((nat_lit 266), ho284 P) :: ((nat_lit 267), ho285 P) :: ((nat_lit 268), ho286 P) :: ((nat_lit 278), ho340 P) :: ((nat_lit 280), ho300 P) :: ((nat_lit 281), ho340 P) :: ((nat_lit 283), ho303 P) :: ((nat_lit 284), ho304 P) :: ((nat_lit 285), ho340 P) :: ((nat_lit 287), ho307 P) :: ((nat_lit 288), ho340 P) :: ((nat_lit 290), ho310 P) :: ((nat_lit 291), ho311 P) :: ((nat_lit 292), ho340 P) :: ((nat_lit 294), ho314 P) :: ((nat_lit 295), ho340 P) :: ((nat_lit 297), ho317 P) :: ((nat_lit 298), ho318 P) :: ((nat_lit 299), ho340 P) :: ((nat_lit 301), ho321 P) :: ((nat_lit 302), ho340 P) :: ((nat_lit 304), ho324 P) :: ((nat_lit 305), ho325 P) :: ((nat_lit 306), ho326 P) :: ((nat_lit 307), ho327 P) :: ((nat_lit 308), ho328 P) :: ((nat_lit 309), ho329 P) :: ((nat_lit 310), ho330 P) :: ((nat_lit 313), ho333 P) :: ((nat_lit 314), ho334 P) :: ((nat_lit 315), ho340 P) :: ((nat_lit 317), ho339 P) :: ((nat_lit 318), ho340 P) :: ((nat_lit 320), ho342 P) :: ((nat_lit 321), ho343 P) :: ((nat_lit 322), ho340 P) :: ((nat_lit 324), ho346 P) :: ((nat_lit 325), ho340 P) :: ((nat_lit 327), ho349 P) :: ((nat_lit 328), ho350 P) :: ((nat_lit 329), ho340 P) :: ((nat_lit 331), ho353 P) :: ((nat_lit 332), ho340 P) :: ((nat_lit 334), ho356 P) :: ((nat_lit 335), ho357 P) :: ((nat_lit 336), ho340 P) :: ((nat_lit 338), ho360 P) :: ((nat_lit 339), ho340 P) :: ((nat_lit 341), ho363 P) :: ((nat_lit 342), ho364 P) :: ((nat_lit 343), ho340 P) :: ((nat_lit 345), ho367 P) :: ((nat_lit 346), ho340 P) :: ((nat_lit 348), ho370 P) :: ((nat_lit 349), ho371 P) :: ((nat_lit 350), ho340 P) :: ((nat_lit 352), ho374 P) :: ((nat_lit 353), ho340 P) :: ((nat_lit 355), ho377 P) :: ((nat_lit 356), ho378 P) :: ((nat_lit 357), ho340 P) :: ((nat_lit 359), ho381 P) :: ((nat_lit 360), ho340 P) :: ((nat_lit 362), ho384 P) :: ((nat_lit 363), ho385 P) :: ((nat_lit 364), ho340 P) :: ((nat_lit 366), ho388 P) :: ((nat_lit 367), ho340 P) :: ((nat_lit 369), ho391 P) :: ((nat_lit 370), ho392 P) :: []
def kad : List Addr := (nat_lit 2) :: (nat_lit 3) :: (nat_lit 15) :: (nat_lit 17) :: (nat_lit 18) :: (nat_lit 20) :: (nat_lit 21) :: (nat_lit 22) :: (nat_lit 29) :: (nat_lit 31) :: (nat_lit 32) :: (nat_lit 34) :: (nat_lit 35) :: (nat_lit 36) :: (nat_lit 37) :: (nat_lit 38) :: (nat_lit 39) :: (nat_lit 42) :: (nat_lit 49) :: (nat_lit 51) :: (nat_lit 52) :: (nat_lit 54) :: (nat_lit 55) :: (nat_lit 56) :: (nat_lit 57) :: (nat_lit 58) :: (nat_lit 61) :: (nat_lit 68) :: (nat_lit 70) :: (nat_lit 71) :: (nat_lit 73) :: (nat_lit 74) :: (nat_lit 75) :: (nat_lit 76) :: (nat_lit 77) :: (nat_lit 80) :: (nat_lit 87) :: (nat_lit 89) :: (nat_lit 90) :: (nat_lit 92) :: (nat_lit 93) :: (nat_lit 94) :: (nat_lit 95) :: (nat_lit 96) :: (nat_lit 99) :: (nat_lit 100) :: (nat_lit 101) :: (nat_lit 102) :: (nat_lit 103) :: (nat_lit 104) :: (nat_lit 105) :: (nat_lit 106) :: (nat_lit 107) :: (nat_lit 108) :: (nat_lit 109) :: (nat_lit 110) :: (nat_lit 111) :: (nat_lit 112) :: (nat_lit 113) :: (nat_lit 114) :: (nat_lit 115) :: (nat_lit 116) :: (nat_lit 117) :: (nat_lit 119) :: (nat_lit 120) :: (nat_lit 122) :: (nat_lit 123) :: (nat_lit 124) :: (nat_lit 126) :: (nat_lit 127) :: (nat_lit 129) :: (nat_lit 130) :: (nat_lit 131) :: (nat_lit 133) :: (nat_lit 134) :: (nat_lit 136) :: (nat_lit 137) :: (nat_lit 138) :: (nat_lit 140) :: (nat_lit 141) :: (nat_lit 143) :: (nat_lit 144) :: (nat_lit 145) :: (nat_lit 147) :: (nat_lit 148) :: (nat_lit 150) :: (nat_lit 151) :: (nat_lit 152) :: (nat_lit 154) :: (nat_lit 155) :: (nat_lit 157) :: (nat_lit 158) :: (nat_lit 159) :: (nat_lit 162) :: (nat_lit 163) :: (nat_lit 164) :: (nat_lit 165) :: (nat_lit 166) :: (nat_lit 168) :: (nat_lit 169) :: (nat_lit 171) :: (nat_lit 172) :: (nat_lit 180) :: (nat_lit 182) :: (nat_lit 183) :: (nat_lit 185) :: (nat_lit 186) :: (nat_lit 187) :: (nat_lit 189) :: (nat_lit 190) :: (nat_lit 192) :: (nat_lit 193) :: (nat_lit 194) :: (nat_lit 196) :: (nat_lit 197) :: (nat_lit 199) :: (nat_lit 200) :: (nat_lit 201) :: (nat_lit 203) :: (nat_lit 204) :: (nat_lit 206) :: (nat_lit 207) :: (nat_lit 208) :: (nat_lit 210) :: (nat_lit 211) :: (nat_lit 213) :: (nat_lit 214) :: (nat_lit 215) :: (nat_lit 217) :: (nat_lit 218) :: (nat_lit 220) :: (nat_lit 221) :: (nat_lit 222) :: (nat_lit 223) :: (nat_lit 224) :: (nat_lit 225) :: (nat_lit 226) :: (nat_lit 236) :: (nat_lit 238) :: (nat_lit 239) :: (nat_lit 241) :: (nat_lit 242) :: (nat_lit 243) :: (nat_lit 245) :: (nat_lit 246) :: (nat_lit 248) :: (nat_lit 249) :: (nat_lit 250) :: (nat_lit 252) :: (nat_lit 253) :: (nat_lit 255) :: (nat_lit 256) :: (nat_lit 257) :: (nat_lit 259) :: (nat_lit 260) :: (nat_lit 262) :: (nat_lit 263) :: (nat_lit 264) :: (nat_lit 265) :: (nat_lit 266) :: (nat_lit 267) :: (nat_lit 268) :: (nat_lit 278) :: (nat_lit 280) :: (nat_lit 281) :: (nat_lit 283) :: (nat_lit 284) :: (nat_lit 285) :: (nat_lit 287) :: (nat_lit 288) :: (nat_lit 290) :: (nat_lit 291) :: (nat_lit 292) :: (nat_lit 294) :: (nat_lit 295) :: (nat_lit 297) :: (nat_lit 298) :: (nat_lit 299) :: (nat_lit 301) :: (nat_lit 302) :: (nat_lit 304) :: (nat_lit 305) :: (nat_lit 306) :: (nat_lit 307) :: (nat_lit 308) :: (nat_lit 309) :: (nat_lit 310) :: (nat_lit 313) :: (nat_lit 314) :: (nat_lit 315) :: (nat_lit 317) :: (nat_lit 318) :: (nat_lit 320) :: (nat_lit 321) :: (nat_lit 322) :: (nat_lit 324) :: (nat_lit 325) :: (nat_lit 327) :: (nat_lit 328) :: (nat_lit 329) :: (nat_lit 331) :: (nat_lit 332) :: (nat_lit 334) :: (nat_lit 335) :: (nat_lit 336) :: (nat_lit 338) :: (nat_lit 339) :: (nat_lit 341) :: (nat_lit 342) :: (nat_lit 343) :: (nat_lit 345) :: (nat_lit 346) :: (nat_lit 348) :: (nat_lit 349) :: (nat_lit 350) :: (nat_lit 352) :: (nat_lit 353) :: (nat_lit 355) :: (nat_lit 356) :: (nat_lit 357) :: (nat_lit 359) :: (nat_lit 360) :: (nat_lit 362) :: (nat_lit 363) :: (nat_lit 364) :: (nat_lit 366) :: (nat_lit 367) :: (nat_lit 369) :: (nat_lit 370) :: []
def htree9 : Params → BT := fun P => (N (boot_o_0 P) (N (boot_o_1 P) (N (boot_o_3 P) (N (boot_o_7 P) E E) (N (ho5 P) E E)) (N (boot_o_5 P) (N (boot_o_9 P) E E) (N (ho7 P) E E))) (N (boot_o_2 P) (N (boot_o_4 P) (N (boot_o_8 P) E E) (N (ho6 P) E E)) (N (boot_o_6 P) (N (boot_o_10 P) E E) (N (ho8 P) E E))))
def htree40 : Params → BT := fun P => (N (boot_o_0 P) (N (boot_o_1 P) (N (ho12 P) (N (boot_o_7 P) (N (ho14 P) (N (ho30 P) E E) E) (N (ho22 P) (N (ho38 P) E E) E)) (N (ho5 P) (N (ho18 P) (N (ho34 P) E E) E) (N (ho26 P) E E))) (N (boot_o_5 P) (N (boot_o_9 P) (N (ho16 P) (N (ho32 P) E E) E) (N (ho24 P) (N (ho40 P) E E) E)) (N (ho7 P) (N (ho20 P) (N (ho36 P) E E) E) (N (ho28 P) E E)))) (N (ho11 P) (N (boot_o_4 P) (N (boot_o_8 P) (N (ho15 P) (N (ho31 P) E E) E) (N (ho23 P) (N (ho39 P) E E) E)) (N (ho13 P) (N (ho19 P) (N (ho35 P) E E) E) (N (ho27 P) E E))) (N (boot_o_6 P) (N (boot_o_10 P) (N (ho17 P) (N (ho33 P) E E) E) (N (ho25 P) E E)) (N (ho8 P) (N (ho21 P) (N (ho37 P) E E) E) (N (ho29 P) E E)))))
def htree62 : Params → BT := fun P => (N (boot_o_0 P) (N (boot_o_1 P) (N (ho41 P) (N (boot_o_7 P) (N (ho14 P) (N (ho30 P) E E) (N (ho49 P) E E)) (N (ho22 P) (N (ho38 P) E E) (N (ho57 P) E E))) (N (ho5 P) (N (ho18 P) (N (ho34 P) E E) (N (ho53 P) E E)) (N (ho26 P) (N (ho45 P) E E) (N (ho61 P) E E)))) (N (boot_o_5 P) (N (boot_o_9 P) (N (ho16 P) (N (ho32 P) E E) (N (ho51 P) E E)) (N (ho24 P) (N (ho40 P) E E) (N (ho59 P) E E))) (N (ho7 P) (N (ho20 P) (N (ho36 P) E E) (N (ho55 P) E E)) (N (ho28 P) (N (ho47 P) E E) E)))) (N (ho11 P) (N (boot_o_4 P) (N (boot_o_8 P) (N (ho15 P) (N (ho31 P) E E) (N (ho50 P) E E)) (N (ho23 P) (N (ho39 P) E E) (N (ho58 P) E E))) (N (ho42 P) (N (ho19 P) (N (ho35 P) E E) (N (ho54 P) E E)) (N (ho27 P) (N (ho46 P) E E) (N (ho62 P) E E)))) (N (boot_o_6 P) (N (boot_o_10 P) (N (ho17 P) (N (ho33 P) E E) (N (ho52 P) E E)) (N (ho25 P) (N (ho44 P) E E) (N (ho60 P) E E))) (N (ho8 P) (N (ho21 P) (N (ho43 P) E E) (N (ho56 P) E E)) (N (ho29 P) (N (ho48 P) E E) E)))))
def htree84 : Params → BT := fun P => (N (boot_o_0 P) (N (boot_o_1 P) (N (ho63 P) (N (boot_o_7 P) (N (ho14 P) (N (ho30 P) (N (ho68 P) E E) E) (N (ho49 P) (N (ho84 P) E E) E)) (N (ho22 P) (N (ho38 P) (N (ho76 P) E E) E) (N (ho57 P) E E))) (N (ho5 P) (N (ho18 P) (N (ho34 P) (N (ho72 P) E E) E) (N (ho53 P) E E)) (N (ho26 P) (N (ho45 P) (N (ho80 P) E E) E) (N (ho61 P) E E)))) (N (boot_o_5 P) (N (boot_o_9 P) (N (ho16 P) (N (ho32 P) (N (ho70 P) E E) E) (N (ho51 P) E E)) (N (ho24 P) (N (ho40 P) (N (ho78 P) E E) E) (N (ho59 P) E E))) (N (ho7 P) (N (ho20 P) (N (ho36 P) (N (ho74 P) E E) E) (N (ho55 P) E E)) (N (ho28 P) (N (ho47 P) (N (ho82 P) E E) E) (N (ho66 P) E E))))) (N (ho11 P) (N (boot_o_4 P) (N (boot_o_8 P) (N (ho15 P) (N (ho31 P) (N (ho69 P) E E) E) (N (ho50 P) E E)) (N (ho23 P) (N (ho39 P) (N (ho77 P) E E) E) (N (ho58 P) E E))) (N (ho64 P) (N (ho19 P) (N (ho35 P) (N (ho73 P) E E) E) (N (ho54 P) E E)) (N (ho27 P) (N (ho46 P) (N (ho81 P) E E) E) (N (ho62 P) E E)))) (N (boot_o_6 P) (N (boot_o_10 P) (N (ho17 P) (N (ho33 P) (N (ho71 P) E E) E) (N (ho52 P) E E)) (N (ho25 P) (N (ho44 P) (N (ho79 P) E E) E) (N (ho60 P) E E))) (N (ho8 P) (N (ho21 P) (N (ho65 P) (N (ho75 P) E E) E) (N (ho56 P) E E)) (N (ho29 P) (N (ho48 P) (N (ho83 P) E E) E) (N (ho67 P) E E))))))
def htree106 : Params → BT := fun P => (N (boot_o_0 P) (N (boot_o_1 P) (N (ho85 P) (N (boot_o_7 P) (N (ho14 P) (N (ho30 P) (N (ho68 P) E E) (N (ho103 P) E E)) (N (ho49 P) (N (ho84 P) E E) E)) (N (ho22 P) (N (ho38 P) (N (ho76 P) E E) E) (N (ho57 P) (N (ho95 P) E E) E))) (N (ho5 P) (N (ho18 P) (N (ho34 P) (N (ho72 P) E E) E) (N (ho53 P) (N (ho91 P) E E) E)) (N (ho26 P) (N (ho45 P) (N (ho80 P) E E) E) (N (ho61 P) (N (ho99 P) E E) E)))) (N (boot_o_5 P) (N (boot_o_9 P) (N (ho16 P) (N (ho32 P) (N (ho70 P) E E) (N (ho105 P) E E)) (N (ho51 P) (N (ho89 P) E E) E)) (N (ho24 P) (N (ho40 P) (N (ho78 P) E E) E) (N (ho59 P) (N (ho97 P) E E) E))) (N (ho7 P) (N (ho20 P) (N (ho36 P) (N (ho74 P) E E) E) (N (ho55 P) (N (ho93 P) E E) E)) (N (ho28 P) (N (ho47 P) (N (ho82 P) E E) E) (N (ho66 P) (N (ho101 P) E E) E))))) (N (ho11 P) (N (boot_o_4 P) (N (boot_o_8 P) (N (ho15 P) (N (ho31 P) (N (ho69 P) E E) (N (ho104 P) E E)) (N (ho50 P) (N (ho88 P) E E) E)) (N (ho23 P) (N (ho39 P) (N (ho77 P) E E) E) (N (ho58 P) (N (ho96 P) E E) E))) (N (ho86 P) (N (ho19 P) (N (ho35 P) (N (ho73 P) E E) E) (N (ho54 P) (N (ho92 P) E E) E)) (N (ho27 P) (N (ho46 P) (N (ho81 P) E E) E) (N (ho62 P) (N (ho100 P) E E) E)))) (N (boot_o_6 P) (N (boot_o_10 P) (N (ho17 P) (N (ho33 P) (N (ho71 P) E E) (N (ho106 P) E E)) (N (ho52 P) (N (ho90 P) E E) E)) (N (ho25 P) (N (ho44 P) (N (ho79 P) E E) E) (N (ho60 P) (N (ho98 P) E E) E))) (N (ho8 P) (N (ho21 P) (N (ho87 P) (N (ho75 P) E E) E) (N (ho56 P) (N (ho94 P) E E) E)) (N (ho29 P) (N (ho48 P) (N (ho83 P) E E) E) (N (ho67 P) (N (ho102 P) E E) E))))))
def htree173 : Params → BT := fun P => (N (boot_o_0 P) (N (boot_o_1 P) (N (ho107 P) (N (boot_o_7 P) (N (ho14 P) (N (ho30 P) (N (ho68 P) (N (ho137 P) E E) E) (N (ho103 P) (N (ho169 P) E E) E)) (N (ho49 P) (N (ho84 P) (N (ho153 P) E E) E) (N (ho121 P) E E))) (N (ho22 P) (N (ho38 P) (N (ho76 P) (N (ho145 P) E E) E) (N (ho113 P) E E)) (N (ho57 P) (N (ho95 P) (N (ho161 P) E E) E) (N (ho129 P) E E)))) (N (ho5 P) (N (ho18 P) (N (ho34 P) (N (ho72 P) (N (ho141 P) E E) E) (N (ho109 P) (N (ho173 P) E E) E)) (N (ho53 P) (N (ho91 P) (N (ho157 P) E E) E) (N (ho125 P) E E))) (N (ho26 P) (N (ho45 P) (N (ho80 P) (N (ho149 P) E E) E) (N (ho117 P) E E)) (N (ho61 P) (N (ho99 P) (N (ho165 P) E E) E) (N (ho133 P) E E))))) (N (boot_o_5 P) (N (boot_o_9 P) (N (ho16 P) (N (ho32 P) (N (ho70 P) (N (ho139 P) E E) E) (N (ho105 P) (N (ho171 P) E E) E)) (N (ho51 P) (N (ho89 P) (N (ho155 P) E E) E) (N (ho123 P) E E))) (N (ho24 P) (N (ho40 P) (N (ho78 P) (N (ho147 P) E E) E) (N (ho115 P) E E)) (N (ho59 P) (N (ho97 P) (N (ho163 P) E E) E) (N (ho131 P) E E)))) (N (ho7 P) (N (ho20 P) (N (ho36 P) (N (ho74 P) (N (ho143 P) E E) E) (N (ho111 P) E E)) (N (ho55 P) (N (ho93 P) (N (ho159 P) E E) E) (N (ho127 P) E E))) (N (ho28 P) (N (ho47 P) (N (ho82 P) (N (ho151 P) E E) E) (N (ho119 P) E E)) (N (ho66 P) (N (ho101 P) (N (ho167 P) E E) E) (N (ho135 P) E E)))))) (N (ho11 P) (N (boot_o_4 P) (N (boot_o_8 P) (N (ho15 P) (N (ho31 P) (N (ho69 P) (N (ho138 P) E E) E) (N (ho104 P) (N (ho170 P) E E) E)) (N (ho50 P) (N (ho88 P) (N (ho154 P) E E) E) (N (ho122 P) E E))) (N (ho23 P) (N (ho39 P) (N (ho77 P) (N (ho146 P) E E) E) (N (ho114 P) E E)) (N (ho58 P) (N (ho96 P) (N (ho162 P) E E) E) (N (ho130 P) E E)))) (N (ho108 P) (N (ho19 P) (N (ho35 P) (N (ho73 P) (N (ho142 P) E E) E) (N (ho110 P) E E)) (N (ho54 P) (N (ho92 P) (N (ho158 P) E E) E) (N (ho126 P) E E))) (N (ho27 P) (N (ho46 P) (N (ho81 P) (N (ho150 P) E E) E) (N (ho118 P) E E)) (N (ho62 P) (N (ho100 P) (N (ho166 P) E E) E) (N (ho134 P) E E))))) (N (boot_o_6 P) (N (boot_o_10 P) (N (ho17 P) (N (ho33 P) (N (ho71 P) (N (ho140 P) E E) E) (N (ho106 P) (N (ho172 P) E E) E)) (N (ho52 P) (N (ho90 P) (N (ho156 P) E E) E) (N (ho124 P) E E))) (N (ho25 P) (N (ho44 P) (N (ho79 P) (N (ho148 P) E E) E) (N (ho116 P) E E)) (N (ho60 P) (N (ho98 P) (N (ho164 P) E E) E) (N (ho132 P) E E)))) (N (ho8 P) (N (ho21 P) (N (ho87 P) (N (ho75 P) (N (ho144 P) E E) E) (N (ho112 P) E E)) (N (ho56 P) (N (ho94 P) (N (ho160 P) E E) E) (N (ho128 P) E E))) (N (ho29 P) (N (ho48 P) (N (ho83 P) (N (ho152 P) E E) E) (N (ho120 P) E E)) (N (ho67 P) (N (ho102 P) (N (ho168 P) E E) E) (N (ho136 P) E E)))))))
def htree186 : Params → BT := fun P => (N (boot_o_0 P) (N (boot_o_1 P) (N (ho176 P) (N (boot_o_7 P) (N (ho14 P) (N (ho30 P) (N (ho68 P) (N (ho137 P) E E) E) (N (ho103 P) (N (ho169 P) E E) E)) (N (ho49 P) (N (ho84 P) (N (ho153 P) E E) E) (N (ho121 P) E E))) (N (ho22 P) (N (ho38 P) (N (ho76 P) (N (ho145 P) E E) E) (N (ho113 P) (N (ho181 P) E E) E)) (N (ho57 P) (N (ho95 P) (N (ho161 P) E E) E) (N (ho129 P) E E)))) (N (ho5 P) (N (ho18 P) (N (ho34 P) (N (ho72 P) (N (ho141 P) E E) E) (N (ho109 P) (N (ho173 P) E E) E)) (N (ho53 P) (N (ho91 P) (N (ho157 P) E E) E) (N (ho125 P) E E))) (N (ho26 P) (N (ho45 P) (N (ho80 P) (N (ho149 P) E E) E) (N (ho117 P) (N (ho185 P) E E) E)) (N (ho61 P) (N (ho99 P) (N (ho165 P) E E) E) (N (ho133 P) E E))))) (N (boot_o_5 P) (N (boot_o_9 P) (N (ho16 P) (N (ho32 P) (N (ho70 P) (N (ho139 P) E E) E) (N (ho105 P) (N (ho171 P) E E) E)) (N (ho51 P) (N (ho89 P) (N (ho155 P) E E) E) (N (ho123 P) E E))) (N (ho24 P) (N (ho40 P) (N (ho78 P) (N (ho147 P) E E) E) (N (ho115 P) (N (ho183 P) E E) E)) (N (ho59 P) (N (ho97 P) (N (ho163 P) E E) E) (N (ho131 P) E E)))) (N (ho7 P) (N (ho20 P) (N (ho36 P) (N (ho74 P) (N (ho143 P) E E) E) (N (ho111 P) (N (ho179 P) E E) E)) (N (ho55 P) (N (ho93 P) (N (ho159 P) E E) E) (N (ho127 P) E E))) (N (ho28 P) (N (ho47 P) (N (ho82 P) (N (ho151 P) E E) E) (N (ho119 P) E E)) (N (ho66 P) (N (ho101 P) (N (ho167 P) E E) E) (N (ho135 P) E E)))))) (N (ho11 P) (N (boot_o_4 P) (N (boot_o_8 P) (N (ho15 P) (N (ho31 P) (N (ho69 P) (N (ho138 P) E E) E) (N (ho104 P) (N (ho170 P) E E) E)) (N (ho50 P) (N (ho88 P) (N (ho154 P) E E) E) (N (ho122 P) E E))) (N (ho23 P) (N (ho39 P) (N (ho77 P) (N (ho146 P) E E) E) (N (ho114 P) (N (ho182 P) E E) E)) (N (ho58 P) (N (ho96 P) (N (ho162 P) E E) E) (N (ho130 P) E E)))) (N (ho177 P) (N (ho19 P) (N (ho35 P) (N (ho73 P) (N (ho142 P) E E) E) (N (ho110 P) (N (ho178 P) E E) E)) (N (ho54 P) (N (ho92 P) (N (ho158 P) E E) E) (N (ho126 P) E E))) (N (ho27 P) (N (ho46 P) (N (ho81 P) (N (ho150 P) E E) E) (N (ho118 P) (N (ho186 P) E E) E)) (N (ho62 P) (N (ho100 P) (N (ho166 P) E E) E) (N (ho134 P) E E))))) (N (boot_o_6 P) (N (boot_o_10 P) (N (ho17 P) (N (ho33 P) (N (ho71 P) (N (ho140 P) E E) E) (N (ho106 P) (N (ho172 P) E E) E)) (N (ho52 P) (N (ho90 P) (N (ho156 P) E E) E) (N (ho124 P) E E))) (N (ho25 P) (N (ho44 P) (N (ho79 P) (N (ho148 P) E E) E) (N (ho116 P) (N (ho184 P) E E) E)) (N (ho60 P) (N (ho98 P) (N (ho164 P) E E) E) (N (ho132 P) E E)))) (N (ho8 P) (N (ho21 P) (N (ho87 P) (N (ho75 P) (N (ho144 P) E E) E) (N (ho112 P) (N (ho180 P) E E) E)) (N (ho56 P) (N (ho94 P) (N (ho160 P) E E) E) (N (ho128 P) E E))) (N (ho29 P) (N (ho48 P) (N (ho83 P) (N (ho152 P) E E) E) (N (ho120 P) E E)) (N (ho67 P) (N (ho102 P) (N (ho168 P) E E) E) (N (ho136 P) E E)))))))
def htree244 : Params → BT := fun P => (N (boot_o_0 P) (N (boot_o_1 P) (N (ho187 P) (N (boot_o_7 P) (N (ho14 P) (N (ho30 P) (N (ho68 P) (N (ho137 P) E E) (N (ho207 P) E E)) (N (ho103 P) (N (ho169 P) E E) (N (ho239 P) E E))) (N (ho49 P) (N (ho84 P) (N (ho153 P) E E) (N (ho223 P) E E)) (N (ho121 P) (N (ho191 P) E E) E))) (N (ho22 P) (N (ho38 P) (N (ho76 P) (N (ho145 P) E E) (N (ho215 P) E E)) (N (ho113 P) (N (ho181 P) E E) E)) (N (ho57 P) (N (ho95 P) (N (ho161 P) E E) (N (ho231 P) E E)) (N (ho129 P) (N (ho199 P) E E) E)))) (N (ho5 P) (N (ho18 P) (N (ho34 P) (N (ho72 P) (N (ho141 P) E E) (N (ho211 P) E E)) (N (ho109 P) (N (ho173 P) E E) (N (ho243 P) E E))) (N (ho53 P) (N (ho91 P) (N (ho157 P) E E) (N (ho227 P) E E)) (N (ho125 P) (N (ho195 P) E E) E))) (N (ho26 P) (N (ho45 P) (N (ho80 P) (N (ho149 P) E E) (N (ho219 P) E E)) (N (ho117 P) (N (ho185 P) E E) E)) (N (ho61 P) (N (ho99 P) (N (ho165 P) E E) (N (ho235 P) E E)) (N (ho133 P) (N (ho203 P) E E) E))))) (N (boot_o_5 P) (N (boot_o_9 P) (N (ho16 P) (N (ho32 P) (N (ho70 P) (N (ho139 P) E E) (N (ho209 P) E E)) (N (ho105 P) (N (ho171 P) E E) (N (ho241 P) E E))) (N (ho51 P) (N (ho89 P) (N (ho155 P) E E) (N (ho225 P) E E)) (N (ho123 P) (N (ho193 P) E E) E))) (N (ho24 P) (N (ho40 P) (N (ho78 P) (N (ho147 P) E E) (N (ho217 P) E E)) (N (ho115 P) (N (ho183 P) E E) E)) (N (ho59 P) (N (ho97 P) (N (ho163 P) E E) (N (ho233 P) E E)) (N (ho131 P) (N (ho201 P) E E) E)))) (N (ho7 P) (N (ho20 P) (N (ho36 P) (N (ho74 P) (N (ho143 P) E E) (N (ho213 P) E E)) (N (ho111 P) (N (ho179 P) E E) E)) (N (ho55 P) (N (ho93 P) (N (ho159 P) E E) (N (ho229 P) E E)) (N (ho127 P) (N (ho197 P) E E) E))) (N (ho28 P) (N (ho47 P) (N (ho82 P) (N (ho151 P) E E) (N (ho221 P) E E)) (N (ho119 P) (N (ho189 P) E E) E)) (N (ho66 P) (N (ho101 P) (N (ho167 P) E E) (N (ho237 P) E E)) (N (ho135 P) (N (ho205 P) E E) E)))))) (N (ho11 P) (N (boot_o_4 P) (N (boot_o_8 P) (N (ho15 P) (N (ho31 P) (N (ho69 P) (N (ho138 P) E E) (N (ho208 P) E E)) (N (ho104 P) (N (ho170 P) E E) (N (ho240 P) E E))) (N (ho50 P) (N (ho88 P) (N (ho154 P) E E) (N (ho224 P) E E)) (N (ho122 P) (N (ho192 P) E E) E))) (N (ho23 P) (N (ho39 P) (N (ho77 P) (N (ho146 P) E E) (N (ho216 P) E E)) (N (ho114 P) (N (ho182 P) E E) E)) (N (ho58 P) (N (ho96 P) (N (ho162 P) E E) (N (ho232 P) E E)) (N (ho130 P) (N (ho200 P) E E) E)))) (N (ho188 P) (N (ho19 P) (N (ho35 P) (N (ho73 P) (N (ho142 P) E E) (N (ho212 P) E E)) (N (ho110 P) (N (ho178 P) E E) (N (ho244 P) E E))) (N (ho54 P) (N (ho92 P) (N (ho158 P) E E) (N (ho228 P) E E)) (N (ho126 P) (N (ho196 P) E E) E))) (N (ho27 P) (N (ho46 P) (N (ho81 P) (N (ho150 P) E E) (N (ho220 P) E E)) (N (ho118 P) (N (ho186 P) E E) E)) (N (ho62 P) (N (ho100 P) (N (ho166 P) E E) (N (ho236 P) E E)) (N (ho134 P) (N (ho204 P) E E) E))))) (N (boot_o_6 P) (N (boot_o_10 P) (N (ho17 P) (N (ho33 P) (N (ho71 P) (N (ho140 P) E E) (N (ho210 P) E E)) (N (ho106 P) (N (ho172 P) E E) (N (ho242 P) E E))) (N (ho52 P) (N (ho90 P) (N (ho156 P) E E) (N (ho226 P) E E)) (N (ho124 P) (N (ho194 P) E E) E))) (N (ho25 P) (N (ho44 P) (N (ho79 P) (N (ho148 P) E E) (N (ho218 P) E E)) (N (ho116 P) (N (ho184 P) E E) E)) (N (ho60 P) (N (ho98 P) (N (ho164 P) E E) (N (ho234 P) E E)) (N (ho132 P) (N (ho202 P) E E) E)))) (N (ho8 P) (N (ho21 P) (N (ho87 P) (N (ho75 P) (N (ho144 P) E E) (N (ho214 P) E E)) (N (ho112 P) (N (ho180 P) E E) E)) (N (ho56 P) (N (ho94 P) (N (ho160 P) E E) (N (ho230 P) E E)) (N (ho128 P) (N (ho198 P) E E) E))) (N (ho29 P) (N (ho48 P) (N (ho83 P) (N (ho152 P) E E) (N (ho222 P) E E)) (N (ho120 P) (N (ho190 P) E E) E)) (N (ho67 P) (N (ho102 P) (N (ho168 P) E E) (N (ho238 P) E E)) (N (ho136 P) (N (ho206 P) E E) E)))))))
def htree288 : Params → BT := fun P => (N (boot_o_0 P) (N (boot_o_1 P) (N (ho245 P) (N (boot_o_7 P) (N (ho14 P) (N (ho30 P) (N (ho68 P) (N (ho137 P) (N (ho273 P) E E) E) (N (ho207 P) E E)) (N (ho103 P) (N (ho169 P) E E) (N (ho239 P) E E))) (N (ho49 P) (N (ho84 P) (N (ho153 P) E E) (N (ho223 P) E E)) (N (ho121 P) (N (ho191 P) E E) (N (ho257 P) E E)))) (N (ho22 P) (N (ho38 P) (N (ho76 P) (N (ho145 P) (N (ho281 P) E E) E) (N (ho215 P) E E)) (N (ho113 P) (N (ho181 P) E E) (N (ho249 P) E E))) (N (ho57 P) (N (ho95 P) (N (ho161 P) E E) (N (ho231 P) E E)) (N (ho129 P) (N (ho199 P) E E) (N (ho265 P) E E))))) (N (ho5 P) (N (ho18 P) (N (ho34 P) (N (ho72 P) (N (ho141 P) (N (ho277 P) E E) E) (N (ho211 P) E E)) (N (ho109 P) (N (ho173 P) E E) (N (ho243 P) E E))) (N (ho53 P) (N (ho91 P) (N (ho157 P) E E) (N (ho227 P) E E)) (N (ho125 P) (N (ho195 P) E E) (N (ho261 P) E E)))) (N (ho26 P) (N (ho45 P) (N (ho80 P) (N (ho149 P) (N (ho285 P) E E) E) (N (ho219 P) E E)) (N (ho117 P) (N (ho185 P) E E) (N (ho253 P) E E))) (N (ho61 P) (N (ho99 P) (N (ho165 P) E E) (N (ho235 P) E E)) (N (ho133 P) (N (ho203 P) E E) (N (ho269 P) E E)))))) (N (boot_o_5 P) (N (boot_o_9 P) (N (ho16 P) (N (ho32 P) (N (ho70 P) (N (ho139 P) (N (ho275 P) E E) E) (N (ho209 P) E E)) (N (ho105 P) (N (ho171 P) E E) (N (ho241 P) E E))) (N (ho51 P) (N (ho89 P) (N (ho155 P) E E) (N (ho225 P) E E)) (N (ho123 P) (N (ho193 P) E E) (N (ho259 P) E E)))) (N (ho24 P) (N (ho40 P) (N (ho78 P) (N (ho147 P) (N (ho283 P) E E) E) (N (ho217 P) E E)) (N (ho115 P) (N (ho183 P) E E) (N (ho251 P) E E))) (N (ho59 P) (N (ho97 P) (N (ho163 P) E E) (N (ho233 P) E E)) (N (ho131 P) (N (ho201 P) E E) (N (ho267 P) E E))))) (N (ho7 P) (N (ho20 P) (N (ho36 P) (N (ho74 P) (N (ho143 P) (N (ho279 P) E E) E) (N (ho213 P) E E)) (N (ho111 P) (N (ho179 P) E E) (N (ho247 P) E E))) (N (ho55 P) (N (ho93 P) (N (ho159 P) E E) (N (ho229 P) E E)) (N (ho127 P) (N (ho197 P) E E) (N (ho263 P) E E)))) (N (ho28 P) (N (ho47 P) (N (ho82 P) (N (ho151 P) (N (ho287 P) E E) E) (N (ho221 P) E E)) (N (ho119 P) (N (ho189 P) E E) (N (ho255 P) E E))) (N (ho66 P) (N (ho101 P) (N (ho167 P) E E) (N (ho237 P) E E)) (N (ho135 P) (N (ho205 P) E E) (N (ho271 P) E E))))))) (N (ho11 P) (N (boot_o_4 P) (N (boot_o_8 P) (N (ho15 P) (N (ho31 P) (N (ho69 P) (N (ho138 P) (N (ho274 P) E E) E) (N (ho208 P) E E)) (N (ho104 P) (N (ho170 P) E E) (N (ho240 P) E E))) (N (ho50 P) (N (ho88 P) (N (ho154 P) E E) (N (ho224 P) E E)) (N (ho122 P) (N (ho192 P) E E) (N (ho258 P) E E)))) (N (ho23 P) (N (ho39 P) (N (ho77 P) (N (ho146 P) (N (ho282 P) E E) E) (N (ho216 P) E E)) (N (ho114 P) (N (ho182 P) E E) (N (ho250 P) E E))) (N (ho58 P) (N (ho96 P) (N (ho162 P) E E) (N (ho232 P) E E)) (N (ho130 P) (N (ho200 P) E E) (N (ho266 P) E E))))) (N (ho246 P) (N (ho19 P) (N (ho35 P) (N (ho73 P) (N (ho142 P) (N (ho278 P) E E) E) (N (ho212 P) E E)) (N (ho110 P) (N (ho178 P) E E) (N (ho244 P) E E))) (N (ho54 P) (N (ho92 P) (N (ho158 P) E E) (N (ho228 P) E E)) (N (ho126 P) (N (ho196 P) E E) (N (ho262 P) E E)))) (N (ho27 P) (N (ho46 P) (N (ho81 P) (N (ho150 P) (N (ho286 P) E E) E) (N (ho220 P) E E)) (N (ho118 P) (N (ho186 P) E E) (N (ho254 P) E E))) (N (ho62 P) (N (ho100 P) (N (ho166 P) E E) (N (ho236 P) E E)) (N (ho134 P) (N (ho204 P) E E) (N (ho270 P) E E)))))) (N (boot_o_6 P) (N (boot_o_10 P) (N (ho17 P) (N (ho33 P) (N (ho71 P) (N (ho140 P) (N (ho276 P) E E) E) (N (ho210 P) E E)) (N (ho106 P) (N (ho172 P) E E) (N (ho242 P) E E))) (N (ho52 P) (N (ho90 P) (N (ho156 P) E E) (N (ho226 P) E E)) (N (ho124 P) (N (ho194 P) E E) (N (ho260 P) E E)))) (N (ho25 P) (N (ho44 P) (N (ho79 P) (N (ho148 P) (N (ho284 P) E E) E) (N (ho218 P) E E)) (N (ho116 P) (N (ho184 P) E E) (N (ho252 P) E E))) (N (ho60 P) (N (ho98 P) (N (ho164 P) E E) (N (ho234 P) E E)) (N (ho132 P) (N (ho202 P) E E) (N (ho268 P) E E))))) (N (ho8 P) (N (ho21 P) (N (ho87 P) (N (ho75 P) (N (ho144 P) (N (ho280 P) E E) E) (N (ho214 P) E E)) (N (ho112 P) (N (ho180 P) E E) (N (ho248 P) E E))) (N (ho56 P) (N (ho94 P) (N (ho160 P) E E) (N (ho230 P) E E)) (N (ho128 P) (N (ho198 P) E E) (N (ho264 P) E E)))) (N (ho29 P) (N (ho48 P) (N (ho83 P) (N (ho152 P) (N (ho288 P) E E) E) (N (ho222 P) E E)) (N (ho120 P) (N (ho190 P) E E) (N (ho256 P) E E))) (N (ho67 P) (N (ho102 P) (N (ho168 P) E E) (N (ho238 P) E E)) (N (ho136 P) (N (ho206 P) E E) (N (ho272 P) E E))))))))
def htree334 : Params → BT := fun P => (N (boot_o_0 P) (N (boot_o_1 P) (N (ho289 P) (N (boot_o_7 P) (N (ho14 P) (N (ho30 P) (N (ho68 P) (N (ho137 P) (N (ho273 P) E E) E) (N (ho207 P) E E)) (N (ho103 P) (N (ho169 P) (N (ho307 P) E E) E) (N (ho239 P) E E))) (N (ho49 P) (N (ho84 P) (N (ho153 P) (N (ho291 P) E E) E) (N (ho223 P) E E)) (N (ho121 P) (N (ho191 P) (N (ho323 P) E E) E) (N (ho257 P) E E)))) (N (ho22 P) (N (ho38 P) (N (ho76 P) (N (ho145 P) (N (ho281 P) E E) E) (N (ho215 P) E E)) (N (ho113 P) (N (ho181 P) (N (ho315 P) E E) E) (N (ho249 P) E E))) (N (ho57 P) (N (ho95 P) (N (ho161 P) (N (ho299 P) E E) E) (N (ho231 P) E E)) (N (ho129 P) (N (ho199 P) (N (ho331 P) E E) E) (N (ho265 P) E E))))) (N (ho5 P) (N (ho18 P) (N (ho34 P) (N (ho72 P) (N (ho141 P) (N (ho277 P) E E) E) (N (ho211 P) E E)) (N (ho109 P) (N (ho173 P) (N (ho311 P) E E) E) (N (ho243 P) E E))) (N (ho53 P) (N (ho91 P) (N (ho157 P) (N (ho295 P) E E) E) (N (ho227 P) E E)) (N (ho125 P) (N (ho195 P) (N (ho327 P) E E) E) (N (ho261 P) E E)))) (N (ho26 P) (N (ho45 P) (N (ho80 P) (N (ho149 P) (N (ho285 P) E E) E) (N (ho219 P) E E)) (N (ho117 P) (N (ho185 P) (N (ho319 P) E E) E) (N (ho253 P) E E))) (N (ho61 P) (N (ho99 P) (N (ho165 P) (N (ho303 P) E E) E) (N (ho235 P) E E)) (N (ho133 P) (N (ho203 P) E E) (N (ho269 P) E E)))))) (N (boot_o_5 P) (N (boot_o_9 P) (N (ho16 P) (N (ho32 P) (N (ho70 P) (N (ho139 P) (N (ho275 P) E E) E) (N (ho209 P) E E)) (N (ho105 P) (N (ho171 P) (N (ho309 P) E E) E) (N (ho241 P) E E))) (N (ho51 P) (N (ho89 P) (N (ho155 P) (N (ho293 P) E E) E) (N (ho225 P) E E)) (N (ho123 P) (N (ho193 P) (N (ho325 P) E E) E) (N (ho259 P) E E)))) (N (ho24 P) (N (ho40 P) (N (ho78 P) (N (ho147 P) (N (ho283 P) E E) E) (N (ho217 P) E E)) (N (ho115 P) (N (ho183 P) (N (ho317 P) E E) E) (N (ho251 P) E E))) (N (ho59 P) (N (ho97 P) (N (ho163 P) (N (ho301 P) E E) E) (N (ho233 P) E E)) (N (ho131 P) (N (ho201 P) (N (ho333 P) E E) E) (N (ho267 P) E E))))) (N (ho7 P) (N (ho20 P) (N (ho36 P) (N (ho74 P) (N (ho143 P) (N (ho279 P) E E) E) (N (ho213 P) E E)) (N (ho111 P) (N (ho179 P) (N (ho313 P) E E) E) (N (ho247 P) E E))) (N (ho55 P) (N (ho93 P) (N (ho159 P) (N (ho297 P) E E) E) (N (ho229 P) E E)) (N (ho127 P) (N (ho197 P) (N (ho329 P) E E) E) (N (ho263 P) E E)))) (N (ho28 P) (N (ho47 P) (N (ho82 P) (N (ho151 P) (N (ho287 P) E E) E) (N (ho221 P) E E)) (N (ho119 P) (N (ho189 P) (N (ho321 P) E E) E) (N (ho255 P) E E))) (N (ho66 P) (N (ho101 P) (N (ho167 P) (N (ho305 P) E E) E) (N (ho237 P) E E)) (N (ho135 P) (N (ho205 P) E E) (N (ho271 P) E E))))))) (N (ho11 P) (N (boot_o_4 P) (N (boot_o_8 P) (N (ho15 P) (N (ho31 P) (N (ho69 P) (N (ho138 P) (N (ho274 P) E E) E) (N (ho208 P) E E)) (N (ho104 P) (N (ho170 P) (N (ho308 P) E E) E) (N (ho240 P) E E))) (N (ho50 P) (N (ho88 P) (N (ho154 P) (N (ho292 P) E E) E) (N (ho224 P) E E)) (N (ho122 P) (N (ho192 P) (N (ho324 P) E E) E) (N (ho258 P) E E)))) (N (ho23 P) (N (ho39 P) (N (ho77 P) (N (ho146 P) (N (ho282 P) E E) E) (N (ho216 P) E E)) (N (ho114 P) (N (ho182 P) (N (ho316 P) E E) E) (N (ho250 P) E E))) (N (ho58 P) (N (ho96 P) (N (ho162 P) (N (ho300 P) E E) E) (N (ho232 P) E E)) (N (ho130 P) (N (ho200 P) (N (ho332 P) E E) E) (N (ho266 P) E E))))) (N (ho290 P) (N (ho19 P) (N (ho35 P) (N (ho73 P) (N (ho142 P) (N (ho278 P) E E) E) (N (ho212 P) E E)) (N (ho110 P) (N (ho178 P) (N (ho312 P) E E) E) (N (ho244 P) E E))) (N (ho54 P) (N (ho92 P) (N (ho158 P) (N (ho296 P) E E) E) (N (ho228 P) E E)) (N (ho126 P) (N (ho196 P) (N (ho328 P) E E) E) (N (ho262 P) E E)))) (N (ho27 P) (N (ho46 P) (N (ho81 P) (N (ho150 P) (N (ho286 P) E E) E) (N (ho220 P) E E)) (N (ho118 P) (N (ho186 P) (N (ho320 P) E E) E) (N (ho254 P) E E))) (N (ho62 P) (N (ho100 P) (N (ho166 P) (N (ho304 P) E E) E) (N (ho236 P) E E)) (N (ho134 P) (N (ho204 P) E E) (N (ho270 P) E E)))))) (N (boot_o_6 P) (N (boot_o_10 P) (N (ho17 P) (N (ho33 P) (N (ho71 P) (N (ho140 P) (N (ho276 P) E E) E) (N (ho210 P) E E)) (N (ho106 P) (N (ho172 P) (N (ho310 P) E E) E) (N (ho242 P) E E))) (N (ho52 P) (N (ho90 P) (N (ho156 P) (N (ho294 P) E E) E) (N (ho226 P) E E)) (N (ho124 P) (N (ho194 P) (N (ho326 P) E E) E) (N (ho260 P) E E)))) (N (ho25 P) (N (ho44 P) (N (ho79 P) (N (ho148 P) (N (ho284 P) E E) E) (N (ho218 P) E E)) (N (ho116 P) (N (ho184 P) (N (ho318 P) E E) E) (N (ho252 P) E E))) (N (ho60 P) (N (ho98 P) (N (ho164 P) (N (ho302 P) E E) E) (N (ho234 P) E E)) (N (ho132 P) (N (ho202 P) (N (ho334 P) E E) E) (N (ho268 P) E E))))) (N (ho8 P) (N (ho21 P) (N (ho87 P) (N (ho75 P) (N (ho144 P) (N (ho280 P) E E) E) (N (ho214 P) E E)) (N (ho112 P) (N (ho180 P) (N (ho314 P) E E) E) (N (ho248 P) E E))) (N (ho56 P) (N (ho94 P) (N (ho160 P) (N (ho298 P) E E) E) (N (ho230 P) E E)) (N (ho128 P) (N (ho198 P) (N (ho330 P) E E) E) (N (ho264 P) E E)))) (N (ho29 P) (N (ho48 P) (N (ho83 P) (N (ho152 P) (N (ho288 P) E E) E) (N (ho222 P) E E)) (N (ho120 P) (N (ho190 P) (N (ho322 P) E E) E) (N (ho256 P) E E))) (N (ho67 P) (N (ho102 P) (N (ho168 P) (N (ho306 P) E E) E) (N (ho238 P) E E)) (N (ho136 P) (N (ho206 P) E E) (N (ho272 P) E E))))))))
def htree392 : Params → BT := fun P => (N (boot_o_0 P) (N (boot_o_1 P) (N (ho335 P) (N (boot_o_7 P) (N (ho14 P) (N (ho30 P) (N (ho68 P) (N (ho137 P) (N (ho273 P) E E) E) (N (ho207 P) (N (ho341 P) E E) E)) (N (ho103 P) (N (ho169 P) (N (ho307 P) E E) E) (N (ho239 P) (N (ho373 P) E E) E))) (N (ho49 P) (N (ho84 P) (N (ho153 P) (N (ho291 P) E E) E) (N (ho223 P) (N (ho357 P) E E) E)) (N (ho121 P) (N (ho191 P) (N (ho323 P) E E) E) (N (ho257 P) (N (ho389 P) E E) E)))) (N (ho22 P) (N (ho38 P) (N (ho76 P) (N (ho145 P) (N (ho281 P) E E) E) (N (ho215 P) (N (ho349 P) E E) E)) (N (ho113 P) (N (ho181 P) (N (ho315 P) E E) E) (N (ho249 P) (N (ho381 P) E E) E))) (N (ho57 P) (N (ho95 P) (N (ho161 P) (N (ho299 P) E E) E) (N (ho231 P) (N (ho365 P) E E) E)) (N (ho129 P) (N (ho199 P) (N (ho331 P) E E) E) (N (ho265 P) E E))))) (N (ho5 P) (N (ho18 P) (N (ho34 P) (N (ho72 P) (N (ho141 P) (N (ho277 P) E E) E) (N (ho211 P) (N (ho345 P) E E) E)) (N (ho109 P) (N (ho173 P) (N (ho311 P) E E) E) (N (ho243 P) (N (ho377 P) E E) E))) (N (ho53 P) (N (ho91 P) (N (ho157 P) (N (ho295 P) E E) E) (N (ho227 P) (N (ho361 P) E E) E)) (N (ho125 P) (N (ho195 P) (N (ho327 P) E E) E) (N (ho261 P) E E)))) (N (ho26 P) (N (ho45 P) (N (ho80 P) (N (ho149 P) (N (ho285 P) E E) E) (N (ho219 P) (N (ho353 P) E E) E)) (N (ho117 P) (N (ho185 P) (N (ho319 P) E E) E) (N (ho253 P) (N (ho385 P) E E) E))) (N (ho61 P) (N (ho99 P) (N (ho165 P) (N (ho303 P) E E) E) (N (ho235 P) (N (ho369 P) E E) E)) (N (ho133 P) (N (ho203 P) (N (ho337 P) E E) E) (N (ho269 P) E E)))))) (N (boot_o_5 P) (N (boot_o_9 P) (N (ho16 P) (N (ho32 P) (N (ho70 P) (N (ho139 P) (N (ho275 P) E E) E) (N (ho209 P) (N (ho343 P) E E) E)) (N (ho105 P) (N (ho171 P) (N (ho309 P) E E) E) (N (ho241 P) (N (ho375 P) E E) E))) (N (ho51 P) (N (ho89 P) (N (ho155 P) (N (ho293 P) E E) E) (N (ho225 P) (N (ho359 P) E E) E)) (N (ho123 P) (N (ho193 P) (N (ho325 P) E E) E) (N (ho259 P) (N (ho391 P) E E) E)))) (N (ho24 P) (N (ho40 P) (N (ho78 P) (N (ho147 P) (N (ho283 P) E E) E) (N (ho217 P) (N (ho351 P) E E) E)) (N (ho115 P) (N (ho183 P) (N (ho317 P) E E) E) (N (ho251 P) (N (ho383 P) E E) E))) (N (ho59 P) (N (ho97 P) (N (ho163 P) (N (ho301 P) E E) E) (N (ho233 P) (N (ho367 P) E E) E)) (N (ho131 P) (N (ho201 P) (N (ho333 P) E E) E) (N (ho267 P) E E))))) (N (ho7 P) (N (ho20 P) (N (ho36 P) (N (ho74 P) (N (ho143 P) (N (ho279 P) E E) E) (N (ho213 P) (N (ho347 P) E E) E)) (N (ho111 P) (N (ho179 P) (N (ho313 P) E E) E) (N (ho247 P) (N (ho379 P) E E) E))) (N (ho55 P) (N (ho93 P) (N (ho159 P) (N (ho297 P) E E) E) (N (ho229 P) (N (ho363 P) E E) E)) (N (ho127 P) (N (ho197 P) (N (ho329 P) E E) E) (N (ho263 P) E E)))) (N (ho28 P) (N (ho47 P) (N (ho82 P) (N (ho151 P) (N (ho287 P) E E) E) (N (ho221 P) (N (ho355 P) E E) E)) (N (ho119 P) (N (ho189 P) (N (ho321 P) E E) E) (N (ho255 P) (N (ho387 P) E E) E))) (N (ho66 P) (N (ho101 P) (N (ho167 P) (N (ho305 P) E E) E) (N (ho237 P) (N (ho371 P) E E) E)) (N (ho135 P) (N (ho205 P) (N (ho339 P) E E) E) (N (ho271 P) E E))))))) (N (ho11 P) (N (boot_o_4 P) (N (boot_o_8 P) (N (ho15 P) (N (ho31 P) (N (ho69 P) (N (ho138 P) (N (ho274 P) E E) E) (N (ho208 P) (N (ho342 P) E E) E)) (N (ho104 P) (N (ho170 P) (N (ho308 P) E E) E) (N (ho240 P) (N (ho374 P) E E) E))) (N (ho50 P) (N (ho88 P) (N (ho154 P) (N (ho292 P) E E) E) (N (ho224 P) (N (ho358 P) E E) E)) (N (ho122 P) (N (ho192 P) (N (ho324 P) E E) E) (N (ho258 P) (N (ho390 P) E E) E)))) (N (ho23 P) (N (ho39 P) (N (ho77 P) (N (ho146 P) (N (ho282 P) E E) E) (N (ho216 P) (N (ho350 P) E E) E)) (N (ho114 P) (N (ho182 P) (N (ho316 P) E E) E) (N (ho250 P) (N (ho382 P) E E) E))) (N (ho58 P) (N (ho96 P) (N (ho162 P) (N (ho300 P) E E) E) (N (ho232 P) (N (ho366 P) E E) E)) (N (ho130 P) (N (ho200 P) (N (ho332 P) E E) E) (N (ho266 P) E E))))) (N (ho336 P) (N (ho19 P) (N (ho35 P) (N (ho73 P) (N (ho142 P) (N (ho278 P) E E) E) (N (ho212 P) (N (ho346 P) E E) E)) (N (ho110 P) (N (ho178 P) (N (ho312 P) E E) E) (N (ho244 P) (N (ho378 P) E E) E))) (N (ho54 P) (N (ho92 P) (N (ho158 P) (N (ho296 P) E E) E) (N (ho228 P) (N (ho362 P) E E) E)) (N (ho126 P) (N (ho196 P) (N (ho328 P) E E) E) (N (ho262 P) E E)))) (N (ho27 P) (N (ho46 P) (N (ho81 P) (N (ho150 P) (N (ho286 P) E E) E) (N (ho220 P) (N (ho354 P) E E) E)) (N (ho118 P) (N (ho186 P) (N (ho320 P) E E) E) (N (ho254 P) (N (ho386 P) E E) E))) (N (ho62 P) (N (ho100 P) (N (ho166 P) (N (ho304 P) E E) E) (N (ho236 P) (N (ho370 P) E E) E)) (N (ho134 P) (N (ho204 P) (N (ho338 P) E E) E) (N (ho270 P) E E)))))) (N (boot_o_6 P) (N (boot_o_10 P) (N (ho17 P) (N (ho33 P) (N (ho71 P) (N (ho140 P) (N (ho276 P) E E) E) (N (ho210 P) (N (ho344 P) E E) E)) (N (ho106 P) (N (ho172 P) (N (ho310 P) E E) E) (N (ho242 P) (N (ho376 P) E E) E))) (N (ho52 P) (N (ho90 P) (N (ho156 P) (N (ho294 P) E E) E) (N (ho226 P) (N (ho360 P) E E) E)) (N (ho124 P) (N (ho194 P) (N (ho326 P) E E) E) (N (ho260 P) (N (ho392 P) E E) E)))) (N (ho25 P) (N (ho44 P) (N (ho79 P) (N (ho148 P) (N (ho284 P) E E) E) (N (ho218 P) (N (ho352 P) E E) E)) (N (ho116 P) (N (ho184 P) (N (ho318 P) E E) E) (N (ho252 P) (N (ho384 P) E E) E))) (N (ho60 P) (N (ho98 P) (N (ho164 P) (N (ho302 P) E E) E) (N (ho234 P) (N (ho368 P) E E) E)) (N (ho132 P) (N (ho202 P) (N (ho334 P) E E) E) (N (ho268 P) E E))))) (N (ho8 P) (N (ho21 P) (N (ho87 P) (N (ho75 P) (N (ho144 P) (N (ho280 P) E E) E) (N (ho214 P) (N (ho348 P) E E) E)) (N (ho112 P) (N (ho180 P) (N (ho314 P) E E) E) (N (ho248 P) (N (ho380 P) E E) E))) (N (ho56 P) (N (ho94 P) (N (ho160 P) (N (ho298 P) E E) E) (N (ho230 P) (N (ho364 P) E E) E)) (N (ho128 P) (N (ho198 P) (N (ho330 P) E E) E) (N (ho264 P) E E)))) (N (ho29 P) (N (ho48 P) (N (ho83 P) (N (ho152 P) (N (ho288 P) E E) E) (N (ho222 P) (N (ho356 P) E E) E)) (N (ho120 P) (N (ho190 P) (N (ho322 P) E E) E) (N (ho256 P) (N (ho388 P) E E) E))) (N (ho67 P) (N (ho102 P) (N (ho168 P) (N (ho306 P) E E) E) (N (ho238 P) (N (ho372 P) E E) E)) (N (ho136 P) (N (ho206 P) (N (ho340 P) E E) E) (N (ho272 P) E E))))))))
def hheap8 : Params → Heap := fun P => (Heap.mk (Array.mk [(boot_o_0 P), (boot_o_1 P), (boot_o_2 P), (boot_o_3 P), (boot_o_4 P), (boot_o_5 P), (boot_o_6 P), (boot_o_7 P), (boot_o_8 P), (boot_o_9 P), (boot_o_10 P), (ho5 P), (ho6 P), (ho7 P), (ho8 P)]) (Life.mk [] [] [] 0 [] [] Bool.false #[] [] 0 Bool.false Bool.false Bool.false (0 : Int) [(2000 : Int), (10 : Int), (10 : Int)] Bool.false 0 Bool.true [] [] 0 Bool.false))
def hheap393 : Params → Heap := fun P => (Heap.mk (Array.mk ((boot_o_0 P) :: (boot_o_1 P) :: (ho11 P) :: (ho335 P) :: (boot_o_4 P) :: (boot_o_5 P) :: (boot_o_6 P) :: (boot_o_7 P) :: (boot_o_8 P) :: (boot_o_9 P) :: (boot_o_10 P) :: (ho5 P) :: (ho336 P) :: (ho7 P) :: (ho8 P) :: (ho14 P) :: (ho15 P) :: (ho16 P) :: (ho17 P) :: (ho18 P) :: (ho19 P) :: (ho20 P) :: (ho21 P) :: (ho22 P) :: (ho23 P) :: (ho24 P) :: (ho25 P) :: (ho26 P) :: (ho27 P) :: (ho28 P) :: (ho29 P) :: (ho30 P) :: (ho31 P) :: (ho32 P) :: (ho33 P) :: (ho34 P) :: (ho35 P) :: (ho36 P) :: (ho87 P) :: (ho38 P) :: (ho39 P) :: (ho40 P) :: (ho44 P) :: (ho45 P) :: (ho46 P) :: (ho47 P) :: (ho48 P) :: (ho49 P) :: (ho50 P) :: (ho51 P) :: (ho52 P) :: (ho53 P) :: (ho54 P) :: (ho55 P) :: (ho56 P) :: (ho57 P) :: (ho58 P) :: (ho59 P) :: (ho60 P) :: (ho61 P) :: (ho62 P) :: (ho66 P) :: (ho67 P) :: (ho68 P) :: (ho69 P) :: (ho70 P) :: (ho71 P) :: (ho72 P) :: (ho73 P) :: (ho74 P) :: (ho75 P) :: (ho76 P) :: (ho77 P) :: (ho78 P) :: (ho79 P) :: (ho80 P) :: (ho81 P) :: (ho82 P) :: (ho83 P) :: (ho84 P) :: (ho88 P) :: (ho89 P) :: (ho90 P) :: (ho91 P) :: (ho92 P) :: (ho93 P) :: (ho94 P) :: (ho95 P) :: (ho96 P) :: (ho97 P) :: (ho98 P) :: (ho99 P) :: (ho100 P) :: (ho101 P) :: (ho102 P) :: (ho103 P) :: (ho104 P) :: (ho105 P) :: (ho106 P) :: (ho109 P) :: (ho110 P) :: (ho111 P) :: (ho112 P) :: (ho113 P) :: (ho114 P) :: (ho115 P) :: (ho116 P) :: (ho117 P) :: (ho118 P) :: (ho119 P) :: (ho120 P) :: (ho121 P) :: (ho122 P) :: (ho123 P) :: (ho124 P) :: (ho125 P) :: (ho126 P) :: (ho127 P) :: (ho128 P) :: (ho129 P) :: (ho130 P) :: (ho131 P) :: (ho132 P) :: (ho133 P) :: (ho134 P) :: (ho135 P) :: (ho136 P) :: (ho137 P) :: (ho138 P) :: (ho139 P) :: (ho140 P) :: (ho141 P) :: (ho142 P) :: (ho143 P) :: (ho144 P) :: (ho145 P) :: (ho146 P) :: (ho147 P) :: (ho148 P) :: (ho149 P) :: (ho150 P) :: (ho151 P) :: (ho152 P) :: (ho153 P) :: (ho154 P) :: (ho155 P) :: (ho156 P) :: (ho157 P) :: (ho158 P) :: (ho159 P) :: (ho160 P) :: (ho161 P) :: (ho162 P) :: (ho163 P) :: (ho164 P) :: (ho165 P) :: (ho166 P) :: (ho167 P) :: (ho168 P) :: (ho169 P) :: (ho170 P) :: (ho171 P) :: (ho172 P) :: (ho173 P) :: (ho178 P) :: (ho179 P) :: (ho180 P) :: (ho181 P) :: (ho182 P) :: (ho183 P) :: (ho184 P) :: (ho185 P) :: (ho186 P) :: (ho189 P) :: (ho190 P) :: (ho191 P) :: (ho192 P) :: (ho193 P) :: (ho194 P) :: (ho195 P) :: (ho196 P) :: (ho197 P) :: (ho198 P) :: (ho199 P) :: (ho200 P) :: (ho201 P) :: (ho202 P) :: (ho203 P) :: (ho204 P) :: (ho205 P) :: (ho206 P) :: (ho207 P) :: (ho208 P) :: (ho209 P) :: (ho210 P) :: (ho211 P) :: (ho212 P) :: (ho213 P) :: (ho214 P) :: (ho215 P) :: (ho216 P) :: (ho217 P) :: (ho218 P) :: (ho219 P) :: (ho220 P) :: (ho221 P) :: (ho222 P) :: (ho223 P) :: (ho224 P) :: (ho225 P) :: (ho226 P) :: (ho227 P) :: (ho228 P) :: (ho229 P) :: (ho230 P) :: (ho231 P) :: (ho232 P) :: (ho233 P) :: (ho234 P) :: (ho235 P) :: (ho236 P) :: (ho237 P) :: (ho238 P) :: (ho239 P) :: (ho240 P) :: (ho241 P) :: (ho242 P) :: (ho243 P) :: (ho244 P) :: (ho247 P) :: (ho248 P) :: (ho249 P) :: (ho250 P) :: (ho251 P) :: (ho252 P) :: (ho253 P) :: (ho254 P) :: (ho255 P) :: (ho256 P) :: (ho257 P) :: (ho258 P) :: (ho259 P) :: (ho260 P) :: (ho261 P) :: (ho262 P) :: (ho263 P) :: (ho264 P) :: (ho265 P) :: (ho266 P) :: (ho267 P) :: (ho268 P) :: (ho269 P) :: (ho270 P) :: (ho271 P) :: (ho272 P) :: (ho273 P) :: (ho274 P) :: (ho275 P) :: (ho276 P) :: (ho277 P) :: (ho278 P) :: (ho279 P) :: (ho280 P) :: (ho281 P) :: (ho282 P) :: (ho283 P) :: (ho284 P) :: (ho285 P) :: (ho286 P) :: (ho287 P) :: (ho288 P) :: (ho291 P) :: (ho292 P) :: (ho293 P) :: (ho294 P) :: (ho295 P) :: (ho296 P) :: (ho297 P) :: (ho298 P) :: (ho299 P) :: (ho300 P) :: (ho301 P) :: (ho302 P) :: (ho303 P) :: (ho304 P) :: (ho305 P) :: (ho306 P) :: (ho307 P) :: (ho308 P) :: (ho309 P) :: (ho310 P) :: (ho311 P) :: (ho312 P) :: (ho313 P) :: (ho314 P) :: (ho315 P) :: (ho316 P) :: (ho317 P) :: (ho318 P) :: (ho319 P) :: (ho320 P) :: (ho321 P) :: (ho322 P) :: (ho323 P) :: (ho324 P) :: (ho325 P) :: (ho326 P) :: (ho327 P) :: (ho328 P) :: (ho329 P) :: (ho330 P) :: (ho331 P) :: (ho332 P) :: (ho333 P) :: (ho334 P) :: (ho337 P) :: (ho338 P) :: (ho339 P) :: (ho340 P) :: (ho341 P) :: (ho342 P) :: (ho343 P) :: (ho344 P) :: (ho345 P) :: (ho346 P) :: (ho347 P) :: (ho348 P) :: (ho349 P) :: (ho350 P) :: (ho351 P) :: (ho352 P) :: (ho353 P) :: (ho354 P) :: (ho355 P) :: (ho356 P) :: (ho357 P) :: (ho358 P) :: (ho359 P) :: (ho360 P) :: (ho361 P) :: (ho362 P) :: (ho363 P) :: (ho364 P) :: (ho365 P) :: (ho366 P) :: (ho367 P) :: (ho368 P) :: (ho369 P) :: (ho370 P) :: (ho371 P) :: (ho372 P) :: (ho373 P) :: (ho374 P) :: (ho375 P) :: (ho376 P) :: (ho377 P) :: (ho378 P) :: (ho379 P) :: (ho380 P) :: (ho381 P) :: (ho382 P) :: (ho383 P) :: (ho384 P) :: (ho385 P) :: (ho386 P) :: (ho387 P) :: (ho388 P) :: (ho389 P) :: (ho390 P) :: (ho391 P) :: (ho392 P) :: [])) (Life.mk [] [] [] 0 [] [] Bool.false #[] [] 0 Bool.false Bool.false Bool.false (0 : Int) [(2000 : Int), (10 : Int), (10 : Int)] Bool.false 0 Bool.true [] [] 0 Bool.false))
def hsts11 : List Stmt := [top 0, top 1, top 2]
def hsts41 : List Stmt := [top 3]
def hsts63 : List Stmt := [top 4]
def hsts85 : List Stmt := [top 5, top 6]
def hsts107 : List Stmt := [top 7, top 8, top 9, top 10, top 11, top 12, top 13, top 14, top 15, top 16, top 17]
def hsts176 : List Stmt := [top 18, top 19, top 20, top 21]
def hsts187 : List Stmt := [top 22, top 23]
def hsts245 : List Stmt := [top 24]
def hsts289 : List Stmt := [top 25, top 26, top 27, top 28, top 29, top 30]
def hsts335 : List Stmt := [top 31, top 32, top 33, top 34, top 35, top 36, top 37, top 38, top 39]
def henv : Env := (Env.mk (Module.scope (Program.main pw)) mainNs mainNs [] Str.empty O (R 13) (Option.some 14) 0)
abbrev hc : Code := Code.body (behindTheImports pw) henv
abbrev hfr : List Frame := [(topFrame (Pos.mk 0 0 0 0))]
abbrev hann : Option Value := (Option.some (R 6))
abbrev hm : Nat := (nat_lit 11)
def hlife0 : Life := (Life.mk [] [] [] 0 [] [] Bool.false #[] [] 0 Bool.false Bool.false Bool.false (0 : Int) [(2000 : Int), (10 : Int), (10 : Int)] Bool.false 0 Bool.true [] [] 0 Bool.false)
abbrev hS9 (w : World) (os : OsState) : SharedT := SharedT.mk (htree9 w.params) (nat_lit 15) hlife0 (Array.mk []) (Drawn.mk 0 0 0 0) (nat_lit 187) os
abbrev hS40 (w : World) (os : OsState) : SharedT := SharedT.mk (htree40 w.params) (nat_lit 42) hlife0 (Array.mk []) (Drawn.mk 0 0 0 0) (nat_lit 225) os
abbrev hS62 (w : World) (os : OsState) : SharedT := SharedT.mk (htree62 w.params) (nat_lit 61) hlife0 (Array.mk []) (Drawn.mk 0 0 0 0) (nat_lit 252) os
abbrev hS84 (w : World) (os : OsState) : SharedT := SharedT.mk (htree84 w.params) (nat_lit 80) hlife0 (Array.mk []) (Drawn.mk 0 0 0 0) (nat_lit 275) os
abbrev hS106 (w : World) (os : OsState) : SharedT := SharedT.mk (htree106 w.params) (nat_lit 99) hlife0 (Array.mk []) (Drawn.mk 0 0 0 0) (nat_lit 300) os
abbrev hS173 (w : World) (os : OsState) : SharedT := SharedT.mk (htree173 w.params) (nat_lit 164) hlife0 (Array.mk []) (Drawn.mk 0 0 0 0) (nat_lit 397) os
abbrev hS186 (w : World) (os : OsState) : SharedT := SharedT.mk (htree186 w.params) (nat_lit 173) hlife0 (Array.mk []) (Drawn.mk 0 0 0 0) (nat_lit 413) os
abbrev hS244 (w : World) (os : OsState) : SharedT := SharedT.mk (htree244 w.params) (nat_lit 229) hlife0 (Array.mk []) (Drawn.mk 0 0 0 0) (nat_lit 483) os
abbrev hS288 (w : World) (os : OsState) : SharedT := SharedT.mk (htree288 w.params) (nat_lit 271) hlife0 (Array.mk []) (Drawn.mk 0 0 0 0) (nat_lit 536) os
abbrev hS334 (w : World) (os : OsState) : SharedT := SharedT.mk (htree334 w.params) (nat_lit 315) hlife0 (Array.mk []) (Drawn.mk 0 0 0 0) (nat_lit 605) os
abbrev hS392 (w : World) (os : OsState) : SharedT := SharedT.mk (htree392 w.params) (nat_lit 371) hlife0 (Array.mk []) (Drawn.mk 0 0 0 0) (nat_lit 682) os
abbrev hSa (w : World) (os : OsState) : Shared := Shared.mk (hheap8 w.params) (Array.mk []) (Drawn.mk 0 0 0 0) (nat_lit 187) os
abbrev hSz (w : World) (os : OsState) : Shared := (Shared.mk (hheap393 (World.params w)) (Array.mk []) (Drawn.mk 0 0 0 0) (nat_lit 682) os)
abbrev hS0 (w : World) (os : OsState) : Shared := Shared.mk (boot_heap w.params) (Array.mk []) boot_drawn boot_toks os
theorem hpre : ∀ w : World, (fun os => topGo treeTable pw w hm hann (nat_lit 12) (hS0 w os) (topStub pw)) = fun os => some (hSa w os, Thread.mk (denote treeTable hc) hc (Pos.mk 0 0 0 0) hfr) := fun w => by kernel_rfl
theorem hblock : ∀ w : World, (fun os => segRun treeTable pw w hm hann (nat_lit 1) (nat_lit 1) (hSa w os) (blockOf (behindTheImports pw) henv hc (Pos.mk 0 0 0 0) hfr)) = fun os => some (Flow.next, (hS9 w os).abs, hc, (Pos.mk 0 0 0 0)) := fun w => by kernel_rfl
theorem hq40 : ∀ w : World, (fun os => segRunT treeTable pw w hm hann (nat_lit 1) (nat_lit 267) (hS9 w os) (piecesOf hsts11 henv hc (Pos.mk 0 0 0 0) hfr)) = fun os => some (Flow.next, hS40 w os, hc, (Pos.mk 5 0 8 28)) := fun w => by kernel_rfl
theorem hq62 : ∀ w : World, (fun os => segRunT treeTable pw w hm hann (nat_lit 1) (nat_lit 248) (hS40 w os) (piecesOf hsts41 henv hc (Pos.mk 5 0 8 28) hfr)) = fun os => some (Flow.next, hS62 w os, hc, (Pos.mk 9 0 14 26)) := fun w => by kernel_rfl
theorem hq84 : ∀ w : World, (fun os => segRunT treeTable pw w hm hann (nat_lit 1) (nat_lit 244) (hS62 w os) (piecesOf hsts63 henv hc (Pos.mk 9 0 14 26) hfr)) = fun os => some (Flow.next, hS84 w os, hc, (Pos.mk 15 0 18 40)) := fun w => by kernel_rfl
theorem hq106 : ∀ w : World, (fun os => segRunT treeTable pw w hm hann (nat_lit 1) (nat_lit 253) (hS84 w os) (piecesOf hsts85 henv hc (Pos.mk 15 0 18 40) hfr)) = fun os => some (Flow.next, hS106 w os, hc, (Pos.mk 23 0 23 8)) := fun w => by kernel_rfl
theorem hq173f : ∀ w : World, (fun os => segRunT treeTable pw (w.withFollow "special-get-raises" false) hm hann (nat_lit 1) (nat_lit 398) (hS106 (w.withFollow "special-get-raises" false) os) (piecesOf hsts107 henv hc (Pos.mk 23 0 23 8) hfr)) = fun os => some (Flow.next, hS173 (w.withFollow "special-get-raises" false) os, hc, (Pos.mk 48 0 48 16)) := fun w => by kernel_rfl
theorem hq173t : ∀ w : World, (fun os => segRunT treeTable pw (w.withFollow "special-get-raises" true) hm hann (nat_lit 1) (nat_lit 398) (hS106 (w.withFollow "special-get-raises" true) os) (piecesOf hsts107 henv hc (Pos.mk 23 0 23 8) hfr)) = fun os => some (Flow.next, hS173 (w.withFollow "special-get-raises" true) os, hc, (Pos.mk 48 0 48 16)) := fun w => by kernel_rfl
theorem hq173 : ∀ w : World, (fun os => segRunT treeTable pw w hm hann (nat_lit 1) (nat_lit 398) (hS106 w os) (piecesOf hsts107 henv hc (Pos.mk 23 0 23 8) hfr)) = fun os => some (Flow.next, hS173 w os, hc, (Pos.mk 48 0 48 16)) := fun w => byRow2 "special-get-raises" (P := fun w => (fun os => segRunT treeTable pw w hm hann (nat_lit 1) (nat_lit 398) (hS106 w os) (piecesOf hsts107 henv hc (Pos.mk 23 0 23 8) hfr)) = fun os => some (Flow.next, hS173 w os, hc, (Pos.mk 48 0 48 16))) hq173f hq173t w
theorem hq186 : ∀ w : World, (fun os => segRunT treeTable pw w hm hann (nat_lit 1) (nat_lit 68) (hS173 w os) (piecesOf hsts176 henv hc (Pos.mk 48 0 48 16) hfr)) = fun os => some (Flow.next, hS186 w os, hc, (Pos.mk 57 0 57 7)) := fun w => by kernel_rfl
theorem hq244 : ∀ w : World, (fun os => segRunT treeTable pw w hm hann (nat_lit 1) (nat_lit 391) (hS186 w os) (piecesOf hsts187 henv hc (Pos.mk 57 0 57 7) hfr)) = fun os => some (Flow.next, hS244 w os, hc, (Pos.mk 84 0 84 8)) := fun w => by kernel_rfl
theorem hq288 : ∀ w : World, (fun os => segRunT treeTable pw w hm hann (nat_lit 1) (nat_lit 319) (hS244 w os) (piecesOf hsts245 henv hc (Pos.mk 84 0 84 8) hfr)) = fun os => some (Flow.next, hS288 w os, hc, (Pos.mk 85 0 102 16)) := fun w => by kernel_rfl
theorem hq334 : ∀ w : World, (fun os => segRunT treeTable pw w hm hann (nat_lit 1) (nat_lit 374) (hS288 w os) (piecesOf hsts289 henv hc (Pos.mk 85 0 102 16) hfr)) = fun os => some (Flow.next, hS334 w os, hc, (Pos.mk 128 0 128 12)) := fun w => by kernel_rfl
theorem hq392 : ∀ w : World, (fun os => segRunT treeTable pw w hm hann (nat_lit 1) (nat_lit 261) (hS334 w os) (piecesOf hsts335 henv hc (Pos.mk 128 0 128 12) hfr)) = fun os => some (Flow.next, hS392 w os, hc, (Pos.mk 189 0 198 21)) := fun w => by kernel_rfl
theorem hend : ∀ w : World, (fun os => topRun treeTable pw w hm hann (nat_lit 2) (hS392 w os).abs (Thread.mk (doneF Flow.next) hc (Pos.mk 189 0 198 21) hfr)) = fun os => some (hSz w os) := fun w => by kernel_rfl
theorem hbody : behindTheImports pw = (hsts11 ++ (hsts41 ++ (hsts63 ++ (hsts85 ++ (hsts107 ++ (hsts176 ++ (hsts187 ++ (hsts245 ++ (hsts289 ++ (hsts335 ++ ([] : List Stmt))))))))))) := by kernel_rfl
theorem hrun0 : ∀ (w : World) (os : OsState), topRun treeTable pw w hm hann ((nat_lit 267) + ((nat_lit 248) + ((nat_lit 244) + ((nat_lit 253) + ((nat_lit 398) + ((nat_lit 68) + ((nat_lit 391) + ((nat_lit 319) + ((nat_lit 374) + ((nat_lit 261) + (nat_lit 2))))))))))) (hS9 w os).abs (restOf (hsts11 ++ (hsts41 ++ (hsts63 ++ (hsts85 ++ (hsts107 ++ (hsts176 ++ (hsts187 ++ (hsts245 ++ (hsts289 ++ (hsts335 ++ ([] : List Stmt))))))))))) henv hc (Pos.mk 0 0 0 0) hfr) = some (hSz w os) := by
  intro w os
  have k := piece_nil (env := henv) (congrFun (hend w) os)
  have k := piece_app (segRun_of (congrFun (hq392 w) os)) k
  have k := piece_app (segRun_of (congrFun (hq334 w) os)) k
  have k := piece_app (segRun_of (congrFun (hq288 w) os)) k
  have k := piece_app (segRun_of (congrFun (hq244 w) os)) k
  have k := piece_app (segRun_of (congrFun (hq186 w) os)) k
  have k := piece_app (segRun_of (congrFun (hq173 w) os)) k
  have k := piece_app (segRun_of (congrFun (hq106 w) os)) k
  have k := piece_app (segRun_of (congrFun (hq84 w) os)) k
  have k := piece_app (segRun_of (congrFun (hq62 w) os)) k
  have k := piece_app (segRun_of (congrFun (hq40 w) os)) k
  exact k
theorem hrun : ∀ (w : World) (os : OsState), topRun treeTable pw w hm hann ((nat_lit 12) + ((nat_lit 1) + ((nat_lit 267) + ((nat_lit 248) + ((nat_lit 244) + ((nat_lit 253) + ((nat_lit 398) + ((nat_lit 68) + ((nat_lit 391) + ((nat_lit 319) + ((nat_lit 374) + ((nat_lit 261) + (nat_lit 2))))))))))))) (hS0 w os) (topStub pw) = some (hSz w os) := by
  intro w os
  have k := (congrArg (fun b => topRun treeTable pw w hm hann ((nat_lit 267) + ((nat_lit 248) + ((nat_lit 244) + ((nat_lit 253) + ((nat_lit 398) + ((nat_lit 68) + ((nat_lit 391) + ((nat_lit 319) + ((nat_lit 374) + ((nat_lit 261) + (nat_lit 2))))))))))) (hS9 w os).abs (restOf b henv hc (Pos.mk 0 0 0 0) hfr)) hbody).trans (hrun0 w os)
  exact go_top (congrFun (hpre w) os) (piece_block (congrFun (hblock w) os) k)
theorem hopening : opening pw = plainProg pw.main.scope.names := by kernel_rfl
theorem hfence : ∀ s, fenceModules? pw s = some s := fun s => by kernel_rfl
theorem hsize : ∀ w : World, ((boot_heap w.params).isNs mainGlobals && (Array.size ((Array.mk []) : Array GenState)) == 0, (boot_heap w.params).objs.size, (boot_heap w.params).nsMap mainGlobals "__annotations__") = (true, hm, hann) := fun w => by kernel_rfl
theorem hstat : ∀ w : World, (fun os => (staticsOk (importedModules pw.main.body) (boot_heap w.params) (hheap393 w.params) && namesBound pw (hheap393 w.params) && gensDone (hSz w os) && laidKept (boot_heap w.params) (hheap393 w.params))) = fun _ => true := fun w => by kernel_rfl
def viewP : Program := { pw with main := { pw.main with body := [top 0, top 2, top 3, top 4, top 5, top 7, top 8, top 9, top 10, top 11, top 12, top 13, top 14, top 15, top 17, top 18, top 19, top 21, top 22, top 24, top 25, top 27, top 28, top 29, top 30, top 31, top 32, top 33, top 34, top 35, top 36, top 37, top 39] } }
theorem kad_is : ∀ P, kad = (kfr P).map (·.1) := fun _ => by kernel_rfl
theorem hseen : ∀ w : World, (fun os => openSeen viewP [(Z "CLASS_RANGES")] (importedModules pw.main.body) (fun s => xlAt viewP [] s && recOk [] s) true (hSz w os)) = fun _ => openGood viewP [(Z "CLASS_RANGES")] := fun w => by kernel_rfl
theorem hobs : ∀ w : World, (fun os => Hook.obs (kHook kfr kad kad_is) (hSz w os)) = fun _ => Hook.val (kHook kfr kad kad_is) w := fun w => by kernel_rfl
theorem left : LeftO pw viewP [(Z "CLASS_RANGES")] (fun s => xlAt viewP [] s && recOk [] s) (Hook.obs (kHook kfr kad kad_is)) (Hook.val (kHook kfr kad kad_is)) 5752 :=
  LeftO.of_pieces (boot_open hopening (by decide +kernel) hfence) hsize hrun (by decide +kernel) (fun w => funext fun os => looks_pair (congrFun (hstat w) os) (looks_pair (congrFun (hseen w) os) (congrFun (hobs w) os)))
end
end FP
namespace FP
open PySem PySem.Spec PyProof.Rows L2 LX VM
theorem all_mk {P : Program} {w : World} {K : PySem.W.Frag} {mg : Str → Option Value} {fa CO CP CN CF C cE cB : Addr} (hfa : mg "place" = some (.ref fa)) (o_th : OthT K mg CO) (xc_OtherAnswer : XC K CO) (x_ProgramFault : XDef K mg "ProgramFault" "ProgramFault.__init__" CP d_ProgramFault_init) (s_PP : PySem.W.subIn K (.ref CP) (.ref CP) = some true) (x_NoPosition : XDef K mg "NoPosition" "NoPosition.__init__" CN d_NoPosition_init) (s_NC : PySem.W.subIn K (.ref CN) (.ref CO) = some true) (x_NoField : XDef K mg "NoField" "NoField.__init__" CF d_NoField_init) (s_NF : PySem.W.subIn K (.ref CF) (.ref CO) = some true) (g_CR : ClsG K mg w.params) (r_EMPTY_CLASS : RgG K mg "EMPTY_CLASS" []) (g_both_empty : GDef K mg "both_empty" d_both_empty) (g_holds : GDef K mg "holds" d_holds) (g_holds_before : GDef K mg "holds_before" d_holds_before) (g_holds_behind : GDef K mg "holds_behind" d_holds_behind) (g_begins : GDef K mg "begins" d_begins) (g_ends : GDef K mg "ends" d_ends) (g_border_places : GDef K mg "border_places" d_border_places) (n_NO_BYTE : NumG mg "NO_BYTE" (-1)) (k_Cursor : MkDef K mg "Cursor" "Cursor.__init__" C d_Cursor_init) (t_Cursor : CurT K C) (m_Cursor_at_end : MDef K C "at_end" "Cursor.at_end" d_Cursor_at_end) (m_Cursor_peek : MDef K C "peek" "Cursor.peek" d_Cursor_peek) (m_Cursor_sees : MDef K C "sees" "Cursor.sees" d_Cursor_sees) (m_Cursor_take : MDef K C "take" "Cursor.take" d_Cursor_take) (m_Cursor_take_sign : MDef K C "take_sign" "Cursor.take_sign" d_Cursor_take_sign) (k_EndPosition : MkDef K mg "EndPosition" "EndPosition.__init__" cE d_EndPosition_init) (t_EndPosition : EndT K cE) (k_BorderPosition : MkDef K mg "BorderPosition" "BorderPosition.__init__" cB d_BorderPosition_init) (t_BorderPosition : BorT K cB) (m_EndPosition_place_in : MDef K cE "place_in" "EndPosition.place_in" d_EndPosition_place_in) (m_BorderPosition_place_in : MDef K cB "place_in" "BorderPosition.place_in" d_BorderPosition_place_in) (n_MOST_DIGITS : NumG mg "MOST_DIGITS" (2)) (n_MOST_DISTANCE : NumG mg "MOST_DISTANCE" (60)) (n_MOST_RANK : NumG mg "MOST_RANK" (40)) (r_SINGLE_BYTES : RgG K mg "SINGLE_BYTES" [(33, 126)]) (g_read_lone_position : GDef K mg "read_lone_position" d_read_lone_position) (g_read_position : GDef K mg "read_position" d_read_position) (g_read_border : GDef K mg "read_border" d_read_border) (g_read_direction : GDef K mg "read_direction" d_read_direction) (g_read_class : GDef K mg "read_class" d_read_class) (g_read_single : GDef K mg "read_single" d_read_single) (g_read_number : GDef K mg "read_number" d_read_number) (n_MOST_FIELD_BYTES : NumG mg "MOST_FIELD_BYTES" (40)) (r_FIELD_BYTES : RgG K mg "FIELD_BYTES" [(32, 126)]) (g_check_field : GDef K mg "check_field" d_check_field) (g_place : GDef K mg "place" d_place) (z_len : mg "len" = none) (z_ord : mg "ord" = none) (z_range : mg "range" = none) :
    ∃ fd : FuncData, (∀ (s : Shared) (us : List Value), us.length = (["position", "t"] : List Str).length → BindsTo s fd ⟨us, []⟩ ((["position", "t"] : List Str).zip us)) ∧ ∀ base : Heap, K.In base → base.Ns mainGlobals mg → FnOk P w K mg base CX0 11 fa fd ["position", "t"] (spPlace K) := by
  obtain ⟨f, fd, m, F⟩ := g_place
  have e := hfa.symm.trans m
  cases e
  refine ⟨fd, ?_, fun base _ _ => ?_⟩
  · obtain ⟨oc, od, kV, doc, pm, an, cdv, ct, osl, rfl, lk, hcd⟩ := F.ex
    exact fun s us hu => match us, hu with | [_, _], _ => .of_eq rfl
  have mO : mg "OtherAnswer" = some (.ref CO) := by
    obtain ⟨_, _, h, _⟩ := o_th
    exact h
  have O : OthF P w K mg base CO := o_th.fn
  have xPF : XC K CP := by
    obtain ⟨_, _, _, M, _⟩ := x_ProgramFault
    exact M.xc
  have mP : mg "ProgramFault" = some (.ref CP) := by
    obtain ⟨_, _, h, _⟩ := x_ProgramFault
    exact h
  have xNC : XC K CN := by
    obtain ⟨_, _, _, M, _⟩ := x_NoPosition
    exact M.xc
  have xNF : XC K CF := by
    obtain ⟨_, _, _, M, _⟩ := x_NoField
    exact M.xc
  have XP := ok_PF x_ProgramFault O
  have XN := ok_NoPosition x_NoPosition O
  have XF := ok_NoField x_NoField O
  have HH := ok_holds (P := P) (w := w) (base := base) g_holds
  have CI := ok_CInit (P := P) (w := w) (base := base) k_Cursor t_Cursor
  have CE := ok_AtEnd (P := P) (w := w) (base := base) m_Cursor_at_end t_Cursor z_len
  have CPk := ok_Peek m_Cursor_peek t_Cursor CE n_NO_BYTE
  have CS := ok_Sees m_Cursor_sees t_Cursor CPk z_ord
  have CT := ok_Take m_Cursor_take t_Cursor CPk
  have CG := ok_Sign m_Cursor_take_sign t_Cursor CS CT XP
  have BE := ok_both (P := P) (w := w) (base := base) g_both_empty r_EMPTY_CLASS
  have HB := ok_before g_holds_before HH
  have HF := ok_behind g_holds_behind HH z_len
  have BG := ok_begins g_begins r_EMPTY_CLASS HB HF
  have EN := ok_ends g_ends r_EMPTY_CLASS HB HF
  have BP := ok_bord g_border_places EN BG z_len z_range
  have CK := ok_check g_check_field HH XF z_len n_MOST_FIELD_BYTES r_FIELD_BYTES
  have RS := ok_single g_read_single t_Cursor CPk CT HH XP r_SINGLE_BYTES g_CR
  have RC := ok_class g_read_class t_Cursor CS CT RS XP g_CR
  have RD := ok_dir g_read_direction t_Cursor CS CT CG
  have RN := ok_num g_read_number t_Cursor CPk CT HH XP g_CR z_len z_ord n_MOST_DIGITS
  have IE : MkFn P w K mg base CX0 1 "EndPosition" (Cs.mk cE cB 0 0).E ["self", "from_right", "distance"] (spEI cE) := ok_EI k_EndPosition t_EndPosition
  have IB : MkFn P w K mg base CX0 1 "BorderPosition" (Cs.mk cE cB 0 0).B ["self", "left", "right", "from_right", "rank"] (spBI cB) := ok_BI k_BorderPosition t_BorderPosition
  have RB := ok_border (cs := Cs.mk cE cB 0 0) g_read_border t_Cursor RC CG BE RD RN IB XP n_MOST_RANK
  have RPo := ok_posn (cs := Cs.mk cE cB 0 0) g_read_position t_Cursor CS RB RD RN IE n_MOST_DISTANCE
  have RL := ok_loneP (cs := Cs.mk cE cB 0 0) g_read_lone_position t_Cursor CI CE RPo mP ⟨xPF, xPF, s_PP⟩ XN
  have PE := ok_plE (P := P) (w := w) (base := base) (cs := Cs.mk cE cB 0 0) m_EndPosition_place_in t_EndPosition z_len
  have PB := ok_plB (cs := Cs.mk cE cB 0 0) m_BorderPosition_place_in t_BorderPosition BP z_len
  exact ok_place F mO xc_OtherAnswer ⟨xNC, xc_OtherAnswer, s_NC⟩ ⟨xNF, xc_OtherAnswer, s_NF⟩ t_EndPosition t_BorderPosition RL CK PE PB
end FP
open PySem PySem.W PyProof.Rows
set_option maxRecDepth 100000 in
set_option maxHeartbeats 0 in
theorem PySem.Challenge.cw_fieldprograms_s07_place_holds : PySem.Challenge.rw_fieldprograms_s07_place.Holds := by
  refine holds_os (q := FP.viewP) (loose := [(PySem.Str.ofString "CLASS_RANGES")]) (Xt := fun s => xlAt FP.viewP [] s && recOk [] s) (XP := XL FP.viewP []) (Yf := Hook.obs (kHook FP.kfr FP.kad FP.kad_is)) (Ya := Hook.val (kHook FP.kfr FP.kad FP.kad_is)) (YP := Hook.says (kHook FP.kfr FP.kad FP.kad_is)) (N := 5752) FP.left (Hook.of (kHook FP.kfr FP.kad FP.kad_is)) (Hook.keeps (kHook FP.kfr FP.kad FP.kad_is)) (fun s e => xl_of s (Bool.and_eq_true_iff.mp e).1) XL.keeps (by rfl) (by rfl) (by rfl) (fun s e => recFacts_of (Bool.and_eq_true_iff.mp e).2) os_shapes (by decide +kernel) (by decide +kernel) ⟨rfl, rfl, rfl, rfl, rfl, by decide +kernel⟩ ?hw ?hc
  (case hw => exact ⟨[.list [], .list []], by decide +kernel, by decide +kernel⟩)
  k_fillS
  refine L2.walk_specK (r := PySem.Challenge.rw_fieldprograms_s07_place) (k := 11) (CX := L2.CX0) (ps := ["position", "t"]) (sp := FP.spPlace) (by decide +kernel) rfl rfl ⟨fun _ => rfl, by decide, by decide⟩ (fun w h Y => PySem.W.kIn_of Y) ?F ?S (fun _ _ _ _ z => z)
  case F =>
    intro w mg fa h Y KX G hmg
    refine' FP.all_mk hmg ?o_th ?xc_OtherAnswer ?x_ProgramFault ?s_PP ?x_NoPosition ?s_NC ?x_NoField ?s_NF ?g_CR ?r_EMPTY_CLASS ?g_both_empty ?g_holds ?g_holds_before ?g_holds_behind ?g_begins ?g_ends ?g_border_places ?n_NO_BYTE ?k_Cursor ?t_Cursor ?m_Cursor_at_end ?m_Cursor_peek ?m_Cursor_sees ?m_Cursor_take ?m_Cursor_take_sign ?k_EndPosition ?t_EndPosition ?k_BorderPosition ?t_BorderPosition ?m_EndPosition_place_in ?m_BorderPosition_place_in ?n_MOST_DIGITS ?n_MOST_DISTANCE ?n_MOST_RANK ?r_SINGLE_BYTES ?g_read_lone_position ?g_read_position ?g_read_border ?g_read_direction ?g_read_class ?g_read_single ?g_read_number ?n_MOST_FIELD_BYTES ?r_FIELD_BYTES ?g_check_field ?g_place ?z_len ?z_ord ?z_range
    (case o_th => refine' FP.oth_mk KX G ?q0_e ?q0_g ?q0_r ?q0_i ?q0_kp ?q0_l ?q0_c ?q0_k; (case q0_e => k_is); (case q0_g => k_is); (case q0_r => k_is); (case q0_i => k_is); (case q0_kp => k_is); (case q0_l => k_is); (case q0_c => k_is); (case q0_k => k_is))
    (case xc_OtherAnswer => refine' FP.xc_mk ?q1_l ?q1_hm ?q1_sa ?q1_ga ?q1_gh ?q1_na ?q1_nk ?q1_np; (case q1_l => k_is); (case q1_hm => rfl); (case q1_sa => k_is); (case q1_ga => k_is); (case q1_gh => k_is); (case q1_na => k_is); (case q1_nk => k_is); (case q1_np => k_is))
    (case x_ProgramFault => refine' FP.xdef_mk KX G ?q2_e ?q2_xc ?q2_i ?q2_fn ?q2_kc ?q2_l ?q2_c ?q2_k; (case q2_e => k_is); (case q2_xc => refine' FP.xc_mk ?q2x_l ?q2x_hm ?q2x_sa ?q2x_ga ?q2x_gh ?q2x_na ?q2x_nk ?q2x_np; (case q2x_l => k_is); (case q2x_hm => rfl); (case q2x_sa => k_is); (case q2x_ga => k_is); (case q2x_gh => k_is); (case q2x_na => k_is); (case q2x_nk => k_is); (case q2x_np => k_is)); (case q2_i => k_is); (case q2_fn => k_is); (case q2_kc => k_is); (case q2_l => k_is); (case q2_c => k_is); (case q2_k => k_is))
    (case s_PP => k_is)
    (case x_NoPosition => refine' FP.xdef_mk KX G ?q4_e ?q4_xc ?q4_i ?q4_fn ?q4_kc ?q4_l ?q4_c ?q4_k; (case q4_e => k_is); (case q4_xc => refine' FP.xc_mk ?q4x_l ?q4x_hm ?q4x_sa ?q4x_ga ?q4x_gh ?q4x_na ?q4x_nk ?q4x_np; (case q4x_l => k_is); (case q4x_hm => rfl); (case q4x_sa => k_is); (case q4x_ga => k_is); (case q4x_gh => k_is); (case q4x_na => k_is); (case q4x_nk => k_is); (case q4x_np => k_is)); (case q4_i => k_is); (case q4_fn => k_is); (case q4_kc => k_is); (case q4_l => k_is); (case q4_c => k_is); (case q4_k => k_is))
    (case s_NC => k_is)
    (case x_NoField => refine' FP.xdef_mk KX G ?q6_e ?q6_xc ?q6_i ?q6_fn ?q6_kc ?q6_l ?q6_c ?q6_k; (case q6_e => k_is); (case q6_xc => refine' FP.xc_mk ?q6x_l ?q6x_hm ?q6x_sa ?q6x_ga ?q6x_gh ?q6x_na ?q6x_nk ?q6x_np; (case q6x_l => k_is); (case q6x_hm => rfl); (case q6x_sa => k_is); (case q6x_ga => k_is); (case q6x_gh => k_is); (case q6x_na => k_is); (case q6x_nk => k_is); (case q6x_np => k_is)); (case q6_i => k_is); (case q6_fn => k_is); (case q6_kc => k_is); (case q6_l => k_is); (case q6_c => k_is); (case q6_k => k_is))
    (case s_NF => k_is)
    (case g_CR => refine' FP.clsG_mk KX G ?q8_e ?q8_l ?q8_o ?q8_k ?q8_kl ?q8_n0 (FP.rgk1 ?q8_r0_0 ?q8_r0_1) ?q8_n1 (FP.rgk1 ?q8_r1_0 ?q8_r1_1) ?q8_n2 (FP.rgk1 ?q8_r2_0 ?q8_r2_1) ?q8_n3 (FP.rgk2 ?q8_r3_0 ?q8_r3_1 ?q8_r3_2) ?q8_n4 (FP.rgk3 ?q8_r4_0 ?q8_r4_1 ?q8_r4_2 ?q8_r4_3) ?q8_n5 (FP.rgk1 ?q8_r5_0 ?q8_r5_1) ?q8_n6 (FP.rgk0 ?q8_r6_0); (case q8_e => k_is); (case q8_l => k_is); (case q8_o => rfl); (case q8_k => exact .cons ⟨_, rfl⟩ (.cons ⟨_, rfl⟩ (.cons ⟨_, rfl⟩ (.cons ⟨_, rfl⟩ (.cons ⟨_, rfl⟩ (.cons ⟨_, rfl⟩ (.cons ⟨_, rfl⟩ .nil))))))); (case q8_kl => exact ⟨⟨_, _, rfl, rfl⟩, ⟨_, _, rfl, rfl⟩, ⟨_, _, rfl, rfl⟩, ⟨_, _, rfl, rfl⟩, ⟨_, _, rfl, rfl⟩, ⟨_, _, rfl, rfl⟩, ⟨_, _, rfl, rfl⟩, trivial⟩); (case q8_n0 => k_is); (case q8_r0_0 => k_is); (case q8_r0_1 => k_is); (case q8_n1 => k_is); (case q8_r1_0 => k_is); (case q8_r1_1 => k_is); (case q8_n2 => k_is); (case q8_r2_0 => k_is); (case q8_r2_1 => k_is); (case q8_n3 => k_is); (case q8_r3_0 => k_is); (case q8_r3_1 => k_is); (case q8_r3_2 => k_is); (case q8_n4 => k_is); (case q8_r4_0 => k_is); (case q8_r4_1 => k_is); (case q8_r4_2 => k_is); (case q8_r4_3 => k_is); (case q8_n5 => k_is); (case q8_r5_0 => k_is); (case q8_r5_1 => k_is); (case q8_n6 => k_is); (case q8_r6_0 => k_is))
    (case r_EMPTY_CLASS => refine' FP.rgG KX G ?q9_e (FP.rgk0 ?q9_l); (case q9_e => k_is); (case q9_l => k_is))
    (case g_both_empty => refine' FP.gdef_mk KX G ?q10_a ?q10_l ?q10_c ?q10_k; (case q10_a => k_is); (case q10_l => k_is); (case q10_c => k_is); (case q10_k => k_is))
    (case g_holds => refine' FP.gdef_mk KX G ?q11_a ?q11_l ?q11_c ?q11_k; (case q11_a => k_is); (case q11_l => k_is); (case q11_c => k_is); (case q11_k => k_is))
    (case g_holds_before => refine' FP.gdef_mk KX G ?q12_a ?q12_l ?q12_c ?q12_k; (case q12_a => k_is); (case q12_l => k_is); (case q12_c => k_is); (case q12_k => k_is))
    (case g_holds_behind => refine' FP.gdef_mk KX G ?q13_a ?q13_l ?q13_c ?q13_k; (case q13_a => k_is); (case q13_l => k_is); (case q13_c => k_is); (case q13_k => k_is))
    (case g_begins => refine' FP.gdef_mk KX G ?q14_a ?q14_l ?q14_c ?q14_k; (case q14_a => k_is); (case q14_l => k_is); (case q14_c => k_is); (case q14_k => k_is))
    (case g_ends => refine' FP.gdef_mk KX G ?q15_a ?q15_l ?q15_c ?q15_k; (case q15_a => k_is); (case q15_l => k_is); (case q15_c => k_is); (case q15_k => k_is))
    (case g_border_places => refine' FP.gdef_mk KX G ?q16_a ?q16_l ?q16_c ?q16_k; (case q16_a => k_is); (case q16_l => k_is); (case q16_c => k_is); (case q16_k => k_is))
    (case n_NO_BYTE => refine' FP.numG KX G ?q17_e; (case q17_e => k_is))
    (case k_Cursor => refine' FP.mkdef_mk KX G ?q18_e ⟨?q18_pg, ?q18_hd, ?q18_po, ?q18_sa⟩ ?q18_mk ?q18_i ?q18_fn ?q18_kc ?q18_l ?q18_c ?q18_k; (case q18_e => k_is); (case q18_pg => k_is); (case q18_hd => k_is); (case q18_po => k_is); (case q18_sa => k_is); (case q18_mk => k_is); (case q18_i => k_is); (case q18_fn => k_is); (case q18_kc => k_is); (case q18_l => k_is); (case q18_c => k_is); (case q18_k => k_is))
    (case t_Cursor => refine' ⟨⟨?q19_pg, ?q19_hd, ?q19_po, ?q19_sa⟩, ?q19_f0, ?q19_f1⟩; (case q19_pg => k_is); (case q19_hd => k_is); (case q19_po => k_is); (case q19_sa => k_is); (case q19_f0 => show PySem.W.findIn _ _ _ = _; k_is); (case q19_f1 => show PySem.W.findIn _ _ _ = _; k_is))
    (case m_Cursor_at_end => refine' FP.mdef_mk ?q20_a ?q20_i ?q20_l ?q20_c ?q20_k; (case q20_a => k_is); (case q20_i => k_is); (case q20_l => k_is); (case q20_c => k_is); (case q20_k => k_is))
    (case m_Cursor_peek => refine' FP.mdef_mk ?q21_a ?q21_i ?q21_l ?q21_c ?q21_k; (case q21_a => k_is); (case q21_i => k_is); (case q21_l => k_is); (case q21_c => k_is); (case q21_k => k_is))
    (case m_Cursor_sees => refine' FP.mdef_mk ?q22_a ?q22_i ?q22_l ?q22_c ?q22_k; (case q22_a => k_is); (case q22_i => k_is); (case q22_l => k_is); (case q22_c => k_is); (case q22_k => k_is))
    (case m_Cursor_take => refine' FP.mdef_mk ?q23_a ?q23_i ?q23_l ?q23_c ?q23_k; (case q23_a => k_is); (case q23_i => k_is); (case q23_l => k_is); (case q23_c => k_is); (case q23_k => k_is))
    (case m_Cursor_take_sign => refine' FP.mdef_mk ?q24_a ?q24_i ?q24_l ?q24_c ?q24_k; (case q24_a => k_is); (case q24_i => k_is); (case q24_l => k_is); (case q24_c => k_is); (case q24_k => k_is))
    (case k_EndPosition => refine' FP.mkdef_mk KX G ?q25_e ⟨?q25_pg, ?q25_hd, ?q25_po, ?q25_sa⟩ ?q25_mk ?q25_i ?q25_fn ?q25_kc ?q25_l ?q25_c ?q25_k; (case q25_e => k_is); (case q25_pg => k_is); (case q25_hd => k_is); (case q25_po => k_is); (case q25_sa => k_is); (case q25_mk => k_is); (case q25_i => k_is); (case q25_fn => k_is); (case q25_kc => k_is); (case q25_l => k_is); (case q25_c => k_is); (case q25_k => k_is))
    (case t_EndPosition => refine' ⟨⟨?q26_pg, ?q26_hd, ?q26_po, ?q26_sa⟩, ?q26_f0, ?q26_f1⟩; (case q26_pg => k_is); (case q26_hd => k_is); (case q26_po => k_is); (case q26_sa => k_is); (case q26_f0 => show PySem.W.findIn _ _ _ = _; k_is); (case q26_f1 => show PySem.W.findIn _ _ _ = _; k_is))
    (case k_BorderPosition => refine' FP.mkdef_mk KX G ?q27_e ⟨?q27_pg, ?q27_hd, ?q27_po, ?q27_sa⟩ ?q27_mk ?q27_i ?q27_fn ?q27_kc ?q27_l ?q27_c ?q27_k; (case q27_e => k_is); (case q27_pg => k_is); (case q27_hd => k_is); (case q27_po => k_is); (case q27_sa => k_is); (case q27_mk => k_is); (case q27_i => k_is); (case q27_fn => k_is); (case q27_kc => k_is); (case q27_l => k_is); (case q27_c => k_is); (case q27_k => k_is))
    (case t_BorderPosition => refine' ⟨⟨?q28_pg, ?q28_hd, ?q28_po, ?q28_sa⟩, ?q28_f0, ?q28_f1, ?q28_f2, ?q28_f3⟩; (case q28_pg => k_is); (case q28_hd => k_is); (case q28_po => k_is); (case q28_sa => k_is); (case q28_f0 => show PySem.W.findIn _ _ _ = _; k_is); (case q28_f1 => show PySem.W.findIn _ _ _ = _; k_is); (case q28_f2 => show PySem.W.findIn _ _ _ = _; k_is); (case q28_f3 => show PySem.W.findIn _ _ _ = _; k_is))
    (case m_EndPosition_place_in => refine' FP.mdef_mk ?q29_a ?q29_i ?q29_l ?q29_c ?q29_k; (case q29_a => k_is); (case q29_i => k_is); (case q29_l => k_is); (case q29_c => k_is); (case q29_k => k_is))
    (case m_BorderPosition_place_in => refine' FP.mdef_mk ?q30_a ?q30_i ?q30_l ?q30_c ?q30_k; (case q30_a => k_is); (case q30_i => k_is); (case q30_l => k_is); (case q30_c => k_is); (case q30_k => k_is))
    (case n_MOST_DIGITS => refine' FP.numG KX G ?q31_e; (case q31_e => k_is))
    (case n_MOST_DISTANCE => refine' FP.numG KX G ?q32_e; (case q32_e => k_is))
    (case n_MOST_RANK => refine' FP.numG KX G ?q33_e; (case q33_e => k_is))
    (case r_SINGLE_BYTES => refine' FP.rgG KX G ?q34_e (FP.rgk1 ?q34_l ?q34_l1); (case q34_e => k_is); (case q34_l => k_is); (case q34_l1 => k_is))
    (case g_read_lone_position => refine' FP.gdef_mk KX G ?q35_a ?q35_l ?q35_c ?q35_k; (case q35_a => k_is); (case q35_l => k_is); (case q35_c => k_is); (case q35_k => k_is))
    (case g_read_position => refine' FP.gdef_mk KX G ?q36_a ?q36_l ?q36_c ?q36_k; (case q36_a => k_is); (case q36_l => k_is); (case q36_c => k_is); (case q36_k => k_is))
    (case g_read_border => refine' FP.gdef_mk KX G ?q37_a ?q37_l ?q37_c ?q37_k; (case q37_a => k_is); (case q37_l => k_is); (case q37_c => k_is); (case q37_k => k_is))
    (case g_read_direction => refine' FP.gdef_mk KX G ?q38_a ?q38_l ?q38_c ?q38_k; (case q38_a => k_is); (case q38_l => k_is); (case q38_c => k_is); (case q38_k => k_is))
    (case g_read_class => refine' FP.gdef_mk KX G ?q39_a ?q39_l ?q39_c ?q39_k; (case q39_a => k_is); (case q39_l => k_is); (case q39_c => k_is); (case q39_k => k_is))
    (case g_read_single => refine' FP.gdef_mk KX G ?q40_a ?q40_l ?q40_c ?q40_k; (case q40_a => k_is); (case q40_l => k_is); (case q40_c => k_is); (case q40_k => k_is))
    (case g_read_number => refine' FP.gdef_mk KX G ?q41_a ?q41_l ?q41_c ?q41_k; (case q41_a => k_is); (case q41_l => k_is); (case q41_c => k_is); (case q41_k => k_is))
    (case n_MOST_FIELD_BYTES => refine' FP.numG KX G ?q42_e; (case q42_e => k_is))
    (case r_FIELD_BYTES => refine' FP.rgG KX G ?q43_e (FP.rgk1 ?q43_l ?q43_l1); (case q43_e => k_is); (case q43_l => k_is); (case q43_l1 => k_is))
    (case g_check_field => refine' FP.gdef_mk KX G ?q44_a ?q44_l ?q44_c ?q44_k; (case q44_a => k_is); (case q44_l => k_is); (case q44_c => k_is); (case q44_k => k_is))
    (case g_place => refine' FP.gdef_mk KX G ?q45_a ?q45_l ?q45_c ?q45_k; (case q45_a => k_is); (case q45_l => k_is); (case q45_c => k_is); (case q45_k => k_is))
    (case z_len => refine' PySem.W.mg_none_of KX G ?q46_e; (case q46_e => k_is))
    (case z_ord => refine' PySem.W.mg_none_of KX G ?q47_e; (case q47_e => k_is))
    (case z_range => refine' PySem.W.mg_none_of KX G ?q48_e; (case q48_e => k_is))
  case S =>
    intro K H xs a hO hwi hask hx
    obtain ⟨l1, l2, u⟩ := a
    cases hx with
    | cons h1 h2 =>
      cases h2 with
      | cons h2 h3 =>
        cases h3
        cases h1 with
        | lst s1 a1 =>
          cases h2 with
          | lst s2 a2 =>
            have e1 := L2.ints_dw l1 _ a1
            have e2 := L2.ints_dw l2 _ a2
            subst e1 e2
            have q : ((Codec.inLen 0 10000 l1 && l1.all (Codec.inInt 0 255)) && ((Codec.inLen 0 10000 l2 && l2.all (Codec.inInt 0 255)) && true)) = true := hwi
            simp only [Bool.and_eq_true] at q
            have b1 := FP.in_of q.1.2
            have b2 := FP.in_of q.2.1.2
            refine ⟨_, _, _, _, rfl, by rw [FP.bz_of l1 b1]; exact s1, by rw [List.length_map]; exact (Codec.inNat_iff.mp q.1.1).2, by rw [FP.bz_of l2 b2]; exact s2, by rw [List.length_map]; exact (Codec.inNat_iff.mp q.2.1.1).2, fun p H' hp => ?_⟩
            exact FP.dw_ans (FP.ans_of6 b1 b2) hp
#print axioms PySem.Challenge.cw_fieldprograms_s07_place_holds
end
