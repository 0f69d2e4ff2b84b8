import PyProof.Rows.All
import Wide.All
import OpenK.AllK
import Wide.FinOn
import Lean
import PyProof.EqAt
import PyProof.EqKinds
import PyProof.TupleCall
import PySem.SetTable
import PyProof.SetKind
import PyProof.SetNew
import PyProof.SetRoads
import PyProof.TupleKey
import PyProof.IsRules
import PyProof.Rows.SetFrom
import PyProof.CollectWalk
import PyProof.CollectIter
import KE.KSortTup
import PyProof.DictWalks
import PyProof.DictItems
import KE.KDictOf
import KE.KMinKey
import PyProof.Rows.CallKwBuiltin
import PyProof.Rows.Range3
import PyProof.ZipIter
import KE.KEqSeq
import PyProof.NeKinds
import KE.KRevSl
import PySem.Challenge.RW_lampcues_k82_marks
set_option Elab.async false
set_option linter.all false
-- CHANGE: your row's module here, as the last of these rows
set_option maxRecDepth 100000
namespace L2
open PySem PySem.Spec PyProof.Rows
abbrev Key := Sum Int Str
def keyIs : Key → Value → Bool
  | .inl k, v => Value.isInt k v
  | .inr x, v => Value.isStrOf x v
def keyH (w : World) : Key → Int
  | .inl k => hashInt k
  | .inr x => hashStr w x
theorem keyIs_shape : ∀ {k : Key} {v : Value}, keyIs k v = true → (∃ i t, k = Sum.inl i ∧ v = Value.int i t) ∨ (∃ x t, k = Sum.inr x ∧ v = Value.str x t)
  | .inl i, v, h => by
    obtain ⟨t, e⟩ := Value.isInt_shape (k := i) (v := v) h
    exact .inl ⟨i, t, rfl, e⟩
  | .inr x, v, h => by
    obtain ⟨t, e⟩ := Value.isStrOf_shape (x := x) (v := v) h
    exact .inr ⟨x, t, rfl, e⟩
theorem keyIs_int (i : Int) (t : Tok) : keyIs (.inl i) (.int i t) = true := by simp [keyIs, Value.isInt]
theorem keyIs_str (x : Str) (t : Tok) : keyIs (.inr x) (.str x t) = true := by simp [keyIs, Value.isStrOf]
theorem key_ll (a b : Int) : decide ((Sum.inl a : Key) = Sum.inl b) = (a == b) := by
  by_cases e : a = b
  · subst e; simp
  · have h : ¬ (Sum.inl a : Key) = Sum.inl b := fun q => e (Sum.inl.inj q)
    rw [decide_eq_false h]
    exact (beq_eq_false_iff_ne.mpr e).symm
theorem key_rr (a b : Str) : decide ((Sum.inr a : Key) = Sum.inr b) = decide (a = b) := by
  by_cases e : a = b
  · subst e; simp
  · have h : ¬ (Sum.inr a : Key) = Sum.inr b := fun q => e (Sum.inr.inj q)
    rw [decide_eq_false h, decide_eq_false e]
theorem key_lr (a : Int) (b : Str) : decide ((Sum.inl a : Key) = Sum.inr b) = false := decide_eq_false (fun q => nomatch q)
theorem key_rl (a : Str) (b : Int) : decide ((Sum.inr a : Key) = Sum.inl b) = false := decide_eq_false (fun q => nomatch q)
def mixKind (prog : Program) (w : World) : PySem.KeyKind prog w Key where
  is := keyIs
  hash := keyH w
  inj := fun v a b ha hb => by
    rcases keyIs_shape ha with ⟨i, t, rfl, rfl⟩ | ⟨x, t, rfl, rfl⟩
    · rcases keyIs_shape hb with ⟨j, u, rfl, e⟩ | ⟨y, u, rfl, e⟩
      · injection e with e1 _; rw [e1]
      · exact nomatch e
    · rcases keyIs_shape hb with ⟨j, u, rfl, e⟩ | ⟨y, u, rfl, e⟩
      · exact nomatch e
      · injection e with e1 _; rw [e1]
  byValue := fun k v h => by
    rcases keyIs_shape h with ⟨i, t, rfl, rfl⟩ | ⟨x, t, rfl, rfl⟩ <;> rfl
  pyHash := fun hv h => by
    rcases keyIs_shape hv with ⟨i, t, rfl, rfl⟩ | ⟨x, t, rfl, rfl⟩
    · exact wpAny_pyHash_int h
    · exact wpAny_pyHash_str h
  eqBool := fun hu hv h => by
    rcases keyIs_shape hu with ⟨i, t, rfl, rfl⟩ | ⟨x, t, rfl, rfl⟩
    · rcases keyIs_shape hv with ⟨j, u, rfl, rfl⟩ | ⟨y, u, rfl, rfl⟩
      · rw [key_ll] at h; exact wpAny_eqBool_int h
      · rw [key_lr] at h; exact SeqAt.EqAt.int_str i t y u _ _ _ _ h
    · rcases keyIs_shape hv with ⟨j, u, rfl, rfl⟩ | ⟨y, u, rfl, rfl⟩
      · rw [key_rl] at h; exact SeqAt.EqAt.str_int x t j u _ _ _ _ h
      · rw [key_rr] at h; exact wpAny_eqBool_str h
  «strs» := fun k x t v h => by
    rcases keyIs_shape h with ⟨i, u, rfl, e⟩ | ⟨y, u, rfl, e⟩
    · exact nomatch e
    · injection e with e1 _
      subst e1
      cases v <;> rfl
theorem mixKind_int (prog : Program) (w : World) (i : Int) (t : Tok) : (mixKind prog w).is (.inl i) (.int i t) = true := keyIs_int i t
theorem mixKind_str (prog : Program) (w : World) (x : Str) (t : Tok) : (mixKind prog w).is (.inr x) (.str x t) = true := keyIs_str x t
end L2
namespace L2
open PySem PySem.Spec PyProof.Rows
inductive V where
  | non | bl (b : Bool) | int (i : Int) | str (x : Str) | byt (b : Array UInt8) | flt (b : UInt64) | ref (a : Addr) | ty (n : String)
  deriving DecidableEq
def RelV : V → Value → Prop
  | .non, u => u = Value.none
  | .bl b, u => u = Value.bool b
  | .int i, u => ∃ t, u = Value.int i t
  | .str x, u => ∃ t, u = Value.str x t
  | .byt b, u => ∃ t, u = Value.bytes b t
  | .flt b, u => ∃ t, u = Value.float b t
  | .ref a, u => u = Value.ref a
  | .ty n, u => u = Value.type n
abbrev Vals : List V → List Value → Prop := Paired RelV
theorem Vals.length {xs : List V} {us : List Value} (r : Vals xs us) : xs.length = us.length := Paired.length r
theorem Vals.get : ∀ {xs : List V} {us : List Value} {i : Nat} {x : V}, Vals xs us → xs[i]? = some x → ∃ u, us[i]? = some u ∧ RelV x u
  | _, _, _, _, .nil, e => by simp at e
  | _, _, 0, _, .cons r _, e => by simp at e; subst e; exact ⟨_, rfl, r⟩
  | _, _, i + 1, x, .cons _ t, e => by
    obtain ⟨u, h1, h2⟩ := Vals.get (i := i) (x := x) t (by simpa using e)
    exact ⟨u, by simpa using h1, h2⟩
theorem Vals.set {x : V} {u : Value} (r : RelV x u) : ∀ {xs : List V} {us : List Value} (i : Nat), Vals xs us → Vals (xs.set i x) (us.set i u)
  | _, _, _, .nil => .nil
  | _, _, 0, .cons _ t => .cons r t
  | _, _, i + 1, .cons q t => .cons q (Vals.set r i t)
theorem Vals.append : ∀ {xs ys : List V} {us ws : List Value}, Vals xs us → Vals ys ws → Vals (xs ++ ys) (us ++ ws)
  | _, _, _, _, .nil, s => s
  | _, _, _, _, .cons r t, s => .cons r (Vals.append t s)
theorem Vals.take : ∀ {xs : List V} {us : List Value} (n : Nat), Vals xs us → Vals (xs.take n) (us.take n)
  | _, _, 0, _ => .nil
  | _, _, _ + 1, .nil => .nil
  | _, _, n + 1, .cons r t => .cons r (Vals.take n t)
theorem Vals.drop : ∀ {xs : List V} {us : List Value} (n : Nat), Vals xs us → Vals (xs.drop n) (us.drop n)
  | _, _, 0, r => r
  | _, _, _ + 1, .nil => .nil
  | _, _, n + 1, .cons _ t => Vals.drop n t
theorem Vals.none_of : ∀ {xs : List V} {us : List Value} {i : Nat}, Vals xs us → xs[i]? = none → us[i]? = none := fun {xs us i} r e => by
  have h1 := r.length
  have h2 : xs.length ≤ i := List.getElem?_eq_none_iff.mp e
  exact List.getElem?_eq_none_iff.mpr (by omega)
def RelO : Option V → Option Value → Prop
  | some v, some u => RelV v u
  | none, none => True
  | _, _ => False
def KV {κ : Type} : List (κ × V) → List (κ × Value) → Prop := Paired fun (p : κ × V) (q : κ × Value) => p.1 = q.1 ∧ RelV p.2 q.2
def kV : Key → V
  | .inl i => .int i
  | .inr x => .str x
inductive HO where
  | lst (xs : List V)
  | tup (xs : List V)
  | dK (kvs : List (Key × V)) | dT (kvs : List (List Key × V))
  | set (S : Int → Bool) (n : Nat)
  | ins (C dx : Addr) (fs : List (Str × V))
  | own (x : Addr)
  | xd (fs : List (Str × V))
  | met (f x : Addr)
  | rng (lo hi : Int)
  | frz (o : Obj) (u : HO)
  | tbl (ps : Array Value)
  | ext (φ : Heap → Prop)
abbrev Hp := Addr → Option HO
def upd (H : Hp) (a : Addr) (o : HO) : Hp := fun b => if b = a then some o else H b
theorem upd_same {H : Hp} {a : Addr} {o : HO} : upd H a o a = some o := by unfold upd; rw [if_pos rfl]
theorem upd_ne {H : Hp} {a b : Addr} {o : HO} (h : b ≠ a) : upd H a o b = H b := by unfold upd; rw [if_neg h]
theorem ne_of {H : Hp} {a b : Addr} {o u : HO} (h : H a = some o) (h' : H b = some u) (d : o ≠ u) : a ≠ b := by
  intro e; subst e; rw [h] at h'; exact d (Option.some.inj h')
theorem ne_of_none {H : Hp} {a b : Addr} {o : HO} (h : H a = some o) (h' : H b = none) : a ≠ b := by
  intro e; subst e; rw [h] at h'; cases h'
section
variable (P : Program) (w : World)
def ObjOk (H : Hp) (h : Heap) (a : Addr) : HO → Prop
  | .lst xs => xs.length ≤ sizeLine ∧ ∃ (its : List Value) (n : Nat), Vals xs its ∧ h.get? a = some { cls := .type "list", data := .seq its.toArray n }
  | .tup xs => xs.length ≤ sizeLine ∧ ∃ its : List Value, Vals xs its ∧ IsTup h a its.toArray
  | .dK kvs => kvs.length ≤ sizeLine ∧ (a == sysModules) = false ∧ ∃ vs, KV kvs vs ∧ h.DictOf (mixKind P w) a vs
  | .dT kvs => kvs.length ≤ sizeLine ∧ (a == sysModules) = false ∧ ∃ xs : List (List Key × Addr × Value),
      Paired (fun (p : List Key × V) (q : List Key × Addr × Value) => p.1 = q.1 ∧ H q.2.1 = some (.tup (p.1.map kV)) ∧ RelV p.2 q.2.2) kvs xs ∧
      ∃ o es ep, h.get? a = some o ∧ o.ExactDict ∧ o.data = .dict es ep ∧ es.toList = xs.map (entryOfKey (tupleKind (mixKind P w))) ∧ (xs.map (·.1)).Nodup
  | .set S n => h.SetOf (intKind P w) a S n
  | .ins C dx fs => H dx = some (.own a) ∧ fs.length ≤ 1000 ∧ dx ≠ a ∧ h.get? a = some (PySem.W.instObj C dx) ∧
      ∃ mA, h.Ns1 dx mA ∧ (∀ f, RelO (fs.lookup f) (mA f)) ∧ PySem.Within mA (fs.map (·.1))
  | .own _ => ∃ o, h.get? a = some o
  | .xd fs => ∃ mA, h.Ns1 a mA ∧ ∀ f, RelO (fs.lookup f) (mA f)
  | .rng lo hi => ∃ t u v, h.get? a = some { cls := .type "range", data := .fields #[.int lo t, .int hi u, .int 1 v] }
  | .frz o u => h.get? a = some o ∧ ObjOk H h a u
  | .tbl ps => h.get? a = some { cls := .none, data := .fields ps }
  | .met f x => h.get? a = some (PySem.W.methodObj (.ref f) (.ref x))
  | .ext φ => φ h ∧ (∃ o, h.get? a = some o) ∧ ∀ h1 h2 : Heap, φ h1 → (∀ o, h1.get? a = some o → h2.get? a = some o) → φ h2
def HOk (H : Hp) (h : Heap) : Prop := ∀ a o, H a = some o → ObjOk P w H h a o
end
section
variable {P : Program} {w : World} {H H' : Hp} {h h' : Heap} {a : Addr} {o : HO}
theorem ObjOk.lt (x : ObjOk P w H h a o) : a < h.objs.size := by
  cases o with
  | lst xs => obtain ⟨_, _, _, _, e⟩ := x; exact Heap.lt_size e
  | tup xs => obtain ⟨_, _, _, p⟩ := x; exact p.lt
  | dK kvs => obtain ⟨_, _, _, _, o, _, _, e, _⟩ := x; exact Heap.lt_size e
  | dT kvs => obtain ⟨_, _, _, _, o, _, _, e, _⟩ := x; exact Heap.lt_size e
  | set S n => obtain ⟨o, _, _, _, e, _⟩ := x; exact Heap.lt_size e
  | ins C dx fs => obtain ⟨_, _, _, e, _⟩ := x; exact Heap.lt_size e
  | own y => obtain ⟨_, e⟩ := x; exact Heap.lt_size e
  | xd fs => obtain ⟨_, ⟨_, _, _, e, _⟩, _⟩ := x; exact Heap.lt_size e
  | rng lo hi => obtain ⟨_, _, _, e⟩ := x; exact Heap.lt_size e
  | frz ob u => obtain ⟨e, _⟩ := x; exact Heap.lt_size e
  | tbl ps => exact Heap.lt_size (show h.get? a = some _ from x)
  | met f y => exact Heap.lt_size (show h.get? a = some _ from x)
  | ext φ => obtain ⟨_, ⟨_, e⟩, _⟩ := x; exact Heap.lt_size e
theorem Paired.mapP {α β : Type} {F G : α → β → Prop} : ∀ {l₁ : List α} {l₂ : List β}, Paired F l₁ l₂ → (∀ a b, F a b → G a b) → Paired G l₁ l₂
  | _, _, .nil, _ => .nil
  | _, _, .cons r t, f => .cons (f _ _ r) (Paired.mapP t f)
theorem ObjOk.stay (x : ObjOk P w H h a o) (k : ∀ b u, (b = a ∨ H b = some (.own a)) → h.get? b = some u → h'.get? b = some u)
    (ho : ∀ b, H b = some (.own a) → H' b = some (.own a)) (ht : ∀ b xs, H b = some (.tup xs) → H' b = some (.tup xs)) : ObjOk P w H' h' a o := by
  induction o with
  | lst xs => obtain ⟨z, its, n, r, e⟩ := x; exact ⟨z, its, n, r, k _ _ (.inl rfl) e⟩
  | tup xs => obtain ⟨z, its, r, ob, e, c⟩ := x; exact ⟨z, its, r, ob, k _ _ (.inl rfl) e, c⟩
  | dK kvs => obtain ⟨z, y, vs, r, ob, es, ep, e, c⟩ := x; exact ⟨z, y, vs, r, ob, es, ep, k _ _ (.inl rfl) e, c⟩
  | dT kvs =>
    obtain ⟨z, y, xs, r, ob, es, ep, e, c⟩ := x
    exact ⟨z, y, xs, Paired.mapP r fun p q z => ⟨z.1, ht _ _ z.2.1, z.2.2⟩, ob, es, ep, k _ _ (.inl rfl) e, c⟩
  | set S n => obtain ⟨ob, es, ep, t, e, c⟩ := x; exact ⟨ob, es, ep, t, k _ _ (.inl rfl) e, c⟩
  | ins C dx fs =>
    obtain ⟨d, z, ne, e, mA, ⟨od, es, ep, e2, c⟩, r⟩ := x
    exact ⟨ho _ d, z, ne, k _ _ (.inl rfl) e, mA, ⟨od, es, ep, k _ _ (.inr d) e2, c⟩, r⟩
  | own y => obtain ⟨ob, e⟩ := x; exact ⟨ob, k _ _ (.inl rfl) e⟩
  | xd fs => obtain ⟨mA, ⟨od, es, ep, e, c⟩, r⟩ := x; exact ⟨mA, ⟨od, es, ep, k _ _ (.inl rfl) e, c⟩, r⟩
  | rng lo hi => obtain ⟨t, u, v, e⟩ := x; exact ⟨t, u, v, k _ _ (.inl rfl) e⟩
  | frz ob u ih => obtain ⟨e, q⟩ := x; exact ⟨k _ _ (.inl rfl) e, ih q⟩
  | tbl ps =>
    have e : h.get? a = some { cls := .none, data := .fields ps } := x
    show h'.get? a = some { cls := .none, data := .fields ps }
    exact k a _ (.inl rfl) e
  | met f y =>
    have e : h.get? a = some (PySem.W.methodObj (.ref f) (.ref y)) := x
    show h'.get? a = some (PySem.W.methodObj (.ref f) (.ref y))
    exact k a _ (.inl rfl) e
  | ext φ => obtain ⟨p, ⟨o, e⟩, st⟩ := x; exact ⟨st _ _ p fun o q => k _ _ (.inl rfl) q, ⟨o, k _ _ (.inl rfl) e⟩, st⟩
theorem HOk.lt (x : HOk P w H h) (e : H a = some o) : a < h.objs.size := (x a o e).lt
theorem HOk.fresh (x : HOk P w H h) (e : h.objs.size ≤ a) : H a = none := by
  cases q : H a with
  | none => rfl
  | some u => exact absurd (Nat.lt_of_lt_of_le (x.lt q) e) (Nat.lt_irrefl _)
theorem HOk.kept (x : HOk P w H h) (k : ∀ b u, h.get? b = some u → h'.get? b = some u) : HOk P w H h' := fun a o e =>
  (x a o e).stay (fun b u _ q => k b u q) (fun _ q => q) fun _ _ q => q
theorem HOk.laid (x : HOk P w H h) (k : ∀ b u, h.get? b = some u → h'.get? b = some u) (hp : h.objs.size ≤ a) (new : ObjOk P w (upd H a o) h' a o) : HOk P w (upd H a o) h' := fun b u e => by
  have hn := x.fresh hp
  by_cases hb : b = a
  · subst hb; rw [upd_same] at e; cases e; exact new
  · rw [upd_ne hb] at e
    exact (x b u e).stay (fun c v _ q => k c v q) (fun c q => by rw [upd_ne (ne_of_none q hn)]; exact q) fun c xs q => by rw [upd_ne (ne_of_none q hn)]; exact q
end
def Rd (H : Hp) (a : Addr) (u : HO) : Prop := H a = some u ∨ ∃ o, H a = some (.frz o u)
theorem Rd.of {H : Hp} {a : Addr} {u : HO} (h : H a = some u) : Rd H a u := .inl h
theorem Rd.ok {P : Program} {w : World} {H : Hp} {h : Heap} {a : Addr} {u : HO} (r : Rd H a u) (x : HOk P w H h) : ObjOk P w H h a u := by
  rcases r with r | ⟨o, r⟩
  · exact x a u r
  · obtain ⟨_, q⟩ := x a _ r
    exact q
def Mut : Option HO → Prop
  | some (.lst _) => True
  | some (.dK _) => True
  | some (.dT _) => True
  | some (.set _ _) => True
  | some (.ins _ _ _) => True
  | some (.ext _) => True
  | _ => False
section
variable {P : Program} {w : World} {H : Hp} {h h' : Heap} {x e : Addr} {o' : HO}
theorem HOk.write (ok : HOk P w H h) (mu : Mut (H x)) (he : e = x ∨ H e = some (.own x)) (k : ∀ b u, b ≠ e → h.get? b = some u → h'.get? b = some u) (heo : ∃ u, h'.get? e = some u)
    (new : ObjOk P w (upd H x o') h' x o') : HOk P w (upd H x o') h' := fun b u q => by
  have nown : ∀ c y, H c = some (.own y) → c ≠ x := fun c y r z => by subst z; rw [r] at mu; exact mu
  have ntup : ∀ c xs, H c = some (.tup xs) → c ≠ x := fun c xs r z => by subst z; rw [r] at mu; exact mu
  by_cases hb : b = x
  · subst hb; rw [upd_same] at q; cases q; exact new
  · rw [upd_ne hb] at q
    by_cases hbe : b = e
    · have q' : H b = some (.own x) := by
        rcases he with z | z
        · exact absurd (hbe.trans z) hb
        · rw [hbe]; exact z
      rw [q] at q'; cases q'
      obtain ⟨v, hv⟩ := heo
      exact ⟨v, by rw [hbe]; exact hv⟩
    · refine (ok b u q).stay (fun c v hc r => k c v ?_ r) (fun c r => by rw [upd_ne (nown c b r)]; exact r) fun c xs r => by rw [upd_ne (ntup c xs r)]; exact r
      rcases hc with rfl | hc
      · exact hbe
      · rintro rfl
        rcases he with z | z
        · exact nown c b hc z
        · rw [hc] at z; cases z; exact hb rfl
end
structure Un (fs ex : List Addr) (H H' : Hp) (h h' : Heap) : Prop where
  keep : ∀ b o, h.get? b = some o → H b = none → b ∉ fs → b ∉ ex → h'.get? b = some o
  slot : ∀ b o, h.get? b = some o → H b = none → b ∈ fs → b ∉ ex → ∃ sl, h'.get? b = some { o with slots := sl }
  free : ∀ b o, h.get? b = some o → H b = none → b ∉ ex → H' b = none
  there : ∀ b o, h.get? b = some o → b ∉ ex → ∃ o', h'.get? b = some o'
  tups : ∀ b xs, H b = some (.tup xs) → H' b = some (.tup xs)
  frzs : ∀ b o u, H b = some (.frz o u) → H' b = some (.frz o u)
  tbls : ∀ b ps, H b = some (.tbl ps) → ∃ more, H' b = some (.tbl (ps ++ more))
section
variable {fs fs' ex ex' : List Addr} {H H1 H2 : Hp} {h h1 h2 h' : Heap} {a x e : Addr} {o : HO}
theorem Un.any (u : Un fs ex H H1 h h1) {b : Addr} {ob : Obj} (q : h.get? b = some ob) (n : H b = none) (hx : b ∉ ex) : ∃ sl, h1.get? b = some { ob with slots := sl } := by
  by_cases hb : b ∈ fs
  · exact u.slot b ob q n hb hx
  · exact ⟨ob.slots, u.keep b ob q n hb hx⟩
theorem Un.trans (a : Un fs ex H H1 h h1) (b : Un fs ex H1 H2 h1 h2) : Un fs ex H H2 h h2 where
  keep := fun c ob q n hc hx => b.keep c ob (a.keep c ob q n hc hx) (a.free c ob q n hx) hc hx
  slot := fun c ob q n hc hx => by
    obtain ⟨sl, e1⟩ := a.slot c ob q n hc hx
    obtain ⟨sl', e2⟩ := b.slot c _ e1 (a.free c ob q n hx) hc hx
    exact ⟨sl', e2⟩
  free := fun c ob q n hx => by
    obtain ⟨o', e1⟩ := a.there c ob q hx
    exact b.free c o' e1 (a.free c ob q n hx) hx
  there := fun c ob q hx => by
    obtain ⟨o', e1⟩ := a.there c ob q hx
    exact b.there c o' e1 hx
  tups := fun c xs q => b.tups c xs (a.tups c xs q)
  frzs := fun c ob xs q => b.frzs c ob xs (a.frzs c ob xs q)
  tbls := fun c ps q => by
    obtain ⟨m1, e1⟩ := a.tbls c ps q
    obtain ⟨m2, e2⟩ := b.tbls c _ e1
    exact ⟨m1 ++ m2, by rw [e2, Array.append_assoc]⟩
theorem Un.kept (k : ∀ b u, h.get? b = some u → h'.get? b = some u) : Un fs ex H H h h' :=
  ⟨fun b ob q _ _ _ => k b ob q, fun b ob q _ _ _ => ⟨ob.slots, k b ob q⟩, fun _ _ _ n _ => n, fun b ob q _ => ⟨ob, k b ob q⟩, fun _ _ q => q, fun _ _ _ q => q, fun _ ps q => ⟨#[], by rw [q]; simp⟩⟩
theorem Un.refl : Un fs ex H H h h := Un.kept fun _ _ q => q
theorem Un.laid (k : ∀ b u, h.get? b = some u → h'.get? b = some u) (hp : h.objs.size ≤ a) (hn : H a = none) : Un fs ex H (upd H a o) h h' where
  keep := fun b u q _ _ _ => k b u q
  slot := fun b u q _ _ _ => ⟨u.slots, k b u q⟩
  free := fun b u q n _ => by rw [upd_ne (Nat.ne_of_lt (Nat.lt_of_lt_of_le (Heap.lt_size q) hp))]; exact n
  there := fun b u q _ => ⟨u, k b u q⟩
  tups := fun b xs q => by rw [upd_ne (ne_of_none q hn)]; exact q
  frzs := fun b u xs q => by rw [upd_ne (ne_of_none q hn)]; exact q
  tbls := fun b ps q => ⟨#[], by rw [upd_ne (ne_of_none q hn), q]; simp⟩
theorem Un.write (mu : Mut (H x)) (he : e = x ∨ H e = some (.own x)) (k : ∀ b u, b ≠ e → h.get? b = some u → h'.get? b = some u) (heo : ∃ u, h'.get? e = some u) : Un fs ex H (upd H x o) h h' := by
  have hx : ∀ b, H b = none → b ≠ x := fun b n z => by subst z; rw [n] at mu; exact mu
  have hb : ∀ b, H b = none → b ≠ e := fun b n z => by
    subst z
    rcases he with r | r
    · exact hx b n r
    · rw [n] at r; cases r
  have hm : ∀ b u, H b = some u → ¬ Mut (some u) → b ≠ x := fun b u q nm z => by subst z; rw [q] at mu; exact nm mu
  refine ⟨fun b u q n _ _ => k b u (hb b n) q, fun b u q n _ _ => ⟨u.slots, k b u (hb b n) q⟩, fun b u q n _ => by rw [upd_ne (hx b n)]; exact n, fun b u q _ => ?_,
    fun b xs q => by rw [upd_ne (hm b _ q fun z => z)]; exact q, fun b u xs q => by rw [upd_ne (hm b _ q fun z => z)]; exact q, fun b ps q => ⟨#[], by rw [upd_ne (hm b _ q fun z => z), q]; simp⟩⟩
  by_cases hbe : b = e
  · subst hbe; exact heo
  · exact ⟨u, k b u hbe q⟩
theorem Un.mono (u : Un fs ex H H1 h h1) (hs : ∀ b ∈ fs, b ∈ fs') (hx : ∀ b ∈ ex, b ∈ ex') : Un fs' ex' H H1 h h1 :=
  ⟨fun b ob q n hb he => u.keep b ob q n (fun z => hb (hs b z)) fun z => he (hx b z), fun _ _ q n _ he => u.any q n fun z => he (hx _ z), fun b ob q n he => u.free b ob q n fun z => he (hx b z), fun b ob q he => u.there b ob q fun z => he (hx b z), u.tups, u.frzs, u.tbls⟩
end
def trk (h : Heap) (H : Hp) : List Addr := (List.range h.objs.size).filter fun a => (H a).isSome
def hidT (h : Heap) (H : Hp) : Heap := PySem.W.hideAll h (trk h H)
theorem hidT_size (h : Heap) (H : Hp) : (hidT h H).objs.size = h.objs.size := PySem.W.hideAll_size _ _
theorem hidT_get {h : Heap} {H : Hp} {b : Addr} {o : Obj} (e : h.get? b = some o) (n : H b = none) : (hidT h H).get? b = some o :=
  PySem.W.hideAll_get _ e fun hm => by
    have q : (H b).isSome = true := (List.mem_filter.mp hm).2
    rw [n] at q; simp at q
theorem of_hidT {h : Heap} {H : Hp} {b : Addr} {o : Obj} (e : (hidT h H).get? b = some o) : h.get? b = some o ∧ H b = none := by
  have e' : h.get? b = some o := PySem.W.of_hideAll (trk h H) e
  refine ⟨e', ?_⟩
  cases q : H b with
  | none => rfl
  | some x =>
    have hm : b ∈ trk h H := List.mem_filter.mpr ⟨List.mem_range.mpr (Heap.lt_size e'), by simp [q]⟩
    have z : (hidT h H).get? b = none := PySem.W.hideAll_none (trk h H) hm
    rw [z] at e; cases e
def allNews (g h : Heap) (L : Addr) : List (Addr × Obj) := (List.range h.objs.size).filterMap fun a => if a = L ∨ (g.get? a).isSome = true then none else (h.get? a).map fun o => (a, o)
def rest (g h : Heap) (L d : Addr) : List (Addr × Obj) := (allNews g h L).filter fun p => decide (p.1 ≠ d)
end L2
namespace L2
open PySem PySem.Spec PyProof.Rows
structure Mod (K : PySem.W.Frag) (mg : Str → Option Value) (base : Heap) : Prop where
  kin : K.In base
  glob : base.Ns mainGlobals mg
  blt : ∃ mb, base.Ns builtinsNs mb ∧ ∀ x : Str, x ≠ "__name__" → mb x = bootBuiltins x
  nolimit : base.NoLimit
structure Cx where
  prog : Program
  w : World
  K : PySem.W.Frag
  mg : Str → Option Value
  base : Heap
  A : Around
  N : List Str
  s₀ : Shared
  H₀ : Hp
  env : Env
  outer : List Env
  stack : List Env
  ex : List Addr
  fn : Str → Bool
  calm : Bool
  pn : List (Addr × Obj)
  xe : Value → Shared → Prop
def frs (l : List Env) : List Addr := l.filterMap (·.frame)
abbrev Cx.fs (X : Cx) : List Addr := frs X.outer
def Vis (sc : Scope) (x : Str) : Prop := sc.names.lookup x = some .local ∨ sc.names.lookup x = some .cell ∨ sc.names.lookup x = some .free
def Loc (sc : Scope) (x : Str) : Prop := sc.names.lookup x = some .local ∨ sc.names.lookup x = some .cell
def Look (env : Env) (h : Heap) (m : Str → Option Value) (x : Str) (u : Value) : Prop :=
  (env.kindOf x = some .local ∧ m x = some u) ∨ ((env.kindOf x = some .cell ∨ env.kindOf x = some .free) ∧ ∃ c, env.cells.lookup x = some c ∧ h.IsCell c (some u))
structure Cx.Ok (X : Cx) : Prop where
  mod : Mod X.K X.mg X.base
  kind : X.env.scope.kind = .function
  glob : X.env.globals = mainGlobals
  blt : X.env.builtins = builtinsNs
  above : X.s₀.heap.objs.size ≤ X.env.locals
  inj : ∀ x y c, X.env.cells.lookup x = some c → X.env.cells.lookup y = some c → x = y
  has : ∀ x, (X.env.kindOf x = some .cell ∨ X.env.kindOf x = some .free) → ∃ c, X.env.cells.lookup x = some c
  cab : ∀ x c, X.fn x = true → X.env.cells.lookup x = some c → X.s₀.heap.objs.size ≤ c
  hd : X.calm = true → X.A.handled = none
  frames : X.A.frames = some X.stack
  stk : X.stack = X.outer ∨ (X.stack = X.env :: X.outer ∧ X.env.frame = some X.env.locals)
  exf : ∀ b ∈ X.ex, b ≠ X.env.locals ∧ ∀ x c, X.env.cells.lookup x = some c → c ≠ b
  bs : ∀ b o, X.base.get? b = some o → X.s₀.heap.get? b = some o ∧ X.H₀ b = none
  bsz : X.base.objs.size ≤ X.s₀.heap.objs.size
  noex : ∀ b o, X.base.get? b = some o → b ∉ X.ex
  exfs : ∀ b ∈ X.ex, b ∉ X.fs
  funs : X.s₀.heap.FunFrames X.base X.outer
  frf : ∀ b ∈ X.fs, X.H₀ b = none
structure Inv (X : Cx) (pins : List (Addr × Obj)) (σ : List (Option V)) (H : Hp) (s : Shared) : Prop where
  ok : X.Ok
  os : s.os = X.s₀.os
  bare : AllBare s.gens
  base : Un X.fs X.ex X.H₀ H X.s₀.heap s.heap
  loc : ∃ m, s.heap.Ns X.env.locals m ∧ ∀ (i : Nat) (x : Str) (v : V), X.N[i]? = some x → σ[i]? = some (some v) → Vis X.env.scope x → ∃ u, RelV v u ∧ Look X.env s.heap m x u
  cell : ∀ x c, X.env.cells.lookup x = some c → ∃ v, s.heap.IsCell c v
  free : H X.env.locals = none
  freeC : ∀ x c, X.env.cells.lookup x = some c → H c = none
  pin : ∀ p ∈ X.pn ++ pins, s.heap.get? p.1 = some p.2 ∧ H p.1 = none ∧ p.1 ≠ X.env.locals ∧ p.1 ∉ X.fs ∧ ∀ v, p.2.data ≠ .cell v
  hok : HOk X.prog X.w H s.heap
  len : σ.length = X.N.length
section
variable {X : Cx} {pins : List (Addr × Obj)} {σ : List (Option V)} {H H' : Hp} {s : Shared} {h' : Heap}
theorem Cx.Ok.nofr (ok : X.Ok) {b : Addr} {o : Obj} (e : X.base.get? b = some o) : b ∉ X.fs := fun hb => by
  have := (ok.funs.mem hb).1
  rw [e] at this; cases this
theorem Inv.bs (I : Inv X pins σ H s) : ∀ b o, X.base.get? b = some o → s.heap.get? b = some o ∧ H b = none := fun b o e =>
  ⟨I.base.keep b o (I.ok.bs b o e).1 (I.ok.bs b o e).2 (I.ok.nofr e) (I.ok.noex b o e), I.base.free b o (I.ok.bs b o e).1 (I.ok.bs b o e).2 (I.ok.noex b o e)⟩
theorem Inv.bk (I : Inv X pins σ H s) : ∀ b o, X.base.get? b = some o → s.heap.get? b = some o := fun b o e => (I.bs b o e).1
theorem Inv.mod (I : Inv X pins σ H s) : Mod X.K X.mg X.base := I.ok.mod
theorem Inv.kIn (I : Inv X pins σ H s) : X.K.In s.heap := I.ok.mod.kin.keeps I.bk
theorem Inv.nolimit (I : Inv X pins σ H s) : s.heap.NoLimit := I.ok.mod.nolimit.keeps I.bk
theorem Inv.lt (I : Inv X pins σ H s) : X.env.locals < s.heap.objs.size := let ⟨_, hn, _⟩ := I.loc; hn.lt
theorem Inv.sz (I : Inv X pins σ H s) : X.s₀.heap.objs.size ≤ s.heap.objs.size := Nat.le_trans I.ok.above (Nat.le_of_lt I.lt)
theorem Inv.nofs (I : Inv X pins σ H s) {a : Addr} (h : s.heap.objs.size ≤ a) : a ∉ X.fs := fun hb => by
  obtain ⟨_, o, ho, _⟩ := I.ok.funs.mem hb
  exact absurd (Nat.lt_of_lt_of_le (Heap.lt_size ho) (Nat.le_trans I.sz h)) (Nat.lt_irrefl _)
theorem Inv.cne (I : Inv X pins σ H s) : ∀ x c, X.env.cells.lookup x = some c → c ≠ X.env.locals := fun x c e z => by
  obtain ⟨v, o, ho, hd⟩ := I.cell x c e
  obtain ⟨m, ⟨o', es, ep, ho', hd', _⟩, _⟩ := I.loc
  rw [z, ho'] at ho; cases ho; rw [hd'] at hd; cases hd
theorem Inv.funs (I : Inv X pins σ H s) : s.heap.FunFrames X.base X.outer := by
  have all : ∀ (l : List Env), (∀ b ∈ frs l, b ∈ X.fs) → X.s₀.heap.FunFrames X.base l → s.heap.FunFrames X.base l := by
    intro l
    induction l with
    | nil => intro _ _; trivial
    | cons env r ih =>
      intro hs hl
      obtain ⟨hk, ⟨L, o, hf, hn, ho, hd⟩, hr⟩ := hl
      have hL : L ∈ X.fs := hs L (by unfold frs; rw [List.filterMap_cons, hf]; exact List.mem_cons_self)
      obtain ⟨sl, e⟩ := I.base.slot L o ho (I.ok.frf L hL) hL fun z => I.ok.exfs L z hL
      exact ⟨hk, ⟨L, _, hf, hn, e, hd⟩, ih (fun b hb => hs b (by unfold frs; rw [List.filterMap_cons, hf]; exact List.mem_cons_of_mem _ hb)) hr⟩
  exact all X.outer (fun _ hb => hb) I.ok.funs
theorem Inv.stack (I : Inv X pins σ H s) : s.heap.FunFrames X.base X.stack := by
  rcases I.ok.stk with e | ⟨e, hf⟩
  · rw [e]; exact I.funs
  · rw [e]
    obtain ⟨m, hn, _⟩ := I.loc
    refine .cons (by rw [I.ok.kind]; decide) hf hn ?_ I.funs
    exact Heap.get?_none_of_le (Nat.le_trans I.ok.bsz I.ok.above)
theorem Inv.stkSub (I : Inv X pins σ H s) : ∀ b ∈ frs X.stack, b ∈ X.env.locals :: X.fs := fun b hb => by
  rcases I.ok.stk with e | ⟨e, hf⟩
  · rw [e] at hb; exact List.mem_cons_of_mem _ hb
  · rw [e] at hb
    unfold frs at hb
    rw [List.filterMap_cons, hf] at hb
    exact hb
theorem Inv.stkFree (I : Inv X pins σ H s) : ∀ b ∈ frs X.stack, H b = none := fun b hb => by
  rcases List.mem_cons.mp (I.stkSub b hb) with e | hb
  · rw [e]; exact I.free
  · obtain ⟨_, o, ho, _⟩ := I.ok.funs.mem hb
    exact I.base.free b o ho (I.ok.frf b hb) fun z => I.ok.exfs b z hb
theorem Inv.step {g' : Array GenState} {t' : Nat} {d' : Drawn} {ch : List Addr} (I : Inv X pins σ H s)
    (hch : ∀ b ∈ ch, (b ∈ X.ex ∨ X.s₀.heap.objs.size ≤ b) ∧ b ≠ X.env.locals ∧ (∀ x c, X.env.cells.lookup x = some c → c ≠ b) ∧ ∀ p ∈ X.pn ++ pins, p.1 ≠ b)
    (keep : ∀ b o, b ≠ X.env.locals → b ∉ X.fs → b ∉ ch → s.heap.get? b = some o → H b = none → h'.get? b = some o)
    (slot : ∀ b o, b ≠ X.env.locals → b ∈ X.fs → b ∉ ch → s.heap.get? b = some o → H b = none → ∃ sl, h'.get? b = some { o with slots := sl }) (free : ∀ b o, b ∉ ch → s.heap.get? b = some o → H b = none → H' b = none)
    (there : ∀ b o, b ∉ ch → s.heap.get? b = some o → ∃ o', h'.get? b = some o')
    (tups : ∀ b xs, H b = some (.tup xs) → H' b = some (.tup xs)) (frzs : ∀ b o u, H b = some (.frz o u) → H' b = some (.frz o u)) (tbls : ∀ b ps, H b = some (.tbl ps) → ∃ more, H' b = some (.tbl (ps ++ more)))
    (ns : ∀ m, s.heap.Ns X.env.locals m → h'.Ns X.env.locals m) (hok : HOk X.prog X.w H' h') (hg : AllBare g') :
    Inv X pins σ H' { s with heap := h', gens := g', drawn := d', toks := t' } := by
  have neL : ∀ b o, X.s₀.heap.get? b = some o → b ≠ X.env.locals := fun b o e => Nat.ne_of_lt (Nat.lt_of_lt_of_le (Heap.lt_size e) I.ok.above)
  have neC : ∀ b o, X.s₀.heap.get? b = some o → b ∉ X.ex → b ∉ ch := fun b o e hx hb => by
    rcases (hch b hb).1 with z | z
    · exact hx z
    · exact absurd (Nat.lt_of_lt_of_le (Heap.lt_size e) z) (Nat.lt_irrefl _)
  have cellK : ∀ x c, X.env.cells.lookup x = some c → ∀ v, s.heap.IsCell c v → h'.IsCell c v := fun x c e v ⟨o, ho, hd⟩ => by
    have nch : c ∉ ch := fun z => (hch c z).2.2.1 x c e rfl
    by_cases hc : c ∈ X.fs
    · obtain ⟨sl, q⟩ := slot c o (I.cne x c e) hc nch ho (I.freeC x c e)
      exact ⟨_, q, hd⟩
    · exact ⟨o, keep c o (I.cne x c e) hc nch ho (I.freeC x c e), hd⟩
  refine ⟨I.ok, I.os, hg, ⟨fun b o e n hb hx => ?_, fun b o e n hb hx => ?_, fun b o e n hx => ?_, fun b o e hx => ?_, fun b xs e => tups b xs (I.base.tups b xs e), fun b o xs e => frzs b o xs (I.base.frzs b o xs e), fun b ps e => ?_⟩, ?_, fun x c e => ?_, ?_, fun x c e => ?_, fun p hp => ?_, hok, I.len⟩
  · exact keep b o (neL b o e) hb (neC b o e hx) (I.base.keep b o e n hb hx) (I.base.free b o e n hx)
  · obtain ⟨sl, e1⟩ := I.base.slot b o e n hb hx
    obtain ⟨sl', e2⟩ := slot b _ (neL b o e) hb (neC b o e hx) e1 (I.base.free b o e n hx)
    exact ⟨sl', e2⟩
  · obtain ⟨o', e1⟩ := I.base.there b o e hx
    exact free b o' (neC b o e hx) e1 (I.base.free b o e n hx)
  · obtain ⟨o', e1⟩ := I.base.there b o e hx
    exact there b o' (neC b o e hx) e1
  · obtain ⟨m1, e1⟩ := I.base.tbls b ps e
    obtain ⟨m2, e2⟩ := tbls b _ e1
    exact ⟨m1 ++ m2, by rw [e2, Array.append_assoc]⟩
  · obtain ⟨m, hn, hl⟩ := I.loc
    refine ⟨m, ns m hn, fun i x v e1 e2 e3 => ?_⟩
    obtain ⟨u, r, l⟩ := hl i x v e1 e2 e3
    refine ⟨u, r, ?_⟩
    rcases l with l | ⟨k, c, e, z⟩
    · exact .inl l
    · exact .inr ⟨k, c, e, cellK x c e _ z⟩
  · obtain ⟨v, z⟩ := I.cell x c e
    exact ⟨v, cellK x c e v z⟩
  · obtain ⟨m, ⟨o, _, _, ho, _⟩, _⟩ := I.loc
    exact free _ o (fun z => (hch _ z).2.1 rfl) ho I.free
  · obtain ⟨v, o, ho, hd⟩ := I.cell x c e
    exact free c o (fun z => (hch c z).2.2.1 x c e rfl) ho (I.freeC x c e)
  · obtain ⟨e, n, ne, nf, d⟩ := I.pin p hp
    have nch : p.1 ∉ ch := fun z => (hch p.1 z).2.2.2 p hp rfl
    exact ⟨keep p.1 p.2 ne nf nch e n, free p.1 p.2 nch e n, ne, nf, d⟩
theorem Inv.un {t' : Nat} (I : Inv X pins σ H s) (u : Un X.fs [] H H' s.heap h') (hok : HOk X.prog X.w H' h') : Inv X pins σ H' { s with heap := h', toks := t' } := by
  obtain ⟨m, ⟨o, es, ep, ho, r⟩, _⟩ := id I.loc
  obtain ⟨sl, hL⟩ := u.any ho I.free (by simp)
  exact I.step (g' := s.gens) (d' := s.drawn) (ch := []) (fun _ z => nomatch z) (fun b o _ hb _ e n => u.keep b o e n hb (by simp)) (fun b o _ hb _ e n => u.slot b o e n hb (by simp)) (fun b o _ e n => u.free b o e n (by simp)) (fun b o _ e => u.there b o e (by simp)) u.tups u.frzs u.tbls (fun m' hm => by
    obtain ⟨o', es', ep', ho', r'⟩ := hm
    rw [ho] at ho'; cases ho'
    exact ⟨_, es', ep', hL, r'⟩) hok I.bare
theorem Inv.call {g' : Array GenState} {t' : Nat} {d' : Drawn} {ch : List Addr} (I : Inv X pins σ H s) (u : Un (frs X.stack) ch H H' s.heap h') (hok : HOk X.prog X.w H' h') (hg : AllBare g')
    (hch : ∀ b ∈ ch, (b ∈ X.ex ∨ X.s₀.heap.objs.size ≤ b) ∧ b ≠ X.env.locals ∧ (∀ x c, X.env.cells.lookup x = some c → c ≠ b) ∧ ∀ p ∈ X.pn ++ pins, p.1 ≠ b) :
    Inv X pins σ H' { s with heap := h', gens := g', drawn := d', toks := t' } := by
  obtain ⟨m, ⟨o, es, ep, ho, r⟩, _⟩ := id I.loc
  obtain ⟨sl, hL⟩ := u.any ho I.free fun z => (hch _ z).2.1 rfl
  exact I.step (ch := ch) hch (fun b o hL hb hc e n => u.keep b o e n (fun z => (List.mem_cons.mp (I.stkSub b z)).elim hL hb) hc) (fun b o _ _ hc e n => u.any e n hc) (fun b o hc e n => u.free b o e n hc) (fun b o hc e => u.there b o e hc) u.tups u.frzs u.tbls (fun m' hm => by
    obtain ⟨o', es', ep', ho', r'⟩ := hm
    rw [ho] at ho'; cases ho'
    exact ⟨_, es', ep', hL, r'⟩) hok hg
theorem Inv.turned {t' : Nat} {it : Addr} (I : Inv X pins σ H s) (k : ∀ b o, b ≠ it → s.heap.get? b = some o → h'.get? b = some o) (hn : H it = none) (hL : it ≠ X.env.locals)
    (h1 : it ∈ X.ex ∨ X.s₀.heap.objs.size ≤ it) (h2 : ∀ x c, X.env.cells.lookup x = some c → c ≠ it) (h3 : ∀ p ∈ X.pn ++ pins, p.1 ≠ it) : Inv X pins σ H { s with heap := h', toks := t' } := by
  have nit : ∀ b u, H b = some u → b ≠ it := fun b u e z => by rw [z, hn] at e; cases e
  refine I.step (g' := s.gens) (d' := s.drawn) (ch := [it]) (fun b hb => ?_) (fun b o _ _ hc e _ => k b o (fun z => hc (by simp [z])) e) (fun b o _ _ hc e _ => ⟨o.slots, k b o (fun z => hc (by simp [z])) e⟩) (fun _ _ _ _ n => n)
    (fun b o hc e => ⟨o, k b o (fun z => hc (by simp [z])) e⟩) (fun _ _ e => e) (fun _ _ _ e => e) (fun b ps e => ⟨#[], by rw [e]; simp⟩) (fun m hm => ?_) (fun b u e => ?_) I.bare
  · have e : b = it := by simpa using hb
    subst e
    exact ⟨h1, hL, h2, h3⟩
  · obtain ⟨o, es, ep, ho, r⟩ := hm
    exact ⟨o, es, ep, k _ o (Ne.symm hL) ho, r⟩
  · refine (I.hok b u e).stay (fun c v hc q => k c v ?_ q) (fun _ q => q) fun _ _ q => q
    rcases hc with z | z
    · rw [z]; exact nit b u e
    · exact nit c _ z
theorem Inv.tok (I : Inv X pins σ H s) (t : Nat) : Inv X pins σ H { s with toks := t } := I.un (h' := s.heap) (t' := t) Un.refl I.hok
theorem Inv.kept {t' : Nat} (I : Inv X pins σ H s) (k : ∀ b u, s.heap.get? b = some u → h'.get? b = some u) : Inv X pins σ H { s with heap := h', toks := t' } := I.un (Un.kept k) (I.hok.kept k)
theorem Inv.laid {a : Addr} {o : HO} {t' : Nat} (I : Inv X pins σ H s) (k : ∀ b u, s.heap.get? b = some u → h'.get? b = some u) (hp : s.heap.objs.size ≤ a) (new : ObjOk X.prog X.w (upd H a o) h' a o) :
    Inv X pins σ (upd H a o) { s with heap := h', toks := t' } := I.un (Un.laid k hp (I.hok.fresh hp)) (I.hok.laid k hp new)
theorem Inv.write {x e : Addr} {o : HO} {t' : Nat} (I : Inv X pins σ H s) (mu : Mut (H x)) (he : e = x ∨ H e = some (.own x)) (k : ∀ b u, b ≠ e → s.heap.get? b = some u → h'.get? b = some u) (heo : ∃ u, h'.get? e = some u)
    (new : ObjOk X.prog X.w (upd H x o) h' x o) : Inv X pins σ (upd H x o) { s with heap := h', toks := t' } := I.un (Un.write mu he k heo) (I.hok.write mu he k heo new)
theorem Inv.pins_of {pins' : List (Addr × Obj)} (I : Inv X pins σ H s) (h : ∀ p ∈ pins', s.heap.get? p.1 = some p.2 ∧ H p.1 = none ∧ p.1 ≠ X.env.locals ∧ p.1 ∉ X.fs ∧ ∀ v, p.2.data ≠ .cell v) : Inv X pins' σ H s :=
  ⟨I.ok, I.os, I.bare, I.base, I.loc, I.cell, I.free, I.freeC, fun p hp => (List.mem_append.mp hp).elim (fun z => I.pin p (List.mem_append_left _ z)) (h p), I.hok, I.len⟩
theorem nodup_ix {N : List Str} (hN : N.Nodup) {i j : Nat} {x : Str} (a : N[i]? = some x) (b : N[j]? = some x) : i = j := by
  obtain ⟨h1, e1⟩ := List.getElem?_eq_some_iff.mp a
  obtain ⟨h2, e2⟩ := List.getElem?_eq_some_iff.mp b
  exact (List.getElem_inj hN).mp (e1.trans e2.symm)
theorem store_ok2 {M : Model} {A : Around} {E : Value → Shared → Prop} {i : Nat} {x : Str} {v : V} {u : Value} {Q : Unit → Shared → Prop} (I : Inv X pins σ H s) (hN : X.N.Nodup) (hi : X.N[i]? = some x) (hx : Loc X.env.scope x) (r : RelV v u)
    (h : ∀ s', Inv X pins (σ.set i (some v)) H s' → (∃ a, Heap.SameBut a s.heap s'.heap ∧ (a = X.env.locals ∨ X.env.cells.lookup x = some a)) → Q () s') (hf : X.fn x = true ∨ X.env.scope.names.lookup x = some .local := by first | exact .inl rfl | exact .inr rfl | assumption) : wpAny M A (storeName X.env x u) Q E s := by
  obtain ⟨m, hn, hl⟩ := id I.loc
  have hcls : (X.env.scope.kind == .class || (X.env.scope.kind == .module && X.env.locals != X.env.globals)) = false := by rw [I.ok.kind]; rfl
  have hiσ : i < σ.length := by rw [I.len]; exact (List.getElem?_eq_some_iff.mp hi).1
  have cne := I.cne
  have tracked : ∀ {a : Addr} {h' : Heap}, (∃ o, s.heap.get? a = some o ∧ H a = none) → Heap.SameBut a s.heap h' → HOk X.prog X.w H h' := fun {a h'} ha hs b ob e => by
    obtain ⟨_, _, hfree⟩ := ha
    refine (I.hok b ob e).stay (fun c w' hc q => (hs.2 c ?_).trans q) (fun _ q => q) fun _ _ q => q
    rintro rfl
    rcases hc with rfl | hc
    · rw [hfree] at e; cases e
    · rw [hfree] at hc; cases hc
  rcases hx with hk | hk
  · refine wpAny_storeName_local hk hn (fun h' hn' hs => ?_) hcls
    obtain ⟨oL, _, _, hoL, _⟩ := id hn
    refine h _ ⟨I.ok, I.os, I.bare, ⟨fun b o e n hb hx => ?_, fun b o e n hb hx => ?_, I.base.free, fun b o e hx => ?_, I.base.tups, I.base.frzs, I.base.tbls⟩, ⟨_, hn', fun j y v' e1 e2 e3 => ?_⟩, fun y c e => ?_, I.free, I.freeC, fun p hp => ?_, tracked ⟨oL, hoL, I.free⟩ hs, by simpa using I.len⟩ ⟨_, hs, .inl rfl⟩
    · exact (hs.2 b (Nat.ne_of_lt (Nat.lt_of_lt_of_le (Heap.lt_size e) I.ok.above))).trans (I.base.keep b o e n hb hx)
    · obtain ⟨sl, e1⟩ := I.base.slot b o e n hb hx
      exact ⟨sl, (hs.2 b (Nat.ne_of_lt (Nat.lt_of_lt_of_le (Heap.lt_size e) I.ok.above))).trans e1⟩
    · obtain ⟨o', e1⟩ := I.base.there b o e hx
      exact ⟨o', (hs.2 b (Nat.ne_of_lt (Nat.lt_of_lt_of_le (Heap.lt_size e) I.ok.above))).trans e1⟩
    · by_cases hj : j = i
      · subst hj
        rw [hi] at e1; cases e1
        rw [List.getElem?_set_self hiσ] at e2
        cases e2
        exact ⟨u, r, .inl ⟨hk, by simp⟩⟩
      · rw [List.getElem?_set_ne (Ne.symm hj)] at e2
        obtain ⟨u', r', q⟩ := hl j y v' e1 e2 e3
        refine ⟨u', r', ?_⟩
        rcases q with ⟨k, e⟩ | ⟨k, c, e, z⟩
        · refine .inl ⟨k, ?_⟩
          have : y ≠ x := fun e => hj (nodup_ix hN e1 (e ▸ hi))
          simp [this, e]
        · exact .inr ⟨k, c, e, z.sameBut hs (cne y c e)⟩
    · obtain ⟨w', z⟩ := I.cell y c e
      exact ⟨w', z.sameBut hs (cne y c e)⟩
    · obtain ⟨e, n, ne, nf, d⟩ := I.pin p hp
      exact ⟨(hs.2 p.1 ne).trans e, n, ne, nf, d⟩
  · have hfn : X.fn x = true := by
      rcases hf with z | z
      · exact z
      · rw [z] at hk; cases hk
    obtain ⟨c, hc⟩ := I.ok.has x (.inl hk)
    obtain ⟨w', z⟩ := I.cell x c hc
    refine wpAny_storeName_cell I.ok.kind hk hc z (fun h' hc' hs => ?_)
    obtain ⟨oc, hoc, hocd⟩ := id z
    refine h { s with heap := h' } ⟨I.ok, I.os, I.bare, ⟨fun b o e n hb hx => ?_, fun b o e n hb hx => ?_, I.base.free, fun b o e hx => ?_, I.base.tups, I.base.frzs, I.base.tbls⟩, ⟨m, hn.sameBut hs (Ne.symm (cne x c hc)), fun j y v' e1 e2 e3 => ?_⟩, fun y c' e => ?_, I.free, I.freeC, fun p hp => ?_, tracked ⟨oc, hoc, I.freeC x c hc⟩ hs, by simpa using I.len⟩ ⟨c, hs, .inr hc⟩
    · exact (hs.2 b (Nat.ne_of_lt (Nat.lt_of_lt_of_le (Heap.lt_size e) (I.ok.cab x c hfn hc)))).trans (I.base.keep b o e n hb hx)
    · obtain ⟨sl, e1⟩ := I.base.slot b o e n hb hx
      exact ⟨sl, (hs.2 b (Nat.ne_of_lt (Nat.lt_of_lt_of_le (Heap.lt_size e) (I.ok.cab x c hfn hc)))).trans e1⟩
    · obtain ⟨o', e1⟩ := I.base.there b o e hx
      exact ⟨o', (hs.2 b (Nat.ne_of_lt (Nat.lt_of_lt_of_le (Heap.lt_size e) (I.ok.cab x c hfn hc)))).trans e1⟩
    · by_cases hj : j = i
      · subst hj
        rw [hi] at e1; cases e1
        rw [List.getElem?_set_self hiσ] at e2
        cases e2
        exact ⟨u, r, .inr ⟨.inl hk, c, hc, hc'⟩⟩
      · rw [List.getElem?_set_ne (Ne.symm hj)] at e2
        obtain ⟨u', r', q⟩ := hl j y v' e1 e2 e3
        refine ⟨u', r', ?_⟩
        rcases q with q | ⟨k, c', e, z'⟩
        · exact .inl q
        · refine .inr ⟨k, c', e, z'.sameBut hs ?_⟩
          rintro rfl
          exact hj (nodup_ix hN e1 (I.ok.inj _ _ _ e hc ▸ hi))
    · by_cases hcc : c' = c
      · subst hcc; exact ⟨_, hc'⟩
      · obtain ⟨w2, z2⟩ := I.cell y c' e
        exact ⟨w2, z2.sameBut hs hcc⟩
    · obtain ⟨e, n, ne, nf, d⟩ := I.pin p hp
      refine ⟨(hs.2 p.1 ?_).trans e, n, ne, nf, d⟩
      intro q
      rw [q, hoc] at e
      have q' : oc = p.2 := Option.some.inj e
      exact d w' (by rw [← q']; exact hocd)
theorem store_ok {M : Model} {A : Around} {E : Value → Shared → Prop} {i : Nat} {x : Str} {v : V} {u : Value} {Q : Unit → Shared → Prop} (I : Inv X pins σ H s) (hN : X.N.Nodup) (hi : X.N[i]? = some x) (hx : Loc X.env.scope x) (r : RelV v u)
    (h : ∀ s', Inv X pins (σ.set i (some v)) H s' → Q () s') (hf : X.fn x = true ∨ X.env.scope.names.lookup x = some .local := by first | exact .inl rfl | exact .inr rfl | assumption) : wpAny M A (storeName X.env x u) Q E s :=
  store_ok2 I hN hi hx r (fun s' I' _ => h s' I') hf
theorem Inv.call' {s' : Shared} {ch : List Addr} (I : Inv X pins σ H s) (ho : s'.os = s.os) (u : Un (frs X.stack) ch H H' s.heap s'.heap) (hok : HOk X.prog X.w H' s'.heap) (hg : AllBare s'.gens)
    (hch : ∀ b ∈ ch, (b ∈ X.ex ∨ X.s₀.heap.objs.size ≤ b) ∧ b ≠ X.env.locals ∧ (∀ x c, X.env.cells.lookup x = some c → c ≠ b) ∧ ∀ p ∈ X.pn ++ pins, p.1 ≠ b) : Inv X pins σ H' s' := by
  obtain ⟨h', g', d', t', o'⟩ := s'
  have e : o' = s.os := ho
  subst e
  exact I.call (g' := g') (t' := t') (d' := d') u hok hg hch
end
abbrev XK := Value → Option Addr → Hp → Prop
abbrev St := List (Option V)
abbrev VK := V → Hp → Prop
abbrev TE := St → Hp → VK → Prop
abbrev TT := St → Hp → (Bool → Hp → Prop) → Prop
abbrev TA := St → Hp → (List V → Hp → Prop) → Prop
structure Ends where
  nx : St → Hp → Prop
  rt : VK
  bk : St → Hp → Prop := fun _ _ => False
  ct : St → Hp → Prop := fun _ _ => False
abbrev TS := Ends → St → Hp → Prop
def EP (X : Cx) (pins : List (Addr × Obj)) (σ : St) (Q : VK) (u : Value) (s' : Shared) : Prop := ∃ v H', Inv X pins σ H' s' ∧ RelV v u ∧ Q v H'
def TP (X : Cx) (pins : List (Addr × Obj)) (σ : St) (Q : Bool → Hp → Prop) (b : Bool) (s' : Shared) : Prop := ∃ H', Inv X pins σ H' s' ∧ Q b H'
def AP (X : Cx) (pins : List (Addr × Obj)) (σ : St) (Q : List V → Hp → Prop) (us : List Value) (s' : Shared) : Prop := ∃ vs H', Inv X pins σ H' s' ∧ Vals vs us ∧ Q vs H'
def SP (X : Cx) (pins : List (Addr × Obj)) (D : Ends) (f : Flow) (s' : Shared) : Prop :=
  match f with
  | .next => ∃ σ' H', Inv X pins σ' H' s' ∧ D.nx σ' H'
  | .brk => ∃ σ' H', Inv X pins σ' H' s' ∧ D.bk σ' H'
  | .cont => ∃ σ' H', Inv X pins σ' H' s' ∧ D.ct σ' H'
  | .ret u => ∃ v σ' H', Inv X pins σ' H' s' ∧ RelV v u ∧ D.rt v H'
def PE (X : Cx) (e : Expr) (t : TE) : Prop :=
  ∀ (pins : List (Addr × Obj)) (s : Shared) (σ : St) (H : Hp) (Q : VK), Inv X pins σ H s → t σ H Q → wpAny (model X.prog X.w) X.A (eval e X.env) (EP X pins σ Q) X.xe s
def PT (X : Cx) (e : Expr) (t : TT) : Prop :=
  ∀ (pins : List (Addr × Obj)) (s : Shared) (σ : St) (H : Hp) (Q : Bool → Hp → Prop), Inv X pins σ H s → t σ H Q → wpAny (model X.prog X.w) X.A (isTrue e X.env (eval e X.env)) (TP X pins σ Q) X.xe s
def PW (X : Cx) (e : Expr) (t : TT) : Prop :=
  ∀ (whole : Sem Value) (pins : List (Addr × Obj)) (s : Shared) (σ : St) (H : Hp) (Q : Bool → Hp → Prop), Inv X pins σ H s → t σ H Q → wpAny (model X.prog X.w) X.A (isTrue e X.env whole) (TP X pins σ Q) X.xe s
theorem PW.pt {X : Cx} {e : Expr} {t : TT} (h : PW X e t) : PT X e t := h _
def PA (X : Cx) (es : List Expr) (t : TA) : Prop :=
  ∀ (pos : Pos) (pins : List (Addr × Obj)) (s : Shared) (σ : St) (H : Hp) (Q : List V → Hp → Prop), Inv X pins σ H s → t σ H Q → wpAny (model X.prog X.w) X.A (spliced (backTo pos (starEach es X.env))) (AP X pins σ Q) X.xe s
def PS (X : Cx) (st : Stmt) (t : TS) : Prop :=
  ∀ (pins : List (Addr × Obj)) (s : Shared) (σ : St) (H : Hp) (D : Ends), Inv X pins σ H s → t D σ H → wpAny (model X.prog X.w) X.A (exec st X.env) (SP X pins D) X.xe s
def PSs (X : Cx) (st : List Stmt) (t : TS) : Prop :=
  ∀ (pins : List (Addr × Obj)) (s : Shared) (σ : St) (H : Hp) (D : Ends), Inv X pins σ H s → t D σ H → wpAny (model X.prog X.w) X.A (execs st X.env) (SP X pins D) X.xe s
theorem thn {α : Type} {t : Sem α} {Q Q' : α → Shared → Prop} {M : Model} {A : Around} {E : Value → Shared → Prop} {s : Shared} (h : wpAny M A t Q E s) (hQ : ∀ a s, Q a s → Q' a s) : wpAny M A t Q' E s := wpAny_mono h hQ fun _ _ x => x
end L2
namespace L2
open PySem PySem.Spec PyProof.Rows
section
variable {X : Cx}
def tVar (i : Nat) : TE := fun σ H Q => ∃ v, σ[i]? = some (some v) ∧ Q v H
def tC (v : V) : TE := fun _ H Q => Q v H
theorem pe_var {i : Nat} {x : Str} {pos : Pos} (hN : X.N[i]? = some x) (hv : Vis X.env.scope x) (hd : (x == ("__debug__" : Str)) = false := by decide) (hcd : (x == ("__classdict__" : Str)) = false := by decide) : PE X (.Name x pos) (tVar i) := by
  intro pins s σ H Q I h
  obtain ⟨v, e, h⟩ := h
  obtain ⟨m, hn, hl⟩ := I.loc
  obtain ⟨u, r, l⟩ := hl i x v hN e hv
  have fin : EP X pins σ Q u s := ⟨v, H, I, r, h⟩
  rcases l with ⟨hk, hm⟩ | ⟨hk, c, hc, hcell⟩
  · exact wpAny_Name (wpAny_loadName_local I.ok.kind hk hn hm fin) hd
  · rcases hk with hk | hk
    · exact wpAny_Name (wpAny_loadName_cell I.ok.kind hk hc hcell fin) hd
    · exact wpAny_Name (wpAny_loadName_free I.ok.kind hk hc hcell fin hcd) hd
theorem pe_int {i j pos} : PE X (.Constant (.int i) j pos) (tC (.int i)) := fun _ _ _ H _ I h => wpAny_Constant_int ⟨.int i, H, I.tok _, ⟨_, rfl⟩, h⟩
theorem pe_bl {b j pos} : PE X (.Constant (.bool b) j pos) (tC (.bl b)) := fun _ _ _ H _ I h => Constant_bool ⟨.bl b, H, I, rfl, h⟩
theorem pe_str {x j pos} : PE X (.Constant (.str x) j pos) (tC (.str x)) := fun _ _ _ H _ I h => Calls.Constant_str ⟨.str x, H, I.tok _, ⟨_, rfl⟩, h⟩
def Gl (X : Cx) (x : Str) : Prop := X.env.kindOf x = some .globalImplicit
theorem ld_glob {E : Value → Shared → Prop} {pins : List (Addr × Obj)} {s : Shared} {σ : St} {H : Hp} {x : Str} {u : Value} {pos : Pos} {Q : Value → Shared → Prop} (I : Inv X pins σ H s) (hg : Gl X x) (hm : X.mg x = some u) (h : Q u s)
    (hd : (x == ("__debug__" : Str)) = false := by decide) : wpAny (model X.prog X.w) X.A (eval (.Name x pos) X.env) Q E s :=
  Calls.Name_function_global I.ok.kind hg (Calls.loadGlobal_global (by rw [I.ok.glob]; exact I.mod.glob.keeps I.bk) hm h) hd
theorem ld_blt {E : Value → Shared → Prop} {pins : List (Addr × Obj)} {s : Shared} {σ : St} {H : Hp} {x : Str} {u : Value} {pos : Pos} {Q : Value → Shared → Prop} (I : Inv X pins σ H s) (hg : Gl X x) (hm : X.mg x = none) (hv : bootBuiltins x = some u) (h : Q u s)
    (hn : x ≠ "__name__" := by decide) (hd : (x == ("__debug__" : Str)) = false := by decide) : wpAny (model X.prog X.w) X.A (eval (.Name x pos) X.env) Q E s := by
  obtain ⟨mb, h1, h2⟩ := I.mod.blt
  exact Calls.Name_function_global I.ok.kind hg (Calls.loadGlobal_builtin (by rw [I.ok.glob]; exact I.mod.glob.keeps I.bk) hm (by rw [I.ok.blt]; exact h1.keeps I.bk) ((h2 x hn).trans hv) h) hd
theorem pe_glob {x : Str} {v : V} {u : Value} {pos : Pos} (hg : Gl X x) (hm : X.mg x = some u) (r : RelV v u) (hd : (x == ("__debug__" : Str)) = false := by decide) : PE X (.Name x pos) (tC v) :=
  fun _ _ _ H _ I h => ld_glob I hg hm ⟨v, H, I, r, h⟩ hd
theorem pe_bltn {x : Str} {v : V} {u : Value} {pos : Pos} (hg : Gl X x) (hm : X.mg x = none) (hv : bootBuiltins x = some u) (r : RelV v u) (hn : x ≠ "__name__" := by decide) (hd : (x == ("__debug__" : Str)) = false := by decide) : PE X (.Name x pos) (tC v) :=
  fun _ _ _ H _ I h => ld_blt I hg hm hv ⟨v, H, I, r, h⟩ hn hd
variable {a b : Expr} {ta tb : TE} {pos : Pos}
def tB (t : TE) : TT := fun σ H Q => t σ H fun x H1 => ∃ c, x = .bl c ∧ Q c H1
theorem pt_val {e : Expr} {t : TE} (h : PE X e t) (he : ∀ whole, isTrue e X.env whole = (do let v ← whole; standAt e.pos; holding [v] (truthy v)) := by intro _; rfl) : PT X e (tB t) := by
  intro pins s σ H Q I hw
  refine isTrue_plain (thn (h pins s σ H _ I hw) fun v s1 ⟨x, H1, I1, r1, q1⟩ => ?_) (he _)
  obtain ⟨d, rfl, q⟩ := q1
  cases r1
  exact wpAny_truthy_bool ⟨H1, I1, q⟩
variable {tA tB' : TT} {rest : List Expr}
def tAnd (t u : TT) : TT := fun σ H Q => t σ H fun c H1 => if c = true then u σ H1 Q else Q false H1
def tOr (t u : TT) : TT := fun σ H Q => t σ H fun c H1 => if c = true then Q true H1 else u σ H1 Q
def tNot (t : TT) : TT := fun σ H Q => t σ H fun c H1 => Q (!c) H1
theorem pw_and1 (ha : PT X a tA) : PW X (.BoolOp .And [a] pos) tA := by
  intro wh pins s σ H Q I h
  refine isTrue_and (thn (ha pins s σ H Q I h) fun c s1 e => ?_)
  cases c with
  | true => exact isTrue_and_nil e
  | false => exact e
theorem pw_or1 (ha : PT X a tA) : PW X (.BoolOp .Or [a] pos) tA := by
  intro wh pins s σ H Q I h
  refine isTrue_or (thn (ha pins s σ H Q I h) fun c s1 e => ?_)
  cases c with
  | false => exact isTrue_or_nil e
  | true => exact e
theorem pw_and (ha : PT X a tA) (hb : PW X (.BoolOp .And (b :: rest) pos) tB') : PW X (.BoolOp .And (a :: b :: rest) pos) (tAnd tA tB') := by
  intro wh pins s σ H Q I h
  refine isTrue_and (thn (ha pins s σ H _ I h) fun c s1 ⟨H1, I1, q1⟩ => ?_)
  cases c with
  | true => exact hb wh pins s1 σ H1 Q I1 q1
  | false => exact ⟨H1, I1, q1⟩
theorem pw_or (ha : PT X a tA) (hb : PW X (.BoolOp .Or (b :: rest) pos) tB') : PW X (.BoolOp .Or (a :: b :: rest) pos) (tOr tA tB') := by
  intro wh pins s σ H Q I h
  refine isTrue_or (thn (ha pins s σ H _ I h) fun c s1 ⟨H1, I1, q1⟩ => ?_)
  cases c with
  | true => exact ⟨H1, I1, q1⟩
  | false => exact hb wh pins s1 σ H1 Q I1 q1
theorem pt_not (ha : PT X a tA) : PT X (.UnaryOp .Not a pos) (tNot tA) := by
  intro pins s σ H Q I h
  exact isTrue_not (ha pins s σ H (fun c H1 => Q (!c) H1) I h)
def tAndV (ta tb : TE) : TE := fun σ H Q => ta σ H fun x H1 => ∃ c, x = .bl c ∧ if c = true then tb σ H1 Q else Q (.bl false) H1
def tNotV (ta : TE) : TE := fun σ H Q => ta σ H fun x H1 => ∃ c, x = .bl c ∧ Q (.bl (!c)) H1
theorem pe_one {op} {t : TE} (h : PE X a t) : PE X (.BoolOp op [a] pos) t := fun pins s σ H Q I hw => BoolOp_one (h pins s σ H Q I hw)
theorem pe_and (ha : PE X a ta) (hb : PE X (.BoolOp .And (b :: rest) pos) tb) : PE X (.BoolOp .And (a :: b :: rest) pos) (tAndV ta tb) := by
  intro pins s σ H Q I h
  refine BoolOp_and (thn (ha pins s σ H _ I h) fun v s1 ⟨x, H1, I1, r1, q1⟩ => ?_)
  obtain ⟨c, rfl, q1⟩ := q1
  cases r1
  refine wpAny_truthy_bool ?_
  cases c with
  | true => exact hb pins s1 σ H1 Q I1 q1
  | false => exact ⟨.bl false, H1, I1, rfl, q1⟩
theorem pe_not (ha : PE X a ta) : PE X (.UnaryOp .Not a pos) (tNotV ta) := by
  intro pins s σ H Q I h
  refine UnaryOp_ (thn (ha pins s σ H _ I h) fun v s1 ⟨x, H1, I1, r1, q1⟩ => ?_)
  obtain ⟨c, rfl, q1⟩ := q1
  cases r1
  exact not_of (wpAny_truthy_bool ⟨.bl (!c), H1, I1, rfl, q1⟩)
end
end L2
namespace L2
open PySem PySem.Spec PyProof.Rows
def SqL (K : PySem.W.Frag) (H : Hp) (a : Addr) (xs : List V) : Prop :=
  Rd H a (.lst xs) ∨
    ∃ (o : Obj) (its : Array Value) (n : Nat), K.lookup a = some o ∧ o.cls = .type "list" ∧ o.dict = none ∧ o.data = .seq its n ∧ its.size ≤ sizeLine ∧ Vals xs its.toList
def SqT (K : PySem.W.Frag) (H : Hp) (a : Addr) (xs : List V) : Prop :=
  Rd H a (.tup xs) ∨
    ∃ (o : Obj) (its : Array Value) (n : Nat), K.lookup a = some o ∧ o.cls = .type "tuple" ∧ o.data = .seq its n ∧ its.size ≤ sizeLine ∧ Vals xs its.toList
def absV : Value → Option V
  | .none => some .non
  | .bool b => some (.bl b)
  | .int i _ => some (.int i)
  | .str x _ => some (.str x)
  | .bytes b _ => some (.byt b)
  | .float b _ => some (.flt b)
  | .ref a => some (.ref a)
  | .type n => some (.ty n)
  | _ => none
theorem RelV.abs {x : V} {u : Value} (r : RelV x u) : absV u = some x := by
  cases x with
  | non => cases r; rfl
  | bl _ => cases r; rfl
  | int _ => obtain ⟨t, rfl⟩ := r; rfl
  | str _ => obtain ⟨t, rfl⟩ := r; rfl
  | byt _ => obtain ⟨t, rfl⟩ := r; rfl
  | flt _ => obtain ⟨t, rfl⟩ := r; rfl
  | ref _ => cases r; rfl
  | ty _ => cases r; rfl
theorem RelV.inj {x y : V} {u : Value} (r : RelV x u) (q : RelV y u) : x = y := Option.some.inj (r.abs.symm.trans q.abs)
theorem Vals.inj : ∀ {xs ys : List V} {us : List Value}, Vals xs us → Vals ys us → xs = ys
  | _, _, _, .nil, .nil => rfl
  | _, _, _, .cons r t, .cons r' t' => by rw [r.inj r', Vals.inj t t']
section
variable {X : Cx} {pins : List (Addr × Obj)} {σ : St} {H : Hp} {s : Shared} {a : Addr} {xs ys : List V}
theorem SqL.of {K : PySem.W.Frag} (h : H a = some (.lst xs)) : SqL K H a xs := .inl (.inl h)
theorem SqT.of {K : PySem.W.Frag} (h : H a = some (.tup xs)) : SqT K H a xs := .inl (.inl h)
theorem Inv.list (I : Inv X pins σ H s) (h : SqL X.K H a xs) : ∃ its : List Value, Vals xs its ∧ PlainL s.heap a its.toArray ∧ xs.length ≤ sizeLine := by
  rcases h with h | ⟨o, its, n, hk, hc, hd, hs, hz, r⟩
  · obtain ⟨z, its, n, r, e⟩ := h.ok I.hok
    exact ⟨its, r, ⟨_, n, e, rfl, rfl, rfl⟩, z⟩
  · refine ⟨its.toList, r, ⟨o, n, I.kIn a o hk, hc, hd, by simpa using hs⟩, ?_⟩
    have e := r.length
    simp only [Array.length_toList] at e
    omega
theorem Inv.tuple (I : Inv X pins σ H s) (h : SqT X.K H a xs) : ∃ its : List Value, Vals xs its ∧ IsTup s.heap a its.toArray ∧ xs.length ≤ sizeLine := by
  rcases h with h | ⟨o, its, n, hk, hc, hs, hz, r⟩
  · obtain ⟨z, its, r, p⟩ := h.ok I.hok
    exact ⟨its, r, p, z⟩
  · refine ⟨its.toList, r, ⟨o, I.kIn a o hk, hc, n, by simpa using hs⟩, ?_⟩
    have e := r.length
    simp only [Array.length_toList] at e
    omega
theorem Inv.list_inj (I : Inv X pins σ H s) (h : SqL X.K H a xs) (h' : SqL X.K H a ys) : xs = ys := by
  obtain ⟨its, r, ⟨o, n, e, _, _, d⟩, _⟩ := I.list h
  obtain ⟨its', r', ⟨o', n', e', _, _, d'⟩, _⟩ := I.list h'
  rw [e] at e'; cases e'
  rw [d] at d'
  injection d' with d1 _
  have : its = its' := by simpa using congrArg Array.toList d1
  subst this
  exact r.inj r'
end
abbrev Cx.wish (X : Cx) (E : Value → Shared → Prop) : Cx := { X with xe := E }
abbrev Cx.nox (X : Cx) : Cx := X.wish fun _ _ => False
theorem Cx.Ok.wish {X : Cx} (ok : X.Ok) (E : Value → Shared → Prop) : (X.wish E).Ok :=
  ⟨ok.mod, ok.kind, ok.glob, ok.blt, ok.above, ok.inj, ok.has, ok.cab, ok.hd, ok.frames, ok.stk, ok.exf, ok.bs, ok.bsz, ok.noex, ok.exfs, ok.funs, ok.frf⟩
theorem Cx.Ok.unwish {X : Cx} {E : Value → Shared → Prop} (ok : (X.wish E).Ok) : X.Ok :=
  ⟨ok.mod, ok.kind, ok.glob, ok.blt, ok.above, ok.inj, ok.has, ok.cab, ok.hd, ok.frames, ok.stk, ok.exf, ok.bs, ok.bsz, ok.noex, ok.exfs, ok.funs, ok.frf⟩
section
variable {X : Cx} {pins : List (Addr × Obj)} {σ : St} {H : Hp} {s : Shared} {E : Value → Shared → Prop}
theorem Inv.wish (I : Inv X pins σ H s) (E : Value → Shared → Prop) : Inv (X.wish E) pins σ H s := ⟨I.ok.wish E, I.os, I.bare, I.base, I.loc, I.cell, I.free, I.freeC, I.pin, I.hok, I.len⟩
theorem Inv.unwish (I : Inv (X.wish E) pins σ H s) : Inv X pins σ H s := ⟨I.ok.unwish, I.os, I.bare, I.base, I.loc, I.cell, I.free, I.freeC, I.pin, I.hok, I.len⟩
theorem SP.unwish {D : Ends} {f : Flow} {s' : Shared} (h : SP (X.wish E) pins D f s') : SP X pins D f s' := by
  cases f with
  | next => obtain ⟨σ', H', I, q⟩ := h; exact ⟨σ', H', I.unwish, q⟩
  | brk => obtain ⟨σ', H', I, q⟩ := h; exact ⟨σ', H', I.unwish, q⟩
  | cont => obtain ⟨σ', H', I, q⟩ := h; exact ⟨σ', H', I.unwish, q⟩
  | ret u => obtain ⟨v, σ', H', I, r, q⟩ := h; exact ⟨v, σ', H', I.unwish, r, q⟩
theorem PE.nox {e : Expr} {t : TE} (h : PE X.nox e t) : PE X e t := fun pins s σ H Q I hw =>
  wpAny_mono (h pins s σ H Q (I.wish _) hw) (fun _ _ ⟨v, H', I', r, q⟩ => ⟨v, H', I'.unwish, r, q⟩) fun _ _ z => False.elim z
theorem PT.nox {e : Expr} {t : TT} (h : PT X.nox e t) : PT X e t := fun pins s σ H Q I hw =>
  wpAny_mono (h pins s σ H Q (I.wish _) hw) (fun _ _ ⟨H', I', q⟩ => ⟨H', I'.unwish, q⟩) fun _ _ z => False.elim z
theorem PSs.nox {st : List Stmt} {t : TS} (h : PSs X.nox st t) : PSs X st t := fun pins s σ H D I hw =>
  wpAny_mono (h pins s σ H D (I.wish _) hw) (fun _ _ q => q.unwish) fun _ _ z => False.elim z
end
section
variable {X : Cx} {st : Stmt} {rest : List Stmt} {t u : TS} {e : Expr} {te : TE} {pos : Pos}
def tNext : TS := fun D σ H => D.nx σ H
def tSeq (t u : TS) : TS := fun D σ H => t { D with nx := u D } σ H
theorem pss_nil : PSs X [] tNext := fun _ _ σ H _ I h => wpAny_execs_nil ⟨σ, H, I, h⟩
theorem pss_cons (h1 : PS X st t) (h2 : PSs X rest u) : PSs X (st :: rest) (tSeq t u) := by
  intro pins s σ H D I h
  refine wpAny_execs_cons (thn (h1 pins s σ H { D with nx := u D } I h) fun f s1 q => ?_)
  cases f with
  | next =>
    obtain ⟨σ', H', I', q⟩ := q
    exact h2 pins s1 σ' H' D I' q
  | ret v => exact q
  | brk => exact q
  | cont => exact q
theorem pss_one (h1 : PS X st t) : PSs X [st] t := by
  intro pins s σ H D I h
  refine wpAny_execs_cons (thn (h1 pins s σ H D I h) fun f s1 q => ?_)
  cases f with
  | next => exact wpAny_execs_nil q
  | ret v => exact q
  | brk => exact q
  | cont => exact q
theorem Inv.quiet {pins : List (Addr × Obj)} {σ : St} {H : Hp} {s : Shared} (I : Inv X pins σ H s) : interactive X.env = false := by simp [interactive, I.ok.kind]
def tDrop (te : TE) : TS := fun D σ H => te σ H fun _ H1 => D.nx σ H1
theorem ps_expr (he : PE X e te) (hs : swapsWith e none pos.line X.env = pure false := by rfl) : PS X (.Expr e pos) (tDrop te) := by
  intro pins s σ H D I h
  exact wpAny_Expr_any (thn (he pins s σ H _ I h) fun v s1 ⟨x, H1, I1, r1, q1⟩ => ⟨σ, H1, I1, q1⟩) I.quiet hs
def tRet (te : TE) : TS := fun D σ H => te σ H D.rt
theorem ps_ret (he : PE X e te) : PS X (.Return (some e) pos) (tRet te) := by
  intro pins s σ H D I h
  exact wpAny_Return_some (thn (he pins s σ H _ I h) fun v s1 ⟨x, H1, I1, r1, q1⟩ => ⟨x, σ, H1, I1, r1, q1⟩)
def tIfS (c : TT) (t u : TS) : TS := fun D σ H => c σ H fun b H1 => if b = true then t D σ H1 else u D σ H1
theorem ps_if {c : Expr} {a b : List Stmt} {tc : TT} (hc : PT X c tc) (ha : PSs X a t) (hb : PSs X b u) : PS X (.If c a b pos) (tIfS tc t u) := by
  intro pins s σ H D I h
  refine wpAny_If (thn (hc pins s σ H _ I h) fun d s1 ⟨H1, I1, q1⟩ => ?_)
  cases d with
  | true => exact ha pins s1 σ H1 D I1 q1
  | false => exact hb pins s1 σ H1 D I1 q1
end
abbrev TG := V → St → Hp → (St → Hp → Prop) → Prop
abbrev TGs := List V → St → Hp → (St → Hp → Prop) → Prop
def PG (X : Cx) (target : Expr) (t : TG) : Prop :=
  ∀ (pins : List (Addr × Obj)) (s : Shared) (σ : St) (H : Hp) (v : V) (u : Value) (Q : St → Hp → Prop), Inv X pins σ H s → RelV v u → t v σ H Q →
    wpAny (model X.prog X.w) X.A (assign target X.env u) (fun _ s' => ∃ σ' H', Inv X pins σ' H' s' ∧ Q σ' H') X.xe s
def PGs (X : Cx) (ts : List Expr) (t : TGs) : Prop :=
  ∀ (pins : List (Addr × Obj)) (s : Shared) (σ : St) (H : Hp) (vs : List V) (us : List Value) (Q : St → Hp → Prop), Inv X pins σ H s → Vals vs us → t vs σ H Q →
    wpAny (model X.prog X.w) X.A (assignInOrder ((assignEach ts X.env).map (·.2)) us) (fun _ s' => ∃ σ' H', Inv X pins σ' H' s' ∧ Q σ' H') X.xe s
section
variable {X : Cx} {pos : Pos}
def gName (i : Nat) : TG := fun v σ H Q => Q (σ.set i (some v)) H
theorem pg_name {i : Nat} {x : Str} (hN : X.N.Nodup) (hi : X.N[i]? = some x) (hx : Loc X.env.scope x) (hf : X.fn x = true ∨ X.env.scope.names.lookup x = some .local := by first | exact .inl rfl | exact .inr rfl | assumption) : PG X (.Name x pos) (gName i) := by
  intro pins s σ H v u Q I r h
  exact wpAny_assign_Name (store_ok I hN hi hx r (fun s' I' => ⟨_, H, I', h⟩) hf)
def gNil : TGs := fun vs σ H Q => vs = [] ∧ Q σ H
def gCons (t : TG) (u : TGs) : TGs := fun vs σ H Q => ∃ v r, vs = v :: r ∧ t v σ H fun σ' H' => u r σ' H' Q
theorem pgs_nil : PGs X [] gNil := by
  intro pins s σ H vs us Q I r h
  obtain ⟨e, h⟩ := h
  subst e
  cases r
  exact assignInOrder_nil ⟨σ, H, I, h⟩
theorem pgs_cons {e : Expr} {es : List Expr} {t : TG} {u : TGs} (h1 : PG X e t) (h2 : PGs X es u)
    (hs : (assignEach (e :: es) X.env).map (·.2) = assign e X.env :: (assignEach es X.env).map (·.2) := by rfl) : PGs X (e :: es) (gCons t u) := by
  intro pins s σ H vs us Q I r h
  obtain ⟨v, vr, e1, h⟩ := h
  subst e1
  cases r with
  | cons r rr =>
    rw [hs]
    refine assignInOrder_cons (thn (h1 pins s σ H _ _ _ I r h) fun _ s1 ⟨σ1, H1, I1, q1⟩ => ?_)
    exact h2 pins s1 σ1 H1 _ _ Q I1 rr q1
def gTup (K : PySem.W.Frag) (n : Nat) (t : TGs) : TG := fun v σ H Q => ∃ a xs, v = .ref a ∧ SqT K H a xs ∧ xs.length = n ∧ t xs σ H Q
theorem pg_tup {es : List Expr} {k : Nat} {t : TGs} {n : Nat} (hc : X.calm = true) (h : PGs X es t)
    (hn : (assignEach es X.env).length = n := by rfl) (hst : (assignEach es X.env).findIdx? (·.1) = none := by rfl) : PG X (.Tuple es k pos) (gTup X.K n t) := by
  intro pins s σ H v u Q I r hw
  obtain ⟨a, xs, e1, hq, hl, hw⟩ := hw
  subst e1
  cases r
  obtain ⟨its, rv, ht, hz⟩ := I.tuple hq
  refine assign_Tuple_tuple (I.ok.hd hc) ht (by simp [hn, ← hl, rv.length]) hst fun h' hx => ?_
  have I1 : Inv X pins σ H { s with heap := h' } := I.kept (t' := s.toks) fun b o e => hx b o (Nat.ne_of_lt (Heap.lt_size e)) e
  exact h pins _ σ H xs _ Q I1 (by simpa using rv) hw
def tAsg (te : TE) (g : TG) : TS := fun D σ H => te σ H fun x H1 => g x σ H1 D.nx
theorem ps_asg {tg e : Expr} {te : TE} {g : TG} (he : PE X e te) (hg : PG X tg g) (hs : swapsWithSole [tg] e pos.line X.env = pure false := by rfl) (hw : swappedStores [tg] e X.env = pure none := by rfl)
    (h1 : (assignEach [tg] X.env).map (·.2) = [assign tg X.env] := by rfl) : PS X (.Assign [tg] e pos) (tAsg te g) := by
  intro pins s σ H D I h
  refine wpAny_Assign_stores (thn (he pins s σ H _ I h) fun v s1 ⟨x, H1, I1, r1, q1⟩ => ?_) hs hw
  rw [h1]
  exact thn (hg pins s1 σ H1 x v _ I1 r1 q1) fun _ s2 q => q
theorem ps_set {i : Nat} {x : Str} {e : Expr} {te : TE} {pos' : Pos} (hN : X.N.Nodup) (hi : X.N[i]? = some x) (hx : Loc X.env.scope x) (he : PE X e te) (hs : swapsWith e (some (.Name x pos')) pos.line X.env = pure false := by rfl) (hf : X.fn x = true ∨ X.env.scope.names.lookup x = some .local := by first | exact .inl rfl | exact .inr rfl | assumption) :
    PS X (.Assign [.Name x pos'] e pos) (tAsg te (gName i)) := by
  intro pins s σ H D I h
  refine wpAny_Assign_Name (thn (he pins s σ H _ I h) fun v s1 ⟨y, H1, I1, r1, q1⟩ => ?_) hs
  exact store_ok I1 hN hi hx r1 (fun s2 I2 => ⟨_, H1, I2, q1⟩) hf
end
section
variable {X : Cx} {pos : Pos}
end
structure It where
  go : Nat → Hp → Prop
  yld : Nat → Hp → V → Hp → Prop
  stop : Nat → Hp → Prop
def FpOk (X : Cx) (pins : List (Addr × Obj)) (H : Hp) (b : Addr) : Prop :=
  H b = none ∧ b ≠ X.env.locals ∧ b ∉ X.fs ∧ (b ∈ X.ex ∨ X.s₀.heap.objs.size ≤ b) ∧ (∀ x c, X.env.cells.lookup x = some c → c ≠ b) ∧ ∀ p ∈ X.pn ++ pins, p.1 ≠ b
theorem Inv.fpOk {X : Cx} {pins : List (Addr × Obj)} {σ : St} {H H' : Hp} {s : Shared} {b : Addr} (I : Inv X pins σ H s) (hb : s.heap.objs.size ≤ b) (hn : H' b = none) : FpOk X pins H' b := by
  refine ⟨hn, Nat.ne_of_gt (Nat.lt_of_lt_of_le I.lt hb), I.nofs hb, .inr (Nat.le_trans I.sz hb), fun x c e z => ?_, fun p hp z => ?_⟩
  · obtain ⟨v, q⟩ := I.cell x c e
    exact absurd (Nat.lt_of_lt_of_le q.lt (by rw [z]; exact hb)) (Nat.lt_irrefl _)
  · exact absurd (Nat.lt_of_lt_of_le (Heap.lt_size (I.pin p hp).1) (by rw [z]; exact hb)) (Nat.lt_irrefl _)
structure Turn (P : Program) (w : World) (K : PySem.W.Frag) (tg : Expr) (J : It) (fp : List Addr) (it : Addr) (tn : Nat → Heap → Prop) : Prop where
  mem : it ∈ fp
  obj : ∀ i h, tn i h → ∀ b ∈ fp, ∃ o, h.get? b = some o ∧ ∀ v, o.data ≠ .cell v
  keep : ∀ i h h', tn i h → (∀ b ∈ fp, ∀ o, h.get? b = some o → h'.get? b = some o) → tn i h'
  item : ∀ (X : Cx), X.prog = P → X.w = w → X.K = K → X.calm = true → ∀ (i : Nat) (pins : List (Addr × Obj)) (s : Shared) (σ : St) (H : Hp) (E : Value → Shared → Prop), Inv X pins σ H s → (∀ b ∈ fp, FpOk X pins H b) → tn i s.heap → J.go i H →
    wpAny (model P w) X.A (pyNext (.ref it)) (fun r s1 => ∃ u, r = some u ∧
      wpAny (model P w) X.A (letOwnedTupleGo tg (.ref it) u) (fun _ s2 => ∃ x H', Inv X pins σ H' s2 ∧ RelV x u ∧ J.yld i H x H' ∧ tn (i + 1) s2.heap ∧ ∀ b ∈ fp, H' b = none) E s1) E s
  done : ∀ (X : Cx), X.prog = P → X.w = w → X.K = K → X.calm = true → ∀ (i : Nat) (pins : List (Addr × Obj)) (s : Shared) (σ : St) (H : Hp) (E : Value → Shared → Prop), Inv X pins σ H s → (∀ b ∈ fp, FpOk X pins H b) → tn i s.heap → J.stop i H →
    wpAny (model P w) X.A (pyNext (.ref it)) (fun r s1 => r = none ∧ Inv X pins σ H s1) E s
  self : ∀ (A : Around) (i : Nat) (s : Shared) (Q : Value → Shared → Prop) (E : Value → Shared → Prop), tn i s.heap → Q (.ref it) s → wpAny (model P w) A (pyIter (.ref it)) Q E s
abbrev TI := St → Hp → (It → Hp → Prop) → Prop
def PIE (X : Cx) (pins : List (Addr × Obj)) (σ : St) (tg : Expr) (R : It → Hp → Prop) (itv : Value) (s2 : Shared) : Prop :=
  ∃ (it : Addr) (fp : List Addr) (tn : Nat → Heap → Prop) (J : It) (H' : Hp), itv = .ref it ∧ Inv X pins σ H' s2 ∧ Turn X.prog X.w X.K tg J fp it tn ∧ tn 0 s2.heap ∧ (∀ b ∈ fp, FpOk X pins H' b) ∧ R J H'
def PI (X : Cx) (tg iter : Expr) (wi : TI) : Prop :=
  ∀ (pins : List (Addr × Obj)) (s : Shared) (σ : St) (H : Hp) (R : It → Hp → Prop), Inv X pins σ H s → wi σ H R →
    wpAny (model X.prog X.w) X.A (eval iter X.env) (fun v s1 => wpAny (model X.prog X.w) X.A (pyIter v) (PIE X pins σ tg R) X.xe s1) X.xe s
theorem go_of {M : Model} {A : Around} {E : Value → Shared → Prop} {s : Shared} {tg : Expr} {it : Addr} {u : Value} {o : Obj} {n : String} {vs : Array Value} {Q : Unit → Shared → Prop} (ho : s.heap.get? it = some o) (hc : o.cls = .type n) (hd : o.data = .fields vs)
    (hn : ["enumerate", "zip", "dict_itemiterator", "dict_reverseitemiterator", "odict_iterator", "itertools.zip_longest", "itertools.pairwise"].contains n = false) (hQ : Q () s) : wpAny M A (letOwnedTupleGo tg (.ref it) u) Q E s := by
  unfold letOwnedTupleGo
  cases tg <;> first
    | exact wpAny_pure hQ
    | (cases u <;> first
        | exact wpAny_pure hQ
        | (refine wpAny_bind (wpAny_load ho ?_)
           rw [hc, hd]
           show wpAny M A (if (["enumerate", "zip", "dict_itemiterator", "dict_reverseitemiterator", "odict_iterator", "itertools.zip_longest", "itertools.pairwise"].contains n && vs[0]? == some (rawInt _)) = true then _ else _) Q E s
           rw [if_neg (by intro h; rw [hn, Bool.false_and] at h; cases h)]
           exact wpAny_pure hQ))
def Itl (K : PySem.W.Frag) (a : Addr) : It :=
  ⟨fun i H => ∃ xs x, SqL K H a xs ∧ xs[i]? = some x, fun i H x H' => H' = H ∧ ∀ xs, SqL K H a xs → xs[i]? = some x, fun i H => ∃ xs, SqL K H a xs ∧ xs.length ≤ i⟩
def Itr (lo : Int) (n : Nat) : It := ⟨fun i _ => i < n, fun i H x H' => H' = H ∧ x = .int (lo + i), fun i _ => n ≤ i⟩
theorem turn_list {P : Program} {w : World} {K : PySem.W.Frag} {tg : Expr} (a it : Addr) : Turn P w K tg (Itl K a) [it] it (fun i h => h.IsListIter it a i) where
  mem := by simp
  obj := fun i h st b hb => by
    have e : b = it := by simpa using hb
    subst e
    obtain ⟨o, e, c, d⟩ := st
    exact ⟨o, e, fun v z => by rw [d] at z; cases z⟩
  keep := fun i h h' st k => st.at fun o e => k it (by simp) o e
  item := by
    intro X hP hw hK hc i pins s σ H E I hf st hg
    subst hP hw hK
    obtain ⟨xs, x, hq, hx⟩ := hg
    obtain ⟨its, rv, p, hz⟩ := I.list hq
    obtain ⟨u, hu, ru⟩ := rv.get hx
    obtain ⟨f0, f1, f2, f3, f4, f5⟩ := hf it (by simp)
    refine wpAny_pyNext_list_item st p.isList (x := u) (by simpa using hu) fun h' st' sb => ?_
    have I1 : Inv X pins σ H { s with heap := h' } := I.turned (t' := s.toks) (fun b o hb e => (sb.2 b hb).trans e) f0 f1 f3 f4 f5
    obtain ⟨o, e, c, d⟩ := id st'
    exact ⟨u, rfl, go_of (s := { s with heap := h' }) e c d (by decide) ⟨x, H, I1, ru, ⟨rfl, fun ys hy => by rw [I.list_inj hy hq]; exact hx⟩, st', fun b hb => (hf b hb).1⟩⟩
  done := by
    intro X hP hw hK hc i pins s σ H E I hf st hg
    subst hP hw hK
    obtain ⟨xs, hq, hx⟩ := hg
    obtain ⟨its, rv, p, hz⟩ := I.list hq
    obtain ⟨f0, f1, f2, f3, f4, f5⟩ := hf it (by simp)
    have hl := rv.length
    exact wpAny_pyNext_list_end (I.ok.hd hc) st p.isList (by simp; omega) fun h' eb => ⟨rfl, I.turned (t' := s.toks) (fun b o hb e => eb b o hb e) f0 f1 f3 f4 f5⟩
  self := fun _ _ _ _ _ st h => wpAny_pyIter_listiter st h
theorem turn_range {P : Program} {w : World} {K : PySem.W.Frag} {tg : Expr} (it : Addr) (lo : Int) (n : Nat) : Turn P w K tg (Itr lo n) [it] it (fun i h => IsRangeIter h it (lo + (i : Nat) * 1) ((n : Int) - (i : Nat)) 1) where
  mem := by simp
  obj := fun i h st b hb => by
    have e : b = it := by simpa using hb
    subst e
    exact ⟨_, st, fun v z => by
      have z' : Data.fields _ = Data.cell v := z
      cases z'⟩
  keep := fun i h h' st k => k it (by simp) _ st
  item := by
    intro X hP hw hK hc i pins s σ H E I hf st hg
    subst hP hw hK
    obtain ⟨f0, f1, f2, f3, f4, f5⟩ := hf it (by simp)
    have W := Walks.range (prog := X.prog) (w := X.w) (I.ok.hd hc) it lo 1 n
    refine W.item i s _ _ hg st fun v h' tk hv st' kk => ?_
    obtain ⟨t, rfl⟩ := hv
    have I1 : Inv X pins σ H { s with heap := h', toks := tk } := I.turned (fun b o hb e => kk b o (by simpa using hb) e) f0 f1 f3 f4 f5
    refine ⟨_, rfl, go_of (s := { s with heap := h', toks := tk }) (n := "range_iterator") st' rfl rfl (by decide) ⟨.int (lo + i), H, I1, ⟨t, ?_⟩, ⟨rfl, rfl⟩, st', fun b hb => (hf b hb).1⟩⟩
    rw [Int.mul_one]
  done := by
    intro X hP hw hK hc i pins s σ H E I hf st hg
    subst hP hw hK
    obtain ⟨f0, f1, f2, f3, f4, f5⟩ := hf it (by simp)
    exact wpAny_pyNext_range_end (I.ok.hd hc) st (by have : n ≤ i := hg; omega) fun h' eb => ⟨rfl, I.turned (t' := s.toks) (fun b o hb e => eb b o hb e) f0 f1 f3 f4 f5⟩
  self := fun _ _ _ _ _ st h => wpAny_pyIter_rangeiter st h
end L2
namespace L2
open PySem PySem.Spec PyProof.Rows
section
variable {X : Cx} {tg : Expr}
def iList (K : PySem.W.Frag) (tl : TE) : TI := fun σ H R => tl σ H fun x H1 => ∃ a, x = .ref a ∧ (∃ xs, SqL K H1 a xs) ∧ R (Itl K a) H1
theorem pi_list {l : Expr} {tl : TE} (hl : PE X l tl) : PI X tg l (iList X.K tl) := by
  intro pins s σ H R I h
  refine thn (hl pins s σ H _ I h) fun v s1 ⟨x, H1, I1, r1, q1⟩ => ?_
  obtain ⟨a, e, ⟨xs, hq⟩, q⟩ := q1
  subst e
  cases r1
  obtain ⟨its, rv, p, hz⟩ := I1.list hq
  refine wpAny_pyIter_list p.isList ?_
  refine ⟨s1.heap.objs.size, [s1.heap.objs.size], _, _, H1, rfl, I1.kept (t' := s1.toks) fun b o e => Heap.get?_push_of_some _ e, turn_list a _, ⟨_, Heap.get?_push_size _ rfl, rfl, rfl⟩, fun b hb => ?_, q⟩
  have e : b = s1.heap.objs.size := by simpa using hb
  subst e
  exact I1.fpOk (Nat.le_refl _) (I1.hok.fresh (Nat.le_refl _))
theorem range_it {pins : List (Addr × Obj)} {σ : St} {H : Hp} {s : Shared} {R : It → Hp → Prop} {E : Value → Shared → Prop} {lo hi : Int} {t u v : Tok} {tk : Nat} (I : Inv X pins σ H s) (h1 : -(2 ^ 62) ≤ lo) (h2 : lo < 2 ^ 62) (h3 : -(2 ^ 62) ≤ hi) (h4 : hi < 2 ^ 62)
    (q : R (Itr lo (hi - lo).toNat) H) : wpAny (model X.prog X.w) X.A (pyIter (.ref s.heap.objs.size)) (PIE X pins σ tg R) E { s with heap := s.heap.push { cls := .type "range", data := .fields #[.int lo t, .int hi u, .int 1 v] }, toks := tk } := by
  refine wpAny_pyIter_range (IsRange.new ..) (small_one h1 h2 h3 h4) ?_
  have I1 : Inv X pins σ H { s with heap := s.heap.push { cls := .type "range", data := .fields #[.int lo t, .int hi u, .int 1 v] }, toks := tk } := I.kept fun b o e => Heap.get?_push_of_some _ e
  refine ⟨(s.heap.push { cls := .type "range", data := .fields #[.int lo t, .int hi u, .int 1 v] }).objs.size, [(s.heap.push { cls := .type "range", data := .fields #[.int lo t, .int hi u, .int 1 v] }).objs.size], _, _, H, rfl,
    I1.kept (t' := tk) fun b o e => Heap.get?_push_of_some _ e, turn_range _ lo (hi - lo).toNat, ?_, fun b hb => ?_, q⟩
  · have e1 : lo + ((0 : Nat) : Int) * 1 = lo := by simp
    have e2 : (((hi - lo).toNat : Nat) : Int) - ((0 : Nat) : Int) = Builtin.Range.rangeSize lo hi 1 := by rw [rangeSize_one]; split <;> omega
    show IsRangeIter _ _ (lo + ((0 : Nat) : Int) * 1) ((((hi - lo).toNat : Nat) : Int) - ((0 : Nat) : Int)) 1
    rw [e1, e2]
    exact Heap.get?_push_size _ rfl
  · have e : b = (s.heap.push { cls := .type "range", data := .fields #[.int lo t, .int hi u, .int 1 v] }).objs.size := by simpa using hb
    subst e
    exact I1.fpOk (Nat.le_refl _) (I1.hok.fresh (Nat.le_refl _))
def iRng1 (ta : TA) : TI := fun σ H R => ta σ H fun vs H1 => ∃ j : Int, vs = [.int j] ∧ -(2 ^ 62) ≤ j ∧ j < 2 ^ 62 ∧ R (Itr 0 j.toNat) H1
theorem pi_range1 {a : Expr} {ta : TA} {p pos : Pos} (hg : Gl X "range") (hm : X.mg "range" = none) (ha : PA X [a] ta) (hs : starEach [a] X.env = [(false, eval a X.env)] := by rfl) : PI X tg (.Call (.Name "range" p) [a] [] pos) (iRng1 ta) := by
  intro pins s σ H R I h
  refine Call_ (ld_blt I hg hm boot_range (PyProof.Rows.callWith_type1 (thn (ha pos pins s σ H _ I h) fun us s1 ⟨vs, H1, I1, r1, q1⟩ => ?_) hs rfl))
  obtain ⟨j, e, q1, q2, q⟩ := q1
  subst e
  cases r1 with
  | cons r rr =>
    cases rr
    obtain ⟨t, rfl⟩ := r
    exact call_range_1 (range_it I1 (by omega) (by omega) q1 q2 (by simpa using q))
def tFor (wi : TI) (g : TG) (tb : TS) : TS := fun D σ H => wi σ H fun J H1 => ∃ W : Nat → Nat → St → Hp → Prop, (∃ m, W 0 m σ H1) ∧ ∀ i m σ H, W i m σ H →
  (J.stop i H ∧ D.nx σ H) ∨ (J.go i H ∧ ∃ N : St → Hp → Prop, (∀ σ' H', N σ' H' → ∃ m', m' < m ∧ W (i + 1) m' σ' H') ∧ ∀ x H', J.yld i H x H' → g x σ H' fun σ2 H2 => tb { D with nx := N, ct := N, bk := D.nx } σ2 H2)
def pinsAt (fp : List Addr) (h : Heap) : List (Addr × Obj) := fp.filterMap fun b => (h.get? b).map fun o => (b, o)
theorem mem_pinsAt {fp : List Addr} {h : Heap} {b : Addr} {o : Obj} (hb : b ∈ fp) (e : h.get? b = some o) : (b, o) ∈ pinsAt fp h := List.mem_filterMap.mpr ⟨b, hb, by rw [e]; rfl⟩
theorem of_pinsAt {fp : List Addr} {h : Heap} {p : Addr × Obj} (hp : p ∈ pinsAt fp h) : p.1 ∈ fp ∧ h.get? p.1 = some p.2 := by
  obtain ⟨b, hb, e⟩ := List.mem_filterMap.mp hp
  cases q : h.get? b with
  | none => rw [q] at e; cases e
  | some o =>
    rw [q] at e
    have e' : (b, o) = p := Option.some.inj e
    subst e'
    exact ⟨hb, q⟩
theorem Inv.pinned {pins : List (Addr × Obj)} {σ : St} {H : Hp} {s : Shared} {fp : List Addr} (I : Inv X pins σ H s) (hf : ∀ b ∈ fp, FpOk X pins H b) (ho : ∀ b ∈ fp, ∃ o, s.heap.get? b = some o ∧ ∀ v, o.data ≠ .cell v) : Inv X (pins ++ pinsAt fp s.heap) σ H s :=
  I.pins_of fun p hp => (List.mem_append.mp hp).elim (fun z => I.pin p (List.mem_append_right _ z)) fun z => by
    obtain ⟨hb, e⟩ := of_pinsAt z
    obtain ⟨f0, f1, f2, _⟩ := hf p.1 hb
    obtain ⟨o, e', d⟩ := ho p.1 hb
    rw [e] at e'; cases e'
    exact ⟨e, f0, f1, f2, d⟩
theorem Inv.unpinned {pins pl : List (Addr × Obj)} {σ : St} {H : Hp} {s : Shared} (I : Inv X (pins ++ pl) σ H s) : Inv X pins σ H s := I.pins_of fun p hp => I.pin p (List.mem_append_right _ (List.mem_append_left _ hp))
theorem ps_for {iter : Expr} {body : List Stmt} {wi : TI} {g : TG} {tb : TS} {pos : Pos} (hp : PassesOwn (model X.prog X.w) X.A X.env X.xe) (hc : X.calm = true) (hi : PI X tg iter wi) (hg : PG X tg g) (hb : PSs X body tb)
    (hs : ∀ x, foldedSetIterable iter X.env x = pure x := by intro _; rfl) : PS X (.For tg iter body [] pos) (tFor wi g tb) := by
  intro pins s σ H D I h
  refine wpAny_For (thn (hi pins s σ H _ I h) fun v s1 h1 => thn h1 fun itv s2 h2 => ?_) hs
  obtain ⟨it, fp, tn, J, H2, e, I2, T, st2, f2, W, ⟨m0, w0⟩, turn⟩ := h2
  subst e
  -- what stays true of the iterator's objects through the loop
  have stat : ∀ {H' : Hp}, (∀ b ∈ fp, H' b = none) → ∀ b ∈ fp, FpOk X pins H' b := fun hn b hb => ⟨hn b hb, (f2 b hb).2⟩
  refine codeAny_forLoop_any (fun n s' => ∃ i σ' H', Inv X pins σ' H' s' ∧ tn i s'.heap ∧ (∀ b ∈ fp, H' b = none) ∧ W i n σ' H') ?_ m0 ⟨0, σ, H2, I2, st2, fun b hb => (f2 b hb).1, w0⟩
  rintro n s3 ⟨i, σ3, H3, I3, st3, fr3, w3⟩
  rcases turn i n σ3 H3 w3 with ⟨stop, qn⟩ | ⟨go, N, hN, step⟩
  · refine wpAny_passesOwn hp (thn (T.done X rfl rfl rfl hc i pins s3 σ3 H3 X.xe I3 (stat fr3) st3 stop) fun r s4 ⟨hr, I4⟩ => ?_)
    subst hr
    exact wpAny_execs_nil ⟨σ3, H3, I4, qn⟩
  · refine wpAny_passesOwn hp (thn (T.item X rfl rfl rfl hc i pins s3 σ3 H3 X.xe I3 (stat fr3) st3 go) fun r s4 ⟨u, hr, h4⟩ => ?_)
    subst hr
    refine wpAny_passesOwn hp (thn h4 fun _ s5 ⟨x, H5, I5, r5, y5, st5, fr5⟩ => ?_)
    have I5' := I5.pinned (stat fr5) (T.obj _ _ st5)
    refine wpAny_passesOwn hp (thn (hg _ s5 σ3 H5 x u _ I5' r5 (step x H5 y5)) fun _ s6 ⟨σ6, H6, I6, q6⟩ => ?_)
    refine wpAny_passesOwn hp (thn (hb _ s6 σ6 H6 _ I6 q6) fun f s7 q7 => ?_)
    have again : ∀ {σ7 : St} {H7 : Hp}, Inv X (pins ++ pinsAt fp s5.heap) σ7 H7 s7 → N σ7 H7 → ∃ m, m < n ∧ ∃ i σ' H', Inv X pins σ' H' s7 ∧ tn i s7.heap ∧ (∀ b ∈ fp, H' b = none) ∧ W i m σ' H' := fun {σ7 H7} I7 n7 => by
      obtain ⟨m', hm, w7⟩ := hN σ7 H7 n7
      refine ⟨m', hm, i + 1, σ7, H7, I7.unpinned, T.keep _ _ _ st5 fun b hb o e => (I7.pin (b, o) (List.mem_append_right _ (List.mem_append_right _ (mem_pinsAt hb e)))).1, fun b hb => ?_, w7⟩
      obtain ⟨o, e, d⟩ := T.obj _ _ st5 b hb
      exact (I7.pin (b, o) (List.mem_append_right _ (List.mem_append_right _ (mem_pinsAt hb e)))).2.1
    cases f with
    | next => obtain ⟨σ7, H7, I7, n7⟩ := q7; exact again I7 n7
    | cont => obtain ⟨σ7, H7, I7, n7⟩ := q7; exact again I7 n7
    | brk => obtain ⟨σ7, H7, I7, q7⟩ := q7; exact ⟨σ7, H7, I7.unpinned, q7⟩
    | ret v => obtain ⟨x7, σ7, H7, I7, r7, q7⟩ := q7; exact ⟨x7, σ7, H7, I7.unpinned, r7, q7⟩
end
theorem for_list {K : PySem.W.Frag} {a : Addr} {xs : List V} {g : TG} {tb : TS} {D : Ends} {σ : St} {H : Hp} (Pv : Nat → St → Hp → Prop) (h0 : Pv 0 σ H) (hl : ∀ i σ H, i ≤ xs.length → Pv i σ H → SqL K H a xs)
    (hs : ∀ i x σ H, xs[i]? = some x → Pv i σ H → g x σ H fun σ2 H2 => tb { D with nx := Pv (i + 1), ct := Pv (i + 1), bk := D.nx } σ2 H2) (hd : ∀ σ H, Pv xs.length σ H → D.nx σ H) :
    ∃ W : Nat → Nat → St → Hp → Prop, (∃ m, W 0 m σ H) ∧ ∀ i m σ H, W i m σ H →
      ((Itl K a).stop i H ∧ D.nx σ H) ∨ ((Itl K a).go i H ∧ ∃ N : St → Hp → Prop, (∀ σ' H', N σ' H' → ∃ m', m' < m ∧ W (i + 1) m' σ' H') ∧ ∀ x H', (Itl K a).yld i H x H' → g x σ H' fun σ2 H2 => tb { D with nx := N, ct := N, bk := D.nx } σ2 H2) := by
  refine ⟨fun i m σ H => m = xs.length - i ∧ i ≤ xs.length ∧ Pv i σ H, ⟨xs.length, by simp, Nat.zero_le _, h0⟩, ?_⟩
  rintro i m σ H ⟨rfl, hi, p⟩
  have q := hl i σ H hi p
  by_cases hlt : i < xs.length
  · refine .inr ⟨⟨xs, xs[i], q, by simp [hlt]⟩, Pv (i + 1), fun σ' H' p' => ⟨xs.length - (i + 1), by omega, rfl, hlt, p'⟩, fun x H' y => ?_⟩
    obtain ⟨e, y⟩ := y
    subst e
    exact hs i x σ _ (y xs q) p
  · have e : i = xs.length := by omega
    subst e
    exact .inl ⟨⟨xs, q, Nat.le_refl _⟩, hd σ H p⟩
theorem for_range {lo : Int} {n : Nat} {g : TG} {tb : TS} {D : Ends} {σ : St} {H : Hp} (Pv : Nat → St → Hp → Prop) (h0 : Pv 0 σ H)
    (hs : ∀ i σ H, i < n → Pv i σ H → g (.int (lo + i)) σ H fun σ2 H2 => tb { D with nx := Pv (i + 1), ct := Pv (i + 1), bk := D.nx } σ2 H2) (hd : ∀ σ H, Pv n σ H → D.nx σ H) :
    ∃ W : Nat → Nat → St → Hp → Prop, (∃ m, W 0 m σ H) ∧ ∀ i m σ H, W i m σ H →
      ((Itr lo n).stop i H ∧ D.nx σ H) ∨ ((Itr lo n).go i H ∧ ∃ N : St → Hp → Prop, (∀ σ' H', N σ' H' → ∃ m', m' < m ∧ W (i + 1) m' σ' H') ∧ ∀ x H', (Itr lo n).yld i H x H' → g x σ H' fun σ2 H2 => tb { D with nx := N, ct := N, bk := D.nx } σ2 H2) := by
  refine ⟨fun i m σ H => m = n - i ∧ i ≤ n ∧ Pv i σ H, ⟨n, by simp, Nat.zero_le _, h0⟩, ?_⟩
  rintro i m σ H ⟨rfl, hi, p⟩
  by_cases hlt : i < n
  · refine .inr ⟨hlt, Pv (i + 1), fun σ' H' p' => ⟨n - (i + 1), by omega, rfl, hlt, p'⟩, fun x H' y => ?_⟩
    obtain ⟨e, y⟩ := y
    subst e y
    exact hs i σ _ hlt p
  · have e : i = n := by omega
    subst e
    exact .inl ⟨Nat.le_refl _, hd σ H p⟩
end L2
namespace L2
open PySem PySem.Spec PyProof.Rows
abbrev R2 := V → V → Hp → VK → Prop
def OpR (X : Cx) (f : Value → Value → Sem Value) (r : R2) : Prop :=
  ∀ (pins : List (Addr × Obj)) (s : Shared) (σ : St) (H : Hp) (x y : V) (v u : Value) (Q : VK), Inv X pins σ H s → RelV x v → RelV y u → r x y H Q →
    wpAny (model X.prog X.w) X.A (f v u) (EP X pins σ Q) X.xe s
def UnR (X : Cx) (f : Value → Sem Value) (r : V → Hp → VK → Prop) : Prop :=
  ∀ (pins : List (Addr × Obj)) (s : Shared) (σ : St) (H : Hp) (x : V) (v : Value) (Q : VK), Inv X pins σ H s → RelV x v → r x H Q →
    wpAny (model X.prog X.w) X.A (f v) (EP X pins σ Q) X.xe s
def CallR (X : Cx) (f : Value) (r : List V → Hp → VK → Prop) : Prop :=
  ∀ (pins : List (Addr × Obj)) (s : Shared) (σ : St) (H : Hp) (xs : List V) (us : List Value) (Q : VK), Inv X pins σ H s → Vals xs us → r xs H Q →
    wpAny (model X.prog X.w) X.A (call f us) (EP X pins σ Q) X.xe s
def tOp (r : R2) (ta tb : TE) : TE := fun σ H Q => ta σ H fun x H1 => tb σ H1 fun y H2 => r x y H2 Q
def tUn (r : V → Hp → VK → Prop) (ta : TE) : TE := fun σ H Q => ta σ H fun x H1 => r x H1 Q
def rI (C : Int → Int → Prop) (g : Int → Int → V) : R2 := fun x y H Q => ∃ i j, x = .int i ∧ y = .int j ∧ C i j ∧ Q (g i j) H
def rI0 (g : Int → Int → V) : R2 := fun x y H Q => ∃ i j, x = .int i ∧ y = .int j ∧ Q (g i j) H
def rU (g : Int → V) : V → Hp → VK → Prop := fun x H Q => ∃ i, x = .int i ∧ Q (g i) H
section
variable {X : Cx} {a b c : Expr} {ta tb tc : TE} {pos : Pos}
theorem binT (ha : PE X a ta) (hb : PE X b tb) {pins : List (Addr × Obj)} {s : Shared} {σ : St} {H : Hp} {R : V → V → Hp → Prop} (I : Inv X pins σ H s)
    (h : ta σ H fun x H1 => tb σ H1 fun y H2 => R x y H2) {Q : Value → Shared → Prop} {f : Value → Value → Sem Value}
    (hf : ∀ v u s2 x y H2, Inv X pins σ H2 s2 → RelV x v → RelV y u → R x y H2 → wpAny (model X.prog X.w) X.A (f v u) Q X.xe s2) :
    wpAny (model X.prog X.w) X.A (eval a X.env) (fun v s₁ => wpAny (model X.prog X.w) X.A (eval b X.env) (fun u s₂ => wpAny (model X.prog X.w) X.A (f v u) Q X.xe s₂) X.xe s₁) X.xe s := by
  refine thn (ha pins s σ H _ I h) fun v s1 ⟨x, H1, I1, r1, q1⟩ => ?_
  refine thn (hb pins s1 σ H1 _ I1 q1) fun u s2 ⟨y, H2, I2, r2, q2⟩ => ?_
  exact hf v u s2 x y H2 I2 r1 r2 q2
theorem pe_op {op : Operator} {r : R2} (ho : OpR X (binaryOp op) r) (ha : PE X a ta) (hb : PE X b tb) : PE X (.BinOp a op b pos) (tOp r ta tb) := by
  intro pins s σ H Q I h
  exact wpAny_BinOp (binT ha hb I h fun v u s2 x y H2 I2 rx ry q => ho pins s2 σ H2 x y v u Q I2 rx ry q)
theorem pe_un {op : UnaryOp} {r : V → Hp → VK → Prop} (ho : UnR X (unaryOp op) r) (ha : PE X a ta) : PE X (.UnaryOp op a pos) (tUn r ta) := by
  intro pins s σ H Q I h
  exact UnaryOp_ (thn (ha pins s σ H _ I h) fun v s1 ⟨x, H1, I1, r1, q1⟩ => ho pins s1 σ H1 x v Q I1 r1 q1)
theorem opI {f : Value → Value → Sem Value} {C : Int → Int → Prop} {g : Int → Int → Int}
    (rule : ∀ (i j : Int) (t u : Tok) (s : Shared) (Q : Value → Shared → Prop) (E : Value → Shared → Prop), C i j → Q (.int (g i j) s.toks) { s with toks := s.toks + 1 } → wpAny (model X.prog X.w) X.A (f (.int i t) (.int j u)) Q E s) :
    OpR X f (rI C fun i j => .int (g i j)) := by
  intro pins s σ H x y v u Q I rx ry h
  obtain ⟨i, j, rfl, rfl, hc, q⟩ := h
  obtain ⟨t, rfl⟩ := rx
  obtain ⟨t', rfl⟩ := ry
  exact rule i j t t' s _ _ hc ⟨.int (g i j), H, I.tok _, ⟨_, rfl⟩, q⟩
theorem opI0 {f : Value → Value → Sem Value} {g : Int → Int → Int}
    (rule : ∀ (i j : Int) (t u : Tok) (s : Shared) (Q : Value → Shared → Prop) (E : Value → Shared → Prop), Q (.int (g i j) s.toks) { s with toks := s.toks + 1 } → wpAny (model X.prog X.w) X.A (f (.int i t) (.int j u)) Q E s) :
    OpR X f (rI0 fun i j => .int (g i j)) := by
  intro pins s σ H x y v u Q I rx ry h
  obtain ⟨i, j, rfl, rfl, q⟩ := h
  obtain ⟨t, rfl⟩ := rx
  obtain ⟨t', rfl⟩ := ry
  exact rule i j t t' s _ _ ⟨.int (g i j), H, I.tok _, ⟨_, rfl⟩, q⟩
theorem opB0 {f : Value → Value → Sem Value} {g : Int → Int → Bool}
    (rule : ∀ (i j : Int) (t u : Tok) (s : Shared) (Q : Value → Shared → Prop) (E : Value → Shared → Prop), Q (.bool (g i j)) s → wpAny (model X.prog X.w) X.A (f (.int i t) (.int j u)) Q E s) :
    OpR X f (rI0 fun i j => .bl (g i j)) := by
  intro pins s σ H x y v u Q I rx ry h
  obtain ⟨i, j, rfl, rfl, q⟩ := h
  obtain ⟨t, rfl⟩ := rx
  obtain ⟨t', rfl⟩ := ry
  exact rule i j t t' s _ _ ⟨.bl (g i j), H, I, rfl, q⟩
def CMul (i j : Int) : Prop := (-(2 ^ 64) < i ∧ i < 2 ^ 64) ∨ (-(2 ^ 64) < j ∧ j < 2 ^ 64)
theorem CMul.ok {i j : Int} (h : CMul i j) : IntMulOk i j := by
  rcases h with ⟨h1, h2⟩ | ⟨h1, h2⟩
  · exact .of_left (intBits_le_64 h1 h2)
  · exact .of_right (intBits_le_64 h1 h2)
theorem op_add : OpR X (binaryOp .Add) (rI0 fun i j => .int (i + j)) := opI0 fun _ _ _ _ _ _ _ q => add_int q
theorem op_sub : OpR X (binaryOp .Sub) (rI0 fun i j => .int (i - j)) := opI0 fun _ _ _ _ _ _ _ q => sub_int q
theorem op_mul : OpR X (binaryOp .Mult) (rI CMul fun i j => .int (i * j)) := opI fun _ _ _ _ _ _ _ hc q => mul_int q hc.ok
theorem op_mod : OpR X (binaryOp .Mod) (rI (fun _ j => 0 < j) fun i j => .int (i % j)) := opI fun i j _ _ _ _ _ hc q => by
  have h1 : (0 : Int) < j := hc
  exact mod_int' (by omega) (by rw [Int.fmod_eq_emod_of_nonneg i (by omega)]; exact q)
theorem unI {f : Value → Sem Value} {g : Int → Int}
    (rule : ∀ (i : Int) (t : Tok) (s : Shared) (Q : Value → Shared → Prop) (E : Value → Shared → Prop), Q (.int (g i) s.toks) { s with toks := s.toks + 1 } → wpAny (model X.prog X.w) X.A (f (.int i t)) Q E s) :
    UnR X f (rU fun i => .int (g i)) := by
  intro pins s σ H x v Q I rx h
  obtain ⟨i, rfl, q⟩ := h
  obtain ⟨t, rfl⟩ := rx
  exact rule i t s _ _ ⟨.int (g i), H, I.tok _, ⟨_, rfl⟩, q⟩
theorem un_neg : UnR X (unaryOp .USub) (rU fun i => .int (-i)) := unI fun _ _ _ _ _ q => neg_int q
end
def scal : V → V → Bool
  | .non, .non => true | .non, .int _ => true | .int _, .non => true | .non, .bl _ => true | .bl _, .non => true | .non, .str _ => true | .str _, .non => true
  | .int _, .int _ => true | .bl _, .bl _ => true | .str _, .str _ => true | .byt _, .byt _ => true
  | .int _, .str _ => true | .str _, .int _ => true | .bl _, .str _ => true | .str _, .bl _ => true
  | _, _ => false
def rEq : R2 := fun x y H Q => scal x y = true ∧ Q (.bl (decide (x = y))) H
def rNe : R2 := fun x y H Q => scal x y = true ∧ Q (.bl (!decide (x = y))) H
theorem dec_int {i j : Int} : decide (V.int i = V.int j) = (i == j) := by
  rw [Bool.eq_iff_iff]
  simp
theorem dec_bl {i j : Bool} : decide (V.bl i = V.bl j) = (i == j) := by
  rw [Bool.eq_iff_iff]
  simp
theorem dec_str {i j : Str} : decide (V.str i = V.str j) = (i == j) := by
  rw [Bool.eq_iff_iff]
  simp
theorem dec_byt {i j : Array UInt8} : decide (V.byt i = V.byt j) = (i.toList == j.toList) := by
  rw [Bool.eq_iff_iff]
  cases i
  cases j
  simp
section
variable {X : Cx} {a b c : Expr} {ta tb tc : TE} {pos : Pos}
theorem fin_bl {pins : List (Addr × Obj)} {σ : St} {H : Hp} {s : Shared} {Q : VK} {k k' : Bool} (I : Inv X pins σ H s) (q : Q (.bl k) H) (e : k = k') : EP X pins σ Q (.bool k') s := by
  subst e
  exact ⟨.bl k, H, I, rfl, q⟩
theorem op_eq : OpR X (compareOp .Eq) rEq := by
  intro pins s σ H x y v u Q I rx ry h
  obtain ⟨hs, q⟩ := h
  cases x with
  | non =>
    cases rx
    cases y with
    | non => cases ry; exact PySem.EqNone.eq_none_none (fin_bl I q (by simp))
    | bl j => cases ry; exact PySem.EqNone.eq_none_bool (fin_bl I q (by simp))
    | int j => obtain ⟨t', rfl⟩ := ry; exact PySem.EqNone.eq_none_int (fin_bl I q (by simp))
    | str j => obtain ⟨t', rfl⟩ := ry; exact PySem.EqNone.eq_none_str (fin_bl I q (by simp))
    | _ => exact absurd (show false = true from hs) Bool.false_ne_true
  | bl i =>
    cases rx
    cases y with
    | non => cases ry; exact PySem.EqNone.eq_bool_none (fin_bl I q (by simp))
    | bl j => cases ry; exact eq_bool (fin_bl I q dec_bl)
    | str j => obtain ⟨t', rfl⟩ := ry; exact PySem.EqMixed.eq_bool_str (fin_bl I q (by simp))
    | _ => exact absurd (show false = true from hs) Bool.false_ne_true
  | int i =>
    obtain ⟨t, rfl⟩ := rx
    cases y with
    | non => cases ry; exact PySem.EqNone.eq_int_none (fin_bl I q (by simp))
    | int j => obtain ⟨t', rfl⟩ := ry; exact eq_int (fin_bl I q dec_int)
    | str j => obtain ⟨t', rfl⟩ := ry; exact PySem.EqMixed.eq_int_str (fin_bl I q (by simp))
    | _ => exact absurd (show false = true from hs) Bool.false_ne_true
  | str i =>
    obtain ⟨t, rfl⟩ := rx
    cases y with
    | non => cases ry; exact PySem.EqNone.eq_str_none (fin_bl I q (by simp))
    | bl j => cases ry; exact PySem.EqMixed.eq_str_bool (fin_bl I q (by simp))
    | int j => obtain ⟨t', rfl⟩ := ry; exact PySem.EqMixed.eq_str_int (fin_bl I q (by simp))
    | str j => obtain ⟨t', rfl⟩ := ry; exact eq_str (fin_bl I q dec_str)
    | _ => exact absurd (show false = true from hs) Bool.false_ne_true
  | byt i =>
    obtain ⟨t, rfl⟩ := rx
    cases y with
    | byt j => obtain ⟨t', rfl⟩ := ry; exact PySem.W.eq_bytes (fin_bl I q dec_byt)
    | _ => exact absurd (show false = true from hs) Bool.false_ne_true
  | _ => cases y <;> exact absurd (show false = true from hs) Bool.false_ne_true
theorem op_ne : OpR X (compareOp .NotEq) rNe := by
  intro pins s σ H x y v u Q I rx ry h
  obtain ⟨hs, q⟩ := h
  cases x with
  | non =>
    cases rx
    cases y with
    | non => cases ry; exact PySem.EqNone.ne_none_none (fin_bl I q (by simp))
    | bl j => cases ry; exact PySem.EqNone.ne_none_bool (fin_bl I q (by simp))
    | int j => obtain ⟨t', rfl⟩ := ry; exact PySem.EqNone.ne_none_int (fin_bl I q (by simp))
    | str j => obtain ⟨t', rfl⟩ := ry; exact PySem.EqNone.ne_none_str (fin_bl I q (by simp))
    | _ => exact absurd (show false = true from hs) Bool.false_ne_true
  | bl i =>
    cases rx
    cases y with
    | non => cases ry; exact PySem.EqNone.ne_bool_none (fin_bl I q (by simp))
    | bl j => cases ry; exact ne_bool (fin_bl I q (congrArg not dec_bl))
    | str j => obtain ⟨t', rfl⟩ := ry; exact PySem.EqMixed.ne_bool_str (fin_bl I q (by simp))
    | _ => exact absurd (show false = true from hs) Bool.false_ne_true
  | int i =>
    obtain ⟨t, rfl⟩ := rx
    cases y with
    | non => cases ry; exact PySem.EqNone.ne_int_none (fin_bl I q (by simp))
    | int j => obtain ⟨t', rfl⟩ := ry; exact ne_int (fin_bl I q (congrArg not dec_int))
    | str j => obtain ⟨t', rfl⟩ := ry; exact PySem.EqMixed.ne_int_str (fin_bl I q (by simp))
    | _ => exact absurd (show false = true from hs) Bool.false_ne_true
  | str i =>
    obtain ⟨t, rfl⟩ := rx
    cases y with
    | non => cases ry; exact PySem.EqNone.ne_str_none (fin_bl I q (by simp))
    | bl j => cases ry; exact PySem.EqMixed.ne_str_bool (fin_bl I q (by simp))
    | int j => obtain ⟨t', rfl⟩ := ry; exact PySem.EqMixed.ne_str_int (fin_bl I q (by simp))
    | str j => obtain ⟨t', rfl⟩ := ry; exact ne_str (fin_bl I q (congrArg not dec_str))
    | _ => exact absurd (show false = true from hs) Bool.false_ne_true
  | byt i =>
    obtain ⟨t, rfl⟩ := rx
    cases y with
    | byt j => obtain ⟨t', rfl⟩ := ry; exact PySem.W.ne_bytes (fin_bl I q (congrArg not dec_byt))
    | _ => exact absurd (show false = true from hs) Bool.false_ne_true
  | _ => cases y <;> exact absurd (show false = true from hs) Bool.false_ne_true
theorem op_le : OpR X (compareOp .LtE) (rI0 fun i j => .bl (decide (i ≤ j))) := opB0 fun _ _ _ _ _ _ _ q => le_int q
theorem op_gt : OpR X (compareOp .Gt) (rI0 fun i j => .bl (decide (j < i))) := opB0 fun _ _ _ _ _ _ _ q => gt_int q
theorem op_ge : OpR X (compareOp .GtE) (rI0 fun i j => .bl (decide (j ≤ i))) := opB0 fun _ _ _ _ _ _ _ q => ge_int q
theorem nomark (b : Expr) {op : CmpOp} (h : op ≠ .In := by decide) (h2 : op ≠ .NotIn := by decide) : behindInMarks op b = false := by
  have e1 : (op == CmpOp.In) = false := by cases op <;> first | rfl | exact absurd rfl h
  have e2 : (op == CmpOp.NotIn) = false := by cases op <;> first | rfl | exact absurd rfl h2
  cases b <;> simp [behindInMarks, e1, e2]
theorem pe_cmpR {op : CmpOp} {r : R2} (ho : OpR X (compareOp op) r) (ha : PE X a ta) (hb : PE X b tb) (hm : behindInMarks op b = false) : PE X (.Compare a [op] [b] pos) (tOp r ta tb) := by
  intro pins s σ H Q I h
  exact wpAny_Compare1 (binT ha hb I h fun v u s2 x y H2 I2 rx ry q => ho pins s2 σ H2 x y v u Q I2 rx ry q) hm
def tTest (t : TE) : TT := fun σ H Q => t σ H fun x H' => ∃ k, x = .bl k ∧ Q k H'
theorem pt_cmpR {op : CmpOp} {r : R2} (ho : OpR X (compareOp op) r) (ha : PE X a ta) (hb : PE X b tb) (hm : behindInMarks op b = false) : PT X (.Compare a [op] [b] pos) (tTest (tOp r ta tb)) := by
  intro pins s σ H Q I h
  refine wpAny_isTrue_Compare1 (thn (ha pins s σ H _ I h) fun v s1 ⟨x, H1, I1, r1, q1⟩ => thn (hb pins s1 σ H1 _ I1 q1) fun u s2 ⟨y, H2, I2, r2, q2⟩ =>
    thn (ho pins s2 σ H2 x y v u _ I2 r1 r2 q2) fun c s3 ⟨z, H3, I3, r3, k, e, q3⟩ => ?_) hm
  subst e
  cases r3
  exact wpAny_truthy_bool ⟨H3, I3, q3⟩
theorem line63 : (sizeLine : Nat) < 2 ^ 63 := by rw [sizeLine_eq]; decide
theorem vals1 {x : V} {us : List Value} (r : Vals [x] us) : ∃ u, us = [u] ∧ RelV x u := by
  cases r with
  | cons r1 r2 => cases r2; exact ⟨_, rfl, r1⟩
theorem vals2 {x y : V} {us : List Value} (r : Vals [x, y] us) : ∃ u w', us = [u, w'] ∧ RelV x u ∧ RelV y w' := by
  cases r with
  | cons r1 r2 =>
    cases r2 with
    | cons r3 r4 => cases r4; exact ⟨_, _, rfl, r1, r3⟩
theorem call_min2 (hc : X.calm = true) : CallR X (.builtin "min") (fun xs H Q => ∃ i j, xs = [.int i, .int j] ∧ Q (.int (if j < i then j else i)) H) := by
  intro pins s σ H xs us Q I r h
  obtain ⟨i, j, rfl, q⟩ := h
  obtain ⟨u, w', rfl, ⟨t, rfl⟩, ⟨t', rfl⟩⟩ := vals2 r
  refine min_two_ints (I.ok.hd hc) fun h' tk k => ⟨_, H, I.kept k, ?_, q⟩
  by_cases hj : j < i
  · rw [if_pos hj, if_pos hj]; exact ⟨_, rfl⟩
  · rw [if_neg hj, if_neg hj]; exact ⟨_, rfl⟩
end
end L2
namespace L2
open PySem PySem.Spec PyProof.Rows
structure ObjM (h : Heap) (x dx C : Addr) (mA : Str → Option Value) : Prop where
  obj : h.get? x = some (PySem.W.instObj C dx)
  ns : h.Ns1 dx mA
  ne : dx ≠ x
theorem lookIn_ns {h : Heap} {dx : Addr} {mA : Str → Option Value} (n : h.Ns1 dx mA) : ∃ od, h.get? dx = some od ∧ ∀ name, PySem.W.lookIn name od = some (mA name) := by
  obtain ⟨o, es, ep, ho, hd, hk, _, hm⟩ := n
  refine ⟨o, ho, fun name => ?_⟩
  have e := hm name
  unfold nsFind findBy at e
  rw [← Array.find?_toList] at e
  unfold PySem.W.lookIn
  rw [hd]
  dsimp only
  split
  · rename_i y q
    rw [q] at e
    exact congrArg some e
  · rename_i q
    rw [q] at e
    have a : es.toList.any (·.refKey) = false := by
      rw [List.any_eq_false]
      intro y hy
      obtain ⟨z, t, hkey⟩ := hk y (Array.mem_toList_iff.mp hy)
      simp [DictEntry.refKey, hkey]
    have a' : ¬ es.toList.any (·.refKey) = true := by rw [a]; exact Bool.false_ne_true
    rw [if_neg a']
    exact congrArg some e
theorem ObjM.look {h : Heap} {x dx C : Addr} {mA : Str → Option Value} (I : ObjM h x dx C mA) : ∃ od, PySem.W.InstAt h x (PySem.W.instObj C dx) C (some od) ∧ ∀ name, PySem.W.lookIn name od = some (mA name) :=
  let ⟨od, ho, hl⟩ := lookIn_ns I.ns
  ⟨od, ⟨I.obj, rfl, rfl, ho⟩, hl⟩
section
variable {prog : Program} {w : World} {A : Around} {E : Value → Shared → Prop} {s : Shared} {K : PySem.W.Frag} {x dx C f : Addr} {mA : Str → Option Value} {name : Str} {v : Value}
end
theorem RelO.none_of {o : Option Value} (r : RelO none o) : o = none := by
  cases o with
  | none => rfl
  | some u => exact (show False from r).elim
section
variable {P : Program} {w : World} {H H' : Hp} {h h' : Heap} {a C dx : Addr} {fs fs' : List (Str × V)}
theorem ins_get (hok : HOk P w H h) (e : H a = some (.ins C dx fs)) : ∃ mA, ObjM h a dx C mA ∧ (∀ f, RelO (fs.lookup f) (mA f)) ∧ PySem.Within mA (fs.map (·.1)) ∧ fs.length ≤ 1000 ∧ H dx = some (.own a) := by
  obtain ⟨d, z, ne, ob, mA, n, r, q⟩ := (show ObjOk P w H h a (.ins C dx fs) from hok a _ e)
  exact ⟨mA, ⟨ob, n, ne⟩, r, q, z, d⟩
end
structure Cls (K : PySem.W.Frag) (C : Addr) : Prop where
  pg : PySem.W.plainGet K C Str.empty = true
  hd : PySem.W.hasDictIn K C = true
  po : PySem.W.plainOver K C = true
  sa : PySem.W.findIn K (.ref C) "__setattr__" = some (some (.builtin "object.__setattr__"))
theorem Cls.get {K : PySem.W.Frag} {C : Addr} (c : Cls K C) (f : Str) : PySem.W.plainGet K C f = true := c.pg
structure Con (K : PySem.W.Frag) (C : Addr) (f : Str) (v : V) (u : Value) : Prop where
  at_ : PySem.W.findIn K (.ref C) f = some (some u)
  rel : RelV v u
  get : PySem.W.specialIn K u "__get__" = some none
  cp : PySem.W.copiedNames.contains f = false
structure Meth (K : PySem.W.Frag) (C : Addr) (m : Str) (f : Addr) : Prop where
  at_ : PySem.W.findIn K (.ref C) m = some (some (.ref f))
  fn : PySem.W.isFn K (.ref f) = true
  kp : PySem.W.keepIn K (.ref f) = true
section
variable {X : Cx} {pins : List (Addr × Obj)} {σ : St} {H : Hp} {s : Shared} {a C dx : Addr} {fs : List (Str × V)} {f : Str} {v : V} {A : Around} {E : Value → Shared → Prop}
end
section
variable {X : Cx} {o e value : Expr} {f : Str} {pos pos' tpos : Pos} {ta tv : TE}
end
section
variable {X : Cx} {pins : List (Addr × Obj)} {σ : St} {H : Hp} {s : Shared} {A : Around} {E : Value → Shared → Prop} {Q : Value → Shared → Prop} {c : Value} {b : Bool}
inductive TyOf (K : PySem.W.Frag) (H : Hp) : V → Value → Prop where
  | non : TyOf K H .non (.type "NoneType")
  | bl (x : Bool) : TyOf K H (.bl x) (.type "bool")
  | int (i : Int) : TyOf K H (.int i) (.type "int")
  | str (x : Str) : TyOf K H (.str x) (.type "str")
  | flt (x : UInt64) : TyOf K H (.flt x) (.type "float")
  | lst {a : Addr} {xs : List V} (e : H a = some (.lst xs)) : TyOf K H (.ref a) (.type "list")
  | frz {a : Addr} {o : Obj} {xs : List V} (e : H a = some (.frz o (.lst xs))) : TyOf K H (.ref a) (.type "list")
  | tup {a : Addr} {xs : List V} (e : H a = some (.tup xs)) : TyOf K H (.ref a) (.type "tuple")
  | dK {a : Addr} {kvs : List (Key × V)} (e : H a = some (.dK kvs)) : TyOf K H (.ref a) (.type "dict")
  | dT {a : Addr} {kvs : List (List Key × V)} (e : H a = some (.dT kvs)) : TyOf K H (.ref a) (.type "dict")
  | ins {a C dx : Addr} {fs : List (Str × V)} (e : H a = some (.ins C dx fs)) (cl : Cls K C) (ha : PySem.W.findIn K (.ref C) "__class__" = some (some (.builtin "object.__class__")))
      (hn : PySem.W.specialIn K (.builtin "object.__class__") "__get__" = some (some (.builtin "getset_descriptor.__get__"))) (htk : PySem.W.takesIn K (.builtin "object.__class__") = some true)
      (hm : PySem.W.mroIn K C (.type "object") = some true) : TyOf K H (.ref a) (.ref C)
theorem isinst_ok {x : V} {u t : Value} (I : Inv X pins σ H s) (rx : RelV x u) (ty : TyOf X.K H x t) (e : PySem.W.kitOne X.K t c = some b) (h : ∀ tk, Q (.bool b) { s with toks := tk }) :
    wpAny (model X.prog X.w) A (call (.builtin "isinstance") [u, c]) Q E s := by
  cases ty with
  | non => cases (show u = Value.none from rx); exact PySem.W.kia_one PySem.W.kitx_none I.kIn True.intro e (fun z => nomatch z) h
  | bl y => cases (show u = Value.bool y from rx); exact PySem.W.kia_one PySem.W.kitx_bool I.kIn True.intro e (fun z => nomatch z) h
  | int i => obtain ⟨t, q⟩ := (show ∃ t, u = Value.int i t from rx); cases q; exact PySem.W.kia_one PySem.W.kitx_int I.kIn True.intro e (fun z => nomatch z) h
  | str y => obtain ⟨t, q⟩ := (show ∃ t, u = Value.str y t from rx); cases q; exact PySem.W.kia_one PySem.W.kitx_str I.kIn True.intro e (fun z => nomatch z) h
  | flt y => obtain ⟨t, q⟩ := (show ∃ t, u = Value.float y t from rx); cases q; exact PySem.W.kia_one PySem.W.kitx_float I.kIn True.intro e (fun z => nomatch z) h
  | @lst a xs ea =>
    cases (show u = Value.ref a from rx)
    obtain ⟨_, _, n, _, h1⟩ := (show ObjOk X.prog X.w H s.heap a (.lst xs) from I.hok a _ ea)
    exact PySem.W.kia_one PySem.W.kitx_list I.kIn ⟨_, h1, rfl⟩ e (fun z => nomatch z) h
  | @frz a ob xs ea =>
    cases (show u = Value.ref a from rx)
    obtain ⟨_, _, _, n, _, h1⟩ := (show ObjOk X.prog X.w H s.heap a (.frz ob (.lst xs)) from I.hok a _ ea)
    exact PySem.W.kia_one PySem.W.kitx_list I.kIn ⟨_, h1, rfl⟩ e (fun z => nomatch z) h
  | @tup a xs ea =>
    cases (show u = Value.ref a from rx)
    obtain ⟨_, _, _, p⟩ := (show ObjOk X.prog X.w H s.heap a (.tup xs) from I.hok a _ ea)
    obtain ⟨o, h1, h2, _⟩ := p
    exact PySem.W.kia_one PySem.W.kitx_tuple I.kIn ⟨o, h1, h2⟩ e (fun z => nomatch z) h
  | @dK a kvs ea =>
    cases (show u = Value.ref a from rx)
    obtain ⟨_, _, vs, _, p⟩ := (show ObjOk X.prog X.w H s.heap a (.dK kvs) from I.hok a _ ea)
    obtain ⟨o, es, ep, h1, h2, _⟩ := p
    exact PySem.W.kia_one PySem.W.kitx_dict I.kIn ⟨o, h1, h2.1⟩ e (fun z => nomatch z) h
  | @dT a kvs ea =>
    cases (show u = Value.ref a from rx)
    obtain ⟨_, _, xs, _, o, es, ep, h1, h2, _⟩ := (show ObjOk X.prog X.w H s.heap a (.dT kvs) from I.hok a _ ea)
    exact PySem.W.kia_one PySem.W.kitx_dict I.kIn ⟨o, h1, h2.1⟩ e (fun z => nomatch z) h
  | @ins a C dx fs ea cl ha hn htk hm =>
    cases (show u = Value.ref a from rx)
    obtain ⟨mA, O, _⟩ := ins_get I.hok ea
    obtain ⟨od, J, _⟩ := O.look
    exact PySem.W.kia_one (PySem.W.kitx_own (cl.get _) cl.hd ha hn htk hm) I.kIn J e (fun z => nomatch z) h
end
end L2
namespace L2
open PySem PySem.Spec PyProof.Rows
structure Room (k : Nat) (A : Around) : Prop where
  hd : A.handled = none
  dp : A.depth + 3 * k + 5 < recursionLimit
  un : A.units + 16 * k + 200 < cLine
theorem Room.mono {j k : Nat} {A : Around} (r : Room k A) (h : j ≤ k) : Room j A := ⟨r.hd, by have := r.dp; omega, by have := r.un; omega⟩
theorem Room.deeper {k : Nat} {A : Around} (r : Room (k + 1) A) (env : Env) : Room k (A.deeper env) :=
  ⟨r.hd, by have := r.dp; show A.depth + 1 + 3 * k + 5 < _; omega, by have := r.un; show A.units + 3 + 16 * k + 200 < _; omega⟩
theorem Room.in1 {k : Nat} {A : Around} (r : Room (k + 1) A) : Room k A.in1 :=
  ⟨r.hd, by have := r.dp; show A.depth + 3 * k + 5 < _; omega, by have := r.un; show A.units + 1 + 16 * k + 200 < _; omega⟩
theorem Room.depth {k : Nat} {A : Around} (r : Room k A) : A.depth < recursionLimit := by have := r.dp; omega
theorem Room.units {k : Nat} {A : Around} (r : Room k A) : A.units + 64 < cLine := by have := r.un; omega
def tNil : TA := fun _ H Q => Q [] H
def tCons (ta : TE) (tr : TA) : TA := fun σ H Q => ta σ H fun x H1 => tr σ H1 fun xs H2 => Q (x :: xs) H2
section
variable {X : Cx} {e : Expr} {es : List Expr} {te : TE} {t : TA} {pos : Pos}
theorem pa_nil : PA X [] tNil := fun _ _ _ _ H Q I h => Calls.spliced_nil ⟨[], H, I, .nil, h⟩
theorem pa_cons (ha : PE X e te) (hr : PA X es t) (hs : starEach (e :: es) X.env = (false, eval e X.env) :: starEach es X.env := by rfl) : PA X (e :: es) (tCons te t) := by
  intro pos pins s σ H Q I h
  rw [hs]
  show wpAny _ _ (spliced ((false, eval e X.env) :: backTo pos (starEach es X.env))) _ _ s
  refine Calls.spliced_cons (thn (ha pins s σ H _ I h) fun u s1 ⟨x, H1, I1, r1, q1⟩ => ?_)
  exact thn (hr pos pins s1 σ H1 _ I1 q1) fun us s2 ⟨xs, H2, I2, r2, q2⟩ => ⟨x :: xs, H2, I2, .cons r1 r2, q2⟩
end
abbrev Sp := List V → Hp → VK → XK → Prop
abbrev CXT := List Env → Hp → Shared → XK → Value → Shared → Prop
structure Env0 (P : Program) (w : World) (K : PySem.W.Frag) (mg : Str → Option Value) (base : Heap) (A : Around) (outer : List Env) (s : Shared) (H : Hp) : Prop where
  frames : A.frames = some outer
  mod : Mod K mg base
  bs : ∀ b o, base.get? b = some o → s.heap.get? b = some o ∧ H b = none
  bsz : base.objs.size ≤ s.heap.objs.size
  funs : s.heap.FunFrames base outer
  frf : ∀ b ∈ frs outer, H b = none
  hok : HOk P w H s.heap
  bare : AllBare s.gens
def CE (outer : List Env) (P : Program) (w : World) (H : Hp) (s : Shared) (Q : VK) (u : Value) (s' : Shared) : Prop :=
  ∃ v H', s'.os = s.os ∧ AllBare s'.gens ∧ Un (frs outer) [] H H' s.heap s'.heap ∧ HOk P w H' s'.heap ∧ RelV v u ∧ Q v H'
def CR (CX : CXT) (outer : List Env) (P : Program) (w : World) (H : Hp) (s : Shared) (Q : VK) (E : XK) (r : Result) (s' : Shared) : Prop :=
  match r with
  | .ok (.ret u) => CE outer P w H s Q u s'
  | .ok _ => False
  | .error e => CX outer H s E e s'
structure FnOk (P : Program) (w : World) (K : PySem.W.Frag) (mg : Str → Option Value) (base : Heap) (CX : CXT) (k : Nat) (f : Addr) (fd : FuncData) (ps : List Str) (sp : Sp) : Prop where
  len : ∀ vs H Q E, sp vs H Q E → vs.length = ps.length
  run : ∀ (A : Around) (outer : List Env) (s : Shared) (H : Hp) (args : Args) (us : List Value) (vs : List V) (Q : VK) (E : XK), Room k A → Env0 P w K mg base A outer s H → BindsTo s fd args (ps.zip us) → Vals vs us → sp vs H Q E →
    codeAny (model P w) A (.call (.ref f) args) (CR CX outer P w H s Q E) s
theorem FnOk.mono {P : Program} {w : World} {K : PySem.W.Frag} {mg : Str → Option Value} {base : Heap} {CX : CXT} {j k : Nat} {f : Addr} {fd : FuncData} {ps : List Str} {sp : Sp} (F : FnOk P w K mg base CX j f fd ps sp) (h : j ≤ k) :
    FnOk P w K mg base CX k f fd ps sp := ⟨F.len, fun A outer s H args us vs Q E hr => F.run A outer s H args us vs Q E (hr.mono h)⟩
theorem FnOk.imp {P : Program} {w : World} {K : PySem.W.Frag} {mg : Str → Option Value} {base : Heap} {CX : CXT} {k : Nat} {f : Addr} {fd : FuncData} {ps : List Str} {sp sp' : Sp} (F : FnOk P w K mg base CX k f fd ps sp)
    (h : ∀ vs H Q E, sp' vs H Q E → sp vs H Q E) : FnOk P w K mg base CX k f fd ps sp' :=
  ⟨fun vs H Q E q => F.len vs H Q E (h _ _ _ _ q), fun A outer s H args us vs Q E hr he hb hv hs => F.run A outer s H args us vs Q E hr he hb hv (h _ _ _ _ hs)⟩
theorem Env0.in1 {P : Program} {w : World} {K : PySem.W.Frag} {mg : Str → Option Value} {base : Heap} {A : Around} {outer : List Env} {s : Shared} {H : Hp} (e : Env0 P w K mg base A outer s H) :
    Env0 P w K mg base A.in1 outer s H := ⟨e.frames, e.mod, e.bs, e.bsz, e.funs, e.frf, e.hok, e.bare⟩
section
variable {X : Cx} {pins : List (Addr × Obj)} {σ : St} {H : Hp} {s s' : Shared}
theorem Inv.env0 (I : Inv X pins σ H s) : Env0 X.prog X.w X.K X.mg X.base X.A X.stack s H :=
  ⟨I.ok.frames, I.ok.mod, I.bs, Nat.le_trans I.ok.bsz I.sz, I.stack, I.stkFree, I.hok, I.bare⟩
theorem Inv.after {Q : VK} {u : Value} (I : Inv X pins σ H s) (h : CE X.stack X.prog X.w H s Q u s') : EP X pins σ Q u s' := by
  obtain ⟨v, H', os, bare, un, hok, r, q⟩ := h
  obtain ⟨hh, g, d, t, os'⟩ := s'
  obtain rfl : os' = s.os := os
  exact ⟨v, H', I.call (h' := hh) (g' := g) (d' := d) (t' := t) (ch := []) un hok bare (fun b z => absurd z (by simp)), r, q⟩
end
def tCall (sp : Sp) (dvs : List V) (E : XK) (t : TA) : TE := fun σ H Q => t σ H fun vs H1 => sp (vs ++ dvs) H1 Q E
def Binds (K : PySem.W.Frag) (fd : FuncData) (ps : List Str) (ds : List Value) : Prop :=
  ∀ (s : Shared) (us : List Value), K.In s.heap → (us ++ ds).length = ps.length → BindsTo s fd ⟨us, []⟩ (ps.zip (us ++ ds))
theorem Binds.all {K : PySem.W.Frag} {fd : FuncData} {ps : List Str} (h : ∀ us : List Value, us.length = ps.length → bindArgs fd ⟨us, []⟩ = pure (ps.zip us)) : Binds K fd ps [] := fun s us _ hl => by
  rw [List.append_nil] at hl ⊢
  exact .of_eq (h us hl)
def Passes (CX : CXT) (X : Cx) (E : XK) : Prop := ∀ (pins : List (Addr × Obj)) (σ : St) (H : Hp) (s : Shared) (e : Value) (s' : Shared), Inv X pins σ H s → CX X.stack H s E e s' → X.xe e s'
section
variable {X : Cx} {CX : CXT} {k : Nat} {f C : Addr} {fd : FuncData} {ps : List Str} {sp : Sp} {dvs : List V} {ds : List Value} {E : XK} {x m : Str} {p pos apos : Pos} {e o : Expr} {es : List Expr} {ta : TE} {t : TA}
theorem run_fn {pins : List (Addr × Obj)} {σ : St} {H : Hp} {s : Shared} {Q : VK} {us : List Value} {vs : List V} (F : FnOk X.prog X.w X.K X.mg X.base CX k f fd ps sp) (hr : Room k X.A) (hb : Binds X.K fd ps ds) (hd : Vals dvs ds) (hx : Passes CX X E)
    (I : Inv X pins σ H s) (r : Vals vs us) (h : sp (vs ++ dvs) H Q E) : wpAny (model X.prog X.w) X.A (call (.ref f) us) (EP X pins σ Q) X.xe s := by
  have r2 : Vals (vs ++ dvs) (us ++ ds) := r.append hd
  have hl : (us ++ ds).length = ps.length := by rw [← r2.length]; exact F.len _ _ _ _ h
  refine wpAny_call (codeAny_mono (F.run X.A X.stack s H ⟨us, []⟩ (us ++ ds) (vs ++ dvs) Q E hr I.env0 (hb s us I.kIn hl) r2 h) fun r s' hq => ?_)
  cases r with
  | error e => exact hx pins σ H s e s' I hq
  | ok fl =>
    cases fl with
    | ret u => exact I.after hq
    | next => exact False.elim hq
    | brk => exact False.elim hq
    | cont => exact False.elim hq
theorem pe_call (F : FnOk X.prog X.w X.K X.mg X.base CX k f fd ps sp) (hr : Room k X.A) (hg : Gl X x) (hm : X.mg x = some (.ref f)) (hk : PySem.W.keepIn X.K (.ref f) = true) (hb : Binds X.K fd ps ds) (hd : Vals dvs ds) (hx : Passes CX X E)
    (ha : PA X (e :: es) t) (hdb : (x == ("__debug__" : Str)) = false := by decide) (he : starEach (e :: es) X.env = (false, eval e X.env) :: starEach es X.env := by rfl) (hpl : (backTo pos (starEach es X.env)).any (·.1) = false := by rfl) :
    PE X (.Call (.Name x p) (e :: es) [] pos) (tCall sp dvs E t) := by
  intro pins s σ H Q I h
  refine wpAny_Call_Name_kw (ld_glob I hg hm ?_ hdb)
  refine PySem.W.callWith_K (h₀ := X.base) I.ok.mod.kin hk (thn (ha pos pins s σ H _ I h) fun us s1 ⟨vs, H1, I1, r, q⟩ => ⟨I1.kIn, ?_⟩) he hpl
  exact run_fn F hr hb hd hx I1 r q
structure Mk (K : PySem.W.Frag) (C f : Addr) : Prop where
  makes : PySem.W.makesIn K C = true
  init : PySem.W.findIn K (.ref C) "__init__" = some (some (.ref f))
  fn : PySem.W.isFn K (.ref f) = true
  kp : PySem.W.keepIn K (.ref C) = true
end
def PK (X : Cx) (kws : List Keyword) (t : TA) : Prop :=
  ∀ (pos : Pos) (pins : List (Addr × Obj)) (s : Shared) (σ : St) (H : Hp) (Q : List V → Hp → Prop), Inv X pins σ H s → t σ H Q → wpAny (model X.prog X.w) X.A (evalAll ((backToKw pos (keywordEach kws X.env)).map (·.2))) (AP X pins σ Q) X.xe s
section
variable {X : Cx} {CX : CXT} {k : Nat} {f C : Addr} {fd : FuncData} {ps ks : List Str} {sp : Sp} {E : XK} {x m : Str} {p pos apos kpos : Pos} {e o : Expr} {es : List Expr} {kws : List Keyword} {te ta : TE} {t tk : TA} {nm : Option Str}
theorem pk_nil : PK X [] tNil := fun _ _ _ _ H Q I h => wpAny_evalAll_nil ⟨[], H, I, .nil, h⟩
theorem pk_cons (ha : PE X e te) (hr : PK X kws t) : PK X (⟨nm, e, kpos⟩ :: kws) (tCons te t) := by
  intro pos pins s σ H Q I h
  show wpAny _ _ (evalAll ((do let v ← eval e X.env; standAt pos; pure v) :: (backToKw pos (keywordEach kws X.env)).map (·.2))) _ _ s
  refine wpAny_evalAll_cons (wpAny_bind (thn (ha pins s σ H _ I h) fun u s1 ⟨x, H1, I1, r1, q1⟩ => wpAny_bind (wpAny_standAt (wpAny_pure ?_))))
  exact thn (hr pos pins s1 σ H1 _ I1 q1) fun us s2 ⟨xs, H2, I2, r2, q2⟩ => ⟨x :: xs, H2, I2, .cons r1 r2, q2⟩
structure KBinds (K : PySem.W.Frag) (fd : FuncData) (ps ks : List Str) (g : List Value → List Value → List Value) (gV : List V → List V → List V) : Prop where
  to : ∀ (s : Shared) (us ws : List Value), K.In s.heap → (g us ws).length = ps.length → BindsTo s fd ⟨us, ks.zip ws⟩ (ps.zip (g us ws))
  rel : ∀ {vs : List V} {us : List Value} {zs : List V} {ws : List Value}, Vals vs us → Vals zs ws → Vals (gV vs zs) (g us ws)
variable {g : List Value → List Value → List Value} {gV : List V → List V → List V}
end
structure FnScope (N P : List Str) (sc : Scope) : Prop where
  kind : sc.kind = .function
  co : sc.isCoroutine = false
  gen : sc.isGenerator = false
  nd : N.Nodup
  pre : N.take P.length = P
  par : ∀ x ∈ P, sc.names.lookup x = some .local ∨ sc.names.lookup x = some .cell
  nofree : ∀ y ∈ sc.names, y.2 ≠ .free
theorem bindL_out {kindOf : Str → Option NameKind} {x : Str} : ∀ {binds : List (Str × Value)} {m : Str → Option Value}, (∀ v, (x, v) ∉ binds) → bindL kindOf binds m x = m x
  | [], _, _ => rfl
  | (n, v) :: r, m, h => by
    unfold bindL
    rw [bindL_out fun w hw => h w (List.mem_cons_of_mem _ hw)]
    split
    · have : x ≠ n := by rintro rfl; exact h v List.mem_cons_self
      simp [this]
    · rfl
theorem bindC_out {kindOf : Str → Option NameKind} {x : Str} : ∀ {binds : List (Str × Value)} {m : Str → Option Value}, (∀ v, (x, v) ∉ binds) → bindC kindOf binds m x = m x
  | [], _, _ => rfl
  | (n, v) :: r, m, h => by
    unfold bindC
    rw [bindC_out fun w hw => h w (List.mem_cons_of_mem _ hw)]
    split
    · rfl
    · have : x ≠ n := by rintro rfl; exact h v List.mem_cons_self
      simp [this]
theorem bindL_get {kindOf : Str → Option NameKind} {x : Str} {v : Value} : ∀ {P : List Str} {vs : List Value} {i : Nat} {m : Str → Option Value}, P.Nodup → P[i]? = some x → vs[i]? = some v → kindOf x = some .local →
    bindL kindOf (P.zip vs) m x = some v
  | [], _, _, _, _, h, _, _ => by simp at h
  | _ :: _, [], _, _, _, _, h, _ => by simp at h
  | p :: P, w :: vs, 0, m, nd, h1, h2, hk => by
    simp at h1 h2; subst h1; subst h2
    show bindL kindOf ((p, w) :: P.zip vs) m p = _
    unfold bindL
    rw [bindL_out fun v hv => (List.nodup_cons.mp nd).1 (List.of_mem_zip hv).1, if_pos hk]
    simp
  | p :: P, w :: vs, i + 1, m, nd, h1, h2, hk => by
    show bindL kindOf ((p, w) :: P.zip vs) m x = _
    unfold bindL
    exact bindL_get (i := i) (List.nodup_cons.mp nd).2 (by simpa using h1) (by simpa using h2) hk
theorem bindC_get {kindOf : Str → Option NameKind} {x : Str} {v : Value} : ∀ {P : List Str} {vs : List Value} {i : Nat} {m : Str → Option Value}, P.Nodup → P[i]? = some x → vs[i]? = some v → kindOf x ≠ some .local →
    bindC kindOf (P.zip vs) m x = some v
  | [], _, _, _, _, h, _, _ => by simp at h
  | _ :: _, [], _, _, _, _, h, _ => by simp at h
  | p :: P, w :: vs, 0, m, nd, h1, h2, hk => by
    simp at h1 h2; subst h1; subst h2
    show bindC kindOf ((p, w) :: P.zip vs) m p = _
    unfold bindC
    rw [bindC_out fun v hv => (List.nodup_cons.mp nd).1 (List.of_mem_zip hv).1, if_neg hk]
    simp
  | p :: P, w :: vs, i + 1, m, nd, h1, h2, hk => by
    show bindC kindOf ((p, w) :: P.zip vs) m x = _
    unfold bindC
    exact bindC_get (i := i) (List.nodup_cons.mp nd).2 (by simpa using h1) (by simpa using h2) hk
def start (N : List Str) (vs : List V) : St := vs.map some ++ List.replicate (N.length - vs.length) none
def cxOf (CX : CXT) (P : Program) (w : World) (K : PySem.W.Frag) (mg : Str → Option Value) (base : Heap) (N : List Str) (qual : Str) (scope : Scope) (f : Addr) (cd : Value) (A : Around) (outer : List Env) (s : Shared) (H : Hp) (E : XK) : Cx where
  prog := P
  w := w
  K := K
  mg := mg
  base := base
  A := A.deeper (envOfC qual scope s.heap.objs.size f cd)
  N := N
  s₀ := s
  H₀ := H
  env := envOfC qual scope s.heap.objs.size f cd
  outer := outer
  stack := envOfC qual scope s.heap.objs.size f cd :: outer
  ex := []
  calm := true
  fn := fun _ => true
  pn := []
  xe := fun e s' => wpAny (model P w) (A.deeper (envOfC qual scope s.heap.objs.size f cd)) (leaving (envOfC qual scope s.heap.objs.size f cd) e) (fun _ s'' => CX outer H s E e s'') (fun e' s'' => CX outer H s E e' s'') s'
theorem cell_has {sc : Scope} {n : Nat} {x : Str} (h : sc.names.lookup x = some .cell) : ∃ c, (cellsFrom n sc.names []).lookup x = some c := by
  have q := PySem.W.cellsFrom_some sc.names n [] (.inl h)
  exact Option.isSome_iff_exists.mp q
theorem inv_start {CX : CXT} {P : Program} {w : World} {K : PySem.W.Frag} {mg : Str → Option Value} {base : Heap} {N ps : List Str} {qual : Str} {scope : Scope} {f : Addr} {cd : Value} {A : Around} {outer : List Env} {s s1 : Shared} {H : Hp} {E : XK} {us : List Value} {vs : List V}
    (S : FnScope N ps scope) (hd : A.handled = none) (e0 : Env0 P w K mg base A outer s H) (hl : vs.length = ps.length) (r : Vals vs us)
    (x : InCallC s s.heap.objs.size (bindL (envOfC qual scope s.heap.objs.size f cd).kindOf (ps.zip us) fun _ => none) (cellsFrom (s.heap.objs.size + 1) scope.names []) (bindC (envOfC qual scope s.heap.objs.size f cd).kindOf (ps.zip us) fun _ => none) s1) :
    Inv (cxOf CX P w K mg base N qual scope f cd A outer s H E) [] (start N vs) H s1 := by
  have hpl : ps.length ≤ N.length := by have := congrArg List.length S.pre; rw [List.length_take] at this; omega
  obtain ⟨h1, tk, rfl, hk⟩ := x.done
  have noA : ∀ b : Addr, b ∉ (cxOf CX P w K mg base N qual scope f cd A outer s H E).ex := fun b z => absurd (show b ∈ ([] : List Addr) from z) (by simp)
  refine ⟨⟨e0.mod, S.kind, rfl, rfl, Nat.le_refl _, fun y z c h1 h2 => ?_, fun y hy => ?_, fun y c _ h => ?_, fun _ => hd, Around.frames_deeper e0.frames, .inr ⟨rfl, rfl⟩, fun b z => absurd z (noA b), e0.bs, e0.bsz, fun b _ _ => noA b, fun b z => absurd z (noA b), e0.funs, e0.frf⟩,
    rfl, e0.bare, Un.kept hk, ⟨_, x.toInCall.ns, fun i y v h1 h2 h3 => ?_⟩, fun y c h => ⟨_, x.cell y c h⟩, e0.hok.fresh (Nat.le_refl _), fun y c h => ?_, fun p hp => absurd (show p ∈ ([] : List (Addr × Obj)) from hp) (by simp), e0.hok.kept hk, ?_⟩
  · exact name_of_addr x.apart (PySem.mem_of_lookup h1) (PySem.mem_of_lookup h2)
  · have hy : scope.names.lookup y = some .cell ∨ scope.names.lookup y = some .free := hy
    rcases hy with hy | hy
    · exact cell_has hy
    · exact absurd rfl (S.nofree _ (PySem.mem_of_lookup hy))
  · exact Nat.le_of_lt (x.above y c (PySem.mem_of_lookup h))
  · have hi : i < vs.length := by
      unfold start at h2
      by_cases hi : i < vs.length
      · exact hi
      · rw [List.getElem?_append_right (by simpa using hi)] at h2
        rw [List.getElem?_replicate] at h2
        split at h2 <;> cases h2
    have ha : vs[i]? = some v := by
      unfold start at h2
      rw [List.getElem?_append_left (by simpa using hi), List.getElem?_map] at h2
      cases e : vs[i]? with
      | none => rw [e] at h2; cases h2
      | some a => rw [e] at h2; cases h2; rfl
    obtain ⟨u, hu, rv⟩ := r.get ha
    have hp : ps[i]? = some y := by
      rw [← S.pre, List.getElem?_take_of_lt (by omega)]; exact h1
    have ndP : ps.Nodup := by rw [← S.pre]; exact S.nd.sublist (List.take_sublist _ _)
    refine ⟨u, rv, ?_⟩
    rcases S.par y (List.mem_of_getElem? hp) with k | k
    · exact .inl ⟨k, bindL_get ndP hp hu k⟩
    · obtain ⟨c, e⟩ := cell_has (n := s.heap.objs.size + 1) k
      refine .inr ⟨.inl k, c, e, ?_⟩
      have q := x.cell y c e
      rw [bindC_get ndP hp hu (by show scope.names.lookup y ≠ _; rw [k]; decide)] at q
      exact q
  · exact e0.hok.fresh (Nat.le_of_lt (x.above y c (PySem.mem_of_lookup h)))
  · unfold start
    show _ = N.length
    rw [List.length_append, List.length_map, List.length_replicate]
    omega
theorem fn_of {CX : CXT} {P : Program} {w : World} {K : PySem.W.Frag} {mg : Str → Option Value} {base : Heap} {k : Nat} {f : Addr} {name qual : Str} {params : Arguments} {body : List Stmt} {scope : Scope} {dV kV doc pm cdv ct oc : Value} {an od : Option Addr}
    {osl : Array (Option Value)} {N ps : List Str} {sp : Sp} (lk : K.lookup f = some ⟨oc, od, .func (PySem.W.fnOf name qual params body scope dV kV doc pm an cdv ct), osl⟩) (hcd : PySem.W.codeIn K cdv qual = true) (S : FnScope N ps scope)
    (len : ∀ vs H Q E, sp vs H Q E → vs.length = ps.length)
    (hbody : ∀ (A : Around) (outer : List Env) (s : Shared) (H : Hp) (vs : List V) (Q : VK) (E : XK), Room k (A.deeper (envOfC qual scope s.heap.objs.size f cdv)) → sp vs H Q E →
      ∃ t, PSs (cxOf CX P w K mg base N qual scope f cdv A outer s H E) body t ∧ t { nx := fun _ H' => Q .non H', rt := Q } (start N vs) H) :
    FnOk P w K mg base CX (k + 1) f (PySem.W.fnOf name qual params body scope dV kV doc pm an cdv ct) ps sp := by
  refine ⟨len, fun A outer s H args us vs Q E hr e0 hb r hsp => ?_⟩
  have hl := len _ _ _ _ hsp
  have KX : K.In s.heap := e0.mod.kin.keeps fun b o e => (e0.bs b o e).1
  have lim : s.heap.NoLimit := e0.mod.nolimit.keeps fun b o e => (e0.bs b o e).1
  have hkind : ∀ y ∈ ps.zip us, scope.names.lookup y.1 = some .local ∨ (scope.names.lookup y.1 = some .cell ∧ ((cellsFrom (s.heap.objs.size + 1) scope.names []).lookup y.1).isSome = true) := fun ⟨n, v⟩ hy => by
    rcases S.par n (List.of_mem_zip hy).1 with q | q
    · exact .inl q
    · exact .inr ⟨q, PySem.W.cellsFrom_some _ _ _ (.inl q)⟩
  refine codeAny_call_function hr.depth (KX _ _ lk) rfl S.co S.gen rfl (PySem.W.codeRec_of KX hcd) (hb _ _ _ _ ?_)
  refine wpAny_newFunctionEnv_cells S.kind hkind fun env he s1 x => ?_
  subst he
  refine ⟨lim.keeps x.toInCall.keep, codeAny_func ?_⟩
  obtain ⟨t, ht, hq⟩ := hbody A outer s H vs Q E (hr.deeper _) hsp
  have I : Inv (cxOf CX P w K mg base N qual scope f cdv A outer s H E) [] (start N vs) H s1 := inv_start S hr.hd e0 hl r x
  refine wpAny_mono (ht [] s1 (start N vs) H _ I hq) (fun fl s' hs => ?_) fun e s' hs => hs
  have fin : ∀ {σ' : St} {H' : Hp} {v : V} {u : Value}, Inv (cxOf CX P w K mg base N qual scope f cdv A outer s H E) [] σ' H' s' → RelV v u → Q v H' → CE outer P w H s Q u s' :=
    fun {σ' H' v u} J rv q => ⟨v, H', J.os, J.bare, J.base, J.hok, rv, q⟩
  cases fl with
  | ret u =>
    obtain ⟨v, σ', H', J, rv, q⟩ := hs
    exact fin J rv q
  | next =>
    obtain ⟨σ', H', J, q⟩ := hs
    exact fin (v := V.non) (u := Value.none) J rfl q
  | brk =>
    obtain ⟨_, _, _, q⟩ := hs
    exact False.elim q
  | cont =>
    obtain ⟨_, _, _, q⟩ := hs
    exact False.elim q
end L2
namespace L2
open PySem PySem.Spec PyProof.Rows
section
variable {X : Cx} {x : Str} {p pos : Pos} {e : Expr} {es : List Expr} {t : TA} {id T : String} {r : List V → Hp → VK → Prop}
def tCB (r : List V → Hp → VK → Prop) (t : TA) : TE := fun σ H Q => t σ H fun vs H1 => r vs H1 Q
theorem pe_callB (hc : CallR X (.builtin id) r) (hg : Gl X x) (hm : X.mg x = none) (hv : bootBuiltins x = some (.builtin id)) (ha : PA X (e :: es) t) (hn : x ≠ "__name__" := by decide) (hdb : (x == ("__debug__" : Str)) = false := by decide)
    (he : starEach (e :: es) X.env = (false, eval e X.env) :: starEach es X.env := by rfl) (hpl : (backTo pos (starEach es X.env)).any (·.1) = false := by rfl) : PE X (.Call (.Name x p) (e :: es) [] pos) (tCB r t) := by
  intro pins s σ H Q I h
  refine wpAny_Call_Name_kw (ld_blt I hg hm hv ?_ hn hdb)
  exact PyProof.Rows.callWith_builtin1 (thn (ha pos pins s σ H _ I h) fun us s1 ⟨vs, H1, I1, r1, q1⟩ => hc pins s1 σ H1 vs us Q I1 r1 q1) he hpl
theorem pe_callTy (hc : CallR X (.type T) r) (hg : Gl X x) (hm : X.mg x = none) (hv : bootBuiltins x = some (.type T)) (ha : PA X (e :: es) t) (hn : x ≠ "__name__" := by decide) (hdb : (x == ("__debug__" : Str)) = false := by decide)
    (he : starEach (e :: es) X.env = (false, eval e X.env) :: starEach es X.env := by rfl) (hpl : (backTo pos (starEach es X.env)).any (·.1) = false := by rfl) : PE X (.Call (.Name x p) (e :: es) [] pos) (tCB r t) := by
  intro pins s σ H Q I h
  refine wpAny_Call_Name_kw (ld_blt I hg hm hv ?_ hn hdb)
  exact PyProof.Rows.callWith_type1 (thn (ha pos pins s σ H _ I h) fun us s1 ⟨vs, H1, I1, r1, q1⟩ => hc pins s1 σ H1 vs us Q I1 r1 q1) he hpl
end
end L2
namespace HT
open PySem PyProof.Rows
section
open PySem.SeqAt
open PySem.AutoSeq1 (wpAny_loadPart')
open PySem.MeetsSeq PySem.MeetsSeq2 PySem.MeetsSeq3
end
section
variable {prog : Program} {w : World} {A : Around} {E : Value → Shared → Prop} {s : Shared}
end
end HT
namespace L2
open PySem PySem.Spec PyProof.Rows
abbrev TO := St → Hp → (Option Int → Hp → Prop) → Prop
def PO (X : Cx) (e : Option Expr) (t : TO) : Prop :=
  ∀ (pins : List (Addr × Obj)) (s : Shared) (σ : St) (H : Hp) (Q : Option Int → Hp → Prop), Inv X pins σ H s → t σ H Q →
    wpAny (model X.prog X.w) X.A (evalPart e X.env) (fun u s' => ∃ o H', Inv X pins σ H' s' ∧ IsPart u o ∧ Q o H') X.xe s
def tPart (t : TE) : TO := fun σ H Q => t σ H fun x H1 => ∃ i, x = .int i ∧ Q (some i) H1
section
variable {X : Cx} {e : Expr} {te : TE} {lo hi : Option Expr} {tl th : TO} {pos p2 : Pos}
theorem po_some (h : PE X e te) : PO X (some e) (tPart te) := by
  intro pins s σ H Q I hw
  rw [evalPart_some]
  refine thn (h pins s σ H _ I hw) fun u s1 ⟨x, H1, I1, r1, q1⟩ => ?_
  obtain ⟨i, rfl, q⟩ := q1
  obtain ⟨t, rfl⟩ := r1
  exact ⟨some i, H1, I1, .int i t, q⟩
end
end L2
namespace L2
open PySem PySem.Spec PyProof.Rows
def ixN (n : Nat) (i : Int) : Option Nat := if 0 ≤ i then (if i < n then some i.toNat else none) else if -(n : Int) ≤ i then some (i + n).toNat else none
def atI {α : Type} (xs : List α) (i : Int) : Option α := (ixN xs.length i).bind fun j => xs[j]?
theorem ixN_seq {n : Nat} {i : Int} {j : Nat} (h : ixN n i = some j) : seqIndex? i n = some j ∧ j < n ∧ -(n : Int) ≤ i ∧ i < n := by
  unfold ixN at h
  by_cases h0 : 0 ≤ i
  · rw [if_pos h0] at h
    by_cases h1 : i < n
    · rw [if_pos h1] at h
      have e : i.toNat = j := Option.some.inj h
      exact ⟨by rw [seqIndex_of h0 h1, e], by omega, by omega, h1⟩
    · rw [if_neg h1] at h; cases h
  · rw [if_neg h0] at h
    by_cases h1 : -(n : Int) ≤ i
    · rw [if_pos h1] at h
      have e : (i + n).toNat = j := Option.some.inj h
      exact ⟨by rw [seqIndex_neg (by omega) h1, e], by omega, h1, by omega⟩
    · rw [if_neg h1] at h; cases h
theorem atI_get {α : Type} {xs : List α} {i : Int} {v : α} (h : atI xs i = some v) : ∃ j, seqIndex? i xs.length = some j ∧ xs[j]? = some v ∧ j < xs.length ∧ -(xs.length : Int) ≤ i ∧ i < xs.length := by
  unfold atI at h
  cases e : ixN xs.length i with
  | none => rw [e] at h; cases h
  | some j =>
    rw [e] at h
    obtain ⟨h1, h2, h3, h4⟩ := ixN_seq e
    exact ⟨j, h1, h, h2, h3, h4⟩
theorem atI_nat {α : Type} {xs : List α} {j : Nat} {v : α} (h : xs[j]? = some v) : atI xs (j : Int) = some v := by
  have hj : j < xs.length := (List.getElem?_eq_some_iff.mp h).1
  have e : ixN xs.length (j : Int) = some j := by
    unfold ixN
    rw [if_pos (by omega), if_pos (by omega)]; simp
  unfold atI; rw [e]; exact h
theorem atI_last {α : Type} (xs : List α) (v : α) : atI (xs ++ [v]) (-1) = some v := by
  have hl : (xs ++ [v]).length = xs.length + 1 := by simp
  have e : ixN (xs ++ [v]).length (-1) = some xs.length := by
    unfold ixN
    rw [hl, if_neg (by decide), if_pos (by omega)]
    congr 1
    omega
  unfold atI
  rw [e]
  show (xs ++ [v])[xs.length]? = some v
  simp
def PlainIx (b : Expr) : Prop := ∀ o i, subscripted b false o i = operate [o, i] (getItem o i)
def IxR (X : Cx) (r : R2) : Prop :=
  ∀ (value slice : Expr) (pins : List (Addr × Obj)) (s : Shared) (σ : St) (H : Hp) (x y : V) (v u : Value) (Q : VK), Inv X pins σ H s → RelV x v → RelV y u → r x y H Q →
    subscripted slice false v u = operate [v, u] (getItem v u) → wpAny (model X.prog X.w) X.A (subscriptTail value slice v u) (EP X pins σ Q) X.xe s
def MtR (X : Cx) (id : String) (r : V → List V → Hp → VK → Prop) : Prop :=
  ∀ (pins : List (Addr × Obj)) (s : Shared) (σ : St) (H : Hp) (x : V) (xs : List V) (v : Value) (us : List Value) (Q : VK), Inv X pins σ H s → RelV x v → Vals xs us → r x xs H Q →
    wpAny (model X.prog X.w) X.A (call (.builtin id) (v :: us)) (EP X pins σ Q) X.xe s
section
variable {X : Cx} {a b : Expr} {ta tb : TE} {pos : Pos}
theorem pe_ix {r : R2} (hr : IxR X r) (ha : PE X a ta) (hb : PE X b tb) (hs : PlainIx b) : PE X (.Subscript a b pos) (tOp r ta tb) := by
  intro pins s σ H Q I h
  exact Subscript_ (binT ha hb I h fun v u s2 x y H2 I2 rx ry q => hr a b pins s2 σ H2 x y v u Q I2 rx ry q (hs _ _))
def rIxL (K : PySem.W.Frag) : R2 := fun x y H Q => ∃ p xs i v, x = .ref p ∧ y = .int i ∧ SqL K H p xs ∧ atI xs i = some v ∧ Q v H
def rIxT (K : PySem.W.Frag) : R2 := fun x y H Q => ∃ p xs i v, x = .ref p ∧ y = .int i ∧ SqT K H p xs ∧ atI xs i = some v ∧ Q v H
theorem ix_list : IxR X (rIxL X.K) := by
  intro value slice pins s σ H x y v u Q I rx ry h hs
  obtain ⟨p, xs, i, z, rfl, rfl, hq, he, q⟩ := h
  cases rx
  obtain ⟨t, rfl⟩ := ry
  obtain ⟨its, r, pl, hz⟩ := I.list hq
  obtain ⟨j, h1, h2, h3, h4, h5⟩ := atI_get he
  obtain ⟨w, ew, rw'⟩ := r.get h2
  have hl := r.length
  have hn := line63
  have fin : EP X pins σ Q w s := ⟨z, H, I, rw', q⟩
  by_cases h0 : 0 ≤ i
  · have hj : i.toNat = j := by
      rw [seqIndex_of h0 h5] at h1
      exact Option.some.inj h1
    exact item_listR pl.isList h0 (by omega) (by rw [hj]; simpa using ew) fin hs
  · have hj : (i + (its.toArray.size : Int)).toNat = j := by
      rw [seqIndex_neg (by omega) h4] at h1
      rw [List.size_toArray, ← hl]
      exact Option.some.inj h1
    exact subscriptTail_builtinR (x := w) pl.isList.typeIs slot_list_getitem.lookup
      (wpAny_getItem_list_neg (Q := fun r s' => r = w ∧ EP X pins σ Q r s') pl.isList (by omega) (by rw [List.size_toArray] <;> omega) (by omega) (by rw [hj]; simpa using ew) ⟨rfl, fin⟩) hs
theorem ix_tup : IxR X (rIxT X.K) := by
  intro value slice pins s σ H x y v u Q I rx ry h hs
  obtain ⟨p, xs, i, z, rfl, rfl, hq, he, q⟩ := h
  cases rx
  obtain ⟨t, rfl⟩ := ry
  obtain ⟨its, r, pl, hz⟩ := I.tuple hq
  obtain ⟨j, h1, h2, h3, h4, h5⟩ := atI_get he
  obtain ⟨w, ew, rw'⟩ := r.get h2
  have hl := r.length
  have hn := line63
  have fin : EP X pins σ Q w s := ⟨z, H, I, rw', q⟩
  exact subscriptTail_builtinR (x := w) pl.typeIs slot_tuple_getitem.lookup
    (getItem_tuple (j := j) (Q := fun r s' => r = w ∧ EP X pins σ Q r s') pl (by omega) (by omega) (by rw [List.size_toArray, ← hl]; exact h1) (by simpa using ew) ⟨rfl, fin⟩) hs
theorem Inv.lst {pins : List (Addr × Obj)} {σ : St} {H : Hp} {s : Shared} {p : Addr} {xs : List V} (I : Inv X pins σ H s) (h : H p = some (.lst xs)) :
    ∃ (its : List Value) (n : Nat), Vals xs its ∧ s.heap.get? p = some { cls := .type "list", data := .seq its.toArray n } ∧ xs.length ≤ sizeLine := by
  obtain ⟨z, its, n, r, e⟩ := I.hok p _ h
  exact ⟨its, n, r, e, z⟩
def flatV : V → Bool
  | .non => true
  | .bl _ => true
  | .int _ => true
  | .str _ => true
  | _ => false
def eqV : V → V → Bool
  | .non, .non => true
  | .bl a, .bl b => a == b
  | .bl a, .int b => (if a then 1 else 0) == b
  | .int a, .bl b => a == (if b then 1 else 0)
  | .int a, .int b => a == b
  | .str a, .str b => a == b
  | _, _ => false
theorem eqAt_V {A : Around} {s : Shared} {y x : V} {u v : Value} (ry : RelV y u) (rx : RelV x v) (fy : flatV y = true) (fx : flatV x = true) : SeqAt.EqAt A s u v (eqV y x) := by
  cases y with
  | non =>
    cases ry
    cases x with
    | non => cases rx; exact SeqAt.EqAt.same _
    | bl b => cases rx; exact SeqAt.EqAt.none_bool b
    | int b => obtain ⟨t, rfl⟩ := rx; exact SeqAt.EqAt.none_int b t
    | str b => obtain ⟨t, rfl⟩ := rx; exact SeqAt.EqAt.none_str b t
    | _ => exact absurd (show false = true from fx) Bool.false_ne_true
  | bl a =>
    cases ry
    cases x with
    | non => cases rx; exact SeqAt.EqAt.bool_none a
    | bl b => cases rx; exact SeqAt.EqAt.bool_bool a b
    | int b => obtain ⟨t, rfl⟩ := rx; exact SeqAt.EqAt.bool_int a b t
    | str b => obtain ⟨t, rfl⟩ := rx; exact SeqAt.EqAt.bool_str a b t
    | _ => exact absurd (show false = true from fx) Bool.false_ne_true
  | int a =>
    obtain ⟨t', rfl⟩ := ry
    cases x with
    | non => cases rx; exact SeqAt.EqAt.int_none a t'
    | bl b => cases rx; exact SeqAt.EqAt.int_bool a t' b
    | int b => obtain ⟨t, rfl⟩ := rx; exact SeqAt.EqAt.int_int a t' b t
    | str b => obtain ⟨t, rfl⟩ := rx; exact SeqAt.EqAt.int_str a t' b t
    | _ => exact absurd (show false = true from fx) Bool.false_ne_true
  | str a =>
    obtain ⟨t', rfl⟩ := ry
    cases x with
    | non => cases rx; exact SeqAt.EqAt.str_none a t'
    | bl b => cases rx; exact SeqAt.EqAt.str_bool a t' b
    | int b => obtain ⟨t, rfl⟩ := rx; exact SeqAt.EqAt.str_int a t' b t
    | str b => obtain ⟨t, rfl⟩ := rx; exact SeqAt.EqAt.str_str a t' b t
    | _ => exact absurd (show false = true from fx) Bool.false_ne_true
  | _ => exact absurd (show false = true from fy) Bool.false_ne_true
def eqU (x : V) (u : Value) : Bool := match u with
  | .none => eqV .non x
  | .bool b => eqV (.bl b) x
  | .int i _ => eqV (.int i) x
  | .str z _ => eqV (.str z) x
  | _ => false
theorem eqU_of {x y : V} {u : Value} (r : RelV y u) (f : flatV y = true) : eqU x u = eqV y x := by
  cases y with
  | non => cases r; rfl
  | bl b => cases r; rfl
  | int i => obtain ⟨t, rfl⟩ := r; rfl
  | str z => obtain ⟨t, rfl⟩ := r; rfl
  | _ => exact absurd (show false = true from f) Bool.false_ne_true
theorem any_eqU {x : V} : ∀ {xs : List V} {us : List Value}, Vals xs us → xs.all flatV = true → us.any (eqU x) = xs.any fun y => eqV y x
  | _, _, .nil, _ => rfl
  | y :: xs, u :: us, .cons r t, f => by
    rw [List.all_cons, Bool.and_eq_true] at f
    rw [List.any_cons, List.any_cons, eqU_of r f.1, any_eqU t f.2]
theorem mem_eqAt {A : Around} {s : Shared} {x : V} {v : Value} (rx : RelV x v) (fx : flatV x = true) : ∀ {xs : List V} {us : List Value}, Vals xs us → xs.all flatV = true → ∀ u ∈ us, SeqAt.EqAt A s u v (eqU x u)
  | _, _, .nil, _ => fun u hu => by cases hu
  | y :: xs, u :: us, .cons r t, f => fun u' hu => by
    rw [List.all_cons, Bool.and_eq_true] at f
    rcases List.mem_cons.mp hu with rfl | hu
    · rw [eqU_of r f.1]; exact eqAt_V r rx f.1 fx
    · exact mem_eqAt rx fx t f.2 u' hu
def inV (x : V) (xs : List V) : Bool := xs.any fun y => eqV y x
def rIn (K : PySem.W.Frag) (neg : Bool) : R2 := fun x y H Q => ∃ p xs, y = .ref p ∧ (SqL K H p xs ∨ SqT K H p xs) ∧ flatV x = true ∧ xs.all flatV = true ∧ Q (.bl (if neg then !inV x xs else inV x xs)) H
theorem op_notIn_seq : OpR X (compareOp .NotIn) (rIn X.K true) := by
  intro pins s σ H x y v u Q I rx ry h
  obtain ⟨p, xs, rfl, hq, fx, fs, q⟩ := h
  cases ry
  rcases hq with hq | hq
  · obtain ⟨its, r, pl, hz⟩ := I.list hq
    refine SeqAt.notIn_listAt (eqU x) pl.isList (fun w hw => mem_eqAt rx fx r fs w (by simpa using hw)) ⟨.bl _, H, I, rfl, ?_⟩
    rw [show its.toArray.any (eqU x) = its.any (eqU x) by simp, any_eqU r fs]
    exact q
  · obtain ⟨its, r, pl, hz⟩ := I.tuple hq
    refine SeqAt.notIn_tupleAt (eqU x) pl (fun w hw => mem_eqAt rx fx r fs w (by simpa using hw)) ⟨.bl _, H, I, rfl, ?_⟩
    rw [show its.toArray.any (eqU x) = its.any (eqU x) by simp, any_eqU r fs]
    exact q
theorem call_len_seq : CallR X (.builtin "len") (fun xs H Q => ∃ p ys, xs = [.ref p] ∧ (SqL X.K H p ys ∨ SqT X.K H p ys) ∧ Q (.int ys.length) H) := by
  intro pins s σ H xs us Q I r h
  obtain ⟨p, ys, rfl, hq, q⟩ := h
  obtain ⟨u, rfl, rx⟩ := vals1 r
  cases rx
  have hn := line63
  rcases hq with hq | hq
  · obtain ⟨its, r', pl, hz⟩ := I.list hq
    have hlen := r'.length
    exact Calls.call_len_list pl.isList (by simp only [List.size_toArray] <;> omega) ⟨.int ys.length, H, I.tok _, ⟨s.toks + 1, by rw [List.size_toArray, hlen]⟩, q⟩
  · obtain ⟨its, r', pl, hz⟩ := I.tuple hq
    have hlen := r'.length
    exact len_tuple pl (by simp only [List.size_toArray] <;> omega) ⟨.int ys.length, H, I.tok _, ⟨s.toks + 1, by rw [List.size_toArray, hlen]⟩, q⟩
theorem call_list_of : CallR X (.type "list") (fun xs H Q => ∃ p ys, xs = [.ref p] ∧ (SqL X.K H p ys ∨ SqT X.K H p ys) ∧ ∀ l, H l = none → Q (.ref l) (upd H l (.lst ys))) := by
  intro pins s σ H xs us Q I r h
  obtain ⟨p, ys, rfl, hq, q⟩ := h
  obtain ⟨u, rfl, rx⟩ := vals1 r
  cases rx
  have fin : ∀ (its : List Value), Vals ys its → ys.length ≤ sizeLine → ∀ (h' : Heap) (c' : Nat), (∀ b o', s.heap.get? b = some o' → h'.get? b = some o') →
      h'.get? s.heap.objs.size = some { cls := .type "list", dict := none, data := .seq its.toArray c', slots := #[] } → EP X pins σ Q (.ref s.heap.objs.size) { s with heap := h' } := fun its r' hz h' c' kp e =>
    ⟨.ref s.heap.objs.size, _, I.laid (t' := s.toks) kp (Nat.le_refl _) (show ObjOk X.prog X.w _ h' _ (.lst ys) from ⟨hz, its, c', r', e⟩), rfl, q _ (I.hok.fresh (Nat.le_refl _))⟩
  rcases hq with hq | hq
  · obtain ⟨its, r', pl, hz⟩ := I.list hq
    have hlen := r'.length
    obtain ⟨o, ho, hc, n, hd⟩ := pl.isList
    exact call_list_seq p (.inl rfl) ho hc hd (fun h' c' kp e => fin its r' hz h' c' kp e) (by simp only [List.size_toArray] <;> omega)
  · obtain ⟨its, r', pl, hz⟩ := I.tuple hq
    have hlen := r'.length
    obtain ⟨o, ho, hc, n, hd⟩ := pl
    exact call_list_seq p (.inr rfl) ho hc hd (fun h' c' kp e => fin its r' hz h' c' kp e) (by simp only [List.size_toArray] <;> omega)
def tyV (K : PySem.W.Frag) (T : String) (x : V) (H : Hp) : Prop := match x with
  | .str _ => T = "str"
  | .int _ => T = "int"
  | .ref p => (T = "list" ∧ ∃ xs, SqL K H p xs) ∨ (T = "tuple" ∧ ∃ o, K.lookup p = some o ∧ o.cls = .type "tuple" ∧ o.dict = none) ∨
      (T = "dict" ∧ ((∃ kvs, H p = some (.dK kvs)) ∨ ∃ kvs, H p = some (.dT kvs))) ∨ (T = "set" ∧ ∃ S n, H p = some (.set S n))
  | _ => False
theorem tyV_is {pins : List (Addr × Obj)} {σ : St} {H : Hp} {s : Shared} {T : String} {x : V} {v : Value} (I : Inv X pins σ H s) (r : RelV x v) (ty : tyV X.K T x H) :
    s.TypeIs v T ∧ ∀ a, v = .ref a → ∃ ob, s.heap.get? a = some ob ∧ ob.dict = none := by
  cases x with
  | str z =>
    obtain ⟨t, rfl⟩ := r
    cases (show T = "str" from ty)
    exact ⟨typeIs_str s z t, fun _ e => nomatch e⟩
  | int i =>
    obtain ⟨t, rfl⟩ := r
    cases (show T = "int" from ty)
    exact ⟨typeIs_int s i t, fun _ e => nomatch e⟩
  | ref p =>
    cases r
    rcases ty with ⟨rfl, xs, hq⟩ | ⟨rfl, o, hk, hc, hd⟩ | ⟨rfl, hk⟩ | ⟨rfl, S, n, hk⟩
    · obtain ⟨its, _, pl, _⟩ := I.list hq
      refine ⟨pl.isList.typeIs, fun a e => ?_⟩
      cases e
      obtain ⟨o, n, e, c, hd, _⟩ := pl
      exact ⟨o, e, hd⟩
    · refine ⟨⟨o, I.kIn p o hk, hc⟩, fun a e => ?_⟩
      cases e
      exact ⟨o, I.kIn _ o hk, hd⟩
    · have z : ∃ o, s.heap.get? p = some o ∧ o.ExactDict := by
        rcases hk with ⟨kvs, hk⟩ | ⟨kvs, hk⟩
        · obtain ⟨_, _, _, _, o, _, _, e, ex, _⟩ := I.hok p _ hk
          exact ⟨o, e, ex⟩
        · obtain ⟨_, _, _, _, o, _, _, e, ex, _⟩ := I.hok p _ hk
          exact ⟨o, e, ex⟩
      obtain ⟨o, e, ex⟩ := z
      refine ⟨⟨o, e, ex.1⟩, fun a e2 => ?_⟩
      cases e2
      exact ⟨o, e, ex.2.1⟩
    · obtain ⟨o, _, _, _, e, ex, _⟩ := I.hok p _ hk
      refine ⟨⟨o, e, ex.1⟩, fun a e2 => ?_⟩
      cases e2
      exact ⟨o, e, ex.2.1⟩
  | _ => exact False.elim ty
def tBM0 (K : PySem.W.Frag) (T : String) (r : V → List V → Hp → VK → Prop) (to : TE) : TE := fun σ H Q => to σ H fun x H1 => tyV K T x H1 ∧ r x [] H1 Q
def tBM (K : PySem.W.Frag) (T : String) (r : V → List V → Hp → VK → Prop) (to : TE) (t : TA) : TE := fun σ H Q => to σ H fun x H1 => tyV K T x H1 ∧ t σ H1 fun xs H2 => r x xs H2 Q
variable {o e : Expr} {es : List Expr} {to : TE} {t : TA} {name : Str} {apos cpos : Pos} {T id : String} {r : V → List V → Hp → VK → Prop}
theorem pe_bm0 (pa : PlainAttrs T) (slot : Slot T name id) (hty : typeOf (.builtin id) = pure (.type "method_descriptor")) (hm : MtR X id r) (ho : PE X o to)
    (hbase : attributeBase o name X.env (eval o X.env) = eval o X.env := by rfl) (hline : (apos.endLine == cpos.line) = true := by rfl) : PE X (.Call (.Attribute o name apos) [] [] cpos) (tBM0 X.K T r to) := by
  intro pins s σ H Q I h
  refine wpAny_Call_method0_late hbase hline (thn (ho pins s σ H _ I h) fun v s1 ⟨x, H1, I1, r1, ty, q1⟩ => ?_)
  obtain ⟨h1, h2⟩ := tyV_is I1 r1 ty
  exact ⟨T, id, pa, slot, hty, h1, h2, Calls.callWith_builtin rfl (PySem.evalArgs_none (hm pins s1 σ H1 x [] v [] Q I1 r1 .nil q1))⟩
theorem pe_bm (pa : PlainAttrs T) (slot : Slot T name id) (hty : typeOf (.builtin id) = pure (.type "method_descriptor")) (hm : MtR X id r) (ho : PE X o to) (ha : PA X (e :: es) t)
    (hbase : attributeBase o name X.env (eval o X.env) = eval o X.env := by rfl)
    (hfew : ((backTo cpos (starEach (e :: es) X.env)).all (fun x => !x.1) && (backToKw cpos (keywordEach [] X.env)).all (fun x => x.1.isSome)
      && decide ((e :: es).length + ([] : List Keyword).length + (if ([] : List Keyword).isEmpty then 0 else 1) < 30)) = true := by rfl)
    (hline : (apos.endLine == cpos.line) = true := by rfl) (hs : starEach (e :: es) X.env = (false, eval e X.env) :: starEach es X.env := by rfl) (hplain : (backTo cpos (starEach es X.env)).any (·.1) = false := by rfl) :
    PE X (.Call (.Attribute o name apos) (e :: es) [] cpos) (tBM X.K T r to t) := by
  intro pins s σ H Q I h
  refine wpAny_Call_method_late hbase hfew hline rfl (thn (ho pins s σ H _ I h) fun v s1 ⟨x, H1, I1, r1, ty, q1⟩ => ?_)
  obtain ⟨h1, h2⟩ := tyV_is I1 r1 ty
  refine ⟨T, id, pa, slot, hty, h1, h2, ?_⟩
  have hA := ha cpos pins s1 σ H1 _ I1 q1
  rw [hs] at hA ⊢
  refine Calls.callWith_builtin (by show (false || (backTo cpos (starEach es X.env)).any (·.1)) = false; rw [hplain] <;> rfl) (Calls.evalArgs_plain ?_)
  exact thn hA fun us s2 ⟨vs, H2, I2, r2, q2⟩ => hm pins s2 σ H2 x vs v us Q I2 r1 r2 q2
end
end L2
namespace L2
open PySem PySem.Spec PyProof.Rows
def MtM (X : Cx) (id : String) (r : V → List V → Hp → VK → Prop) : Prop :=
  ∀ (pins : List (Addr × Obj)) (s : Shared) (σ : St) (H : Hp) (x : V) (xs : List V) (v : Value) (us : List Value) (Q : VK), Inv X pins σ H s → RelV x v → Vals xs us → r x xs H Q →
    wpAny (model X.prog X.w) X.A (call (.builtin id) (v :: us)) (EP X pins σ Q) X.xe s
theorem Vals.one : ∀ {x : V} {us : List Value}, Vals [x] us → ∃ u, us = [u] ∧ RelV x u
  | _, _, .cons r .nil => ⟨_, rfl, r⟩
theorem Vals.zero : ∀ {us : List Value}, Vals [] us → us = []
  | _, .nil => rfl
theorem Vals.reverse {xs : List V} {us : List Value} (h : Vals xs us) : Vals xs.reverse us.reverse := by
  induction h with
  | nil => exact .nil
  | cons r t ih => rw [List.reverse_cons, List.reverse_cons]; exact Vals.append ih (.cons r .nil)
section
variable {X : Cx} {pins : List (Addr × Obj)} {σ : St} {H : Hp} {s : Shared} {l b : Addr} {xs ys zs : List V}
theorem Inv.lset {its its' : List Value} {n : Nat} {f : Array Value → Array Value} {t' : Nat} (I : Inv X pins σ H s) (hH : H l = some (.lst xs))
    (e : s.heap.get? l = some { cls := .type "list", data := .seq its.toArray n }) (hf : f its.toArray = its'.toArray) (hv : Vals ys its') (hz : ys.length ≤ sizeLine) :
    Inv X pins σ (upd H l (.lst ys)) { s with heap := s.heap.update l (Obj.mapSeq f), toks := t' } := by
  have q := PySem.IsL.update e f
  rw [hf] at q
  refine I.write (x := l) (e := l) (by rw [hH]; exact trivial) (.inl rfl) (fun b' u hb hu => (Heap.get?_update_other s.heap (Obj.mapSeq f) (Ne.symm hb)).trans hu) ⟨_, q⟩ ?_
  exact ⟨hz, its', _, hv, q⟩
theorem Inv.fresh (I : Inv X pins σ H s) : H s.heap.objs.size = none := I.hok.fresh (Nat.le_refl _)
theorem Inv.lstM (I : Inv X pins σ H s) (hH : H l = some (.lst xs)) : xs.length ≤ sizeLine ∧ ∃ (its : List Value) (n : Nat), Vals xs its ∧ xs.length = its.length ∧ s.heap.get? l = some { cls := .type "list", data := .seq its.toArray n } := by
  obtain ⟨z, its, n, r, e⟩ := I.hok l _ hH
  exact ⟨z, its, n, r, r.length, e⟩
end
section
variable {X : Cx}
def rAppend : V → List V → Hp → VK → Prop := fun x vs H Q => ∃ l xs y, x = .ref l ∧ vs = [y] ∧ H l = some (.lst xs) ∧ xs.length < sizeLine ∧ Q .non (upd H l (.lst (xs ++ [y])))
theorem mt_append : MtM X "list.append" rAppend := by
  intro pins s σ H x vs v us Q I rx rv h
  obtain ⟨l, xs, y, rfl, rfl, hH, hz, q⟩ := h
  cases rx
  obtain ⟨u, rfl, ru⟩ := rv.one
  obtain ⟨z, its, n, r, hl, e⟩ := I.lstM hH
  refine call_meets F.slot_list_append ⟨_, e, rfl⟩ F.entry_list_append (F.args_list_append_2 _ _) (PySem.list_append l its.toArray n u (by rw [List.size_toArray]; omega)) ⟨e, ?_⟩
  refine ⟨.non, _, I.lset (its' := its ++ [u]) hH e (by simp) (r.append (.cons ru .nil)) ?_, rfl, q⟩
  rw [List.length_append, List.length_singleton]
  omega
def rClear : V → List V → Hp → VK → Prop := fun x vs H Q => ∃ l xs, x = .ref l ∧ vs = [] ∧ H l = some (.lst xs) ∧ Q .non (upd H l (.lst []))
theorem mt_clear : MtM X "list.clear" rClear := by
  intro pins s σ H x vs v us Q I rx rv h
  obtain ⟨l, xs, rfl, rfl, hH, q⟩ := h
  cases rx
  have hus := rv.zero
  subst hus
  obtain ⟨z, its, n, r, hl, e⟩ := I.lstM hH
  refine call_meets F.slot_list_clear ⟨_, e, rfl⟩ F.entry_list_clear (F.args_list_clear_1 _) (AutoSeq1.list_clear_list_0 l its.toArray n (by rw [List.size_toArray]; omega)) ⟨e, ?_⟩
  exact ⟨.non, _, I.lset (its' := []) (ys := []) hH e rfl .nil (Nat.zero_le _), rfl, q⟩
end
section
variable {prog : Program} {w : World} {A : Around} {E : Value → Shared → Prop} {s : Shared}
end
section
variable {X : Cx}
end
end L2
namespace Att
open PySem PySem.W PySem.Calls PyProof.Rows
theorem ints_of_wellAll {P : Params} {h : Heap} : ∀ (ns : List Int) (vs : List Value), WellAll P h vs (ns.map WData.int) → IntsAre vs ns := by
  intro ns
  induction ns with
  | nil =>
    intro vs w
    rw [List.map_nil] at w
    cases w
    exact .nil
  | cons n ns ih =>
    intro vs w
    rw [List.map_cons] at w
    cases w with
    | cons a b =>
      cases a
      exact .cons _ _ (ih _ b)
theorem script_of {l : OpenLaw} {n : Nat} (hn : l.most = some n) {P : Params} {h : Heap} {args : List WData} {vals : List Value}
    (hpre : l.row.toRowW.claim.pre args = true) (hwl : WellAll P h vals args) :
    ∃ a vs ns, vals = [Value.ref a] ∧ args = [WData.list (ns.map WData.int)] ∧ h.get? a = some { cls := .type "list", data := .seq vs.toArray } ∧ IntsAre vs ns ∧ ns.length ≤ n := by
  have hsh : WShape.hasAll [] args [.list .int] = true := (pre_splitW hpre).1
  have hc : l.pre.holds [] { args := args } = true := (pre_splitW hpre).2
  obtain ⟨d, r, rfl, h1, h2⟩ := hasAllW_cons hsh
  obtain rfl := hasAllW_nil h2
  obtain ⟨xs, rfl, h3⟩ := hasW_list h1
  obtain ⟨ns, rfl⟩ := items_int h3
  have hlen : ns.length ≤ n := by
    unfold OpenLaw.pre at hc
    have h4 : (WTm.not (.lt (.lit (.int (n : Int))) (.len (.arg 0)))).holds [] { args := [.list (ns.map .int)] } = true := by
      have h4 := (holds_andW hc).1
      rw [hn] at h4
      exact h4
    have h5 := condW_of h4 (w_not (w_lt w_lit (w_len_list (w_arg rfl))))
    rw [List.length_map] at h5
    refine Nat.le_of_not_lt fun q => ?_
    have q' : (n : Int) < ((ns.length : Nat) : Int) := by omega
    first
      | (rw [decide_eq_true q'] at h5; exact absurd h5 (by decide))
      | (simp at h5; omega)
  cases hwl with
  | cons w1 w2 =>
    cases w2
    cases w1 with
    | list ho hall => exact ⟨_, _, ns, rfl, rfl, ho, ints_of_wellAll ns _ hall, hlen⟩
theorem post_true (l : OpenLaw) (args : List WData) : l.row.toRowW.claim.post args (.bool true) args = true :=
  postW_of (r := l.row.toRowW) (X := (true == true))
    (show WShape.has [] (.bool true) .bool = true by first | rfl | decide | simp [WShape.has, WShape.arms, WShape.armsAll])
    (show (WTm.eq .res (.lit (.bool true))).value [] { args := args, res := some (.bool true), after := args } = some (.bool (true == true)) from w_eq_bool (w_res rfl) w_lit) rfl
theorem attach_call {l : OpenLaw} {n : Nat} {q : Program} {loose : List Str} {XP : (Str → Option Value) → Heap → Prop} {YP : World → Heap → Prop} {d : DefRec}
    (hn : l.most = some n) (hdf : d.params.defaults = [])
    (call : ∀ (w : World) (s₀ s₁ : Shared) (mg mb : Str → Option Value) (fa : Addr) (o : Obj) (pm cd doc : Value) (a : Addr) (vs : List Value) (ns : List Int),
      Ground q loose [] XP w s₀ mg mb s₁.heap → YP w s₁.heap →
      s₁.heap.get? fa = some o → o.data = .func (docDef d.name d.params d.body d.scope pm cd doc) → s₁.heap.CodeRec cd d.name → mg d.name = some (.ref fa) →
      s₁.heap.get? a = some { cls := .type "list", data := .seq vs.toArray } → IntsAre vs ns → ns.length ≤ n → s₁.gens = #[] →
      codeAny (model l.prog w) callerA (.call (.ref fa) ⟨[.ref a], []⟩) (fun r s' => r = .ok (.ret (.bool true)) ∧ OldK s₁.heap s'.heap ∧ s'.os = s₁.os ∧ AllBare s'.gens) s₁) :
    WalkO q loose XP YP l.row.toRowW d [] (fun f vs => PySem.call f vs) := by
  intro w s₀ s₁ mg mb G Y fa o pm cd doc dV kV ho hd hcd hD hmg hg args vals as hpre hlay hrd hwl hlo
  obtain rfl : dV = .none := Dflts.none hD hdf
  obtain rfl : kV = .none := Dflts.noKw hD
  obtain ⟨a, vs, ns, rfl, rfl, hobj, hints, hlen⟩ := script_of hn hpre hwl
  refine enter_call (codeAny_mono (call w s₀ s₁ mg mb fa o pm cd doc a vs ns G Y ho (fd_plain hd) hcd hmg hobj hints hlen hg) fun r s' hq => ?_)
  obtain ⟨rfl, h2, h3, h4⟩ := hq
  exact ⟨.inl ⟨.bool true, .bool true, [], rfl, fun _ => rfl, .bool true, post_true l _, fun _ => ⟨List.Pairwise.nil, fun _ hm => (nomatch hm)⟩⟩, h2, h3, h4⟩
section
variable {prog : Program} {w : World} {A : Around} {E : Value → Shared → Prop} {s : Shared} {K : Frag}
end
end Att
namespace L2
open PySem PySem.Spec PyProof.Rows
theorem vals_ints : ∀ {vs : List Value} {ns : List Int}, IntsAre vs ns → Vals (ns.map V.int) vs
  | _, _, .nil => .nil
  | _, _, .cons n t h => .cons ⟨t, rfl⟩ (vals_ints h)
def Only (H : Hp) : Prop := ∀ b, H b = none ∨ ∃ o xs, H b = some (.frz o (.lst xs))
theorem law_call {P : Program} {w : World} {K : PySem.W.Frag} {mg mb : Str → Option Value} {CX : CXT} {k : Nat} {fa a : Addr} {fd : FuncData} {x : Str} {sp : Sp} {s₁ : Shared} {vs : List Value} {ns : List Int}
    (KX : K.In s₁.heap) (hns : s₁.heap.Ns mainGlobals mg) (hb : s₁.heap.Ns builtinsNs mb) (hbb : ∀ x : Str, x ≠ "__name__" → mb x = bootBuiltins x) (hlim : s₁.heap.NoLimit) (hg : s₁.gens = #[])
    (ha : s₁.heap.get? a = some { cls := .type "list", data := .seq vs.toArray }) (hi : IntsAre vs ns) (hl : ns.length ≤ sizeLine) (hr : Room k callerA)
    (F : ∀ base : Heap, K.In base → base.Ns mainGlobals mg → FnOk P w K mg base CX k fa fd [x] sp) (hbind : ∀ (s : Shared) (u : Value), BindsTo s fd ⟨[u], []⟩ [(x, u)])
    (hsp : ∀ H : Hp, Only H → SqL K H a (ns.map V.int) → sp [.ref a] H (fun v _ => v = .bl true) fun _ _ _ => False)
    (hCX : ∀ H e s', CX [] H s₁ (fun _ _ _ => False) e s' → False) :
    codeAny (model P w) callerA (.call (.ref fa) ⟨[.ref a], []⟩) (fun r s' => r = .ok (.ret (.bool true)) ∧ OldK s₁.heap s'.heap ∧ s'.os = s₁.os ∧ AllBare s'.gens) s₁ := by
  have rv := vals_ints hi
  have lenV := hi.length
  -- from an abstract heap in which nothing but the script may be tracked
  have core : ∀ H : Hp, Only H → SqL K H a (ns.map V.int) → HOk P w H s₁.heap → (∀ b, H b ≠ none → b = a) → (H a ≠ none → K.lookup a = none) →
      codeAny (model P w) callerA (.call (.ref fa) ⟨[.ref a], []⟩) (fun r s' => r = .ok (.ret (.bool true)) ∧ OldK s₁.heap s'.heap ∧ s'.os = s₁.os ∧ AllBare s'.gens) s₁ := by
    intro H hO hS hok hA hK
    have base_of : ∀ {b : Addr} {o : Obj}, s₁.heap.get? b = some o → H b = none → (hidT s₁.heap H).get? b = some o := fun e n => hidT_get e n
    have noA : ∀ {b : Addr} {o : Obj} {es : Array DictEntry} {ep : Nat}, s₁.heap.get? b = some o → o.data = .dict es ep → H b = none := fun {b o es ep} e d => by
      cases q : H b with
      | none => rfl
      | some u =>
        have e' : b = a := hA b (by rw [q]; simp)
        subst e'
        rw [ha] at e; cases e
        have d' : Data.seq vs.toArray _ = Data.dict es ep := d
        cases d'
    have nsK : ∀ {b : Addr} {m : Str → Option Value}, s₁.heap.Ns b m → (hidT s₁.heap H).Ns b m := fun {b m} ⟨o, es, ep, e, d, r⟩ => ⟨o, es, ep, base_of e (noA e d), d, r⟩
    have hKb : K.In (hidT s₁.heap H) := fun b o e => base_of (KX b o e) (by
      cases q : H b with
      | none => rfl
      | some u =>
        have e' : b = a := hA b (by rw [q]; simp)
        subst e'
        rw [hK (by rw [q]; simp)] at e; cases e)
    have hM : Mod K mg (hidT s₁.heap H) := ⟨hKb, nsK hns, ⟨mb, nsK hb, hbb⟩, let ⟨mc, h1, h2⟩ := hlim; ⟨mc, nsK h1, h2⟩⟩
    have e0 : Env0 P w K mg (hidT s₁.heap H) callerA [] s₁ H := ⟨rfl, hM, fun b o e => of_hidT e, Nat.le_of_eq (hidT_size _ _), trivial, fun b hb => absurd (show b ∈ ([] : List Addr) from hb) (by simp), hok, .of_eq hg⟩
    refine codeAny_mono ((F _ hKb (nsK hns)).run callerA [] s₁ H ⟨[.ref a], []⟩ [.ref a] [.ref a] _ _ hr e0 (hbind s₁ (.ref a)) (.cons rfl .nil) (hsp H hO hS)) fun r s' h => ?_
    cases r with
    | error e => exact (hCX H e s' h).elim
    | ok fl =>
      cases fl with
      | next => exact False.elim h
      | brk => exact False.elim h
      | cont => exact False.elim h
      | ret u =>
        obtain ⟨v, H', os, bare, un, hok', r', q⟩ := h
        have q' : v = .bl true := q
        subst q'
        obtain rfl : u = Value.bool true := r'
        refine ⟨rfl, OldK.of_keep fun b o e => ?_, os, bare⟩
        cases q : H b with
        | none => exact un.keep b o e q (by intro z; exact absurd (show b ∈ ([] : List Addr) from z) (by simp)) (by simp)
        | some u =>
          rcases hO b with z | ⟨ob, xs, z⟩
          · rw [q] at z; cases z
          · have z2 := un.frzs b ob _ z
            obtain ⟨e1, _⟩ := hok b _ z
            obtain ⟨e2, _⟩ := hok' b _ z2
            rw [e] at e1; cases e1
            exact e2
  cases hk : K.lookup a with
  | some o =>
    -- the script is one of the module's own objects
    have e := KX a o hk
    rw [ha] at e
    cases e
    refine core (fun _ => none) (fun _ => .inl rfl) (.inr ⟨_, vs.toArray, _, hk, rfl, rfl, rfl, by rw [List.size_toArray, lenV]; exact hl, by simpa using rv⟩) (fun b u z => by have z' : (none : Option HO) = some u := z; cases z') (fun b z => absurd rfl z) fun z => absurd rfl z
  | none =>
    refine core (fun b => if b = a then some (.frz { cls := .type "list", data := .seq vs.toArray } (.lst (ns.map V.int))) else none) (fun b => ?_) (.inl (.inr ⟨{ cls := .type "list", data := .seq vs.toArray }, if_pos rfl⟩)) (fun b u z => ?_) (fun b z => ?_) fun _ => hk
    · by_cases hb : b = a
      · exact .inr ⟨_, _, if_pos hb⟩
      · exact .inl (if_neg hb)
    · by_cases hb : b = a
      · have z' := (if_pos hb).symm.trans z
        cases z'
        subst hb
        exact ⟨ha, by rw [List.length_map]; exact hl, vs, _, rv, ha⟩
      · have z' := (if_neg hb).symm.trans z
        cases z'
    · by_cases hb : b = a
      · exact hb
      · exact absurd (if_neg hb) z
end L2
namespace L2
open PySem PySem.Spec PyProof.Rows
theorem walk_of {l : PySem.W.OpenLaw} {n k : Nat} {q : Program} {loose : List Str} {XP : (Str → Option Value) → Heap → Prop} {YP : World → Heap → Prop} {d : DefRec} {K : Params → PySem.W.Frag} {CX : World → CXT} {sp : World → Sp} {x : Str}
    (hn : l.most = some n) (hn2 : n ≤ sizeLine) (hdf : d.params.defaults = []) (hr : Room k callerA)
    (hY : ∀ (w : World) (h : Heap), YP w h → (K w.params).In h)
    (F : ∀ (w : World) (mg : Str → Option Value) (fa : Addr) (h : Heap), (K w.params).In h → h.Ns mainGlobals mg → mg d.name = some (.ref fa) →
      ∃ fd : FuncData, (∀ (s : Shared) (u : Value), BindsTo s fd ⟨[u], []⟩ [(x, u)]) ∧
        ∀ base : Heap, (K w.params).In base → base.Ns mainGlobals mg → FnOk l.prog w (K w.params) mg base (CX w) k fa fd [x] (sp w))
    (hsp : ∀ (w : World) (H : Hp) (a : Addr) (ns : List Int), ns.length ≤ n → Only H → SqL (K w.params) H a (ns.map V.int) → sp w [.ref a] H (fun v _ => v = .bl true) fun _ _ _ => False)
    (hCX : ∀ (w : World) (H : Hp) (s : Shared) (e : Value) (s' : Shared), CX w [] H s (fun _ _ _ => False) e s' → False) :
    PySem.W.WalkO q loose XP YP l.row.toRowW d [] (fun f vs => PySem.call f vs) := by
  refine Att.attach_call hn hdf fun w s₀ s₁ mg mb fa o pm cd doc a vs ns G Y ho hd hcd hmg hobj hints hlen hg => ?_
  have KX := hY w _ Y
  obtain ⟨fd, hb, hF⟩ := F w mg fa _ KX G.T.g hmg
  exact law_call KX G.T.g G.T.b G.T.builtins G.T.nolimit hg hobj hints (Nat.le_trans hlen hn2) hr hF hb (fun H hO hS => hsp w H a ns hlen hO hS) fun H e s' => hCX w H s₁ e s'
end L2
namespace L2
open PySem PySem.Spec PyProof.Rows
def defArgs (s : Stmt) : Arguments := match s with
  | .FunctionDef _ a _ _ _ _ _ _ _ _ => a
  | _ => { posonlyargs := [], args := [], vararg := none, kwonlyargs := [], kw_defaults := [], kwarg := none, defaults := [] }
def defBody (s : Stmt) : List Stmt := match s with
  | .FunctionDef _ _ b _ _ _ _ _ _ _ => b
  | _ => []
def defScope (s : Stmt) : Scope := match s with
  | .FunctionDef _ _ _ _ _ _ sc _ _ _ => sc
  | _ => { kind := .function, names := [], isGenerator := false, isCoroutine := false }
abbrev CX0 : CXT := fun _ _ _ _ _ _ => False
abbrev E0 : XK := fun _ _ _ => False
theorem pass0 {X : Cx} : Passes CX0 X E0 := fun _ _ _ _ _ _ _ h => h.elim
structure Fun (K : PySem.W.Frag) (x qual : Str) (st : Stmt) (f : Addr) (fd : FuncData) : Prop where
  ex : ∃ (oc : Value) (od : Option Addr) (kV doc pm : Value) (an : Option Addr) (cdv ct : Value) (osl : Array (Option Value)),
    fd = PySem.W.fnOf x qual (defArgs st) (defBody st) (defScope st) .none kV doc pm an cdv ct ∧ K.lookup f = some ⟨oc, od, .func fd, osl⟩ ∧ PySem.W.codeIn K cdv qual = true
  kp : PySem.W.keepIn K (.ref f) = true
section
variable {P : Program} {w : World} {K : PySem.W.Frag} {mg : Str → Option Value} {base : Heap}
theorem Fun.ok {x qual : Str} {st : Stmt} {f : Addr} {fd : FuncData} {N ps : List Str} {k : Nat} {sp : Sp} (F : Fun K x qual st f fd) (S : FnScope N ps (defScope st)) (len : ∀ vs H Q E, sp vs H Q E → vs.length = ps.length)
    (hbody : ∀ (cdv : Value) (A : Around) (outer : List Env) (s : Shared) (H : Hp) (vs : List V) (Q : VK) (E : XK), Room k (A.deeper (envOfC qual (defScope st) s.heap.objs.size f cdv)) → sp vs H Q E →
      ∃ t, PSs (cxOf CX0 P w K mg base N qual (defScope st) f cdv A outer s H E).nox (defBody st) t ∧ t { nx := fun _ H' => Q .non H', rt := Q } (start N vs) H) : FnOk P w K mg base CX0 (k + 1) f fd ps sp := by
  obtain ⟨oc, od, kV, doc, pm, an, cdv, ct, osl, rfl, lk, hcd⟩ := F.ex
  refine fn_of lk hcd S len fun A outer s H vs Q E hr hsp => ?_
  obtain ⟨t, h, q⟩ := hbody cdv A outer s H vs Q E hr hsp
  exact ⟨t, h.nox, q⟩
theorem Fun.binds {x qual : Str} {st : Stmt} {f : Addr} {fd : FuncData} {ps : List Str} (F : Fun K x qual st f fd)
    (h : ∀ (kV doc pm : Value) (an : Option Addr) (cdv ct : Value) (us : List Value), us.length = ps.length → bindArgs (PySem.W.fnOf x qual (defArgs st) (defBody st) (defScope st) .none kV doc pm an cdv ct) ⟨us, []⟩ = pure (ps.zip us)) : Binds K fd ps [] := by
  obtain ⟨oc, od, kV, doc, pm, an, cdv, ct, osl, rfl, lk, hcd⟩ := F.ex
  exact .all (h kV doc pm an cdv ct)
theorem fun_mk {x qual : Str} {st : Stmt} {f : Addr} {oc : Value} {od an : Option Addr} {osl : Array (Option Value)} {kV doc pm cdv ct : Value} (l : K.lookup f = some ⟨oc, od, .func (PySem.W.fnOf x qual (defArgs st) (defBody st) (defScope st) .none kV doc pm an cdv ct), osl⟩)
    (c : PySem.W.codeIn K cdv qual = true) (k : PySem.W.keepIn K (.ref f) = true) : Fun K x qual st f (PySem.W.fnOf x qual (defArgs st) (defBody st) (defScope st) .none kV doc pm an cdv ct) := ⟨⟨oc, od, kV, doc, pm, an, cdv, ct, osl, rfl, l, c⟩, k⟩
end
section
variable {X : Cx}
theorem pv (i : Nat) {x : Str} {pos : Pos} (hN : X.N[i]? = some x := by rfl) (hv : Vis X.env.scope x := by first | exact Or.inl rfl | exact Or.inr (Or.inl rfl) | exact Or.inr (Or.inr rfl)) (hd : (x == ("__debug__" : Str)) = false := by decide)
    (hcd : (x == ("__classdict__" : Str)) = false := by decide) : PE X (.Name x pos) (tVar i) := pe_var hN hv hd hcd
end
theorem iteF {A B : Prop} (h : B) : if false = true then A else B := by
  rw [if_neg Bool.false_ne_true]
  exact h
theorem iteT {A B : Prop} (h : A) : if true = true then A else B := by
  rw [if_pos rfl]
  exact h
theorem ite2 {c A B : Prop} [Decidable c] (h1 : c → A) (h2 : ¬ c → B) : if c then A else B := by
  by_cases h : c
  · rw [if_pos h]
    exact h1 h
  · rw [if_neg h]
    exact h2 h
def Same (H H' : Hp) : Prop := ∀ b o, H b = some o → H' b = some o
theorem Same.refl (H : Hp) : Same H H := fun _ _ h => h
theorem Same.trans {H H1 H2 : Hp} (a : Same H H1) (b : Same H1 H2) : Same H H2 := fun c o h => b c o (a c o h)
theorem Same.free {H H' : Hp} (e : Same H H') {l : Addr} (h : H' l = Option.none) : H l = Option.none := by
  cases q : H l with
  | none => rfl
  | some o =>
    rw [e l o q] at h
    cases h
theorem Same.seq {K : PySem.W.Frag} {H H' : Hp} {a : Addr} {xs : List V} (e : Same H H') (h : SqL K H a xs) : SqL K H' a xs := by
  rcases h with (h | ⟨o, h⟩) | h
  · exact .inl (.inl (e _ _ h))
  · exact .inl (.inr ⟨o, e _ _ h⟩)
  · exact .inr h
end L2
set_option maxRecDepth 100000
namespace L2
open PySem PySem.Spec PyProof.Rows
def closG (env : Env) : List (Str × NameKind) → List (Str × Addr) → List (Str × Addr)
  | [], cs => cs
  | (n, k) :: r, cs => closG env r (if k == .free then (n, (env.cells.lookup n).getD 0) :: cs else cs)
theorem closG_for {env : Env} : ∀ (names : List (Str × NameKind)) (cs : List (Str × Addr)), (∀ p ∈ names, p.2 = .free → ∃ c, env.cells.lookup p.1 = some c) →
    (forIn names cs (fun (x : Str × NameKind) (r : List (Str × Addr)) => (do if x.2 == .free then pure (.yield ((x.1, ← cellOf env x.1) :: r)) else pure (.yield r) : Sem (ForInStep (List (Str × Addr)))))) = (pure (closG env names cs) : Sem _)
  | [], cs, _ => rfl
  | (n, k) :: r, cs, h => by
    rw [List.forIn_cons]
    by_cases hk : (k == NameKind.free) = true
    · obtain ⟨c, e⟩ := h (n, k) List.mem_cons_self (by simpa using hk)
      have ec : cellOf env n = pure c := by unfold cellOf; rw [show env.cells.lookup n = some c from e]
      simp only [hk, if_true, ec, pure_bind]
      rw [closG_for r _ fun p hp => h p (List.mem_cons_of_mem _ hp)]
      simp only [closG, hk, if_true, show env.cells.lookup n = some c from e, Option.getD_some]
    · simp only [hk, if_false, pure_bind, Bool.false_eq_true]
      rw [closG_for r _ fun p hp => h p (List.mem_cons_of_mem _ hp)]
      simp only [closG, hk, if_false, Bool.false_eq_true]
theorem closureFor_G {scope : Scope} {env : Env} (h : ∀ p ∈ scope.names, p.2 = .free → ∃ c, env.cells.lookup p.1 = some c) : closureFor scope env = pure (closG env scope.names []) := by
  rw [← closG_for scope.names [] h]
  simp only [closureFor]
  rw [bind_pure]
theorem closG_look {env : Env} {x : Str} {c : Addr} : ∀ (names : List (Str × NameKind)) (cs : List (Str × Addr)), (∀ p ∈ names, p.2 = .free → ∃ c, env.cells.lookup p.1 = some c) →
    (closG env names cs).lookup x = some c → cs.lookup x = some c ∨ env.cells.lookup x = some c
  | [], cs, _, h => .inl h
  | (n, k) :: r, cs, hf, h => by
    have hf' : ∀ p ∈ r, p.2 = .free → ∃ c, env.cells.lookup p.1 = some c := fun p hp => hf p (List.mem_cons_of_mem _ hp)
    unfold closG at h
    rcases closG_look r _ hf' h with q | q
    · by_cases hk : (k == NameKind.free) = true
      · rw [if_pos hk] at q
        obtain ⟨c', e⟩ := hf (n, k) List.mem_cons_self (by simpa using hk)
        have e : env.cells.lookup n = some c' := e
        rw [e, Option.getD_some, List.lookup_cons] at q
        cases hx : (x == n) with
        | true =>
          rw [hx] at q
          have : x = n := by simpa using hx
          subst this
          cases q
          exact .inr e
        | false => rw [hx] at q; exact .inl q
      · rw [if_neg hk] at q; exact .inl q
    · exact .inr q
theorem closG_has {env : Env} {x : Str} : ∀ (names : List (Str × NameKind)) (cs : List (Str × Addr)), ((x, NameKind.free) ∈ names ∨ ∃ c, cs.lookup x = some c) → ∃ c, (closG env names cs).lookup x = some c
  | [], cs, h => by
    rcases h with h | h
    · cases h
    · exact h
  | (n, k) :: r, cs, h => by
    unfold closG
    refine closG_has r _ ?_
    rcases h with h | ⟨c, h⟩
    · rcases List.mem_cons.mp h with e | h
      · cases e
        right
        rw [if_pos (by rfl), List.lookup_cons]
        simp
      · exact .inl h
    · right
      split
      · rw [List.lookup_cons]
        cases (x == n) with
        | true => exact ⟨_, rfl⟩
        | false => exact ⟨c, h⟩
      · exact ⟨c, h⟩
theorem relabel_free {env : Env} : ∀ {names : List (Str × NameKind)} {x : Str}, names.lookup x = some .free →
    ((names.map fun (n, k) => if (k == NameKind.free && env.scope.kind == .function && env.kindOf n == some .cell) then (n, NameKind.cell) else (n, k)).lookup x = some .cell ∨
     (names.map fun (n, k) => if (k == NameKind.free && env.scope.kind == .function && env.kindOf n == some .cell) then (n, NameKind.cell) else (n, k)).lookup x = some .free)
  | [], _, h => by simp at h
  | (n, k) :: r, x, h => by
    have ih := @relabel_free env r x
    rw [List.map_cons]
    cases hx : x == n with
    | true =>
      simp only [List.lookup_cons, hx] at h
      cases h
      dsimp only
      split
      · left; rw [List.lookup_cons, hx]
      · right; rw [List.lookup_cons, hx]
    | false =>
      simp only [List.lookup_cons, hx] at h
      dsimp only
      split
      · simp only [List.lookup_cons, hx]; exact ih h
      · simp only [List.lookup_cons, hx]; exact ih h
theorem relabel_inv {env : Env} : ∀ {names : List (Str × NameKind)} {x : Str} {k : NameKind}, k = .cell ∨ k = .free →
    (names.map fun (n, k) => if (k == NameKind.free && env.scope.kind == .function && env.kindOf n == some .cell) then (n, NameKind.cell) else (n, k)).lookup x = some k → ∃ k', (k' = .cell ∨ k' = .free) ∧ (x, k') ∈ names
  | [], _, _, _, h => by simp at h
  | (n, k) :: r, x, k', hk, h => by
    have ih := @relabel_inv env r x k' hk
    rw [List.map_cons] at h
    cases hx : x == n with
    | true =>
      have : x = n := by simpa using hx
      subst this
      dsimp only at h
      split at h
      · rename_i hc
        rw [List.lookup_cons, hx] at h
        refine ⟨k, .inr ?_, List.mem_cons_self⟩
        simp only [Bool.and_eq_true] at hc
        simpa using hc.1.1
      · rw [List.lookup_cons, hx] at h
        cases h
        exact ⟨_, hk, List.mem_cons_self⟩
    | false =>
      dsimp only at h
      have h' : (r.map fun (n, k) => if (k == NameKind.free && env.scope.kind == .function && env.kindOf n == some .cell) then (n, NameKind.cell) else (n, k)).lookup x = some k' := by
        split at h
        · simpa only [List.lookup_cons, hx] using h
        · simpa only [List.lookup_cons, hx] using h
      obtain ⟨k2, a, b⟩ := ih h'
      exact ⟨k2, a, List.mem_cons_of_mem _ b⟩
def cxComp (X : Cx) (scope : Scope) (N : List Str) (fp : List Addr) (s : Shared) (H : Hp) : Cx :=
  { X with N := N, s₀ := s, H₀ := H, env := compEnvC scope (closG X.env scope.names []) s.heap.objs.size X.env, outer := X.stack, stack := X.stack, ex := fp, fn := fun _ => false, pn := [], xe := fun _ _ => False }
def seen (js : List (Option Nat)) (σ : St) : St := js.map fun o => o.bind fun j => (σ[j]?).join
def compChk (X : Cx) (scope : Scope) (N : List Str) (js : List (Option Nat)) : Bool :=
  (scope.names.all fun p => p.2 != .cell && (p.2 != .free || X.env.kindOf p.1 == some .cell) && (p.2 != .local || scope.names.lookup p.1 == some .local)) &&
  (js.length == N.length) && ((N.zip js).all fun p => match p.2 with | none => true | some j => X.N[j]? == some p.1 && scope.names.lookup p.1 == some .free && X.env.kindOf p.1 == some .cell)
section
variable {X : Cx} {tg iter elt : Expr} {scope : Scope} {N : List Str} {js : List (Option Nat)} {pos : Pos}
theorem comp_start {pins : List (Addr × Obj)} {σ : St} {H : Hp} {s : Shared} {h' : Heap} {fp : List Addr} {t' : Nat} (I : Inv X pins σ H s) (hk : scope.kind = .function) (hck : compChk X scope N js = true)
    (hf : ∀ b ∈ fp, FpOk X pins H b) (hfl : ∀ b ∈ fp, b < s.heap.objs.size) (hns : h'.Ns s.heap.objs.size (fun _ => none)) (kp : ∀ b o, s.heap.get? b = some o → h'.get? b = some o) :
    Inv (cxComp X scope N fp s H) [] (seen js σ) H { s with heap := h', toks := t' } := by
  unfold compChk at hck
  simp only [Bool.and_eq_true] at hck
  obtain ⟨⟨h1, h2⟩, h3⟩ := hck
  have hlen : js.length = N.length := by simpa using h2
  have g1 : ∀ p ∈ scope.names, p.2 ≠ .cell ∧ (p.2 = .free → X.env.kindOf p.1 = some .cell) := fun p hp => by
    have q := List.all_eq_true.mp h1 p hp
    simp only [Bool.and_eq_true, bne_iff_ne, ne_eq, Bool.or_eq_true, beq_iff_eq] at q
    exact ⟨q.1.1, fun e => q.1.2.resolve_left fun z => z e⟩
  have hcl : ∀ p ∈ scope.names, p.2 = .free → ∃ c, X.env.cells.lookup p.1 = some c := fun p hp e => I.ok.has _ (.inl ((g1 p hp).2 e))
  have back : ∀ x c, (closG X.env scope.names []).lookup x = some c → X.env.cells.lookup x = some c := fun x c e => by
    rcases closG_look _ _ hcl e with q | q
    · cases q
    · exact q
  refine ⟨⟨I.ok.mod, ?_, I.ok.glob, I.ok.blt, Nat.le_refl _, fun x y c h1 h2 => I.ok.inj x y c (back _ _ h1) (back _ _ h2), fun x hx => ?_, fun _ _ z => (by cases z), I.ok.hd, I.ok.frames, .inl rfl, fun b hb => ⟨?_, fun x c e => ?_⟩, I.bs, Nat.le_trans I.ok.bsz I.sz, fun b o e hb => ?_, fun b hb => ?_, I.stack, I.stkFree⟩,
    rfl, I.bare, Un.kept kp, ⟨_, hns, fun i x v e1 e2 e3 => ?_⟩, fun x c e => ?_, I.hok.fresh (Nat.le_refl _), fun x c e => I.freeC x c (back _ _ e), fun p hp => (by cases hp), I.hok.kept kp, ?_⟩
  · show (relabel scope X.env).kind = _
    exact hk
  · have hx' : ∃ k, (k = .cell ∨ k = .free) ∧ (relabel scope X.env).names.lookup x = some k := by
      rcases hx with q | q
      · exact ⟨_, .inl rfl, q⟩
      · exact ⟨_, .inr rfl, q⟩
    obtain ⟨k, hk2, q⟩ := hx'
    obtain ⟨k', a, b⟩ := relabel_inv (env := X.env) hk2 q
    rcases a with a | a
    · exact absurd a (g1 _ b).1
    · subst a
      exact closG_has _ _ (.inl b)
  · exact Nat.ne_of_lt (hfl b hb)
  · exact (hf b hb).2.2.2.2.1 x c (back _ _ e)
  · rcases (hf b hb).2.2.2.1 with z | z
    · exact I.ok.noex b o e z
    · exact absurd (Nat.lt_of_lt_of_le (Heap.lt_size e) (Nat.le_trans I.ok.bsz z)) (Nat.lt_irrefl _)
  · intro hb2
    obtain ⟨_, q1, q2, _⟩ := hf b hb
    rcases List.mem_cons.mp (I.stkSub b hb2) with z | z
    · exact q1 z
    · exact q2 z
  · have e1 : N[i]? = some x := e1
    unfold seen at e2
    rw [List.getElem?_map] at e2
    cases ej : js[i]? with
    | none => rw [ej] at e2; cases e2
    | some o =>
      rw [ej] at e2
      cases o with
      | none => cases e2
      | some j =>
        have e2 : (σ[j]?).join = some v := by simpa using e2
        have e4 : σ[j]? = some (some v) := by
          cases q : σ[j]? with
          | none => rw [q] at e2; cases e2
          | some w => rw [q] at e2; cases e2; rfl
        have hz : (N.zip js)[i]? = some (x, some j) := by
          rw [List.getElem?_zip_eq_some]; exact ⟨e1, ej⟩
        have q := List.all_eq_true.mp h3 _ (List.mem_of_getElem? hz)
        simp only [Bool.and_eq_true, beq_iff_eq] at q
        obtain ⟨⟨q1, q2⟩, q3⟩ := q
        obtain ⟨m, hn, hl⟩ := I.loc
        obtain ⟨u, r, l⟩ := hl j x v q1 e4 (.inr (.inl q3))
        refine ⟨u, r, ?_⟩
        rcases l with ⟨l, _⟩ | ⟨_, c, l2, l3⟩
        · rw [q3] at l; cases l
        · obtain ⟨c', hc'⟩ := closG_has (env := X.env) (x := x) scope.names [] (.inl (PySem.mem_of_lookup q2))
          have e5 := back _ _ hc'
          rw [l2] at e5
          cases e5
          refine .inr ⟨?_, c, hc', ?_⟩
          · exact relabel_free q2
          · obtain ⟨o, ho, hd⟩ := l3
            exact ⟨o, kp _ _ ho, hd⟩
  · obtain ⟨v, o, ho, hd⟩ := I.cell x c (back _ _ e)
    exact ⟨v, o, kp _ _ ho, hd⟩
  · show (seen js σ).length = N.length
    unfold seen
    rw [List.length_map, hlen]
theorem compLoop_any {prog : Program} {w : World} {A : Around} {R : Result → Shared → Prop} {s : Shared} {it acc : Value} {env : Env} (I : Nat → Shared → Prop)
    (turn : ∀ n s, I n s → wpAny (model prog w) A (pyNext it) (fun r s₁ => match r with
      | none => R (.ok .next) s₁
      | some v => wpAny (model prog w) A (letOwnedTupleGo tg it v) (fun _ s₁' => wpAny (model prog w) A (assign tg env v) (fun _ s₂ =>
          wpAny (model prog w) A (eval elt env) (fun x s₄ =>
              wpAny (model prog w) A (call (.builtin "list.append") [acc, x]) (fun _ s₅ => ∃ m, m < n ∧ I m s₅) (fun _ _ => False) s₄) (fun _ _ => False) s₂) (fun _ _ => False) s₁') (fun _ _ => False) s₁) (fun _ _ => False) s)
    (n : Nat) (h : I n s) :
    codeAny (model prog w) A (.compLoop (.ListComp elt [⟨tg, iter, [], 0⟩] scope pos) 0 it acc env) R s := by
  refine codeAny_loop rfl I (fun n s hI => ?_) n h
  show wpAny _ A ((compTurn (.ListComp elt [⟨tg, iter, [], 0⟩] scope pos) 0 it acc env).onRaise (fun x => do noteFrame x env; theTreesLotGoes x)) _ _ s
  refine wpAny_noted ?_
  rw [compTurn_list1]
  refine wpAny_bind (wpAny_standAt (wpAny_bind (wpAny_mono (turn n s hI) (fun r s₁ h₁ => ?_) fun _ _ h' => h'.elim)))
  cases r with
  | none => exact wpAny_pure h₁
  | some v =>
    refine wpAny_bind (wpAny_mono h₁ (fun _ s₁' h₁' => ?_) fun _ _ h' => h'.elim)
    refine wpAny_bind (wpAny_mono h₁' (fun _ s₂ h₂ => ?_) fun _ _ h' => h'.elim)
    exact wpAny_bind (wpAny_bind (wpAny_mono h₂ (fun x s₄ h₄ => wpAny_bind (wpAny_mono h₄ (fun _ s₅ h₅ => wpAny_pure (wpAny_pure ⟨rfl, h₅⟩)) fun _ _ h' => h'.elim)) fun _ _ h' => h'.elim))
def tComp (js : List (Option Nat)) (wi : TI) (g : TG) (te : TE) : TE := fun σ H Q => wi σ H fun J H1 => ∀ D, H1 D = none → ∃ W : Nat → Nat → St → Hp → Prop, (∃ m, W 0 m (seen js σ) (upd H1 D (.lst []))) ∧
  ∀ i m σ' H', W i m σ' H' → (J.stop i H' ∧ Q (.ref D) H') ∨ (J.go i H' ∧ ∀ x H2, J.yld i H' x H2 → g x σ' H2 fun σ3 H3 => te σ3 H3 fun v H4 => ∃ xs, H4 D = some (.lst xs) ∧ xs.length < sizeLine ∧ ∃ m', m' < m ∧ W (i + 1) m' σ3 (upd H4 D (.lst (xs ++ [v]))))
theorem comp_core {wi : TI} {g : TG} {te : TE} {use : Option (Value → Sem Unit)} {Qv : Value → Shared → Prop} (hc : X.calm = true) (hi : PI X tg iter wi) (hk : scope.kind = .function) (hck : compChk X scope N js = true)
    (hg : ∀ fp s H, PG (cxComp X scope N fp s H) tg g) (he : ∀ fp s H, PE (cxComp X scope N fp s H) elt te)
    (hs : ∀ x, foldedSetIterable iter X.env x = pure x)
    {pins : List (Addr × Obj)} {σ : St} {H : Hp} {s : Shared} {Q : VK} (I : Inv X pins σ H s) (h : tComp js wi g te σ H Q)
    (hend : ∀ (D C : Addr) (H' : Hp) (s' : Shared), Inv X pins σ H' s' → (∃ m, s'.heap.Ns C m) → FpOk X pins H' C → Q (.ref D) H' → compPost (model X.prog X.w) X.A X.xe use Qv (.ref D) C (.ok .next) s') :
    wpAny (model X.prog X.w) X.A (comprehension (.ListComp elt [⟨tg, iter, [], 0⟩] scope pos) scope X.env (firstIterPos [⟨tg, iter, [], 0⟩] pos) (newList []) false (eval iter X.env) use) Qv X.xe s := by
  have hck' := hck
  unfold compChk at hck'
  simp only [Bool.and_eq_true] at hck'
  obtain ⟨⟨h1, _⟩, _⟩ := hck'
  have g1 : ∀ p ∈ scope.names, p.2 ≠ .cell ∧ (p.2 = .free → X.env.kindOf p.1 = some .cell) ∧ (p.2 = .local → scope.names.lookup p.1 = some .local) := fun p hp => by
    have q := List.all_eq_true.mp h1 p hp
    simp only [Bool.and_eq_true, bne_iff_ne, ne_eq, Bool.or_eq_true, beq_iff_eq] at q
    exact ⟨q.1.1, fun e => q.1.2.resolve_left fun z => z e, fun e => q.2.resolve_left fun z => z e⟩
  have hcl : ∀ p ∈ scope.names, p.2 = .free → ∃ c, X.env.cells.lookup p.1 = some c := fun p hp e => I.ok.has _ (.inl ((g1 p hp).2.1 e))
  refine wpAny_comprehension_free (use := use) (g := ⟨tg, iter, [], 0⟩) (gs := []) rfl hs (closureFor_G hcl) hk (fun p hp e => (g1 p hp).2.2 e) ?_
  refine thn (hi pins s σ H _ I h) fun v s1 h1 => thn h1 fun itv s2 h2 => ?_
  obtain ⟨it, fp, tn, J, H2, e, I2, T, st2, f2, hW⟩ := h2
  subst e
  have hfl : ∀ b ∈ fp, b < s2.heap.objs.size := fun b hb => by
    obtain ⟨o, ho, _⟩ := T.obj _ _ st2 b hb
    exact Heap.lt_size ho
  have hD : H2 s2.heap.objs.size = none := I2.hok.fresh (Nat.le_refl _)
  obtain ⟨W, ⟨m0, w0⟩, turn⟩ := hW _ hD
  refine wpAny_newObj_type (wpAny_newFunctionEnv (fun x hx => (g1 x hx).1) (by intro y hy; simp at hy) (fun h₁ hns₁ hsb₁ => ?_) hk)
  dsimp only at hns₁ hsb₁ ⊢
  have I3 : Inv X pins σ (upd H2 s2.heap.objs.size (.lst [])) { s2 with heap := s2.heap.push { cls := .type "list", dict := none, data := .seq ([] : List Value).toArray }, toks := s2.toks } :=
    I2.laid (t' := s2.toks) (fun b u e => Heap.get?_push_of_some _ e) (Nat.le_refl _) ⟨Nat.zero_le _, [], 0, .nil, Heap.get?_push_size _ rfl⟩
  generalize hs3 : ({ s2 with heap := s2.heap.push { cls := .type "list", dict := none, data := .seq ([] : List Value).toArray }, toks := s2.toks } : Shared) = s3 at I3
  have hh3 : s3.heap = s2.heap.push { cls := .type "list", dict := none, data := .seq ([] : List Value).toArray } := by rw [← hs3]
  have e3 : ({ s2 with heap := h₁, toks := s2.toks + ([] : List (Str × Value)).length } : Shared) = { s3 with heap := h₁, toks := s3.toks } := by rw [← hs3]; rfl
  rw [e3]
  rw [← hh3] at hns₁ hsb₁ ⊢
  generalize hH3 : upd H2 s2.heap.objs.size (.lst []) = H3 at I3 w0
  generalize hDs : s2.heap.objs.size = D at *
  have f3 : ∀ b ∈ fp, FpOk X pins H3 b := fun b hb => by
    refine ⟨?_, (f2 b hb).2⟩
    rw [← hH3, upd_ne (Nat.ne_of_lt (hfl b hb))]
    exact (f2 b hb).1
  have szD : s3.heap.objs.size = D + 1 := by rw [hh3, Heap.size_push]; rw [← hDs]
  have hfl3 : ∀ b ∈ fp, b < s3.heap.objs.size := fun b hb => Nat.lt_of_lt_of_le (hfl b hb) (by rw [szD]; exact Nat.le_succ _)
  have kp : ∀ b o, s3.heap.get? b = some o → h₁.get? b = some o := fun b o e => by
    rw [hsb₁.2 b (Nat.ne_of_lt (Heap.lt_size e))]
    exact Heap.get?_push_of_some _ e
  have st3 : tn 0 h₁ := T.keep 0 _ _ st2 fun b hb o e => kp b o (by rw [hh3]; exact Heap.get?_push_of_some _ e)
  have J0 : Inv (cxComp X scope N fp s3 H3) [] (seen js σ) H3 { s3 with heap := h₁, toks := s3.toks } := comp_start I3 hk hck f3 hfl3 hns₁ kp
  have fpc : ∀ {H' : Hp}, (∀ b ∈ fp, H' b = none) → ∀ b ∈ fp, FpOk (cxComp X scope N fp s3 H3) [] H' b := fun hn b hb =>
    ⟨hn b hb, (J0.ok.exf b hb).1, J0.ok.exfs b hb, .inl hb, (J0.ok.exf b hb).2, fun p hp => by cases hp⟩
  have lp : codeAny (model X.prog X.w) X.A (.compLoop (.ListComp elt [⟨tg, iter, [], 0⟩] scope pos) 0 (.ref it) (.ref D) (compEnvC scope (closG X.env scope.names []) s3.heap.objs.size X.env))
      (compPost (model X.prog X.w) X.A X.xe use Qv (.ref D) s3.heap.objs.size) { s3 with heap := h₁, toks := s3.toks } := by
    refine compLoop_any (fun n s' => ∃ i σ' H', Inv (cxComp X scope N fp s3 H3) [] σ' H' s' ∧ tn i s'.heap ∧ (∀ b ∈ fp, H' b = none) ∧ W i n σ' H') ?_ m0 ⟨0, _, H3, J0, st3, fun b hb => (f3 b hb).1, w0⟩
    rintro n s4 ⟨i, σ4, H4, I4, st4, fr4, w4⟩
    rcases turn i n σ4 H4 w4 with ⟨stop, qn⟩ | ⟨go, step⟩
    · refine thn (T.done (cxComp X scope N fp s3 H3) rfl rfl rfl hc i [] s4 σ4 H4 (fun _ _ => False) I4 (fpc fr4) st4 stop) fun r s5 ⟨hr, I5⟩ => ?_
      subst hr
      have I6 : Inv X pins σ H4 s5 := I3.call' (ch := fp) I5.os I5.base I5.hok I5.bare fun b hb => ⟨(f3 b hb).2.2.2.1, (f3 b hb).2.1, (f3 b hb).2.2.2.2.1, (f3 b hb).2.2.2.2.2⟩
      have fC : FpOk X pins H4 s3.heap.objs.size := I3.fpOk (Nat.le_refl _) I5.free
      obtain ⟨m, hn, _⟩ := I5.loc
      exact hend D s3.heap.objs.size H4 s5 I6 ⟨m, hn⟩ fC qn
    · refine thn (T.item (cxComp X scope N fp s3 H3) rfl rfl rfl hc i [] s4 σ4 H4 (fun _ _ => False) I4 (fpc fr4) st4 go) fun r s5 ⟨u, hr, h5⟩ => ?_
      subst hr
      refine thn h5 fun _ s6 ⟨x, H6, I6, r6, y6, st6, fr6⟩ => ?_
      have I6' := I6.pinned (fpc fr6) (T.obj _ _ st6)
      refine thn (hg fp s3 H3 _ s6 σ4 H6 x u _ I6' r6 (step x H6 y6)) fun _ s7 ⟨σ7, H7, I7, q7⟩ => ?_
      refine thn (he fp s3 H3 _ s7 σ7 H7 _ I7 q7) fun u8 s8 ⟨v8, H8, I8, r8, xs, e8, l8, m', hm, w8⟩ => ?_
      refine thn (mt_append _ s8 σ7 H8 (.ref D) [v8] (.ref D) [u8] (fun _ H9 => H9 = upd H8 D (.lst (xs ++ [v8]))) I8 rfl (.cons r8 .nil) ⟨D, xs, v8, rfl, rfl, e8, l8, rfl⟩) fun _ s9 ⟨v9, H9, I9, _, e9⟩ => ?_
      subst e9
      refine ⟨m', hm, i + 1, σ7, _, I9.unpinned, T.keep _ _ _ st6 fun b hb o e => (I9.pin (b, o) (List.mem_append_right _ (List.mem_append_right _ (mem_pinsAt hb e)))).1, fun b hb => ?_, w8⟩
      obtain ⟨o, e, d⟩ := T.obj _ _ st6 b hb
      exact (I9.pin (b, o) (List.mem_append_right _ (List.mem_append_right _ (mem_pinsAt hb e)))).2.1
  exact codeAny_compStart_list lp (T.self _ 0 _ _ _ st3 lp)
theorem ps_setComp {wi : TI} {g : TG} {te : TE} (N : List Str) (js : List (Option Nat)) {i : Nat} {y : Str} {py spos : Pos} (hN : X.N.Nodup) (hi' : X.N[i]? = some y) (hx : Loc X.env.scope y) (hc : X.calm = true) (hi : PI X tg iter wi)
    (hg : ∀ fp s H, PG (cxComp X scope N fp s H) tg g) (he : ∀ fp s H, PE (cxComp X scope N fp s H) elt te) (hk : scope.kind = .function := by rfl) (hck : compChk X scope N js = true := by rfl)
    (hs : ∀ x, foldedSetIterable iter X.env x = pure x := by intro _; rfl)
    (hsw : swapsWith (.ListComp elt [⟨tg, iter, [], 0⟩] scope pos) (some (.Name y py)) spos.line X.env = pure true := by rfl)
    (hf : X.fn y = true ∨ X.env.scope.names.lookup y = some .local := by first | exact .inl rfl | exact .inr rfl | assumption) :
    PS X (.Assign [.Name y py] (.ListComp elt [⟨tg, iter, [], 0⟩] scope pos) spos) (tAsg (tComp js wi g te) (gName i)) := by
  intro pins s σ H D I h
  rw [exec_Assign_Name_used _ _ _ _ hsw]
  refine wpAny_bind (wpAny_standAt (wpAny_bind ?_))
  show wpAny _ X.A (do let _ ← comprehension (.ListComp elt [⟨tg, iter, [], 0⟩] scope pos) scope X.env _ (newList []) false (eval iter X.env) (some (assign (.Name y py) X.env))) _ _ s
  refine wpAny_bind (wpAny_mono (comp_core (use := some (assign (.Name y py) X.env)) (Qv := fun _ s' => SP X pins D .next s') hc hi hk hck hg he hs I h fun D' C H' s' I' hC fC q => ?_) (fun _ s' hq => wpAny_pure (wpAny_pure hq)) fun _ _ e => e)
  obtain ⟨m, hn⟩ := hC
  show wpAny _ X.A (assign (.Name y py) X.env (.ref D')) _ _ _
  refine wpAny_assign_Name (store_ok2 (v := .ref D') I' hN hi' hx rfl (fun s2 I2 hch => ?_) hf)
  obtain ⟨a, sb, ha⟩ := hch
  obtain ⟨f0, f1, f2, f3, f4, f5⟩ := fC
  have hCa : C ≠ a := by
    rcases ha with z | z
    · rw [z]; exact f1
    · exact (f4 _ _ z).symm
  refine ⟨m, hn.sameBut sb hCa, fun h' sb' => ?_⟩
  exact ⟨_, H', I2.turned (t' := s2.toks) (fun b o hb e => (sb'.2 b hb).trans e) f0 f1 f3 f4 f5, q⟩
end
end L2
set_option maxRecDepth 100000
namespace L2
open PySem PySem.Spec PyProof.Rows
section
variable {X : Cx}
def CDivL (_ j : Int) : Prop := 0 < j ∧ j < 2 ^ 250
theorem log2_small {j : Int} (h0 : 0 < j) (h : j < 2 ^ 250) : j.natAbs.log2 < 9000 := by
  have h1 : j.natAbs < 2 ^ 250 := by
    have e : (j.natAbs : Int) = j := Int.natAbs_of_nonneg (Int.le_of_lt h0)
    have : ((j.natAbs : Nat) : Int) < ((2 ^ 250 : Nat) : Int) := by rw [e]; exact h
    exact Int.ofNat_lt.mp this
  have h2 : j.natAbs ≠ 0 := by omega
  exact Nat.lt_of_lt_of_le ((Nat.log2_lt h2).mpr h1) (by decide)
theorem op_fdivL : OpR X (binaryOp .FloorDiv) (rI CDivL fun i j => .int (i / j)) := opI fun i j _ _ _ _ _ hc q => by
  refine floordiv_int (by have := hc.1; omega) ?_ (.inl (PyProof.noPylong_of_log2 (log2_small hc.1 hc.2)))
  rw [Int.fdiv_eq_ediv_of_nonneg _ (Int.le_of_lt hc.1)]
  exact q
def subTy (a b : String) : Bool := a == b || (a == "bool" && b == "int")
theorem kit_sub {K : PySem.W.Frag} {t n : String} (ht : t = "NoneType" ∨ t = "bool" ∨ t = "int" ∨ t = "str") (hn : n = "int" ∨ n = "bool" ∨ n = "str" ∨ n = "list" ∨ n = "tuple" ∨ n = "dict") : PySem.W.kitOne K (.type t) (.type n) = some (subTy t n) := by
  rcases ht with rfl | rfl | rfl | rfl <;> rcases hn with rfl | rfl | rfl | rfl | rfl | rfl <;> kernel_rfl
theorem pe_ty {x : Str} {n : String} {pos : Pos} (hg : Gl X x) (hm : X.mg x = none) (hv : bootBuiltins x = some (.type n)) (hn : x ≠ "__name__" := by decide) (hd : (x == ("__debug__" : Str)) = false := by decide) : PE X (.Name x pos) (tC (.ty n)) :=
  pe_bltn hg hm hv rfl hn hd
theorem boot_isinstance : bootBuiltins "isinstance" = some (.builtin "isinstance") := by decide +kernel
theorem boot_min : bootBuiltins "min" = some (.builtin "min") := by decide +kernel
theorem boot_int : bootBuiltins "int" = some (.type "int") := by decide +kernel
theorem boot_bool : bootBuiltins "bool" = some (.type "bool") := by decide +kernel
end
structure FunD (K : PySem.W.Frag) (x qual : Str) (st : Stmt) (dV : Value) (f : Addr) (fd : FuncData) : Prop where
  ex : ∃ (oc : Value) (od : Option Addr) (kV doc pm : Value) (an : Option Addr) (cdv ct : Value) (osl : Array (Option Value)),
    fd = PySem.W.fnOf x qual (defArgs st) (defBody st) (defScope st) dV kV doc pm an cdv ct ∧ K.lookup f = some ⟨oc, od, .func fd, osl⟩ ∧ PySem.W.codeIn K cdv qual = true
  kp : PySem.W.keepIn K (.ref f) = true
section
variable {P : Program} {w : World} {K : PySem.W.Frag} {mg : Str → Option Value} {base : Heap}
theorem FunD.ok {x qual : Str} {st : Stmt} {dV : Value} {f : Addr} {fd : FuncData} {N ps : List Str} {k : Nat} {sp : Sp} (F : FunD K x qual st dV f fd) (S : FnScope N ps (defScope st)) (len : ∀ vs H Q E, sp vs H Q E → vs.length = ps.length)
    (hbody : ∀ (cdv : Value) (A : Around) (outer : List Env) (s : Shared) (H : Hp) (vs : List V) (Q : VK) (E : XK), Room k (A.deeper (envOfC qual (defScope st) s.heap.objs.size f cdv)) → sp vs H Q E →
      ∃ t, PSs (cxOf CX0 P w K mg base N qual (defScope st) f cdv A outer s H E).nox (defBody st) t ∧ t { nx := fun _ H' => Q .non H', rt := Q } (start N vs) H) : FnOk P w K mg base CX0 (k + 1) f fd ps sp := by
  obtain ⟨oc, od, kV, doc, pm, an, cdv, ct, osl, rfl, lk, hcd⟩ := F.ex
  refine fn_of lk hcd S len fun A outer s H vs Q E hr hsp => ?_
  obtain ⟨t, h, q⟩ := hbody cdv A outer s H vs Q E hr hsp
  exact ⟨t, h.nox, q⟩
theorem FunD.binds {x qual : Str} {st : Stmt} {T f : Addr} {fd : FuncData} {ps : List Str} {ds dvs : List Value} {tc : Value} {td : Option Addr} {n : Nat} {tsl : Array (Option Value)} (m : Nat) (hm : m + ds.length = ps.length) (F : FunD K x qual st (.ref T) f fd) (ht : K.lookup T = some ⟨tc, td, .seq dvs.toArray n, tsl⟩)
    (h : ∀ (kV doc pm : Value) (an : Option Addr) (cdv ct : Value) (us : List Value), us.length = m → ∃ k, bindArgs (PySem.W.fnOf x qual (defArgs st) (defBody st) (defScope st) (.ref T) kV doc pm an cdv ct) ⟨us, []⟩ = seqItems? (.ref T) >>= k ∧ k (some dvs.toArray) = pure (ps.zip (us ++ ds))) : Binds K fd ps ds := by
  obtain ⟨oc, od, kV, doc, pm, an, cdv, ct, osl, rfl, lk, hcd⟩ := F.ex
  intro s us X hl
  rw [List.length_append] at hl
  obtain ⟨k, h1, h2⟩ := h kV doc pm an cdv ct us (by omega)
  exact PySem.W.binds_K X rfl ht rfl h1 h2
end
end L2
set_option maxRecDepth 100000
namespace L2
open PySem PySem.Spec PyProof.Rows
section
variable {X : Cx}
theorem le_line {n : Nat} (h : n ≤ 1000) : n ≤ sizeLine := Nat.le_trans h (by decide)
def CPowS (i j : Int) : Prop := 0 ≤ j ∧ j ≤ 1000000 ∧ -(2 ^ 64) < i ∧ i < 2 ^ 64
theorem op_powS : OpR X (binaryOp .Pow) (rI CPowS fun i j => .int (i ^ j.toNat)) := opI fun i j _ _ _ _ _ hc q => pow_int_small hc.1 hc.2.1 (by have := hc.2.2; omega) q
def tTupS (t : TA) : TE := fun σ H Q => t σ H fun xs H1 => xs.length ≤ 1000 ∧ ∀ p, H1 p = none → Q (.ref p) (upd H1 p (.tup xs))
def tLstS (t : TA) : TE := fun σ H Q => t σ H fun xs H1 => xs.length ≤ 1000 ∧ ∀ p, H1 p = none → Q (.ref p) (upd H1 p (.lst xs))
theorem pe_tupS {es : List Expr} {t : TA} {x1} {pos : Pos} (h : PA X es t) : PE X (.Tuple es x1 pos) (tTupS t) := by
  intro pins s σ H Q I hq
  refine wpAny_Tuple_spliced (thn (h pos pins s σ H _ I hq) fun us s1 ⟨xs, H1, I1, r, z, q⟩ => ⟨by rw [← r.length]; exact le_line z, ?_⟩)
  have hf : H1 s1.heap.objs.size = none := I1.hok.fresh (Nat.le_refl _)
  refine ⟨.ref s1.heap.objs.size, upd H1 s1.heap.objs.size (.tup xs), I1.laid (t' := s1.toks) (fun b u e => Heap.get?_push_of_some _ e) (Nat.le_refl _) ?_, rfl, q _ hf⟩
  exact ⟨le_line z, us, r, ⟨_, Heap.get?_push_size _ rfl, rfl, _, rfl⟩⟩
theorem pe_lstS {es : List Expr} {t : TA} {pos : Pos} (h : PA X es t) : PE X (.List es pos) (tLstS t) := by
  intro pins s σ H Q I hq
  refine wpAny_List_spliced (thn (h pos pins s σ H _ I hq) fun us s1 ⟨xs, H1, I1, r, z, q⟩ => ⟨by rw [← r.length]; exact le_line z, ?_⟩)
  have hf : H1 s1.heap.objs.size = none := I1.hok.fresh (Nat.le_refl _)
  refine ⟨.ref s1.heap.objs.size, upd H1 s1.heap.objs.size (.lst xs), I1.laid (t' := s1.toks) (fun b u e => Heap.get?_push_of_some _ e) (Nat.le_refl _) ?_, rfl, q _ hf⟩
  exact ⟨le_line z, us, 0, r, Heap.get?_push_size _ rfl⟩
end
theorem seq_cut {t u : TS} {D : Ends} {σ : St} {H : Hp} (M : St → Hp → Prop) (h1 : ∀ N : St → Hp → Prop, (∀ σ' H', M σ' H' → N σ' H') → t { D with nx := N } σ H) (h2 : ∀ σ' H', M σ' H' → u D σ' H') : tSeq t u D σ H := h1 (u D) h2
end L2
namespace L2
theorem seq_cut2 {t t2 u : TS} {D : Ends} {σ : St} {H : Hp} (M : St → Hp → Prop) (h1 : ∀ N : St → Hp → Prop, (∀ σ' H', M σ' H' → N σ' H') → tSeq t t2 { D with nx := N } σ H) (h2 : ∀ σ' H', M σ' H' → u D σ' H') : tSeq t (tSeq t2 u) D σ H := h1 (u D) h2
theorem seq_cut3 {t t2 t3 u : TS} {D : Ends} {σ : St} {H : Hp} (M : St → Hp → Prop) (h1 : ∀ N : St → Hp → Prop, (∀ σ' H', M σ' H' → N σ' H') → tSeq t (tSeq t2 t3) { D with nx := N } σ H) (h2 : ∀ σ' H', M σ' H' → u D σ' H') : tSeq t (tSeq t2 (tSeq t3 u)) D σ H := h1 (u D) h2
theorem seq_cut4 {t t2 t3 t4 u : TS} {D : Ends} {σ : St} {H : Hp} (M : St → Hp → Prop) (h1 : ∀ N : St → Hp → Prop, (∀ σ' H', M σ' H' → N σ' H') → tSeq t (tSeq t2 (tSeq t3 t4)) { D with nx := N } σ H) (h2 : ∀ σ' H', M σ' H' → u D σ' H') : tSeq t (tSeq t2 (tSeq t3 (tSeq t4 u))) D σ H := h1 (u D) h2
end L2
set_option maxRecDepth 100000
namespace L2
open PySem PySem.Spec PyProof.Rows
section
variable {X : Cx}
theorem ix_listK (K : PySem.W.Frag) (hK : X.K = K := by rfl) : IxR X (rIxL K) := by subst hK; exact ix_list
theorem ix_tupK (K : PySem.W.Frag) (hK : X.K = K := by rfl) : IxR X (rIxT K) := by subst hK; exact ix_tup
theorem call_lenK (K : PySem.W.Frag) (hK : X.K = K := by rfl) : CallR X (.builtin "len") (fun xs H Q => ∃ p ys, xs = [.ref p] ∧ (SqL K H p ys ∨ SqT K H p ys) ∧ Q (.int ys.length) H) := by subst hK; exact call_len_seq
theorem pi_listK {tg l : Expr} {tl : TE} (K : PySem.W.Frag) (hl : PE X l tl) (hK : X.K = K := by rfl) : PI X tg l (iList K tl) := by subst hK; exact pi_list hl
theorem pg_tupK {es : List Expr} {k : Nat} {t : TGs} {n : Nat} {pos : Pos} (K : PySem.W.Frag) (hc : X.calm = true) (h : PGs X es t) (hn : (assignEach es X.env).length = n := by rfl) (hst : (assignEach es X.env).findIdx? (·.1) = none := by rfl) (hK : X.K = K := by rfl) : PG X (.Tuple es k pos) (gTup K n t) := by subst hK; exact pg_tup hc h hn hst
end
def TSame (H H' : Hp) : Prop := ∀ b xs, H b = some (.tup xs) → H' b = some (.tup xs)
theorem Same.tup {H H' : Hp} (h : Same H H') : TSame H H' := fun b xs e => h b _ e
theorem TSame.trans {H H1 H2 : Hp} (a : TSame H H1) (b : TSame H1 H2) : TSame H H2 := fun c o h => b c o (a c o h)
theorem Same.upd {H H' : Hp} {p : Addr} {o : HO} (s : Same H H') (h : H p = none) : Same H (upd H' p o) := fun b u e => by
  rw [upd_ne (ne_of_none e h)]; exact s b u e
theorem Same.new {H : Hp} {p : Addr} {o : HO} (h : H p = none) : Same H (L2.upd H p o) := (Same.refl H).upd h
theorem Same.none {H H' : Hp} (s : Same H H') {p : Addr} (h : H' p = none) : H p = none := s.free h
end L2
set_option maxRecDepth 100000
namespace L2
open PySem PySem.Spec PyProof.Rows
end L2
set_option maxRecDepth 100000
namespace L2
open PySem PySem.Spec PyProof.Rows
end L2
namespace L2
open PySem PySem.Spec PyProof.Rows
end L2
set_option maxRecDepth 100000
namespace L2
open PySem PySem.Spec PyProof.Rows
section
variable {X : Cx}
end
end L2
set_option maxRecDepth 100000
namespace L2
open PySem PySem.Spec PyProof.Rows
def FlyAt (h : Heap) (ea T : Addr) (cls : Value) (dx : Option Addr) (fl : Value) : Prop :=
  ∃ oe vs oT ts a0, h.get? ea = some oe ∧ oe.cls = cls ∧ oe.dict = dx ∧ oe.data = .fields vs ∧ vs[0]? = some a0 ∧ vs[1]? = some (.ref T) ∧ T ≠ ea ∧ h.get? T = some oT ∧ oT.data = .fields ts ∧ ts[3]? = some fl
abbrev Fly (h : Heap) (ea T : Addr) (cls : Value) (dx : Option Addr) : Prop := FlyAt h ea T cls dx .none
structure Moved (h h' : Heap) (fs ch : List Addr) : Prop where
  keep : ∀ b o, h.get? b = some o → b ∉ ch → b ∉ fs → h'.get? b = some o
  slot : ∀ b o, h.get? b = some o → b ∉ ch → b ∈ fs → ∃ sl, h'.get? b = some { o with slots := sl }
theorem Moved.one {h h' : Heap} {fs : List Addr} {T : Addr} (k : ∀ b, b ≠ T → h'.get? b = h.get? b) : Moved h h' fs [T] :=
  ⟨fun b o e n _ => by rw [k b (by simpa using n)]; exact e, fun b o e n _ => ⟨o.slots, by rw [k b (by simpa using n)]; exact e⟩⟩
theorem Moved.trans {h h1 h2 : Heap} {fs ch ch' : List Addr} (a : Moved h h1 fs ch) (b : Moved h1 h2 fs ch') : Moved h h2 fs (ch ++ ch') :=
  ⟨fun c o e n m => b.keep c o (a.keep c o e (fun z => n (List.mem_append_left _ z)) m) (fun z => n (List.mem_append_right _ z)) m, fun c o e n m => by
    obtain ⟨sl, e1⟩ := a.slot c o e (fun z => n (List.mem_append_left _ z)) m
    obtain ⟨sl', e2⟩ := b.slot c _ e1 (fun z => n (List.mem_append_right _ z)) m
    exact ⟨sl', e2⟩⟩
section
variable {M : Model} {A : Around} {E : Value → Shared → Prop} {s : Shared} {env : Env} {outer : List Env} {base : Heap} {L ea T : Addr} {cls fl : Value} {dx : Option Addr} {Q : Unit → Shared → Prop}
end
theorem ObjOk.there {P : Program} {w : World} {H : Hp} {h : Heap} {a : Addr} {o : HO} (x : ObjOk P w H h a o) : ∃ u, h.get? a = some u := by
  cases o with
  | lst xs => obtain ⟨_, _, _, _, e⟩ := x; exact ⟨_, e⟩
  | tup xs => obtain ⟨_, _, _, o, e, _⟩ := x; exact ⟨_, e⟩
  | dK kvs => obtain ⟨_, _, _, _, o, _, _, e, _⟩ := x; exact ⟨_, e⟩
  | dT kvs => obtain ⟨_, _, _, _, o, _, _, e, _⟩ := x; exact ⟨_, e⟩
  | set S n => obtain ⟨o, _, _, _, e, _⟩ := x; exact ⟨_, e⟩
  | ins C dx fs => obtain ⟨_, _, _, e, _⟩ := x; exact ⟨_, e⟩
  | own y => exact x
  | xd fs => obtain ⟨_, ⟨_, _, _, e, _⟩, _⟩ := x; exact ⟨_, e⟩
  | rng lo hi => obtain ⟨_, _, _, e⟩ := x; exact ⟨_, e⟩
  | frz ob u => obtain ⟨e, _⟩ := x; exact ⟨_, e⟩
  | tbl ps => exact ⟨_, x⟩
  | met f y => exact ⟨_, x⟩
  | ext φ => exact x.2.1
theorem HOk.none_of {P : Program} {w : World} {H : Hp} {h : Heap} (k : HOk P w H h) {a : Addr} (e : h.get? a = none) : H a = none := by
  cases q : H a with
  | none => rfl
  | some o => obtain ⟨u, e2⟩ := (k a o q).there; rw [e] at e2; cases e2
section
variable {X : Cx} {pins : List (Addr × Obj)} {σ : St} {H : Hp} {s : Shared} {h' : Heap}
structure Apart (X : Cx) (pins : List (Addr × Obj)) (H : Hp) (b : Addr) : Prop where
  trk : H b = none
  old : X.s₀.heap.get? b = none
  loc : b ≠ X.env.locals
  cell : ∀ x c, X.env.cells.lookup x = some c → c ≠ b
  pin : ∀ p ∈ X.pn ++ pins, p.1 ≠ b
theorem Inv.apart (I : Inv X pins σ H s) (hx : X.ex = []) {b : Addr} (e : s.heap.get? b = none) : Apart X pins H b := by
  refine ⟨I.hok.none_of e, ?_, ?_, fun x c hc z => ?_, fun p hp z => ?_⟩
  · cases q : X.s₀.heap.get? b with
    | none => rfl
    | some o =>
      obtain ⟨o', e1⟩ := I.base.there b o q (by rw [hx]; simp)
      rw [e] at e1; cases e1
  · rintro rfl
    obtain ⟨m, ⟨o, _, _, ho, _⟩, _⟩ := I.loc
    rw [e] at ho; cases ho
  · obtain ⟨v, o, ho, _⟩ := I.cell x c hc
    rw [z, e] at ho; cases ho
  · have := (I.pin p hp).1
    rw [z, e] at this; cases this
end
section
variable {P : Program} {w : World} {K : PySem.W.Frag} {mg : Str → Option Value} {base : Heap} {N : List Str} {qual : Str} {scope : Scope} {f : Addr} {cd : Value} {A : Around} {outer : List Env} {s₀ : Shared} {H₀ : Hp} {E : XK}
end
end L2
set_option maxRecDepth 100000
namespace L2
open PySem PySem.Spec PyProof.Rows
abbrev veMro : List Value := [.type "ValueError", .type "Exception", .type "BaseException", .type "object"]
abbrev ExcC (K : PySem.W.Frag) (C : Addr) : Prop := PySem.W.excIn K C veMro "ValueError.__new__" = true
section
variable {P : Program} {w : World} {K : PySem.W.Frag} {mg : Str → Option Value} {base : Heap} {N : List Str} {qual : Str} {scope : Scope} {f : Addr} {cd : Value} {A : Around} {outer : List Env} {s₀ : Shared} {H₀ : Hp} {E : XK}
end
def XP (X : Cx) (pins : List (Addr × Obj)) (σ : St) (E : XK) (e : Value) (s' : Shared) : Prop := ∃ ea T cls dx H', e = .ref ea ∧ Inv X pins σ H' s' ∧ Apart X pins H' ea ∧ Apart X pins H' T ∧ Fly s'.heap ea T cls dx ∧ E cls dx H'
section
variable {X : Cx} {k : Nat} {f C : Addr} {fd : FuncData} {ps : List Str} {sp : Sp} {dvs : List V} {ds : List Value} {x m : Str} {p pos apos : Pos} {e o : Expr} {es : List Expr} {ta : TE} {t : TA}
end
section
variable {X : Cx} {pins : List (Addr × Obj)} {σ : St} {H : Hp} {s : Shared} {ea : Addr}
end
end L2
set_option maxRecDepth 100000
set_option maxHeartbeats 1000000
namespace L2
open PySem PySem.Spec PyProof.Rows
structure XCls (K : PySem.W.Frag) (C : Addr) : Prop where
  ga : PySem.W.findIn K (.ref C) "__getattribute__" = some (some (.builtin "BaseException.__getattribute__"))
  gt : PySem.W.findIn K (.ref C) "__getattr__" = some none
  ic : (PySem.W.clsIn K C).isSome = true
  kc : PySem.W.findIn K (.ref C) "__class__" = some (some (.builtin "object.__class__"))
  kg : PySem.W.specialIn K (.builtin "object.__class__") "__get__" = some (some (.builtin "getset_descriptor.__get__"))
  kt : PySem.W.takesIn K (.builtin "object.__class__") = some true
  mo : PySem.W.mroIn K C (.type "object") = some true
  mb : PySem.W.mroIn K C (.type "BaseException") = some true
section
variable {prog : Program} {w : World} {A : Around} {E : Value → Shared → Prop} {s : Shared} {K : PySem.W.Frag} {ea C : Addr} {oe : Obj} {od : Option Obj}
end
section
variable {X : Cx}
end
end L2
set_option maxRecDepth 100000
set_option maxHeartbeats 1000000
namespace L2
open PySem PySem.Spec PyProof.Rows
section
variable {X : Cx}
def eqVs : List V → List V → Bool
  | [], [] => true
  | x :: xs, y :: ys => eqV x y && eqVs xs ys
  | _, _ => false
theorem eqVs_all : ∀ {xs ys : List V}, xs.length = ys.length → ((List.range xs.length).all fun j => eqV (xs.getD j .non) (ys.getD j .non)) = eqVs xs ys
  | [], [], _ => rfl
  | x :: xs, y :: ys, h => by
    have h' : xs.length = ys.length := by simpa using h
    rw [List.length_cons, List.range_succ_eq_map, List.all_cons, eqVs, ← eqVs_all h', List.all_map]
    rfl
theorem call_isiT (K : PySem.W.Frag) (hK : X.K = K := by rfl) : CallR X (.builtin "isinstance") (fun xs H Q => ∃ x n t b, xs = [x, .ty n] ∧ TyOf K H x (.type t) ∧ PySem.W.kitOne K (.type t) (.type n) = some b ∧ Q (.bl b) H) := by
  subst hK
  intro pins s σ H xs us Q I r h
  obtain ⟨x, n, t, b, rfl, ht, hb, q⟩ := h
  obtain ⟨u, w', rfl, r1, r2⟩ := vals2 r
  cases r2
  exact isinst_ok I r1 ht hb fun tk => ⟨.bl b, H, I.tok tk, rfl, q⟩
end
end L2
set_option maxRecDepth 100000
set_option maxHeartbeats 4000000
namespace L2
open PySem PySem.NumText PyProof.Rows
abbrev cs (x : Str) : List Nat := x.cps.toList
end L2
set_option maxRecDepth 100000
set_option maxHeartbeats 1000000
namespace L2
open PySem PySem.Spec PyProof.Rows
structure XInit (K : PySem.W.Frag) (C CL f : Addr) : Prop where
  obj : ∃ nm qn N bs hdct sn sub ab col dd k0 k1 k2 k3 k5, K.lookup C = some (excClassObj nm qn C N bs (.ref CL :: veMro) hdct sn sub ab col dd k0 k1 k2 k3 k5 "ValueError.__new__")
  up : ExcC K CL
  top : ∃ nm qn N bs hdct sn sub ab col dd k0 k1 k2 k3 k5, K.lookup CL = some (excClassObj nm qn CL N bs veMro hdct sn sub ab col dd k0 k1 k2 k3 k5 "ValueError.__new__")
  init : PySem.W.findIn K (.ref C) "__init__" = some (some (.ref f))
  fn : PySem.W.typeIn K (.ref f) = some (.type "function")
  kp : PySem.W.keepIn K (.ref C) = true
  sa : PySem.W.findIn K (.ref C) "__setattr__" = some (some (.builtin "object.__setattr__"))
  hd : PySem.W.hasDictIn K C = true
  xc : XCls K C
section
variable {prog : Program} {w : World} {A : Around} {E : Value → Shared → Prop} {s : Shared} {K : PySem.W.Frag} {ea C CL f : Addr} {oe : Obj} {od : Option Obj}
end
section
variable {X : Cx} {pins : List (Addr × Obj)} {σ : St} {H : Hp} {s : Shared} {ea C CL f : Addr}
end
section
variable {P : Program} {w : World} {K : PySem.W.Frag} {mg : Str → Option Value} {base : Heap} {N : List Str} {qual : Str} {scope : Scope} {f : Addr} {cd : Value} {A : Around} {outer : List Env} {s₀ : Shared} {H₀ : Hp} {E : XK}
end
end L2
set_option maxRecDepth 100000
set_option maxHeartbeats 1000000
namespace L2
open PySem PySem.Spec PyProof.Rows
section
variable {X : Cx} {pins : List (Addr × Obj)} {σ : St} {H : Hp} {s : Shared} {ea : Addr}
end
structure UpInit (K : PySem.W.Frag) (CL : Addr) : Prop where
  sp : PySem.W.specialIn K (.ref CL) "__getattribute__" = some (some (.builtin "type.__getattribute__"))
  rd : PySem.W.readsIn K CL (.type "type") = true
  fc : PySem.W.findCls K (.ref CL) (.type "type") "__init__" = some (.val (.builtin "ValueError.__init__"))
section
variable {X : Cx} {o e value : Expr} {es : List Expr} {f x : Str} {pos pos' apos np : Pos} {ta tv : TE} {t : TA}
end
structure FnH (P : Program) (w : World) (K : PySem.W.Frag) (mg : Str → Option Value) (base : Heap) (k : Nat) (f : Addr) (fd : FuncData) (ps : List Str) (sp : Sp) : Prop where
  len : ∀ vs H Q E, sp vs H Q E → vs.length = ps.length
  run : ∀ (A : Around) (ea : Addr) (outer : List Env) (s : Shared) (H : Hp) (args : Args) (us : List Value) (vs : List V) (Q : VK), Room k A → Env0 P w K mg base A outer s H → BindsTo s fd args (ps.zip us) → Vals vs us → sp vs H Q E0 →
    codeAny (model P w) (A.mark (some (.ref ea))) (.call (.ref f) args) (fun r s' => match r with | .ok (.ret u) => CE outer P w H s Q u s' | _ => False) s
section
variable {P : Program} {w : World} {K : PySem.W.Frag} {mg : Str → Option Value} {base : Heap} {qual : Str} {f : Addr}
end
end L2
set_option maxRecDepth 100000
set_option maxHeartbeats 1000000
namespace L2
open PySem PySem.Spec PySem.NumText PyProof.Rows
section
variable {X : Cx}
def tDict0 : TE := fun _ H Q => ∀ p, H p = none → Q (.ref p) (upd H p (.dK []))
theorem pe_dict0 {pos : Pos} : PE X (.Dict [] [] pos) tDict0 := by
  intro pins s σ H Q I h
  have big : sysModules < s.heap.objs.size := Nat.lt_trans (show sysModules < mainGlobals by decide) (I.mod.glob.keeps I.bk).lt
  have ne : (s.heap.objs.size == sysModules) = false := beq_eq_false_iff_ne.mpr (Nat.ne_of_gt big)
  have ok : ObjOk X.prog X.w (upd H s.heap.objs.size (.dK [])) (s.heap.push { cls := .type "dict", data := .dict #[] }) s.heap.objs.size (.dK []) := ⟨Nat.zero_le _, ne, [], .nil, Heap.DictOf.new _⟩
  exact wpAny_Dict_empty ⟨.ref s.heap.objs.size, _, I.laid (t' := s.toks) (fun b u e => Heap.get?_push_of_some _ e) (Nat.le_refl _) ok, rfl, h _ (I.hok.none_of (Heap.get?_none_of_le (Nat.le_refl _)))⟩
end
end L2
set_option maxRecDepth 100000
set_option maxHeartbeats 1000000
namespace L2
open PySem PySem.Spec PySem.NumText PyProof.Rows
section
variable {X : Cx}
theorem boot_tuple : bootBuiltins "tuple" = some (.type "tuple") := by decide +kernel
theorem boot_list : bootBuiltins "list" = some (.type "list") := by decide +kernel
theorem op_notIn_seqK (K : PySem.W.Frag) (hK : X.K = K := by rfl) : OpR X (compareOp .NotIn) (rIn K true) := by subst hK; exact op_notIn_seq
end
structure ItemOk (e : Expr) (te : TE) : Prop where
  pe : ∀ X : Cx, PE X e te
  st : ∀ (es : List Expr) (env : Env), starEach (e :: es) env = (false, eval e env) :: starEach es env
theorem ItemOk.pa {X : Cx} {e : Expr} {te : TE} {es : List Expr} {t : TA} (i : ItemOk e te) (h : PA X es t) : PA X (e :: es) (tCons te t) := pa_cons (i.pe X) h (i.st es X.env)
end L2
namespace L2
open PySem PySem.Spec PySem.NumText PyProof.Rows
end L2
set_option maxRecDepth 100000
namespace L2
open PySem PySem.Spec PyProof.Rows
section
variable {κ : Type} [DecidableEq κ]
def valV (kvs : List (κ × V)) (k : κ) : Option V := (kvs.find? fun kv => decide (kv.1 = k)).map (·.2)
def putK (kvs : List (κ × V)) (k : κ) (v : V) : List (κ × V) :=
  if (kvs.any fun kv => decide (kv.1 = k)) = true then kvs.map (fun kv => if kv.1 = k then (kv.1, v) else kv) else kvs ++ [(k, v)]
def dropK (kvs : List (κ × V)) (k : κ) : List (κ × V) := kvs.filter fun kv => decide (kv.1 ≠ k)
theorem valV_pos {p : κ × V} {r : List (κ × V)} {k : κ} (e : p.1 = k) : valV (p :: r) k = some p.2 := by simp [valV, List.find?_cons, e]
theorem valV_neg {p : κ × V} {r : List (κ × V)} {k : κ} (e : ¬ p.1 = k) : valV (p :: r) k = valV r k := by simp [valV, List.find?_cons, e]
theorem valV_any (k : κ) : ∀ kvs : List (κ × V), (kvs.any fun kv => decide (kv.1 = k)) = (valV kvs k).isSome
  | [] => rfl
  | p :: r => by
    rw [List.any_cons]
    by_cases e : p.1 = k
    · simp only [valV_pos e, decide_eq_true e, Bool.true_or, Option.isSome_some]
    · rw [valV_neg e, decide_eq_false e, Bool.false_or]; exact valV_any k r
theorem length_putK (kvs : List (κ × V)) (k : κ) (v : V) : (putK kvs k v).length ≤ kvs.length + 1 := by
  unfold putK
  split
  · rw [List.length_map]; omega
  · rw [List.length_append, List.length_cons, List.length_nil]; omega
theorem RelO.isSome_eq {o : Option V} {u : Option Value} (r : RelO o u) : o.isSome = u.isSome := by
  cases o with
  | none => cases u with
    | none => rfl
    | some _ => exact (show False from r).elim
  | some _ => cases u with
    | none => exact (show False from r).elim
    | some _ => rfl
theorem RelO.getD {o : Option V} {u : Option Value} {d : V} {d' : Value} (r : RelO o u) (rd : RelV d d') : RelV (o.getD d) (u.getD d') := by
  cases o with
  | none => cases u with
    | none => exact rd
    | some _ => exact (show False from r).elim
  | some _ => cases u with
    | none => exact (show False from r).elim
    | some _ => exact r
theorem KV.val {kvs : List (κ × V)} {vs : List (κ × Value)} (r : KV kvs vs) (k : κ) : RelO (valV kvs k) (valueAt vs k) := by
  unfold KV at r
  induction r with
  | nil => exact True.intro
  | @cons p q ps qs h t ih =>
    obtain ⟨h1, h2⟩ := h
    by_cases e : p.1 = k
    · have e' : q.1 = k := h1.symm.trans e
      have b : valueAt (q :: qs) k = some q.2 := by simp [valueAt, List.find?_cons, e']
      rw [valV_pos e, b]; exact h2
    · have e' : ¬ q.1 = k := fun z => e (h1.trans z)
      have b : valueAt (q :: qs) k = valueAt qs k := by simp [valueAt, List.find?_cons, e']
      rw [valV_neg e, b]; exact ih
theorem KV.any {kvs : List (κ × V)} {vs : List (κ × Value)} (r : KV kvs vs) (k : κ) : (kvs.any fun kv => decide (kv.1 = k)) = vs.any fun kv => decide (kv.1 = k) := by
  unfold KV at r
  induction r with
  | nil => rfl
  | cons h t ih => rw [List.any_cons, List.any_cons, ih, h.1]
theorem KV.repl {kvs : List (κ × V)} {vs : List (κ × Value)} (r : KV kvs vs) (k : κ) {y : V} {u : Value} (ry : RelV y u) :
    KV (kvs.map fun kv => if kv.1 = k then (kv.1, y) else kv) (vs.map fun kv => if kv.1 = k then (kv.1, u) else kv) := by
  unfold KV at r ⊢
  induction r with
  | nil => exact .nil
  | @cons p q ps qs h t ih =>
    rw [List.map_cons, List.map_cons]
    refine .cons ?_ ih
    obtain ⟨h1, h2⟩ := h
    by_cases e : p.1 = k
    · rw [if_pos e, if_pos (h1.symm.trans e)]; exact ⟨h1, ry⟩
    · rw [if_neg e, if_neg (fun z => e (h1.trans z))]; exact ⟨h1, h2⟩
theorem KV.put {kvs : List (κ × V)} {vs : List (κ × Value)} (r : KV kvs vs) (k : κ) {y : V} {u : Value} (ry : RelV y u) : KV (putK kvs k y) (stored vs k u) := by
  unfold putK stored
  rw [r.any k]
  by_cases e : (vs.any fun kv => decide (kv.1 = k)) = true
  · rw [if_pos e, if_pos e]; exact r.repl k ry
  · rw [if_neg e, if_neg e]; exact Paired.snoc r ⟨rfl, ry⟩
theorem KV.drop {kvs : List (κ × V)} {vs : List (κ × Value)} (r : KV kvs vs) (k : κ) : KV (dropK kvs k) (without vs k) := by
  unfold KV at r ⊢
  unfold dropK without
  induction r with
  | nil => exact .nil
  | @cons p q ps qs h t ih =>
    obtain ⟨h1, h2⟩ := h
    rw [List.filter_cons, List.filter_cons]
    by_cases e : p.1 = k
    · have a : ¬ decide (p.1 ≠ k) = true := by simp [e]
      have b : ¬ decide (q.1 ≠ k) = true := by simp [h1.symm.trans e]
      rw [if_neg a, if_neg b]; exact ih
    · have e' : ¬ q.1 = k := fun z => e (h1.trans z)
      have a : decide (p.1 ≠ k) = true := by simp [e]
      have b : decide (q.1 ≠ k) = true := by simp [e']
      rw [if_pos a, if_pos b]; exact .cons ⟨h1, h2⟩ ih
theorem KV.length {kvs : List (κ × V)} {vs : List (κ × Value)} (r : KV kvs vs) : kvs.length = vs.length := Paired.length r
end
theorem kV_is {P : Program} {w : World} {k : Key} {u : Value} (r : RelV (kV k) u) : (mixKind P w).is k u = true := by
  cases k with
  | inl i => obtain ⟨t, e⟩ := (show ∃ t, u = Value.int i t from r); subst e; exact mixKind_int P w i t
  | inr x => obtain ⟨t, e⟩ := (show ∃ t, u = Value.str x t from r); subst e; exact mixKind_str P w x t
theorem items_are {P : Program} {w : World} : ∀ {ks : List Key} {us : List Value}, Vals (ks.map kV) us → ItemsAre (mixKind P w) ks us
  | [], _, r => by rw [List.map_nil] at r; cases r; exact .nil
  | k :: ks, _, r => by
    rw [List.map_cons] at r
    cases r with
    | cons h t => exact .cons (kV_is h) (items_are t)
abbrev KT (H : Hp) : List (List Key × V) → List (List Key × Addr × Value) → Prop := Paired fun p q => p.1 = q.1 ∧ H q.2.1 = some (.tup (p.1.map kV)) ∧ RelV p.2 q.2.2
theorem KT.val {H : Hp} {kvs : List (List Key × V)} {xs : List (List Key × Addr × Value)} (r : KT H kvs xs) (k : List Key) : RelO (valV kvs k) ((atKey xs k).map (·.2)) := by
  induction r with
  | nil => exact True.intro
  | @cons p q ps qs h t ih =>
    obtain ⟨h1, _, h2⟩ := h
    by_cases e : p.1 = k
    · have e' : q.1 = k := h1.symm.trans e
      have b : atKey (q :: qs) k = some q.2 := by simp [atKey, List.find?_cons, e']
      rw [valV_pos e, b]; exact h2
    · have e' : ¬ q.1 = k := fun z => e (h1.trans z)
      have b : atKey (q :: qs) k = atKey qs k := by simp [atKey, List.find?_cons, e']
      rw [valV_neg e, b]; exact ih
theorem KT.repl {H : Hp} {kvs : List (List Key × V)} {xs : List (List Key × Addr × Value)} (r : KT H kvs xs) (k : List Key) {y : V} {u : Value} (ry : RelV y u) :
    KT H (kvs.map fun kv => if kv.1 = k then (kv.1, y) else kv) (xs.map (putAt k u)) := by
  induction r with
  | nil => exact .nil
  | @cons p q ps qs h t ih =>
    rw [List.map_cons, List.map_cons]
    refine .cons ?_ ih
    obtain ⟨h1, h2, h3⟩ := h
    unfold putAt
    by_cases e : p.1 = k
    · rw [if_pos e, if_pos (h1.symm.trans e)]; exact ⟨h1, h2, ry⟩
    · rw [if_neg e, if_neg (fun z => e (h1.trans z))]; exact ⟨h1, h2, h3⟩
theorem KT.put {H : Hp} {kvs : List (List Key × V)} {xs : List (List Key × Addr × Value)} (r : KT H kvs xs) (k : List Key) {b : Addr} {y : V} {u : Value} (hb : H b = some (.tup (k.map kV))) (ry : RelV y u) :
    KT H (putK kvs k y) (storedH xs k b u) := by
  have e : (kvs.any fun kv => decide (kv.1 = k)) = (atKey xs k).isSome := by
    rw [valV_any, (r.val k).isSome_eq, Option.isSome_map]
  unfold putK storedH
  rw [e]
  by_cases q : (atKey xs k).isSome = true
  · rw [if_pos q, if_pos q]; exact r.repl k ry
  · rw [if_neg q, if_neg q]; exact Paired.snoc r ⟨rfl, hb, ry⟩
theorem KT.keeps {H H' : Hp} {kvs : List (List Key × V)} {xs : List (List Key × Addr × Value)} (r : KT H kvs xs) (ht : ∀ b ys, H b = some (.tup ys) → H' b = some (.tup ys)) : KT H' kvs xs :=
  Paired.mapP r fun _ _ z => ⟨z.1, ht _ _ z.2.1, z.2.2⟩
section
variable {P : Program} {w : World} {H : Hp} {h : Heap} {a : Addr}
theorem rd_of {u : HO} (ok : HOk P w H h) (e : Rd H a u) : ObjOk P w H h a u := e.ok ok
theorem dk_rd {kvs : List (Key × V)} (ok : HOk P w H h) (e : Rd H a (.dK kvs)) : kvs.length ≤ sizeLine ∧ (a == sysModules) = false ∧ ∃ vs, KV kvs vs ∧ h.DictOf (mixKind P w) a vs :=
  show ObjOk P w H h a (.dK kvs) from rd_of ok e
theorem dk_of {kvs : List (Key × V)} (ok : HOk P w H h) (e : H a = some (.dK kvs)) : kvs.length ≤ sizeLine ∧ (a == sysModules) = false ∧ ∃ vs, KV kvs vs ∧ h.DictOf (mixKind P w) a vs := dk_rd ok (.inl e)
theorem key_of {ks : List Key} (ok : HOk P w H h) (e : H a = some (.tup (ks.map kV))) : (tupleKind (mixKind P w)).is h ks a := by
  obtain ⟨_, its, r, o, h1, h2, n, h3⟩ := (show ObjOk P w H h a (.tup (ks.map kV)) from ok a _ e)
  exact ⟨o, its.toArray, n, h1, h2, h3, by simpa using items_are r⟩
theorem dt_rd {kvs : List (List Key × V)} (ok : HOk P w H h) (e : Rd H a (.dT kvs)) : kvs.length ≤ sizeLine ∧ (a == sysModules) = false ∧
    ∃ xs, KT H kvs xs ∧ h.DictOfH (tupleKind (mixKind P w)) a xs := by
  obtain ⟨z, y, xs, r, o, es, ep, h1, h2, h3, h4, h5⟩ := (show ObjOk P w H h a (.dT kvs) from rd_of ok e)
  refine ⟨z, y, xs, r, o, es, ep, h1, h2, h3, h4, fun x hx => ?_, h5⟩
  have all : ∀ {l : List (List Key × V)} {m : List (List Key × Addr × Value)}, KT H l m → ∀ x ∈ m, (tupleKind (mixKind P w)).is h x.1 x.2.1 := by
    intro l m q
    induction q with
    | nil => intro x hx; exact nomatch hx
    | @cons p q ps qs hq t ih =>
      intro x hx
      rcases List.mem_cons.mp hx with e | hx
      · subst e
        exact key_of ok (by rw [← hq.1]; exact hq.2.1)
      · exact ih x hx
  exact all r x hx
theorem dt_of {kvs : List (List Key × V)} (ok : HOk P w H h) (e : H a = some (.dT kvs)) : kvs.length ≤ sizeLine ∧ (a == sysModules) = false ∧
    ∃ xs, KT H kvs xs ∧ h.DictOfH (tupleKind (mixKind P w)) a xs := dt_rd ok (.inl e)
end
def DGet (H : Hp) (a : Addr) (y : V) (r : Option V) : Prop :=
  (∃ kvs k, Rd H a (.dK kvs) ∧ y = kV k ∧ r = valV kvs k) ∨ ∃ kvs k b, Rd H a (.dT kvs) ∧ y = .ref b ∧ H b = some (.tup (k.map kV)) ∧ r = valV kvs k
def DPut (H : Hp) (a : Addr) (y v : V) (H' : Hp) : Prop :=
  (∃ kvs k, H a = some (.dK kvs) ∧ y = kV k ∧ kvs.length < sizeLine ∧ H' = upd H a (.dK (putK kvs k v))) ∨
  ∃ kvs k b, H a = some (.dT kvs) ∧ y = .ref b ∧ H b = some (.tup (k.map kV)) ∧ kvs.length < sizeLine ∧ H' = upd H a (.dT (putK kvs k v))
theorem DGet.k {H : Hp} {a : Addr} {kvs : List (Key × V)} {k : Key} (e : H a = some (.dK kvs)) : DGet H a (kV k) (valV kvs k) := .inl ⟨kvs, k, .inl e, rfl, rfl⟩
theorem DGet.t {H : Hp} {a b : Addr} {kvs : List (List Key × V)} {k : List Key} (e : H a = some (.dT kvs)) (eb : H b = some (.tup (k.map kV))) : DGet H a (.ref b) (valV kvs k) := .inr ⟨kvs, k, b, .inl e, rfl, eb, rfl⟩
theorem DPut.k {H : Hp} {a : Addr} {kvs : List (Key × V)} {k : Key} {v : V} (e : H a = some (.dK kvs)) (hl : kvs.length < sizeLine) : DPut H a (kV k) v (upd H a (.dK (putK kvs k v))) := .inl ⟨kvs, k, e, rfl, hl, rfl⟩
theorem DPut.t {H : Hp} {a b : Addr} {kvs : List (List Key × V)} {k : List Key} {v : V} (e : H a = some (.dT kvs)) (eb : H b = some (.tup (k.map kV))) (hl : kvs.length < sizeLine) :
    DPut H a (.ref b) v (upd H a (.dT (putK kvs k v))) := .inr ⟨kvs, k, b, e, rfl, eb, hl, rfl⟩
section
variable {X : Cx} {pins : List (Addr × Obj)} {σ : St} {H : Hp} {s : Shared} {a : Addr} {y v : V} {u r : Value} {o : Option V} {A : Around} {E : Value → Shared → Prop}
theorem Inv.big (I : Inv X pins σ H s) : sysModules < s.heap.objs.size := by
  have h : mainGlobals < s.heap.objs.size := (I.mod.glob.keeps I.bk).lt
  exact Nat.lt_trans (by decide) h
theorem d_write {h' : Heap} {t' : Nat} {ob : HO} (I : Inv X pins σ H s) (mu : Mut (H a)) (hs : Heap.SameBut a s.heap h') (he : ∃ q, h'.get? a = some q) (new : ObjOk X.prog X.w (upd H a ob) h' a ob) :
    Inv X pins σ (upd H a ob) { s with heap := h', toks := t' } :=
  I.write (x := a) (e := a) mu (.inl rfl) (fun b q hb z => (hs.2 b hb).trans z) he new
theorem dk_new {P : Program} {w : World} {H' : Hp} {h' : Heap} {kvs : List (Key × V)} {vs : List (Key × Value)} (z : kvs.length ≤ sizeLine) (hd : (a == sysModules) = false) (rel : KV kvs vs) (dd : h'.DictOf (mixKind P w) a vs) :
    ObjOk P w H' h' a (.dK kvs) := ⟨z, hd, vs, rel, dd⟩
theorem d_setItem {H' : Hp} {Q : Unit → Shared → Prop} (hu : A.units + 1 < cLine) (I : Inv X pins σ H s) (g : DPut H a y v H') (ry : RelV y u) (rv : RelV v r) (h : ∀ s', Inv X pins σ H' s' → Q () s') :
    wpAny (model X.prog X.w) A (setItem (.ref a) u r) Q E s := by
  rcases g with ⟨kvs, k, e, ey, l, eH⟩ | ⟨kvs, k, b, e, ey, eb, l, eH⟩
  · subst ey eH
    obtain ⟨z, hd, vs, rel, dd⟩ := dk_of I.hok e
    have hz : vs.length ≤ sizeLine := by rw [← rel.length]; exact z
    have hl : (putK kvs k v).length ≤ sizeLine := by have := length_putK kvs k v; omega
    refine wpAny_setItem_pairs (hsz := hz) (kV_is ry) dd fun h' dd' hs => h _ ?_
    have he : ∃ q, h'.get? a = some q := let ⟨q, _, _, hq, _⟩ := dd'; ⟨q, hq⟩
    exact d_write I (by rw [e]; exact True.intro) hs he (dk_new hl hd (rel.put k rv) dd')
  · subst ey eH
    cases (show u = Value.ref b from ry)
    obtain ⟨z, hd, xs, rel, dd⟩ := dt_of I.hok e
    have hz : xs.length ≤ sizeLine := by rw [← Paired.length rel]; exact z
    have hl : (putK kvs k v).length ≤ sizeLine := by have := length_putK kvs k v; omega
    refine wpAny_setItem_heap (hsz := hz) (tupleKind_room_in1 hu) (key_of I.hok eb) dd fun h' dd' hs => h _ ?_
    obtain ⟨q, es, ep, hq, h2, h3, h4, _, h5⟩ := dd'
    refine d_write I (by rw [e]; exact True.intro) hs ⟨q, hq⟩ ⟨hl, hd, _, (rel.put k eb rv).keeps fun c ys ec => ?_, q, es, ep, hq, h2, h3, h4, h5⟩
    rw [upd_ne (ne_of ec e (fun z => nomatch z))]
    exact ec
end
section
variable {X : Cx} {pins : List (Addr × Obj)} {σ : St} {H : Hp} {s : Shared} {a : Addr} {kvs : List (Key × V)} {k : Key} {u : Value} {A : Around} {E : Value → Shared → Prop}
theorem d_len {Q : Value → Shared → Prop} (I : Inv X pins σ H s) (e : Rd H a (.dK kvs)) (h : ∀ t s', Inv X pins σ H s' → Q (.int kvs.length t) s') : wpAny (model X.prog X.w) A (call (.builtin "len") [.ref a]) Q E s := by
  obtain ⟨z, hd, vs, rel, dd⟩ := dk_rd I.hok e
  refine call_len_dict hd dd (by rw [← rel.length]; rw [sizeLine_eq] at z; omega) ?_
  rw [← rel.length]
  exact h _ _ (I.tok _)
end
def sDPut (td ty tv : TE) : TS := fun D σ H => tv σ H fun v H1 => td σ H1 fun x H2 => ty σ H2 fun y H3 => ∃ a H4, x = .ref a ∧ DPut H3 a y v H4 ∧ D.nx σ H4
section
variable {X : Cx} {o i e value : Expr} {pos pos' tpos : Pos} {td ty tv : TE}
theorem ps_dput (hu : X.A.units + 1 < cLine) (ho : PE X o td) (hi : PE X i ty) (hv : PE X value tv) (hs : swapsWith value (some (.Subscript o i pos')) pos.line X.env = pure false) :
    PS X (.Assign [.Subscript o i pos'] value pos) (sDPut td ty tv) := by
  intro pins s σ H D I h
  refine wpAny_Assign_Subscript (thn (hv pins s σ H _ I h) fun r s1 ⟨v, H1, I1, rv, q1⟩ => thn (ho pins s1 σ H1 _ I1 q1) fun u s2 ⟨x, H2, I2, rx, q2⟩ => thn (hi pins s2 σ H2 _ I2 q2) fun iv s3 ⟨y, H3, I3, ry, a, H4, ex, g, q3⟩ => ?_) hs
  subst ex
  obtain rfl : u = Value.ref a := rx
  exact d_setItem hu I3 g ry rv fun s4 I4 => ⟨σ, H4, I4, q3⟩
end
section
variable {X : Cx} {pos : Pos}
end
structure M1 (X : Cx) (o : Expr) (m : Str) (apos : Pos) (e : Expr) (cpos : Pos) : Prop where
  base : attributeBase o m X.env (eval o X.env) = eval o X.env
  few : ((backTo cpos (starEach [e] X.env)).all (fun x => !x.1) && (backToKw cpos (keywordEach [] X.env)).all (fun x => x.1.isSome)
    && decide (([e] : List Expr).length + ([] : List Keyword).length + (if ([] : List Keyword).isEmpty then 0 else 1) < 30)) = true
  line : (apos.endLine == cpos.line) = true
  trees : backTo cpos (starEach [e] X.env) = [(false, eval e X.env)]
structure M2 (X : Cx) (o : Expr) (m : Str) (apos : Pos) (e f : Expr) (cpos : Pos) : Prop where
  base : attributeBase o m X.env (eval o X.env) = eval o X.env
  few : ((backTo cpos (starEach [e, f] X.env)).all (fun x => !x.1) && (backToKw cpos (keywordEach [] X.env)).all (fun x => x.1.isSome)
    && decide (([e, f] : List Expr).length + ([] : List Keyword).length + (if ([] : List Keyword).isEmpty then 0 else 1) < 30)) = true
  line : (apos.endLine == cpos.line) = true
  trees : backTo cpos (starEach [e, f] X.env) = [(false, eval e X.env), (false, eval f X.env)]
section
variable {X : Cx} {pins : List (Addr × Obj)} {σ : St} {H : Hp} {s : Shared} {a : Addr} {y d : V} {u r : Value} {o : Option V} {A : Around} {E : Value → Shared → Prop}
end
section
variable {X : Cx} {o e f : Expr} {apos cpos : Pos} {td ty tx : TE}
end
section
variable {X : Cx} {pins : List (Addr × Obj)} {σ : St} {H : Hp} {s : Shared} {a : Addr} {kvs : List (Key × V)} {A : Around} {E : Value → Shared → Prop}
end
section
variable {X : Cx} {pins : List (Addr × Obj)} {σ : St} {H : Hp} {s : Shared} {a : Addr} {y : V} {u : Value} {A : Around} {E : Value → Shared → Prop}
end
end L2
set_option maxRecDepth 100000
set_option maxHeartbeats 1000000
namespace LS
open PySem
def Lo (l : List Nat) (j r : Nat) : Prop := r ≤ l.length ∧ (∀ (k v : Nat), k < r → l[k]? = some v → v < j) ∧ ∀ (k v : Nat), r ≤ k → l[k]? = some v → j ≤ v
theorem below_go {xs : Array Nat} {j : Nat} (hp : xs.toList.Pairwise (· < ·)) : ∀ (fuel lo hi : Nat), lo ≤ hi → hi ≤ xs.size → hi - lo ≤ fuel →
    (∀ (k v : Nat), k < lo → xs.toList[k]? = some v → v < j) → (∀ (k v : Nat), hi ≤ k → xs.toList[k]? = some v → j ≤ v) → Lo xs.toList j (SetTable.below.go xs j fuel lo hi) := by
  intro fuel
  induction fuel with
  | zero =>
    intro lo hi h1 h2 h3 h4 h5
    unfold SetTable.below.go
    exact ⟨by simp; omega, h4, fun k v hk => h5 k v (by omega)⟩
  | succ fuel ih =>
    intro lo hi h1 h2 h3 h4 h5
    unfold SetTable.below.go
    by_cases c : lo < hi
    · rw [if_pos c]
      have hm : (lo + hi) / 2 < xs.size := by omega
      have eg : xs.toList[(lo + hi) / 2]? = some (xs.getD ((lo + hi) / 2) j) := by
        rw [Array.getD_eq_getD_getElem?, Array.getElem?_eq_getElem hm]
        simp [hm]
      have mono : ∀ (a b u v : Nat), a < b → xs.toList[a]? = some u → xs.toList[b]? = some v → u < v := fun a b u v hab ha hb => by
        obtain ⟨la, ea⟩ := List.getElem?_eq_some_iff.mp ha
        obtain ⟨lb, eb⟩ := List.getElem?_eq_some_iff.mp hb
        have := List.pairwise_iff_getElem.mp hp a b la lb hab
        rw [ea, eb] at this
        exact this
      dsimp only
      by_cases d : xs.getD ((lo + hi) / 2) j < j
      · rw [if_pos d]
        refine ih _ _ (by omega) h2 (by omega) (fun k v hk e => ?_) h5
        by_cases kk : k = (lo + hi) / 2
        · subst kk; rw [eg] at e; cases e; exact d
        · exact Nat.lt_trans (mono _ _ _ _ (by omega) e eg) d
      · rw [if_neg d]
        refine ih _ _ (by omega) (by omega) (by omega) h4 (fun k v hk e => ?_)
        by_cases kk : k = (lo + hi) / 2
        · subst kk; rw [eg] at e; cases e; omega
        · have := mono _ _ _ _ (show (lo + hi) / 2 < k by omega) eg e
          omega
    · rw [if_neg c]
      exact ⟨by simp; omega, h4, fun k v hk => h5 k v (by omega)⟩
theorem below_lo {xs : Array Nat} (hp : xs.toList.Pairwise (· < ·)) (j : Nat) : Lo xs.toList j (SetTable.below xs j) := by
  unfold SetTable.below
  refine below_go hp _ _ _ (Nat.zero_le _) (Nat.le_refl _) (by omega) (fun k v hk => absurd hk (by omega)) (fun k v hk e => ?_)
  have := (List.getElem?_eq_some_iff.mp e).1
  simp at this
  omega
theorem below_at {xs : Array Nat} (hp : xs.toList.Pairwise (· < ·)) {i j : Nat} (h : xs.toList[i]? = some j) : SetTable.below xs j = i := by
  obtain ⟨h1, h2, h3⟩ := below_lo hp j
  rcases Nat.lt_trichotomy (SetTable.below xs j) i with c | c | c
  · -- the one at r is at least j, the one at i above it
    obtain ⟨li, ei⟩ := List.getElem?_eq_some_iff.mp h
    have lr : SetTable.below xs j < xs.toList.length := by omega
    have := h3 _ _ (Nat.le_refl _) (List.getElem?_eq_getElem lr)
    have q := List.pairwise_iff_getElem.mp hp _ _ lr li c
    omega
  · exact c
  · exact absurd (h2 _ _ c h) (by omega)
theorem slot_live {t : SetTable} (hp : t.place.toList.Pairwise (· < ·)) {i j : Nat} (h : t.place.toList[i]? = some j) : t.slot j = .live i := by
  unfold SetTable.slot
  dsimp only
  rw [below_at hp h]
  have : t.place[i]? = some j := by rw [← h]; simp
  rw [this]
  simp
theorem slot_none {t : SetTable} (hd : t.dummies = #[]) {j : Nat} (h : j ∉ t.place.toList) : t.slot j = .empty := by
  unfold SetTable.slot
  dsimp only
  have a : (t.place[SetTable.below t.place j]? == some j) = false := by
    rw [Bool.eq_false_iff]
    intro e
    have e := eq_of_beq e
    exact h (List.mem_of_getElem? (i := SetTable.below t.place j) (by rw [← e]; simp))
  rw [a, hd]
  simp [SetTable.has]
theorem insertAt_list {α : Type} (xs : Array α) (p : Nat) (x : α) (hp : p ≤ xs.size) : (SetTable.insertAt xs p x).toList = xs.toList.take p ++ x :: xs.toList.drop p := by
  unfold SetTable.insertAt
  simp [Array.toList_extract]; exact List.take_of_length_le (by simp)
theorem pairwise_ins {l : List Nat} {j r : Nat} (hp : l.Pairwise (· < ·)) (lo : Lo l j r) (hj : j ∉ l) : (l.take r ++ j :: l.drop r).Pairwise (· < ·) := by
  obtain ⟨h1, h2, h3⟩ := lo
  have a : ∀ x ∈ l.take r, x < j := fun x hx => by
    obtain ⟨k, hk⟩ := List.getElem?_of_mem hx
    rw [List.getElem?_take] at hk
    split at hk
    · exact h2 k x (by assumption) hk
    · cases hk
  have b : ∀ x ∈ l.drop r, j < x := fun x hx => by
    obtain ⟨k, hk⟩ := List.getElem?_of_mem hx
    rw [List.getElem?_drop] at hk
    have := h3 _ x (by omega) hk
    rcases Nat.lt_or_eq_of_le this with z | z
    · exact z
    · exact absurd (by rw [z]; exact List.mem_of_getElem? hk) hj
  rw [List.pairwise_append]
  refine ⟨hp.sublist (List.take_sublist _ _), List.pairwise_cons.mpr ⟨fun x hx => b x hx, hp.sublist (List.drop_sublist _ _)⟩, fun x hx y hy => ?_⟩; rcases List.mem_cons.mp hy with rfl | hy
  · exact a x hx
  · exact Nat.lt_trans (a x hx) (b y hy)
def adv (mask : Nat) (p : SetTable.Probe) : SetTable.Probe := SetTable.advance { SetTable.fresh 0 0 false with mask := mask } p
def advs (mask : Nat) (p : SetTable.Probe) : Nat → SetTable.Probe
  | 0 => p
  | n + 1 => adv mask (advs mask p n)
theorem advs_add (mask : Nat) (p : SetTable.Probe) (n : Nat) : ∀ m, advs mask (advs mask p n) m = advs mask p (n + m)
  | 0 => rfl
  | m + 1 => by rw [advs, advs_add mask p n m]; rfl
theorem advs_run (mask : Nat) (p : SetTable.Probe) : ∀ n, n ≤ p.more → advs mask p n = { p with j := p.j + n, more := p.more - n }
  | 0, _ => rfl
  | n + 1, h => by
    rw [advs, advs_run mask p n (by omega)]
    unfold adv SetTable.advance; dsimp only
    rw [if_pos (show p.more - n > 0 by omega)]
    congr 1
def at0 (mask i pt : Nat) (d : Option Nat) : SetTable.Probe := { j := i, more := SetTable.runEnd mask i - i, i := i, perturb := pt, dummy := d }
theorem run9 (mask i : Nat) : SetTable.runEnd mask i - i ≤ 9 := by
  unfold SetTable.runEnd
  split <;> omega
def leaps (mask i pt : Nat) : Nat → Nat × Nat
  | 0 => (i, pt)
  | n + 1 => SetTable.leap mask (leaps mask i pt n).1 (leaps mask i pt n).2
theorem advs_leap (mask : Nat) (p : SetTable.Probe) : advs mask p (p.more + 1) = at0 mask (SetTable.leap mask p.i p.perturb).1 (SetTable.leap mask p.i p.perturb).2 p.dummy := by
  rw [advs, advs_run mask p p.more (Nat.le_refl _)]
  unfold adv SetTable.advance; dsimp only
  rw [if_neg (by simp)]
  rfl
theorem advs_leaps (mask : Nat) (p : SetTable.Probe) (hm : p.more ≤ 9) : ∀ n, ∃ k, k ≤ 10 * (n + 1) ∧ advs mask p k = at0 mask (leaps mask p.i p.perturb (n + 1)).1 (leaps mask p.i p.perturb (n + 1)).2 p.dummy
  | 0 => ⟨p.more + 1, by omega, advs_leap mask p⟩
  | n + 1 => by
    obtain ⟨k, hk, e⟩ := advs_leaps mask p hm n
    generalize hl : leaps mask p.i p.perturb (n + 1) = l at e
    have := advs_leap mask (at0 mask l.1 l.2 p.dummy)
    refine ⟨k + ((at0 mask l.1 l.2 p.dummy).more + 1), ?_, ?_⟩
    · have := run9 mask l.1
      show k + (SetTable.runEnd mask l.1 - l.1 + 1) ≤ _
      omega
    · rw [← advs_add, e, this, leaps, hl]
      rfl
theorem leaps_pt (mask i pt : Nat) : ∀ n, (leaps mask i pt n).2 = pt / 32 ^ n
  | 0 => by simp [leaps]
  | n + 1 => by
    rw [leaps]
    show (leaps mask i pt n).2 / 32 = _
    rw [leaps_pt mask i pt n, Nat.div_div_eq_div_mul, Nat.pow_succ]
theorem leaps_zero (mask i pt : Nat) (h : pt < 2 ^ 64) {n : Nat} (hn : 13 ≤ n) : (leaps mask i pt n).2 = 0 := by
  rw [leaps_pt]
  refine Nat.div_eq_of_lt (Nat.lt_of_lt_of_le h ?_)
  exact Nat.le_trans (show 2 ^ 64 ≤ 32 ^ 13 by decide) (Nat.pow_le_pow_right (by decide) hn)
def cyc (N i : Nat) : Nat → Nat
  | 0 => i
  | n + 1 => (cyc N i n * 5 + 1) % N
theorem cyc_add (N i n : Nat) : ∀ m, cyc N (cyc N i n) m = cyc N i (n + m)
  | 0 => rfl
  | m + 1 => by rw [cyc, cyc_add N i n m]; rfl
theorem leaps_cyc (mask i pt : Nat) (h : pt < 2 ^ 64) : ∀ n, (leaps mask i pt (13 + n)).1 = cyc (mask + 1) (leaps mask i pt 13).1 n
  | 0 => rfl
  | n + 1 => by
    rw [show 13 + (n + 1) = (13 + n) + 1 by omega, leaps, cyc, ← leaps_cyc mask i pt h n]
    show (_ * 5 + 1 + (leaps mask i pt (13 + n)).2 / 32) % (mask + 1) = _
    rw [leaps_zero mask i pt h (by omega)]
def OkMask (m : Nat) : Prop := m = 7 ∨ m = 15 ∨ m = 31 ∨ m = 63 ∨ m = 127
def orbit (N : Nat) : Nat → Nat → List Nat
  | 0, _ => []
  | n + 1, i => i :: orbit N n ((i * 5 + 1) % N)
def orbChk (N : Nat) : Bool := ((List.range N).all fun j => (orbit N N 0).contains j) && (cyc N 0 N == 0)
theorem orb_all : orbChk 8 = true ∧ orbChk 16 = true ∧ orbChk 32 = true ∧ orbChk 64 = true ∧ orbChk 128 = true := by decide +kernel
theorem orbit_get (N : Nat) : ∀ (n i k v : Nat), (orbit N n i)[k]? = some v → k < n ∧ v = cyc N i k
  | 0, i, k, v, h => by simp [orbit] at h
  | n + 1, i, 0, v, h => by simp [orbit] at h; exact ⟨by omega, h.symm⟩
  | n + 1, i, k + 1, v, h => by
    simp [orbit] at h
    obtain ⟨h1, h2⟩ := orbit_get N n _ k v h
    refine ⟨by omega, ?_⟩
    rw [h2, show (i * 5 + 1) % N = cyc N i 1 from rfl, cyc_add]
    congr 1
    omega
theorem OkMask.orb {m : Nat} (h : OkMask m) : orbChk (m + 1) = true := by
  obtain ⟨a, b, c, d, e⟩ := orb_all
  rcases h with rfl | rfl | rfl | rfl | rfl <;> assumption
theorem cyc_cover {m : Nat} (h : OkMask m) {i j : Nat} (hi : i ≤ m) (hj : j ≤ m) : ∃ n, n ≤ m ∧ cyc (m + 1) i n = j := by
  have o := h.orb
  unfold orbChk at o
  rw [Bool.and_eq_true] at o
  have fnd : ∀ x, x ≤ m → ∃ a, a < m + 1 ∧ x = cyc (m + 1) 0 a := fun x hx => by
    have := List.all_eq_true.mp o.1 x (List.mem_range.mpr (by omega))
    rw [List.contains_iff_mem] at this
    obtain ⟨a, ha⟩ := List.getElem?_of_mem this
    exact ⟨a, orbit_get _ _ _ _ _ ha⟩
  obtain ⟨a, ha, ea⟩ := fnd i hi
  obtain ⟨b, hb, eb⟩ := fnd j hj
  by_cases c : a ≤ b
  · exact ⟨b - a, by omega, by rw [ea, cyc_add, eb]; congr 1; omega⟩
  · refine ⟨m + 1 - a + b, by omega, ?_⟩
    rw [ea, cyc_add, show a + (m + 1 - a + b) = (m + 1) + b by omega, ← cyc_add, eq_of_beq o.2, eb]
theorem cover {m : Nat} (hm : OkMask m) {p : SetTable.Probe} (h9 : p.more ≤ 9) (hp : p.perturb < 2 ^ 64) {j : Nat} (hj : j ≤ m) : ∃ n, n < 10 * SetTable.turns m ∧ (advs m p n).j = j := by
  have hi : (leaps m p.i p.perturb 13).1 ≤ m := by
    have : ∀ n, (leaps m p.i p.perturb (n + 1)).1 ≤ m := fun n => Nat.le_of_lt_succ (Nat.mod_lt _ (by omega))
    exact this 12
  obtain ⟨n, hn, e⟩ := cyc_cover hm hi hj
  obtain ⟨k, hk, ek⟩ := advs_leaps m p h9 (12 + n)
  refine ⟨k, ?_, ?_⟩
  · unfold SetTable.turns
    omega
  · rw [ek]
    show (leaps m p.i p.perturb (12 + n + 1)).1 = j
    rw [show 12 + n + 1 = 13 + n by omega, leaps_cyc m _ _ hp, e]
theorem nodup_len : ∀ {l m : List Nat}, l.Nodup → (∀ x ∈ l, x ∈ m) → l.length ≤ m.length
  | [], m, _, _ => Nat.zero_le _
  | x :: l, m, hn, hs => by
    rw [List.nodup_cons] at hn
    have hx := hs x (by simp)
    have := nodup_len (l := l) (m := m.erase x) hn.2 fun y hy => (List.mem_erase_of_ne (fun e => hn.1 (by rw [← e]; exact hy))).mpr (hs y (by simp [hy]))
    rw [List.length_erase_of_mem hx] at this
    have := List.length_pos_of_mem hx
    simp only [List.length_cons]
    omega
def start (mask : Nat) (h : Int) : SetTable.Probe := at0 mask (SetTable.bits h % (mask + 1)) (SetTable.bits h) none
def pos (mask : Nat) (h : Int) (n : Nat) : SetTable.Probe := advs mask (start mask h) n
structure Good (p : SetTable.Probe) : Prop where
  more : p.more ≤ 9
  pt : p.perturb < 2 ^ 64
  dum : p.dummy = none
theorem Good.adv {mask : Nat} {p : SetTable.Probe} (g : Good p) : Good (adv mask p) := by
  unfold LS.adv SetTable.advance; dsimp only
  split
  · exact ⟨by have := g.more; show p.more - 1 ≤ 9; omega, g.pt, g.dum⟩
  · exact ⟨run9 _ _, Nat.lt_of_le_of_lt (Nat.div_le_self _ _) g.pt, g.dum⟩
theorem good (mask : Nat) (h : Int) : ∀ n, Good (pos mask h n)
  | 0 => ⟨run9 _ _, by
      show SetTable.bits h < _
      unfold SetTable.bits
      have := Int.emod_lt_of_pos h (show (0 : Int) < 2 ^ 64 by decide)
      have := Int.emod_nonneg h (show (2 ^ 64 : Int) ≠ 0 by decide)
      omega, rfl⟩
  | n + 1 => (good mask h n).adv
def Way (mask : Nat) (l : List Nat) (h : Int) (j : Nat) : Prop := ∃ n, (pos mask h n).j = j ∧ ∀ k, k < n → (pos mask h k).j ∈ l
theorem Way.more {mask : Nat} {l l' : List Nat} {h : Int} {j : Nat} (x : Way mask l h j) (s : ∀ y ∈ l, y ∈ l') : Way mask l' h j := let ⟨n, a, b⟩ := x; ⟨n, a, fun k hk => s _ (b k hk)⟩
structure Tab (t : SetTable) (hs : List Int) : Prop where
  mask : OkMask t.mask
  dum : t.dummies = #[]
  pw : t.place.toList.Pairwise (· < ·)
  le : ∀ j ∈ t.place.toList, j ≤ t.mask
  len : t.place.toList.length = hs.length
  room : hs.length ≤ t.mask
  way : ∀ (i j : Nat) (h : Int), hs[i]? = some h → t.place.toList[i]? = some j → Way t.mask t.place.toList h j
theorem Tab.nd {t : SetTable} {hs : List Int} (T : Tab t hs) : t.place.toList.Nodup := T.pw.imp fun h => Nat.ne_of_lt h
theorem Tab.free {t : SetTable} {hs : List Int} (T : Tab t hs) : ∃ j, j ≤ t.mask ∧ j ∉ t.place.toList := by
  apply Classical.byContradiction
  intro no
  have all : ∀ x ∈ List.range (t.mask + 1), x ∈ t.place.toList := fun x hx => by
    have := List.mem_range.mp hx
    exact Classical.byContradiction fun n => no ⟨x, by omega, n⟩
  have := nodup_len List.nodup_range all
  rw [List.length_range, T.len] at this
  have := T.room
  omega
theorem Tab.first {t : SetTable} {hs : List Int} (T : Tab t hs) (h : Int) : ∃ e, e < 1420 ∧ (pos t.mask h e).j ∉ t.place.toList ∧ ∀ k, k < e → (pos t.mask h k).j ∈ t.place.toList := by
  obtain ⟨j, hj, hf⟩ := T.free
  obtain ⟨n, hn, e⟩ := cover T.mask (good t.mask h 0).more (good t.mask h 0).pt hj
  have hb : 10 * SetTable.turns t.mask ≤ 1420 := by
    unfold SetTable.turns
    rcases T.mask with z | z | z | z | z <;> omega
  have ex : ∃ n, (pos t.mask h n).j ∉ t.place.toList := ⟨n, by rw [show (pos t.mask h n).j = j from e]; exact hf⟩
  -- the least one
  have key : ∀ n, (pos t.mask h n).j ∉ t.place.toList → ∃ e, e ≤ n ∧ (pos t.mask h e).j ∉ t.place.toList ∧ ∀ k, k < e → (pos t.mask h k).j ∈ t.place.toList := by
    intro n
    induction n using Nat.strongRecOn with
    | _ n ih =>
      intro hn
      by_cases c : ∃ k, k < n ∧ (pos t.mask h k).j ∉ t.place.toList
      · obtain ⟨k, hk, hk'⟩ := c
        obtain ⟨e, he, r⟩ := ih k hk hk'
        exact ⟨e, by omega, r⟩
      · exact ⟨n, Nat.le_refl _, hn, fun k hk => Classical.byContradiction fun z => c ⟨k, hk, z⟩⟩
  obtain ⟨e', he', r⟩ := key n (by rw [show (pos t.mask h n).j = j from e]; exact hf)
  exact ⟨e', by omega, r⟩
theorem Tab.go {t : SetTable} {hs : List Int} (T : Tab t hs) {hashAt : Nat → Int} {h : Int} : ∀ (fuel n m : Nat), m < fuel → (pos t.mask h (n + m)).j ∉ t.place.toList →
    ∃ n1, n ≤ n1 ∧ (∀ k, n ≤ k → k < n1 → ∃ i : Nat, t.place.toList[i]? = some (pos t.mask h k).j ∧ hashAt i ≠ h) ∧
      (((pos t.mask h n1).j ∉ t.place.toList ∧ SetTable.probe.go t hashAt h fuel (pos t.mask h n) = some (.empty (pos t.mask h n1).j none)) ∨
        ∃ i : Nat, t.place.toList[i]? = some (pos t.mask h n1).j ∧ hashAt i = h ∧ SetTable.probe.go t hashAt h fuel (pos t.mask h n) = some (.candidate (pos t.mask h n1).j i (pos t.mask h (n1 + 1)))) := by
  intro fuel
  induction fuel with
  | zero => intro n m hm; omega
  | succ fuel ih =>
    intro n m hm hf
    unfold SetTable.probe.go
    by_cases c : (pos t.mask h n).j ∈ t.place.toList
    · obtain ⟨i, hi⟩ := List.getElem?_of_mem c
      rw [slot_live T.pw hi]
      dsimp only
      by_cases d : (hashAt i == h) = true
      · rw [if_pos d]
        exact ⟨n, Nat.le_refl _, fun k h1 h2 => by omega, .inr ⟨i, hi, eq_of_beq d, rfl⟩⟩
      · rw [if_neg d]
        cases m with
        | zero => exact absurd c hf
        | succ m =>
          obtain ⟨n1, h1, h2, h3⟩ := ih (n + 1) m (by omega) (by rw [show n + 1 + m = n + (m + 1) by omega]; exact hf)
          refine ⟨n1, by omega, fun k a b => ?_, h3⟩
          by_cases e : k = n
          · subst e; exact ⟨i, hi, fun z => d (by rw [z]; simp)⟩
          · exact h2 k (by omega) b
    · rw [slot_none T.dum c]
      refine ⟨n, Nat.le_refl _, fun k h1 h2 => by omega, .inl ⟨c, ?_⟩⟩
      dsimp only
      rw [(good t.mask h n).dum]
theorem Tab.probe {t : SetTable} {hs : List Int} (T : Tab t hs) (hashAt : Nat → Int) (h : Int) (n : Nat) :
    ∃ n1, n ≤ n1 ∧ (∀ k, n ≤ k → k < n1 → ∃ i : Nat, t.place.toList[i]? = some (pos t.mask h k).j ∧ hashAt i ≠ h) ∧
      (((pos t.mask h n1).j ∉ t.place.toList ∧ t.probe hashAt h (pos t.mask h n) = some (.empty (pos t.mask h n1).j none)) ∨
        ∃ i : Nat, t.place.toList[i]? = some (pos t.mask h n1).j ∧ hashAt i = h ∧ t.probe hashAt h (pos t.mask h n) = some (.candidate (pos t.mask h n1).j i (pos t.mask h (n1 + 1)))) := by
  obtain ⟨j, hj, hf⟩ := T.free
  obtain ⟨m, hm, e⟩ := cover T.mask (good t.mask h n).more (good t.mask h n).pt hj
  refine T.go _ n m hm ?_
  rw [show (pos t.mask h (n + m)).j = j by rw [← e]; unfold pos; rw [advs_add]]
  exact hf
theorem Tab.put {t : SetTable} {hs : List Int} (T : Tab t hs) {h : Int} {j : Nat} (hj : j ∉ t.place.toList) (hl : j ≤ t.mask) (w : Way t.mask t.place.toList h j) (hr : hs.length + 1 ≤ t.mask) :
    ∃ p, p ≤ hs.length ∧ (t.put j).2 = p ∧ Tab (t.put j).1 (hs.take p ++ h :: hs.drop p) := by
  have lo := below_lo T.pw j
  have hp : SetTable.below t.place j ≤ t.place.toList.length := lo.1
  have ep : (t.put j).1.place.toList = t.place.toList.take (SetTable.below t.place j) ++ j :: t.place.toList.drop (SetTable.below t.place j) := insertAt_list _ _ _ (by simpa using hp)
  have sub : ∀ y ∈ t.place.toList, y ∈ (t.put j).1.place.toList := fun y hy => by
    rw [ep]
    rw [← List.take_append_drop (SetTable.below t.place j) t.place.toList] at hy
    rcases List.mem_append.mp hy with z | z
    · exact List.mem_append.mpr (.inl z)
    · exact List.mem_append_right _ (by simp [z])
  refine ⟨SetTable.below t.place j, by rw [← T.len]; exact hp, rfl, ?_⟩
  generalize hpp : SetTable.below t.place j = p at *
  have hlen : p ≤ hs.length := by rw [← T.len]; exact hp
  have hsz : t.place.size = t.place.toList.length := by simp
  refine ⟨T.mask, ?_, by rw [ep]; exact pairwise_ins T.pw lo hj, ?_, ?_, ?_, ?_⟩
  · show (if SetTable.has t.dummies j = true then _ else t.dummies) = #[]
    rw [T.dum]
    simp [SetTable.has]
  · intro y hy
    rw [ep] at hy
    rcases List.mem_append.mp hy with z | z
    · exact T.le y (List.mem_of_mem_take z)
    · rcases List.mem_cons.mp z with rfl | z
      · exact hl
      · exact T.le y (List.mem_of_mem_drop z)
  · rw [ep]
    have := T.len
    simp at this ⊢
    omega
  · show _ ≤ t.mask
    simp
    omega
  · intro i j' h' e1 e2
    show Way t.mask _ h' j'
    rw [ep] at e2
    by_cases c : i < p
    · rw [List.getElem?_append_left (by simp; omega), List.getElem?_take_of_lt c] at e1
      rw [List.getElem?_append_left (by simp; omega), List.getElem?_take_of_lt c] at e2
      exact (T.way i j' h' e1 e2).more sub
    · rw [List.getElem?_append_right (by simp; omega)] at e1 e2
      have l1 : (hs.take p).length = p := by simp; omega
      have l2 : (t.place.toList.take p).length = p := by simp; omega
      rw [l1] at e1
      rw [l2] at e2
      by_cases d : i = p
      · subst d
        rw [Nat.sub_self] at e1 e2
        simp at e1 e2
        subst e1 e2
        exact w.more sub
      · obtain ⟨q, hq⟩ : ∃ q, i - p = q + 1 := ⟨i - p - 1, by omega⟩
        rw [hq, List.getElem?_cons_succ, List.getElem?_drop] at e1 e2
        exact (T.way _ j' h' e1 e2).more sub
theorem Tab.fresh (f m : Nat) (led : Bool) : Tab (SetTable.fresh f m led) [] :=
  ⟨.inl rfl, rfl, List.Pairwise.nil, fun j hj => by simp [SetTable.fresh] at hj, rfl, Nat.zero_le _, fun i j h e => by simp at e⟩
end LS
set_option maxRecDepth 100000
set_option maxHeartbeats 1000000
namespace LS
open PySem
def occ (mask : Nat) (owner : Array (Option Nat)) : List Nat := (List.range (mask + 1)).filter fun j => (owner.getD j none).isSome
theorem mem_occ {mask : Nat} {owner : Array (Option Nat)} {j : Nat} : j ∈ occ mask owner ↔ j ≤ mask ∧ ∃ k, owner[j]? = some (some k) := by
  unfold occ
  rw [List.mem_filter, List.mem_range, Array.getD_eq_getD_getElem?]
  constructor
  · rintro ⟨h1, h2⟩
    refine ⟨by omega, ?_⟩
    cases e : owner[j]? with
    | none => rw [e] at h2; simp at h2
    | some o =>
      cases o with
      | none => rw [e] at h2; simp at h2
      | some k => exact ⟨k, rfl⟩
  · rintro ⟨h1, k, e⟩
    rw [e]
    exact ⟨by omega, rfl⟩
theorem runEnd_le {mask i : Nat} (h : i ≤ mask) : SetTable.runEnd mask i ≤ mask := by
  unfold SetTable.runEnd
  split <;> omega
theorem runEnd_ge (mask i : Nat) : i ≤ SetTable.runEnd mask i := by
  unfold SetTable.runEnd
  split <;> omega
theorem free_go {mask : Nat} {owner : Array (Option Nat)} (hz : owner.size = mask + 1) (h : Int) : ∀ (fuel L n0 i pt : Nat), L < fuel → i ≤ mask → pos mask h n0 = at0 mask i pt none → (∀ k, k < n0 → (pos mask h k).j ∈ occ mask owner) →
    (leaps mask i pt L).1 ∉ occ mask owner → ∃ j, SetTable.layClean.free mask owner fuel i pt = some j ∧ j ≤ mask ∧ j ∉ occ mask owner ∧ Way mask (occ mask owner) h j := by
  intro fuel
  induction fuel with
  | zero => intro L n0 i pt hL; omega
  | succ fuel ih =>
    intro L n0 i pt hL hi hp hw hf
    unfold SetTable.layClean.free
    have hre := runEnd_le hi
    have hrg := runEnd_ge mask i
    have run : ∀ k, k ≤ SetTable.runEnd mask i - i → (pos mask h (n0 + k)).j = i + k := fun k hk => by
      have : pos mask h (n0 + k) = advs mask (pos mask h n0) k := by unfold pos; rw [advs_add]
      rw [this, hp, advs_run _ _ _ (by exact hk)]
      rfl
    have isocc : ∀ k, k ≤ SetTable.runEnd mask i - i → (owner.getD (i + k) (some 0)).isNone = false → i + k ∈ occ mask owner := fun k hk e => by
      refine mem_occ.mpr ⟨by omega, ?_⟩
      rw [Array.getD_eq_getD_getElem?] at e; have hb : i + k < owner.size := by omega
      rw [Array.getElem?_eq_getElem hb] at e ⊢
      cases e2 : owner[i + k] with
      | none => rw [e2] at e; simp at e
      | some v => exact ⟨v, rfl⟩
    cases e : (List.range (SetTable.runEnd mask i + 1 - i)).find? fun k => (owner.getD (i + k) (some 0)).isNone with
    | some k =>
      dsimp only
      obtain ⟨h1, h2, h3⟩ := List.find?_range_eq_some.mp e
      rw [List.mem_range] at h2
      refine ⟨i + k, rfl, by omega, ?_, n0 + k, run k (by omega), fun k' hk' => ?_⟩
      · intro m
        obtain ⟨_, v, ev⟩ := mem_occ.mp m
        rw [Array.getD_eq_getD_getElem?, ev] at h1
        simp at h1
      · by_cases c : k' < n0
        · exact hw k' c
        · obtain ⟨q, rfl⟩ : ∃ q, k' = n0 + q := ⟨k' - n0, by omega⟩
          rw [run q (by omega)]
          refine isocc q (by omega) ?_
          have := h3 q (by omega)
          simpa using this
    | none =>
      dsimp only
      have all : ∀ k, k ≤ SetTable.runEnd mask i - i → i + k ∈ occ mask owner := fun k hk => by
        refine isocc k hk ?_
        have := List.find?_eq_none.mp e k (List.mem_range.mpr (by omega))
        exact Bool.eq_false_iff.mpr this
      cases L with
      | zero => exact absurd (all 0 (by omega)) (by simpa [leaps] using hf)
      | succ L =>
        have step : pos mask h (n0 + (SetTable.runEnd mask i - i + 1)) = at0 mask (SetTable.leap mask i pt).1 (SetTable.leap mask i pt).2 none := by
          have : pos mask h (n0 + (SetTable.runEnd mask i - i + 1)) = advs mask (pos mask h n0) (SetTable.runEnd mask i - i + 1) := by unfold pos; rw [advs_add]
          rw [this, hp]
          exact advs_leap mask (at0 mask i pt none)
        refine ih L _ (SetTable.leap mask i pt).1 (SetTable.leap mask i pt).2 (by omega) (Nat.le_of_lt_succ (Nat.mod_lt _ (by omega))) step (fun k hk => ?_) ?_
        · by_cases c : k < n0
          · exact hw k c
          · obtain ⟨q, rfl⟩ : ∃ q, k = n0 + q := ⟨k - n0, by omega⟩
            rw [run q (by omega)]
            exact all q (by omega)
        · have sh : ∀ n, leaps mask (SetTable.leap mask i pt).1 (SetTable.leap mask i pt).2 n = leaps mask i pt (n + 1) := by
            intro n
            induction n with
            | zero => rfl
            | succ n ihn => rw [leaps, ihn]; rfl
          rw [sh]
          exact hf
theorem free_at {mask : Nat} (hm : OkMask mask) {owner : Array (Option Nat)} (hz : owner.size = mask + 1) (h : Int) {f : Nat} (hf : f ≤ mask) (hfo : f ∉ occ mask owner) :
    ∃ j, SetTable.layClean.free mask owner (SetTable.turns mask) (SetTable.bits h % (mask + 1)) (SetTable.bits h) = some j ∧ j ≤ mask ∧ j ∉ occ mask owner ∧ Way mask (occ mask owner) h j := by
  have g := good mask h 0
  have hi : (leaps mask (SetTable.bits h % (mask + 1)) (SetTable.bits h) 13).1 ≤ mask := Nat.le_of_lt_succ (Nat.mod_lt _ (by omega))
  obtain ⟨n, hn, e⟩ := cyc_cover hm hi hf
  refine free_go hz h _ (13 + n) 0 _ _ (by unfold SetTable.turns; omega) (Nat.le_of_lt_succ (Nat.mod_lt _ (by omega))) rfl (fun k hk => by omega) ?_
  rw [leaps_cyc mask _ _ (show SetTable.bits h < 2 ^ 64 from g.pt), e]
  exact hfo
structure Own (mask : Nat) (hs : List Int) (owner : Array (Option Nat)) : Prop where
  sz : owner.size = mask + 1
  lt : ∀ (j k : Nat), owner[j]? = some (some k) → k < hs.length
  inj : ∀ (j j' k : Nat), owner[j]? = some (some k) → owner[j']? = some (some k) → j = j'
  at_ : ∀ (k : Nat) (h : Int), hs[k]? = some h → ∃ j, owner[j]? = some (some k) ∧ Way mask (occ mask owner) h j
theorem Own.free {mask : Nat} {hs : List Int} {owner : Array (Option Nat)} (O : Own mask hs owner) (hl : hs.length ≤ mask) : ∃ f, f ≤ mask ∧ f ∉ occ mask owner := by
  apply Classical.byContradiction
  intro no
  have all : ∀ j, j ≤ mask → ∃ k, owner[j]? = some (some k) := fun j hj => by
    have : j ∈ occ mask owner := Classical.byContradiction fun n => no ⟨j, hj, n⟩
    exact (mem_occ.mp this).2
  -- to each slot its number
  have nd : ((List.range (mask + 1)).map fun j => (owner.getD j none).getD 0).Nodup := by
    rw [List.nodup_iff_pairwise_ne, List.pairwise_map]
    refine List.Pairwise.imp_of_mem (R := (· < ·)) (fun {a b} ha hb hab => ?_) List.pairwise_lt_range
    rw [List.mem_range] at ha hb
    obtain ⟨k, hk⟩ := all a (by omega)
    obtain ⟨k', hk'⟩ := all b (by omega)
    rw [Array.getD_eq_getD_getElem?, Array.getD_eq_getD_getElem?, hk, hk']
    intro e
    have e : k = k' := e
    subst e
    have := O.inj _ _ _ hk hk'
    omega
  have := nodup_len (m := List.range hs.length) nd fun x hx => by
    obtain ⟨j, hj, e⟩ := List.mem_map.mp hx
    rw [List.mem_range] at hj
    obtain ⟨k, hk⟩ := all j (by omega)
    rw [Array.getD_eq_getD_getElem?, hk] at e
    have e : k = x := e
    subst e
    exact List.mem_range.mpr (O.lt j k hk)
  simp at this
  omega
theorem Own.step {mask : Nat} (hm : OkMask mask) {hs : List Int} {owner : Array (Option Nat)} (O : Own mask hs owner) (hl : hs.length ≤ mask) (h : Int) :
    ∃ j, SetTable.layClean.free mask owner (SetTable.turns mask) (SetTable.bits h % (mask + 1)) (SetTable.bits h) = some j ∧ Own mask (hs ++ [h]) (owner.setIfInBounds j (some hs.length)) := by
  obtain ⟨f, hf, hfo⟩ := O.free hl
  obtain ⟨j, e, hj, hjo, w⟩ := free_at hm O.sz h hf hfo
  have hb : j < owner.size := by rw [O.sz]; omega
  have get : ∀ i, (owner.setIfInBounds j (some hs.length))[i]? = if i = j then some (some hs.length) else owner[i]? := fun i => by
    rw [Array.getElem?_setIfInBounds]; by_cases c : j = i
    · subst c; rw [if_pos rfl, if_pos rfl, if_pos hb]
    · rw [if_neg c, if_neg (fun z => c z.symm)]
  have more : ∀ y ∈ occ mask owner, y ∈ occ mask (owner.setIfInBounds j (some hs.length)) := fun y hy => by
    obtain ⟨h1, k, hk⟩ := mem_occ.mp hy
    refine mem_occ.mpr ⟨h1, ?_⟩
    rw [get]
    split
    · exact ⟨_, rfl⟩
    · exact ⟨k, hk⟩
  refine ⟨j, e, ⟨by simp [O.sz], fun i k q => ?_, fun i i' k q q' => ?_, fun k h' q => ?_⟩⟩
  · rw [get] at q
    rw [List.length_append]
    split at q
    · cases q; simp
    · have := O.lt i k q; omega
  · rw [get] at q q'
    split at q <;> split at q'
    · omega
    · cases q; have := O.lt _ _ q'; omega
    · cases q'; have := O.lt _ _ q; omega
    · exact O.inj _ _ _ q q'
  · by_cases c : k < hs.length
    · rw [List.getElem?_append_left c] at q
      obtain ⟨i, hi, wi⟩ := O.at_ k h' q
      refine ⟨i, ?_, wi.more more⟩
      rw [get, if_neg ?_]
      · exact hi
      · rintro rfl
        exact hjo (mem_occ.mpr ⟨hj, _, hi⟩)
    · rw [List.getElem?_append_right (by omega)] at q
      have : k - hs.length = 0 := by
        have := (List.getElem?_eq_some_iff.mp q).1
        simp at this
        omega
      rw [this] at q
      have q : h = h' := by simpa using q
      subst q
      have : k = hs.length := by omega
      subst this
      exact ⟨j, by rw [get, if_pos rfl], w.more more⟩
end LS
set_option maxRecDepth 100000
set_option maxHeartbeats 1000000
namespace LS
open PySem
section
variable {prog : Program} {w : World} {K : Type} [DecidableEq K] {kn : KeyKind prog w K} {A : Around} {E : Value → Shared → Prop} {s : Shared}
structure SetAt (kn : KeyKind prog w K) (h : Heap) (xs : List (List K × Addr)) (es : Array (Int × Value)) (t : SetTable) : Prop where
  es : es.toList = xs.map fun x => (tupleKeyHash kn x.1, Value.ref x.2)
  is : ∀ x ∈ xs, IsTupleKey kn h x.1 x.2
  nd : (xs.map (·.1)).Nodup
  tab : Tab t (xs.map fun x => tupleKeyHash kn x.1)
  cap : xs.length * 5 < t.mask * 3
theorem SetAt.size {h : Heap} {xs : List (List K × Addr)} {es : Array (Int × Value)} {t : SetTable} (S : SetAt kn h xs es t) : es.size = xs.length := by
  rw [← Array.length_toList, S.es, List.length_map]
theorem SetAt.get {h : Heap} {xs : List (List K × Addr)} {es : Array (Int × Value)} {t : SetTable} (S : SetAt kn h xs es t) {i : Nat} {x : List K × Addr} (e : xs[i]? = some x) : es[i]? = some (tupleKeyHash kn x.1, Value.ref x.2) := by
  rw [← Array.getElem?_toList, S.es, List.getElem?_map, e]
  rfl
theorem perm_map_inv {α β : Type} {f : α → β} : ∀ {l : List β} {m : List α}, l.Perm (m.map f) → ∃ l' : List α, l = l'.map f ∧ l'.Perm m := by
  intro l m h
  generalize hm : m.map f = m' at h
  induction h generalizing m with
  | nil => exact ⟨[], rfl, by cases m with | nil => exact .nil | cons a r => simp at hm⟩
  | @cons x l1 l2 p ih =>
    cases m with
    | nil => simp at hm
    | cons a r =>
      rw [List.map_cons] at hm
      obtain ⟨rfl, hr⟩ := List.cons.inj hm
      obtain ⟨l', e, q⟩ := ih hr
      exact ⟨a :: l', by rw [e]; rfl, q.cons a⟩
  | @swap x y l1 =>
    match m, hm with
    | a :: b :: r, hm =>
      simp at hm
      obtain ⟨rfl, rfl, rfl⟩ := hm
      exact ⟨b :: a :: r, rfl, .swap _ _ _⟩
  | @trans l1 l2 l3 p q ih1 ih2 =>
    obtain ⟨l', e, q'⟩ := ih2 hm
    obtain ⟨l'', e2, q2⟩ := ih1 e.symm
    exact ⟨l'', e2, q2.trans q'⟩
def Flags (w : World) (n : Nat) (t : SetTable) : Prop := (n ≤ 1 ∨ t.plain = false) ∧ t.led = !(w.params.followText "set-order")
def SetOfT (kn : KeyKind prog w K) (h : Heap) (a : Addr) (xs : List (List K × Addr)) : Prop := ∃ o es ep t, h.get? a = some o ∧ o.ExactSet ∧ o.data = .set es ep t ∧ SetAt kn h xs es t ∧ Flags w xs.length t
theorem stored {h : Heap} {a : Addr} {o : Obj} {es : Array (Int × Value)} {ep : Nat} {t : SetTable} (ho : h.get? a = some o) (hd : o.data = .set es ep t) (es' : Array (Int × Value)) (t' : SetTable) :
    (h.update a (Obj.putSet es' t')).get? a = some { o with data := .set es' (ep + 1) t' } := by
  have := Heap.get?_update_self (Obj.putSet es' t') ho (by rw [putSet_of es' t' hd]; rfl); rwa [putSet_of es' t' hd] at this
end
end LS
set_option maxRecDepth 100000
set_option maxHeartbeats 1000000
namespace LS
open PySem
theorem Tab.plain {t : SetTable} {hs : List Int} (T : Tab t hs) (b : Bool) : Tab { t with plain := b } hs := ⟨T.mask, T.dum, T.pw, T.le, T.len, T.room, T.way⟩
section
variable {prog : Program} {w : World} {K : Type} [DecidableEq K] {kn : KeyKind prog w K} {A : Around} {E : Value → Shared → Prop} {s : Shared}
end
end LS
set_option maxRecDepth 100000
set_option maxHeartbeats 3200000
namespace LS
open PySem PyProof.Rows
section
variable {w : World} {prog : Program} {A : Around} {E : Value → Shared → Prop} {s : Shared}
end
section
variable {prog : Program} {w : World} {K : Type} [DecidableEq K] {kn : KeyKind prog w K} {A : Around} {E : Value → Shared → Prop} {s : Shared}
end
end LS
set_option maxRecDepth 100000
set_option maxHeartbeats 3200000
namespace LS
open PySem PyProof.Rows
section
variable {A : Around} {M : Model} {E : Value → Shared → Prop} {s : Shared}
end
section
variable {prog : Program} {w : World} {K : Type} [DecidableEq K] {kn : KeyKind prog w K} {A : Around} {E : Value → Shared → Prop} {s : Shared}
end
end LS
set_option maxRecDepth 100000
set_option maxHeartbeats 3200000
namespace LS
open PySem PyProof.Rows
section
variable {prog : Program} {w : World} {K : Type} [DecidableEq K] {kn : KeyKind prog w K} {A : Around} {E : Value → Shared → Prop} {s : Shared}
end
end LS
set_option maxRecDepth 100000
set_option maxHeartbeats 3200000
namespace LS
open PySem PyProof.Rows
section
variable {prog : Program} {w : World} {K : Type} [DecidableEq K] {kn : KeyKind prog w K} {A : Around} {E : Value → Shared → Prop} {s : Shared}
theorem SetOfT.typeIs {a : Addr} {xs : List (List K × Addr)} (h : SetOfT kn s.heap a xs) : s.TypeIs (.ref a) "set" := let ⟨o, _, _, _, ho, hx, _⟩ := h; ⟨o, ho, hx.1⟩
end
end LS
set_option maxRecDepth 100000
set_option maxHeartbeats 3200000
namespace LS
open PySem PyProof.Rows
abbrev itObj (first : Value) (i : Nat) (S : Addr) (n ep : Nat) : Obj := { cls := .type "set_iterator", data := .fields #[first, .int i 0, .ref S, .int n 0, .int ep 0] }
section
variable {w : World} {prog : Program} {A : Around} {E : Value → Shared → Prop} {s : Shared}
def Way3 (w : World) (S T : Addr) (es : Array (Int × Value)) (ep : Nat) (t : SetTable) (vs : List Value) (i : Nat) (first : Value) (h : Heap) : Prop :=
  (∃ (oT : Obj) (items : Array Value) (nn : Nat), first = .ref T ∧ h.get? T = some oT ∧ oT.data = .seq items nn ∧ items.size = vs.length ∧ ∀ (j : Nat) (x : Value), vs[j]? = some x → ∃ (place : Nat) (hx : Int), items[j]? = some (Value.int (place : Int) 0) ∧ es[place]? = some (hx, x)) ∨
  (w.params.followText "set-order" = true ∧ (∃ (k : Nat), first = .int k 0) ∧ vs = (pickOrder (w.params.setOrder S ep) es).toList.map (·.2)) ∨
  (w.params.followText "set-order" = false ∧ t.led = true ∧ es.size ≤ 1 ∧ vs = es.toList.map (·.2) ∧ ∃ (k : Nat), first = .int k 0 ∧ (i = 0 → k = 0) ∧ ∀ j, t.place.toList[0]? = some j → 0 < i → j < k)
structure ItSt (w : World) (I S T : Addr) (o : Obj) (es : Array (Int × Value)) (ep : Nat) (t : SetTable) (vs : List Value) (i : Nat) (h : Heap) : Prop where
  at_ : ∃ first, h.get? I = some (itObj first i S es.size ep) ∧ Way3 w S T es ep t vs i first h
  set : h.get? S = some o
end
section
variable {prog : Program} {w : World} {K : Type} [DecidableEq K] {kn : KeyKind prog w K} {A : Around} {E : Value → Shared → Prop} {s : Shared}
end
end LS
set_option maxRecDepth 100000
set_option maxHeartbeats 3200000
namespace LS
open PySem PyProof.Rows
section
variable {prog : Program} {w : World} {K : Type} [DecidableEq K] {kn : KeyKind prog w K} {A : Around} {E : Value → Shared → Prop} {s : Shared}
end
end LS
set_option maxRecDepth 100000
set_option maxHeartbeats 3200000
namespace LS
open PySem PySem.W PyProof.Rows
def AllLt (n : Nat) (p : Array Nat) : Prop := p.Perm (List.range n).toArray
theorem AllLt.get {n : Nat} {p : Array Nat} (h : AllLt n p) (hn : 0 < n) (i : Nat) : p.getD i 0 < n := by
  by_cases c : i < p.size
  · have : p[i] ∈ (List.range n).toArray := h.mem_iff.mp (Array.getElem_mem c)
    simp at this
    simp [Array.getD, c]
    exact this
  · simp [Array.getD, c]
    exact hn
theorem AllLt.rev {n : Nat} {p : Array Nat} (h : AllLt n p) (i j : Nat) : AllLt n (kas_rev p i j) := (mirror_perm _ _ _ _).trans h
section
variable {n : Nat} (hn : 0 < n)
include hn
end
section
variable {w : World} {prog : Program} {A : Around} {E : Value → Shared → Prop} {s : Shared}
end
end LS
set_option maxRecDepth 100000
set_option maxHeartbeats 3200000
namespace LS
open PySem PySem.W PyProof.Rows
section
variable {prog : Program} {w : World} {K : Type} [DecidableEq K] {kn : PySem.KeyKind prog w K} {A : Around} {E : Value → Shared → Prop} {s : Shared}
end
end LS
set_option maxRecDepth 100000
set_option maxHeartbeats 3200000
namespace LS
open PySem PySem.W PyProof.Rows
section
variable {prog : Program} {w : World} {K : Type} [DecidableEq K] {kn : PySem.KeyKind prog w K} {A : Around} {E : Value → Shared → Prop} {s : Shared} {R : Result → Shared → Prop}
end
end LS
set_option maxRecDepth 100000
set_option maxHeartbeats 3200000
namespace L2
open PySem PySem.Spec PyProof.Rows LS
section
variable {X : Cx} {pins : List (Addr × Obj)} {σ : St} {H : Hp} {s : Shared}
theorem vals_refs : ∀ cs : List Addr, Vals (cs.map V.ref) (cs.map Value.ref)
  | [] => .nil
  | c :: cs => .cons rfl (vals_refs cs)
end
end L2
set_option maxRecDepth 100000
set_option maxHeartbeats 1600000
namespace LS
open PySem
section
variable {w : World} {prog : Program} {A : Around} {E : Value → Shared → Prop} {s : Shared}
def RawD (h : Heap) (d : Addr) (es : Array DictEntry) (ep : Nat) : Prop := ∃ o, h.get? d = some o ∧ o.ExactDict ∧ o.data = .dict es ep
theorem RawD.typeIs {d : Addr} {es : Array DictEntry} {ep : Nat} (x : RawD s.heap d es ep) : s.TypeIs (.ref d) "dict" := let ⟨o, a, b, _⟩ := x; ⟨o, a, b.1⟩
theorem RawD.keep {h h' : Heap} {d : Addr} {es : Array DictEntry} {ep : Nat} (x : RawD h d es ep) (k : ∀ o, h.get? d = some o → h'.get? d = some o) : RawD h' d es ep := let ⟨o, a, b⟩ := x; ⟨o, k o a, b⟩
end
end LS
set_option maxRecDepth 100000
set_option maxHeartbeats 1600000
namespace L2
open PySem PySem.Spec PyProof.Rows LS
def held (d : Addr) (o : Obj) : HO := .ext fun h => h.get? d = some o
structure DIs (P : Program) (w : World) (d : Addr) (o : Obj) (kvs : List (List Key × V)) (xs : List (List Key × Addr × Value)) (es : Array DictEntry) (ep : Nat) : Prop where
  len : kvs.length ≤ sizeLine
  sys : (d == sysModules) = false
  ex : o.ExactDict
  data : o.data = .dict es ep
  es : es.toList = xs.map (entryOfKey (tupleKind (mixKind P w)))
  nd : (xs.map (·.1)).Nodup
theorem held_ok {P : Program} {w : World} {H : Hp} {h : Heap} {d : Addr} {o : Obj} (e : h.get? d = some o) : ObjOk P w H h d (held d o) := ⟨e, ⟨o, e⟩, fun h1 h2 q k => k _ q⟩
theorem held_is {P : Program} {w : World} {H : Hp} {h : Heap} {d : Addr} {o : Obj} (ok : HOk P w H h) (e : H d = some (held d o)) : h.get? d = some o := (ok d _ e).1
section
variable {X : Cx} {pins : List (Addr × Obj)} {σ : St} {H : Hp} {s : Shared}
end
theorem vals_at : ∀ {vs : List V} {us : List Value}, Vals vs us → ∀ {i : Nat} {u : Value}, us[i]? = some u → ∃ v, vs[i]? = some v ∧ RelV v u
  | _, _, .nil, i, u, e => by simp at e
  | _, _, .cons r t, 0, u, e => by simp only [List.getElem?_cons_zero, Option.some.injEq] at e; subst e; exact ⟨_, rfl, r⟩
  | _, _, .cons r t, i + 1, u, e => by simp only [List.getElem?_cons_succ] at e ⊢; exact vals_at t e
end L2
set_option maxRecDepth 100000
set_option maxHeartbeats 1600000
namespace L2
open PySem PySem.Spec PyProof.Rows LS
section
variable {X : Cx} {o : Expr} {to : TE} {apos cpos : Pos}
end
end L2
set_option maxRecDepth 100000
set_option maxHeartbeats 1600000
namespace L2
open PySem PySem.Spec PyProof.Rows LS
section
variable {X : Cx} {tg iter elt tst : Expr} {scope : Scope} {N : List Str} {js : List (Option Nat)} {pos : Pos}
theorem compLoop_if {prog : Program} {w : World} {A : Around} {R : Result → Shared → Prop} {s : Shared} {it acc : Value} {env : Env} (I : Nat → Shared → Prop)
    (turn : ∀ n s, I n s → wpAny (model prog w) A (pyNext it) (fun r s1 => match r with
      | none => R (.ok .next) s1
      | some v => wpAny (model prog w) A (letOwnedTupleGo tg it v) (fun _ s2 => wpAny (model prog w) A (assign tg env v) (fun _ s3 => wpAny (model prog w) A (isTrue tst env (eval tst env)) (fun b s4 => if b = true then
          wpAny (model prog w) A (eval elt env) (fun x s5 => wpAny (model prog w) A (call (.builtin "list.append") [acc, x]) (fun _ s6 => ∃ m, m < n ∧ I m s6) (fun _ _ => False) s5) (fun _ _ => False) s4
          else ∃ m, m < n ∧ I m s4) (fun _ _ => False) s3) (fun _ _ => False) s2) (fun _ _ => False) s1) (fun _ _ => False) s)
    (n : Nat) (h : I n s) : codeAny (model prog w) A (.compLoop (.ListComp elt [⟨tg, iter, [tst], 0⟩] scope pos) 0 it acc env) R s := by
  refine codeAny_loop rfl I (fun n s hI => ?_) n h; show wpAny _ A ((compTurn (.ListComp elt [⟨tg, iter, [tst], 0⟩] scope pos) 0 it acc env).onRaise (fun x => do noteFrame x env; theTreesLotGoes x)) _ _ s
  refine wpAny_noted ?_
  rw [compTurn_list]
  refine wpAny_bind (wpAny_standAt (wpAny_bind (wpAny_mono (turn n s hI) (fun r s1 h1 => ?_) fun _ _ h' => h'.elim)))
  cases r with
  | none => exact wpAny_pure h1
  | some v =>
    refine wpAny_bind (wpAny_mono h1 (fun _ s2 h2 => wpAny_bind (wpAny_mono h2 (fun _ s3 h3 => wpAny_bind (wpAny_tests_one (wpAny_mono h3 (fun b s4 h4 => ?_) fun _ _ h' => h'.elim))) fun _ _ h' => h'.elim)) fun _ _ h' => h'.elim)
    cases b with
    | false => exact wpAny_pure ⟨rfl, by simpa using h4⟩
    | true =>
      have h4 := by simpa using h4
      exact wpAny_bind (wpAny_bind (wpAny_mono h4 (fun x s5 h5 => wpAny_bind (wpAny_mono h5 (fun _ s6 h6 => wpAny_pure (wpAny_pure ⟨rfl, h6⟩)) fun _ _ h' => h'.elim)) fun _ _ h' => h'.elim))
def tCompIf (js : List (Option Nat)) (wi : TI) (g : TG) (tt : TT) (te : TE) : TE := fun σ H Q => wi σ H fun J H1 => ∀ D, H1 D = none → ∃ W : Nat → Nat → St → Hp → Prop, (∃ m, W 0 m (seen js σ) (upd H1 D (.lst []))) ∧
  ∀ i m σ' H', W i m σ' H' → (J.stop i H' ∧ Q (.ref D) H') ∨ (J.go i H' ∧ ∀ x H2, J.yld i H' x H2 → g x σ' H2 fun σ3 H3 => tt σ3 H3 fun b H4 => if b = true then te σ3 H4 fun v H5 => ∃ xs, H5 D = some (.lst xs) ∧ xs.length < sizeLine ∧ ∃ m', m' < m ∧ W (i + 1) m' σ3 (upd H5 D (.lst (xs ++ [v]))) else ∃ m', m' < m ∧ W (i + 1) m' σ3 H4)
theorem compIf_core {wi : TI} {g : TG} {tt : TT} {te : TE} {use : Option (Value → Sem Unit)} {Qv : Value → Shared → Prop} (hc : X.calm = true) (hi : PI X tg iter wi) (hk : scope.kind = .function) (hck : compChk X scope N js = true)
    (hg : ∀ fp s H, PG (cxComp X scope N fp s H) tg g) (ht : ∀ fp s H, PT (cxComp X scope N fp s H) tst tt) (he : ∀ fp s H, PE (cxComp X scope N fp s H) elt te)
    (hs : ∀ x, foldedSetIterable iter X.env x = pure x)
    {pins : List (Addr × Obj)} {σ : St} {H : Hp} {s : Shared} {Q : VK} (I : Inv X pins σ H s) (h : tCompIf js wi g tt te σ H Q)
    (hend : ∀ (D C : Addr) (H' : Hp) (s' : Shared), Inv X pins σ H' s' → (∃ m, s'.heap.Ns C m) → FpOk X pins H' C → Q (.ref D) H' → compPost (model X.prog X.w) X.A X.xe use Qv (.ref D) C (.ok .next) s') :
    wpAny (model X.prog X.w) X.A (comprehension (.ListComp elt [⟨tg, iter, [tst], 0⟩] scope pos) scope X.env (firstIterPos [⟨tg, iter, [tst], 0⟩] pos) (newList []) false (eval iter X.env) use) Qv X.xe s := by
  have hck' := hck
  unfold compChk at hck'
  simp only [Bool.and_eq_true] at hck'
  obtain ⟨⟨h1, _⟩, _⟩ := hck'
  have g1 : ∀ p ∈ scope.names, p.2 ≠ .cell ∧ (p.2 = .free → X.env.kindOf p.1 = some .cell) ∧ (p.2 = .local → scope.names.lookup p.1 = some .local) := fun p hp => by
    have q := List.all_eq_true.mp h1 p hp
    simp only [Bool.and_eq_true, bne_iff_ne, ne_eq, Bool.or_eq_true, beq_iff_eq] at q
    exact ⟨q.1.1, fun e => q.1.2.resolve_left fun z => z e, fun e => q.2.resolve_left fun z => z e⟩
  have hcl : ∀ p ∈ scope.names, p.2 = .free → ∃ c, X.env.cells.lookup p.1 = some c := fun p hp e => I.ok.has _ (.inl ((g1 p hp).2.1 e))
  refine wpAny_comprehension_free (use := use) (g := ⟨tg, iter, [tst], 0⟩) (gs := []) rfl hs (closureFor_G hcl) hk (fun p hp e => (g1 p hp).2.2 e) ?_
  refine thn (hi pins s σ H _ I h) fun v s1 h1 => thn h1 fun itv s2 h2 => ?_
  obtain ⟨it, fp, tn, J, H2, e, I2, T, st2, f2, hW⟩ := h2
  subst e
  have hfl : ∀ b ∈ fp, b < s2.heap.objs.size := fun b hb => by
    obtain ⟨o, ho, _⟩ := T.obj _ _ st2 b hb
    exact Heap.lt_size ho
  have hD : H2 s2.heap.objs.size = none := I2.hok.fresh (Nat.le_refl _)
  obtain ⟨W, ⟨m0, w0⟩, turn⟩ := hW _ hD
  refine wpAny_newObj_type (wpAny_newFunctionEnv (fun x hx => (g1 x hx).1) (by intro y hy; simp at hy) (fun h₁ hns₁ hsb₁ => ?_) hk)
  dsimp only at hns₁ hsb₁ ⊢
  have I3 : Inv X pins σ (upd H2 s2.heap.objs.size (.lst [])) { s2 with heap := s2.heap.push { cls := .type "list", dict := none, data := .seq ([] : List Value).toArray }, toks := s2.toks } :=
    I2.laid (t' := s2.toks) (fun b u e => Heap.get?_push_of_some _ e) (Nat.le_refl _) ⟨Nat.zero_le _, [], 0, .nil, Heap.get?_push_size _ rfl⟩
  generalize hs3 : ({ s2 with heap := s2.heap.push { cls := .type "list", dict := none, data := .seq ([] : List Value).toArray }, toks := s2.toks } : Shared) = s3 at I3
  have hh3 : s3.heap = s2.heap.push { cls := .type "list", dict := none, data := .seq ([] : List Value).toArray } := by rw [← hs3]
  have e3 : ({ s2 with heap := h₁, toks := s2.toks + ([] : List (Str × Value)).length } : Shared) = { s3 with heap := h₁, toks := s3.toks } := by rw [← hs3]; rfl
  rw [e3]
  rw [← hh3] at hns₁ hsb₁ ⊢
  generalize hH3 : upd H2 s2.heap.objs.size (.lst []) = H3 at I3 w0
  generalize hDs : s2.heap.objs.size = D at *
  have f3 : ∀ b ∈ fp, FpOk X pins H3 b := fun b hb => by
    refine ⟨?_, (f2 b hb).2⟩
    rw [← hH3, upd_ne (Nat.ne_of_lt (hfl b hb))]
    exact (f2 b hb).1
  have szD : s3.heap.objs.size = D + 1 := by rw [hh3, Heap.size_push]; rw [← hDs]
  have hfl3 : ∀ b ∈ fp, b < s3.heap.objs.size := fun b hb => Nat.lt_of_lt_of_le (hfl b hb) (by rw [szD]; exact Nat.le_succ _)
  have kp : ∀ b o, s3.heap.get? b = some o → h₁.get? b = some o := fun b o e => by
    rw [hsb₁.2 b (Nat.ne_of_lt (Heap.lt_size e))]
    exact Heap.get?_push_of_some _ e
  have st3 : tn 0 h₁ := T.keep 0 _ _ st2 fun b hb o e => kp b o (by rw [hh3]; exact Heap.get?_push_of_some _ e)
  have J0 : Inv (cxComp X scope N fp s3 H3) [] (seen js σ) H3 { s3 with heap := h₁, toks := s3.toks } := comp_start I3 hk hck f3 hfl3 hns₁ kp
  have fpc : ∀ {H' : Hp}, (∀ b ∈ fp, H' b = none) → ∀ b ∈ fp, FpOk (cxComp X scope N fp s3 H3) [] H' b := fun hn b hb =>
    ⟨hn b hb, (J0.ok.exf b hb).1, J0.ok.exfs b hb, .inl hb, (J0.ok.exf b hb).2, fun p hp => by cases hp⟩
  have lp : codeAny (model X.prog X.w) X.A (.compLoop (.ListComp elt [⟨tg, iter, [tst], 0⟩] scope pos) 0 (.ref it) (.ref D) (compEnvC scope (closG X.env scope.names []) s3.heap.objs.size X.env))
      (compPost (model X.prog X.w) X.A X.xe use Qv (.ref D) s3.heap.objs.size) { s3 with heap := h₁, toks := s3.toks } := by
    refine compLoop_if (fun n s' => ∃ i σ' H', Inv (cxComp X scope N fp s3 H3) [] σ' H' s' ∧ tn i s'.heap ∧ (∀ b ∈ fp, H' b = none) ∧ W i n σ' H') ?_ m0 ⟨0, _, H3, J0, st3, fun b hb => (f3 b hb).1, w0⟩
    rintro n s4 ⟨i, σ4, H4, I4, st4, fr4, w4⟩
    rcases turn i n σ4 H4 w4 with ⟨stop, qn⟩ | ⟨go, step⟩
    · refine thn (T.done (cxComp X scope N fp s3 H3) rfl rfl rfl hc i [] s4 σ4 H4 (fun _ _ => False) I4 (fpc fr4) st4 stop) fun r s5 ⟨hr, I5⟩ => ?_
      subst hr
      have I6 : Inv X pins σ H4 s5 := I3.call' (ch := fp) I5.os I5.base I5.hok I5.bare fun b hb => ⟨(f3 b hb).2.2.2.1, (f3 b hb).2.1, (f3 b hb).2.2.2.2.1, (f3 b hb).2.2.2.2.2⟩
      have fC : FpOk X pins H4 s3.heap.objs.size := I3.fpOk (Nat.le_refl _) I5.free
      obtain ⟨m, hn, _⟩ := I5.loc
      exact hend D s3.heap.objs.size H4 s5 I6 ⟨m, hn⟩ fC qn
    · refine thn (T.item (cxComp X scope N fp s3 H3) rfl rfl rfl hc i [] s4 σ4 H4 (fun _ _ => False) I4 (fpc fr4) st4 go) fun r s5 ⟨u, hr, h5⟩ => ?_
      subst hr
      refine thn h5 fun _ s6 ⟨x, H6, I6, r6, y6, st6, fr6⟩ => ?_
      have I6' := I6.pinned (fpc fr6) (T.obj _ _ st6)
      refine thn (hg fp s3 H3 _ s6 σ4 H6 x u _ I6' r6 (step x H6 y6)) fun _ s7 ⟨σ7, H7, I7, q7⟩ => ?_
      refine thn (ht fp s3 H3 _ s7 σ7 H7 _ I7 q7) fun b s7' ⟨H7', I7', q7'⟩ => ?_
      cases b with
      | false =>
        obtain ⟨m', hm, w8⟩ := (by simpa using q7' : ∃ m', m' < n ∧ W (i + 1) m' σ7 H7')
        simp only [Bool.false_eq_true, if_false]; refine ⟨m', hm, i + 1, σ7, _, I7'.unpinned, T.keep _ _ _ st6 fun b hb o e => (I7'.pin (b, o) (List.mem_append_right _ (List.mem_append_right _ (mem_pinsAt hb e)))).1, fun b hb => ?_, w8⟩
        obtain ⟨o, e, d⟩ := T.obj _ _ st6 b hb
        exact (I7'.pin (b, o) (List.mem_append_right _ (List.mem_append_right _ (mem_pinsAt hb e)))).2.1
      | true =>
      simp only [if_true] at q7' ⊢
      refine thn (he fp s3 H3 _ s7' σ7 H7' _ I7' q7') fun u8 s8 ⟨v8, H8, I8, r8, xs, e8, l8, m', hm, w8⟩ => ?_
      refine thn (mt_append _ s8 σ7 H8 (.ref D) [v8] (.ref D) [u8] (fun _ H9 => H9 = upd H8 D (.lst (xs ++ [v8]))) I8 rfl (.cons r8 .nil) ⟨D, xs, v8, rfl, rfl, e8, l8, rfl⟩) fun _ s9 ⟨v9, H9, I9, _, e9⟩ => ?_
      subst e9
      refine ⟨m', hm, i + 1, σ7, _, I9.unpinned, T.keep _ _ _ st6 fun b hb o e => (I9.pin (b, o) (List.mem_append_right _ (List.mem_append_right _ (mem_pinsAt hb e)))).1, fun b hb => ?_, w8⟩
      obtain ⟨o, e, d⟩ := T.obj _ _ st6 b hb
      exact (I9.pin (b, o) (List.mem_append_right _ (List.mem_append_right _ (mem_pinsAt hb e)))).2.1
  exact codeAny_compStart_list lp (T.self _ 0 _ _ _ st3 lp)
theorem pe_compIf {wi : TI} {g : TG} {tt : TT} {te : TE} (N : List Str) (js : List (Option Nat)) (hc : X.calm = true) (hi : PI X tg iter wi)
    (hg : ∀ fp s H, PG (cxComp X scope N fp s H) tg g) (ht : ∀ fp s H, PT (cxComp X scope N fp s H) tst tt) (he : ∀ fp s H, PE (cxComp X scope N fp s H) elt te) (hk : scope.kind = .function := by rfl) (hck : compChk X scope N js = true := by rfl)
    (hs : ∀ x, foldedSetIterable iter X.env x = pure x := by intro _; rfl) : PE X (.ListComp elt [⟨tg, iter, [tst], 0⟩] scope pos) (tCompIf js wi g tt te) := by
  intro pins s σ H Q I h
  rw [eval_ListComp]
  refine compIf_core (use := none) hc hi hk hck hg ht he hs I h fun D C H' s' I' hC fC q => ?_
  obtain ⟨m, hn⟩ := hC
  refine ⟨m, hn, fun h' sb => ?_⟩
  obtain ⟨f0, f1, f2, f3, f4, f5⟩ := fC
  exact ⟨.ref D, H', I'.turned (t' := s'.toks) (fun b o hb e => (sb.2 b hb).trans e) f0 f1 f3 f4 f5, rfl, q⟩
end
end L2
set_option maxRecDepth 100000
set_option maxHeartbeats 1600000
namespace L2
open PySem PySem.Spec PyProof.Rows LS
section
variable {X : Cx}
end
end L2
set_option maxRecDepth 100000
set_option maxHeartbeats 1600000
namespace LS
open PySem PySem.Spec PyProof.Rows L2
section
variable {prog : Program} {w : World} {A : Around} {E : Value → Shared → Prop} {s : Shared} {R : Result → Shared → Prop}
end
end LS
set_option maxRecDepth 100000
set_option maxHeartbeats 1600000
namespace L2
open PySem PySem.Spec PyProof.Rows LS
def CallKR (X : Cx) (f : Value) (ks : List Str) (r : List V → List V → Hp → VK → Prop) : Prop :=
  ∀ (pins : List (Addr × Obj)) (s : Shared) (σ : St) (H : Hp) (xs zs : List V) (us ws : List Value) (Q : VK), Inv X pins σ H s → Vals xs us → Vals zs ws → r xs zs H Q → wpAny (model X.prog X.w) X.A (call f us (ks.zip ws)) (EP X pins σ Q) X.xe s
def tCBK (r : List V → List V → Hp → VK → Prop) (t tk : TA) : TE := fun σ H Q => t σ H fun vs H1 => tk σ H1 fun zs H2 => r vs zs H2 Q
section
variable {X : Cx}
theorem pe_callBK {id : String} {ks : List Str} {r : List V → List V → Hp → VK → Prop} {x : Str} {p pos : Pos} {e : Expr} {es : List Expr} {kws : List Keyword} {t tk : TA} (hc : CallKR X (.builtin id) ks r) (hg : Gl X x) (hm : X.mg x = none) (hv : bootBuiltins x = some (.builtin id)) (ha : PA X (e :: es) t) (hk : PK X kws tk)
    (hn : x ≠ "__name__" := by decide) (hdb : (x == ("__debug__" : Str)) = false := by decide) (hks : (backToKw pos (keywordEach kws X.env)).filterMap (·.1) = ks := by rfl)
    (he : backTo pos (starEach (e :: es) X.env) = (false, eval e X.env) :: backTo pos (starEach es X.env) := by rfl) (hplain : (backTo pos (starEach (e :: es) X.env)).any (·.1) = false := by rfl)
    (hall : (backToKw pos (keywordEach kws X.env)).all (·.1.isSome) = true := by rfl) (hkw : (backToKw pos (keywordEach kws X.env)).any (·.1.isNone) = false := by rfl) : PE X (.Call (.Name x p) (e :: es) kws pos) (tCBK r t tk) := by
  intro pins s σ H Q I h
  refine wpAny_Call_Name_kw (ld_blt I hg hm hv ?_ hn hdb)
  refine PyProof.Rows.callWith_kw (thn (ha pos pins s σ H _ I h) fun us s1 ⟨vs, H1, I1, r1, q1⟩ => thn (hk pos pins s1 σ H1 _ I1 q1) fun ws s2 ⟨zs, H2, I2, r2, q2⟩ => ?_) he hplain hall hkw
  rw [hks]
  exact hc pins s2 σ H2 vs zs us ws Q I2 r1 r2 q2
end
theorem compIf_pr {α : Type} {K : PySem.W.Frag} {a D : Addr} {xs : List V} {us : List α} {g : TG} {tt : TT} {te : TE} {σ0 : St} {H1 : Hp} {Q : Hp → Prop} (p : α → Bool) (f : α → V) (ok : St → Prop)
    (sq : SqL K H1 a xs) (hD : H1 D = none) (hz : xs.length ≤ 1000) (hlen : us.length = xs.length) (h0 : ok σ0)
    (hs : ∀ (i : Nat) x u σ' H (N : St → Bool → V → Hp → Prop), xs[i]? = some x → us[i]? = some u → ok σ' → Same H1 H → (∀ σ3 H4, Same H H4 → ok σ3 → N σ3 (p u) (f u) H4) → g x σ' H fun σ3 H3 => tt σ3 H3 fun b H4 => if b = true then te σ3 H4 fun v H5 => N σ3 true v H5 else N σ3 false (f u) H4)
    (hd : ∀ H', Same H1 H' → H' D = some (.lst ((us.filter p).map f)) → Q H') :
    ∃ W : Nat → Nat → St → Hp → Prop, (∃ m, W 0 m σ0 (upd H1 D (.lst []))) ∧
      ∀ i m σ' H', W i m σ' H' → ((Itl K a).stop i H' ∧ Q H') ∨ ((Itl K a).go i H' ∧ ∀ x H2, (Itl K a).yld i H' x H2 → g x σ' H2 fun σ3 H3 => tt σ3 H3 fun b H4 => if b = true then te σ3 H4 fun v H5 => ∃ xs, H5 D = some (.lst xs) ∧ xs.length < sizeLine ∧ ∃ m', m' < m ∧ W (i + 1) m' σ3 (upd H5 D (.lst (xs ++ [v]))) else ∃ m', m' < m ∧ W (i + 1) m' σ3 H4) := by
  refine ⟨fun i m σ' H' => m = xs.length - i ∧ i ≤ xs.length ∧ ok σ' ∧ Same H1 H' ∧ H' D = some (.lst (((us.take i).filter p).map f)), ⟨xs.length, by simp, Nat.zero_le _, h0, Same.new hD, by rw [List.take_zero]; exact upd_same⟩, ?_⟩
  rintro i m σ' H' ⟨rfl, hi, hok, hsm, hy⟩
  have sq' := hsm.seq sq
  by_cases hlt : i < xs.length
  · refine .inr ⟨⟨xs, xs[i], sq', by simp [hlt]⟩, fun x H2 y => ?_⟩
    obtain ⟨e, y⟩ := y
    subst e
    have hx := y xs sq'
    have hu : us[i]? = some us[i] := List.getElem?_eq_getElem (by omega)
    have tk : us.take (i + 1) = us.take i ++ [us[i]] := by rw [List.take_add_one, hu]; rfl
    have sml : (((us.take i).filter p).map f).length < sizeLine := by
      rw [List.length_map]
      have := List.length_filter_le p (us.take i)
      rw [List.length_take] at this
      exact Nat.lt_of_lt_of_le (show _ < 1001 by omega) (by decide)
    refine hs i x us[i] σ' _ (fun σ3 b v H5 => if b = true then ∃ ys, H5 D = some (.lst ys) ∧ ys.length < sizeLine ∧ ∃ m', m' < xs.length - i ∧ (m' = xs.length - (i + 1) ∧ i + 1 ≤ xs.length ∧ ok σ3 ∧ Same H1 (upd H5 D (.lst (ys ++ [v]))) ∧ (upd H5 D (.lst (ys ++ [v]))) D = some (.lst (((us.take (i + 1)).filter p).map f)))
      else ∃ m', m' < xs.length - i ∧ (m' = xs.length - (i + 1) ∧ i + 1 ≤ xs.length ∧ ok σ3 ∧ Same H1 H5 ∧ H5 D = some (.lst (((us.take (i + 1)).filter p).map f)))) hx hu hok hsm fun σ3 H4 s4 ok3 => ?_
    cases hp : p us[i] with
    | true =>
      rw [if_pos rfl]
      refine ⟨_, s4 _ _ hy, sml, xs.length - (i + 1), by omega, rfl, hlt, ok3, (hsm.trans s4).upd hD, ?_⟩
      rw [upd_same, tk, List.filter_append, List.map_append]
      simp [hp]
    | false =>
      rw [if_neg Bool.false_ne_true]; refine ⟨xs.length - (i + 1), by omega, rfl, hlt, ok3, hsm.trans s4, ?_⟩
      rw [tk, List.filter_append, List.map_append, s4 _ _ hy]
      simp [hp]
  · have e : i = xs.length := by omega
    subst e
    refine .inl ⟨⟨xs, sq', Nat.le_refl _⟩, hd H' hsm (by rw [← hlen, List.take_length] at hy; exact hy)⟩
theorem boot_sorted : bootBuiltins "sorted" = Option.some (Value.builtin "sorted") := by decide +kernel
end L2
set_option maxRecDepth 100000
set_option maxHeartbeats 1600000
namespace L2
open PySem PySem.Spec PyProof.Rows LS
theorem call_listK {X : Cx} (K : PySem.W.Frag) (hK : X.K = K := by rfl) : CallR X (.type "list") (fun xs H Q => ∃ p ys, xs = [.ref p] ∧ SqL K H p ys ∧ ∀ l, H l = none → Q (.ref l) (upd H l (.lst ys))) := by
  subst hK
  intro pins s σ H xs us Q I r h
  obtain ⟨p, ys, e, hq, q⟩ := h
  exact call_list_of pins s σ H xs us Q I r ⟨p, ys, e, .inl hq, q⟩
end L2
set_option maxRecDepth 100000
set_option maxHeartbeats 1600000
namespace L2
open PySem PySem.Spec PyProof.Rows LS
section
variable {X : Cx} {tg : Expr}
end
end L2
set_option maxRecDepth 100000
set_option maxHeartbeats 1600000
namespace L2
open PySem PySem.Spec PyProof.Rows LS
structure Five (z a b c d : Addr) : Prop where
  az : a ≠ z
  bz : b ≠ z
  cz : c ≠ z
  dz : d ≠ z
  ab : a ≠ b
  ac : a ≠ c
  ad : a ≠ d
  bc : b ≠ c
  bd : b ≠ d
  cd : c ≠ d
end L2
set_option maxRecDepth 100000
set_option maxHeartbeats 1600000
namespace L2
open PySem PySem.Spec PyProof.Rows LS
end L2
set_option maxRecDepth 100000
set_option maxHeartbeats 1600000
namespace L2
open PySem PySem.Spec PyProof.Rows LS PySem.SeqAt
mutual
inductive IsD8 (K : PySem.W.Frag) (H : Hp) : V → PyData → Prop
  | non : IsD8 K H .non .none
  | bl (b) : IsD8 K H (.bl b) (.bool b)
  | int (i) : IsD8 K H (.int i) (.int i)
  | str (x) : IsD8 K H (.str x) (.str x)
  | lst {a xs ds} : SqL K H a xs → AreD8 K H xs ds → IsD8 K H (.ref a) (.list ds)
  | tup {a xs ds} : SqT K H a xs → AreD8 K H xs ds → IsD8 K H (.ref a) (.tuple ds)
inductive AreD8 (K : PySem.W.Frag) (H : Hp) : List V → List PyData → Prop
  | nil : AreD8 K H [] []
  | cons {x xs d ds} : IsD8 K H x d → AreD8 K H xs ds → AreD8 K H (x :: xs) (d :: ds)
end
section
variable {X : Cx} {pins : List (Addr × Obj)} {σ : St} {H : Hp} {s : Shared}
mutual
theorem IsD8.reads (I : Inv X pins σ H s) : ∀ {v : V} {d : PyData}, IsD8 X.K H v d → ∀ {u : Value}, RelV v u → ∃ as, Reads s.heap u d as
  | _, _, .non, u, r => by cases (show u = Value.none from r); exact ⟨[], .none⟩
  | _, _, .bl b, u, r => by cases (show u = Value.bool b from r); exact ⟨[], .bool b⟩
  | _, _, .int i, u, r => by obtain ⟨t, e⟩ := (show ∃ t, u = Value.int i t from r); subst e; exact ⟨[], .int i t⟩
  | _, _, .str x, u, r => by obtain ⟨t, e⟩ := (show ∃ t, u = Value.str x t from r); subst e; exact ⟨[], .str x t⟩
  | _, _, .lst sq rs, u, r => by
    cases r
    obtain ⟨its, rv, p, _⟩ := I.list sq
    obtain ⟨as, ra⟩ := AreD8.reads I rs rv
    obtain ⟨o, ho, hc, n, hd⟩ := p.isList
    exact ⟨_, .list ho hc hd (by simpa using ra)⟩
  | _, _, .tup sq rs, u, r => by
    cases r
    obtain ⟨its, rv, p, _⟩ := I.tuple sq
    obtain ⟨as, ra⟩ := AreD8.reads I rs rv
    obtain ⟨o, ho, hc, n, hd⟩ := p
    exact ⟨_, .tuple ho hc hd (by simpa using ra)⟩
theorem AreD8.reads (I : Inv X pins σ H s) : ∀ {vs : List V} {ds : List PyData}, AreD8 X.K H vs ds → ∀ {us : List Value}, Vals vs us → ∃ as, ReadsAll s.heap us ds as
  | _, _, .nil, us, r => by cases r; exact ⟨[], .nil⟩
  | _, _, .cons h t, us, r => by
    cases r with
    | cons r1 r2 =>
      obtain ⟨a1, q1⟩ := IsD8.reads I h r1
      obtain ⟨a2, q2⟩ := AreD8.reads I t r2
      exact ⟨_, .cons q1 q2⟩
end
end
theorem op_eqD {X : Cx} (K : PySem.W.Frag) (hu : X.A.units + 64 < cLine) (hK : X.K = K := by rfl) : OpR X (compareOp .Eq) (fun x y H Q => ∃ d e, IsD8 K H x d ∧ IsD8 K H y e ∧ shaped d = true ∧ shaped e = true ∧ Q (.bl (PyData.eqv d e)) H) := by
  subst hK
  intro pins s σ H x y v u Q I rx ry h
  obtain ⟨d, e, h1, h2, s1, s2, q⟩ := h
  obtain ⟨as, ra⟩ := IsD8.reads I h1 rx
  obtain ⟨bs, rb⟩ := IsD8.reads I h2 ry
  exact eq_dataH ra rb s1 s2 hu ⟨.bl _, H, I, rfl, q⟩
end L2
set_option maxRecDepth 100000
set_option maxHeartbeats 1600000
namespace L2
open PySem PySem.Spec PyProof.Rows LS PySem.SeqAt
mutual
inductive Al (K : PySem.W.Frag) (H : Hp) : Nat → V → V → Prop
  | non {n} : Al K H n .non .non
  | bl {n} (b) : Al K H n (.bl b) (.bl b)
  | int {n} (i) : Al K H n (.int i) (.int i)
  | str {n} (x) : Al K H n (.str x) (.str x)
  | ref {n} (a) : Al K H n (.ref a) (.ref a)
  | lst {n a b xs ys} : SqL K H a xs → SqL K H b ys → Als K H n xs ys → Al K H (n + 1) (.ref a) (.ref b)
inductive Als (K : PySem.W.Frag) (H : Hp) : Nat → List V → List V → Prop
  | nil {n} : Als K H n [] []
  | cons {n x y xs ys} : Al K H n x y → Als K H n xs ys → Als K H n (x :: xs) (y :: ys)
end
theorem Als.length {K : PySem.W.Frag} {H : Hp} {n : Nat} : ∀ {xs ys : List V}, Als K H n xs ys → xs.length = ys.length
  | _, _, .nil => rfl
  | _, _, .cons _ t => by simp [Als.length t]
theorem Als.refs {K : PySem.W.Frag} {H : Hp} {n : Nat} : ∀ as : List Addr, Als K H n (as.map V.ref) (as.map V.ref)
  | [] => .nil
  | a :: as => .cons (.ref a) (Als.refs as)
section
variable {X : Cx} {pins : List (Addr × Obj)} {σ : St} {H : Hp} {s : Shared}
mutual
theorem Al.eqAt (I : Inv X pins σ H s) : ∀ {n : Nat} {x y : V}, Al X.K H n x y → ∀ {u v : Value}, RelV x u → RelV y v → ∀ {A : Around}, A.units + n < cLine → EqAt A s u v true
  | _, _, _, .non, u, v, r1, r2, A, _ => by cases (show u = Value.none from r1); cases (show v = Value.none from r2); exact EqAt.same _
  | _, _, _, .bl b, u, v, r1, r2, A, _ => by cases (show u = Value.bool b from r1); cases (show v = Value.bool b from r2); exact EqAt.same _
  | _, _, _, .int i, u, v, r1, r2, A, _ => by
    obtain ⟨t, e⟩ := (show ∃ t, u = Value.int i t from r1); obtain ⟨t', e'⟩ := (show ∃ t, v = Value.int i t from r2); subst e e'
    have := EqAt.int_int (A := A) (s := s) i t i t'
    rwa [beq_self_eq_true] at this
  | _, _, _, .str x, u, v, r1, r2, A, _ => by
    obtain ⟨t, e⟩ := (show ∃ t, u = Value.str x t from r1); obtain ⟨t', e'⟩ := (show ∃ t, v = Value.str x t from r2); subst e e'
    have := EqAt.str_str (A := A) (s := s) x t x t'
    rwa [beq_self_eq_true] at this
  | _, _, _, .ref a, u, v, r1, r2, A, _ => by cases r1; cases r2; exact EqAt.same _
  | _, _, _, .lst (n := n) (a := a) (b := b) (xs := xs) (ys := ys) sa sb h, u, v, r1, r2, A, hu => by
    cases r1
    cases r2
    by_cases e : a = b
    · subst e; exact EqAt.same _
    · obtain ⟨its, v1, p1, _⟩ := I.list sa
      obtain ⟨jts, v2, p2, _⟩ := I.list sb
      have l := h.length
      have k1 := v1.length
      have k2 := v2.length
      have := RcAt.lists (A := A) (s := s) (e := fun _ => true) p1.isList p2.isList (by simp; omega) (by omega) fun j h1 h2 => by
        simpa using Als.eqAt I h v1 v2 (A := A.in1) (by rw [Around.in1_units]; omega) j (by simpa using h1) (by simpa using h2)
      rw [show ((List.range its.toArray.size).all fun _ => true) = true by simp] at this
      exact EqAt.of_refs e this
theorem Als.eqAt (I : Inv X pins σ H s) : ∀ {n : Nat} {xs ys : List V}, Als X.K H n xs ys → ∀ {us vs : List Value}, Vals xs us → Vals ys vs → ∀ {A : Around}, A.units + n < cLine → ∀ (j : Nat) (h1 : j < us.length) (h2 : j < vs.length), EqAt A s us[j] vs[j] true
  | _, _, _, .nil, us, vs, r1, r2, A, _, j, h1, h2 => by cases r1; simp at h1
  | _, _, _, .cons h t, us, vs, r1, r2, A, hu, j, h1, h2 => by
    cases r1 with
    | cons a1 b1 =>
      cases r2 with
      | cons a2 b2 =>
        cases j with
        | zero => exact Al.eqAt I h a1 a2 hu
        | succ j => simpa using Als.eqAt I t b1 b2 hu j (by simpa using h1) (by simpa using h2)
end
end
theorem op_neA {X : Cx} (K : PySem.W.Frag) (hu : X.A.units + 64 < cLine) (hK : X.K = K := by rfl) : OpR X (compareOp .NotEq) (fun x y H Q => ∃ n a b xs ys, n ≤ 60 ∧ x = .ref a ∧ y = .ref b ∧ SqL K H a xs ∧ SqL K H b ys ∧ Als K H n xs ys ∧ Q (.bl false) H) := by
  subst hK
  intro pins s σ H x y v u Q I rx ry h
  obtain ⟨n, a, b, xs, ys, hn, rfl, rfl, ha, hb, h, q⟩ := h
  cases rx
  cases ry
  obtain ⟨its, v1, p1, _⟩ := I.list ha
  obtain ⟨jts, v2, p2, _⟩ := I.list hb
  have l := h.length
  have k1 := v1.length
  have k2 := v2.length
  have := RcNeAt.lists (A := X.A) (s := s) (e := fun _ => true) p1.isList p2.isList (by simp; omega) (by omega) fun j h1 h2 => by
    simpa using Als.eqAt I h v1 v2 (A := X.A.in1) (by rw [Around.in1_units]; omega) j (by simpa using h1) (by simpa using h2)
  rw [show (!((List.range its.toArray.size).all fun _ => true)) = false by simp] at this
  exact this X.prog X.w X.xe _ ⟨.bl false, H, I, rfl, q⟩
end L2
set_option maxRecDepth 100000
set_option maxHeartbeats 1600000
namespace L2
open PySem PySem.Spec PyProof.Rows LS
end L2
set_option maxRecDepth 100000
set_option maxHeartbeats 1600000
namespace L2
open PySem PySem.Spec PyProof.Rows LS PySem.SeqAt
section
variable {X : Cx}
theorem op_neE (K : PySem.W.Frag) (hu : X.A.units + 64 < cLine) (hK : X.K = K := by rfl) : OpR X (compareOp .NotEq) (fun x y H Q => ∃ (a b : Addr) (xs : List V), x = .ref a ∧ y = .ref b ∧ SqL K H a xs ∧ SqL K H b [] ∧ Q (.bl (!xs.isEmpty)) H) := by
  subst hK
  intro pins s σ H x y v u Q I rx ry h
  obtain ⟨a, b, xs, rfl, rfl, ha, hb, q⟩ := h
  cases rx
  cases ry
  have hu : X.A.units < cLine := Nat.lt_of_le_of_lt (Nat.le_add_right _ _) hu
  obtain ⟨its, r1, p1, _⟩ := I.list ha
  obtain ⟨jts, r2, p2, _⟩ := I.list hb
  cases r2
  cases xs with
  | nil =>
    cases r1
    have := RcNeAt.lists (A := X.A) (s := s) (e := fun _ => true) p1.isList p2.isList rfl hu fun j h1 h2 => by simp at h1
    exact this X.prog X.w X.xe _ ⟨.bl false, H, I, rfl, q⟩
  | cons x xs =>
    have l := r1.length
    have := RcNeAt.lists_lengths (A := X.A) (s := s) p1.isList p2.isList (by simp at l ⊢; intro z; simp [z] at l) hu
    exact this X.prog X.w X.xe _ ⟨.bl true, H, I, rfl, q⟩
theorem op_eqE (K : PySem.W.Frag) (hu : X.A.units + 64 < cLine) (hK : X.K = K := by rfl) : OpR X (compareOp .Eq) (fun x y H Q => ∃ (a b : Addr) (xs : List V), x = .ref a ∧ y = .ref b ∧ SqL K H a xs ∧ SqL K H b [] ∧ Q (.bl xs.isEmpty) H) := by
  subst hK
  intro pins s σ H x y v u Q I rx ry h
  obtain ⟨a, b, xs, rfl, rfl, ha, hb, q⟩ := h
  cases rx
  cases ry
  have hu : X.A.units < cLine := Nat.lt_of_le_of_lt (Nat.le_add_right _ _) hu
  obtain ⟨its, r1, p1, _⟩ := I.list ha
  obtain ⟨jts, r2, p2, _⟩ := I.list hb
  cases r2
  cases xs with
  | nil =>
    cases r1
    exact SeqAt.eq_listAt (e := fun _ => true) p1.isList p2.isList rfl hu (fun j h1 h2 => by simp at h1) ⟨.bl true, H, I, rfl, q⟩
  | cons x xs =>
    have l := r1.length
    exact SeqAt.eq_list_lengthsAt p1.isList p2.isList (by simp at l ⊢; intro z; simp [z] at l) hu ⟨.bl false, H, I, rfl, q⟩
end
theorem comp_pr {α : Type} {K : PySem.W.Frag} {a D : Addr} {xs : List V} {us : List α} {g : TG} {te : TE} {σ0 : St} {H1 : Hp} {Q : Hp → Prop} (f : α → V) (ok : St → Prop)
    (sq : SqL K H1 a xs) (hD : H1 D = none) (hz : xs.length ≤ 1000) (hlen : us.length = xs.length) (h0 : ok σ0)
    (hs : ∀ (i : Nat) x u σ' H (N : St → V → Hp → Prop), xs[i]? = some x → us[i]? = some u → ok σ' → Same H1 H → (∀ σ3 H4, Same H H4 → ok σ3 → N σ3 (f u) H4) → g x σ' H fun σ3 H3 => te σ3 H3 fun v H4 => N σ3 v H4)
    (hd : ∀ H', Same H1 H' → H' D = some (.lst (us.map f)) → Q H') :
    ∃ W : Nat → Nat → St → Hp → Prop, (∃ m, W 0 m σ0 (upd H1 D (.lst []))) ∧
      ∀ i m σ' H', W i m σ' H' → ((Itl K a).stop i H' ∧ Q H') ∨ ((Itl K a).go i H' ∧ ∀ x H2, (Itl K a).yld i H' x H2 → g x σ' H2 fun σ3 H3 => te σ3 H3 fun v H4 => ∃ xs, H4 D = some (.lst xs) ∧ xs.length < sizeLine ∧ ∃ m', m' < m ∧ W (i + 1) m' σ3 (upd H4 D (.lst (xs ++ [v])))) := by
  refine ⟨fun i m σ' H' => m = xs.length - i ∧ i ≤ xs.length ∧ ok σ' ∧ Same H1 H' ∧ H' D = some (.lst ((us.take i).map f)), ⟨xs.length, by simp, Nat.zero_le _, h0, Same.new hD, by rw [List.take_zero]; exact upd_same⟩, ?_⟩
  rintro i m σ' H' ⟨rfl, hi, hok, hsm, hy⟩
  have sq' := hsm.seq sq
  by_cases hlt : i < xs.length
  · refine .inr ⟨⟨xs, xs[i], sq', by simp [hlt]⟩, fun x H2 y => ?_⟩
    obtain ⟨e, y⟩ := y
    subst e
    have hx := y xs sq'
    have hu : us[i]? = some us[i] := List.getElem?_eq_getElem (by omega)
    have tk : us.take (i + 1) = us.take i ++ [us[i]] := by rw [List.take_add_one, hu]; rfl
    have sml : ((us.take i).map f).length < sizeLine := by
      rw [List.length_map, List.length_take]
      exact Nat.lt_of_lt_of_le (show _ < 1001 by omega) (by decide)
    refine hs i x us[i] σ' _ (fun σ3 v H4 => ∃ ys, H4 D = some (.lst ys) ∧ ys.length < sizeLine ∧ ∃ m', m' < xs.length - i ∧ (m' = xs.length - (i + 1) ∧ i + 1 ≤ xs.length ∧ ok σ3 ∧ Same H1 (upd H4 D (.lst (ys ++ [v]))) ∧ (upd H4 D (.lst (ys ++ [v]))) D = some (.lst ((us.take (i + 1)).map f)))) hx hu hok hsm fun σ3 H4 s4 ok3 => ?_
    refine ⟨_, s4 _ _ hy, sml, xs.length - (i + 1), by omega, rfl, hlt, ok3, (hsm.trans s4).upd hD, ?_⟩
    rw [upd_same, tk, List.map_append]
    rfl
  · have e : i = xs.length := by omega
    subst e
    refine .inl ⟨⟨xs, sq', Nat.le_refl _⟩, hd H' hsm (by rw [← hlen, List.take_length] at hy; exact hy)⟩
end L2
set_option maxRecDepth 100000
set_option maxHeartbeats 1600000
namespace L2
open PySem PySem.Spec PyProof.Rows LS
theorem hu1 {A : Around} {k : Nat} (hr : Room k A) : A.units + 1 < cLine := Nat.lt_of_le_of_lt (Nat.add_le_add_left (by decide) _) hr.units
end L2
set_option maxRecDepth 100000
set_option maxHeartbeats 3200000
namespace LS
open PySem PySem.W PyProof.Rows
theorem AllLt.size {n : Nat} {p : Array Nat} (h : AllLt n p) : p.size = n := by have := h.size_eq; simpa using this
def EndsC {α : Type} (n : Nat) (r : Nat → Int) (P : α → Prop) : KasT α → Prop
  | .ret a => P a
  | .ask i j k => i < n ∧ j < n ∧ (r i ≤ r j → EndsC n r P (k true)) ∧ (r j ≤ r i → EndsC n r P (k false))
theorem endsC_bind {α β : Type} {n : Nat} {r : Nat → Int} {P : α → Prop} {R : β → Prop} {f : α → KasT β} : ∀ t : KasT α, EndsC n r P t → (∀ a, P a → EndsC n r R (f a)) → EndsC n r R (t.bind f)
  | .ret a, h, hf => hf a h
  | .ask i j k, h, hf => ⟨h.1, h.2.1, fun c => endsC_bind (k true) (h.2.2.1 c) hf, fun c => endsC_bind (k false) (h.2.2.2 c) hf⟩
theorem endsC_imp {α : Type} {n : Nat} {r : Nat → Int} {P R : α → Prop} : ∀ {t : KasT α}, EndsC n r P t → (∀ a, P a → R a) → EndsC n r R t
    | .ret a, h, hf => hf a h
    | .ask i j k, h, hf => ⟨h.1, h.2.1, fun c => endsC_imp (h.2.2.1 c) hf, fun c => endsC_imp (h.2.2.2 c) hf⟩
section
variable {n : Nat} {r : Nat → Int}
def RK (r : Nat → Int) (p : Array Nat) (i : Nat) : Int := r (p.getD i 0)
def Up (r : Nat → Int) (p : Array Nat) (m : Nat) : Prop := ∀ i j, i ≤ j → j < m → RK r p i ≤ RK r p j
def Dn (r : Nat → Int) (p : Array Nat) (m : Nat) : Prop := ∀ i j, i ≤ j → j < m → RK r p j ≤ RK r p i
theorem rk_of {p q : Array Nat} {i j : Nat} (h : p[i]? = q[j]?) : RK r p i = RK r q j := by
  unfold RK
  rw [Array.getD_eq_getD_getElem?, Array.getD_eq_getD_getElem?, h]
theorem rk_rev {p : Array Nat} {i j : Nat} (hj : j ≤ p.size) (k : Nat) : RK r (kas_rev p i j) k = if i ≤ k ∧ k < j then RK r p (i + j - 1 - k) else RK r p k := by
  split
  · rename_i c
    refine rk_of ?_
    unfold kas_rev
    rw [getElem?_mirror_all hj, if_pos c]
  · rename_i c
    refine rk_of ?_
    unfold kas_rev
    rw [getElem?_mirror_all hj, if_neg c]
theorem rk_same {p : Array Nat} {i j : Nat} (hj : j ≤ p.size) (he : ∀ k, i ≤ k → k < j → RK r p k = RK r p (j - 1)) (k : Nat) : RK r (kas_rev p i j) k = RK r p k := by
  rw [rk_rev hj]
  split
  · rename_i c
    rw [he _ (by omega) (by omega), he k c.1 c.2]
  · rfl
theorem rk_bub {p : Array Nat} {s d : Nat} (hs : s < p.size) (hd : d ≤ s) (k : Nat) : RK r (bubble p s d) k = if k = s - d then RK r p s else if s - d < k ∧ k ≤ s then RK r p (k - 1) else RK r p k := by
  have h := getElem?_bubble hs d hd k
  split
  · rename_i c; rw [if_pos c] at h; exact rk_of h
  · rename_i c
    rw [if_neg c] at h
    split
    · rename_i c2; rw [if_pos c2] at h; exact rk_of h
    · rename_i c2; rw [if_neg c2] at h; exact rk_of h
theorem Up.one {p : Array Nat} : Up r p 1 := fun i j h1 h2 => by
  have e1 : i = 0 := by omega
  have e2 : j = 0 := by omega
  subst e1 e2
  exact Int.le_refl _
theorem Up.more {p : Array Nat} {m : Nat} (h : Up r p m) (hm : 1 ≤ m) (e : RK r p (m - 1) ≤ RK r p m) : Up r p (m + 1) := fun i j h1 h2 => by
  by_cases c : j < m
  · exact h i j h1 c
  · have ej : j = m := by omega
    subst ej
    by_cases d : i = j
    · subst d; exact Int.le_refl _
    · exact Int.le_trans (h i (j - 1) (by omega) (by omega)) e
theorem Dn.more {p : Array Nat} {m : Nat} (h : Dn r p m) (hm : 1 ≤ m) (e : RK r p m ≤ RK r p (m - 1)) : Dn r p (m + 1) := fun i j h1 h2 => by
  by_cases c : j < m
  · exact h i j h1 c
  · have ej : j = m := by omega
    subst ej
    by_cases d : i = j
    · subst d; exact Int.le_refl _
    · exact Int.le_trans e (h i (j - 1) (by omega) (by omega))
theorem Up.cg {p q : Array Nat} {m : Nat} (h : Up r p m) (e : ∀ k, RK r q k = RK r p k) : Up r q m := fun i j h1 h2 => by rw [e, e]; exact h i j h1 h2
theorem Dn.cg {p q : Array Nat} {m : Nat} (h : Dn r p m) (e : ∀ k, RK r q k = RK r p k) : Dn r q m := fun i j h1 h2 => by rw [e, e]; exact h i j h1 h2
theorem Dn.rev {p : Array Nat} {m : Nat} (h : Dn r p m) (hm : m ≤ p.size) : Up r (kas_rev p 0 m) m := fun i j h1 h2 => by
  rw [rk_rev hm, rk_rev hm, if_pos (by omega), if_pos (by omega)]
  exact h _ _ (by omega) (by omega)
variable (hn : 0 < n)
include hn
theorem c_asc {p : Array Nat} (h : AllLt n p) : ∀ f m, 1 ≤ m → Up r p m → EndsC n r (fun m' => m ≤ m' ∧ m' ≤ m + f ∧ Up r p m' ∧ (m' < m + f → RK r p m' ≤ RK r p (m' - 1))) (kas_asc p f m)
  | 0, m, h1, hu => ⟨Nat.le_refl _, Nat.le_refl _, hu, fun z => absurd z (Nat.lt_irrefl _)⟩
  | f + 1, m, h1, hu => by
    refine ⟨h.get hn _, h.get hn _, fun c => ?_, fun c => ?_⟩
    · exact ⟨Nat.le_refl _, by omega, hu, fun _ => c⟩
    · have ih := c_asc h f (m + 1) (by omega) (hu.more h1 c)
      rw [show m + 1 + f = m + (f + 1) by omega] at ih
      exact (show EndsC n r _ (kas_asc p f (m + 1)) from endsC_imp ih fun m' x => ⟨by omega, x.2.1, x.2.2.1, x.2.2.2⟩)
theorem c_desc : ∀ f p m q, AllLt n p → q + 1 ≤ m → m + f ≤ n → Dn r p m → (∀ k, m - (q + 1) ≤ k → k < m → RK r p k = RK r p (m - 1)) →
    EndsC n r (fun x => AllLt n x.1 ∧ x.2.1 ≤ n ∧ Dn r x.1 x.2.1 ∧ x.2.2 + 1 ≤ x.2.1 ∧ ∀ k, x.2.1 - (x.2.2 + 1) ≤ k → k < x.2.1 → RK r x.1 k = RK r x.1 (x.2.1 - 1)) (kas_desc f p m q)
  | 0, p, m, q, h, hq, hm, hd, he => ⟨h, by omega, hd, hq, he⟩
  | f + 1, p, m, q, h, hq, hm, hd, he => by
    refine ⟨h.get hn _, h.get hn _, fun c => ?_, fun c => ?_⟩
    · simp only [if_true]
      split
      · have e := rk_same (r := r) (p := p) (i := m - (q + 1)) (j := m) (by rw [h.size]; omega) he
        refine c_desc f _ _ _ (h.rev _ _) (by omega) (by omega) ((hd.more (by omega) c).cg e) fun k h1 h2 => ?_
        have : k = m := by omega
        subst this
        rfl
      · refine c_desc f _ _ _ h (by omega) (by omega) (hd.more (by omega) c) fun k h1 h2 => ?_
        have : k = m := by omega
        subst this
        rfl
    · refine ⟨h.get hn _, h.get hn _, fun d => ⟨h, by show m ≤ n; omega, hd, hq, he⟩, fun d => ?_⟩
      have ee : RK r p m = RK r p (m - 1) := Int.le_antisymm d c
      refine c_desc f _ _ _ h (by omega) (by omega) (hd.more (by omega) d) fun k h1 h2 => ?_
      by_cases z : k = m
      · subst z; rfl
      · rw [show m + 1 - 1 = m by omega, ee]; exact he k (by omega) (by omega)
def Cnt (n : Nat) (r : Nat → Int) (x : Nat × Array Nat) : Prop := AllLt n x.2 ∧ x.1 ≤ n ∧ Up r x.2 x.1
theorem c_tail3 {m : Nat} {p : Array Nat} (h : AllLt n p) (h1 : 1 ≤ m) (hm : m ≤ n) (hd : Dn r p m) : EndsC n r (Cnt n r) (kas_tail3 m n p) := by
  have hs := h.size
  refine endsC_bind _ (c_asc hn (h.rev 0 m) _ _ h1 (hd.rev (by omega))) fun a x => ?_
  exact ⟨h.rev _ _, by show a ≤ n; have := x.2.1; omega, x.2.2.1⟩
theorem c_descPart {m : Nat} {p : Array Nat} (h : AllLt n p) (h1 : 1 ≤ m) (hm : m + 1 ≤ n) (hd : Dn r p (m + 1)) : EndsC n r (Cnt n r) (kas_descPart m n p) := by
  refine endsC_bind _ (c_desc hn _ _ _ _ h (by omega) (by omega) hd fun k h1 h2 => ?_) fun x hx => ?_
  · have : k = m := by omega
    subst this
    rfl
  · obtain ⟨a1, a2, a3, a4, a5⟩ := hx
    split
    · have e := rk_same (r := r) (p := x.1) (i := x.2.1 - (x.2.2 + 1)) (j := x.2.1) (by rw [a1.size]; omega) a5
      exact c_tail3 hn (a1.rev _ _) (by omega) a2 (a3.cg e)
    · exact c_tail3 hn a1 (by omega) a2 a3
theorem c_count {p : Array Nat} (h : AllLt n p) : EndsC n r (Cnt n r) (kas_count n p) := by
  have hs := h.size
  refine endsC_bind _ (c_asc hn h _ 1 (Nat.le_refl _) Up.one) fun m x => ?_
  obtain ⟨x1, x2, x3, x4⟩ := x
  split
  · exact ⟨h, by show m ≤ n; omega, x3⟩
  · rename_i c
    have c' : m ≠ n := by simpa using c
    have xe := x4 (by omega)
    split
    · refine ⟨h.get hn _, h.get hn _, fun _ => ⟨h, by show m ≤ n; omega, x3⟩, fun d => ?_⟩
      have all : ∀ k, 0 ≤ k → k < m → RK r p k = RK r p (m - 1) := fun k _ hk => by
        have d' : RK r p (m - 1) ≤ RK r p 0 := d
        have := x3 0 k (by omega) hk
        have := x3 k (m - 1) (by omega) (by omega)
        exact Int.le_antisymm this (by omega)
      have e := rk_same (r := r) (p := p) (i := 0) (j := m) (by omega) all
      refine c_descPart hn (h.rev _ _) (by omega) (by omega) (Dn.cg (Dn.more (fun i j h1 h2 => ?_) (by omega) xe) e)
      rw [all i (by omega) (by omega), all j (by omega) (by omega)]
      exact Int.le_refl _
    · have : m = 1 := by omega
      subst this
      refine c_descPart hn h (by omega) (by omega) (Dn.more (fun i j h1 h2 => ?_) (by omega) xe)
      have e1 : i = 0 := by omega
      have e2 : j = 0 := by omega
      subst e1 e2
      exact Int.le_refl _
theorem c_place {p : Array Nat} (h : AllLt n p) (k : Nat) (hu : Up r p k) : ∀ f a b, a ≤ b → b ≤ k → b - a ≤ f → (∀ i, i < a → RK r p i ≤ RK r p k) → (∀ i, b ≤ i → i < k → RK r p k ≤ RK r p i) →
    EndsC n r (fun l => l ≤ k ∧ (∀ i, i < l → RK r p i ≤ RK r p k) ∧ ∀ i, l ≤ i → i < k → RK r p k ≤ RK r p i) (kas_place p k f a b)
  | 0, a, b, h1, h2, h3, h4, h5 => ⟨by omega, h4, fun i q1 q2 => h5 i (by omega) q2⟩
  | f + 1, a, b, h1, h2, h3, h4, h5 => by
    unfold kas_place
    split
    · exact ⟨by omega, h4, fun i q1 q2 => h5 i (by omega) q2⟩
    · refine ⟨h.get hn _, h.get hn _, fun c => ?_, fun c => ?_⟩
      · exact c_place h k hu f _ _ (by omega) (by omega) (by omega) h4 fun i q1 q2 => Int.le_trans c (hu _ _ q1 q2)
      · exact c_place h k hu f _ _ (by omega) h2 (by omega) (fun i q1 => Int.le_trans (hu i ((a + b) / 2) (by omega) (by omega)) c) h5
theorem c_bin : ∀ f p k, AllLt n p → k + f = n → Up r p k → EndsC n r (fun q => AllLt n q ∧ Up r q n) (kas_bin f p k)
  | 0, p, k, h, e, hu => by
    have : k = n := by omega
    subst this
    exact ⟨h, hu⟩
  | f + 1, p, k, h, e, hu => by
    refine endsC_bind _ (c_place hn h k hu k 0 k (Nat.zero_le _) (Nat.le_refl _) (by omega) (fun i q => absurd q (Nat.not_lt_zero _)) fun i q1 q2 => absurd q2 (by omega)) fun l x => ?_
    obtain ⟨x1, x2, x3⟩ := x
    refine c_bin f _ _ ((bubble_perm _ _ _).trans h) (by omega) fun i j h1 h2 => ?_
    have hk : k < p.size := by rw [h.size]; omega
    rw [rk_bub hk (by omega), rk_bub hk (by omega), show k - (k - l) = l by omega]
    by_cases ci : i = l
    · rw [if_pos ci]
      by_cases cj : j = l
      · rw [if_pos cj]; exact Int.le_refl _
      · rw [if_neg cj, if_pos (by omega)]; exact x3 _ (by omega) (by omega)
    · rw [if_neg ci]
      by_cases di : l < i ∧ i ≤ k
      · rw [if_pos di, if_neg (by omega), if_pos (by omega)]; exact hu _ _ (by omega) (by omega)
      · rw [if_neg di]
        by_cases cj : j = l
        · rw [if_pos cj]; exact x2 _ (by omega)
        · rw [if_neg cj]
          by_cases dj : l < j ∧ j ≤ k
          · rw [if_pos dj]; exact hu _ _ (by omega) (by omega)
          · rw [if_neg dj]; exact hu _ _ (by omega) (by omega)
theorem c_sort : EndsC n r (fun q => AllLt n q ∧ Up r q n) (kas_sort n) := by
  refine endsC_bind _ (c_count hn (Array.Perm.refl _)) fun x hx => ?_
  obtain ⟨x1, x2, x3⟩ := hx
  split
  · refine c_bin hn _ _ _ x1 (by omega) ?_
    by_cases c : 1 ≤ x.1
    · rw [show max x.1 1 = x.1 by omega]; exact x3
    · rw [show max x.1 1 = 1 by omega]; exact Up.one
  · have : x.1 = n := by omega
    rw [← this]
    exact ⟨by rw [this]; exact x1, x3⟩
end
theorem endsC_wp {α : Type} {n : Nat} {r : Nat → Int} {P : α → Prop} {cmp : Nat → Nat → (Bool → Shared → Prop) → Shared → Prop} {Q : α → Shared → Prop} {s : Shared} (hc : ∀ i j C, i < n → j < n → (r i ≤ r j → C true s) → (r j ≤ r i → C false s) → cmp i j C s) (hq : ∀ a, P a → Q a s) : ∀ t : KasT α, EndsC n r P t → t.kasWp cmp Q s
  | .ret a, h => hq a h
  | .ask i j k, h => hc i j _ h.1 h.2.1 (fun c => endsC_wp hc hq (k true) (h.2.2.1 c)) (fun c => endsC_wp hc hq (k false) (h.2.2.2 c))
def Shp : List Bool → List Value → Prop
  | [], [] => True
  | true :: sh, v :: r => (∃ i t, v = Value.int i t) ∧ Shp sh r
  | false :: sh, v :: r => (∃ x t, v = Value.str x t) ∧ Shp sh r
  | _, _ => False
def KeyTup (sh : List Bool) (h : Heap) (b : Addr) (i : Int) : Prop := ∃ o t r n, h.get? b = some o ∧ o.cls = .type "tuple" ∧ o.data = .seq (Value.int i t :: r).toArray n ∧ Shp sh r
section
variable {w : World} {prog : Program} {A : Around} {E : Value → Shared → Prop} {s : Shared}
theorem lex_rest {b fin : Bool} {Q : Bool → Shared → Prop} (hq : ∀ c, Q c s) : ∀ (sh : List Bool) (xs ys : List Value) (i : Nat), Shp sh xs → Shp sh ys → KatLex prog w A b fin Q (xs.zip ys) i s
  | [], [], _, i, _, _ => kat_nil (hq fin)
  | [], _ :: _, _, i, h, _ => h.elim
  | true :: sh, [], _, i, h, _ => h.elim
  | false :: sh, [], _, i, h, _ => h.elim
  | true :: sh, _ :: _, [], i, _, h => h.elim
  | false :: sh, _ :: _, [], i, _, h => h.elim
  | true :: sh, x :: xs, y :: ys, i, hx, hy => by
    obtain ⟨⟨i1, t1, rfl⟩, hx⟩ := hx
    obtain ⟨⟨i2, t2, rfl⟩, hy⟩ := hy
    refine kat_cons (wpAny_eqBool_int ?_)
    refine kat_go (fun _ => kat_yes (lex_rest hq sh xs ys (i + 1) hx hy)) (fun _ => kat_no ?_)
    cases (b && i == 0) with
    | true => exact oneLt_int (hq _)
    | false => exact kat_one _ _ (PyProof.Rows.lt_int (hq _))
  | false :: sh, x :: xs, y :: ys, i, hx, hy => by
    obtain ⟨⟨i1, t1, rfl⟩, hx⟩ := hx
    obtain ⟨⟨i2, t2, rfl⟩, hy⟩ := hy
    refine kat_cons (wpAny_eqBool_str ?_)
    refine kat_go (fun _ => kat_yes (lex_rest hq sh xs ys (i + 1) hx hy)) (fun _ => kat_no ?_)
    cases (b && i == 0) with
    | true => exact oneLt_str (hq _)
    | false => exact kat_one _ _ (lt_str (hq _))
theorem cmp_key {sh : List Bool} {b : Bool} {x y : Addr} {i j : Int} {Q : Bool → Shared → Prop} (hx : KeyTup sh s.heap x i) (hy : KeyTup sh s.heap y j) (ht : i ≤ j → Q true s) (hf : j ≤ i → Q false s) : wpAny (model prog w) A (keyLt' (tuples' b) (.ref x) (.ref y)) Q E s := by
  obtain ⟨o1, t1, r1, n1, a1, a2, a3, a4⟩ := hx
  obtain ⟨o2, t2, r2, n2, b1, b2, b3, b4⟩ := hy
  refine kat_lt a1 a3 b1 b3 ?_
  show KatLex prog w A b _ Q ((Value.int i t1, Value.int j t2) :: r1.zip r2) 0 s
  refine kat_cons (wpAny_eqBool_int ?_)
  refine kat_go (fun e => kat_yes (lex_rest (fun c => ?_) sh r1 r2 _ a4 b4)) (fun e => kat_no ?_)
  · have e' : i = j := by simpa using e
    subst e'
    cases c with
    | true => exact ht (Int.le_refl _)
    | false => exact hf (Int.le_refl _)
  · have go : Q (decide (i < j)) s := by
      by_cases c : i < j
      · rw [decide_eq_true c]; exact ht (Int.le_of_lt c)
      · rw [decide_eq_false c]; exact hf (by omega)
    cases (b && 0 == 0) with
    | true => exact oneLt_int go
    | false => exact kat_one _ _ (PyProof.Rows.lt_int go)
theorem keys_of {sh : List Bool} {h : Heap} : ∀ vs : List Value, (∀ v ∈ vs, ∃ b i, v = Value.ref b ∧ KeyTup sh h b i) → ∃ fs, KatTups h vs fs ∧ fs.length = vs.length ∧ ∀ f ∈ fs, ∃ i t, f = Value.int i t
  | [], _ => ⟨[], KatTups.nil, rfl, fun f hf => by simp at hf⟩
  | v :: vs, hv => by
    obtain ⟨fs, h1, h2, h3⟩ := keys_of vs fun u hu => hv u (by simp [hu])
    obtain ⟨b, i, rfl, o, t, r, n, a1, a2, a3, a4⟩ := hv v (by simp)
    refine ⟨Value.int i t :: fs, KatTups.cons a1 a2 a3 (by simp) h1, by simp [h2], fun f hf => ?_⟩
    rcases List.mem_cons.mp hf with rfl | hf
    · exact ⟨i, t, rfl⟩
    · exact h3 f hf
theorem key_end {sh : List Bool} {a kS : Addr} {e e1 : Nat} {vs ks : List Value} {r : Nat → Int} {P : PySem.Fin → Shared → Prop} (hk : s.heap.get? kS = some (seqObj "list" ks.toArray e)) (ha : s.heap.get? a = some (seqObj "list" #[] e1)) (hka : kS ≠ a) (hl : ks.length = vs.length) (h64 : vs.length < 64)
    (hkt : ∀ i, i < vs.length → ∃ b, ks[i]? = some (.ref b) ∧ KeyTup sh s.heap b (r i))
    (h : ∀ (hm h' : Heap) (p : Array Nat) (c c2 : Nat), AllLt vs.length p → Up r p vs.length → (∀ b o, b ≠ kS → s.heap.get? b = some o → hm.get? b = some o) → hm.get? kS = some (seqObj "list" #[] c2) → (∀ b o, b ≠ a → hm.get? b = some o → h'.get? b = some o) → h'.get? a = some (seqObj "list" (p.toList.map fun i => vs.getD i Value.none).toArray c) → P (.done (.ret .none)) { s with heap := h' }) :
    wpAny (model prog w) A (ksk_end a false vs.toArray e1 (.ref kS) ks.toArray) P E s := by
  have tail : ∀ (st : SortSt) (p : Array Nat), failedOf st = none → (arrOf st).map (·.2) = List.toArray (p.toList.map fun i => vs.getD i Value.none) → AllLt vs.length p → Up r p vs.length → wpAny (model prog w) A (ksk_tail a false e1 (.ref kS) st) P E s := by
    intro st p hf he hp hu
    have s1 := Heap.SameBut.update s.heap kS (Obj.mapSeq fun _ => (#[] : Array Value))
    have ha1 : (s.heap.update kS (Obj.mapSeq fun _ => (#[] : Array Value))).get? a = some (seqObj "list" #[] e1) := (s1.2 a hka.symm).trans ha
    have hk1 := get?_update_seq hk fun _ => (#[] : Array Value)
    unfold ksk_tail
    try dsimp only
    refine wpAny_bind (listUpdate_at hk rfl ?_ (by rw [List.size_toArray, sizeLine_eq]; omega) (Nat.zero_le _))
    refine wpAny_bind (wpAny_letGo ?_)
    refine wpAny_bind (seqEpoch_at ha1 rfl ?_)
    simp only [Bool.false_eq_true, if_false]
    rw [he]
    have sz : (List.toArray (p.toList.map fun i => vs.getD i Value.none)).size = vs.length := by
      rw [List.size_toArray, List.length_map, Array.length_toList, hp.size]
    refine wpAny_bind (listUpdate_at ha1 rfl ?_ (Nat.zero_le _) (Nat.le_trans (Nat.le_of_eq sz) (by rw [sizeLine_eq]; omega)))
    rw [hf]
    simp only [bne_self_eq_false, Bool.false_eq_true, if_false]
    have s2 := Heap.SameBut.update (s.heap.update kS (Obj.mapSeq fun _ => (#[] : Array Value))) a (Obj.mapSeq fun _ => List.toArray (p.toList.map fun i => vs.getD i Value.none))
    have ha2 := get?_update_seq ha1 fun _ => List.toArray (p.toList.map fun i => vs.getD i Value.none)
    exact wpAny_pure (h _ _ p _ _ hp hu (fun b o n1 q => (s1.2 b n1).trans q) hk1 (fun b o n1 q => (s2.2 b n1).trans q) ha2)
  unfold ksk_end
  try dsimp only
  simp only [Bool.false_eq_true, if_false]
  by_cases h2 : vs.toArray.size < 2
  · rw [if_pos h2, if_pos h2]
    refine wpAny_bind (wpAny_pure ?_)
    rw [StateT.run_pure]
    refine wpAny_bind (wpAny_pure ?_)
    try dsimp only
    rw [List.size_toArray] at h2
    refine tail (SortSt.mk' general' (ks.toArray.zip vs.toArray) #[] 7 none) (List.range vs.length).toArray rfl ?_ (Array.Perm.refl _) fun i j h1 h3 => ?_
    · refine kat_snds hl ?_
      rw [show vs.length = (ks.toArray.zip vs.toArray).size by simp [hl], kas_range]
    · have e1 : i = j := by omega
      subst e1
      exact Int.le_refl _
  · rw [if_neg h2, if_neg h2]
    rw [List.size_toArray] at h2
    have hv : ∀ v ∈ ks, ∃ b i, v = Value.ref b ∧ KeyTup sh s.heap b i := fun v hv => by
      obtain ⟨i, hi, rfl⟩ := List.mem_iff_getElem.mp hv
      obtain ⟨b, e, kt⟩ := hkt i (by omega)
      rw [List.getElem?_eq_getElem hi] at e
      exact ⟨b, _, Option.some.inj e, kt⟩
    obtain ⟨fs, t1, t2, t3⟩ := keys_of ks hv
    refine wpAny_bind (kat_kind (T := .type "int") t1 (by omega) (fun v hvv => ?_) (by decide) ?_)
    · obtain ⟨x, t, rfl⟩ := t3 v hvv
      exact Looks.of_pure rfl
    refine wpAny_bind (wpAny_mono (kat_run (Q := fun st s' => ∃ p, s' = s ∧ arrOf st = p.map (kas_item (ks.toArray.zip vs.toArray)) ∧ failedOf st = none ∧ AllLt vs.length p ∧ Up r p vs.length) (G := fun p s' => AllLt vs.length p ∧ Up r p vs.length ∧ s' = s) hl (by omega) h64 (fun p st s' _ e1 e2 hg => ⟨p, hg.2.2, e1, e2, hg.1, hg.2.1⟩) ?_) ?_ (fun _ _ x => x))
    · refine endsC_wp (P := fun q => AllLt vs.length q ∧ Up r q vs.length) (n := vs.length) (r := r) (fun i j C hi hj hC hD => ?_) (fun p hp => ⟨hp.1, hp.2, rfl⟩) _ (c_sort (by omega))
      unfold kas_ask
      obtain ⟨x, ex, kx⟩ := hkt i hi
      obtain ⟨y, ey, ky⟩ := hkt j hj
      rw [List.getD_eq_getElem?_getD, List.getD_eq_getElem?_getD, ex, ey]
      exact cmp_key kx ky hC hD
    · rintro ⟨⟨⟩, st⟩ s' ⟨p, rfl, e1, e2, hp, hu⟩
      exact tail st p e2 (kat_snds hl e1) hp hu
end
end LS
namespace L2
open PySem PySem.Spec PyProof.Rows LS
def ShV : List Bool → List V → Prop
  | [], [] => True
  | true :: sh, v :: r => (∃ i, v = V.int i) ∧ ShV sh r
  | false :: sh, v :: r => (∃ x, v = V.str x) ∧ ShV sh r
  | _, _ => False
theorem shp_of : ∀ {sh : List Bool} {vs : List V} {us : List Value}, ShV sh vs → Vals vs us → Shp sh us
  | [], [], _, _, .nil => trivial
  | [], _ :: _, _, h, _ => h.elim
  | true :: _, [], _, h, _ => h.elim
  | false :: _, [], _, h, _ => h.elim
  | true :: _, _ :: _, _, h, .cons r t => by
    obtain ⟨⟨i, rfl⟩, h⟩ := h
    exact ⟨let ⟨t, e⟩ := r; ⟨i, t, e⟩, shp_of h t⟩
  | false :: _, _ :: _, _, h, .cons r t => by
    obtain ⟨⟨i, rfl⟩, h⟩ := h
    exact ⟨let ⟨t, e⟩ := r; ⟨i, t, e⟩, shp_of h t⟩
theorem keyTup_of {P : Program} {w : World} {H : Hp} {h : Heap} {b : Addr} {i : Int} {r : List V} {sh : List Bool} (ok : HOk P w H h) (e : H b = some (.tup (.int i :: r))) (hs : ShV sh r) : KeyTup sh h b i := by
  obtain ⟨_, its, rv, o, h1, h2, n, h3⟩ := (show ObjOk P w H h b (.tup (.int i :: r)) from ok b _ e)
  cases rv with
  | cons r1 t1 =>
    obtain ⟨t, rfl⟩ := r1
    exact ⟨o, t, _, n, h1, h2, h3, shp_of hs t1⟩
theorem refs_inv : ∀ {bs : List Addr} {us : List Value}, Vals (bs.map V.ref) us → us = bs.map Value.ref
  | [], _, r => by cases r; rfl
  | b :: bs, _, r => by
    cases r with
    | cons r1 t1 =>
      have e1 : _ = Value.ref b := r1
      rw [List.map_cons, refs_inv t1, e1]
theorem vals_getD : ∀ {xs : List V} {us : List Value}, Vals xs us → ∀ i, RelV (xs.getD i .non) (us.getD i Value.none)
  | _, _, .nil, i => by simp; rfl
  | _, _, .cons r t, 0 => r
  | _, _, .cons r t, i + 1 => by simpa using vals_getD t i
theorem vals_map {xs : List V} {us : List Value} (r : Vals xs us) : ∀ l : List Nat, Vals (l.map fun i => xs.getD i .non) (l.map fun i => us.getD i Value.none)
  | [] => .nil
  | i :: l => .cons (vals_getD r i) (vals_map r l)
theorem perm_getD {α : Type} {d : α} {xs : List α} {p : Array Nat} (h : AllLt xs.length p) : (p.toList.map fun i => xs.getD i d).Perm xs := by
  have hp : p.toList.Perm (List.range xs.length) := by simpa using Array.perm_iff_toList_perm.mp h
  refine (hp.map _).trans ?_
  have : (List.range xs.length).map (fun i => xs.getD i d) = xs := by
    refine List.ext_getElem (by simp) fun i h1 h2 => ?_
    simp at h1
    simp [h1]
  rw [this]
theorem up_pair {α : Type} {d : α} {xs : List α} {p : Array Nat} {rk : α → Int} (h : AllLt xs.length p) (u : Up (fun i => rk (xs.getD i d)) p xs.length) : (p.toList.map fun i => xs.getD i d).Pairwise (fun x y => rk x ≤ rk y) := by
  rw [List.pairwise_iff_getElem]
  intro i j hi hj hij
  have hs := h.size
  have hj' : j < p.size := by simpa using hj
  have q := u i j (Nat.le_of_lt hij) (by omega)
  have hi' : i < p.size := by omega
  unfold RK at q
  simp only [Array.getD_eq_getD_getElem?, Array.getElem?_eq_getElem hi', Array.getElem?_eq_getElem hj', Option.getD_some] at q
  simpa using q
def rSortK (K : PySem.W.Frag) (f : Addr) (sp : Sp) (E : XK) : List V → List V → Hp → VK → Prop := fun xs zs H Q => ∃ (p : Addr) (its : List V) (sh : List Bool) (rk : V → Int) (rs : V → List V), xs = [.ref p] ∧ zs = [.ref f] ∧ SqL K H p its ∧ its.length < 64 ∧ (∀ x ∈ its, ShV sh (rs x)) ∧
  (∀ x ∈ its, ∀ H' Q', Same H H' → (∀ q H2, Same H' H2 → H2 q = some (.tup (.int (rk x) :: rs x)) → Q' (.ref q) H2) → sp [x] H' Q' E) ∧
  ∀ D out H', H D = none → Same H H' → H' D = some (.lst out) → out.Perm its → out.Pairwise (fun x y => rk x ≤ rk y) → Q (.ref D) H'
section
variable {X : Cx} {CX : CXT} {k : Nat} {f : Addr} {fd : FuncData} {ps : List Str} {sp : Sp} {E : XK}
theorem call_sortK (K : PySem.W.Frag) (F : FnOk X.prog X.w X.K X.mg X.base CX k f fd ps sp) (hr : Room (k + 2) X.A) (hb : Binds X.K fd ps []) (hx : Passes CX X.nox E) (hK : X.K = K := by rfl) : CallKR X (.builtin "sorted") ["key"] (rSortK K f sp E) := by
  subst hK
  intro pins s σ H xs zs us ws Q I r rz h
  obtain ⟨p, its, sh, rk, rs, rfl, rfl, hq, h64, hsh, hk, q⟩ := h
  obtain ⟨u, rfl, ru⟩ := vals1 r
  obtain ⟨w', rfl, rw'⟩ := vals1 rz
  cases ru
  cases rw'
  obtain ⟨vs, rv, pl, hz⟩ := I.list hq
  have hlen : its.length = vs.length := rv.length
  show wpAny _ _ (call (.builtin "sorted") [.ref p] [(Str.ofString "key", .ref f)]) _ _ _
  refine call_function_entry_kw kind_sorted plain_sorted entry_sorted (ksk_s1 _ _) ?_
  unfold Builtin.«sorted»
  refine wpAny_bind (m := checkCount "sorted" 1 1 _) (wpAny_pure ?_)
  refine wpAny_bind (collect_list pl.isList ?_ (by rw [sizeLine_eq]; omega))
  refine wpAny_bind (wpAny_newList ?_ (by rw [sizeLine_eq]; omega))
  have hsz : ((s.heap.push (seqObj "list" #[] 0)).update s.heap.objs.size (Obj.mapSeq (· ++ vs.toArray))).objs.size = s.heap.objs.size + 1 := by
    rw [Heap.size_update, size_push']
  have hoL : (((s.heap.push (seqObj "list" #[] 0)).update s.heap.objs.size (Obj.mapSeq (· ++ vs.toArray))).push (seqObj "list" vs.toArray 0)).get? (s.heap.objs.size + 1) = some (seqObj "list" vs.toArray 0) := by
    rw [← hsz]; exact Heap.get?_push_size _ rfl
  have keep : ∀ b o, s.heap.get? b = some o → (((s.heap.push (seqObj "list" #[] 0)).update s.heap.objs.size (Obj.mapSeq (· ++ vs.toArray))).push (seqObj "list" vs.toArray 0)).get? b = some o := fun b o q => by
    have hlt : b < s.heap.objs.size := Heap.lt_size q
    rw [Heap.get?_push_ne _ _ _ (by rw [hsz]; exact Nat.ne_of_lt (Nat.lt_succ_of_lt hlt)), Heap.get?_update_ne _ _ _ _ (Nat.ne_of_lt hlt), Heap.get?_push_ne _ _ _ (Nat.ne_of_lt hlt)]
    exact q
  show wpAny _ _ _ _ _ { s with heap := ((s.heap.push (seqObj "list" #[] 0)).update s.heap.objs.size (Obj.mapSeq (· ++ vs.toArray))).push (seqObj "list" vs.toArray 0) }
  rw [hsz]
  generalize ((s.heap.push (seqObj "list" #[] 0)).update s.heap.objs.size (Obj.mapSeq (· ++ vs.toArray))).push (seqObj "list" vs.toArray 0) = h1 at hoL keep ⊢
  obtain ⟨D, hDe⟩ : ∃ D, D = s.heap.objs.size + 1 := ⟨_, rfl⟩
  have hDs : s.heap.objs.size ≤ D := by rw [hDe]; exact Nat.le_succ _
  rw [← hDe] at hoL ⊢
  have hDn : H D = none := I.hok.fresh hDs
  refine wpAny_bind (wpAny_holding (wpAny_call_entry_kw slot_list_sort ⟨_, hoL, rfl⟩ entry_list_sort ?body (ksk_l1 _ _)))
  case body =>
    show wpAny (model X.prog X.w) X.A.in1.in1 (Builtin.«list.sort» ⟨[.ref D], [(Str.ofString "key", .ref f)]⟩) _ _ _
    rw [ksk_t1]
    unfold ksk_tree
    refine wpAny_bind (listItems_at hoL rfl ?_)
    refine wpAny_bind (listUpdate_at hoL rfl ?_ (by rw [List.size_toArray, sizeLine_eq]; omega) (Nat.zero_le _))
    obtain ⟨e1, ho1⟩ : ∃ e1, (h1.update D (Obj.mapSeq fun _ => (#[] : Array Value))).get? D = some (seqObj "list" #[] e1) := ⟨_, get?_update_seq hoL fun _ => #[]⟩
    have sb1 := Heap.SameBut.update h1 D (Obj.mapSeq fun _ => (#[] : Array Value))
    have keep1 : ∀ b o, s.heap.get? b = some o → (h1.update D (Obj.mapSeq fun _ => (#[] : Array Value))).get? b = some o := fun b o e => (sb1.2 b (Nat.ne_of_lt (Nat.lt_of_lt_of_le (Heap.lt_size e) hDs))).trans (keep b o e)
    generalize h1.update D (Obj.mapSeq fun _ => (#[] : Array Value)) = h2 at ho1 keep1 ⊢
    refine wpAny_bind (seqEpoch_at (s := { s with heap := h2 }) ho1 rfl ?_)
    refine wpAny_bind (wpAny_newTuple ?_ (by show vs.length ≤ _; rw [sizeLine_eq]; omega))
    refine wpAny_bind (wpAny_newList ?_ (Nat.zero_le _))
    refine wpAny_holding ?_
    dsimp only
    generalize hot : ({ cls := Value.type "tuple", data := Data.seq vs.toArray.toList.toArray } : Obj) = oT
    have ho3 : (h2.push oT).get? D = some (seqObj "list" #[] e1) := Heap.get?_push_of_some _ ho1
    have keep3 : ∀ b o, s.heap.get? b = some o → (h2.push oT).get? b = some o := fun b o e => Heap.get?_push_of_some _ (keep1 b o e)
    generalize h2.push oT = h3 at ho3 keep3 ⊢
    have I2 : Inv X pins σ (upd H D (held D (seqObj "list" #[] e1))) { s with heap := h3, toks := s.toks } := I.laid keep3 hDs (held_ok ho3)
    have hKn : upd H D (held D (seqObj "list" #[] e1)) h3.objs.size = none := I2.hok.fresh (Nat.le_refl _)
    have hKD : h3.objs.size ≠ D := Nat.ne_of_gt (Heap.lt_size ho3)
    have I3 : Inv X pins σ (upd (upd H D (held D (seqObj "list" #[] e1))) h3.objs.size (.lst [])) { s with heap := h3.push { cls := .type "list", data := .seq ([] : List Value).toArray }, toks := s.toks } :=
      I2.laid (t' := s.toks) (fun b u e => Heap.get?_push_of_some _ e) (Nat.le_refl _) ⟨Nat.zero_le _, [], 0, .nil, Heap.get?_push_size _ rfl⟩
    generalize hH0 : upd H D (held D (seqObj "list" #[] e1)) = H0 at I3 hKn
    have hHD : H0 D = some (held D (seqObj "list" #[] e1)) := by rw [← hH0]; exact upd_same
    have sm0 : Same H H0 := by rw [← hH0]; exact Same.new hDn
    generalize h3.objs.size = kS at I3 hKn hKD ⊢
    unfold ksk_rest
    refine wpAny_bind (wpAny_rule ?_)
    first
      | rw [List.forIn_toArray]
      | (rw [← Array.forIn_toList]; simp only [List.toList_toArray])
      | rw [← Array.forIn_toList]
    refine wpAny_bind (ksk_fold (fun i s' => ∃ H' bs, Inv X pins σ H' s' ∧ Same H0 H' ∧ H' kS = some (.lst (bs.map V.ref)) ∧ bs.length = i ∧ ∀ j b x, bs[j]? = some b → its[j]? = some x → H' b = some (.tup (.int (rk x) :: rs x))) vs 0 _
      ⟨_, [], I3, Same.new hKn, upd_same, rfl, fun j b x e => absurd (List.getElem?_eq_some_iff.mp e).1 (Nat.not_lt_zero _)⟩ ?step ?done)
    case step =>
      rintro j v s' hv ⟨H', bs, I', sm, hkS, hbl, hbt⟩
      try simp only [Nat.zero_add] at hbl
      try simp only [Nat.zero_add]
      obtain ⟨x, hx1, hx2⟩ := vals_at rv hv
      have hj : j < vs.length := (List.getElem?_eq_some_iff.mp hv).1
      have hmem : x ∈ its := List.mem_of_getElem? hx1
      refine wpAny_bind (wpAny_attempt (wpAny_mono (Q := EP X pins σ fun v' H2 => ∃ q, v' = V.ref q ∧ Same H' H2 ∧ H2 q = some (.tup (.int (rk x) :: rs x))) (E := fun _ _ => False) ?call (fun u s'' he => ?ok) fun _ _ hF => hF.elim))
      case call =>
        have hsp : sp [x] H' (fun v' H2 => ∃ q, v' = V.ref q ∧ Same H' H2 ∧ H2 q = some (.tup (.int (rk x) :: rs x))) E := hk x hmem H' _ (sm0.trans sm) fun q H2 a1 a2 => ⟨q, rfl, a1, a2⟩
        have hl : ([v] ++ ([] : List Value)).length = ps.length := by rw [← F.len _ _ _ _ hsp]; rfl
        refine wpAny_call (codeAny_mono (F.run X.A.in1.in1 X.stack s' H' ⟨[v], []⟩ ([v] ++ []) [x] _ E hr.in1.in1 I'.env0.in1.in1 (hb s' [v] I'.kIn hl) (.cons hx2 .nil) hsp) fun r s'' hq => ?_)
        cases r with
        | error e => exact hx pins σ H' s' e s'' (I'.wish _) hq
        | ok fl =>
          cases fl with
          | ret u => exact I'.after hq
          | next => exact False.elim hq
          | brk => exact False.elim hq
          | cont => exact False.elim hq
      case ok =>
        obtain ⟨v', H2, I2', rv', qa, rfl, sm2, hqa⟩ := he
        cases rv'
        dsimp only
        have hkS2 := sm2 _ _ hkS
        obtain ⟨z, itv, n, rvv, ek⟩ := (show ObjOk X.prog X.w H2 s''.heap kS (.lst (bs.map V.ref)) from I2'.hok kS _ hkS2)
        have eb := refs_inv rvv
        subst eb
        have ek' : s''.heap.get? kS = some (seqObj "list" (bs.map Value.ref).toArray n) := ek
        refine wpAny_bind (listUpdate_at ek' rfl ?_ (by rw [List.size_toArray, List.length_map, sizeLine_eq]; omega) (by rw [Array.size_push, List.size_toArray, List.length_map, sizeLine_eq]; omega))
        have sb := Heap.SameBut.update s''.heap kS (Obj.mapSeq (·.push (Value.ref qa)))
        have gk := get?_update_seq ek' (·.push (Value.ref qa))
        have ea : (bs.map Value.ref).toArray.push (Value.ref qa) = ((bs ++ [qa]).map Value.ref).toArray := by simp
        have I4 : Inv X pins σ (upd H2 kS (.lst ((bs ++ [qa]).map V.ref))) { s'' with heap := s''.heap.update kS (Obj.mapSeq (·.push (Value.ref qa))), toks := s''.toks } :=
          I2'.write (x := kS) (e := kS) (by rw [hkS2]; trivial) (.inl rfl) (fun b u nb e => (sb.2 b nb).trans e) ⟨_, gk⟩ ⟨by rw [List.length_map, List.length_append, sizeLine_eq]; show bs.length + 1 ≤ _; omega, (bs ++ [qa]).map Value.ref, _, vals_refs _, by rw [← ea]; exact gk⟩
        refine wpAny_pure ⟨rfl, _, bs ++ [qa], I4, (sm.trans sm2).upd hKn, upd_same, by rw [List.length_append, hbl]; rfl, fun j' b x' e1 e2 => ?_⟩
        by_cases cj : j' < bs.length
        · rw [List.getElem?_append_left cj] at e1
          have e3 := sm2 _ _ (hbt j' b x' e1 e2)
          rw [upd_ne (ne_of e3 hkS2 (by intro z; cases z))]
          exact e3
        · have ej : j' = bs.length := by
            have := (List.getElem?_eq_some_iff.mp e1).1
            rw [List.length_append] at this
            have : j' < bs.length + 1 := this
            omega
          subst ej
          rw [List.getElem?_append_right (Nat.le_refl _)] at e1
          have e1' : qa = b := by simpa using e1
          subst e1'
          rw [hbl, hx1] at e2
          cases e2
          rw [upd_ne (ne_of hqa hkS2 (by intro z; cases z))]
          exact hqa
    case done =>
      rintro s' ⟨H', bs, I', sm, hkS, hbl, hbt⟩
      try simp only [Nat.zero_add] at hbl
      obtain ⟨z, itv, n, rvv, ek⟩ := (show ObjOk X.prog X.w H' s'.heap kS (.lst (bs.map V.ref)) from I'.hok kS _ hkS)
      have eb := refs_inv rvv
      subst eb
      have ek' : s'.heap.get? kS = some (seqObj "list" (bs.map Value.ref).toArray n) := ek
      have eD : s'.heap.get? D = some (seqObj "list" #[] e1) := held_is I'.hok (sm _ _ hHD)
      refine wpAny_bind (listItems_at ek' rfl ?_)
      refine key_end (sh := sh) (r := fun i => rk (its.getD i .non)) ek' eD hKD (by rw [List.length_map, hbl]) (by omega) (fun i hi => ?_) fun hm h' pp c c2 hp hu g1 g2 g3 g4 => ⟨_, rfl, ?_⟩
      · have hbi : i < bs.length := by omega
        have hii : i < its.length := by omega
        refine ⟨bs[i], by rw [List.getElem?_map, List.getElem?_eq_getElem hbi]; rfl, ?_⟩
        have e3 := hbt i bs[i] its[i] (List.getElem?_eq_getElem hbi) (List.getElem?_eq_getElem hii)
        rw [show its.getD i V.non = its[i] by simp [hii]]
        exact keyTup_of I'.hok e3 (hsh _ (List.getElem_mem hii))
      · have hHD' := sm _ _ hHD
        have I5 : Inv X pins σ (upd H' kS (.lst [])) { s' with heap := hm, toks := s'.toks } :=
          I'.write (x := kS) (e := kS) (by rw [hkS]; trivial) (.inl rfl) (fun b u nb e => g1 b u nb e) ⟨_, g2⟩ ⟨Nat.zero_le _, [], c2, .nil, g2⟩
        have hl : pp.toList.length = its.length := by rw [Array.length_toList, hp.size, hlen]
        have I6 : Inv X pins σ (upd (upd H' kS (.lst [])) D (.lst (pp.toList.map fun i => its.getD i .non))) { s' with heap := h', toks := s'.toks } :=
          I5.write (s := { s' with heap := hm, toks := s'.toks }) (x := D) (e := D) (by rw [upd_ne hKD.symm, hHD']; trivial) (.inl rfl) (fun b u nb e => g3 b u nb e) ⟨_, g4⟩ ⟨by rw [List.length_map, hl, sizeLine_eq]; omega, _, c, vals_map rv _, g4⟩
        rw [← hlen] at hp hu
        exact wpAny_pure ⟨_, rfl, .ref D, _, I6, rfl, q D _ _ hDn (((sm0.trans sm).upd (sm0.none hKn)).upd hDn) upd_same (perm_getD hp) (up_pair hp hu)⟩
end
end L2
namespace L2
open PySem PySem.Spec PyProof.Rows LS PySem.SeqAt
theorem vals_rev : ∀ {xs : List V} {us : List Value}, Vals xs us → Vals xs.reverse us.reverse
  | _, _, .nil => .nil
  | _, _, .cons r t => by rw [List.reverse_cons, List.reverse_cons]; exact (vals_rev t).append (.cons r .nil)
section
variable {X : Cx}
theorem pe_turned {e e2 : Expr} {te : TE} {tk : TO} {p2 pos : Pos} (K : PySem.W.Frag) (he : PE X e te) (hk : PO X (some e2) tk) (hK : X.K = K := by rfl) : PE X (.Subscript e (.Slice none none (some e2) p2) pos) (fun σ H Q => te σ H fun x H1 => tk σ H1 fun k H2 => k = some (-1) ∧ ∃ a xs, x = .ref a ∧ SqL K H2 a xs ∧ ∀ p, H2 p = none → Q (.ref p) (upd H2 p (.lst xs.reverse))) := by
  subst hK
  intro pins s σ H Q I h
  refine Subscript_ (thn (he pins s σ H _ I h) fun v s1 ⟨x, H1, I1, r1, q1⟩ => ?_)
  refine wpAny_Slice ?_
  rw [evalPart_none]
  refine wpAny_pure (wpAny_pure ?_)
  refine thn (hk pins s1 σ H1 _ I1 q1) fun vk s3 ⟨k, H3, I3, pk, q3⟩ => ?_
  obtain ⟨rfl, a, xs, rfl, hx, q⟩ := q3
  cases r1
  have I4 : Inv X pins σ H3 { s3 with heap := s3.heap.push { cls := .type "slice", data := .fields #[.none, .none, vk] } } := I3.kept (t' := s3.toks) fun b ob q => Heap.get?_push_of_some _ q
  show wpAny (model X.prog X.w) X.A (subscriptTail e (.Slice none none (some e2) p2) (.ref a) (.ref s3.heap.objs.size)) (EP X pins σ Q) X.xe { s3 with heap := s3.heap.push { cls := .type "slice", data := .fields #[.none, .none, vk] } }
  have hsl : (s3.heap.push { cls := .type "slice", data := .fields #[Value.none, Value.none, vk] }).IsSliceOf s3.heap.objs.size .none .none vk := Heap.IsSliceOf.new ..
  generalize hs4 : ({ s3 with heap := s3.heap.push { cls := .type "slice", data := .fields #[.none, .none, vk] } } : Shared) = s4 at I4 ⊢
  have hsl4 : s4.heap.IsSliceOf s3.heap.objs.size .none .none vk := by rw [← hs4]; exact hsl
  obtain ⟨its, r, ht, hz⟩ := I4.list hx
  have hlen := r.length
  refine tail_any (ops := [.ref a, .ref s3.heap.objs.size]) ht.isList.typeIs slot_list_getitem.lookup ?_ (by with_unfolding_all rfl)
  refine wpAny_getItem_list_slice ht.isList hsl4 .none .none pk (by decide) ?_ (by rw [List.size_toArray] <;> omega)
  rw [PySem.W.krv_pick]
  refine ⟨.ref s4.heap.objs.size, _, I4.laid (t' := s4.toks) (o := .lst xs.reverse) (fun b ob q => Heap.get?_push_of_some _ q) (Nat.le_refl _) ?_, rfl, q _ (I4.hok.fresh (Nat.le_refl _))⟩
  exact ⟨by rw [List.length_reverse]; exact hz, its.reverse, 0, vals_rev r, Heap.get?_push_size _ rfl⟩
theorem op_notInT (K : PySem.W.Frag) (hu : X.A.units + 64 < cLine) (hK : X.K = K := by rfl) : OpR X (compareOp .NotIn) (fun x y H Q => ∃ (q p : Addr) (zs : List V) (as : List Addr) (g : Addr → List V), x = .ref q ∧ y = .ref p ∧ SqT K H q zs ∧ zs.all flatV = true ∧ SqL K H p (as.map V.ref) ∧ (∀ a ∈ as, SqT K H a (g a) ∧ (g a).all flatV = true ∧ (g a).length = zs.length) ∧
    Q (.bl (!as.any fun a => decide (a = q) || eqVs (g a) zs)) H) := by
  subst hK
  intro pins s σ H x y v u Q I rx ry h
  obtain ⟨q, p, zs, as, g, rfl, rfl, hq, fz, hp, ha, k⟩ := h
  cases rx
  cases ry
  obtain ⟨its, r, pl, hz⟩ := I.list hp
  have ei := refs_inv r
  subst ei
  refine notIn_listAt (fun w => match w with | .ref a => decide (a = q) || eqVs (g a) zs | _ => false) pl.isList (fun w hw => ?_) ⟨.bl _, H, I, rfl, ?_⟩
  · have hw' : w ∈ as.map Value.ref := by simpa using hw
    obtain ⟨a, hmem, rfl⟩ := List.mem_map.mp hw'
    obtain ⟨h1, h2, h3⟩ := ha a hmem
    dsimp only
    by_cases c : a = q
    · rw [decide_eq_true c, Bool.true_or]
      subst c
      exact EqAt.same _
    · rw [decide_eq_false c, Bool.false_or]
      obtain ⟨us, ra, pa, _⟩ := I.tuple h1
      obtain ⟨ws, rb, pb, _⟩ := I.tuple hq
      have l1 := ra.length
      have l2 := rb.length
      have hh := RcAt.tuples (A := X.A.in1) (s := s) (e := fun j => eqV ((g a).getD j .non) (zs.getD j .non)) pa pb (by rw [Around.in1_units]; omega) fun j h1' h2' => by
        have j1 : j < (g a).length := by simp at h1'; omega
        have j2 : j < zs.length := by simp at h2'; omega
        obtain ⟨u1, e1, q1⟩ := ra.get (List.getElem?_eq_getElem j1)
        obtain ⟨u2, e2, q2⟩ := rb.get (List.getElem?_eq_getElem j2)
        have z1 : us.toArray[j] = u1 := by simp; exact (List.getElem?_eq_some_iff.mp e1).2
        have z2 : ws.toArray[j] = u2 := by simp; exact (List.getElem?_eq_some_iff.mp e2).2
        rw [z1, z2, List.getD_eq_getElem?_getD, List.getD_eq_getElem?_getD, List.getElem?_eq_getElem j1, List.getElem?_eq_getElem j2]
        exact eqAt_V q1 q2 (List.all_eq_true.mp h2 _ (List.getElem_mem j1)) (List.all_eq_true.mp fz _ (List.getElem_mem j2))
      have e1 : us.toArray.size = (g a).length := by rw [List.size_toArray, l1]
      have e2 : ws.toArray.size = (g a).length := by rw [List.size_toArray, ← l2, h3]
      rw [e1, e2, Nat.min_self] at hh
      have e3 : ((List.range (g a).length).all fun j => eqV ((g a).getD j .non) (zs.getD j .non)) = eqVs (g a) zs := eqVs_all h3
      rw [e3] at hh
      simp only [beq_self_eq_true, Bool.and_true] at hh
      exact EqAt.of_refs c hh
  · rw [show (as.map Value.ref).toArray.any (fun w => match w with | .ref a => decide (a = q) || eqVs (g a) zs | _ => false) = as.any fun a => decide (a = q) || eqVs (g a) zs by
      rw [List.any_toArray, List.any_map]; rfl]
    exact k
end
end L2
namespace L2
open PySem PySem.Spec PyProof.Rows
theorem call_lenDK {X : Cx} : CallR X (.builtin "len") (fun xs H Q => ∃ a kvs, xs = [V.ref a] ∧ H a = some (.dK kvs) ∧ Q (.int kvs.length) H) := by
  intro pins s σ H xs us Q I r h
  obtain ⟨a, kvs, rfl, ha, q⟩ := h
  obtain ⟨u, rfl, ru⟩ := vals1 r
  cases ru
  exact d_len I (.inl ha) fun t s' I' => ⟨.int kvs.length, H, I', ⟨t, rfl⟩, q⟩
end L2
set_option maxRecDepth 100000
set_option maxHeartbeats 4000000
namespace My
open PySem L2
def top (i : Nat) : Stmt := PySem.Challenge.pw_lampcues_k82_marks.main.body.getD i (.Pass ⟨0, 0, 0, 0⟩)
abbrev s_marks : Stmt := (top 1)
abbrev s_last_first : Stmt := (top 2)
abbrev s_law_drawn : Stmt := (top 4)
abbrev s_law_whole : Stmt := (top 5)
abbrev s_law_wish : Stmt := (top 6)
abbrev s_law_wishes : Stmt := (top 7)
abbrev s_law_good : Stmt := (top 8)
abbrev s_law_chosen : Stmt := (top 9)
abbrev s_law : Stmt := (top 10)
structure Adr where
  f_marks : Addr
  d_marks : FuncData
  f_last_first : Addr
  d_last_first : FuncData
  f_law_drawn : Addr
  d_law_drawn : FuncData
  f_law_whole : Addr
  d_law_whole : FuncData
  f_law_wish : Addr
  d_law_wish : FuncData
  f_law_wishes : Addr
  d_law_wishes : FuncData
  f_law_good : Addr
  d_law_good : FuncData
  f_law_chosen : Addr
  d_law_chosen : FuncData
  f_law : Addr
  d_law : FuncData
  unit : Unit
structure Txt (K : PySem.W.Frag) (mg : Str → Option Value) (A : Adr) : Prop where
  F_marks : Fun K "marks" "marks" s_marks A.f_marks A.d_marks
  bb_marks : Binds K A.d_marks ["some"] []
  m_marks : mg "marks" = some (.ref A.f_marks)
  F_last_first : Fun K "last_first" "last_first" s_last_first A.f_last_first A.d_last_first
  bb_last_first : Binds K A.d_last_first ["wish"] []
  m_last_first : mg "last_first" = some (.ref A.f_last_first)
  F_law_drawn : Fun K "_law_drawn" "_law_drawn" s_law_drawn A.f_law_drawn A.d_law_drawn
  bb_law_drawn : Binds K A.d_law_drawn ["_law_script", "_law_k"] []
  m_law_drawn : mg "_law_drawn" = some (.ref A.f_law_drawn)
  F_law_whole : Fun K "_law_whole" "_law_whole" s_law_whole A.f_law_whole A.d_law_whole
  bb_law_whole : Binds K A.d_law_whole ["_law_found"] []
  m_law_whole : mg "_law_whole" = some (.ref A.f_law_whole)
  F_law_wish : Fun K "_law_wish" "_law_wish" s_law_wish A.f_law_wish A.d_law_wish
  bb_law_wish : Binds K A.d_law_wish ["_law_number", "_law_other"] []
  m_law_wish : mg "_law_wish" = some (.ref A.f_law_wish)
  F_law_wishes : Fun K "_law_wishes" "_law_wishes" s_law_wishes A.f_law_wishes A.d_law_wishes
  bb_law_wishes : Binds K A.d_law_wishes ["_law_script"] []
  m_law_wishes : mg "_law_wishes" = some (.ref A.f_law_wishes)
  F_law_good : Fun K "_law_good" "_law_good" s_law_good A.f_law_good A.d_law_good
  bb_law_good : Binds K A.d_law_good ["_law_found", "_law_some"] []
  m_law_good : mg "_law_good" = some (.ref A.f_law_good)
  F_law_chosen : Fun K "_law_chosen" "_law_chosen" s_law_chosen A.f_law_chosen A.d_law_chosen
  bb_law_chosen : Binds K A.d_law_chosen ["_law_some", "_law_script"] []
  m_law_chosen : mg "_law_chosen" = some (.ref A.f_law_chosen)
  F_law : Fun K "law" "law" s_law A.f_law A.d_law
  bb_law : Binds K A.d_law ["_law_script"] []
  m_law : mg "law" = some (.ref A.f_law)
  b_isinstance : mg "isinstance" = none
  b_int : mg "int" = none
  b_bool : mg "bool" = none
  b_len : mg "len" = none
  b_min : mg "min" = none
  b_range : mg "range" = none
  b_sorted : mg "sorted" = none
  b_tuple : mg "tuple" = none
  b_list : mg "list" = none
theorem sc_marks : FnScope ["some", "numbers", "apart", "wish"] ["some"] (defScope s_marks) := ⟨rfl, rfl, rfl, by decide +kernel, rfl, by decide +kernel, by decide +kernel⟩
theorem sc_last_first : FnScope ["wish"] ["wish"] (defScope s_last_first) := ⟨rfl, rfl, rfl, by decide +kernel, rfl, by decide +kernel, by decide +kernel⟩
theorem sc_law_drawn : FnScope ["_law_script", "_law_k"] ["_law_script", "_law_k"] (defScope s_law_drawn) := ⟨rfl, rfl, rfl, by decide +kernel, rfl, by decide +kernel, by decide +kernel⟩
theorem sc_law_whole : FnScope ["_law_found"] ["_law_found"] (defScope s_law_whole) := ⟨rfl, rfl, rfl, by decide +kernel, rfl, by decide +kernel, by decide +kernel⟩
theorem sc_law_wish : FnScope ["_law_number", "_law_other", "_law_first", "_law_last", "_law_more", "_law_lamp"] ["_law_number", "_law_other"] (defScope s_law_wish) := ⟨rfl, rfl, rfl, by decide +kernel, rfl, by decide +kernel, by decide +kernel⟩
theorem sc_law_wishes : FnScope ["_law_script", "_law_found", "_law_k", "_law_number", "_law_other", "_law_twice"] ["_law_script"] (defScope s_law_wishes) := ⟨rfl, rfl, rfl, by decide +kernel, rfl, by decide +kernel, by decide +kernel⟩
theorem sc_law_good : FnScope ["_law_found", "_law_some", "_law_numbers", "_law_apart", "_law_lasts", "_law_k", "_law_j", "_law_wish_here"] ["_law_found", "_law_some"] (defScope s_law_good) := ⟨rfl, rfl, rfl, by decide +kernel, rfl, by decide +kernel, by decide +kernel⟩
theorem ndc_law_good_0 : (["_law_number", "_law_wish_here"] : List Str).Nodup := by decide +kernel
theorem ndc_law_good_1 : (["_law_wish_here"] : List Str).Nodup := by decide +kernel
theorem sc_law_chosen : FnScope ["_law_some", "_law_script", "_law_found", "_law_k", "_law_wide"] ["_law_some", "_law_script"] (defScope s_law_chosen) := ⟨rfl, rfl, rfl, by decide +kernel, rfl, by decide +kernel, by decide +kernel⟩
theorem sc_law : FnScope ["_law_script", "_law_some", "_law_handed", "_law_found", "_law_many", "_law_again"] ["_law_script"] (defScope s_law) := ⟨rfl, rfl, rfl, by decide +kernel, rfl, by decide +kernel, by decide +kernel⟩
structure Wi where
  a : Int
  b : Int
  l : Str
  n : Int
def lastB (g : List Wi) : Int := (g.getLast?.map (·.b)).getD 0
def wStep (g : List Wi) (x : Wi) : List Wi := if g = [] ∨ lastB g < x.a then g ++ [x] else g
def wGr (l : List Wi) : List Wi := l.foldl wStep []
theorem wGr_snoc (l : List Wi) (x : Wi) : wGr (l ++ [x]) = wStep (wGr l) x := by unfold wGr; rw [List.foldl_append]; rfl
theorem lastB_snoc (g : List Wi) (x : Wi) : lastB (g ++ [x]) = x.b := by unfold lastB; simp
theorem lastB_mem {g : List Wi} (h : g ≠ []) : ∃ y ∈ g, y.b = lastB g := by
  refine ⟨g.getLast h, List.getLast_mem h, ?_⟩
  unfold lastB
  rw [List.getLast?_eq_some_getLast h]
  rfl
def Apart (g : List Wi) : Prop := g.Pairwise fun x y => x.b < y.a
theorem wGr_all (l : List Wi) (hs : l.Pairwise fun x y => x.b ≤ y.b) (hw : ∀ x ∈ l, x.a ≤ x.b) :
    (∀ x ∈ wGr l, x ∈ l) ∧ Apart (wGr l) ∧ (∀ y ∈ wGr l, y.b ≤ lastB (wGr l)) ∧ ∀ x ∈ l, ∃ y ∈ wGr l, x.a ≤ y.b ∧ y.b ≤ x.b := by
  suffices h : ∀ k ≤ l.length, (∀ x ∈ wGr (l.take k), x ∈ l.take k) ∧ Apart (wGr (l.take k)) ∧ (∀ y ∈ wGr (l.take k), y.b ≤ lastB (wGr (l.take k))) ∧ ∀ x ∈ l.take k, ∃ y ∈ wGr (l.take k), x.a ≤ y.b ∧ y.b ≤ x.b by
    have := h l.length (Nat.le_refl _)
    rwa [List.take_length] at this
  intro k
  induction k with
  | zero =>
    intro _
    rw [List.take_zero]
    exact ⟨by simp [wGr], by simp [wGr, Apart], by simp [wGr], by simp⟩
  | succ k ih =>
    intro hk
    obtain ⟨i1, i2, i3, i4⟩ := ih (by omega)
    have ek : l.take (k + 1) = l.take k ++ [l[k]] := by rw [List.take_add_one, List.getElem?_eq_getElem (by omega)]; rfl
    have before : ∀ z ∈ l.take k, z.b ≤ l[k].b := fun z hz => by
      obtain ⟨j, hj, rfl⟩ := List.mem_iff_getElem.mp hz
      rw [List.length_take] at hj
      rw [List.getElem_take]
      exact List.pairwise_iff_getElem.mp hs j k (by omega) (by omega) (by omega)
    have hab := hw l[k] (List.getElem_mem (by omega))
    rw [ek, wGr_snoc]
    generalize l.take k = p at *
    generalize l[k] = x at *
    unfold wStep
    by_cases c : wGr p = [] ∨ lastB (wGr p) < x.a
    · rw [if_pos c]
      refine ⟨fun z hz => ?_, ?_, fun z hz => ?_, fun z hz => ?_⟩
      · rcases List.mem_append.mp hz with hz | hz
        · exact List.mem_append_left _ (i1 z hz)
        · exact List.mem_append_right _ hz
      · unfold Apart
        rw [List.pairwise_append]
        refine ⟨i2, by simp, fun z hz y hy => ?_⟩
        have : y = x := by simpa using hy
        subst this
        rcases c with c | c
        · rw [c] at hz; simp at hz
        · have := i3 z hz; omega
      · rw [lastB_snoc]
        rcases List.mem_append.mp hz with hz | hz
        · exact before z (i1 z hz)
        · have : z = x := by simpa using hz
          subst this
          exact Int.le_refl _
      · rcases List.mem_append.mp hz with hz | hz
        · obtain ⟨y, y1, y2⟩ := i4 z hz
          exact ⟨y, List.mem_append_left _ y1, y2⟩
        · have : z = x := by simpa using hz
          subst this
          exact ⟨z, by simp, hab, Int.le_refl _⟩
    · rw [if_neg c]
      have c1 : wGr p ≠ [] := fun e => c (.inl e)
      have c2 : ¬ lastB (wGr p) < x.a := fun e => c (.inr e)
      refine ⟨fun z hz => List.mem_append_left _ (i1 z hz), i2, i3, fun z hz => ?_⟩
      rcases List.mem_append.mp hz with hz | hz
      · exact i4 z hz
      · have : z = x := by simpa using hz
        subst this
        obtain ⟨y, y1, y2⟩ := lastB_mem c1
        exact ⟨y, y1, by omega, before y (i1 y y1)⟩
theorem hits : ∀ (g : List Wi) (S : List Int), Apart g → (∀ x ∈ g, ∃ c ∈ S, x.a ≤ c ∧ c ≤ x.b) → g.length ≤ S.length
  | [], S, _, _ => Nat.zero_le _
  | x :: g, S, h, hs => by
    have h' := List.pairwise_cons.mp h
    obtain ⟨c, c1, c2, c3⟩ := hs x (by simp)
    have ih := hits g (S.erase c) h'.2 fun y hy => by
      obtain ⟨d, d1, d2, d3⟩ := hs y (by simp [hy])
      have := h'.1 y hy
      have ne : d ≠ c := by omega
      exact ⟨d, (List.mem_erase_of_ne ne).mpr d1, d2, d3⟩
    rw [List.length_erase_of_mem c1] at ih
    have : 0 < S.length := List.length_pos_of_mem c1
    simp only [List.length_cons]
    omega
theorem as_many {l m : List Wi} (hl : l.Pairwise fun x y => x.b ≤ y.b) (hm : m.Pairwise fun x y => x.b ≤ y.b) (hw : ∀ x ∈ l, x.a ≤ x.b) (hp : ∀ x, x ∈ l ↔ x ∈ m) : (wGr l).length = (wGr m).length := by
  obtain ⟨a1, a2, _, a4⟩ := wGr_all l hl hw
  obtain ⟨b1, b2, _, b4⟩ := wGr_all m hm fun x hx => hw x ((hp x).mpr hx)
  have h1 := hits (wGr l) ((wGr m).map (·.b)) a2 fun x hx => by
    obtain ⟨y, y1, y2, y3⟩ := b4 x ((hp x).mp (a1 x hx))
    exact ⟨y.b, List.mem_map.mpr ⟨y, y1, rfl⟩, y2, y3⟩
  have h2 := hits (wGr m) ((wGr l).map (·.b)) b2 fun x hx => by
    obtain ⟨y, y1, y2, y3⟩ := a4 x ((hp x).mpr (b1 x hx))
    exact ⟨y.b, List.mem_map.mpr ⟨y, y1, rfl⟩, y2, y3⟩
  rw [List.length_map] at h1 h2
  omega
theorem wGr_len (l : List Wi) : (wGr l).length ≤ l.length := by
  unfold wGr
  have : ∀ (m : List Wi) (g : List Wi), (m.foldl wStep g).length ≤ g.length + m.length := by
    intro m
    induction m with
    | nil => intro g; simp
    | cons x m ih =>
      intro g
      rw [List.foldl_cons]
      have h1 := ih (wStep g x)
      have h2 : (wStep g x).length ≤ g.length + 1 := by unfold wStep; split <;> simp
      simp only [List.length_cons]
      omega
  have := this l []
  simpa using this
def wV (x : Wi) : List V := [.int x.a, .int x.b, .str x.l, .int x.n]
def keyV (x : Wi) : List V := [.int x.a, .str x.l, .int x.n]
theorem wV_eq (x : Wi) : eqVs (wV x) (wV x) = true := by simp [wV, eqVs, eqV]
def Ws (H : Hp) (W : Addr → Wi) (as : List Addr) : Prop := ∀ p ∈ as, H p = some (.tup (wV (W p))) ∧ (W p).a ≤ (W p).b ∧ (W p).b ≤ (W p).a + 1000000
theorem Ws.keep {H H' : Hp} {W : Addr → Wi} {as : List Addr} (h : Ws H W as) (s : Same H H') : Ws H' W as := fun p hp => ⟨s _ _ (h p hp).1, (h p hp).2⟩
def TWs (H : Hp) (as : List Addr) : Prop := ∀ p ∈ as, ∃ x, H p = some (.tup (wV x)) ∧ x.a ≤ x.b ∧ x.b ≤ x.a + 1000000
def wAt (H : Hp) (p : Addr) : Wi := match H p with
  | some (.tup [.int a, .int b, .str l, .int n]) => ⟨a, b, l, n⟩
  | _ => ⟨0, 0, Str.ofString "", 0⟩
theorem wAt_of {H : Hp} {p : Addr} {x : Wi} (h : H p = some (.tup (wV x))) : wAt H p = x := by
  unfold wAt
  rw [h]
  rfl
theorem TWs.ws {H : Hp} {as : List Addr} (h : TWs H as) : Ws H (wAt H) as := fun p hp => by
  obtain ⟨x, h1, h2⟩ := h p hp
  rw [wAt_of h1]
  exact ⟨h1, h2⟩
theorem paired_snoc {α β : Type} {F : α → β → Prop} : ∀ {l : List α} {m : List β} {a : α} {b : β}, Paired F l m → F a b → Paired F (l ++ [a]) (m ++ [b])
  | _, _, _, _, .nil, h => .cons h .nil
  | _, _, _, _, .cons r t, h => .cons r (paired_snoc t h)
theorem small60 {n : Nat} (h : n < 1000) : n < sizeLine := Nat.lt_of_lt_of_le h (by decide)
def spKey : Sp := fun vs H Q _ => ∃ p x, vs = [.ref p] ∧ H p = some (.tup (wV x)) ∧ ∀ q, H q = none → Q (.ref q) (upd H q (.tup (.int x.b :: keyV x)))
theorem ok_last_first {P : Program} {w : World} {K : PySem.W.Frag} {mg : Str → Option Value} {base : Heap} {A : Adr} (T : Txt K mg A) : FnOk P w K mg base CX0 1 A.f_last_first A.d_last_first ["wish"] (spKey) := by
  refine T.F_last_first.ok sc_last_first (fun vs H Q E h => ?_) (fun cdv Ar outer s H vs Q E hr h => ?_)
  · obtain ⟨p, x, rfl, hp, k⟩ := h
    rfl
  · obtain ⟨p, x, rfl, hp, k⟩ := h
    refine ⟨_, (pss_one (ps_ret (pe_tupS (pa_cons (pe_ix (ix_tupK K) (pv 0) pe_int (fun _ _ => rfl)) (pa_cons (pe_ix (ix_tupK K) (pv 0) pe_int (fun _ _ => rfl)) (pa_cons (pe_ix (ix_tupK K) (pv 0) pe_int (fun _ _ => rfl)) (pa_cons (pe_ix (ix_tupK K) (pv 0) pe_int (fun _ _ => rfl)) pa_nil))))))), ?_⟩
    exact ⟨_, rfl, p, _, _, _, rfl, rfl, SqT.of hp, atI_nat (j := 1) rfl, _, rfl, p, _, _, _, rfl, rfl, SqT.of hp, atI_nat (j := 0) rfl, _, rfl, p, _, _, _, rfl, rfl, SqT.of hp, atI_nat (j := 2) rfl, _, rfl, p, _, _, _, rfl, rfl, SqT.of hp, atI_nat (j := 3) rfl, (by show 4 ≤ 1000; decide), fun q hq => k q hq⟩
def Marked (H : Hp) (r q1 q2 : Addr) (ds : List Addr) (g : List Wi) : Prop := H r = some (.tup [.ref q1, .ref q2]) ∧ H q1 = some (.lst (g.map fun x => V.int x.b)) ∧ H q2 = some (.lst (ds.map V.ref)) ∧ Paired (fun d x => H d = some (.tup (wV x))) ds g
def spMarks (K : PySem.W.Frag) : Sp := fun vs H Q _ => ∃ (p : Addr) (as : List Addr) (W : Addr → Wi), vs = [.ref p] ∧ SqL K H p (as.map V.ref) ∧ as.length < 64 ∧ Ws H W as ∧
  ∀ (r q1 q2 : Addr) (bs ds : List Addr) (H' : Hp), Same H H' → H q1 = none → bs.Perm as → (bs.map W).Pairwise (fun x y => x.b ≤ y.b) → Marked H' r q1 q2 ds (wGr (bs.map W)) → Q (.ref r) H'
theorem ok_marks {P : Program} {w : World} {K : PySem.W.Frag} {mg : Str → Option Value} {base : Heap} {A : Adr} (T : Txt K mg A) : FnOk P w K mg base CX0 5 A.f_marks A.d_marks ["some"] (spMarks K) := by
  have G_last_first := ok_last_first (P := P) (w := w) (base := base) T
  refine T.F_marks.ok sc_marks (fun vs H Q E h => ?_) (fun cdv Ar outer s H vs Q E hr h => ?_)
  · obtain ⟨p, as, W, rfl, hS, h64, hW, k⟩ := h
    rfl
  · obtain ⟨p, as, W, rfl, hS, h64, hW, k⟩ := h
    refine ⟨_, (pss_cons (ps_set (i := 1) sc_marks.nd rfl (Or.inl rfl) (pe_lstS pa_nil))
      (pss_cons (ps_set (i := 2) sc_marks.nd rfl (Or.inl rfl) (pe_lstS pa_nil))
      (pss_cons (ps_for PassesOwn.never rfl (pi_listK K (pe_callBK (call_sortK K G_last_first (hr.mono (by decide)) T.bb_last_first pass0) (by rfl) T.b_sorted boot_sorted (pa_cons (pv 0) pa_nil) (pk_cons (pe_glob (v := V.ref _) (by rfl) T.m_last_first rfl) pk_nil))) (pg_name (i := 3) sc_marks.nd rfl (Or.inl rfl)) (pss_one (ps_if (PW.pt (pw_or (pt_cmpR op_eq (pe_callB (call_lenK K) (by rfl) T.b_len PySem.boot_len (pa_cons (pv 1) pa_nil)) pe_int (nomark _)) (pw_or1 (pt_cmpR op_gt (pe_ix (ix_tupK K) (pv 3) pe_int (fun _ _ => rfl)) (pe_ix (ix_listK K) (pv 1) (pe_un un_neg pe_int) (fun _ _ => rfl)) (nomark _))))) (pss_cons (ps_expr (pe_bm PySem.F.plainAttrs_list PySem.F.slot_list_append PySem.F.type_list_append mt_append (pv 1) (pa_cons (pe_ix (ix_tupK K) (pv 3) pe_int (fun _ _ => rfl)) pa_nil)))
      (pss_one (ps_expr (pe_bm PySem.F.plainAttrs_list PySem.F.slot_list_append PySem.F.type_list_append mt_append (pv 2) (pa_cons (pe_tupS (pa_cons (pe_ix (ix_tupK K) (pv 3) pe_int (fun _ _ => rfl)) (pa_cons (pe_ix (ix_tupK K) (pv 3) pe_int (fun _ _ => rfl)) (pa_cons (pe_ix (ix_tupK K) (pv 3) pe_int (fun _ _ => rfl)) (pa_cons (pe_ix (ix_tupK K) (pv 3) pe_int (fun _ _ => rfl)) pa_nil))))) pa_nil))))) pss_nil)))
      (pss_one (ps_ret (pe_tupS (pa_cons (pv 1) (pa_cons (pv 2) pa_nil)))))))), ?_⟩
    refine seq_cut2 (fun σ' H' => ∃ q1 q2, σ' = [some (.ref p), some (.ref q1), some (.ref q2), none] ∧ H q1 = none ∧ H q2 = none ∧ q2 ≠ q1 ∧ Same H H' ∧ H' q1 = some (.lst []) ∧ H' q2 = some (.lst [])) (fun N hN => ?_) ?_
    · refine ⟨by decide, fun q1 hq1 => ⟨by decide, fun q2 hq2 => ?_⟩⟩
      have n21 : q2 ≠ q1 := by rintro rfl; rw [upd_same] at hq2; cases hq2
      have hq2' : H q2 = none := by rw [upd_ne n21] at hq2; exact hq2
      exact hN _ _ ⟨q1, q2, rfl, hq1, hq2', n21, (Same.new hq1).upd hq2', by rw [upd_ne n21.symm]; exact upd_same, upd_same⟩
    rintro σ' H2 ⟨q1, q2, rfl, hq1, hq2', n21, s0, e1, e2⟩
    refine seq_cut (fun σ' H' => ∃ (v3 : Option V) (bs ds : List Addr), σ' = [some (.ref p), some (.ref q1), some (.ref q2), v3] ∧ bs.Perm as ∧ (bs.map W).Pairwise (fun x y => x.b ≤ y.b) ∧ Same H H' ∧ H' q1 = some (.lst ((wGr (bs.map W)).map fun x => V.int x.b)) ∧ H' q2 = some (.lst (ds.map V.ref)) ∧ Paired (fun d x => H' d = some (.tup (wV x))) ds (wGr (bs.map W))) (fun N hN => ?_) ?_
    · refine ⟨_, rfl, p, as.map V.ref, [true, false, true], (fun v => match v with | .ref a => (W a).b | _ => 0), (fun v => match v with | .ref a => keyV (W a) | _ => []), rfl, rfl, s0.seq hS, (by rw [List.length_map]; exact h64), fun x hx => ?_, fun x hx H' Q' sm q => ?_, fun D out H3 hD sm hDl hp hpw => ?_⟩
      · obtain ⟨a, ha, rfl⟩ := List.mem_map.mp hx
        exact ⟨⟨_, rfl⟩, ⟨_, rfl⟩, ⟨_, rfl⟩, trivial⟩
      · obtain ⟨a, ha, rfl⟩ := List.mem_map.mp hx
        exact ⟨a, W a, rfl, sm _ _ (s0 _ _ (hW a ha).1), fun z hz => q z _ (Same.new hz) upd_same⟩
      obtain ⟨bs, rfl, hb⟩ := LS.perm_map_inv hp
      rw [List.pairwise_map] at hpw
      have hpw' : (bs.map W).Pairwise (fun x y => x.b ≤ y.b) := by rw [List.pairwise_map]; exact hpw
      have hbl : bs.length < 64 := by rw [hb.length_eq]; exact h64
      refine ⟨D, rfl, ⟨_, SqL.of hDl⟩, ?_⟩
      have nD1 : D ≠ q1 := fun z => by subst z; rw [e1] at hD; cases hD
      have nD2 : D ≠ q2 := fun z => by subst z; rw [e2] at hD; cases hD
      refine for_list (K := K) (a := D) (xs := bs.map V.ref) (fun i σ H' => ∃ (v3 : Option V) (ds : List Addr), σ = [some (.ref p), some (.ref q1), some (.ref q2), v3] ∧ Same H H' ∧ H' D = some (.lst (bs.map V.ref)) ∧ H' q1 = some (.lst ((wGr ((bs.take i).map W)).map fun x => V.int x.b)) ∧ H' q2 = some (.lst (ds.map V.ref)) ∧ Paired (fun d x => H' d = some (.tup (wV x))) ds (wGr ((bs.take i).map W))) ?_ ?_ ?_ ?_
      · exact ⟨_, [], rfl, s0.trans sm, hDl, sm _ _ e1, sm _ _ e2, .nil⟩
      · rintro i σ H4 _ ⟨v3, ds, _, _, g0, _⟩
        exact SqL.of g0
      · rintro i x σ H4 hi ⟨v3, ds, rfl, sm4, g0, g1, g2, g3⟩
        rw [List.getElem?_map] at hi
        obtain ⟨b, hbi, rfl⟩ : ∃ b, bs[i]? = some b ∧ V.ref b = x := by
          cases h : bs[i]? with
          | none => rw [h] at hi; cases hi
          | some b => rw [h] at hi; exact ⟨b, rfl, by simpa using hi⟩
        have hb4 : H4 b = some (.tup (wV (W b))) := sm4 _ _ (hW b (hb.mem_iff.mp (List.mem_of_getElem? hbi))).1
        have hg' : wGr ((bs.take (i + 1)).map W) = wStep (wGr ((bs.take i).map W)) (W b) := by
          rw [List.take_add_one, hbi, List.map_append]; exact wGr_snoc _ _
        have hgl : (wGr ((bs.take i).map W)).length < 64 := by
          have := wGr_len ((bs.take i).map W)
          rw [List.length_map, List.length_take] at this
          omega
        rw [hg']
        generalize wGr ((bs.take i).map W) = g at g1 g3 hgl ⊢
        have hdl : ds.length = g.length := Paired.length g3
        have skip : ¬ (g = [] ∨ lastB g < (W b).a) → ∃ (v3 : Option V) (ds' : List Addr), [some (V.ref p), some (.ref q1), some (.ref q2), some (V.ref b)] = [some (V.ref p), some (.ref q1), some (.ref q2), v3] ∧ Same H H4 ∧ H4 D = some (.lst (bs.map V.ref)) ∧ H4 q1 = some (.lst ((wStep g (W b)).map fun x => V.int x.b)) ∧ H4 q2 = some (.lst (ds'.map V.ref)) ∧ Paired (fun d x => H4 d = some (.tup (wV x))) ds' (wStep g (W b)) := fun c => by
          unfold wStep
          rw [if_neg c]
          exact ⟨_, ds, rfl, sm4, g0, g1, g2, g3⟩
        have fin : (g = [] ∨ lastB g < (W b).a) → ∀ z, (upd H4 q1 (.lst (g.map (fun x => V.int x.b) ++ [V.int (W b).b]))) z = none → ∃ (v3 : Option V) (ds' : List Addr), [some (V.ref p), some (.ref q1), some (.ref q2), some (V.ref b)] = [some (V.ref p), some (.ref q1), some (.ref q2), v3] ∧ Same H (upd (upd (upd H4 q1 (.lst (g.map (fun x => V.int x.b) ++ [V.int (W b).b]))) z (.tup (wV (W b)))) q2 (.lst (ds.map V.ref ++ [V.ref z]))) ∧
            (upd (upd (upd H4 q1 (.lst (g.map (fun x => V.int x.b) ++ [V.int (W b).b]))) z (.tup (wV (W b)))) q2 (.lst (ds.map V.ref ++ [V.ref z]))) D = some (.lst (bs.map V.ref)) ∧ (upd (upd (upd H4 q1 (.lst (g.map (fun x => V.int x.b) ++ [V.int (W b).b]))) z (.tup (wV (W b)))) q2 (.lst (ds.map V.ref ++ [V.ref z]))) q1 = some (.lst ((wStep g (W b)).map fun x => V.int x.b)) ∧
            (upd (upd (upd H4 q1 (.lst (g.map (fun x => V.int x.b) ++ [V.int (W b).b]))) z (.tup (wV (W b)))) q2 (.lst (ds.map V.ref ++ [V.ref z]))) q2 = some (.lst (ds'.map V.ref)) ∧ Paired (fun d x => (upd (upd (upd H4 q1 (.lst (g.map (fun x => V.int x.b) ++ [V.int (W b).b]))) z (.tup (wV (W b)))) q2 (.lst (ds.map V.ref ++ [V.ref z]))) d = some (.tup (wV x))) ds' (wStep g (W b)) := fun cc z hz => by
          have nz1 : z ≠ q1 := by rintro rfl; rw [upd_same] at hz; cases hz
          rw [upd_ne nz1] at hz
          have nz2 : q2 ≠ z := ne_of_none g2 hz
          have nDz : D ≠ z := ne_of_none g0 hz
          unfold wStep
          rw [if_pos cc]
          refine ⟨_, ds ++ [z], rfl, ((sm4.upd hq1).upd (sm4.none hz)).upd hq2', ?_, ?_, ?_, paired_snoc (Paired.mapP g3 fun d x e => ?_) ?_⟩
          · rw [upd_ne nD2, upd_ne nDz, upd_ne nD1]; exact g0
          · rw [upd_ne n21.symm, upd_ne nz1.symm, upd_same, List.map_append]; rfl
          · rw [upd_same, List.map_append]; rfl
          · rw [upd_ne (ne_of e g2 (by intro y; cases y)), upd_ne (ne_of_none e hz), upd_ne (ne_of e g1 (by intro y; cases y))]; exact e
          · rw [upd_ne nz2.symm]; exact upd_same
        have g2' : (upd H4 q1 (.lst (g.map (fun x => V.int x.b) ++ [V.int (W b).b]))) q2 = some (.lst (ds.map V.ref)) := by rw [upd_ne n21]; exact g2
        have b5 : (upd H4 q1 (.lst (g.map (fun x => V.int x.b) ++ [V.int (W b).b]))) b = some (.tup (wV (W b))) := by rw [upd_ne (ne_of hb4 g1 (by intro y; cases y))]; exact hb4
        refine ⟨_, rfl, q1, _, rfl, .inl (SqL.of g1), rfl, _, rfl, ite2 (fun e => ?b1) (fun e => ?b0)⟩
        case b0 =>
          have e' : g ≠ [] := fun z => e (by subst z; rfl)
          obtain ⟨g', y, rfl⟩ : ∃ g' y, g = g' ++ [y] := by
            rcases List.eq_nil_or_concat g with z | ⟨g', y, z⟩
            · exact absurd z e'
            · exact ⟨g', y, by rw [z, List.concat_eq_append]⟩
          have eL : lastB (g' ++ [y]) = y.b := lastB_snoc _ _
          refine ⟨_, rfl, b, _, _, _, rfl, rfl, SqT.of hb4, atI_nat (j := 0) rfl, _, rfl, _, rfl, q1, _, _, _, rfl, rfl, SqL.of g1, (by rw [List.map_append]; exact atI_last _ _), _, _, rfl, rfl, _, rfl, ite2 (fun e2 => ?b2) (fun e2 => ?b3)⟩
          case b3 =>
            refine skip fun z => ?_
            rcases z with z | z
            · exact e' z
            · rw [eL] at z
              exact e2 (decide_eq_true z)
          case b2 =>
            have cc : g' ++ [y] = [] ∨ lastB (g' ++ [y]) < (W b).a := .inr (by rw [eL]; exact of_decide_eq_true e2)
            refine ⟨_, rfl, .inl ⟨rfl, _, SqL.of g1⟩, _, rfl, b, _, _, _, rfl, rfl, SqT.of hb4, atI_nat (j := 1) rfl, q1, _, _, rfl, rfl, g1, small60 (by rw [List.length_map]; omega), ?_⟩
            refine ⟨_, rfl, .inl ⟨rfl, _, SqL.of g2'⟩, _, rfl, b, _, _, _, rfl, rfl, SqT.of b5, atI_nat (j := 0) rfl, _, rfl, b, _, _, _, rfl, rfl, SqT.of b5, atI_nat (j := 1) rfl, _, rfl, b, _, _, _, rfl, rfl, SqT.of b5, atI_nat (j := 2) rfl, _, rfl, b, _, _, _, rfl, rfl, SqT.of b5, atI_nat (j := 3) rfl, (by show 4 ≤ 1000; decide), fun z hz => ?_⟩
            exact ⟨q2, _, V.ref z, rfl, rfl, (Same.new hz) _ _ g2', small60 (by rw [List.length_map]; omega), fin cc z hz⟩
        case b1 =>
          have cc : g = [] ∨ lastB g < (W b).a := .inl (by
            have := of_decide_eq_true e
            have := V.int.inj this
            rw [List.length_map] at this
            exact List.length_eq_zero_iff.mp (by omega))
          refine ⟨_, rfl, .inl ⟨rfl, _, SqL.of g1⟩, _, rfl, b, _, _, _, rfl, rfl, SqT.of hb4, atI_nat (j := 1) rfl, q1, _, _, rfl, rfl, g1, small60 (by rw [List.length_map]; omega), ?_⟩
          refine ⟨_, rfl, .inl ⟨rfl, _, SqL.of g2'⟩, _, rfl, b, _, _, _, rfl, rfl, SqT.of b5, atI_nat (j := 0) rfl, _, rfl, b, _, _, _, rfl, rfl, SqT.of b5, atI_nat (j := 1) rfl, _, rfl, b, _, _, _, rfl, rfl, SqT.of b5, atI_nat (j := 2) rfl, _, rfl, b, _, _, _, rfl, rfl, SqT.of b5, atI_nat (j := 3) rfl, (by show 4 ≤ 1000; decide), fun z hz => ?_⟩
          exact ⟨q2, _, V.ref z, rfl, rfl, (Same.new hz) _ _ g2', small60 (by rw [List.length_map]; omega), fin cc z hz⟩
      · rintro σ H4 ⟨v3, ds, rfl, sm4, g0, g1, g2, g3⟩
        rw [List.length_map, List.take_length] at g1 g3
        exact hN _ _ ⟨_, bs, ds, rfl, hb, hpw', sm4, g1, g2, g3⟩
    rintro σ' H3 ⟨v3, bs, ds, rfl, hb, hpw, sm, g1, g2, g3⟩
    refine ⟨_, rfl, _, rfl, (by show 2 ≤ 1000; decide), fun r hr => ?_⟩
    exact k r q1 q2 bs ds _ (sm.upd (sm.none hr)) hq1 hb hpw ⟨upd_same, (Same.new hr) _ _ g1, (Same.new hr) _ _ g2, Paired.mapP g3 fun d x e => (Same.new hr) _ _ e⟩
theorem cell_at {ns : List Int} {i : Nat} (h : i < ns.length) : atI (ns.map V.int) (i : Int) = some (.int ns[i]) := atI_nat (by rw [List.getElem?_map, List.getElem?_eq_getElem h]; rfl)
def spDrawn (K : PySem.W.Frag) : Sp := fun vs H Q _ => ∃ (a : Addr) (ns : List Int) (i : Nat), vs = [.ref a, .int (i : Int)] ∧ SqL K H a (ns.map V.int) ∧ i < ns.length ∧ ns.length ≤ 63 ∧ ∀ n, 0 ≤ n → Q (.int n) H
theorem ok_law_drawn {P : Program} {w : World} {K : PySem.W.Frag} {mg : Str → Option Value} {base : Heap} {A : Adr} (T : Txt K mg A) : FnOk P w K mg base CX0 1 A.f_law_drawn A.d_law_drawn ["_law_script", "_law_k"] (spDrawn K) := by
  refine T.F_law_drawn.ok sc_law_drawn (fun vs H Q E h => ?_) (fun cdv Ar outer s H vs Q E hr h => ?_)
  · obtain ⟨a, ns, i, rfl, hS, hi, hlen, k⟩ := h
    rfl
  · obtain ⟨a, ns, i, rfl, hS, hi, hlen, k⟩ := h
    refine ⟨_, (pss_one (ps_ret (pe_op op_mod (pe_op op_mul (pe_op op_add (pe_ix (ix_listK K) (pv 0) (pv 1) (fun _ _ => rfl)) pe_int) (pe_op op_add pe_int (pe_op op_mul (pe_op op_mul pe_int (pv 1)) (pv 1)))) pe_int))), ?_⟩
    have ha := cell_at hi
    have kk : (i : Int) * i ≤ 3844 := by
      have : i * i ≤ 62 * 62 := Nat.mul_le_mul (by omega) (by omega)
      have e : ((i * i : Nat) : Int) = (i : Int) * i := by push_cast; rfl
      omega
    have k0 : 0 ≤ (i : Int) * i := Int.mul_nonneg (by omega) (by omega)
    have e3 : 7919 * (i : Int) * i = 7919 * ((i : Int) * i) := Int.mul_assoc _ _ _
    refine ⟨_, rfl, _, rfl, a, _, _, _, rfl, rfl, hS, ha, _, _, rfl, rfl, _, rfl, _, _, rfl, rfl, .inl ⟨by decide, by decide⟩, _, rfl, _, _, rfl, rfl, .inr ⟨by omega, by omega⟩, _, _, rfl, rfl, _, _, rfl, rfl, .inr ⟨?_, ?_⟩, _, _, rfl, rfl, (by show (0 : Int) < 2147483629; decide), k _ (Int.emod_nonneg _ (by decide))⟩
    · show -(2 ^ 64) < 48271 + 7919 * (i : Int) * i
      rw [e3]; omega
    · show 48271 + 7919 * (i : Int) * i < 2 ^ 64
      rw [e3]; omega
def spWh : Sp := fun vs H Q _ => ∃ n : Int, vs = [.int n] ∧ Q (.bl true) H
theorem ok_law_whole {P : Program} {w : World} {K : PySem.W.Frag} {mg : Str → Option Value} {base : Heap} {A : Adr} (T : Txt K mg A) : FnOk P w K mg base CX0 1 A.f_law_whole A.d_law_whole ["_law_found"] (spWh) := by
  refine T.F_law_whole.ok sc_law_whole (fun vs H Q E h => ?_) (fun cdv Ar outer s H vs Q E hr h => ?_)
  · obtain ⟨n, rfl, k⟩ := h
    rfl
  · obtain ⟨n, rfl, k⟩ := h
    refine ⟨_, (pss_one (ps_ret (pe_and (pe_callB (call_isiT K) (by rfl) T.b_isinstance boot_isinstance (pa_cons (pv 0) (pa_cons (pe_ty (by rfl) T.b_int boot_int) pa_nil))) (pe_one (pe_not (pe_callB (call_isiT K) (by rfl) T.b_isinstance boot_isinstance (pa_cons (pv 0) (pa_cons (pe_ty (by rfl) T.b_bool boot_bool) pa_nil)))))))), ?_⟩
    refine ⟨_, rfl, _, _, _, _, rfl, .int n, kit_sub (.inr (.inr (.inl rfl))) (.inl rfl), _, rfl, iteT ?_⟩
    exact ⟨_, rfl, _, _, _, _, rfl, .int n, kit_sub (.inr (.inr (.inl rfl))) (.inr (.inl rfl)), _, rfl, k⟩
theorem menu3 {i : Int} (h0 : 0 ≤ i) (h1 : i < 3) : ∃ l, atI [V.str (Str.ofString "a"), V.str (Str.ofString "ab"), V.str (Str.ofString "b")] i = some (.str l) := by
  have : i = 0 ∨ i = 1 ∨ i = 2 := by omega
  rcases this with rfl | rfl | rfl
  · exact ⟨_, atI_nat (j := 0) rfl⟩
  · exact ⟨_, atI_nat (j := 1) rfl⟩
  · exact ⟨_, atI_nat (j := 2) rfl⟩
def spWish : Sp := fun vs H Q _ => ∃ n o : Int, vs = [.int n, .int o] ∧ ∀ (q : Addr) (x : Wi) (H' : Hp), H q = none → Same H H' → H' q = some (.tup (wV x)) → x.a ≤ x.b → x.b ≤ x.a + 1000000 → Q (.ref q) H'
theorem ok_law_wish {P : Program} {w : World} {K : PySem.W.Frag} {mg : Str → Option Value} {base : Heap} {A : Adr} (T : Txt K mg A) : FnOk P w K mg base CX0 1 A.f_law_wish A.d_law_wish ["_law_number", "_law_other"] (spWish) := by
  refine T.F_law_wish.ok sc_law_wish (fun vs H Q E h => ?_) (fun cdv Ar outer s H vs Q E hr h => ?_)
  · obtain ⟨n, o, rfl, k⟩ := h
    rfl
  · obtain ⟨n, o, rfl, k⟩ := h
    refine ⟨_, (pss_cons (ps_set (i := 2) sc_law_wish.nd rfl (Or.inl rfl) (pe_op op_add pe_int (pe_op op_mod (pv 0) pe_int)))
      (pss_cons (ps_if (pt_cmpR op_eq (pe_op op_mod (pe_op op_fdivL (pv 0) pe_int) pe_int) pe_int (nomark _)) (pss_one (ps_set (i := 2) sc_law_wish.nd rfl (Or.inl rfl) (pe_op op_add pe_int (pe_op op_mod (pe_op op_fdivL (pv 0) pe_int) (pe_op op_mul pe_int (pe_op op_powS pe_int pe_int)))))) pss_nil)
      (pss_cons (ps_set (i := 3) sc_law_wish.nd rfl (Or.inl rfl) (pe_op op_add (pv 2) (pe_op op_mod (pe_op op_fdivL (pv 1) pe_int) pe_int)))
      (pss_cons (ps_if (pt_cmpR op_eq (pe_op op_mod (pe_op op_fdivL (pv 1) pe_int) pe_int) pe_int (nomark _)) (pss_one (ps_set (i := 3) sc_law_wish.nd rfl (Or.inl rfl) (pe_op op_add (pv 2) (pe_op op_mod (pe_op op_fdivL (pv 1) pe_int) (pe_op op_powS pe_int pe_int))))) pss_nil)
      (pss_cons (ps_set (i := 4) sc_law_wish.nd rfl (Or.inl rfl) (pe_op op_fdivL (pv 1) (pe_op op_mul pe_int (pe_op op_powS pe_int pe_int))))
      (pss_cons (ps_set (i := 5) sc_law_wish.nd rfl (Or.inl rfl) (pe_ix (ix_listK K) (pe_lstS (pa_cons pe_str (pa_cons pe_str (pa_cons pe_str pa_nil)))) (pe_op op_mod (pe_op op_add (pe_op op_fdivL (pv 1) pe_int) (pv 4)) pe_int) (fun _ _ => rfl)))
      (pss_one (ps_ret (pe_tupS (pa_cons (pv 2) (pa_cons (pv 3) (pa_cons (pv 5) (pa_cons (pe_op op_add (pe_op op_add (pv 3) pe_int) (pe_op op_mod (pe_op op_add (pe_op op_fdivL (pv 1) pe_int) (pe_op op_fdivL (pv 4) pe_int)) pe_int)) pa_nil))))))))))))), ?_⟩
    refine seq_cut2 (fun σ' H' => ∃ f : Int, σ' = [some (.int n), some (.int o), some (.int f), none, none, none] ∧ H' = H) (fun N hN => ?_) ?_
    · refine ⟨_, rfl, _, _, rfl, rfl, (by show (0 : Int) < 40; decide), _, _, rfl, rfl, ?_⟩
      refine ⟨_, rfl, _, _, rfl, rfl, ⟨by decide, by decide⟩, _, _, rfl, rfl, (by show (0 : Int) < 5; decide), rfl, _, rfl, ite2 (fun _ => ?_) (fun _ => hN _ _ ⟨_, rfl, rfl⟩)⟩
      exact ⟨_, rfl, _, _, rfl, rfl, ⟨by decide, by decide⟩, _, _, rfl, rfl, ⟨by decide, by decide, by decide, by decide⟩, _, _, rfl, rfl, .inl ⟨by decide, by decide⟩, _, _, rfl, rfl, (by show (0 : Int) < 998 * 10 ^ 6; decide), _, _, rfl, rfl, hN _ _ ⟨_, rfl, rfl⟩⟩
    rintro σ' H1 ⟨f, rfl, rfl⟩
    refine seq_cut2 (fun σ' H' => ∃ b : Int, σ' = [some (.int n), some (.int o), some (.int f), some (.int b), none, none] ∧ H' = H1 ∧ f ≤ b ∧ b ≤ f + 1000000) (fun N hN => ?_) ?_
    · refine ⟨_, rfl, _, rfl, _, _, rfl, rfl, ⟨by decide, by decide⟩, _, _, rfl, rfl, (by show (0 : Int) < 10; decide), _, _, rfl, rfl, ?_⟩
      refine ⟨_, rfl, _, _, rfl, rfl, ⟨by decide, by decide⟩, _, _, rfl, rfl, (by show (0 : Int) < 7; decide), rfl, _, rfl, ite2 (fun _ => ?_) (fun _ => hN _ _ ⟨_, rfl, rfl, by omega, by omega⟩)⟩
      refine ⟨_, rfl, _, rfl, _, _, rfl, rfl, ⟨by decide, by decide⟩, _, _, rfl, rfl, ⟨by decide, by decide, by decide, by decide⟩, _, _, rfl, rfl, (by show (0 : Int) < 10 ^ 6; decide), _, _, rfl, rfl, hN _ _ ⟨_, rfl, rfl, ?_, ?_⟩⟩
      · have := Int.emod_nonneg (o / 490) (show (10 : Int) ^ Int.toNat 6 ≠ 0 by decide)
        omega
      · have := Int.emod_lt_of_pos (o / 490) (show (0 : Int) < 10 ^ Int.toNat 6 by decide)
        have e6 : (10 : Int) ^ Int.toNat 6 = 1000000 := by decide
        rw [e6] at this ⊢
        omega
    rintro σ' H2 ⟨b, rfl, rfl, f0, f1⟩
    refine seq_cut (fun σ' H' => ∃ m : Int, σ' = [some (.int n), some (.int o), some (.int f), some (.int b), some (.int m), none] ∧ H' = H2) (fun N hN => ?_) ?_
    · exact ⟨_, rfl, _, _, rfl, rfl, ⟨by decide, by decide, by decide, by decide⟩, _, _, rfl, rfl, .inl ⟨by decide, by decide⟩, _, _, rfl, rfl, ⟨by decide, by decide⟩, hN _ _ ⟨_, rfl, rfl⟩⟩
    rintro σ' H3 ⟨m, rfl, rfl⟩
    obtain ⟨l, hl⟩ := menu3 (Int.emod_nonneg (o / 11 + m) (show (3 : Int) ≠ 0 by decide)) (Int.emod_lt_of_pos (o / 11 + m) (show (0 : Int) < 3 by decide))
    refine ⟨(by show 3 ≤ 1000; decide), fun L hL => ?_⟩
    refine ⟨_, rfl, _, _, rfl, rfl, ⟨by decide, by decide⟩, _, rfl, _, _, rfl, rfl, _, _, rfl, rfl, (by show (0 : Int) < 3; decide), L, _, _, _, rfl, rfl, SqL.of upd_same, hl, ?_⟩
    refine ⟨_, rfl, _, rfl, _, rfl, _, rfl, _, _, rfl, rfl, _, rfl, _, _, rfl, rfl, ⟨by decide, by decide⟩, _, rfl, _, _, rfl, rfl, ⟨by decide, by decide⟩, _, _, rfl, rfl, _, _, rfl, rfl, (by show (0 : Int) < 5; decide), _, _, rfl, rfl, (by show 4 ≤ 1000; decide), fun q hq => ?_⟩
    exact k q ⟨f, b, l, _⟩ _ ((Same.new hL).none hq) ((Same.new hL).trans (Same.new hq)) upd_same f0 f1
def spWishes (K : PySem.W.Frag) : Sp := fun vs H Q _ => ∃ (a : Addr) (ns : List Int), vs = [.ref a] ∧ SqL K H a (ns.map V.int) ∧ ns.length ≤ 63 ∧ ∀ (S : Addr) (as : List Addr) (H' : Hp), H S = none → Same H H' → H' S = some (.lst (as.map V.ref)) → as.length ≤ 60 → as.length ≤ ns.length → TWs H' as → Q (.ref S) H'
theorem ok_law_wishes {P : Program} {w : World} {K : PySem.W.Frag} {mg : Str → Option Value} {base : Heap} {A : Adr} (T : Txt K mg A) : FnOk P w K mg base CX0 2 A.f_law_wishes A.d_law_wishes ["_law_script"] (spWishes K) := by
  have G_law_drawn := ok_law_drawn (P := P) (w := w) (base := base) T
  have G_law_wish := ok_law_wish (P := P) (w := w) (base := base) T
  refine T.F_law_wishes.ok sc_law_wishes (fun vs H Q E h => ?_) (fun cdv Ar outer s H vs Q E hr h => ?_)
  · obtain ⟨a, ns, rfl, hS, hlen, k⟩ := h
    rfl
  · obtain ⟨a, ns, rfl, hS, hlen, k⟩ := h
    refine ⟨_, (pss_cons (ps_set (i := 1) sc_law_wishes.nd rfl (Or.inl rfl) (pe_lstS pa_nil))
      (pss_cons (ps_for PassesOwn.never rfl (pi_range1 (by rfl) T.b_range (pa_cons (pe_callB (call_min2 rfl) (by rfl) T.b_min boot_min (pa_cons (pe_callB (call_lenK K) (by rfl) T.b_len PySem.boot_len (pa_cons (pv 0) pa_nil)) (pa_cons pe_int pa_nil))) pa_nil)) (pg_name (i := 2) sc_law_wishes.nd rfl (Or.inl rfl)) (pss_cons (ps_set (i := 3) sc_law_wishes.nd rfl (Or.inl rfl) (pe_call G_law_drawn (hr.mono (by decide)) (by rfl) T.m_law_drawn T.F_law_drawn.kp T.bb_law_drawn .nil pass0 (pa_cons (pv 0) (pa_cons (pv 2) pa_nil))))
      (pss_cons (ps_set (i := 4) sc_law_wishes.nd rfl (Or.inl rfl) (pv 3))
      (pss_cons (ps_set (i := 5) sc_law_wishes.nd rfl (Or.inl rfl) (pe_op op_fdivL (pv 3) pe_int))
      (pss_cons (ps_if (PW.pt (pw_and (pt_cmpR op_eq (pe_op op_mod (pe_ix (ix_listK K) (pv 0) pe_int (fun _ _ => rfl)) pe_int) pe_int (nomark _)) (pw_and1 (pt_cmpR op_gt (pe_ix (ix_listK K) (pv 0) (pv 2) (fun _ _ => rfl)) (pe_op op_powS pe_int pe_int) (nomark _))))) (pss_cons (ps_set (i := 3) sc_law_wishes.nd rfl (Or.inl rfl) (pe_op op_mod (pe_ix (ix_listK K) (pv 0) (pv 2) (fun _ _ => rfl)) (pe_op op_mul pe_int (pe_op op_powS pe_int pe_int))))
      (pss_cons (ps_set (i := 4) sc_law_wishes.nd rfl (Or.inl rfl) (pe_op op_mod (pe_op op_fdivL (pe_ix (ix_listK K) (pv 0) (pv 2) (fun _ _ => rfl)) (pe_op op_mul pe_int (pe_op op_powS pe_int pe_int))) (pe_op op_powS pe_int pe_int)))
      (pss_one (ps_set (i := 5) sc_law_wishes.nd rfl (Or.inl rfl) (pe_op op_fdivL (pe_ix (ix_listK K) (pv 0) (pv 2) (fun _ _ => rfl)) (pe_op op_powS pe_int pe_int)))))) pss_nil)
      (pss_one (ps_if (PW.pt (pw_and (pt_cmpR op_eq (pe_op op_mod (pv 5) pe_int) pe_int (nomark _)) (pw_and1 (pt_cmpR (op_neE K hr.units) (pv 1) (pe_lstS pa_nil) (nomark _))))) (pss_one (ps_expr (pe_bm PySem.F.plainAttrs_list PySem.F.slot_list_append PySem.F.type_list_append mt_append (pv 1) (pa_cons (pe_ix (ix_listK K) (pv 1) (pe_op op_mod (pe_op op_fdivL (pv 5) pe_int) (pe_callB (call_lenK K) (by rfl) T.b_len PySem.boot_len (pa_cons (pv 1) pa_nil))) (fun _ _ => rfl)) pa_nil)))) (pss_one (ps_expr (pe_bm PySem.F.plainAttrs_list PySem.F.slot_list_append PySem.F.type_list_append mt_append (pv 1) (pa_cons (pe_call G_law_wish (hr.mono (by decide)) (by rfl) T.m_law_wish T.F_law_wish.kp T.bb_law_wish .nil pass0 (pa_cons (pv 3) (pa_cons (pv 4) pa_nil))) pa_nil)))))))))))
      (pss_one (ps_ret (pv 1))))), ?_⟩
    refine ⟨by decide, fun S hSn => ?_⟩
    have s0 : Same H (upd H S (.lst [])) := Same.new hSn
    refine ⟨_, rfl, a, _, rfl, .inl (s0.seq hS), _, _, rfl, ?_⟩
    rw [List.length_map]
    obtain ⟨m, hm, m1, m2⟩ : ∃ m : Nat, (if (60 : Int) < (ns.length : Int) then (60 : Int) else (ns.length : Int)) = (m : Int) ∧ m ≤ 60 ∧ m ≤ ns.length := by
      by_cases c : (60 : Int) < (ns.length : Int)
      · exact ⟨60, by rw [if_pos c]; rfl, by omega, by omega⟩
      · exact ⟨ns.length, by rw [if_neg c], by omega, by omega⟩
    rw [hm]
    refine ⟨_, rfl, by omega, by omega, ?_⟩
    refine for_range (n := (m : Int).toNat) (fun i σ H' => ∃ (v1 v2 v3 v4 : Option V) (as : List Addr), σ = [some (.ref a), some (.ref S), v1, v2, v3, v4] ∧ Same H H' ∧ H' S = some (.lst (as.map V.ref)) ∧ as.length = i ∧ TWs H' as) ?_ ?_ ?_
    · exact ⟨_, _, _, _, [], rfl, s0, upd_same, rfl, fun p hp => by simp at hp⟩
    · rintro i σ H5 hi ⟨v1, v2, v3, v4, as, rfl, sm, g1, gl, gw⟩
      have hi' : i < ns.length := by omega
      have ha : atI (ns.map V.int) (0 + (i : Int)) = some (.int ns[i]) := by rw [Int.zero_add]; exact cell_at hi'
      have h0 : atI (ns.map V.int) 0 = some (.int ns[0]) := cell_at (i := 0) (by omega)
      refine seq_cut4 (fun σ' H' => ∃ n o t : Int, σ' = [some (.ref a), some (.ref S), some (.int (0 + (i : Int))), some (.int n), some (.int o), some (.int t)] ∧ H' = H5) (fun N hN => ?_) ?_
      · refine ⟨_, rfl, _, rfl, a, ns, i, (by rw [Int.zero_add]; rfl), sm.seq hS, hi', hlen, fun n _ => ?_⟩
        refine ⟨_, rfl, ?_⟩
        refine ⟨_, rfl, _, _, rfl, rfl, ⟨by decide, by decide⟩, ?_⟩
        refine ⟨_, rfl, a, _, _, _, rfl, rfl, sm.seq hS, h0, _, _, rfl, rfl, (by show (0 : Int) < 2; decide), rfl, _, rfl, ?_⟩
        refine ite2 (fun _ => ?_) (fun _ => iteF (hN _ _ ⟨_, _, _, rfl, rfl⟩))
        refine ⟨_, rfl, _, rfl, a, _, _, _, rfl, rfl, sm.seq hS, ha, _, _, rfl, rfl, ⟨by decide, by decide, by decide, by decide⟩, _, _, rfl, rfl, _, rfl, ?_⟩
        refine ite2 (fun _ => ?_) (fun _ => hN _ _ ⟨_, _, _, rfl, rfl⟩)
        refine ⟨_, rfl, _, rfl, a, _, _, _, rfl, rfl, sm.seq hS, ha, _, _, rfl, rfl, ⟨by decide, by decide, by decide, by decide⟩, _, _, rfl, rfl, .inl ⟨by decide, by decide⟩, _, _, rfl, rfl, (by show (0 : Int) < 2 * 10 ^ 11; decide), ?_⟩
        refine ⟨_, rfl, _, rfl, a, _, _, _, rfl, rfl, sm.seq hS, ha, _, _, rfl, rfl, ⟨by decide, by decide, by decide, by decide⟩, _, _, rfl, rfl, .inl ⟨by decide, by decide⟩, _, _, rfl, rfl, ⟨by decide, by decide⟩, _, _, rfl, rfl, ⟨by decide, by decide, by decide, by decide⟩, _, _, rfl, rfl, (by show (0 : Int) < 10 ^ 12; decide), ?_⟩
        exact ⟨_, rfl, _, rfl, a, _, _, _, rfl, rfl, sm.seq hS, ha, _, _, rfl, rfl, ⟨by decide, by decide, by decide, by decide⟩, _, _, rfl, rfl, ⟨by decide, by decide⟩, hN _ _ ⟨_, _, _, rfl, rfl⟩⟩
      rintro σ' H6 ⟨n, o, t, rfl, rfl⟩
      have put : ∀ (H7 : Hp), Same H H7 → H7 S = some (.lst (as.map V.ref)) → TWs H7 as → ∀ q, (∃ x, H7 q = some (.tup (wV x)) ∧ x.a ≤ x.b ∧ x.b ≤ x.a + 1000000) → ∃ (v1 v2 v3 v4 : Option V) (as' : List Addr), [some (V.ref a), some (.ref S), some (.int (0 + (i : Int))), some (.int n), some (.int o), some (.int t)] = [some (.ref a), some (.ref S), v1, v2, v3, v4] ∧ Same H (upd H7 S (.lst (as.map V.ref ++ [V.ref q]))) ∧ (upd H7 S (.lst (as.map V.ref ++ [V.ref q]))) S = some (.lst (as'.map V.ref)) ∧ as'.length = i + 1 ∧ TWs (upd H7 S (.lst (as.map V.ref ++ [V.ref q]))) as' := fun H7 s7 e7 w7 q ⟨x, hx⟩ => by
        refine ⟨_, _, _, _, as ++ [q], rfl, s7.upd hSn, by rw [upd_same, List.map_append]; rfl, by rw [List.length_append, gl]; rfl, fun p hp => ?_⟩
        rcases List.mem_append.mp hp with hp | hp
        · obtain ⟨y, y1, y2⟩ := w7 p hp
          exact ⟨y, by rw [upd_ne (ne_of y1 e7 (by intro z; cases z))]; exact y1, y2⟩
        · obtain rfl : p = q := by simpa using hp
          exact ⟨x, by rw [upd_ne (ne_of hx.1 e7 (by intro z; cases z))]; exact hx.1, hx.2⟩
      have keepT : ∀ {H7 : Hp}, Same H6 H7 → TWs H7 as := fun {H7} s p hp => by
        obtain ⟨y, y1, y2⟩ := gw p hp
        exact ⟨y, s _ _ y1, y2⟩
      have smlA : (as.map V.ref).length < sizeLine := small60 (by rw [List.length_map]; omega)
      refine ⟨_, rfl, _, _, rfl, rfl, (by show (0 : Int) < 9; decide), rfl, _, rfl, ?_⟩
      refine ite2 (fun _ => ?_) (fun _ => iteF ?_)
      · refine ⟨_, rfl, by decide, fun E hE => ?_⟩
        have sE := Same.new (o := HO.lst []) hE
        have eE : (upd H6 E (HO.lst [])) E = some (HO.lst []) := upd_same
        generalize upd H6 E (HO.lst []) = H7 at sE eE ⊢
        refine ⟨S, E, _, rfl, rfl, SqL.of (sE _ _ g1), SqL.of eE, _, rfl, ite2 (fun c => ?_) (fun _ => ?_)⟩
        · have lp : 0 < as.length := by
            cases as with
            | nil => simp at c
            | cons => simp
          have hBl : (as.map V.ref).length = as.length := List.length_map _
          have r1 := Int.emod_nonneg (t / 9) (show (as.length : Int) ≠ 0 by omega)
          have r2 := Int.emod_lt_of_pos (t / 9) (show 0 < (as.length : Int) by omega)
          have r3 : (t / 9 % (as.length : Int)).toNat < as.length := by omega
          have at1 : atI (as.map V.ref) (t / 9 % ((as.map V.ref).length : Int)) = some (V.ref as[(t / 9 % (as.length : Int)).toNat]) := by
            rw [hBl]
            have := atI_nat (xs := as.map V.ref) (j := (t / 9 % (as.length : Int)).toNat) (v := V.ref as[(t / 9 % (as.length : Int)).toNat]) (by rw [List.getElem?_map, List.getElem?_eq_getElem r3]; rfl)
            rwa [Int.toNat_of_nonneg r1] at this
          refine ⟨_, rfl, .inl ⟨rfl, _, SqL.of (sE _ _ g1)⟩, _, rfl, _, rfl, _, _, rfl, rfl, ⟨by decide, by decide⟩, _, rfl, S, _, rfl, .inl (SqL.of (sE _ _ g1)), _, _, rfl, rfl, by rw [hBl]; omega, S, _, _, _, rfl, rfl, SqL.of (sE _ _ g1), at1, S, _, _, rfl, rfl, sE _ _ g1, smlA, ?_⟩
          exact put H7 (sm.trans sE) (sE _ _ g1) (keepT sE) _ (keepT sE _ (List.getElem_mem r3))
        · refine ⟨_, rfl, .inl ⟨rfl, _, SqL.of (sE _ _ g1)⟩, _, rfl, _, rfl, n, o, rfl, fun q x H8 hq s8 e8 x1 x2 => ?_⟩
          exact ⟨S, _, _, rfl, rfl, s8 _ _ (sE _ _ g1), smlA, put H8 ((sm.trans sE).trans s8) (s8 _ _ (sE _ _ g1)) (keepT (sE.trans s8)) q ⟨x, e8, x1, x2⟩⟩
      · refine ⟨_, rfl, .inl ⟨rfl, _, SqL.of g1⟩, _, rfl, _, rfl, n, o, rfl, fun q x H8 hq s8 e8 x1 x2 => ?_⟩
        exact ⟨S, _, _, rfl, rfl, s8 _ _ g1, smlA, put H8 (sm.trans s8) (s8 _ _ g1) (keepT s8) q ⟨x, e8, x1, x2⟩⟩
    · rintro σ H5 ⟨v1, v2, v3, v4, as, rfl, sm, g1, gl, gw⟩
      exact ⟨_, rfl, k S as H5 hSn sm g1 (by omega) (by omega) gw⟩
theorem kit_tt {K : PySem.W.Frag} : PySem.W.kitOne K (.type "tuple") (.type "tuple") = some true := by kernel_rfl
theorem kit_ll {K : PySem.W.Frag} : PySem.W.kitOne K (.type "list") (.type "list") = some true := by kernel_rfl
theorem neF {x : V} {A B : Prop} (h : B) : if (!decide (x = x)) = true then A else B := by
  rw [decide_eq_true rfl]; exact h
theorem apart_at {g : List Wi} (h : Apart g) {i j : Nat} (hij : i < j) (hj : j < g.length) : g[i].b < g[j].a := List.pairwise_iff_getElem.mp h i j (by omega) hj hij
theorem paired_get {α β : Type} {F : α → β → Prop} : ∀ {l : List α} {m : List β}, Paired F l m → ∀ {i : Nat} (h1 : i < l.length) (h2 : i < m.length), F l[i] m[i]
  | _, _, .nil, i, h1, _ => by simp at h1
  | _, _, .cons r t, 0, _, _ => r
  | _, _, .cons r t, i + 1, h1, h2 => paired_get t (by simpa using h1) (by simpa using h2)
def spGood (K : PySem.W.Frag) : Sp := fun vs H Q _ => ∃ (r S q1 q2 : Addr) (as ds : List Addr) (W : Addr → Wi) (g : List Wi), vs = [.ref r, .ref S] ∧ Marked H r q1 q2 ds g ∧ H S = some (.lst (as.map V.ref)) ∧ as.length < 64 ∧ g.length < 64 ∧ Ws H W as ∧ (∀ x ∈ g, ∃ p ∈ as, W p = x) ∧ Apart g ∧ (∀ p ∈ as, ∃ y ∈ g, (W p).a ≤ y.b ∧ y.b ≤ (W p).b) ∧ ∀ H', Same H H' → Q (.bl true) H'
theorem ok_law_good {P : Program} {w : World} {K : PySem.W.Frag} {mg : Str → Option Value} {base : Heap} {A : Adr} (T : Txt K mg A) : FnOk P w K mg base CX0 3 A.f_law_good A.d_law_good ["_law_found", "_law_some"] (spGood K) := by
  have G_law_whole := ok_law_whole (P := P) (w := w) (base := base) T
  refine T.F_law_good.ok sc_law_good (fun vs H Q E h => ?_) (fun cdv Ar outer s H vs Q E hr h => ?_)
  · obtain ⟨r, S, q1, q2, as, ds, W, g, rfl, hM, hS, h64, hg64, hW, hin, hap, hit, k⟩ := h
    rfl
  · obtain ⟨r, S, q1, q2, as, ds, W, g, rfl, hM, hS, h64, hg64, hW, hin, hap, hit, k⟩ := h
    refine ⟨_, (pss_cons (ps_if (PW.pt (pw_or (pt_not (pt_val (pe_callB (call_isiT K) (by rfl) T.b_isinstance boot_isinstance (pa_cons (pv 0) (pa_cons (pe_ty (by rfl) T.b_tuple boot_tuple) pa_nil))))) (pw_or1 (pt_cmpR op_ne (pe_callB (call_lenK K) (by rfl) T.b_len PySem.boot_len (pa_cons (pv 0) pa_nil)) pe_int (nomark _))))) (pss_one (ps_ret pe_bl)) pss_nil)
      (pss_cons (ps_asg (pv 0) (pg_tupK (n := 2) K rfl (pgs_cons (pg_name (i := 2) sc_law_good.nd rfl (Or.inl rfl)) (pgs_cons (pg_name (i := 3) sc_law_good.nd rfl (Or.inl rfl)) pgs_nil))))
      (pss_cons (ps_if (PW.pt (pw_or (pt_not (pt_val (pe_callB (call_isiT K) (by rfl) T.b_isinstance boot_isinstance (pa_cons (pv 2) (pa_cons (pe_ty (by rfl) T.b_list boot_list) pa_nil))))) (pw_or (pt_not (pt_val (pe_callB (call_isiT K) (by rfl) T.b_isinstance boot_isinstance (pa_cons (pv 3) (pa_cons (pe_ty (by rfl) T.b_list boot_list) pa_nil))))) (pw_or1 (pt_cmpR op_ne (pe_callB (call_lenK K) (by rfl) T.b_len PySem.boot_len (pa_cons (pv 2) pa_nil)) (pe_callB (call_lenK K) (by rfl) T.b_len PySem.boot_len (pa_cons (pv 3) pa_nil)) (nomark _)))))) (pss_one (ps_ret pe_bl)) pss_nil)
      (pss_cons (ps_setComp ["_law_wish_here"] [none] (i := 4) sc_law_good.nd rfl (Or.inl rfl) rfl (pi_listK K (pv 1)) (fun _ _ _ => (pg_name (i := 0) ndc_law_good_1 rfl (Or.inl rfl))) (fun _ _ _ => (pe_ix (ix_tupK K) (pv 0) pe_int (fun _ _ => rfl))))
      (pss_cons (ps_for PassesOwn.never rfl (pi_range1 (by rfl) T.b_range (pa_cons (pe_callB (call_lenK K) (by rfl) T.b_len PySem.boot_len (pa_cons (pv 2) pa_nil)) pa_nil)) (pg_name (i := 5) sc_law_good.nd rfl (Or.inl rfl)) (pss_cons (ps_if (PW.pt (pw_or (pt_not (pt_val (pe_call G_law_whole (hr.mono (by decide)) (by rfl) T.m_law_whole T.F_law_whole.kp T.bb_law_whole .nil pass0 (pa_cons (pe_ix (ix_listK K) (pv 2) (pv 5) (fun _ _ => rfl)) pa_nil)))) (pw_or (pt_cmpR (op_notIn_seqK K) (pe_ix (ix_listK K) (pv 2) (pv 5) (fun _ _ => rfl)) (pv 4) (by with_unfolding_all rfl)) (pw_or1 (pt_cmpR (op_notInT K hr.units) (pe_ix (ix_listK K) (pv 3) (pv 5) (fun _ _ => rfl)) (pv 1) (by with_unfolding_all rfl)))))) (pss_one (ps_ret pe_bl)) pss_nil)
      (pss_cons (ps_if (PW.pt (pw_or (PW.pt (pw_and (pt_cmpR op_gt (pv 5) pe_int (nomark _)) (pw_and1 (pt_cmpR op_ge (pe_ix (ix_listK K) (pv 2) (pe_op op_sub (pv 5) pe_int) (fun _ _ => rfl)) (pe_ix (ix_listK K) (pv 2) (pv 5) (fun _ _ => rfl)) (nomark _))))) (pw_or1 (pt_not (pt_val (pe_callB (call_isiT K) (by rfl) T.b_isinstance boot_isinstance (pa_cons (pe_ix (ix_listK K) (pv 3) (pv 5) (fun _ _ => rfl)) (pa_cons (pe_ty (by rfl) T.b_tuple boot_tuple) pa_nil)))))))) (pss_one (ps_ret pe_bl)) pss_nil)
      (pss_one (ps_for PassesOwn.never rfl (pi_range1 (by rfl) T.b_range (pa_cons (pv 5) pa_nil)) (pg_name (i := 6) sc_law_good.nd rfl (Or.inl rfl)) (pss_one (ps_if (PW.pt (pw_and (pt_cmpR op_le (pe_ix (ix_tupK K) (pe_ix (ix_listK K) (pv 3) (pv 6) (fun _ _ => rfl)) pe_int (fun _ _ => rfl)) (pe_ix (ix_tupK K) (pe_ix (ix_listK K) (pv 3) (pv 5) (fun _ _ => rfl)) pe_int (fun _ _ => rfl)) (nomark _)) (pw_and1 (pt_cmpR op_le (pe_ix (ix_tupK K) (pe_ix (ix_listK K) (pv 3) (pv 5) (fun _ _ => rfl)) pe_int (fun _ _ => rfl)) (pe_ix (ix_tupK K) (pe_ix (ix_listK K) (pv 3) (pv 6) (fun _ _ => rfl)) pe_int (fun _ _ => rfl)) (nomark _))))) (pss_one (ps_ret pe_bl)) pss_nil)))))))
      (pss_cons (ps_for PassesOwn.never rfl (pi_listK K (pv 1)) (pg_name (i := 7) sc_law_good.nd rfl (Or.inr rfl)) (pss_one (ps_if (pt_cmpR (op_eqE K hr.units) (pe_compIf ["_law_number", "_law_wish_here"] [none, some 7] rfl (pi_listK K (pv 2)) (fun _ _ _ => (pg_name (i := 0) ndc_law_good_0 rfl (Or.inl rfl))) (fun _ _ _ => (PW.pt (pw_and (pt_cmpR op_le (pe_ix (ix_tupK K) (pv 1) pe_int (fun _ _ => rfl)) (pv 0) (nomark _)) (pw_and1 (pt_cmpR op_le (pv 0) (pe_ix (ix_tupK K) (pv 1) pe_int (fun _ _ => rfl)) (nomark _)))))) (fun _ _ _ => (pv 0))) (pe_lstS pa_nil) (nomark _)) (pss_one (ps_ret pe_bl)) pss_nil)))
      (pss_one (ps_ret pe_bl)))))))), ?_⟩
    obtain ⟨hr0, h1, h2, h3⟩ := hM
    have hdl : ds.length = g.length := Paired.length h3
    refine seq_cut (fun σ' H' => σ' = [some (.ref r), some (.ref S), none, none, none, none, none, none] ∧ H' = H) (fun N hN => ?_) ?_
    · refine ⟨_, rfl, _, _, _, _, rfl, .tup hr0, kit_tt, _, rfl, iteF ?_⟩
      exact ⟨_, rfl, r, _, rfl, .inr (SqT.of hr0), rfl, _, rfl, neF (x := V.int 2) (hN _ _ ⟨rfl, rfl⟩)⟩
    rintro σ' H1 ⟨rfl, rfl⟩
    refine seq_cut (fun σ' H' => σ' = [some (.ref r), some (.ref S), some (.ref q1), some (.ref q2), none, none, none, none] ∧ H' = H1) (fun N hN => ?_) ?_
    · exact ⟨_, rfl, r, _, rfl, SqT.of hr0, rfl, _, _, rfl, _, _, rfl, rfl, hN _ _ ⟨rfl, rfl⟩⟩
    rintro σ' H2 ⟨rfl, rfl⟩
    refine seq_cut (fun σ' H' => σ' = [some (.ref r), some (.ref S), some (.ref q1), some (.ref q2), none, none, none, none] ∧ H' = H2) (fun N hN => ?_) ?_
    · refine ⟨_, rfl, _, _, _, _, rfl, .lst h1, kit_ll, _, rfl, iteF ?_⟩
      refine ⟨_, rfl, _, _, _, _, rfl, .lst h2, kit_ll, _, rfl, iteF ?_⟩
      refine ⟨_, rfl, q1, _, rfl, .inl (SqL.of h1), _, rfl, q2, _, rfl, .inl (SqL.of h2), rfl, _, rfl, ?_⟩
      rw [List.length_map, List.length_map, hdl]
      exact neF (hN _ _ ⟨rfl, rfl⟩)
    rintro σ' H3 ⟨rfl, rfl⟩
    refine seq_cut (fun σ' H' => ∃ E, σ' = [some (.ref r), some (.ref S), some (.ref q1), some (.ref q2), some (.ref E), none, none, none] ∧ Same H3 H' ∧ H' E = some (.lst (as.map fun p => V.int (W p).b))) (fun N hN => ?_) ?_
    · refine ⟨_, rfl, S, rfl, ⟨_, SqL.of hS⟩, fun E hE => ?_⟩
      refine comp_pr (us := as) (fun p : Addr => V.int (W p).b) (fun σ => ∃ z, σ = [z]) (SqL.of hS) hE (by rw [List.length_map]; omega) (by rw [List.length_map]) ⟨none, rfl⟩ (fun i v u σ' G N hv hu ho sm q => ?_) fun G sm hDl => ?_
      · obtain ⟨z, rfl⟩ := ho
        rw [List.getElem?_map, hu] at hv
        obtain rfl : V.ref u = v := by simpa using hv
        exact ⟨_, rfl, u, _, _, _, rfl, rfl, SqT.of (sm _ _ (hW u (List.mem_of_getElem? hu)).1), atI_nat (j := 1) rfl, q _ _ (Same.refl _) ⟨_, rfl⟩⟩
      · exact hN _ _ ⟨E, rfl, sm, hDl⟩
    rintro σ' H4 ⟨E, rfl, sm4, hE⟩
    replace h1 := sm4 _ _ h1
    replace h2 := sm4 _ _ h2
    replace h3 : Paired (fun d x => H4 d = some (.tup (wV x))) ds g := Paired.mapP h3 fun d x e => sm4 _ _ e
    replace hS := sm4 _ _ hS
    replace hW := hW.keep sm4
    refine seq_cut (fun σ' H' => ∃ (v5 v6 : Option V), σ' = [some (.ref r), some (.ref S), some (.ref q1), some (.ref q2), some (.ref E), v5, v6, none] ∧ H' = H4) (fun N hN => ?_) ?_
    · refine ⟨_, rfl, q1, _, rfl, .inl (SqL.of h1), _, rfl, by rw [List.length_map]; omega, by rw [List.length_map]; omega, ?_⟩
      refine for_range (n := ((g.map fun x => V.int x.b).length : Int).toNat) (fun i σ H' => ∃ (v5 v6 : Option V), σ = [some (.ref r), some (.ref S), some (.ref q1), some (.ref q2), some (.ref E), v5, v6, none] ∧ H' = H4) ⟨_, _, rfl, rfl⟩ ?_ ?_
      · rintro i σ H5 hi ⟨v5, v6, rfl, rfl⟩
        have hi : i < g.length := by rw [List.length_map] at hi; omega
        have hid : i < ds.length := by omega
        have hx : ∀ (j : Nat) (hj : j < g.length), atI (g.map fun x => V.int x.b) (j : Int) = some (V.int g[j].b) := fun j hj => atI_nat (by rw [List.getElem?_map, List.getElem?_eq_getElem hj]; rfl)
        have hd : ∀ (j : Nat) (hj : j < ds.length), atI (ds.map V.ref) (j : Int) = some (V.ref ds[j]) := fun j hj => atI_nat (by rw [List.getElem?_map, List.getElem?_eq_getElem hj]; rfl)
        have hxi : atI (g.map fun x => V.int x.b) (0 + (i : Int)) = some (V.int g[i].b) := by rw [Int.zero_add]; exact hx i hi
        have hdi : atI (ds.map V.ref) (0 + (i : Int)) = some (V.ref ds[i]) := by rw [Int.zero_add]; exact hd i hid
        have td : ∀ (j : Nat) (hj : j < ds.length) (hj' : j < g.length), H5 ds[j] = some (.tup (wV g[j])) := fun j hj hj' => paired_get h3 hj hj'
        have tdi := td i hid hi
        obtain ⟨p, hp, hpx⟩ := hin g[i] (List.getElem_mem hi)
        have i1 : inV (V.int g[i].b) (as.map fun p => V.int (W p).b) = true := by
          unfold inV
          rw [List.any_map, List.any_eq_true]
          exact ⟨p, hp, by show eqV (V.int (W p).b) (V.int g[i].b) = true; rw [hpx]; simp [eqV]⟩
        have i2 : (as.any fun a => decide (a = ds[i]) || eqVs (wV (W a)) (wV g[i])) = true := by
          rw [List.any_eq_true]
          exact ⟨p, hp, by rw [hpx, wV_eq, Bool.or_true]⟩
        refine seq_cut (fun σ' H' => σ' = [some (.ref r), some (.ref S), some (.ref q1), some (.ref q2), some (.ref E), some (.int (0 + (i : Int))), v6, none] ∧ H' = H5) (fun N2 hN2 => ?_) ?_
        · refine ⟨_, rfl, _, rfl, q1, _, _, _, rfl, rfl, SqL.of h1, hxi, _, rfl, _, rfl, iteF ?_⟩
          refine ⟨_, rfl, _, rfl, q1, _, _, _, rfl, rfl, SqL.of h1, hxi, _, rfl, E, _, rfl, .inl (SqL.of hE), rfl, (by rw [List.all_map, List.all_eq_true]; intro _ _; rfl), _, rfl, ?_⟩
          rw [i1]
          refine iteF ?_
          refine ⟨_, rfl, _, rfl, q2, _, _, _, rfl, rfl, SqL.of h2, hdi, _, rfl, ds[i], S, wV g[i], as, (fun p => wV (W p)), rfl, rfl, SqT.of tdi, rfl, SqL.of hS, (fun a ha => ⟨SqT.of (hW a ha).1, rfl, rfl⟩), _, rfl, ?_⟩
          rw [i2]
          exact iteF (hN2 _ _ ⟨rfl, rfl⟩)
        rintro σ' H6 ⟨rfl, rfl⟩
        refine seq_cut (fun σ' H' => σ' = [some (.ref r), some (.ref S), some (.ref q1), some (.ref q2), some (.ref E), some (.int (0 + (i : Int))), v6, none] ∧ H' = H6) (fun N2 hN2 => ?_) ?_
        · refine ⟨_, rfl, _, _, rfl, rfl, _, rfl, ite2 (fun c => ?_) (fun _ => iteF ?_)⟩
          · have c := of_decide_eq_true c
            have c : 0 < i := by omega
            have hxp : atI (g.map fun x => V.int x.b) (0 + (i : Int) - 1) = some (V.int g[i - 1].b) := by
              have := hx (i - 1) (by omega)
              rwa [show ((i - 1 : Nat) : Int) = 0 + (i : Int) - 1 by omega] at this
            refine ⟨_, rfl, _, rfl, _, _, rfl, rfl, q1, _, _, _, rfl, rfl, SqL.of h1, hxp, _, rfl, _, rfl, q1, _, _, _, rfl, rfl, SqL.of h1, hxi, _, _, rfl, rfl, _, rfl, ite2 (fun z => ?_) (fun _ => ?_)⟩
            · have z := of_decide_eq_true z
              have h4 := apart_at hap (i := i - 1) (j := i) (by omega) hi
              have h5 : g[i].a ≤ g[i].b := by rw [← hpx]; exact (hW p hp).2.1
              omega
            · exact ⟨_, rfl, _, rfl, q2, _, _, _, rfl, rfl, SqL.of h2, hdi, _, _, _, _, rfl, .tup tdi, kit_tt, _, rfl, iteF (hN2 _ _ ⟨rfl, rfl⟩)⟩
          · exact ⟨_, rfl, _, rfl, q2, _, _, _, rfl, rfl, SqL.of h2, hdi, _, _, _, _, rfl, .tup tdi, kit_tt, _, rfl, iteF (hN2 _ _ ⟨rfl, rfl⟩)⟩
        rintro σ' H7 ⟨rfl, rfl⟩
        refine ⟨_, rfl, _, rfl, by omega, by omega, ?_⟩
        refine for_range (n := (0 + (i : Int)).toNat) (fun j σ H' => ∃ (v6 : Option V), σ = [some (.ref r), some (.ref S), some (.ref q1), some (.ref q2), some (.ref E), some (.int (0 + (i : Int))), v6, none] ∧ H' = H7) ⟨_, rfl, rfl⟩ ?_ ?_
        · rintro j σ H8 hj ⟨v6, rfl, rfl⟩
          have hj : j < i := by omega
          have hdj : atI (ds.map V.ref) (0 + (j : Int)) = some (V.ref ds[j]) := by rw [Int.zero_add]; exact hd j (by omega)
          have tdj := td j (by omega) (by omega)
          refine ⟨_, rfl, _, rfl, q2, _, _, _, rfl, rfl, SqL.of h2, hdj, ds[j], _, _, _, rfl, rfl, SqT.of tdj, atI_nat (j := 0) rfl, _, rfl, _, rfl, q2, _, _, _, rfl, rfl, SqL.of h2, hdi, ds[i], _, _, _, rfl, rfl, SqT.of tdi, atI_nat (j := 1) rfl, _, _, rfl, rfl, _, rfl, ite2 (fun _ => ?_) (fun _ => iteF ⟨_, rfl, rfl⟩)⟩
          refine ⟨_, rfl, _, rfl, q2, _, _, _, rfl, rfl, SqL.of h2, hdi, ds[i], _, _, _, rfl, rfl, SqT.of tdi, atI_nat (j := 0) rfl, _, rfl, _, rfl, q2, _, _, _, rfl, rfl, SqL.of h2, hdj, ds[j], _, _, _, rfl, rfl, SqT.of tdj, atI_nat (j := 1) rfl, _, _, rfl, rfl, _, rfl, ite2 (fun z => ?_) (fun _ => ⟨_, rfl, rfl⟩)⟩
          have z := of_decide_eq_true z
          have := apart_at hap (i := j) (j := i) hj hi
          omega
        · rintro σ H8 ⟨v6, rfl, rfl⟩
          exact ⟨_, _, rfl, rfl⟩
      · rintro σ H5 ⟨v5, v6, rfl, rfl⟩
        exact hN _ _ ⟨_, _, rfl, rfl⟩
    rintro σ' H5 ⟨v5, v6, rfl, rfl⟩
    refine seq_cut (fun σ' H' => ∃ (v7 : Option V), σ' = [some (.ref r), some (.ref S), some (.ref q1), some (.ref q2), some (.ref E), v5, v6, v7] ∧ Same H5 H') (fun N hN => ?_) ?_
    · refine ⟨_, rfl, S, rfl, ⟨_, SqL.of hS⟩, ?_⟩
      refine for_list (K := K) (a := S) (xs := as.map V.ref) (fun i σ H' => ∃ (v7 : Option V), σ = [some (.ref r), some (.ref S), some (.ref q1), some (.ref q2), some (.ref E), v5, v6, v7] ∧ Same H5 H') ⟨_, rfl, Same.refl _⟩ ?_ ?_ ?_
      · rintro i σ H6 _ ⟨_, _, sm⟩
        exact SqL.of (sm _ _ hS)
      · rintro i x σ H6 hi ⟨v7, rfl, sm⟩
        rw [List.getElem?_map] at hi
        obtain ⟨p, hpi, rfl⟩ : ∃ p, as[i]? = some p ∧ V.ref p = x := by
          cases h : as[i]? with
          | none => rw [h] at hi; cases hi
          | some p => rw [h] at hi; exact ⟨p, rfl, by simpa using hi⟩
        have hpm := List.mem_of_getElem? hpi
        have hp6 := sm _ _ (hW p hpm).1
        have h16 := sm _ _ h1
        refine ⟨_, rfl, q1, rfl, ⟨_, SqL.of h16⟩, fun D hD => ?_⟩
        refine compIf_pr (us := g) (fun y : Wi => decide ((W p).a ≤ y.b) && decide (y.b ≤ (W p).b)) (fun y => V.int y.b) (fun σ => ∃ z, σ = [z, some (.ref p)]) (SqL.of h16) hD (by rw [List.length_map]; omega) (by rw [List.length_map]) ⟨none, rfl⟩ (fun i v u σ' G N hv hu ho smG q => ?_) fun G smG hDl => ?_
        · obtain ⟨z, rfl⟩ := ho
          rw [List.getElem?_map, hu] at hv
          obtain rfl : V.int u.b = v := by simpa using hv
          have hpG := smG _ _ hp6
          have q' := q [some (.int u.b), some (.ref p)] G (Same.refl _) ⟨_, rfl⟩
          refine ⟨_, rfl, p, _, _, _, rfl, rfl, SqT.of hpG, atI_nat (j := 0) rfl, _, rfl, _, _, rfl, rfl, _, rfl, ?_⟩
          by_cases c1 : (W p).a ≤ u.b
          · rw [decide_eq_true c1] at q' ⊢
            refine iteT ⟨_, rfl, _, rfl, p, _, _, _, rfl, rfl, SqT.of hpG, atI_nat (j := 1) rfl, _, _, rfl, rfl, _, rfl, ?_⟩
            by_cases c2 : u.b ≤ (W p).b
            · rw [decide_eq_true c2] at q' ⊢
              exact iteT ⟨_, rfl, q'⟩
            · rw [decide_eq_false c2] at q' ⊢
              exact iteF q'
          · rw [decide_eq_false c1] at q' ⊢
            exact iteF (iteF q')
        refine ⟨by decide, fun M hMn => ?_⟩
        have sM := Same.new (o := HO.lst []) hMn
        have eM : (upd G M (HO.lst [])) M = some (HO.lst []) := upd_same
        generalize upd G M (HO.lst []) = G2 at sM eM ⊢
        refine ⟨D, M, _, rfl, rfl, SqL.of (sM _ _ hDl), SqL.of eM, _, rfl, ite2 (fun c => ?_) (fun _ => ⟨_, rfl, (sm.trans smG).trans sM⟩)⟩
        obtain ⟨y, y1, y2, y3⟩ := hit p hpm
        have : y ∈ g.filter fun y : Wi => decide ((W p).a ≤ y.b) && decide (y.b ≤ (W p).b) := List.mem_filter.mpr ⟨y1, by rw [decide_eq_true y2, decide_eq_true y3]; rfl⟩
        generalize (g.filter fun y : Wi => decide ((W p).a ≤ y.b) && decide (y.b ≤ (W p).b)) = fl at this c
        cases fl with
        | nil => simp at this
        | cons => simp at c
      · rintro σ H6 ⟨v7, rfl, sm⟩
        exact hN _ _ ⟨_, rfl, sm⟩
    rintro σ' H6 ⟨v7, rfl, sm6⟩
    exact k _ (sm4.trans sm6)
theorem putK_has {kvs : List (Key × V)} {k : Key} {v : V} : k ∈ (putK kvs k v).map (·.1) ∧ (∀ k' ∈ kvs.map (·.1), k' ∈ (putK kvs k v).map (·.1)) ∧ (putK kvs k v).length ≤ kvs.length + 1 := by
  unfold putK
  split
  · rename_i h
    have e : (kvs.map (fun kv => if kv.1 = k then (kv.1, v) else kv)).map (·.1) = kvs.map (·.1) := by
      rw [List.map_map]
      refine List.map_congr_left fun x _ => ?_
      show (if x.1 = k then (x.1, v) else x).1 = x.1
      split <;> rfl
    rw [e]
    refine ⟨?_, fun _ h => h, by rw [List.length_map]; omega⟩
    obtain ⟨kv, h1, h2⟩ := List.any_eq_true.mp h
    exact List.mem_map.mpr ⟨kv, h1, of_decide_eq_true h2⟩
  · refine ⟨by simp, fun k' h => ?_, by simp⟩
    rw [List.map_append]
    exact List.mem_append_left _ h
def keyN : Key × V → Int := fun kv => match kv.1 with
  | .inl c => c
  | .inr _ => 0
def spChosen (K : PySem.W.Frag) : Sp := fun vs H Q _ => ∃ (S a : Addr) (as : List Addr) (W : Addr → Wi) (ns : List Int), vs = [.ref S, .ref a] ∧ SqL K H a (ns.map V.int) ∧ ns.length ≤ 63 ∧ H S = some (.lst (as.map V.ref)) ∧ as.length ≤ ns.length ∧ Ws H W as ∧ ∀ (cs : List Int) (H' : Hp), Same H H' → (∀ p ∈ as, ∃ c ∈ cs, (W p).a ≤ c ∧ c ≤ (W p).b) → Q (.int (cs.length : Nat)) H'
theorem ok_law_chosen {P : Program} {w : World} {K : PySem.W.Frag} {mg : Str → Option Value} {base : Heap} {A : Adr} (T : Txt K mg A) : FnOk P w K mg base CX0 2 A.f_law_chosen A.d_law_chosen ["_law_some", "_law_script"] (spChosen K) := by
  have G_law_drawn := ok_law_drawn (P := P) (w := w) (base := base) T
  refine T.F_law_chosen.ok sc_law_chosen (fun vs H Q E h => ?_) (fun cdv Ar outer s H vs Q E hr h => ?_)
  · obtain ⟨S, a, as, W, ns, rfl, hA, hlen, hS, hl, hW, k⟩ := h
    rfl
  · obtain ⟨S, a, as, W, ns, rfl, hA, hlen, hS, hl, hW, k⟩ := h
    refine ⟨_, (pss_cons (ps_set (i := 2) sc_law_chosen.nd rfl (Or.inl rfl) pe_dict0)
      (pss_cons (ps_for PassesOwn.never rfl (pi_range1 (by rfl) T.b_range (pa_cons (pe_callB (call_lenK K) (by rfl) T.b_len PySem.boot_len (pa_cons (pv 0) pa_nil)) pa_nil)) (pg_name (i := 3) sc_law_chosen.nd rfl (Or.inl rfl)) (pss_cons (ps_set (i := 4) sc_law_chosen.nd rfl (Or.inl rfl) (pe_op op_add (pe_op op_sub (pe_ix (ix_tupK K) (pe_ix (ix_listK K) (pv 0) (pv 3) (fun _ _ => rfl)) pe_int (fun _ _ => rfl)) (pe_ix (ix_tupK K) (pe_ix (ix_listK K) (pv 0) (pv 3) (fun _ _ => rfl)) pe_int (fun _ _ => rfl))) pe_int))
      (pss_one (ps_dput (hu1 hr) (pv 2) (pe_op op_add (pe_ix (ix_tupK K) (pe_ix (ix_listK K) (pv 0) (pv 3) (fun _ _ => rfl)) pe_int (fun _ _ => rfl)) (pe_op op_mod (pe_op op_mod (pe_op op_mul (pe_call G_law_drawn (hr.mono (by decide)) (by rfl) T.m_law_drawn T.F_law_drawn.kp T.bb_law_drawn .nil pass0 (pa_cons (pv 1) (pa_cons (pv 3) pa_nil))) pe_int) pe_int) (pv 4))) pe_bl rfl))))
      (pss_one (ps_ret (pe_callB call_lenDK (by rfl) T.b_len PySem.boot_len (pa_cons (pv 2) pa_nil)))))), ?_⟩
    intro D hD
    have s0 : Same H (upd H D (.dK [])) := Same.new hD
    refine ⟨_, rfl, S, _, rfl, .inl (SqL.of (s0 _ _ hS)), _, rfl, by rw [List.length_map]; omega, by rw [List.length_map]; omega, ?_⟩
    refine for_range (n := ((as.map V.ref).length : Int).toNat) (fun i σ H' => ∃ (v3 v4 : Option V) (kvs : List (Key × V)), σ = [some (.ref S), some (.ref a), some (.ref D), v3, v4] ∧ Same H H' ∧ H' D = some (.dK kvs) ∧ kvs.length ≤ i ∧ ∀ (j : Nat) p, j < i → as[j]? = some p → ∃ c : Int, Sum.inl c ∈ kvs.map (·.1) ∧ (W p).a ≤ c ∧ c ≤ (W p).b) ?_ ?_ ?_
    · exact ⟨_, _, [], rfl, s0, upd_same, Nat.zero_le _, fun j p h => absurd h (Nat.not_lt_zero _)⟩
    · rintro i σ H5 hi ⟨v3, v4, kvs, rfl, sm, gD, gl, gc⟩
      have hi : i < as.length := by rw [List.length_map] at hi; omega
      have hai : atI (as.map V.ref) (0 + (i : Int)) = some (V.ref as[i]) := by rw [Int.zero_add]; exact atI_nat (by rw [List.getElem?_map, List.getElem?_eq_getElem hi]; rfl)
      obtain ⟨w1, w2, w3⟩ := hW as[i] (List.getElem_mem hi)
      have t5 := sm _ _ w1
      have S5 := sm _ _ hS
      refine ⟨_, rfl, _, rfl, S, _, _, _, rfl, rfl, SqL.of S5, hai, as[i], _, _, _, rfl, rfl, SqT.of t5, atI_nat (j := 1) rfl, _, rfl, _, rfl, S, _, _, _, rfl, rfl, SqL.of S5, hai, as[i], _, _, _, rfl, rfl, SqT.of t5, atI_nat (j := 0) rfl, _, _, rfl, rfl, _, _, rfl, rfl, ?_⟩
      refine ⟨_, rfl, _, rfl, _, rfl, S, _, _, _, rfl, rfl, SqL.of S5, hai, as[i], _, _, _, rfl, rfl, SqT.of t5, atI_nat (j := 0) rfl, _, rfl, _, rfl, a, ns, i, (by rw [Int.zero_add]; rfl), sm.seq hA, by omega, hlen, fun n _ => ?_⟩
      have wp : (0 : Int) < (W as[i]).b - (W as[i]).a + 1 := by omega
      refine ⟨_, _, rfl, rfl, .inr ⟨by decide, by decide⟩, _, _, rfl, rfl, (by show (0 : Int) < 2147483647; decide), _, rfl, _, _, rfl, rfl, wp, _, _, rfl, rfl, D, _, rfl, DPut.k (k := Sum.inl _) gD (small60 (by omega)), ?_⟩
      obtain ⟨p1, p2, p3⟩ := putK_has (kvs := kvs) (k := Sum.inl ((W as[i]).a + n * 69621 % 2147483647 % ((W as[i]).b - (W as[i]).a + 1))) (v := V.bl true)
      have m1 := Int.emod_nonneg (n * 69621 % 2147483647) (show (W as[i]).b - (W as[i]).a + 1 ≠ 0 by omega)
      have m2 := Int.emod_lt_of_pos (n * 69621 % 2147483647) wp
      refine ⟨_, _, _, rfl, sm.upd hD, upd_same, by omega, fun j p hj hp => ?_⟩
      by_cases c : j < i
      · obtain ⟨c, c1, c2⟩ := gc j p c hp
        exact ⟨c, p2 _ c1, c2⟩
      · obtain rfl : j = i := by omega
        rw [List.getElem?_eq_getElem hi] at hp
        cases hp
        exact ⟨_, p1, by omega, by omega⟩
    · rintro σ H5 ⟨v3, v4, kvs, rfl, sm, gD, gl, gc⟩
      have := k (kvs.map keyN) H5 sm fun p hp => by
        obtain ⟨j, hj, rfl⟩ := List.mem_iff_getElem.mp hp
        obtain ⟨c, c1, c2⟩ := gc j as[j] (by rw [List.length_map]; omega) (List.getElem?_eq_getElem hj)
        obtain ⟨kv, h1, h2⟩ := List.mem_map.mp c1
        exact ⟨c, List.mem_map.mpr ⟨kv, h1, by unfold keyN; rw [h2]⟩, c2⟩
      rw [List.length_map] at this
      exact ⟨_, rfl, D, kvs, rfl, gD, this⟩
theorem wGr_is {as bs : List Addr} {W : Addr → Wi} {H : Hp} (hW : Ws H W as) (hb : bs.Perm as) (hp : (bs.map W).Pairwise fun x y => x.b ≤ y.b) :
    (wGr (bs.map W)).length ≤ as.length ∧ (∀ x ∈ wGr (bs.map W), ∃ p ∈ as, W p = x) ∧ Apart (wGr (bs.map W)) ∧ ∀ p ∈ as, ∃ y ∈ wGr (bs.map W), (W p).a ≤ y.b ∧ y.b ≤ (W p).b := by
  obtain ⟨a1, a2, _, a4⟩ := wGr_all (bs.map W) hp fun x hx => by
    obtain ⟨p, h1, rfl⟩ := List.mem_map.mp hx
    exact (hW p (hb.mem_iff.mp h1)).2.1
  refine ⟨?_, fun x hx => ?_, a2, fun p hp => a4 _ (List.mem_map.mpr ⟨p, hb.mem_iff.mpr hp, rfl⟩)⟩
  · have := wGr_len (bs.map W)
    rw [List.length_map, hb.length_eq] at this
    exact this
  · obtain ⟨p, h1, h2⟩ := List.mem_map.mp (a1 x hx)
    exact ⟨p, hb.mem_iff.mp h1, h2⟩
theorem eqv_none : PyData.eqv (.tuple [.list [], .list []]) (.tuple [.list [], .list []]) = true := by simp [PyData.eqv, PyData.eqvAll]
def spLaw (K : PySem.W.Frag) : Sp := fun vs H Q _ => ∃ (a : Addr) (ns : List Int), vs = [.ref a] ∧ SqL K H a (ns.map V.int) ∧ ns.length ≤ 63 ∧ ∀ H', Q (.bl true) H'
theorem ok_law {P : Program} {w : World} {K : PySem.W.Frag} {mg : Str → Option Value} {base : Heap} {A : Adr} (T : Txt K mg A) : FnOk P w K mg base CX0 8 A.f_law A.d_law ["_law_script"] (spLaw K) := by
  have G_law_chosen := ok_law_chosen (P := P) (w := w) (base := base) T
  have G_law_good := ok_law_good (P := P) (w := w) (base := base) T
  have G_law_wishes := ok_law_wishes (P := P) (w := w) (base := base) T
  have G_marks := ok_marks (P := P) (w := w) (base := base) T
  refine T.F_law.ok sc_law (fun vs H Q E h => ?_) (fun cdv Ar outer s H vs Q E hr h => ?_)
  · obtain ⟨a, ns, rfl, hA, hlen, k⟩ := h
    rfl
  · obtain ⟨a, ns, rfl, hA, hlen, k⟩ := h
    refine ⟨_, (pss_cons (ps_set (i := 1) sc_law.nd rfl (Or.inl rfl) (pe_call G_law_wishes (hr.mono (by decide)) (by rfl) T.m_law_wishes T.F_law_wishes.kp T.bb_law_wishes .nil pass0 (pa_cons (pv 0) pa_nil)))
      (pss_cons (ps_set (i := 2) sc_law.nd rfl (Or.inl rfl) (pe_callTy (call_listK K) (by rfl) T.b_list boot_list (pa_cons (pv 1) pa_nil)))
      (pss_cons (ps_set (i := 3) sc_law.nd rfl (Or.inl rfl) (pe_call G_marks (hr.mono (by decide)) (by rfl) T.m_marks T.F_marks.kp T.bb_marks .nil pass0 (pa_cons (pv 2) pa_nil)))
      (pss_cons (ps_if (PW.pt (pw_or (pt_not (pt_val (pe_call G_law_good (hr.mono (by decide)) (by rfl) T.m_law_good T.F_law_good.kp T.bb_law_good .nil pass0 (pa_cons (pv 3) (pa_cons (pv 1) pa_nil))))) (pw_or (pt_cmpR (op_neA K hr.units) (pv 2) (pv 1) (nomark _)) (pw_or1 (pt_cmpR op_gt (pe_callB (call_lenK K) (by rfl) T.b_len PySem.boot_len (pa_cons (pe_ix (ix_tupK K) (pv 3) pe_int (fun _ _ => rfl)) pa_nil)) (pe_call G_law_chosen (hr.mono (by decide)) (by rfl) T.m_law_chosen T.F_law_chosen.kp T.bb_law_chosen .nil pass0 (pa_cons (pv 1) (pa_cons (pv 0) pa_nil))) (nomark _)))))) (pss_one (ps_ret pe_bl)) pss_nil)
      (pss_cons (ps_set (i := 4) sc_law.nd rfl (Or.inl rfl) (pe_callB (call_lenK K) (by rfl) T.b_len PySem.boot_len (pa_cons (pe_ix (ix_tupK K) (pv 3) pe_int (fun _ _ => rfl)) pa_nil)))
      (pss_cons (ps_expr (pe_bm0 PySem.F.plainAttrs_list PySem.F.slot_list_clear PySem.F.type_list_clear mt_clear (pv 2)))
      (pss_cons (ps_expr (pe_bm PySem.F.plainAttrs_list PySem.F.slot_list_append PySem.F.type_list_append mt_append (pe_ix (ix_tupK K) (pv 3) pe_int (fun _ _ => rfl)) (pa_cons pe_int pa_nil)))
      (pss_cons (ps_set (i := 5) sc_law.nd rfl (Or.inl rfl) (pe_call G_marks (hr.mono (by decide)) (by rfl) T.m_marks T.F_marks.kp T.bb_marks .nil pass0 (pa_cons (pe_turned K (pv 1) (po_some (pe_un un_neg pe_int))) pa_nil)))
      (pss_one (ps_ret (pe_and (pe_call G_law_good (hr.mono (by decide)) (by rfl) T.m_law_good T.F_law_good.kp T.bb_law_good .nil pass0 (pa_cons (pv 5) (pa_cons (pv 1) pa_nil))) (pe_and (pe_cmpR op_eq (pe_callB (call_lenK K) (by rfl) T.b_len PySem.boot_len (pa_cons (pe_ix (ix_tupK K) (pv 5) pe_int (fun _ _ => rfl)) pa_nil)) (pv 4) (nomark _)) (pe_one (pe_cmpR (op_eqD K hr.units) (pe_call G_marks (hr.mono (by decide)) (by rfl) T.m_marks T.F_marks.kp T.bb_marks .nil pass0 (pa_cons (pe_lstS pa_nil) pa_nil)) (pe_tupS (pa_cons (pe_lstS pa_nil) (pa_cons (pe_lstS pa_nil) pa_nil))) (nomark _))))))))))))))), ?_⟩
    refine seq_cut3 (fun σ' H' => ∃ (S L r q1 q2 : Addr) (as bs ds : List Addr) (W : Addr → Wi) (H1 H2 : Hp), σ' = [some (.ref a), some (.ref S), some (.ref L), some (.ref r), none, none] ∧ Same H H1 ∧ H1 S = some (.lst (as.map V.ref)) ∧ as.length ≤ 60 ∧ as.length ≤ ns.length ∧ Ws H1 W as ∧ H1 L = none ∧ Same H1 H2 ∧ H2 L = some (.lst (as.map V.ref)) ∧ Same H2 H' ∧ H2 q1 = none ∧ bs.Perm as ∧ (bs.map W).Pairwise (fun x y => x.b ≤ y.b) ∧ Marked H' r q1 q2 ds (wGr (bs.map W))) (fun N hN => ?_) ?_
    · refine ⟨_, rfl, a, ns, rfl, hA, hlen, fun S as H1 hSn s1 hS l60 ln tw => ?_⟩
      have hW := tw.ws
      refine ⟨_, rfl, S, _, rfl, SqL.of hS, fun L hL => ?_⟩
      have s2 := Same.new (o := HO.lst (as.map V.ref)) hL
      have e2 : (upd H1 L (HO.lst (as.map V.ref))) L = some (HO.lst (as.map V.ref)) := upd_same
      generalize upd H1 L (HO.lst (as.map V.ref)) = H2 at s2 e2 ⊢
      refine ⟨_, rfl, L, as, wAt H1, rfl, SqL.of e2, by omega, hW.keep s2, fun r q1 q2 bs ds H3 s3 hq1 hb hpw hM => ?_⟩
      exact hN _ _ ⟨S, L, r, q1, q2, as, bs, ds, _, H1, H2, rfl, s1, hS, l60, ln, hW, hL, s2, e2, s3, hq1, hb, hpw, hM⟩
    rintro σ' H3 ⟨S, L, r, q1, q2, as, bs, ds, W, H1, H2, rfl, s1, hS, l60, ln, hW, hL, s2, e2, s3, hq1, hb, hpw, hM⟩
    have hA1 := s1.seq hA
    obtain ⟨f1, f2, f3, f4⟩ := wGr_is hW hb hpw
    have s13 := s2.trans s3
    refine seq_cut (fun σ' H' => σ' = [some (.ref a), some (.ref S), some (.ref L), some (.ref r), none, none] ∧ Same H3 H') (fun N hN => ?_) ?_
    · refine ⟨_, rfl, _, rfl, r, S, q1, q2, as, ds, W, _, rfl, hM, s13 _ _ hS, by omega, by omega, hW.keep s13, f2, f3, f4, fun H4 s4 => ⟨_, rfl, iteF ?_⟩⟩
      have s14 := s13.trans s4
      refine ⟨_, rfl, _, rfl, 0, L, S, _, _, by decide, rfl, rfl, SqL.of (s4 _ _ (s3 _ _ e2)), SqL.of (s14 _ _ hS), Als.refs as, _, rfl, iteF ?_⟩
      refine ⟨_, rfl, r, _, _, _, rfl, rfl, SqT.of (s4 _ _ hM.1), atI_nat (j := 0) rfl, q1, _, rfl, .inl (SqL.of (s4 _ _ hM.2.1)), _, rfl, _, rfl, S, a, as, W, ns, rfl, s14.seq hA1, hlen, s14 _ _ hS, ln, hW.keep s14, fun cs H5 s5 hc => ?_⟩
      refine ⟨_, _, rfl, rfl, _, rfl, ite2 (fun z => ?_) (fun _ => hN _ _ ⟨rfl, s4.trans s5⟩)⟩
      have z := of_decide_eq_true z
      rw [List.length_map] at z
      have := hits _ cs f3 fun x hx => by
        obtain ⟨p, p1, p2⟩ := f2 x hx
        rw [← p2]
        exact hc p p1
      omega
    rintro σ' H5 ⟨rfl, s35⟩
    have s15 := s13.trans s35
    obtain ⟨m1, m2, m3, m4⟩ := hM
    have r5 := s35 _ _ m1
    have q5 := s35 _ _ m2
    refine ⟨_, rfl, r, _, _, _, rfl, rfl, SqT.of r5, atI_nat (j := 0) rfl, q1, _, rfl, .inl (SqL.of q5), ?_⟩
    rw [List.length_map]
    have L5 := s35 _ _ (s3 _ _ e2)
    refine ⟨_, rfl, .inl ⟨rfl, _, SqL.of L5⟩, L, _, rfl, rfl, L5, ?_⟩
    have nL : q1 ≠ L := fun z => by subst z; rw [e2] at hq1; cases hq1
    have hq1n : H1 q1 = none := s2.none hq1
    have r6 : (upd H5 L (HO.lst [])) r = some (HO.tup [V.ref q1, V.ref q2]) := by rw [upd_ne (ne_of r5 L5 (by intro z; cases z))]; exact r5
    have q6 : (upd H5 L (HO.lst [])) q1 = some (HO.lst ((wGr (bs.map W)).map fun x => V.int x.b)) := by rw [upd_ne nL]; exact q5
    refine ⟨_, rfl, r, _, _, _, rfl, rfl, SqT.of r6, atI_nat (j := 0) rfl, .inl ⟨rfl, _, SqL.of q6⟩, q1, _, _, rfl, rfl, q6, small60 (by rw [List.length_map]; omega), ?_⟩
    have s17 : Same H1 (upd (upd H5 L (HO.lst [])) q1 (HO.lst ((wGr (bs.map W)).map (fun x => V.int x.b) ++ [V.int 0]))) := (s15.upd hL).upd hq1n
    generalize upd (upd H5 L (HO.lst [])) q1 (HO.lst ((wGr (bs.map W)).map (fun x => V.int x.b) ++ [V.int 0])) = H7 at s17 ⊢
    refine ⟨_, rfl, _, rfl, _, rfl, rfl, S, _, rfl, SqL.of (s17 _ _ hS), fun R hR => ?_⟩
    have s8 := Same.new (o := HO.lst (as.map V.ref).reverse) hR
    have e8 : (upd H7 R (HO.lst (as.map V.ref).reverse)) R = some (HO.lst (as.map V.ref).reverse) := upd_same
    generalize upd H7 R (HO.lst (as.map V.ref).reverse) = H8 at s8 e8 ⊢
    have s18 := s17.trans s8
    rw [← List.map_reverse] at e8
    have hWr : Ws H8 W as.reverse := fun p hp => (hW.keep s18) p (List.mem_reverse.mp hp)
    refine ⟨R, as.reverse, W, rfl, SqL.of e8, by rw [List.length_reverse]; omega, hWr, fun r' q1' q2' bs' ds' H9 s9 hq1' hb' hpw' hM' => ?_⟩
    have hb'' : bs'.Perm as := hb'.trans (List.reverse_perm as)
    obtain ⟨g1, g2, g3, g4⟩ := wGr_is hW hb'' hpw'
    have s19 := s18.trans s9
    refine ⟨_, rfl, _, rfl, r', S, q1', q2', as, ds', W, _, rfl, hM', s19 _ _ hS, by omega, by omega, hW.keep s19, g2, g3, g4, fun H10 s10 => ⟨_, rfl, iteT ?_⟩⟩
    refine ⟨_, rfl, r', _, _, _, rfl, rfl, SqT.of (s10 _ _ hM'.1), atI_nat (j := 0) rfl, q1', _, rfl, .inl (SqL.of (s10 _ _ hM'.2.1)), _, rfl, rfl, _, rfl, ?_⟩
    have many : (wGr (bs'.map W)).length = (wGr (bs.map W)).length := as_many hpw' hpw (fun x hx => by
      obtain ⟨p, h1, rfl⟩ := List.mem_map.mp hx
      exact (hW p (hb''.mem_iff.mp h1)).2.1) fun x => (hb''.trans hb.symm).map W |>.mem_iff
    rw [List.length_map, many, decide_eq_true rfl]
    refine iteT ⟨by decide, fun p hp => ?_⟩
    refine ⟨p, [], W, rfl, SqL.of upd_same, by decide, (fun x hx => by simp at hx), fun r3 p1 p2 cs es H12 s12 hp1 hc hpc hM3 => ?_⟩
    have ec : cs = [] := List.Perm.eq_nil hc
    subst ec
    obtain ⟨o1, o2, o3, o4⟩ := hM3
    have ee : es = [] := List.length_eq_zero_iff.mp (Paired.length o4)
    subst ee
    refine ⟨by decide, fun x1 hx1 => ?_⟩
    have t1 := Same.new (o := HO.lst []) hx1
    have u1 : (upd H12 x1 (HO.lst [])) x1 = some (HO.lst []) := upd_same
    generalize upd H12 x1 (HO.lst []) = H13 at t1 u1 ⊢
    refine ⟨by decide, fun x2 hx2 => ?_⟩
    have t2 := Same.new (o := HO.lst []) hx2
    have u2 : (upd H13 x2 (HO.lst [])) x2 = some (HO.lst []) := upd_same
    generalize upd H13 x2 (HO.lst []) = H14 at t2 u2 ⊢
    refine ⟨(by show 2 ≤ 1000; decide), fun x3 hx3 => ?_⟩
    have t3 := Same.new (o := HO.tup [V.ref x1, V.ref x2]) hx3
    have u3 : (upd H14 x3 (HO.tup [V.ref x1, V.ref x2])) x3 = some (HO.tup [V.ref x1, V.ref x2]) := upd_same
    generalize upd H14 x3 (HO.tup [V.ref x1, V.ref x2]) = H15 at t3 u3 ⊢
    have tt := (t1.trans t2).trans t3
    refine ⟨_, _, .tup (SqT.of (tt _ _ o1)) (.cons (.lst (SqL.of (tt _ _ o2)) .nil) (.cons (.lst (SqL.of (tt _ _ o3)) .nil) .nil)), .tup (SqT.of u3) (.cons (.lst (SqL.of (t3 _ _ (t2 _ _ u1))) .nil) (.cons (.lst (SqL.of (t3 _ _ u2)) .nil) .nil)), rfl, rfl, ?_⟩
    rw [eqv_none]
    exact k _
theorem all_mk {l : PySem.W.OpenLaw} {w : World} {K : PySem.W.Frag} {h : Heap} {mg : Str → Option Value} (X : K.In h) (G : h.Ns mainGlobals mg) {fa : Addr} {f0 : Addr} {od0 an0 : Option Addr} {sl0 : Array (Option Value)} {oc0 kV0 dc0 pm0 cd0 ct0 : Value} {f1 : Addr} {od1 an1 : Option Addr} {sl1 : Array (Option Value)} {oc1 kV1 dc1 pm1 cd1 ct1 : Value} {f2 : Addr} {od2 an2 : Option Addr} {sl2 : Array (Option Value)} {oc2 kV2 dc2 pm2 cd2 ct2 : Value} {f3 : Addr} {od3 an3 : Option Addr} {sl3 : Array (Option Value)} {oc3 kV3 dc3 pm3 cd3 ct3 : Value} {f4 : Addr} {od4 an4 : Option Addr} {sl4 : Array (Option Value)} {oc4 kV4 dc4 pm4 cd4 ct4 : Value} {f5 : Addr} {od5 an5 : Option Addr} {sl5 : Array (Option Value)} {oc5 kV5 dc5 pm5 cd5 ct5 : Value} {f6 : Addr} {od6 an6 : Option Addr} {sl6 : Array (Option Value)} {oc6 kV6 dc6 pm6 cd6 ct6 : Value} {f7 : Addr} {od7 an7 : Option Addr} {sl7 : Array (Option Value)} {oc7 kV7 dc7 pm7 cd7 ct7 : Value} {f8 : Addr} {od8 an8 : Option Addr} {sl8 : Array (Option Value)} {oc8 kV8 dc8 pm8 cd8 ct8 : Value} (hfa : mg "law" = some (.ref fa))
    (a0 : PySem.W.nsIn K mainGlobals "marks" = some (some (.ref f0)))
    (l0 : K.lookup f0 = some ⟨oc0, od0, .func (PySem.W.fnOf "marks" "marks" (defArgs s_marks) (defBody s_marks) (defScope s_marks) .none kV0 dc0 pm0 an0 cd0 ct0), sl0⟩)
    (c0 : PySem.W.codeIn K cd0 "marks" = true)
    (k0 : PySem.W.keepIn K (.ref f0) = true)
    (a1 : PySem.W.nsIn K mainGlobals "last_first" = some (some (.ref f1)))
    (l1 : K.lookup f1 = some ⟨oc1, od1, .func (PySem.W.fnOf "last_first" "last_first" (defArgs s_last_first) (defBody s_last_first) (defScope s_last_first) .none kV1 dc1 pm1 an1 cd1 ct1), sl1⟩)
    (c1 : PySem.W.codeIn K cd1 "last_first" = true)
    (k1 : PySem.W.keepIn K (.ref f1) = true)
    (a2 : PySem.W.nsIn K mainGlobals "_law_drawn" = some (some (.ref f2)))
    (l2 : K.lookup f2 = some ⟨oc2, od2, .func (PySem.W.fnOf "_law_drawn" "_law_drawn" (defArgs s_law_drawn) (defBody s_law_drawn) (defScope s_law_drawn) .none kV2 dc2 pm2 an2 cd2 ct2), sl2⟩)
    (c2 : PySem.W.codeIn K cd2 "_law_drawn" = true)
    (k2 : PySem.W.keepIn K (.ref f2) = true)
    (a3 : PySem.W.nsIn K mainGlobals "_law_whole" = some (some (.ref f3)))
    (l3 : K.lookup f3 = some ⟨oc3, od3, .func (PySem.W.fnOf "_law_whole" "_law_whole" (defArgs s_law_whole) (defBody s_law_whole) (defScope s_law_whole) .none kV3 dc3 pm3 an3 cd3 ct3), sl3⟩)
    (c3 : PySem.W.codeIn K cd3 "_law_whole" = true)
    (k3 : PySem.W.keepIn K (.ref f3) = true)
    (a4 : PySem.W.nsIn K mainGlobals "_law_wish" = some (some (.ref f4)))
    (l4 : K.lookup f4 = some ⟨oc4, od4, .func (PySem.W.fnOf "_law_wish" "_law_wish" (defArgs s_law_wish) (defBody s_law_wish) (defScope s_law_wish) .none kV4 dc4 pm4 an4 cd4 ct4), sl4⟩)
    (c4 : PySem.W.codeIn K cd4 "_law_wish" = true)
    (k4 : PySem.W.keepIn K (.ref f4) = true)
    (a5 : PySem.W.nsIn K mainGlobals "_law_wishes" = some (some (.ref f5)))
    (l5 : K.lookup f5 = some ⟨oc5, od5, .func (PySem.W.fnOf "_law_wishes" "_law_wishes" (defArgs s_law_wishes) (defBody s_law_wishes) (defScope s_law_wishes) .none kV5 dc5 pm5 an5 cd5 ct5), sl5⟩)
    (c5 : PySem.W.codeIn K cd5 "_law_wishes" = true)
    (k5 : PySem.W.keepIn K (.ref f5) = true)
    (a6 : PySem.W.nsIn K mainGlobals "_law_good" = some (some (.ref f6)))
    (l6 : K.lookup f6 = some ⟨oc6, od6, .func (PySem.W.fnOf "_law_good" "_law_good" (defArgs s_law_good) (defBody s_law_good) (defScope s_law_good) .none kV6 dc6 pm6 an6 cd6 ct6), sl6⟩)
    (c6 : PySem.W.codeIn K cd6 "_law_good" = true)
    (k6 : PySem.W.keepIn K (.ref f6) = true)
    (a7 : PySem.W.nsIn K mainGlobals "_law_chosen" = some (some (.ref f7)))
    (l7 : K.lookup f7 = some ⟨oc7, od7, .func (PySem.W.fnOf "_law_chosen" "_law_chosen" (defArgs s_law_chosen) (defBody s_law_chosen) (defScope s_law_chosen) .none kV7 dc7 pm7 an7 cd7 ct7), sl7⟩)
    (c7 : PySem.W.codeIn K cd7 "_law_chosen" = true)
    (k7 : PySem.W.keepIn K (.ref f7) = true)
    (a8 : PySem.W.nsIn K mainGlobals "law" = some (some (.ref f8)))
    (l8 : K.lookup f8 = some ⟨oc8, od8, .func (PySem.W.fnOf "law" "law" (defArgs s_law) (defBody s_law) (defScope s_law) .none kV8 dc8 pm8 an8 cd8 ct8), sl8⟩)
    (c8 : PySem.W.codeIn K cd8 "law" = true)
    (k8 : PySem.W.keepIn K (.ref f8) = true)
    (z_isinstance : PySem.W.nsIn K mainGlobals "isinstance" = some none)
    (z_int : PySem.W.nsIn K mainGlobals "int" = some none)
    (z_bool : PySem.W.nsIn K mainGlobals "bool" = some none)
    (z_len : PySem.W.nsIn K mainGlobals "len" = some none)
    (z_min : PySem.W.nsIn K mainGlobals "min" = some none)
    (z_range : PySem.W.nsIn K mainGlobals "range" = some none)
    (z_sorted : PySem.W.nsIn K mainGlobals "sorted" = some none)
    (z_tuple : PySem.W.nsIn K mainGlobals "tuple" = some none)
    (z_list : PySem.W.nsIn K mainGlobals "list" = some none) :
    ∃ fd : FuncData, (∀ (s : Shared) (v : Value), BindsTo s fd ⟨[v], []⟩ [("_law_script", v)]) ∧ ∀ base : Heap, K.In base → base.Ns mainGlobals mg → FnOk l.prog w K mg base CX0 8 fa fd ["_law_script"] (spLaw K) := by
  have e := hfa.symm.trans (PySem.W.mg_of X G a8)
  cases e
  have F0 := fun_mk (st := s_marks) l0 c0 k0
  have bb0 := F0.binds (ps := ["some"]) fun _ _ _ _ _ _ us hl => match us, hl with | [_], _ => rfl
  have F1 := fun_mk (st := s_last_first) l1 c1 k1
  have bb1 := F1.binds (ps := ["wish"]) fun _ _ _ _ _ _ us hl => match us, hl with | [_], _ => rfl
  have F2 := fun_mk (st := s_law_drawn) l2 c2 k2
  have bb2 := F2.binds (ps := ["_law_script", "_law_k"]) fun _ _ _ _ _ _ us hl => match us, hl with | [_, _], _ => rfl
  have F3 := fun_mk (st := s_law_whole) l3 c3 k3
  have bb3 := F3.binds (ps := ["_law_found"]) fun _ _ _ _ _ _ us hl => match us, hl with | [_], _ => rfl
  have F4 := fun_mk (st := s_law_wish) l4 c4 k4
  have bb4 := F4.binds (ps := ["_law_number", "_law_other"]) fun _ _ _ _ _ _ us hl => match us, hl with | [_, _], _ => rfl
  have F5 := fun_mk (st := s_law_wishes) l5 c5 k5
  have bb5 := F5.binds (ps := ["_law_script"]) fun _ _ _ _ _ _ us hl => match us, hl with | [_], _ => rfl
  have F6 := fun_mk (st := s_law_good) l6 c6 k6
  have bb6 := F6.binds (ps := ["_law_found", "_law_some"]) fun _ _ _ _ _ _ us hl => match us, hl with | [_, _], _ => rfl
  have F7 := fun_mk (st := s_law_chosen) l7 c7 k7
  have bb7 := F7.binds (ps := ["_law_some", "_law_script"]) fun _ _ _ _ _ _ us hl => match us, hl with | [_, _], _ => rfl
  have F8 := fun_mk (st := s_law) l8 c8 k8
  have bb8 := F8.binds (ps := ["_law_script"]) fun _ _ _ _ _ _ us hl => match us, hl with | [_], _ => rfl
  have T : Txt K mg ⟨f0, _, f1, _, f2, _, f3, _, f4, _, f5, _, f6, _, f7, _, fa, _, ()⟩ := ⟨F0, bb0, PySem.W.mg_of X G a0, F1, bb1, PySem.W.mg_of X G a1, F2, bb2, PySem.W.mg_of X G a2, F3, bb3, PySem.W.mg_of X G a3, F4, bb4, PySem.W.mg_of X G a4, F5, bb5, PySem.W.mg_of X G a5, F6, bb6, PySem.W.mg_of X G a6, F7, bb7, PySem.W.mg_of X G a7, F8, bb8, PySem.W.mg_of X G a8, PySem.W.mg_none_of X G z_isinstance, PySem.W.mg_none_of X G z_int, PySem.W.mg_none_of X G z_bool, PySem.W.mg_none_of X G z_len, PySem.W.mg_none_of X G z_min, PySem.W.mg_none_of X G z_range, PySem.W.mg_none_of X G z_sorted, PySem.W.mg_none_of X G z_tuple, PySem.W.mg_none_of X G z_list⟩
  refine ⟨_, fun s v => ?_, fun base _ _ => ok_law T⟩
  exact .of_eq rfl
theorem walk {l : PySem.W.OpenLaw} {q : Program} {loose : List Str} {XP : (Str → Option Value) → Heap → Prop} {YP : World → Heap → Prop} {d : DefRec} {K : Params → PySem.W.Frag} (hn : l.most = some 63) (hdf : d.params.defaults = [])
    (hY : ∀ (w : World) (h : Heap), YP w h → (K w.params).In h)
    (F : ∀ (w : World) (mg : Str → Option Value) (fa : Addr) (h : Heap), (K w.params).In h → h.Ns mainGlobals mg → mg d.name = some (.ref fa) →
      ∃ fd : FuncData, (∀ (s : Shared) (u : Value), BindsTo s fd ⟨[u], []⟩ [("_law_script", u)]) ∧ ∀ base : Heap, (K w.params).In base → base.Ns mainGlobals mg → FnOk l.prog w (K w.params) mg base CX0 8 fa fd ["_law_script"] (spLaw (K w.params))) :
    PySem.W.WalkO q loose XP YP l.row.toRowW d [] (fun f vs => PySem.call f vs) :=
  L2.walk_of (n := 63) (k := 8) (x := "_law_script") (CX := fun _ => CX0) (sp := fun w => spLaw (K w.params)) hn (by decide) hdf ⟨rfl, by decide, by decide⟩ hY F (fun _ _ a ns hl _ hS => ⟨a, ns, rfl, hS, hl, fun _ => rfl⟩) fun _ _ _ _ _ z => z
end My
namespace PySem.W.Fast
abbrev tw90343872475197607 : Type := PySem.Params
theorem te90343872475197607 : PySem.Params = tw90343872475197607 := rfl
end PySem.W.Fast
open PySem PySem.W PyProof.Rows
set_option maxRecDepth 100000 in
set_option maxHeartbeats 0 in
theorem PySem.Challenge.cw_lampcues_k82_marks_holds : PySem.Challenge.rw_lampcues_k82_marks.Holds := by
  w_on; o_law; k_head; (case hw => w_witness2)
  k_fill
  refine My.walk (l := PySem.Challenge.rw_lampcues_k82_marks) rfl rfl (fun w h Y => PySem.W.kIn_of Y) ?F
  case F =>
    intro w mg fa h KX G hmg
    refine' My.all_mk KX G hmg ?a0 ?l0 ?c0 ?k0 ?a1 ?l1 ?c1 ?k1 ?a2 ?l2 ?c2 ?k2 ?a3 ?l3 ?c3 ?k3 ?a4 ?l4 ?c4 ?k4 ?a5 ?l5 ?c5 ?k5 ?a6 ?l6 ?c6 ?k6 ?a7 ?l7 ?c7 ?k7 ?a8 ?l8 ?c8 ?k8 ?z_isinstance ?z_int ?z_bool ?z_len ?z_min ?z_range ?z_sorted ?z_tuple ?z_list
    (case a0 => k_is)
    (case l0 => k_is)
    (case c0 => k_is)
    (case k0 => k_is)
    (case a1 => k_is)
    (case l1 => k_is)
    (case c1 => k_is)
    (case k1 => k_is)
    (case a2 => k_is)
    (case l2 => k_is)
    (case c2 => k_is)
    (case k2 => k_is)
    (case a3 => k_is)
    (case l3 => k_is)
    (case c3 => k_is)
    (case k3 => k_is)
    (case a4 => k_is)
    (case l4 => k_is)
    (case c4 => k_is)
    (case k4 => k_is)
    (case a5 => k_is)
    (case l5 => k_is)
    (case c5 => k_is)
    (case k5 => k_is)
    (case a6 => k_is)
    (case l6 => k_is)
    (case c6 => k_is)
    (case k6 => k_is)
    (case a7 => k_is)
    (case l7 => k_is)
    (case c7 => k_is)
    (case k7 => k_is)
    (case a8 => k_is)
    (case l8 => k_is)
    (case c8 => k_is)
    (case k8 => k_is)
    (case z_isinstance => k_is)
    (case z_int => k_is)
    (case z_bool => k_is)
    (case z_len => k_is)
    (case z_min => k_is)
    (case z_range => k_is)
    (case z_sorted => k_is)
    (case z_tuple => k_is)
    (case z_list => k_is)
