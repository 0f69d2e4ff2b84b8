import PyProof.Rows.All
import Wide.All
import OpenK.AllK
import Wide.FinOn
import Lean
import PyProof.EqAt
import PyProof.EqKinds
import PyProof.TupleCall
import PySem.SetTable
import PyProof.SetKind
import PyProof.SetNew
import PyProof.SetRoads
import PyProof.TupleKey
import PyProof.IsRules
import PyProof.Rows.SetFrom
import PyProof.CollectWalk
import PyProof.CollectIter
import KE.KSortTup
import PyProof.DictWalks
import PyProof.DictItems
import KE.KDictOf
import KE.KMinKey
import PyProof.Rows.CallKwBuiltin
import PyProof.Rows.Range3
import PyProof.ZipIter
import KE.KEqSeq
import PyProof.NeKinds
import KE.KRevIter
import PySem.Challenge.RW_lampcues_k40_refused_deeds
set_option Elab.async false
set_option linter.all false
-- CHANGE: your row's module here, as the last of these rows
set_option maxRecDepth 100000
namespace L2
open PySem PySem.Spec PyProof.Rows
abbrev Key := Sum Int Str
def keyIs : Key → Value → Bool
  | .inl k, v => Value.isInt k v
  | .inr x, v => Value.isStrOf x v
def keyH (w : World) : Key → Int
  | .inl k => hashInt k
  | .inr x => hashStr w x
theorem keyIs_shape : ∀ {k : Key} {v : Value}, keyIs k v = true → (∃ i t, k = Sum.inl i ∧ v = Value.int i t) ∨ (∃ x t, k = Sum.inr x ∧ v = Value.str x t)
  | .inl i, v, h => by
    obtain ⟨t, e⟩ := Value.isInt_shape (k := i) (v := v) h
    exact .inl ⟨i, t, rfl, e⟩
  | .inr x, v, h => by
    obtain ⟨t, e⟩ := Value.isStrOf_shape (x := x) (v := v) h
    exact .inr ⟨x, t, rfl, e⟩
theorem keyIs_int (i : Int) (t : Tok) : keyIs (.inl i) (.int i t) = true := by simp [keyIs, Value.isInt]
theorem keyIs_str (x : Str) (t : Tok) : keyIs (.inr x) (.str x t) = true := by simp [keyIs, Value.isStrOf]
theorem key_ll (a b : Int) : decide ((Sum.inl a : Key) = Sum.inl b) = (a == b) := by
  by_cases e : a = b
  · subst e; simp
  · have h : ¬ (Sum.inl a : Key) = Sum.inl b := fun q => e (Sum.inl.inj q)
    rw [decide_eq_false h]
    exact (beq_eq_false_iff_ne.mpr e).symm
theorem key_rr (a b : Str) : decide ((Sum.inr a : Key) = Sum.inr b) = decide (a = b) := by
  by_cases e : a = b
  · subst e; simp
  · have h : ¬ (Sum.inr a : Key) = Sum.inr b := fun q => e (Sum.inr.inj q)
    rw [decide_eq_false h, decide_eq_false e]
theorem key_lr (a : Int) (b : Str) : decide ((Sum.inl a : Key) = Sum.inr b) = false := decide_eq_false (fun q => nomatch q)
theorem key_rl (a : Str) (b : Int) : decide ((Sum.inr a : Key) = Sum.inl b) = false := decide_eq_false (fun q => nomatch q)
def mixKind (prog : Program) (w : World) : PySem.KeyKind prog w Key where
  is := keyIs
  hash := keyH w
  inj := fun v a b ha hb => by
    rcases keyIs_shape ha with ⟨i, t, rfl, rfl⟩ | ⟨x, t, rfl, rfl⟩
    · rcases keyIs_shape hb with ⟨j, u, rfl, e⟩ | ⟨y, u, rfl, e⟩
      · injection e with e1 _; rw [e1]
      · exact nomatch e
    · rcases keyIs_shape hb with ⟨j, u, rfl, e⟩ | ⟨y, u, rfl, e⟩
      · exact nomatch e
      · injection e with e1 _; rw [e1]
  byValue := fun k v h => by
    rcases keyIs_shape h with ⟨i, t, rfl, rfl⟩ | ⟨x, t, rfl, rfl⟩ <;> rfl
  pyHash := fun hv h => by
    rcases keyIs_shape hv with ⟨i, t, rfl, rfl⟩ | ⟨x, t, rfl, rfl⟩
    · exact wpAny_pyHash_int h
    · exact wpAny_pyHash_str h
  eqBool := fun hu hv h => by
    rcases keyIs_shape hu with ⟨i, t, rfl, rfl⟩ | ⟨x, t, rfl, rfl⟩
    · rcases keyIs_shape hv with ⟨j, u, rfl, rfl⟩ | ⟨y, u, rfl, rfl⟩
      · rw [key_ll] at h; exact wpAny_eqBool_int h
      · rw [key_lr] at h; exact SeqAt.EqAt.int_str i t y u _ _ _ _ h
    · rcases keyIs_shape hv with ⟨j, u, rfl, rfl⟩ | ⟨y, u, rfl, rfl⟩
      · rw [key_rl] at h; exact SeqAt.EqAt.str_int x t j u _ _ _ _ h
      · rw [key_rr] at h; exact wpAny_eqBool_str h
  «strs» := fun k x t v h => by
    rcases keyIs_shape h with ⟨i, u, rfl, e⟩ | ⟨y, u, rfl, e⟩
    · exact nomatch e
    · injection e with e1 _
      subst e1
      cases v <;> rfl
theorem mixKind_int (prog : Program) (w : World) (i : Int) (t : Tok) : (mixKind prog w).is (.inl i) (.int i t) = true := keyIs_int i t
theorem mixKind_str (prog : Program) (w : World) (x : Str) (t : Tok) : (mixKind prog w).is (.inr x) (.str x t) = true := keyIs_str x t
end L2
namespace L2
open PySem PySem.Spec PyProof.Rows
inductive V where
  | non | bl (b : Bool) | int (i : Int) | str (x : Str) | byt (b : Array UInt8) | flt (b : UInt64) | ref (a : Addr) | ty (n : String)
  deriving DecidableEq
def RelV : V → Value → Prop
  | .non, u => u = Value.none
  | .bl b, u => u = Value.bool b
  | .int i, u => ∃ t, u = Value.int i t
  | .str x, u => ∃ t, u = Value.str x t
  | .byt b, u => ∃ t, u = Value.bytes b t
  | .flt b, u => ∃ t, u = Value.float b t
  | .ref a, u => u = Value.ref a
  | .ty n, u => u = Value.type n
abbrev Vals : List V → List Value → Prop := Paired RelV
theorem Vals.length {xs : List V} {us : List Value} (r : Vals xs us) : xs.length = us.length := Paired.length r
theorem Vals.get : ∀ {xs : List V} {us : List Value} {i : Nat} {x : V}, Vals xs us → xs[i]? = some x → ∃ u, us[i]? = some u ∧ RelV x u
  | _, _, _, _, .nil, e => by simp at e
  | _, _, 0, _, .cons r _, e => by simp at e; subst e; exact ⟨_, rfl, r⟩
  | _, _, i + 1, x, .cons _ t, e => by
    obtain ⟨u, h1, h2⟩ := Vals.get (i := i) (x := x) t (by simpa using e)
    exact ⟨u, by simpa using h1, h2⟩
theorem Vals.set {x : V} {u : Value} (r : RelV x u) : ∀ {xs : List V} {us : List Value} (i : Nat), Vals xs us → Vals (xs.set i x) (us.set i u)
  | _, _, _, .nil => .nil
  | _, _, 0, .cons _ t => .cons r t
  | _, _, i + 1, .cons q t => .cons q (Vals.set r i t)
theorem Vals.append : ∀ {xs ys : List V} {us ws : List Value}, Vals xs us → Vals ys ws → Vals (xs ++ ys) (us ++ ws)
  | _, _, _, _, .nil, s => s
  | _, _, _, _, .cons r t, s => .cons r (Vals.append t s)
theorem Vals.take : ∀ {xs : List V} {us : List Value} (n : Nat), Vals xs us → Vals (xs.take n) (us.take n)
  | _, _, 0, _ => .nil
  | _, _, _ + 1, .nil => .nil
  | _, _, n + 1, .cons r t => .cons r (Vals.take n t)
theorem Vals.drop : ∀ {xs : List V} {us : List Value} (n : Nat), Vals xs us → Vals (xs.drop n) (us.drop n)
  | _, _, 0, r => r
  | _, _, _ + 1, .nil => .nil
  | _, _, n + 1, .cons _ t => Vals.drop n t
theorem Vals.none_of : ∀ {xs : List V} {us : List Value} {i : Nat}, Vals xs us → xs[i]? = none → us[i]? = none := fun {xs us i} r e => by
  have h1 := r.length
  have h2 : xs.length ≤ i := List.getElem?_eq_none_iff.mp e
  exact List.getElem?_eq_none_iff.mpr (by omega)
def RelO : Option V → Option Value → Prop
  | some v, some u => RelV v u
  | none, none => True
  | _, _ => False
def KV {κ : Type} : List (κ × V) → List (κ × Value) → Prop := Paired fun (p : κ × V) (q : κ × Value) => p.1 = q.1 ∧ RelV p.2 q.2
def kV : Key → V
  | .inl i => .int i
  | .inr x => .str x
inductive HO where
  | lst (xs : List V)
  | tup (xs : List V)
  | dK (kvs : List (Key × V)) | dT (kvs : List (List Key × V))
  | set (S : Int → Bool) (n : Nat)
  | ins (C dx : Addr) (fs : List (Str × V))
  | own (x : Addr)
  | xd (fs : List (Str × V))
  | met (f x : Addr)
  | rng (lo hi : Int)
  | frz (o : Obj) (u : HO)
  | tbl (ps : Array Value)
  | ext (φ : Heap → Prop)
abbrev Hp := Addr → Option HO
def upd (H : Hp) (a : Addr) (o : HO) : Hp := fun b => if b = a then some o else H b
theorem upd_same {H : Hp} {a : Addr} {o : HO} : upd H a o a = some o := by unfold upd; rw [if_pos rfl]
theorem upd_ne {H : Hp} {a b : Addr} {o : HO} (h : b ≠ a) : upd H a o b = H b := by unfold upd; rw [if_neg h]
theorem ne_of {H : Hp} {a b : Addr} {o u : HO} (h : H a = some o) (h' : H b = some u) (d : o ≠ u) : a ≠ b := by
  intro e; subst e; rw [h] at h'; exact d (Option.some.inj h')
theorem ne_of_none {H : Hp} {a b : Addr} {o : HO} (h : H a = some o) (h' : H b = none) : a ≠ b := by
  intro e; subst e; rw [h] at h'; cases h'
section
variable (P : Program) (w : World)
def ObjOk (H : Hp) (h : Heap) (a : Addr) : HO → Prop
  | .lst xs => xs.length ≤ sizeLine ∧ ∃ (its : List Value) (n : Nat), Vals xs its ∧ h.get? a = some { cls := .type "list", data := .seq its.toArray n }
  | .tup xs => xs.length ≤ sizeLine ∧ ∃ its : List Value, Vals xs its ∧ IsTup h a its.toArray
  | .dK kvs => kvs.length ≤ sizeLine ∧ (a == sysModules) = false ∧ ∃ vs, KV kvs vs ∧ h.DictOf (mixKind P w) a vs
  | .dT kvs => kvs.length ≤ sizeLine ∧ (a == sysModules) = false ∧ ∃ xs : List (List Key × Addr × Value),
      Paired (fun (p : List Key × V) (q : List Key × Addr × Value) => p.1 = q.1 ∧ H q.2.1 = some (.tup (p.1.map kV)) ∧ RelV p.2 q.2.2) kvs xs ∧
      ∃ o es ep, h.get? a = some o ∧ o.ExactDict ∧ o.data = .dict es ep ∧ es.toList = xs.map (entryOfKey (tupleKind (mixKind P w))) ∧ (xs.map (·.1)).Nodup
  | .set S n => h.SetOf (intKind P w) a S n
  | .ins C dx fs => H dx = some (.own a) ∧ fs.length ≤ 1000 ∧ dx ≠ a ∧ h.get? a = some (PySem.W.instObj C dx) ∧
      ∃ mA, h.Ns1 dx mA ∧ (∀ f, RelO (fs.lookup f) (mA f)) ∧ PySem.Within mA (fs.map (·.1))
  | .own _ => ∃ o, h.get? a = some o
  | .xd fs => ∃ mA, h.Ns1 a mA ∧ ∀ f, RelO (fs.lookup f) (mA f)
  | .rng lo hi => ∃ t u v, h.get? a = some { cls := .type "range", data := .fields #[.int lo t, .int hi u, .int 1 v] }
  | .frz o u => h.get? a = some o ∧ ObjOk H h a u
  | .tbl ps => h.get? a = some { cls := .none, data := .fields ps }
  | .met f x => h.get? a = some (PySem.W.methodObj (.ref f) (.ref x))
  | .ext φ => φ h ∧ (∃ o, h.get? a = some o) ∧ ∀ h1 h2 : Heap, φ h1 → (∀ o, h1.get? a = some o → h2.get? a = some o) → φ h2
def HOk (H : Hp) (h : Heap) : Prop := ∀ a o, H a = some o → ObjOk P w H h a o
end
section
variable {P : Program} {w : World} {H H' : Hp} {h h' : Heap} {a : Addr} {o : HO}
theorem ObjOk.lt (x : ObjOk P w H h a o) : a < h.objs.size := by
  cases o with
  | lst xs => obtain ⟨_, _, _, _, e⟩ := x; exact Heap.lt_size e
  | tup xs => obtain ⟨_, _, _, p⟩ := x; exact p.lt
  | dK kvs => obtain ⟨_, _, _, _, o, _, _, e, _⟩ := x; exact Heap.lt_size e
  | dT kvs => obtain ⟨_, _, _, _, o, _, _, e, _⟩ := x; exact Heap.lt_size e
  | set S n => obtain ⟨o, _, _, _, e, _⟩ := x; exact Heap.lt_size e
  | ins C dx fs => obtain ⟨_, _, _, e, _⟩ := x; exact Heap.lt_size e
  | own y => obtain ⟨_, e⟩ := x; exact Heap.lt_size e
  | xd fs => obtain ⟨_, ⟨_, _, _, e, _⟩, _⟩ := x; exact Heap.lt_size e
  | rng lo hi => obtain ⟨_, _, _, e⟩ := x; exact Heap.lt_size e
  | frz ob u => obtain ⟨e, _⟩ := x; exact Heap.lt_size e
  | tbl ps => exact Heap.lt_size (show h.get? a = some _ from x)
  | met f y => exact Heap.lt_size (show h.get? a = some _ from x)
  | ext φ => obtain ⟨_, ⟨_, e⟩, _⟩ := x; exact Heap.lt_size e
theorem Paired.mapP {α β : Type} {F G : α → β → Prop} : ∀ {l₁ : List α} {l₂ : List β}, Paired F l₁ l₂ → (∀ a b, F a b → G a b) → Paired G l₁ l₂
  | _, _, .nil, _ => .nil
  | _, _, .cons r t, f => .cons (f _ _ r) (Paired.mapP t f)
theorem ObjOk.stay (x : ObjOk P w H h a o) (k : ∀ b u, (b = a ∨ H b = some (.own a)) → h.get? b = some u → h'.get? b = some u)
    (ho : ∀ b, H b = some (.own a) → H' b = some (.own a)) (ht : ∀ b xs, H b = some (.tup xs) → H' b = some (.tup xs)) : ObjOk P w H' h' a o := by
  induction o with
  | lst xs => obtain ⟨z, its, n, r, e⟩ := x; exact ⟨z, its, n, r, k _ _ (.inl rfl) e⟩
  | tup xs => obtain ⟨z, its, r, ob, e, c⟩ := x; exact ⟨z, its, r, ob, k _ _ (.inl rfl) e, c⟩
  | dK kvs => obtain ⟨z, y, vs, r, ob, es, ep, e, c⟩ := x; exact ⟨z, y, vs, r, ob, es, ep, k _ _ (.inl rfl) e, c⟩
  | dT kvs =>
    obtain ⟨z, y, xs, r, ob, es, ep, e, c⟩ := x
    exact ⟨z, y, xs, Paired.mapP r fun p q z => ⟨z.1, ht _ _ z.2.1, z.2.2⟩, ob, es, ep, k _ _ (.inl rfl) e, c⟩
  | set S n => obtain ⟨ob, es, ep, t, e, c⟩ := x; exact ⟨ob, es, ep, t, k _ _ (.inl rfl) e, c⟩
  | ins C dx fs =>
    obtain ⟨d, z, ne, e, mA, ⟨od, es, ep, e2, c⟩, r⟩ := x
    exact ⟨ho _ d, z, ne, k _ _ (.inl rfl) e, mA, ⟨od, es, ep, k _ _ (.inr d) e2, c⟩, r⟩
  | own y => obtain ⟨ob, e⟩ := x; exact ⟨ob, k _ _ (.inl rfl) e⟩
  | xd fs => obtain ⟨mA, ⟨od, es, ep, e, c⟩, r⟩ := x; exact ⟨mA, ⟨od, es, ep, k _ _ (.inl rfl) e, c⟩, r⟩
  | rng lo hi => obtain ⟨t, u, v, e⟩ := x; exact ⟨t, u, v, k _ _ (.inl rfl) e⟩
  | frz ob u ih => obtain ⟨e, q⟩ := x; exact ⟨k _ _ (.inl rfl) e, ih q⟩
  | tbl ps =>
    have e : h.get? a = some { cls := .none, data := .fields ps } := x
    show h'.get? a = some { cls := .none, data := .fields ps }
    exact k a _ (.inl rfl) e
  | met f y =>
    have e : h.get? a = some (PySem.W.methodObj (.ref f) (.ref y)) := x
    show h'.get? a = some (PySem.W.methodObj (.ref f) (.ref y))
    exact k a _ (.inl rfl) e
  | ext φ => obtain ⟨p, ⟨o, e⟩, st⟩ := x; exact ⟨st _ _ p fun o q => k _ _ (.inl rfl) q, ⟨o, k _ _ (.inl rfl) e⟩, st⟩
theorem HOk.lt (x : HOk P w H h) (e : H a = some o) : a < h.objs.size := (x a o e).lt
theorem HOk.fresh (x : HOk P w H h) (e : h.objs.size ≤ a) : H a = none := by
  cases q : H a with
  | none => rfl
  | some u => exact absurd (Nat.lt_of_lt_of_le (x.lt q) e) (Nat.lt_irrefl _)
theorem HOk.kept (x : HOk P w H h) (k : ∀ b u, h.get? b = some u → h'.get? b = some u) : HOk P w H h' := fun a o e =>
  (x a o e).stay (fun b u _ q => k b u q) (fun _ q => q) fun _ _ q => q
theorem HOk.laid (x : HOk P w H h) (k : ∀ b u, h.get? b = some u → h'.get? b = some u) (hp : h.objs.size ≤ a) (new : ObjOk P w (upd H a o) h' a o) : HOk P w (upd H a o) h' := fun b u e => by
  have hn := x.fresh hp
  by_cases hb : b = a
  · subst hb; rw [upd_same] at e; cases e; exact new
  · rw [upd_ne hb] at e
    exact (x b u e).stay (fun c v _ q => k c v q) (fun c q => by rw [upd_ne (ne_of_none q hn)]; exact q) fun c xs q => by rw [upd_ne (ne_of_none q hn)]; exact q
end
def Rd (H : Hp) (a : Addr) (u : HO) : Prop := H a = some u ∨ ∃ o, H a = some (.frz o u)
theorem Rd.of {H : Hp} {a : Addr} {u : HO} (h : H a = some u) : Rd H a u := .inl h
theorem Rd.ok {P : Program} {w : World} {H : Hp} {h : Heap} {a : Addr} {u : HO} (r : Rd H a u) (x : HOk P w H h) : ObjOk P w H h a u := by
  rcases r with r | ⟨o, r⟩
  · exact x a u r
  · obtain ⟨_, q⟩ := x a _ r
    exact q
def Mut : Option HO → Prop
  | some (.lst _) => True
  | some (.dK _) => True
  | some (.dT _) => True
  | some (.set _ _) => True
  | some (.ins _ _ _) => True
  | some (.ext _) => True
  | _ => False
section
variable {P : Program} {w : World} {H : Hp} {h h' : Heap} {x e : Addr} {o' : HO}
theorem HOk.write (ok : HOk P w H h) (mu : Mut (H x)) (he : e = x ∨ H e = some (.own x)) (k : ∀ b u, b ≠ e → h.get? b = some u → h'.get? b = some u) (heo : ∃ u, h'.get? e = some u)
    (new : ObjOk P w (upd H x o') h' x o') : HOk P w (upd H x o') h' := fun b u q => by
  have nown : ∀ c y, H c = some (.own y) → c ≠ x := fun c y r z => by subst z; rw [r] at mu; exact mu
  have ntup : ∀ c xs, H c = some (.tup xs) → c ≠ x := fun c xs r z => by subst z; rw [r] at mu; exact mu
  by_cases hb : b = x
  · subst hb; rw [upd_same] at q; cases q; exact new
  · rw [upd_ne hb] at q
    by_cases hbe : b = e
    · have q' : H b = some (.own x) := by
        rcases he with z | z
        · exact absurd (hbe.trans z) hb
        · rw [hbe]; exact z
      rw [q] at q'; cases q'
      obtain ⟨v, hv⟩ := heo
      exact ⟨v, by rw [hbe]; exact hv⟩
    · refine (ok b u q).stay (fun c v hc r => k c v ?_ r) (fun c r => by rw [upd_ne (nown c b r)]; exact r) fun c xs r => by rw [upd_ne (ntup c xs r)]; exact r
      rcases hc with rfl | hc
      · exact hbe
      · rintro rfl
        rcases he with z | z
        · exact nown c b hc z
        · rw [hc] at z; cases z; exact hb rfl
end
structure Un (fs ex : List Addr) (H H' : Hp) (h h' : Heap) : Prop where
  keep : ∀ b o, h.get? b = some o → H b = none → b ∉ fs → b ∉ ex → h'.get? b = some o
  slot : ∀ b o, h.get? b = some o → H b = none → b ∈ fs → b ∉ ex → ∃ sl, h'.get? b = some { o with slots := sl }
  free : ∀ b o, h.get? b = some o → H b = none → b ∉ ex → H' b = none
  there : ∀ b o, h.get? b = some o → b ∉ ex → ∃ o', h'.get? b = some o'
  tups : ∀ b xs, H b = some (.tup xs) → H' b = some (.tup xs)
  frzs : ∀ b o u, H b = some (.frz o u) → H' b = some (.frz o u)
  tbls : ∀ b ps, H b = some (.tbl ps) → ∃ more, H' b = some (.tbl (ps ++ more))
section
variable {fs fs' ex ex' : List Addr} {H H1 H2 : Hp} {h h1 h2 h' : Heap} {a x e : Addr} {o : HO}
theorem Un.any (u : Un fs ex H H1 h h1) {b : Addr} {ob : Obj} (q : h.get? b = some ob) (n : H b = none) (hx : b ∉ ex) : ∃ sl, h1.get? b = some { ob with slots := sl } := by
  by_cases hb : b ∈ fs
  · exact u.slot b ob q n hb hx
  · exact ⟨ob.slots, u.keep b ob q n hb hx⟩
theorem Un.trans (a : Un fs ex H H1 h h1) (b : Un fs ex H1 H2 h1 h2) : Un fs ex H H2 h h2 where
  keep := fun c ob q n hc hx => b.keep c ob (a.keep c ob q n hc hx) (a.free c ob q n hx) hc hx
  slot := fun c ob q n hc hx => by
    obtain ⟨sl, e1⟩ := a.slot c ob q n hc hx
    obtain ⟨sl', e2⟩ := b.slot c _ e1 (a.free c ob q n hx) hc hx
    exact ⟨sl', e2⟩
  free := fun c ob q n hx => by
    obtain ⟨o', e1⟩ := a.there c ob q hx
    exact b.free c o' e1 (a.free c ob q n hx) hx
  there := fun c ob q hx => by
    obtain ⟨o', e1⟩ := a.there c ob q hx
    exact b.there c o' e1 hx
  tups := fun c xs q => b.tups c xs (a.tups c xs q)
  frzs := fun c ob xs q => b.frzs c ob xs (a.frzs c ob xs q)
  tbls := fun c ps q => by
    obtain ⟨m1, e1⟩ := a.tbls c ps q
    obtain ⟨m2, e2⟩ := b.tbls c _ e1
    exact ⟨m1 ++ m2, by rw [e2, Array.append_assoc]⟩
theorem Un.kept (k : ∀ b u, h.get? b = some u → h'.get? b = some u) : Un fs ex H H h h' :=
  ⟨fun b ob q _ _ _ => k b ob q, fun b ob q _ _ _ => ⟨ob.slots, k b ob q⟩, fun _ _ _ n _ => n, fun b ob q _ => ⟨ob, k b ob q⟩, fun _ _ q => q, fun _ _ _ q => q, fun _ ps q => ⟨#[], by rw [q]; simp⟩⟩
theorem Un.refl : Un fs ex H H h h := Un.kept fun _ _ q => q
theorem Un.laid (k : ∀ b u, h.get? b = some u → h'.get? b = some u) (hp : h.objs.size ≤ a) (hn : H a = none) : Un fs ex H (upd H a o) h h' where
  keep := fun b u q _ _ _ => k b u q
  slot := fun b u q _ _ _ => ⟨u.slots, k b u q⟩
  free := fun b u q n _ => by rw [upd_ne (Nat.ne_of_lt (Nat.lt_of_lt_of_le (Heap.lt_size q) hp))]; exact n
  there := fun b u q _ => ⟨u, k b u q⟩
  tups := fun b xs q => by rw [upd_ne (ne_of_none q hn)]; exact q
  frzs := fun b u xs q => by rw [upd_ne (ne_of_none q hn)]; exact q
  tbls := fun b ps q => ⟨#[], by rw [upd_ne (ne_of_none q hn), q]; simp⟩
theorem Un.write (mu : Mut (H x)) (he : e = x ∨ H e = some (.own x)) (k : ∀ b u, b ≠ e → h.get? b = some u → h'.get? b = some u) (heo : ∃ u, h'.get? e = some u) : Un fs ex H (upd H x o) h h' := by
  have hx : ∀ b, H b = none → b ≠ x := fun b n z => by subst z; rw [n] at mu; exact mu
  have hb : ∀ b, H b = none → b ≠ e := fun b n z => by
    subst z
    rcases he with r | r
    · exact hx b n r
    · rw [n] at r; cases r
  have hm : ∀ b u, H b = some u → ¬ Mut (some u) → b ≠ x := fun b u q nm z => by subst z; rw [q] at mu; exact nm mu
  refine ⟨fun b u q n _ _ => k b u (hb b n) q, fun b u q n _ _ => ⟨u.slots, k b u (hb b n) q⟩, fun b u q n _ => by rw [upd_ne (hx b n)]; exact n, fun b u q _ => ?_,
    fun b xs q => by rw [upd_ne (hm b _ q fun z => z)]; exact q, fun b u xs q => by rw [upd_ne (hm b _ q fun z => z)]; exact q, fun b ps q => ⟨#[], by rw [upd_ne (hm b _ q fun z => z), q]; simp⟩⟩
  by_cases hbe : b = e
  · subst hbe; exact heo
  · exact ⟨u, k b u hbe q⟩
theorem Un.mono (u : Un fs ex H H1 h h1) (hs : ∀ b ∈ fs, b ∈ fs') (hx : ∀ b ∈ ex, b ∈ ex') : Un fs' ex' H H1 h h1 :=
  ⟨fun b ob q n hb he => u.keep b ob q n (fun z => hb (hs b z)) fun z => he (hx b z), fun _ _ q n _ he => u.any q n fun z => he (hx _ z), fun b ob q n he => u.free b ob q n fun z => he (hx b z), fun b ob q he => u.there b ob q fun z => he (hx b z), u.tups, u.frzs, u.tbls⟩
end
def trk (h : Heap) (H : Hp) : List Addr := (List.range h.objs.size).filter fun a => (H a).isSome
def hidT (h : Heap) (H : Hp) : Heap := PySem.W.hideAll h (trk h H)
theorem hidT_size (h : Heap) (H : Hp) : (hidT h H).objs.size = h.objs.size := PySem.W.hideAll_size _ _
theorem hidT_get {h : Heap} {H : Hp} {b : Addr} {o : Obj} (e : h.get? b = some o) (n : H b = none) : (hidT h H).get? b = some o :=
  PySem.W.hideAll_get _ e fun hm => by
    have q : (H b).isSome = true := (List.mem_filter.mp hm).2
    rw [n] at q; simp at q
theorem of_hidT {h : Heap} {H : Hp} {b : Addr} {o : Obj} (e : (hidT h H).get? b = some o) : h.get? b = some o ∧ H b = none := by
  have e' : h.get? b = some o := PySem.W.of_hideAll (trk h H) e
  refine ⟨e', ?_⟩
  cases q : H b with
  | none => rfl
  | some x =>
    have hm : b ∈ trk h H := List.mem_filter.mpr ⟨List.mem_range.mpr (Heap.lt_size e'), by simp [q]⟩
    have z : (hidT h H).get? b = none := PySem.W.hideAll_none (trk h H) hm
    rw [z] at e; cases e
def allNews (g h : Heap) (L : Addr) : List (Addr × Obj) := (List.range h.objs.size).filterMap fun a => if a = L ∨ (g.get? a).isSome = true then none else (h.get? a).map fun o => (a, o)
def rest (g h : Heap) (L d : Addr) : List (Addr × Obj) := (allNews g h L).filter fun p => decide (p.1 ≠ d)
end L2
namespace L2
open PySem PySem.Spec PyProof.Rows
structure Mod (K : PySem.W.Frag) (mg : Str → Option Value) (base : Heap) : Prop where
  kin : K.In base
  glob : base.Ns mainGlobals mg
  blt : ∃ mb, base.Ns builtinsNs mb ∧ ∀ x : Str, x ≠ "__name__" → mb x = bootBuiltins x
  nolimit : base.NoLimit
structure Cx where
  prog : Program
  w : World
  K : PySem.W.Frag
  mg : Str → Option Value
  base : Heap
  A : Around
  N : List Str
  s₀ : Shared
  H₀ : Hp
  env : Env
  outer : List Env
  stack : List Env
  ex : List Addr
  fn : Str → Bool
  calm : Bool
  pn : List (Addr × Obj)
  xe : Value → Shared → Prop
def frs (l : List Env) : List Addr := l.filterMap (·.frame)
abbrev Cx.fs (X : Cx) : List Addr := frs X.outer
def Vis (sc : Scope) (x : Str) : Prop := sc.names.lookup x = some .local ∨ sc.names.lookup x = some .cell ∨ sc.names.lookup x = some .free
def Loc (sc : Scope) (x : Str) : Prop := sc.names.lookup x = some .local ∨ sc.names.lookup x = some .cell
def Look (env : Env) (h : Heap) (m : Str → Option Value) (x : Str) (u : Value) : Prop :=
  (env.kindOf x = some .local ∧ m x = some u) ∨ ((env.kindOf x = some .cell ∨ env.kindOf x = some .free) ∧ ∃ c, env.cells.lookup x = some c ∧ h.IsCell c (some u))
structure Cx.Ok (X : Cx) : Prop where
  mod : Mod X.K X.mg X.base
  kind : X.env.scope.kind = .function
  glob : X.env.globals = mainGlobals
  blt : X.env.builtins = builtinsNs
  above : X.s₀.heap.objs.size ≤ X.env.locals
  inj : ∀ x y c, X.env.cells.lookup x = some c → X.env.cells.lookup y = some c → x = y
  has : ∀ x, (X.env.kindOf x = some .cell ∨ X.env.kindOf x = some .free) → ∃ c, X.env.cells.lookup x = some c
  cab : ∀ x c, X.fn x = true → X.env.cells.lookup x = some c → X.s₀.heap.objs.size ≤ c
  hd : X.calm = true → X.A.handled = none
  frames : X.A.frames = some X.stack
  stk : X.stack = X.outer ∨ (X.stack = X.env :: X.outer ∧ X.env.frame = some X.env.locals)
  exf : ∀ b ∈ X.ex, b ≠ X.env.locals ∧ ∀ x c, X.env.cells.lookup x = some c → c ≠ b
  bs : ∀ b o, X.base.get? b = some o → X.s₀.heap.get? b = some o ∧ X.H₀ b = none
  bsz : X.base.objs.size ≤ X.s₀.heap.objs.size
  noex : ∀ b o, X.base.get? b = some o → b ∉ X.ex
  exfs : ∀ b ∈ X.ex, b ∉ X.fs
  funs : X.s₀.heap.FunFrames X.base X.outer
  frf : ∀ b ∈ X.fs, X.H₀ b = none
structure Inv (X : Cx) (pins : List (Addr × Obj)) (σ : List (Option V)) (H : Hp) (s : Shared) : Prop where
  ok : X.Ok
  os : s.os = X.s₀.os
  bare : AllBare s.gens
  base : Un X.fs X.ex X.H₀ H X.s₀.heap s.heap
  loc : ∃ m, s.heap.Ns X.env.locals m ∧ ∀ (i : Nat) (x : Str) (v : V), X.N[i]? = some x → σ[i]? = some (some v) → Vis X.env.scope x → ∃ u, RelV v u ∧ Look X.env s.heap m x u
  cell : ∀ x c, X.env.cells.lookup x = some c → ∃ v, s.heap.IsCell c v
  free : H X.env.locals = none
  freeC : ∀ x c, X.env.cells.lookup x = some c → H c = none
  pin : ∀ p ∈ X.pn ++ pins, s.heap.get? p.1 = some p.2 ∧ H p.1 = none ∧ p.1 ≠ X.env.locals ∧ p.1 ∉ X.fs ∧ ∀ v, p.2.data ≠ .cell v
  hok : HOk X.prog X.w H s.heap
  len : σ.length = X.N.length
section
variable {X : Cx} {pins : List (Addr × Obj)} {σ : List (Option V)} {H H' : Hp} {s : Shared} {h' : Heap}
theorem Cx.Ok.nofr (ok : X.Ok) {b : Addr} {o : Obj} (e : X.base.get? b = some o) : b ∉ X.fs := fun hb => by
  have := (ok.funs.mem hb).1
  rw [e] at this; cases this
theorem Inv.bs (I : Inv X pins σ H s) : ∀ b o, X.base.get? b = some o → s.heap.get? b = some o ∧ H b = none := fun b o e =>
  ⟨I.base.keep b o (I.ok.bs b o e).1 (I.ok.bs b o e).2 (I.ok.nofr e) (I.ok.noex b o e), I.base.free b o (I.ok.bs b o e).1 (I.ok.bs b o e).2 (I.ok.noex b o e)⟩
theorem Inv.bk (I : Inv X pins σ H s) : ∀ b o, X.base.get? b = some o → s.heap.get? b = some o := fun b o e => (I.bs b o e).1
theorem Inv.mod (I : Inv X pins σ H s) : Mod X.K X.mg X.base := I.ok.mod
theorem Inv.kIn (I : Inv X pins σ H s) : X.K.In s.heap := I.ok.mod.kin.keeps I.bk
theorem Inv.nolimit (I : Inv X pins σ H s) : s.heap.NoLimit := I.ok.mod.nolimit.keeps I.bk
theorem Inv.lt (I : Inv X pins σ H s) : X.env.locals < s.heap.objs.size := let ⟨_, hn, _⟩ := I.loc; hn.lt
theorem Inv.sz (I : Inv X pins σ H s) : X.s₀.heap.objs.size ≤ s.heap.objs.size := Nat.le_trans I.ok.above (Nat.le_of_lt I.lt)
theorem Inv.nofs (I : Inv X pins σ H s) {a : Addr} (h : s.heap.objs.size ≤ a) : a ∉ X.fs := fun hb => by
  obtain ⟨_, o, ho, _⟩ := I.ok.funs.mem hb
  exact absurd (Nat.lt_of_lt_of_le (Heap.lt_size ho) (Nat.le_trans I.sz h)) (Nat.lt_irrefl _)
theorem Inv.cne (I : Inv X pins σ H s) : ∀ x c, X.env.cells.lookup x = some c → c ≠ X.env.locals := fun x c e z => by
  obtain ⟨v, o, ho, hd⟩ := I.cell x c e
  obtain ⟨m, ⟨o', es, ep, ho', hd', _⟩, _⟩ := I.loc
  rw [z, ho'] at ho; cases ho; rw [hd'] at hd; cases hd
theorem Inv.funs (I : Inv X pins σ H s) : s.heap.FunFrames X.base X.outer := by
  have all : ∀ (l : List Env), (∀ b ∈ frs l, b ∈ X.fs) → X.s₀.heap.FunFrames X.base l → s.heap.FunFrames X.base l := by
    intro l
    induction l with
    | nil => intro _ _; trivial
    | cons env r ih =>
      intro hs hl
      obtain ⟨hk, ⟨L, o, hf, hn, ho, hd⟩, hr⟩ := hl
      have hL : L ∈ X.fs := hs L (by unfold frs; rw [List.filterMap_cons, hf]; exact List.mem_cons_self)
      obtain ⟨sl, e⟩ := I.base.slot L o ho (I.ok.frf L hL) hL fun z => I.ok.exfs L z hL
      exact ⟨hk, ⟨L, _, hf, hn, e, hd⟩, ih (fun b hb => hs b (by unfold frs; rw [List.filterMap_cons, hf]; exact List.mem_cons_of_mem _ hb)) hr⟩
  exact all X.outer (fun _ hb => hb) I.ok.funs
theorem Inv.stack (I : Inv X pins σ H s) : s.heap.FunFrames X.base X.stack := by
  rcases I.ok.stk with e | ⟨e, hf⟩
  · rw [e]; exact I.funs
  · rw [e]
    obtain ⟨m, hn, _⟩ := I.loc
    refine .cons (by rw [I.ok.kind]; decide) hf hn ?_ I.funs
    exact Heap.get?_none_of_le (Nat.le_trans I.ok.bsz I.ok.above)
theorem Inv.stkSub (I : Inv X pins σ H s) : ∀ b ∈ frs X.stack, b ∈ X.env.locals :: X.fs := fun b hb => by
  rcases I.ok.stk with e | ⟨e, hf⟩
  · rw [e] at hb; exact List.mem_cons_of_mem _ hb
  · rw [e] at hb
    unfold frs at hb
    rw [List.filterMap_cons, hf] at hb
    exact hb
theorem Inv.stkFree (I : Inv X pins σ H s) : ∀ b ∈ frs X.stack, H b = none := fun b hb => by
  rcases List.mem_cons.mp (I.stkSub b hb) with e | hb
  · rw [e]; exact I.free
  · obtain ⟨_, o, ho, _⟩ := I.ok.funs.mem hb
    exact I.base.free b o ho (I.ok.frf b hb) fun z => I.ok.exfs b z hb
theorem Inv.step {g' : Array GenState} {t' : Nat} {d' : Drawn} {ch : List Addr} (I : Inv X pins σ H s)
    (hch : ∀ b ∈ ch, (b ∈ X.ex ∨ X.s₀.heap.objs.size ≤ b) ∧ b ≠ X.env.locals ∧ (∀ x c, X.env.cells.lookup x = some c → c ≠ b) ∧ ∀ p ∈ X.pn ++ pins, p.1 ≠ b)
    (keep : ∀ b o, b ≠ X.env.locals → b ∉ X.fs → b ∉ ch → s.heap.get? b = some o → H b = none → h'.get? b = some o)
    (slot : ∀ b o, b ≠ X.env.locals → b ∈ X.fs → b ∉ ch → s.heap.get? b = some o → H b = none → ∃ sl, h'.get? b = some { o with slots := sl }) (free : ∀ b o, b ∉ ch → s.heap.get? b = some o → H b = none → H' b = none)
    (there : ∀ b o, b ∉ ch → s.heap.get? b = some o → ∃ o', h'.get? b = some o')
    (tups : ∀ b xs, H b = some (.tup xs) → H' b = some (.tup xs)) (frzs : ∀ b o u, H b = some (.frz o u) → H' b = some (.frz o u)) (tbls : ∀ b ps, H b = some (.tbl ps) → ∃ more, H' b = some (.tbl (ps ++ more)))
    (ns : ∀ m, s.heap.Ns X.env.locals m → h'.Ns X.env.locals m) (hok : HOk X.prog X.w H' h') (hg : AllBare g') :
    Inv X pins σ H' { s with heap := h', gens := g', drawn := d', toks := t' } := by
  have neL : ∀ b o, X.s₀.heap.get? b = some o → b ≠ X.env.locals := fun b o e => Nat.ne_of_lt (Nat.lt_of_lt_of_le (Heap.lt_size e) I.ok.above)
  have neC : ∀ b o, X.s₀.heap.get? b = some o → b ∉ X.ex → b ∉ ch := fun b o e hx hb => by
    rcases (hch b hb).1 with z | z
    · exact hx z
    · exact absurd (Nat.lt_of_lt_of_le (Heap.lt_size e) z) (Nat.lt_irrefl _)
  have cellK : ∀ x c, X.env.cells.lookup x = some c → ∀ v, s.heap.IsCell c v → h'.IsCell c v := fun x c e v ⟨o, ho, hd⟩ => by
    have nch : c ∉ ch := fun z => (hch c z).2.2.1 x c e rfl
    by_cases hc : c ∈ X.fs
    · obtain ⟨sl, q⟩ := slot c o (I.cne x c e) hc nch ho (I.freeC x c e)
      exact ⟨_, q, hd⟩
    · exact ⟨o, keep c o (I.cne x c e) hc nch ho (I.freeC x c e), hd⟩
  refine ⟨I.ok, I.os, hg, ⟨fun b o e n hb hx => ?_, fun b o e n hb hx => ?_, fun b o e n hx => ?_, fun b o e hx => ?_, fun b xs e => tups b xs (I.base.tups b xs e), fun b o xs e => frzs b o xs (I.base.frzs b o xs e), fun b ps e => ?_⟩, ?_, fun x c e => ?_, ?_, fun x c e => ?_, fun p hp => ?_, hok, I.len⟩
  · exact keep b o (neL b o e) hb (neC b o e hx) (I.base.keep b o e n hb hx) (I.base.free b o e n hx)
  · obtain ⟨sl, e1⟩ := I.base.slot b o e n hb hx
    obtain ⟨sl', e2⟩ := slot b _ (neL b o e) hb (neC b o e hx) e1 (I.base.free b o e n hx)
    exact ⟨sl', e2⟩
  · obtain ⟨o', e1⟩ := I.base.there b o e hx
    exact free b o' (neC b o e hx) e1 (I.base.free b o e n hx)
  · obtain ⟨o', e1⟩ := I.base.there b o e hx
    exact there b o' (neC b o e hx) e1
  · obtain ⟨m1, e1⟩ := I.base.tbls b ps e
    obtain ⟨m2, e2⟩ := tbls b _ e1
    exact ⟨m1 ++ m2, by rw [e2, Array.append_assoc]⟩
  · obtain ⟨m, hn, hl⟩ := I.loc
    refine ⟨m, ns m hn, fun i x v e1 e2 e3 => ?_⟩
    obtain ⟨u, r, l⟩ := hl i x v e1 e2 e3
    refine ⟨u, r, ?_⟩
    rcases l with l | ⟨k, c, e, z⟩
    · exact .inl l
    · exact .inr ⟨k, c, e, cellK x c e _ z⟩
  · obtain ⟨v, z⟩ := I.cell x c e
    exact ⟨v, cellK x c e v z⟩
  · obtain ⟨m, ⟨o, _, _, ho, _⟩, _⟩ := I.loc
    exact free _ o (fun z => (hch _ z).2.1 rfl) ho I.free
  · obtain ⟨v, o, ho, hd⟩ := I.cell x c e
    exact free c o (fun z => (hch c z).2.2.1 x c e rfl) ho (I.freeC x c e)
  · obtain ⟨e, n, ne, nf, d⟩ := I.pin p hp
    have nch : p.1 ∉ ch := fun z => (hch p.1 z).2.2.2 p hp rfl
    exact ⟨keep p.1 p.2 ne nf nch e n, free p.1 p.2 nch e n, ne, nf, d⟩
theorem Inv.un {t' : Nat} (I : Inv X pins σ H s) (u : Un X.fs [] H H' s.heap h') (hok : HOk X.prog X.w H' h') : Inv X pins σ H' { s with heap := h', toks := t' } := by
  obtain ⟨m, ⟨o, es, ep, ho, r⟩, _⟩ := id I.loc
  obtain ⟨sl, hL⟩ := u.any ho I.free (by simp)
  exact I.step (g' := s.gens) (d' := s.drawn) (ch := []) (fun _ z => nomatch z) (fun b o _ hb _ e n => u.keep b o e n hb (by simp)) (fun b o _ hb _ e n => u.slot b o e n hb (by simp)) (fun b o _ e n => u.free b o e n (by simp)) (fun b o _ e => u.there b o e (by simp)) u.tups u.frzs u.tbls (fun m' hm => by
    obtain ⟨o', es', ep', ho', r'⟩ := hm
    rw [ho] at ho'; cases ho'
    exact ⟨_, es', ep', hL, r'⟩) hok I.bare
theorem Inv.call {g' : Array GenState} {t' : Nat} {d' : Drawn} {ch : List Addr} (I : Inv X pins σ H s) (u : Un (frs X.stack) ch H H' s.heap h') (hok : HOk X.prog X.w H' h') (hg : AllBare g')
    (hch : ∀ b ∈ ch, (b ∈ X.ex ∨ X.s₀.heap.objs.size ≤ b) ∧ b ≠ X.env.locals ∧ (∀ x c, X.env.cells.lookup x = some c → c ≠ b) ∧ ∀ p ∈ X.pn ++ pins, p.1 ≠ b) :
    Inv X pins σ H' { s with heap := h', gens := g', drawn := d', toks := t' } := by
  obtain ⟨m, ⟨o, es, ep, ho, r⟩, _⟩ := id I.loc
  obtain ⟨sl, hL⟩ := u.any ho I.free fun z => (hch _ z).2.1 rfl
  exact I.step (ch := ch) hch (fun b o hL hb hc e n => u.keep b o e n (fun z => (List.mem_cons.mp (I.stkSub b z)).elim hL hb) hc) (fun b o _ _ hc e n => u.any e n hc) (fun b o hc e n => u.free b o e n hc) (fun b o hc e => u.there b o e hc) u.tups u.frzs u.tbls (fun m' hm => by
    obtain ⟨o', es', ep', ho', r'⟩ := hm
    rw [ho] at ho'; cases ho'
    exact ⟨_, es', ep', hL, r'⟩) hok hg
theorem Inv.turned {t' : Nat} {it : Addr} (I : Inv X pins σ H s) (k : ∀ b o, b ≠ it → s.heap.get? b = some o → h'.get? b = some o) (hn : H it = none) (hL : it ≠ X.env.locals)
    (h1 : it ∈ X.ex ∨ X.s₀.heap.objs.size ≤ it) (h2 : ∀ x c, X.env.cells.lookup x = some c → c ≠ it) (h3 : ∀ p ∈ X.pn ++ pins, p.1 ≠ it) : Inv X pins σ H { s with heap := h', toks := t' } := by
  have nit : ∀ b u, H b = some u → b ≠ it := fun b u e z => by rw [z, hn] at e; cases e
  refine I.step (g' := s.gens) (d' := s.drawn) (ch := [it]) (fun b hb => ?_) (fun b o _ _ hc e _ => k b o (fun z => hc (by simp [z])) e) (fun b o _ _ hc e _ => ⟨o.slots, k b o (fun z => hc (by simp [z])) e⟩) (fun _ _ _ _ n => n)
    (fun b o hc e => ⟨o, k b o (fun z => hc (by simp [z])) e⟩) (fun _ _ e => e) (fun _ _ _ e => e) (fun b ps e => ⟨#[], by rw [e]; simp⟩) (fun m hm => ?_) (fun b u e => ?_) I.bare
  · have e : b = it := by simpa using hb
    subst e
    exact ⟨h1, hL, h2, h3⟩
  · obtain ⟨o, es, ep, ho, r⟩ := hm
    exact ⟨o, es, ep, k _ o (Ne.symm hL) ho, r⟩
  · refine (I.hok b u e).stay (fun c v hc q => k c v ?_ q) (fun _ q => q) fun _ _ q => q
    rcases hc with z | z
    · rw [z]; exact nit b u e
    · exact nit c _ z
theorem Inv.tok (I : Inv X pins σ H s) (t : Nat) : Inv X pins σ H { s with toks := t } := I.un (h' := s.heap) (t' := t) Un.refl I.hok
theorem Inv.kept {t' : Nat} (I : Inv X pins σ H s) (k : ∀ b u, s.heap.get? b = some u → h'.get? b = some u) : Inv X pins σ H { s with heap := h', toks := t' } := I.un (Un.kept k) (I.hok.kept k)
theorem Inv.laid {a : Addr} {o : HO} {t' : Nat} (I : Inv X pins σ H s) (k : ∀ b u, s.heap.get? b = some u → h'.get? b = some u) (hp : s.heap.objs.size ≤ a) (new : ObjOk X.prog X.w (upd H a o) h' a o) :
    Inv X pins σ (upd H a o) { s with heap := h', toks := t' } := I.un (Un.laid k hp (I.hok.fresh hp)) (I.hok.laid k hp new)
theorem Inv.write {x e : Addr} {o : HO} {t' : Nat} (I : Inv X pins σ H s) (mu : Mut (H x)) (he : e = x ∨ H e = some (.own x)) (k : ∀ b u, b ≠ e → s.heap.get? b = some u → h'.get? b = some u) (heo : ∃ u, h'.get? e = some u)
    (new : ObjOk X.prog X.w (upd H x o) h' x o) : Inv X pins σ (upd H x o) { s with heap := h', toks := t' } := I.un (Un.write mu he k heo) (I.hok.write mu he k heo new)
theorem Inv.pins_of {pins' : List (Addr × Obj)} (I : Inv X pins σ H s) (h : ∀ p ∈ pins', s.heap.get? p.1 = some p.2 ∧ H p.1 = none ∧ p.1 ≠ X.env.locals ∧ p.1 ∉ X.fs ∧ ∀ v, p.2.data ≠ .cell v) : Inv X pins' σ H s :=
  ⟨I.ok, I.os, I.bare, I.base, I.loc, I.cell, I.free, I.freeC, fun p hp => (List.mem_append.mp hp).elim (fun z => I.pin p (List.mem_append_left _ z)) (h p), I.hok, I.len⟩
theorem nodup_ix {N : List Str} (hN : N.Nodup) {i j : Nat} {x : Str} (a : N[i]? = some x) (b : N[j]? = some x) : i = j := by
  obtain ⟨h1, e1⟩ := List.getElem?_eq_some_iff.mp a
  obtain ⟨h2, e2⟩ := List.getElem?_eq_some_iff.mp b
  exact (List.getElem_inj hN).mp (e1.trans e2.symm)
theorem store_ok2 {M : Model} {A : Around} {E : Value → Shared → Prop} {i : Nat} {x : Str} {v : V} {u : Value} {Q : Unit → Shared → Prop} (I : Inv X pins σ H s) (hN : X.N.Nodup) (hi : X.N[i]? = some x) (hx : Loc X.env.scope x) (r : RelV v u)
    (h : ∀ s', Inv X pins (σ.set i (some v)) H s' → (∃ a, Heap.SameBut a s.heap s'.heap ∧ (a = X.env.locals ∨ X.env.cells.lookup x = some a)) → Q () s') (hf : X.fn x = true ∨ X.env.scope.names.lookup x = some .local := by first | exact .inl rfl | exact .inr rfl | assumption) : wpAny M A (storeName X.env x u) Q E s := by
  obtain ⟨m, hn, hl⟩ := id I.loc
  have hcls : (X.env.scope.kind == .class || (X.env.scope.kind == .module && X.env.locals != X.env.globals)) = false := by rw [I.ok.kind]; rfl
  have hiσ : i < σ.length := by rw [I.len]; exact (List.getElem?_eq_some_iff.mp hi).1
  have cne := I.cne
  have tracked : ∀ {a : Addr} {h' : Heap}, (∃ o, s.heap.get? a = some o ∧ H a = none) → Heap.SameBut a s.heap h' → HOk X.prog X.w H h' := fun {a h'} ha hs b ob e => by
    obtain ⟨_, _, hfree⟩ := ha
    refine (I.hok b ob e).stay (fun c w' hc q => (hs.2 c ?_).trans q) (fun _ q => q) fun _ _ q => q
    rintro rfl
    rcases hc with rfl | hc
    · rw [hfree] at e; cases e
    · rw [hfree] at hc; cases hc
  rcases hx with hk | hk
  · refine wpAny_storeName_local hk hn (fun h' hn' hs => ?_) hcls
    obtain ⟨oL, _, _, hoL, _⟩ := id hn
    refine h _ ⟨I.ok, I.os, I.bare, ⟨fun b o e n hb hx => ?_, fun b o e n hb hx => ?_, I.base.free, fun b o e hx => ?_, I.base.tups, I.base.frzs, I.base.tbls⟩, ⟨_, hn', fun j y v' e1 e2 e3 => ?_⟩, fun y c e => ?_, I.free, I.freeC, fun p hp => ?_, tracked ⟨oL, hoL, I.free⟩ hs, by simpa using I.len⟩ ⟨_, hs, .inl rfl⟩
    · exact (hs.2 b (Nat.ne_of_lt (Nat.lt_of_lt_of_le (Heap.lt_size e) I.ok.above))).trans (I.base.keep b o e n hb hx)
    · obtain ⟨sl, e1⟩ := I.base.slot b o e n hb hx
      exact ⟨sl, (hs.2 b (Nat.ne_of_lt (Nat.lt_of_lt_of_le (Heap.lt_size e) I.ok.above))).trans e1⟩
    · obtain ⟨o', e1⟩ := I.base.there b o e hx
      exact ⟨o', (hs.2 b (Nat.ne_of_lt (Nat.lt_of_lt_of_le (Heap.lt_size e) I.ok.above))).trans e1⟩
    · by_cases hj : j = i
      · subst hj
        rw [hi] at e1; cases e1
        rw [List.getElem?_set_self hiσ] at e2
        cases e2
        exact ⟨u, r, .inl ⟨hk, by simp⟩⟩
      · rw [List.getElem?_set_ne (Ne.symm hj)] at e2
        obtain ⟨u', r', q⟩ := hl j y v' e1 e2 e3
        refine ⟨u', r', ?_⟩
        rcases q with ⟨k, e⟩ | ⟨k, c, e, z⟩
        · refine .inl ⟨k, ?_⟩
          have : y ≠ x := fun e => hj (nodup_ix hN e1 (e ▸ hi))
          simp [this, e]
        · exact .inr ⟨k, c, e, z.sameBut hs (cne y c e)⟩
    · obtain ⟨w', z⟩ := I.cell y c e
      exact ⟨w', z.sameBut hs (cne y c e)⟩
    · obtain ⟨e, n, ne, nf, d⟩ := I.pin p hp
      exact ⟨(hs.2 p.1 ne).trans e, n, ne, nf, d⟩
  · have hfn : X.fn x = true := by
      rcases hf with z | z
      · exact z
      · rw [z] at hk; cases hk
    obtain ⟨c, hc⟩ := I.ok.has x (.inl hk)
    obtain ⟨w', z⟩ := I.cell x c hc
    refine wpAny_storeName_cell I.ok.kind hk hc z (fun h' hc' hs => ?_)
    obtain ⟨oc, hoc, hocd⟩ := id z
    refine h { s with heap := h' } ⟨I.ok, I.os, I.bare, ⟨fun b o e n hb hx => ?_, fun b o e n hb hx => ?_, I.base.free, fun b o e hx => ?_, I.base.tups, I.base.frzs, I.base.tbls⟩, ⟨m, hn.sameBut hs (Ne.symm (cne x c hc)), fun j y v' e1 e2 e3 => ?_⟩, fun y c' e => ?_, I.free, I.freeC, fun p hp => ?_, tracked ⟨oc, hoc, I.freeC x c hc⟩ hs, by simpa using I.len⟩ ⟨c, hs, .inr hc⟩
    · exact (hs.2 b (Nat.ne_of_lt (Nat.lt_of_lt_of_le (Heap.lt_size e) (I.ok.cab x c hfn hc)))).trans (I.base.keep b o e n hb hx)
    · obtain ⟨sl, e1⟩ := I.base.slot b o e n hb hx
      exact ⟨sl, (hs.2 b (Nat.ne_of_lt (Nat.lt_of_lt_of_le (Heap.lt_size e) (I.ok.cab x c hfn hc)))).trans e1⟩
    · obtain ⟨o', e1⟩ := I.base.there b o e hx
      exact ⟨o', (hs.2 b (Nat.ne_of_lt (Nat.lt_of_lt_of_le (Heap.lt_size e) (I.ok.cab x c hfn hc)))).trans e1⟩
    · by_cases hj : j = i
      · subst hj
        rw [hi] at e1; cases e1
        rw [List.getElem?_set_self hiσ] at e2
        cases e2
        exact ⟨u, r, .inr ⟨.inl hk, c, hc, hc'⟩⟩
      · rw [List.getElem?_set_ne (Ne.symm hj)] at e2
        obtain ⟨u', r', q⟩ := hl j y v' e1 e2 e3
        refine ⟨u', r', ?_⟩
        rcases q with q | ⟨k, c', e, z'⟩
        · exact .inl q
        · refine .inr ⟨k, c', e, z'.sameBut hs ?_⟩
          rintro rfl
          exact hj (nodup_ix hN e1 (I.ok.inj _ _ _ e hc ▸ hi))
    · by_cases hcc : c' = c
      · subst hcc; exact ⟨_, hc'⟩
      · obtain ⟨w2, z2⟩ := I.cell y c' e
        exact ⟨w2, z2.sameBut hs hcc⟩
    · obtain ⟨e, n, ne, nf, d⟩ := I.pin p hp
      refine ⟨(hs.2 p.1 ?_).trans e, n, ne, nf, d⟩
      intro q
      rw [q, hoc] at e
      have q' : oc = p.2 := Option.some.inj e
      exact d w' (by rw [← q']; exact hocd)
theorem store_ok {M : Model} {A : Around} {E : Value → Shared → Prop} {i : Nat} {x : Str} {v : V} {u : Value} {Q : Unit → Shared → Prop} (I : Inv X pins σ H s) (hN : X.N.Nodup) (hi : X.N[i]? = some x) (hx : Loc X.env.scope x) (r : RelV v u)
    (h : ∀ s', Inv X pins (σ.set i (some v)) H s' → Q () s') (hf : X.fn x = true ∨ X.env.scope.names.lookup x = some .local := by first | exact .inl rfl | exact .inr rfl | assumption) : wpAny M A (storeName X.env x u) Q E s :=
  store_ok2 I hN hi hx r (fun s' I' _ => h s' I') hf
theorem Inv.call' {s' : Shared} {ch : List Addr} (I : Inv X pins σ H s) (ho : s'.os = s.os) (u : Un (frs X.stack) ch H H' s.heap s'.heap) (hok : HOk X.prog X.w H' s'.heap) (hg : AllBare s'.gens)
    (hch : ∀ b ∈ ch, (b ∈ X.ex ∨ X.s₀.heap.objs.size ≤ b) ∧ b ≠ X.env.locals ∧ (∀ x c, X.env.cells.lookup x = some c → c ≠ b) ∧ ∀ p ∈ X.pn ++ pins, p.1 ≠ b) : Inv X pins σ H' s' := by
  obtain ⟨h', g', d', t', o'⟩ := s'
  have e : o' = s.os := ho
  subst e
  exact I.call (g' := g') (t' := t') (d' := d') u hok hg hch
end
abbrev XK := Value → Option Addr → Hp → Prop
abbrev St := List (Option V)
abbrev VK := V → Hp → Prop
abbrev TE := St → Hp → VK → Prop
abbrev TT := St → Hp → (Bool → Hp → Prop) → Prop
abbrev TA := St → Hp → (List V → Hp → Prop) → Prop
structure Ends where
  nx : St → Hp → Prop
  rt : VK
  bk : St → Hp → Prop := fun _ _ => False
  ct : St → Hp → Prop := fun _ _ => False
abbrev TS := Ends → St → Hp → Prop
def EP (X : Cx) (pins : List (Addr × Obj)) (σ : St) (Q : VK) (u : Value) (s' : Shared) : Prop := ∃ v H', Inv X pins σ H' s' ∧ RelV v u ∧ Q v H'
def TP (X : Cx) (pins : List (Addr × Obj)) (σ : St) (Q : Bool → Hp → Prop) (b : Bool) (s' : Shared) : Prop := ∃ H', Inv X pins σ H' s' ∧ Q b H'
def AP (X : Cx) (pins : List (Addr × Obj)) (σ : St) (Q : List V → Hp → Prop) (us : List Value) (s' : Shared) : Prop := ∃ vs H', Inv X pins σ H' s' ∧ Vals vs us ∧ Q vs H'
def SP (X : Cx) (pins : List (Addr × Obj)) (D : Ends) (f : Flow) (s' : Shared) : Prop :=
  match f with
  | .next => ∃ σ' H', Inv X pins σ' H' s' ∧ D.nx σ' H'
  | .brk => ∃ σ' H', Inv X pins σ' H' s' ∧ D.bk σ' H'
  | .cont => ∃ σ' H', Inv X pins σ' H' s' ∧ D.ct σ' H'
  | .ret u => ∃ v σ' H', Inv X pins σ' H' s' ∧ RelV v u ∧ D.rt v H'
def PE (X : Cx) (e : Expr) (t : TE) : Prop :=
  ∀ (pins : List (Addr × Obj)) (s : Shared) (σ : St) (H : Hp) (Q : VK), Inv X pins σ H s → t σ H Q → wpAny (model X.prog X.w) X.A (eval e X.env) (EP X pins σ Q) X.xe s
def PT (X : Cx) (e : Expr) (t : TT) : Prop :=
  ∀ (pins : List (Addr × Obj)) (s : Shared) (σ : St) (H : Hp) (Q : Bool → Hp → Prop), Inv X pins σ H s → t σ H Q → wpAny (model X.prog X.w) X.A (isTrue e X.env (eval e X.env)) (TP X pins σ Q) X.xe s
def PW (X : Cx) (e : Expr) (t : TT) : Prop :=
  ∀ (whole : Sem Value) (pins : List (Addr × Obj)) (s : Shared) (σ : St) (H : Hp) (Q : Bool → Hp → Prop), Inv X pins σ H s → t σ H Q → wpAny (model X.prog X.w) X.A (isTrue e X.env whole) (TP X pins σ Q) X.xe s
theorem PW.pt {X : Cx} {e : Expr} {t : TT} (h : PW X e t) : PT X e t := h _
def PA (X : Cx) (es : List Expr) (t : TA) : Prop :=
  ∀ (pos : Pos) (pins : List (Addr × Obj)) (s : Shared) (σ : St) (H : Hp) (Q : List V → Hp → Prop), Inv X pins σ H s → t σ H Q → wpAny (model X.prog X.w) X.A (spliced (backTo pos (starEach es X.env))) (AP X pins σ Q) X.xe s
def PS (X : Cx) (st : Stmt) (t : TS) : Prop :=
  ∀ (pins : List (Addr × Obj)) (s : Shared) (σ : St) (H : Hp) (D : Ends), Inv X pins σ H s → t D σ H → wpAny (model X.prog X.w) X.A (exec st X.env) (SP X pins D) X.xe s
def PSs (X : Cx) (st : List Stmt) (t : TS) : Prop :=
  ∀ (pins : List (Addr × Obj)) (s : Shared) (σ : St) (H : Hp) (D : Ends), Inv X pins σ H s → t D σ H → wpAny (model X.prog X.w) X.A (execs st X.env) (SP X pins D) X.xe s
theorem thn {α : Type} {t : Sem α} {Q Q' : α → Shared → Prop} {M : Model} {A : Around} {E : Value → Shared → Prop} {s : Shared} (h : wpAny M A t Q E s) (hQ : ∀ a s, Q a s → Q' a s) : wpAny M A t Q' E s := wpAny_mono h hQ fun _ _ x => x
end L2
namespace L2
open PySem PySem.Spec PyProof.Rows
section
variable {X : Cx}
def tVar (i : Nat) : TE := fun σ H Q => ∃ v, σ[i]? = some (some v) ∧ Q v H
def tC (v : V) : TE := fun _ H Q => Q v H
theorem pe_var {i : Nat} {x : Str} {pos : Pos} (hN : X.N[i]? = some x) (hv : Vis X.env.scope x) (hd : (x == ("__debug__" : Str)) = false := by decide) (hcd : (x == ("__classdict__" : Str)) = false := by decide) : PE X (.Name x pos) (tVar i) := by
  intro pins s σ H Q I h
  obtain ⟨v, e, h⟩ := h
  obtain ⟨m, hn, hl⟩ := I.loc
  obtain ⟨u, r, l⟩ := hl i x v hN e hv
  have fin : EP X pins σ Q u s := ⟨v, H, I, r, h⟩
  rcases l with ⟨hk, hm⟩ | ⟨hk, c, hc, hcell⟩
  · exact wpAny_Name (wpAny_loadName_local I.ok.kind hk hn hm fin) hd
  · rcases hk with hk | hk
    · exact wpAny_Name (wpAny_loadName_cell I.ok.kind hk hc hcell fin) hd
    · exact wpAny_Name (wpAny_loadName_free I.ok.kind hk hc hcell fin hcd) hd
theorem pe_int {i j pos} : PE X (.Constant (.int i) j pos) (tC (.int i)) := fun _ _ _ H _ I h => wpAny_Constant_int ⟨.int i, H, I.tok _, ⟨_, rfl⟩, h⟩
theorem pe_bl {b j pos} : PE X (.Constant (.bool b) j pos) (tC (.bl b)) := fun _ _ _ H _ I h => Constant_bool ⟨.bl b, H, I, rfl, h⟩
theorem pe_non {j pos} : PE X (.Constant .none j pos) (tC .non) := fun _ _ _ H _ I h => Constant_none ⟨.non, H, I, rfl, h⟩
theorem pe_str {x j pos} : PE X (.Constant (.str x) j pos) (tC (.str x)) := fun _ _ _ H _ I h => Calls.Constant_str ⟨.str x, H, I.tok _, ⟨_, rfl⟩, h⟩
def Gl (X : Cx) (x : Str) : Prop := X.env.kindOf x = some .globalImplicit
theorem ld_glob {E : Value → Shared → Prop} {pins : List (Addr × Obj)} {s : Shared} {σ : St} {H : Hp} {x : Str} {u : Value} {pos : Pos} {Q : Value → Shared → Prop} (I : Inv X pins σ H s) (hg : Gl X x) (hm : X.mg x = some u) (h : Q u s)
    (hd : (x == ("__debug__" : Str)) = false := by decide) : wpAny (model X.prog X.w) X.A (eval (.Name x pos) X.env) Q E s :=
  Calls.Name_function_global I.ok.kind hg (Calls.loadGlobal_global (by rw [I.ok.glob]; exact I.mod.glob.keeps I.bk) hm h) hd
theorem ld_blt {E : Value → Shared → Prop} {pins : List (Addr × Obj)} {s : Shared} {σ : St} {H : Hp} {x : Str} {u : Value} {pos : Pos} {Q : Value → Shared → Prop} (I : Inv X pins σ H s) (hg : Gl X x) (hm : X.mg x = none) (hv : bootBuiltins x = some u) (h : Q u s)
    (hn : x ≠ "__name__" := by decide) (hd : (x == ("__debug__" : Str)) = false := by decide) : wpAny (model X.prog X.w) X.A (eval (.Name x pos) X.env) Q E s := by
  obtain ⟨mb, h1, h2⟩ := I.mod.blt
  exact Calls.Name_function_global I.ok.kind hg (Calls.loadGlobal_builtin (by rw [I.ok.glob]; exact I.mod.glob.keeps I.bk) hm (by rw [I.ok.blt]; exact h1.keeps I.bk) ((h2 x hn).trans hv) h) hd
theorem pe_glob {x : Str} {v : V} {u : Value} {pos : Pos} (hg : Gl X x) (hm : X.mg x = some u) (r : RelV v u) (hd : (x == ("__debug__" : Str)) = false := by decide) : PE X (.Name x pos) (tC v) :=
  fun _ _ _ H _ I h => ld_glob I hg hm ⟨v, H, I, r, h⟩ hd
theorem pe_bltn {x : Str} {v : V} {u : Value} {pos : Pos} (hg : Gl X x) (hm : X.mg x = none) (hv : bootBuiltins x = some u) (r : RelV v u) (hn : x ≠ "__name__" := by decide) (hd : (x == ("__debug__" : Str)) = false := by decide) : PE X (.Name x pos) (tC v) :=
  fun _ _ _ H _ I h => ld_blt I hg hm hv ⟨v, H, I, r, h⟩ hn hd
variable {a b : Expr} {ta tb : TE} {pos : Pos}
def PC (X : Cx) (op : CmpOp) (a b : Expr) (t : TE) : Prop :=
  ∀ (pins : List (Addr × Obj)) (s : Shared) (σ : St) (H : Hp) (Q : VK), Inv X pins σ H s → t σ H Q →
    wpAny (model X.prog X.w) X.A (eval a X.env) (fun v s₁ => wpAny (model X.prog X.w) X.A (eval b X.env) (fun u s₂ => wpAny (model X.prog X.w) X.A (compareOp op v u) (EP X pins σ Q) X.xe s₂) X.xe s₁) X.xe s
theorem nobehind (b : Expr) {op : CmpOp} (h : op ≠ .In) (h2 : op ≠ .NotIn) : behindInMarks op b = false := by
  have e1 : (op == CmpOp.In) = false := by cases op <;> first | rfl | exact absurd rfl h
  have e2 : (op == CmpOp.NotIn) = false := by cases op <;> first | rfl | exact absurd rfl h2
  cases b <;> simp [behindInMarks, e1, e2]
def tIsN (ta : TE) : TE := fun σ H Q => ta σ H fun x H1 => Q (.bl (decide (x = .non))) H1
def tNotN (ta : TE) : TE := fun σ H Q => ta σ H fun x H1 => Q (.bl (!decide (x = .non))) H1
theorem RelV.none_iff {x : V} {v : Value} (r : RelV x v) : (v == Value.none) = decide (x = .non) := by
  cases x with
  | non => cases r; rfl
  | bl _ => cases r; rfl
  | int _ => obtain ⟨t, rfl⟩ := r; rfl
  | str _ => obtain ⟨t, rfl⟩ := r; rfl
  | byt _ => obtain ⟨t, rfl⟩ := r; rfl
  | flt _ => obtain ⟨t, rfl⟩ := r; rfl
  | ref _ => cases r; rfl
  | ty _ => cases r; rfl
theorem pc_isN {j pos'} (ha : PE X a ta) : PC X .Is a (.Constant .none j pos') (tIsN ta) := by
  intro pins s σ H Q I h
  refine thn (ha pins s σ H _ I h) fun v s1 ⟨x, H1, I1, r1, q1⟩ => ?_
  exact Constant_none (is_none_gen ⟨.bl _, H1, I1, by rw [r1.none_iff]; rfl, q1⟩)
theorem pc_notN {j pos'} (ha : PE X a ta) : PC X .IsNot a (.Constant .none j pos') (tNotN ta) := by
  intro pins s σ H Q I h
  refine thn (ha pins s σ H _ I h) fun v s1 ⟨x, H1, I1, r1, q1⟩ => ?_
  exact Constant_none (isnot_none_gen ⟨.bl _, H1, I1, by rw [r1.none_iff]; rfl, q1⟩)
def tB (t : TE) : TT := fun σ H Q => t σ H fun x H1 => ∃ c, x = .bl c ∧ Q c H1
theorem pt_cmp {op : CmpOp} {t : TE} (h : PC X op a b t) (h1 : behindInMarks op b = false := by first | exact nobehind _ (by decide) (by decide) | rfl) : PT X (.Compare a [op] [b] pos) (tB t) := by
  intro pins s σ H Q I hw
  refine wpAny_isTrue_Compare1 (thn (h pins s σ H _ I hw) fun v s1 h1 => thn h1 fun u s2 h2 => thn h2 fun c s3 ⟨x, H1, I1, r1, q1⟩ => ?_) h1
  obtain ⟨d, rfl, q⟩ := q1
  cases r1
  exact wpAny_truthy_bool ⟨H1, I1, q⟩
theorem pt_val {e : Expr} {t : TE} (h : PE X e t) (he : ∀ whole, isTrue e X.env whole = (do let v ← whole; standAt e.pos; holding [v] (truthy v)) := by intro _; rfl) : PT X e (tB t) := by
  intro pins s σ H Q I hw
  refine isTrue_plain (thn (h pins s σ H _ I hw) fun v s1 ⟨x, H1, I1, r1, q1⟩ => ?_) (he _)
  obtain ⟨d, rfl, q⟩ := q1
  cases r1
  exact wpAny_truthy_bool ⟨H1, I1, q⟩
variable {tA tB' : TT} {rest : List Expr}
def tAnd (t u : TT) : TT := fun σ H Q => t σ H fun c H1 => if c = true then u σ H1 Q else Q false H1
def tOr (t u : TT) : TT := fun σ H Q => t σ H fun c H1 => if c = true then Q true H1 else u σ H1 Q
def tNot (t : TT) : TT := fun σ H Q => t σ H fun c H1 => Q (!c) H1
theorem pw_and1 (ha : PT X a tA) : PW X (.BoolOp .And [a] pos) tA := by
  intro wh pins s σ H Q I h
  refine isTrue_and (thn (ha pins s σ H Q I h) fun c s1 e => ?_)
  cases c with
  | true => exact isTrue_and_nil e
  | false => exact e
theorem pw_or1 (ha : PT X a tA) : PW X (.BoolOp .Or [a] pos) tA := by
  intro wh pins s σ H Q I h
  refine isTrue_or (thn (ha pins s σ H Q I h) fun c s1 e => ?_)
  cases c with
  | false => exact isTrue_or_nil e
  | true => exact e
theorem pw_and (ha : PT X a tA) (hb : PW X (.BoolOp .And (b :: rest) pos) tB') : PW X (.BoolOp .And (a :: b :: rest) pos) (tAnd tA tB') := by
  intro wh pins s σ H Q I h
  refine isTrue_and (thn (ha pins s σ H _ I h) fun c s1 ⟨H1, I1, q1⟩ => ?_)
  cases c with
  | true => exact hb wh pins s1 σ H1 Q I1 q1
  | false => exact ⟨H1, I1, q1⟩
theorem pw_or (ha : PT X a tA) (hb : PW X (.BoolOp .Or (b :: rest) pos) tB') : PW X (.BoolOp .Or (a :: b :: rest) pos) (tOr tA tB') := by
  intro wh pins s σ H Q I h
  refine isTrue_or (thn (ha pins s σ H _ I h) fun c s1 ⟨H1, I1, q1⟩ => ?_)
  cases c with
  | true => exact ⟨H1, I1, q1⟩
  | false => exact hb wh pins s1 σ H1 Q I1 q1
theorem pt_not (ha : PT X a tA) : PT X (.UnaryOp .Not a pos) (tNot tA) := by
  intro pins s σ H Q I h
  exact isTrue_not (ha pins s σ H (fun c H1 => Q (!c) H1) I h)
def tAndV (ta tb : TE) : TE := fun σ H Q => ta σ H fun x H1 => ∃ c, x = .bl c ∧ if c = true then tb σ H1 Q else Q (.bl false) H1
def tOrV (ta tb : TE) : TE := fun σ H Q => ta σ H fun x H1 => ∃ c, x = .bl c ∧ if c = true then Q (.bl true) H1 else tb σ H1 Q
def tNotV (ta : TE) : TE := fun σ H Q => ta σ H fun x H1 => ∃ c, x = .bl c ∧ Q (.bl (!c)) H1
theorem pe_one {op} {t : TE} (h : PE X a t) : PE X (.BoolOp op [a] pos) t := fun pins s σ H Q I hw => BoolOp_one (h pins s σ H Q I hw)
theorem pe_and (ha : PE X a ta) (hb : PE X (.BoolOp .And (b :: rest) pos) tb) : PE X (.BoolOp .And (a :: b :: rest) pos) (tAndV ta tb) := by
  intro pins s σ H Q I h
  refine BoolOp_and (thn (ha pins s σ H _ I h) fun v s1 ⟨x, H1, I1, r1, q1⟩ => ?_)
  obtain ⟨c, rfl, q1⟩ := q1
  cases r1
  refine wpAny_truthy_bool ?_
  cases c with
  | true => exact hb pins s1 σ H1 Q I1 q1
  | false => exact ⟨.bl false, H1, I1, rfl, q1⟩
theorem pe_not (ha : PE X a ta) : PE X (.UnaryOp .Not a pos) (tNotV ta) := by
  intro pins s σ H Q I h
  refine UnaryOp_ (thn (ha pins s σ H _ I h) fun v s1 ⟨x, H1, I1, r1, q1⟩ => ?_)
  obtain ⟨c, rfl, q1⟩ := q1
  cases r1
  exact not_of (wpAny_truthy_bool ⟨.bl (!c), H1, I1, rfl, q1⟩)
def tIf (t : TT) (ta tb : TE) : TE := fun σ H Q => t σ H fun c H1 => if c = true then ta σ H1 Q else tb σ H1 Q
theorem pe_ifExp {c : Expr} (hc : PT X c tA) (ha : PE X a ta) (hb : PE X b tb) : PE X (.IfExp c a b pos) (tIf tA ta tb) := by
  intro pins s σ H Q I h
  refine wpAny_IfExp (thn (hc pins s σ H _ I h) fun d s1 ⟨H1, I1, q1⟩ => ?_)
  cases d with
  | true => exact ha pins s1 σ H1 Q I1 q1
  | false => exact hb pins s1 σ H1 Q I1 q1
end
end L2
namespace L2
open PySem PySem.Spec PyProof.Rows
def SqL (K : PySem.W.Frag) (H : Hp) (a : Addr) (xs : List V) : Prop :=
  Rd H a (.lst xs) ∨
    ∃ (o : Obj) (its : Array Value) (n : Nat), K.lookup a = some o ∧ o.cls = .type "list" ∧ o.dict = none ∧ o.data = .seq its n ∧ its.size ≤ sizeLine ∧ Vals xs its.toList
def SqT (K : PySem.W.Frag) (H : Hp) (a : Addr) (xs : List V) : Prop :=
  Rd H a (.tup xs) ∨
    ∃ (o : Obj) (its : Array Value) (n : Nat), K.lookup a = some o ∧ o.cls = .type "tuple" ∧ o.data = .seq its n ∧ its.size ≤ sizeLine ∧ Vals xs its.toList
def absV : Value → Option V
  | .none => some .non
  | .bool b => some (.bl b)
  | .int i _ => some (.int i)
  | .str x _ => some (.str x)
  | .bytes b _ => some (.byt b)
  | .float b _ => some (.flt b)
  | .ref a => some (.ref a)
  | .type n => some (.ty n)
  | _ => none
theorem RelV.abs {x : V} {u : Value} (r : RelV x u) : absV u = some x := by
  cases x with
  | non => cases r; rfl
  | bl _ => cases r; rfl
  | int _ => obtain ⟨t, rfl⟩ := r; rfl
  | str _ => obtain ⟨t, rfl⟩ := r; rfl
  | byt _ => obtain ⟨t, rfl⟩ := r; rfl
  | flt _ => obtain ⟨t, rfl⟩ := r; rfl
  | ref _ => cases r; rfl
  | ty _ => cases r; rfl
theorem RelV.inj {x y : V} {u : Value} (r : RelV x u) (q : RelV y u) : x = y := Option.some.inj (r.abs.symm.trans q.abs)
theorem Vals.inj : ∀ {xs ys : List V} {us : List Value}, Vals xs us → Vals ys us → xs = ys
  | _, _, _, .nil, .nil => rfl
  | _, _, _, .cons r t, .cons r' t' => by rw [r.inj r', Vals.inj t t']
section
variable {X : Cx} {pins : List (Addr × Obj)} {σ : St} {H : Hp} {s : Shared} {a : Addr} {xs ys : List V}
theorem SqL.of {K : PySem.W.Frag} (h : H a = some (.lst xs)) : SqL K H a xs := .inl (.inl h)
theorem SqT.of {K : PySem.W.Frag} (h : H a = some (.tup xs)) : SqT K H a xs := .inl (.inl h)
theorem Inv.list (I : Inv X pins σ H s) (h : SqL X.K H a xs) : ∃ its : List Value, Vals xs its ∧ PlainL s.heap a its.toArray ∧ xs.length ≤ sizeLine := by
  rcases h with h | ⟨o, its, n, hk, hc, hd, hs, hz, r⟩
  · obtain ⟨z, its, n, r, e⟩ := h.ok I.hok
    exact ⟨its, r, ⟨_, n, e, rfl, rfl, rfl⟩, z⟩
  · refine ⟨its.toList, r, ⟨o, n, I.kIn a o hk, hc, hd, by simpa using hs⟩, ?_⟩
    have e := r.length
    simp only [Array.length_toList] at e
    omega
theorem Inv.tuple (I : Inv X pins σ H s) (h : SqT X.K H a xs) : ∃ its : List Value, Vals xs its ∧ IsTup s.heap a its.toArray ∧ xs.length ≤ sizeLine := by
  rcases h with h | ⟨o, its, n, hk, hc, hs, hz, r⟩
  · obtain ⟨z, its, r, p⟩ := h.ok I.hok
    exact ⟨its, r, p, z⟩
  · refine ⟨its.toList, r, ⟨o, I.kIn a o hk, hc, n, by simpa using hs⟩, ?_⟩
    have e := r.length
    simp only [Array.length_toList] at e
    omega
theorem Inv.list_inj (I : Inv X pins σ H s) (h : SqL X.K H a xs) (h' : SqL X.K H a ys) : xs = ys := by
  obtain ⟨its, r, ⟨o, n, e, _, _, d⟩, _⟩ := I.list h
  obtain ⟨its', r', ⟨o', n', e', _, _, d'⟩, _⟩ := I.list h'
  rw [e] at e'; cases e'
  rw [d] at d'
  injection d' with d1 _
  have : its = its' := by simpa using congrArg Array.toList d1
  subst this
  exact r.inj r'
theorem Inv.tuple_inj (I : Inv X pins σ H s) (h : SqT X.K H a xs) (h' : SqT X.K H a ys) : xs = ys := by
  obtain ⟨its, r, ⟨o, e, _, n, d⟩, _⟩ := I.tuple h
  obtain ⟨its', r', ⟨o', e', _, n', d'⟩, _⟩ := I.tuple h'
  rw [e] at e'; cases e'
  rw [d] at d'
  injection d' with d1 _
  have : its = its' := by simpa using congrArg Array.toList d1
  subst this
  exact r.inj r'
end
abbrev Cx.wish (X : Cx) (E : Value → Shared → Prop) : Cx := { X with xe := E }
abbrev Cx.nox (X : Cx) : Cx := X.wish fun _ _ => False
theorem Cx.Ok.wish {X : Cx} (ok : X.Ok) (E : Value → Shared → Prop) : (X.wish E).Ok :=
  ⟨ok.mod, ok.kind, ok.glob, ok.blt, ok.above, ok.inj, ok.has, ok.cab, ok.hd, ok.frames, ok.stk, ok.exf, ok.bs, ok.bsz, ok.noex, ok.exfs, ok.funs, ok.frf⟩
theorem Cx.Ok.unwish {X : Cx} {E : Value → Shared → Prop} (ok : (X.wish E).Ok) : X.Ok :=
  ⟨ok.mod, ok.kind, ok.glob, ok.blt, ok.above, ok.inj, ok.has, ok.cab, ok.hd, ok.frames, ok.stk, ok.exf, ok.bs, ok.bsz, ok.noex, ok.exfs, ok.funs, ok.frf⟩
section
variable {X : Cx} {pins : List (Addr × Obj)} {σ : St} {H : Hp} {s : Shared} {E : Value → Shared → Prop}
theorem Inv.wish (I : Inv X pins σ H s) (E : Value → Shared → Prop) : Inv (X.wish E) pins σ H s := ⟨I.ok.wish E, I.os, I.bare, I.base, I.loc, I.cell, I.free, I.freeC, I.pin, I.hok, I.len⟩
theorem Inv.unwish (I : Inv (X.wish E) pins σ H s) : Inv X pins σ H s := ⟨I.ok.unwish, I.os, I.bare, I.base, I.loc, I.cell, I.free, I.freeC, I.pin, I.hok, I.len⟩
theorem SP.unwish {D : Ends} {f : Flow} {s' : Shared} (h : SP (X.wish E) pins D f s') : SP X pins D f s' := by
  cases f with
  | next => obtain ⟨σ', H', I, q⟩ := h; exact ⟨σ', H', I.unwish, q⟩
  | brk => obtain ⟨σ', H', I, q⟩ := h; exact ⟨σ', H', I.unwish, q⟩
  | cont => obtain ⟨σ', H', I, q⟩ := h; exact ⟨σ', H', I.unwish, q⟩
  | ret u => obtain ⟨v, σ', H', I, r, q⟩ := h; exact ⟨v, σ', H', I.unwish, r, q⟩
theorem PE.nox {e : Expr} {t : TE} (h : PE X.nox e t) : PE X e t := fun pins s σ H Q I hw =>
  wpAny_mono (h pins s σ H Q (I.wish _) hw) (fun _ _ ⟨v, H', I', r, q⟩ => ⟨v, H', I'.unwish, r, q⟩) fun _ _ z => False.elim z
theorem PT.nox {e : Expr} {t : TT} (h : PT X.nox e t) : PT X e t := fun pins s σ H Q I hw =>
  wpAny_mono (h pins s σ H Q (I.wish _) hw) (fun _ _ ⟨H', I', q⟩ => ⟨H', I'.unwish, q⟩) fun _ _ z => False.elim z
theorem PSs.nox {st : List Stmt} {t : TS} (h : PSs X.nox st t) : PSs X st t := fun pins s σ H D I hw =>
  wpAny_mono (h pins s σ H D (I.wish _) hw) (fun _ _ q => q.unwish) fun _ _ z => False.elim z
end
section
variable {X : Cx} {st : Stmt} {rest : List Stmt} {t u : TS} {e : Expr} {te : TE} {pos : Pos}
def tNext : TS := fun D σ H => D.nx σ H
def tSeq (t u : TS) : TS := fun D σ H => t { D with nx := u D } σ H
theorem pss_nil : PSs X [] tNext := fun _ _ σ H _ I h => wpAny_execs_nil ⟨σ, H, I, h⟩
theorem pss_cons (h1 : PS X st t) (h2 : PSs X rest u) : PSs X (st :: rest) (tSeq t u) := by
  intro pins s σ H D I h
  refine wpAny_execs_cons (thn (h1 pins s σ H { D with nx := u D } I h) fun f s1 q => ?_)
  cases f with
  | next =>
    obtain ⟨σ', H', I', q⟩ := q
    exact h2 pins s1 σ' H' D I' q
  | ret v => exact q
  | brk => exact q
  | cont => exact q
theorem pss_one (h1 : PS X st t) : PSs X [st] t := by
  intro pins s σ H D I h
  refine wpAny_execs_cons (thn (h1 pins s σ H D I h) fun f s1 q => ?_)
  cases f with
  | next => exact wpAny_execs_nil q
  | ret v => exact q
  | brk => exact q
  | cont => exact q
def tBreak : TS := fun D σ H => D.bk σ H
theorem ps_break : PS X (.Break pos) tBreak := fun _ _ σ H _ I h => wpAny_Break ⟨σ, H, I, h⟩
theorem Inv.quiet {pins : List (Addr × Obj)} {σ : St} {H : Hp} {s : Shared} (I : Inv X pins σ H s) : interactive X.env = false := by simp [interactive, I.ok.kind]
def tDrop (te : TE) : TS := fun D σ H => te σ H fun _ H1 => D.nx σ H1
theorem ps_expr (he : PE X e te) (hs : swapsWith e none pos.line X.env = pure false := by rfl) : PS X (.Expr e pos) (tDrop te) := by
  intro pins s σ H D I h
  exact wpAny_Expr_any (thn (he pins s σ H _ I h) fun v s1 ⟨x, H1, I1, r1, q1⟩ => ⟨σ, H1, I1, q1⟩) I.quiet hs
def tRet (te : TE) : TS := fun D σ H => te σ H D.rt
theorem ps_ret (he : PE X e te) : PS X (.Return (some e) pos) (tRet te) := by
  intro pins s σ H D I h
  exact wpAny_Return_some (thn (he pins s σ H _ I h) fun v s1 ⟨x, H1, I1, r1, q1⟩ => ⟨x, σ, H1, I1, r1, q1⟩)
def tRetN : TS := fun D _ H => D.rt .non H
def tIfS (c : TT) (t u : TS) : TS := fun D σ H => c σ H fun b H1 => if b = true then t D σ H1 else u D σ H1
theorem ps_if {c : Expr} {a b : List Stmt} {tc : TT} (hc : PT X c tc) (ha : PSs X a t) (hb : PSs X b u) : PS X (.If c a b pos) (tIfS tc t u) := by
  intro pins s σ H D I h
  refine wpAny_If (thn (hc pins s σ H _ I h) fun d s1 ⟨H1, I1, q1⟩ => ?_)
  cases d with
  | true => exact ha pins s1 σ H1 D I1 q1
  | false => exact hb pins s1 σ H1 D I1 q1
def tNever : TS := fun _ _ _ => False
theorem ps_never : PS X st tNever := fun _ _ _ _ _ _ h => h.elim
theorem pss_never {sts : List Stmt} : PSs X sts tNever := fun _ _ _ _ _ _ h => h.elim
end
abbrev TG := V → St → Hp → (St → Hp → Prop) → Prop
abbrev TGs := List V → St → Hp → (St → Hp → Prop) → Prop
def PG (X : Cx) (target : Expr) (t : TG) : Prop :=
  ∀ (pins : List (Addr × Obj)) (s : Shared) (σ : St) (H : Hp) (v : V) (u : Value) (Q : St → Hp → Prop), Inv X pins σ H s → RelV v u → t v σ H Q →
    wpAny (model X.prog X.w) X.A (assign target X.env u) (fun _ s' => ∃ σ' H', Inv X pins σ' H' s' ∧ Q σ' H') X.xe s
def PGs (X : Cx) (ts : List Expr) (t : TGs) : Prop :=
  ∀ (pins : List (Addr × Obj)) (s : Shared) (σ : St) (H : Hp) (vs : List V) (us : List Value) (Q : St → Hp → Prop), Inv X pins σ H s → Vals vs us → t vs σ H Q →
    wpAny (model X.prog X.w) X.A (assignInOrder ((assignEach ts X.env).map (·.2)) us) (fun _ s' => ∃ σ' H', Inv X pins σ' H' s' ∧ Q σ' H') X.xe s
section
variable {X : Cx} {pos : Pos}
def gName (i : Nat) : TG := fun v σ H Q => Q (σ.set i (some v)) H
theorem pg_name {i : Nat} {x : Str} (hN : X.N.Nodup) (hi : X.N[i]? = some x) (hx : Loc X.env.scope x) (hf : X.fn x = true ∨ X.env.scope.names.lookup x = some .local := by first | exact .inl rfl | exact .inr rfl | assumption) : PG X (.Name x pos) (gName i) := by
  intro pins s σ H v u Q I r h
  exact wpAny_assign_Name (store_ok I hN hi hx r (fun s' I' => ⟨_, H, I', h⟩) hf)
def gNil : TGs := fun vs σ H Q => vs = [] ∧ Q σ H
def gCons (t : TG) (u : TGs) : TGs := fun vs σ H Q => ∃ v r, vs = v :: r ∧ t v σ H fun σ' H' => u r σ' H' Q
theorem pgs_nil : PGs X [] gNil := by
  intro pins s σ H vs us Q I r h
  obtain ⟨e, h⟩ := h
  subst e
  cases r
  exact assignInOrder_nil ⟨σ, H, I, h⟩
theorem pgs_cons {e : Expr} {es : List Expr} {t : TG} {u : TGs} (h1 : PG X e t) (h2 : PGs X es u)
    (hs : (assignEach (e :: es) X.env).map (·.2) = assign e X.env :: (assignEach es X.env).map (·.2) := by rfl) : PGs X (e :: es) (gCons t u) := by
  intro pins s σ H vs us Q I r h
  obtain ⟨v, vr, e1, h⟩ := h
  subst e1
  cases r with
  | cons r rr =>
    rw [hs]
    refine assignInOrder_cons (thn (h1 pins s σ H _ _ _ I r h) fun _ s1 ⟨σ1, H1, I1, q1⟩ => ?_)
    exact h2 pins s1 σ1 H1 _ _ Q I1 rr q1
def gTup (K : PySem.W.Frag) (n : Nat) (t : TGs) : TG := fun v σ H Q => ∃ a xs, v = .ref a ∧ SqT K H a xs ∧ xs.length = n ∧ t xs σ H Q
theorem pg_tup {es : List Expr} {k : Nat} {t : TGs} {n : Nat} (hc : X.calm = true) (h : PGs X es t)
    (hn : (assignEach es X.env).length = n := by rfl) (hst : (assignEach es X.env).findIdx? (·.1) = none := by rfl) : PG X (.Tuple es k pos) (gTup X.K n t) := by
  intro pins s σ H v u Q I r hw
  obtain ⟨a, xs, e1, hq, hl, hw⟩ := hw
  subst e1
  cases r
  obtain ⟨its, rv, ht, hz⟩ := I.tuple hq
  refine assign_Tuple_tuple (I.ok.hd hc) ht (by simp [hn, ← hl, rv.length]) hst fun h' hx => ?_
  have I1 : Inv X pins σ H { s with heap := h' } := I.kept (t' := s.toks) fun b o e => hx b o (Nat.ne_of_lt (Heap.lt_size e)) e
  exact h pins _ σ H xs _ Q I1 (by simpa using rv) hw
def tAsg (te : TE) (g : TG) : TS := fun D σ H => te σ H fun x H1 => g x σ H1 D.nx
theorem ps_set {i : Nat} {x : Str} {e : Expr} {te : TE} {pos' : Pos} (hN : X.N.Nodup) (hi : X.N[i]? = some x) (hx : Loc X.env.scope x) (he : PE X e te) (hs : swapsWith e (some (.Name x pos')) pos.line X.env = pure false := by rfl) (hf : X.fn x = true ∨ X.env.scope.names.lookup x = some .local := by first | exact .inl rfl | exact .inr rfl | assumption) :
    PS X (.Assign [.Name x pos'] e pos) (tAsg te (gName i)) := by
  intro pins s σ H D I h
  refine wpAny_Assign_Name (thn (he pins s σ H _ I h) fun v s1 ⟨y, H1, I1, r1, q1⟩ => ?_) hs
  exact store_ok I1 hN hi hx r1 (fun s2 I2 => ⟨_, H1, I2, q1⟩) hf
end
section
variable {X : Cx} {pos : Pos}
def tWhile (c : TT) (tb : TS) : TS := fun D σ H => ∃ W : Nat → St → Hp → Prop, (∃ m, W m σ H) ∧ ∀ m σ H, W m σ H →
  c σ H fun b H1 => if b = true then ∃ N : St → Hp → Prop, (∀ σ' H', N σ' H' → ∃ m', m' < m ∧ W m' σ' H') ∧ tb { D with nx := N, ct := N, bk := D.nx } σ H1 else D.nx σ H1
theorem ps_while {c : Expr} {body : List Stmt} {tc : TT} {tb : TS} (hp : PassesOwn (model X.prog X.w) X.A X.env X.xe) (hc : PT X c tc) (hb : PSs X body tb) : PS X (.While c body [] pos) (tWhile tc tb) := by
  intro pins s σ H D I h
  obtain ⟨W, ⟨m0, w0⟩, turn⟩ := h
  refine wpAny_While (codeAny_whileLoop (fun n s' => ∃ σ' H', Inv X pins σ' H' s' ∧ W n σ' H') ?_ m0 ⟨σ, H, I, w0⟩)
  rintro n s1 ⟨σ1, H1, I1, w1⟩
  refine wpAny_passesOwn hp (thn (hc pins s1 σ1 H1 _ I1 (turn n σ1 H1 w1)) fun b s2 ⟨H2, I2, q2⟩ => ?_)
  cases b with
  | true =>
    obtain ⟨N, hN, q2⟩ := q2
    rw [if_pos rfl]
    refine wpAny_passesOwn hp (thn (hb pins s2 σ1 H2 _ I2 q2) fun f s3 q3 => ?_)
    cases f with
    | next =>
      obtain ⟨σ3, H3, I3, n3⟩ := q3
      obtain ⟨m', hm, w3⟩ := hN σ3 H3 n3
      exact ⟨m', hm, σ3, H3, I3, w3⟩
    | cont =>
      obtain ⟨σ3, H3, I3, n3⟩ := q3
      obtain ⟨m', hm, w3⟩ := hN σ3 H3 n3
      exact ⟨m', hm, σ3, H3, I3, w3⟩
    | brk => exact q3
    | ret v => exact q3
  | false =>
    rw [if_neg Bool.false_ne_true]
    exact wpAny_execs_nil ⟨σ1, H2, I2, q2⟩
end
structure It where
  go : Nat → Hp → Prop
  yld : Nat → Hp → V → Hp → Prop
  stop : Nat → Hp → Prop
def FpOk (X : Cx) (pins : List (Addr × Obj)) (H : Hp) (b : Addr) : Prop :=
  H b = none ∧ b ≠ X.env.locals ∧ b ∉ X.fs ∧ (b ∈ X.ex ∨ X.s₀.heap.objs.size ≤ b) ∧ (∀ x c, X.env.cells.lookup x = some c → c ≠ b) ∧ ∀ p ∈ X.pn ++ pins, p.1 ≠ b
theorem Inv.fpOk {X : Cx} {pins : List (Addr × Obj)} {σ : St} {H H' : Hp} {s : Shared} {b : Addr} (I : Inv X pins σ H s) (hb : s.heap.objs.size ≤ b) (hn : H' b = none) : FpOk X pins H' b := by
  refine ⟨hn, Nat.ne_of_gt (Nat.lt_of_lt_of_le I.lt hb), I.nofs hb, .inr (Nat.le_trans I.sz hb), fun x c e z => ?_, fun p hp z => ?_⟩
  · obtain ⟨v, q⟩ := I.cell x c e
    exact absurd (Nat.lt_of_lt_of_le q.lt (by rw [z]; exact hb)) (Nat.lt_irrefl _)
  · exact absurd (Nat.lt_of_lt_of_le (Heap.lt_size (I.pin p hp).1) (by rw [z]; exact hb)) (Nat.lt_irrefl _)
structure Turn (P : Program) (w : World) (K : PySem.W.Frag) (tg : Expr) (J : It) (fp : List Addr) (it : Addr) (tn : Nat → Heap → Prop) : Prop where
  mem : it ∈ fp
  obj : ∀ i h, tn i h → ∀ b ∈ fp, ∃ o, h.get? b = some o ∧ ∀ v, o.data ≠ .cell v
  keep : ∀ i h h', tn i h → (∀ b ∈ fp, ∀ o, h.get? b = some o → h'.get? b = some o) → tn i h'
  item : ∀ (X : Cx), X.prog = P → X.w = w → X.K = K → X.calm = true → ∀ (i : Nat) (pins : List (Addr × Obj)) (s : Shared) (σ : St) (H : Hp) (E : Value → Shared → Prop), Inv X pins σ H s → (∀ b ∈ fp, FpOk X pins H b) → tn i s.heap → J.go i H →
    wpAny (model P w) X.A (pyNext (.ref it)) (fun r s1 => ∃ u, r = some u ∧
      wpAny (model P w) X.A (letOwnedTupleGo tg (.ref it) u) (fun _ s2 => ∃ x H', Inv X pins σ H' s2 ∧ RelV x u ∧ J.yld i H x H' ∧ tn (i + 1) s2.heap ∧ ∀ b ∈ fp, H' b = none) E s1) E s
  done : ∀ (X : Cx), X.prog = P → X.w = w → X.K = K → X.calm = true → ∀ (i : Nat) (pins : List (Addr × Obj)) (s : Shared) (σ : St) (H : Hp) (E : Value → Shared → Prop), Inv X pins σ H s → (∀ b ∈ fp, FpOk X pins H b) → tn i s.heap → J.stop i H →
    wpAny (model P w) X.A (pyNext (.ref it)) (fun r s1 => r = none ∧ Inv X pins σ H s1) E s
  self : ∀ (A : Around) (i : Nat) (s : Shared) (Q : Value → Shared → Prop) (E : Value → Shared → Prop), tn i s.heap → Q (.ref it) s → wpAny (model P w) A (pyIter (.ref it)) Q E s
abbrev TI := St → Hp → (It → Hp → Prop) → Prop
def PIE (X : Cx) (pins : List (Addr × Obj)) (σ : St) (tg : Expr) (R : It → Hp → Prop) (itv : Value) (s2 : Shared) : Prop :=
  ∃ (it : Addr) (fp : List Addr) (tn : Nat → Heap → Prop) (J : It) (H' : Hp), itv = .ref it ∧ Inv X pins σ H' s2 ∧ Turn X.prog X.w X.K tg J fp it tn ∧ tn 0 s2.heap ∧ (∀ b ∈ fp, FpOk X pins H' b) ∧ R J H'
def PI (X : Cx) (tg iter : Expr) (wi : TI) : Prop :=
  ∀ (pins : List (Addr × Obj)) (s : Shared) (σ : St) (H : Hp) (R : It → Hp → Prop), Inv X pins σ H s → wi σ H R →
    wpAny (model X.prog X.w) X.A (eval iter X.env) (fun v s1 => wpAny (model X.prog X.w) X.A (pyIter v) (PIE X pins σ tg R) X.xe s1) X.xe s
theorem go_of {M : Model} {A : Around} {E : Value → Shared → Prop} {s : Shared} {tg : Expr} {it : Addr} {u : Value} {o : Obj} {n : String} {vs : Array Value} {Q : Unit → Shared → Prop} (ho : s.heap.get? it = some o) (hc : o.cls = .type n) (hd : o.data = .fields vs)
    (hn : ["enumerate", "zip", "dict_itemiterator", "dict_reverseitemiterator", "odict_iterator", "itertools.zip_longest", "itertools.pairwise"].contains n = false) (hQ : Q () s) : wpAny M A (letOwnedTupleGo tg (.ref it) u) Q E s := by
  unfold letOwnedTupleGo
  cases tg <;> first
    | exact wpAny_pure hQ
    | (cases u <;> first
        | exact wpAny_pure hQ
        | (refine wpAny_bind (wpAny_load ho ?_)
           rw [hc, hd]
           show wpAny M A (if (["enumerate", "zip", "dict_itemiterator", "dict_reverseitemiterator", "odict_iterator", "itertools.zip_longest", "itertools.pairwise"].contains n && vs[0]? == some (rawInt _)) = true then _ else _) Q E s
           rw [if_neg (by intro h; rw [hn, Bool.false_and] at h; cases h)]
           exact wpAny_pure hQ))
def Itl (K : PySem.W.Frag) (a : Addr) : It :=
  ⟨fun i H => ∃ xs x, SqL K H a xs ∧ xs[i]? = some x, fun i H x H' => H' = H ∧ ∀ xs, SqL K H a xs → xs[i]? = some x, fun i H => ∃ xs, SqL K H a xs ∧ xs.length ≤ i⟩
def Itt (K : PySem.W.Frag) (a : Addr) : It :=
  ⟨fun i H => ∃ xs x, SqT K H a xs ∧ xs[i]? = some x, fun i H x H' => H' = H ∧ ∀ xs, SqT K H a xs → xs[i]? = some x, fun i H => ∃ xs, SqT K H a xs ∧ xs.length ≤ i⟩
def Itr (lo : Int) (n : Nat) : It := ⟨fun i _ => i < n, fun i H x H' => H' = H ∧ x = .int (lo + i), fun i _ => n ≤ i⟩
theorem turn_list {P : Program} {w : World} {K : PySem.W.Frag} {tg : Expr} (a it : Addr) : Turn P w K tg (Itl K a) [it] it (fun i h => h.IsListIter it a i) where
  mem := by simp
  obj := fun i h st b hb => by
    have e : b = it := by simpa using hb
    subst e
    obtain ⟨o, e, c, d⟩ := st
    exact ⟨o, e, fun v z => by rw [d] at z; cases z⟩
  keep := fun i h h' st k => st.at fun o e => k it (by simp) o e
  item := by
    intro X hP hw hK hc i pins s σ H E I hf st hg
    subst hP hw hK
    obtain ⟨xs, x, hq, hx⟩ := hg
    obtain ⟨its, rv, p, hz⟩ := I.list hq
    obtain ⟨u, hu, ru⟩ := rv.get hx
    obtain ⟨f0, f1, f2, f3, f4, f5⟩ := hf it (by simp)
    refine wpAny_pyNext_list_item st p.isList (x := u) (by simpa using hu) fun h' st' sb => ?_
    have I1 : Inv X pins σ H { s with heap := h' } := I.turned (t' := s.toks) (fun b o hb e => (sb.2 b hb).trans e) f0 f1 f3 f4 f5
    obtain ⟨o, e, c, d⟩ := id st'
    exact ⟨u, rfl, go_of (s := { s with heap := h' }) e c d (by decide) ⟨x, H, I1, ru, ⟨rfl, fun ys hy => by rw [I.list_inj hy hq]; exact hx⟩, st', fun b hb => (hf b hb).1⟩⟩
  done := by
    intro X hP hw hK hc i pins s σ H E I hf st hg
    subst hP hw hK
    obtain ⟨xs, hq, hx⟩ := hg
    obtain ⟨its, rv, p, hz⟩ := I.list hq
    obtain ⟨f0, f1, f2, f3, f4, f5⟩ := hf it (by simp)
    have hl := rv.length
    exact wpAny_pyNext_list_end (I.ok.hd hc) st p.isList (by simp; omega) fun h' eb => ⟨rfl, I.turned (t' := s.toks) (fun b o hb e => eb b o hb e) f0 f1 f3 f4 f5⟩
  self := fun _ _ _ _ _ st h => wpAny_pyIter_listiter st h
theorem turn_tuple {P : Program} {w : World} {K : PySem.W.Frag} {tg : Expr} (a it : Addr) : Turn P w K tg (Itt K a) [it] it (fun i h => h.IsTupleIter it a i) where
  mem := by simp
  obj := fun i h st b hb => by
    have e : b = it := by simpa using hb
    subst e
    obtain ⟨o, e, c, d⟩ := st
    exact ⟨o, e, fun v z => by rw [d] at z; cases z⟩
  keep := fun i h h' st k => st.at fun o e => k it (by simp) o e
  item := by
    intro X hP hw hK hc i pins s σ H E I hf st hg
    subst hP hw hK
    obtain ⟨xs, x, hq, hx⟩ := hg
    obtain ⟨its, rv, p, hz⟩ := I.tuple hq
    obtain ⟨u, hu, ru⟩ := rv.get hx
    obtain ⟨f0, f1, f2, f3, f4, f5⟩ := hf it (by simp)
    refine wpAny_pyNext_tuple_item st (show s.heap.IsTuple a its.toArray from p) (x := u) (by simpa using hu) fun h' st' sb => ?_
    have I1 : Inv X pins σ H { s with heap := h' } := I.turned (t' := s.toks) (fun b o hb e => (sb.2 b hb).trans e) f0 f1 f3 f4 f5
    obtain ⟨o, e, c, d⟩ := id st'
    exact ⟨u, rfl, go_of (s := { s with heap := h' }) e c d (by decide) ⟨x, H, I1, ru, ⟨rfl, fun ys hy => by rw [I.tuple_inj hy hq]; exact hx⟩, st', fun b hb => (hf b hb).1⟩⟩
  done := by
    intro X hP hw hK hc i pins s σ H E I hf st hg
    subst hP hw hK
    obtain ⟨xs, hq, hx⟩ := hg
    obtain ⟨its, rv, p, hz⟩ := I.tuple hq
    obtain ⟨f0, f1, f2, f3, f4, f5⟩ := hf it (by simp)
    have hl := rv.length
    exact wpAny_pyNext_tuple_end (I.ok.hd hc) st (show s.heap.IsTuple a its.toArray from p) (by simp; omega) fun h' eb => ⟨rfl, I.turned (t' := s.toks) (fun b o hb e => eb b o hb e) f0 f1 f3 f4 f5⟩
  self := fun _ _ _ _ _ st h => wpAny_pyIter_tupleiter st h
theorem turn_range {P : Program} {w : World} {K : PySem.W.Frag} {tg : Expr} (it : Addr) (lo : Int) (n : Nat) : Turn P w K tg (Itr lo n) [it] it (fun i h => IsRangeIter h it (lo + (i : Nat) * 1) ((n : Int) - (i : Nat)) 1) where
  mem := by simp
  obj := fun i h st b hb => by
    have e : b = it := by simpa using hb
    subst e
    exact ⟨_, st, fun v z => by
      have z' : Data.fields _ = Data.cell v := z
      cases z'⟩
  keep := fun i h h' st k => k it (by simp) _ st
  item := by
    intro X hP hw hK hc i pins s σ H E I hf st hg
    subst hP hw hK
    obtain ⟨f0, f1, f2, f3, f4, f5⟩ := hf it (by simp)
    have W := Walks.range (prog := X.prog) (w := X.w) (I.ok.hd hc) it lo 1 n
    refine W.item i s _ _ hg st fun v h' tk hv st' kk => ?_
    obtain ⟨t, rfl⟩ := hv
    have I1 : Inv X pins σ H { s with heap := h', toks := tk } := I.turned (fun b o hb e => kk b o (by simpa using hb) e) f0 f1 f3 f4 f5
    refine ⟨_, rfl, go_of (s := { s with heap := h', toks := tk }) (n := "range_iterator") st' rfl rfl (by decide) ⟨.int (lo + i), H, I1, ⟨t, ?_⟩, ⟨rfl, rfl⟩, st', fun b hb => (hf b hb).1⟩⟩
    rw [Int.mul_one]
  done := by
    intro X hP hw hK hc i pins s σ H E I hf st hg
    subst hP hw hK
    obtain ⟨f0, f1, f2, f3, f4, f5⟩ := hf it (by simp)
    exact wpAny_pyNext_range_end (I.ok.hd hc) st (by have : n ≤ i := hg; omega) fun h' eb => ⟨rfl, I.turned (t' := s.toks) (fun b o hb e => eb b o hb e) f0 f1 f3 f4 f5⟩
  self := fun _ _ _ _ _ st h => wpAny_pyIter_rangeiter st h
end L2
namespace L2
open PySem PySem.Spec PyProof.Rows
section
variable {X : Cx} {tg : Expr}
def iList (K : PySem.W.Frag) (tl : TE) : TI := fun σ H R => tl σ H fun x H1 => ∃ a, x = .ref a ∧ (∃ xs, SqL K H1 a xs) ∧ R (Itl K a) H1
def iTup (K : PySem.W.Frag) (tl : TE) : TI := fun σ H R => tl σ H fun x H1 => ∃ a, x = .ref a ∧ (∃ xs, SqT K H1 a xs) ∧ R (Itt K a) H1
theorem pi_list {l : Expr} {tl : TE} (hl : PE X l tl) : PI X tg l (iList X.K tl) := by
  intro pins s σ H R I h
  refine thn (hl pins s σ H _ I h) fun v s1 ⟨x, H1, I1, r1, q1⟩ => ?_
  obtain ⟨a, e, ⟨xs, hq⟩, q⟩ := q1
  subst e
  cases r1
  obtain ⟨its, rv, p, hz⟩ := I1.list hq
  refine wpAny_pyIter_list p.isList ?_
  refine ⟨s1.heap.objs.size, [s1.heap.objs.size], _, _, H1, rfl, I1.kept (t' := s1.toks) fun b o e => Heap.get?_push_of_some _ e, turn_list a _, ⟨_, Heap.get?_push_size _ rfl, rfl, rfl⟩, fun b hb => ?_, q⟩
  have e : b = s1.heap.objs.size := by simpa using hb
  subst e
  exact I1.fpOk (Nat.le_refl _) (I1.hok.fresh (Nat.le_refl _))
theorem pi_tup {l : Expr} {tl : TE} (hl : PE X l tl) : PI X tg l (iTup X.K tl) := by
  intro pins s σ H R I h
  refine thn (hl pins s σ H _ I h) fun v s1 ⟨x, H1, I1, r1, q1⟩ => ?_
  obtain ⟨a, e, ⟨xs, hq⟩, q⟩ := q1
  subst e
  cases r1
  obtain ⟨its, rv, p, hz⟩ := I1.tuple hq
  refine wpAny_pyIter_tuple (show s1.heap.IsTuple a its.toArray from p) ?_
  refine ⟨s1.heap.objs.size, [s1.heap.objs.size], _, _, H1, rfl, I1.kept (t' := s1.toks) fun b o e => Heap.get?_push_of_some _ e, turn_tuple a _, ⟨_, Heap.get?_push_size _ rfl, rfl, rfl⟩, fun b hb => ?_, q⟩
  have e : b = s1.heap.objs.size := by simpa using hb
  subst e
  exact I1.fpOk (Nat.le_refl _) (I1.hok.fresh (Nat.le_refl _))
theorem range_it {pins : List (Addr × Obj)} {σ : St} {H : Hp} {s : Shared} {R : It → Hp → Prop} {E : Value → Shared → Prop} {lo hi : Int} {t u v : Tok} {tk : Nat} (I : Inv X pins σ H s) (h1 : -(2 ^ 62) ≤ lo) (h2 : lo < 2 ^ 62) (h3 : -(2 ^ 62) ≤ hi) (h4 : hi < 2 ^ 62)
    (q : R (Itr lo (hi - lo).toNat) H) : wpAny (model X.prog X.w) X.A (pyIter (.ref s.heap.objs.size)) (PIE X pins σ tg R) E { s with heap := s.heap.push { cls := .type "range", data := .fields #[.int lo t, .int hi u, .int 1 v] }, toks := tk } := by
  refine wpAny_pyIter_range (IsRange.new ..) (small_one h1 h2 h3 h4) ?_
  have I1 : Inv X pins σ H { s with heap := s.heap.push { cls := .type "range", data := .fields #[.int lo t, .int hi u, .int 1 v] }, toks := tk } := I.kept fun b o e => Heap.get?_push_of_some _ e
  refine ⟨(s.heap.push { cls := .type "range", data := .fields #[.int lo t, .int hi u, .int 1 v] }).objs.size, [(s.heap.push { cls := .type "range", data := .fields #[.int lo t, .int hi u, .int 1 v] }).objs.size], _, _, H, rfl,
    I1.kept (t' := tk) fun b o e => Heap.get?_push_of_some _ e, turn_range _ lo (hi - lo).toNat, ?_, fun b hb => ?_, q⟩
  · have e1 : lo + ((0 : Nat) : Int) * 1 = lo := by simp
    have e2 : (((hi - lo).toNat : Nat) : Int) - ((0 : Nat) : Int) = Builtin.Range.rangeSize lo hi 1 := by rw [rangeSize_one]; split <;> omega
    show IsRangeIter _ _ (lo + ((0 : Nat) : Int) * 1) ((((hi - lo).toNat : Nat) : Int) - ((0 : Nat) : Int)) 1
    rw [e1, e2]
    exact Heap.get?_push_size _ rfl
  · have e : b = (s.heap.push { cls := .type "range", data := .fields #[.int lo t, .int hi u, .int 1 v] }).objs.size := by simpa using hb
    subst e
    exact I1.fpOk (Nat.le_refl _) (I1.hok.fresh (Nat.le_refl _))
def iRng1 (ta : TA) : TI := fun σ H R => ta σ H fun vs H1 => ∃ j : Int, vs = [.int j] ∧ -(2 ^ 62) ≤ j ∧ j < 2 ^ 62 ∧ R (Itr 0 j.toNat) H1
def iRng2 (ta : TA) : TI := fun σ H R => ta σ H fun vs H1 => ∃ i j : Int, vs = [.int i, .int j] ∧ (-(2 ^ 62) ≤ i ∧ i < 2 ^ 62 ∧ -(2 ^ 62) ≤ j ∧ j < 2 ^ 62) ∧ R (Itr i (j - i).toNat) H1
theorem pi_range1 {a : Expr} {ta : TA} {p pos : Pos} (hg : Gl X "range") (hm : X.mg "range" = none) (ha : PA X [a] ta) (hs : starEach [a] X.env = [(false, eval a X.env)] := by rfl) : PI X tg (.Call (.Name "range" p) [a] [] pos) (iRng1 ta) := by
  intro pins s σ H R I h
  refine Call_ (ld_blt I hg hm boot_range (PyProof.Rows.callWith_type1 (thn (ha pos pins s σ H _ I h) fun us s1 ⟨vs, H1, I1, r1, q1⟩ => ?_) hs rfl))
  obtain ⟨j, e, q1, q2, q⟩ := q1
  subst e
  cases r1 with
  | cons r rr =>
    cases rr
    obtain ⟨t, rfl⟩ := r
    exact call_range_1 (range_it I1 (by omega) (by omega) q1 q2 (by simpa using q))
theorem pi_range2 {a b : Expr} {ta : TA} {p pos : Pos} (hg : Gl X "range") (hm : X.mg "range" = none) (ha : PA X [a, b] ta) (hs : starEach [a, b] X.env = [(false, eval a X.env), (false, eval b X.env)] := by rfl) (hs2 : starEach [b] X.env = [(false, eval b X.env)] := by rfl) :
    PI X tg (.Call (.Name "range" p) [a, b] [] pos) (iRng2 ta) := by
  intro pins s σ H R I h
  refine Call_ (ld_blt I hg hm boot_range (PyProof.Rows.callWith_type1 (thn (ha pos pins s σ H _ I h) fun us s1 ⟨vs, H1, I1, r1, q1⟩ => ?_) (by rw [hs, hs2]) (by rw [hs2]; rfl)))
  obtain ⟨i, j, e, ⟨q1, q2, q3, q4⟩, q⟩ := q1
  subst e
  cases r1 with
  | cons r rr =>
    cases rr with
    | cons r' rr =>
      cases rr
      obtain ⟨t, rfl⟩ := r
      obtain ⟨t', rfl⟩ := r'
      exact call_range_2 (range_it I1 q1 q2 q3 q4 q)
def tFor (wi : TI) (g : TG) (tb : TS) : TS := fun D σ H => wi σ H fun J H1 => ∃ W : Nat → Nat → St → Hp → Prop, (∃ m, W 0 m σ H1) ∧ ∀ i m σ H, W i m σ H →
  (J.stop i H ∧ D.nx σ H) ∨ (J.go i H ∧ ∃ N : St → Hp → Prop, (∀ σ' H', N σ' H' → ∃ m', m' < m ∧ W (i + 1) m' σ' H') ∧ ∀ x H', J.yld i H x H' → g x σ H' fun σ2 H2 => tb { D with nx := N, ct := N, bk := D.nx } σ2 H2)
def pinsAt (fp : List Addr) (h : Heap) : List (Addr × Obj) := fp.filterMap fun b => (h.get? b).map fun o => (b, o)
theorem mem_pinsAt {fp : List Addr} {h : Heap} {b : Addr} {o : Obj} (hb : b ∈ fp) (e : h.get? b = some o) : (b, o) ∈ pinsAt fp h := List.mem_filterMap.mpr ⟨b, hb, by rw [e]; rfl⟩
theorem of_pinsAt {fp : List Addr} {h : Heap} {p : Addr × Obj} (hp : p ∈ pinsAt fp h) : p.1 ∈ fp ∧ h.get? p.1 = some p.2 := by
  obtain ⟨b, hb, e⟩ := List.mem_filterMap.mp hp
  cases q : h.get? b with
  | none => rw [q] at e; cases e
  | some o =>
    rw [q] at e
    have e' : (b, o) = p := Option.some.inj e
    subst e'
    exact ⟨hb, q⟩
theorem Inv.pinned {pins : List (Addr × Obj)} {σ : St} {H : Hp} {s : Shared} {fp : List Addr} (I : Inv X pins σ H s) (hf : ∀ b ∈ fp, FpOk X pins H b) (ho : ∀ b ∈ fp, ∃ o, s.heap.get? b = some o ∧ ∀ v, o.data ≠ .cell v) : Inv X (pins ++ pinsAt fp s.heap) σ H s :=
  I.pins_of fun p hp => (List.mem_append.mp hp).elim (fun z => I.pin p (List.mem_append_right _ z)) fun z => by
    obtain ⟨hb, e⟩ := of_pinsAt z
    obtain ⟨f0, f1, f2, _⟩ := hf p.1 hb
    obtain ⟨o, e', d⟩ := ho p.1 hb
    rw [e] at e'; cases e'
    exact ⟨e, f0, f1, f2, d⟩
theorem Inv.unpinned {pins pl : List (Addr × Obj)} {σ : St} {H : Hp} {s : Shared} (I : Inv X (pins ++ pl) σ H s) : Inv X pins σ H s := I.pins_of fun p hp => I.pin p (List.mem_append_right _ (List.mem_append_left _ hp))
theorem ps_for {iter : Expr} {body : List Stmt} {wi : TI} {g : TG} {tb : TS} {pos : Pos} (hp : PassesOwn (model X.prog X.w) X.A X.env X.xe) (hc : X.calm = true) (hi : PI X tg iter wi) (hg : PG X tg g) (hb : PSs X body tb)
    (hs : ∀ x, foldedSetIterable iter X.env x = pure x := by intro _; rfl) : PS X (.For tg iter body [] pos) (tFor wi g tb) := by
  intro pins s σ H D I h
  refine wpAny_For (thn (hi pins s σ H _ I h) fun v s1 h1 => thn h1 fun itv s2 h2 => ?_) hs
  obtain ⟨it, fp, tn, J, H2, e, I2, T, st2, f2, W, ⟨m0, w0⟩, turn⟩ := h2
  subst e
  -- what stays true of the iterator's objects through the loop
  have stat : ∀ {H' : Hp}, (∀ b ∈ fp, H' b = none) → ∀ b ∈ fp, FpOk X pins H' b := fun hn b hb => ⟨hn b hb, (f2 b hb).2⟩
  refine codeAny_forLoop_any (fun n s' => ∃ i σ' H', Inv X pins σ' H' s' ∧ tn i s'.heap ∧ (∀ b ∈ fp, H' b = none) ∧ W i n σ' H') ?_ m0 ⟨0, σ, H2, I2, st2, fun b hb => (f2 b hb).1, w0⟩
  rintro n s3 ⟨i, σ3, H3, I3, st3, fr3, w3⟩
  rcases turn i n σ3 H3 w3 with ⟨stop, qn⟩ | ⟨go, N, hN, step⟩
  · refine wpAny_passesOwn hp (thn (T.done X rfl rfl rfl hc i pins s3 σ3 H3 X.xe I3 (stat fr3) st3 stop) fun r s4 ⟨hr, I4⟩ => ?_)
    subst hr
    exact wpAny_execs_nil ⟨σ3, H3, I4, qn⟩
  · refine wpAny_passesOwn hp (thn (T.item X rfl rfl rfl hc i pins s3 σ3 H3 X.xe I3 (stat fr3) st3 go) fun r s4 ⟨u, hr, h4⟩ => ?_)
    subst hr
    refine wpAny_passesOwn hp (thn h4 fun _ s5 ⟨x, H5, I5, r5, y5, st5, fr5⟩ => ?_)
    have I5' := I5.pinned (stat fr5) (T.obj _ _ st5)
    refine wpAny_passesOwn hp (thn (hg _ s5 σ3 H5 x u _ I5' r5 (step x H5 y5)) fun _ s6 ⟨σ6, H6, I6, q6⟩ => ?_)
    refine wpAny_passesOwn hp (thn (hb _ s6 σ6 H6 _ I6 q6) fun f s7 q7 => ?_)
    have again : ∀ {σ7 : St} {H7 : Hp}, Inv X (pins ++ pinsAt fp s5.heap) σ7 H7 s7 → N σ7 H7 → ∃ m, m < n ∧ ∃ i σ' H', Inv X pins σ' H' s7 ∧ tn i s7.heap ∧ (∀ b ∈ fp, H' b = none) ∧ W i m σ' H' := fun {σ7 H7} I7 n7 => by
      obtain ⟨m', hm, w7⟩ := hN σ7 H7 n7
      refine ⟨m', hm, i + 1, σ7, H7, I7.unpinned, T.keep _ _ _ st5 fun b hb o e => (I7.pin (b, o) (List.mem_append_right _ (List.mem_append_right _ (mem_pinsAt hb e)))).1, fun b hb => ?_, w7⟩
      obtain ⟨o, e, d⟩ := T.obj _ _ st5 b hb
      exact (I7.pin (b, o) (List.mem_append_right _ (List.mem_append_right _ (mem_pinsAt hb e)))).2.1
    cases f with
    | next => obtain ⟨σ7, H7, I7, n7⟩ := q7; exact again I7 n7
    | cont => obtain ⟨σ7, H7, I7, n7⟩ := q7; exact again I7 n7
    | brk => obtain ⟨σ7, H7, I7, q7⟩ := q7; exact ⟨σ7, H7, I7.unpinned, q7⟩
    | ret v => obtain ⟨x7, σ7, H7, I7, r7, q7⟩ := q7; exact ⟨x7, σ7, H7, I7.unpinned, r7, q7⟩
end
theorem for_list {K : PySem.W.Frag} {a : Addr} {xs : List V} {g : TG} {tb : TS} {D : Ends} {σ : St} {H : Hp} (Pv : Nat → St → Hp → Prop) (h0 : Pv 0 σ H) (hl : ∀ i σ H, i ≤ xs.length → Pv i σ H → SqL K H a xs)
    (hs : ∀ i x σ H, xs[i]? = some x → Pv i σ H → g x σ H fun σ2 H2 => tb { D with nx := Pv (i + 1), ct := Pv (i + 1), bk := D.nx } σ2 H2) (hd : ∀ σ H, Pv xs.length σ H → D.nx σ H) :
    ∃ W : Nat → Nat → St → Hp → Prop, (∃ m, W 0 m σ H) ∧ ∀ i m σ H, W i m σ H →
      ((Itl K a).stop i H ∧ D.nx σ H) ∨ ((Itl K a).go i H ∧ ∃ N : St → Hp → Prop, (∀ σ' H', N σ' H' → ∃ m', m' < m ∧ W (i + 1) m' σ' H') ∧ ∀ x H', (Itl K a).yld i H x H' → g x σ H' fun σ2 H2 => tb { D with nx := N, ct := N, bk := D.nx } σ2 H2) := by
  refine ⟨fun i m σ H => m = xs.length - i ∧ i ≤ xs.length ∧ Pv i σ H, ⟨xs.length, by simp, Nat.zero_le _, h0⟩, ?_⟩
  rintro i m σ H ⟨rfl, hi, p⟩
  have q := hl i σ H hi p
  by_cases hlt : i < xs.length
  · refine .inr ⟨⟨xs, xs[i], q, by simp [hlt]⟩, Pv (i + 1), fun σ' H' p' => ⟨xs.length - (i + 1), by omega, rfl, hlt, p'⟩, fun x H' y => ?_⟩
    obtain ⟨e, y⟩ := y
    subst e
    exact hs i x σ _ (y xs q) p
  · have e : i = xs.length := by omega
    subst e
    exact .inl ⟨⟨xs, q, Nat.le_refl _⟩, hd σ H p⟩
theorem for_tup {K : PySem.W.Frag} {a : Addr} {xs : List V} {g : TG} {tb : TS} {D : Ends} {σ : St} {H : Hp} (Pv : Nat → St → Hp → Prop) (h0 : Pv 0 σ H) (hl : ∀ i σ H, i ≤ xs.length → Pv i σ H → SqT K H a xs)
    (hs : ∀ i x σ H, xs[i]? = some x → Pv i σ H → g x σ H fun σ2 H2 => tb { D with nx := Pv (i + 1), ct := Pv (i + 1), bk := D.nx } σ2 H2) (hd : ∀ σ H, Pv xs.length σ H → D.nx σ H) :
    ∃ W : Nat → Nat → St → Hp → Prop, (∃ m, W 0 m σ H) ∧ ∀ i m σ H, W i m σ H →
      ((Itt K a).stop i H ∧ D.nx σ H) ∨ ((Itt K a).go i H ∧ ∃ N : St → Hp → Prop, (∀ σ' H', N σ' H' → ∃ m', m' < m ∧ W (i + 1) m' σ' H') ∧ ∀ x H', (Itt K a).yld i H x H' → g x σ H' fun σ2 H2 => tb { D with nx := N, ct := N, bk := D.nx } σ2 H2) := by
  refine ⟨fun i m σ H => m = xs.length - i ∧ i ≤ xs.length ∧ Pv i σ H, ⟨xs.length, by simp, Nat.zero_le _, h0⟩, ?_⟩
  rintro i m σ H ⟨rfl, hi, p⟩
  have q := hl i σ H hi p
  by_cases hlt : i < xs.length
  · refine .inr ⟨⟨xs, xs[i], q, by simp [hlt]⟩, Pv (i + 1), fun σ' H' p' => ⟨xs.length - (i + 1), by omega, rfl, hlt, p'⟩, fun x H' y => ?_⟩
    obtain ⟨e, y⟩ := y
    subst e
    exact hs i x σ _ (y xs q) p
  · have e : i = xs.length := by omega
    subst e
    exact .inl ⟨⟨xs, q, Nat.le_refl _⟩, hd σ H p⟩
theorem for_range {lo : Int} {n : Nat} {g : TG} {tb : TS} {D : Ends} {σ : St} {H : Hp} (Pv : Nat → St → Hp → Prop) (h0 : Pv 0 σ H)
    (hs : ∀ i σ H, i < n → Pv i σ H → g (.int (lo + i)) σ H fun σ2 H2 => tb { D with nx := Pv (i + 1), ct := Pv (i + 1), bk := D.nx } σ2 H2) (hd : ∀ σ H, Pv n σ H → D.nx σ H) :
    ∃ W : Nat → Nat → St → Hp → Prop, (∃ m, W 0 m σ H) ∧ ∀ i m σ H, W i m σ H →
      ((Itr lo n).stop i H ∧ D.nx σ H) ∨ ((Itr lo n).go i H ∧ ∃ N : St → Hp → Prop, (∀ σ' H', N σ' H' → ∃ m', m' < m ∧ W (i + 1) m' σ' H') ∧ ∀ x H', (Itr lo n).yld i H x H' → g x σ H' fun σ2 H2 => tb { D with nx := N, ct := N, bk := D.nx } σ2 H2) := by
  refine ⟨fun i m σ H => m = n - i ∧ i ≤ n ∧ Pv i σ H, ⟨n, by simp, Nat.zero_le _, h0⟩, ?_⟩
  rintro i m σ H ⟨rfl, hi, p⟩
  by_cases hlt : i < n
  · refine .inr ⟨hlt, Pv (i + 1), fun σ' H' p' => ⟨n - (i + 1), by omega, rfl, hlt, p'⟩, fun x H' y => ?_⟩
    obtain ⟨e, y⟩ := y
    subst e y
    exact hs i σ _ hlt p
  · have e : i = n := by omega
    subst e
    exact .inl ⟨Nat.le_refl _, hd σ H p⟩
end L2
namespace L2
open PySem PySem.Spec PyProof.Rows
abbrev R2 := V → V → Hp → VK → Prop
def OpR (X : Cx) (f : Value → Value → Sem Value) (r : R2) : Prop :=
  ∀ (pins : List (Addr × Obj)) (s : Shared) (σ : St) (H : Hp) (x y : V) (v u : Value) (Q : VK), Inv X pins σ H s → RelV x v → RelV y u → r x y H Q →
    wpAny (model X.prog X.w) X.A (f v u) (EP X pins σ Q) X.xe s
def CallR (X : Cx) (f : Value) (r : List V → Hp → VK → Prop) : Prop :=
  ∀ (pins : List (Addr × Obj)) (s : Shared) (σ : St) (H : Hp) (xs : List V) (us : List Value) (Q : VK), Inv X pins σ H s → Vals xs us → r xs H Q →
    wpAny (model X.prog X.w) X.A (call f us) (EP X pins σ Q) X.xe s
def tOp (r : R2) (ta tb : TE) : TE := fun σ H Q => ta σ H fun x H1 => tb σ H1 fun y H2 => r x y H2 Q
def tUn (r : V → Hp → VK → Prop) (ta : TE) : TE := fun σ H Q => ta σ H fun x H1 => r x H1 Q
def rI (C : Int → Int → Prop) (g : Int → Int → V) : R2 := fun x y H Q => ∃ i j, x = .int i ∧ y = .int j ∧ C i j ∧ Q (g i j) H
def rI0 (g : Int → Int → V) : R2 := fun x y H Q => ∃ i j, x = .int i ∧ y = .int j ∧ Q (g i j) H
def rU (g : Int → V) : V → Hp → VK → Prop := fun x H Q => ∃ i, x = .int i ∧ Q (g i) H
section
variable {X : Cx} {a b c : Expr} {ta tb tc : TE} {pos : Pos}
theorem binT (ha : PE X a ta) (hb : PE X b tb) {pins : List (Addr × Obj)} {s : Shared} {σ : St} {H : Hp} {R : V → V → Hp → Prop} (I : Inv X pins σ H s)
    (h : ta σ H fun x H1 => tb σ H1 fun y H2 => R x y H2) {Q : Value → Shared → Prop} {f : Value → Value → Sem Value}
    (hf : ∀ v u s2 x y H2, Inv X pins σ H2 s2 → RelV x v → RelV y u → R x y H2 → wpAny (model X.prog X.w) X.A (f v u) Q X.xe s2) :
    wpAny (model X.prog X.w) X.A (eval a X.env) (fun v s₁ => wpAny (model X.prog X.w) X.A (eval b X.env) (fun u s₂ => wpAny (model X.prog X.w) X.A (f v u) Q X.xe s₂) X.xe s₁) X.xe s := by
  refine thn (ha pins s σ H _ I h) fun v s1 ⟨x, H1, I1, r1, q1⟩ => ?_
  refine thn (hb pins s1 σ H1 _ I1 q1) fun u s2 ⟨y, H2, I2, r2, q2⟩ => ?_
  exact hf v u s2 x y H2 I2 r1 r2 q2
theorem pe_op {op : Operator} {r : R2} (ho : OpR X (binaryOp op) r) (ha : PE X a ta) (hb : PE X b tb) : PE X (.BinOp a op b pos) (tOp r ta tb) := by
  intro pins s σ H Q I h
  exact wpAny_BinOp (binT ha hb I h fun v u s2 x y H2 I2 rx ry q => ho pins s2 σ H2 x y v u Q I2 rx ry q)
theorem opI {f : Value → Value → Sem Value} {C : Int → Int → Prop} {g : Int → Int → Int}
    (rule : ∀ (i j : Int) (t u : Tok) (s : Shared) (Q : Value → Shared → Prop) (E : Value → Shared → Prop), C i j → Q (.int (g i j) s.toks) { s with toks := s.toks + 1 } → wpAny (model X.prog X.w) X.A (f (.int i t) (.int j u)) Q E s) :
    OpR X f (rI C fun i j => .int (g i j)) := by
  intro pins s σ H x y v u Q I rx ry h
  obtain ⟨i, j, rfl, rfl, hc, q⟩ := h
  obtain ⟨t, rfl⟩ := rx
  obtain ⟨t', rfl⟩ := ry
  exact rule i j t t' s _ _ hc ⟨.int (g i j), H, I.tok _, ⟨_, rfl⟩, q⟩
theorem opI0 {f : Value → Value → Sem Value} {g : Int → Int → Int}
    (rule : ∀ (i j : Int) (t u : Tok) (s : Shared) (Q : Value → Shared → Prop) (E : Value → Shared → Prop), Q (.int (g i j) s.toks) { s with toks := s.toks + 1 } → wpAny (model X.prog X.w) X.A (f (.int i t) (.int j u)) Q E s) :
    OpR X f (rI0 fun i j => .int (g i j)) := by
  intro pins s σ H x y v u Q I rx ry h
  obtain ⟨i, j, rfl, rfl, q⟩ := h
  obtain ⟨t, rfl⟩ := rx
  obtain ⟨t', rfl⟩ := ry
  exact rule i j t t' s _ _ ⟨.int (g i j), H, I.tok _, ⟨_, rfl⟩, q⟩
theorem opB0 {f : Value → Value → Sem Value} {g : Int → Int → Bool}
    (rule : ∀ (i j : Int) (t u : Tok) (s : Shared) (Q : Value → Shared → Prop) (E : Value → Shared → Prop), Q (.bool (g i j)) s → wpAny (model X.prog X.w) X.A (f (.int i t) (.int j u)) Q E s) :
    OpR X f (rI0 fun i j => .bl (g i j)) := by
  intro pins s σ H x y v u Q I rx ry h
  obtain ⟨i, j, rfl, rfl, q⟩ := h
  obtain ⟨t, rfl⟩ := rx
  obtain ⟨t', rfl⟩ := ry
  exact rule i j t t' s _ _ ⟨.bl (g i j), H, I, rfl, q⟩
def CMul (i j : Int) : Prop := (-(2 ^ 64) < i ∧ i < 2 ^ 64) ∨ (-(2 ^ 64) < j ∧ j < 2 ^ 64)
theorem CMul.ok {i j : Int} (h : CMul i j) : IntMulOk i j := by
  rcases h with ⟨h1, h2⟩ | ⟨h1, h2⟩
  · exact .of_left (intBits_le_64 h1 h2)
  · exact .of_right (intBits_le_64 h1 h2)
theorem op_add : OpR X (binaryOp .Add) (rI0 fun i j => .int (i + j)) := opI0 fun _ _ _ _ _ _ _ q => add_int q
theorem op_sub : OpR X (binaryOp .Sub) (rI0 fun i j => .int (i - j)) := opI0 fun _ _ _ _ _ _ _ q => sub_int q
theorem op_mul : OpR X (binaryOp .Mult) (rI CMul fun i j => .int (i * j)) := opI fun _ _ _ _ _ _ _ hc q => mul_int q hc.ok
theorem op_mod : OpR X (binaryOp .Mod) (rI (fun _ j => 0 < j) fun i j => .int (i % j)) := opI fun i j _ _ _ _ _ hc q => by
  have h1 : (0 : Int) < j := hc
  exact mod_int' (by omega) (by rw [Int.fmod_eq_emod_of_nonneg i (by omega)]; exact q)
end
def scal : V → V → Bool
  | .non, .non => true | .non, .int _ => true | .int _, .non => true | .non, .bl _ => true | .bl _, .non => true | .non, .str _ => true | .str _, .non => true
  | .int _, .int _ => true | .bl _, .bl _ => true | .str _, .str _ => true | .byt _, .byt _ => true
  | .int _, .str _ => true | .str _, .int _ => true | .bl _, .str _ => true | .str _, .bl _ => true
  | _, _ => false
def rEq : R2 := fun x y H Q => scal x y = true ∧ Q (.bl (decide (x = y))) H
def rNe : R2 := fun x y H Q => scal x y = true ∧ Q (.bl (!decide (x = y))) H
theorem dec_int {i j : Int} : decide (V.int i = V.int j) = (i == j) := by
  rw [Bool.eq_iff_iff]
  simp
theorem dec_bl {i j : Bool} : decide (V.bl i = V.bl j) = (i == j) := by
  rw [Bool.eq_iff_iff]
  simp
theorem dec_str {i j : Str} : decide (V.str i = V.str j) = (i == j) := by
  rw [Bool.eq_iff_iff]
  simp
theorem dec_byt {i j : Array UInt8} : decide (V.byt i = V.byt j) = (i.toList == j.toList) := by
  rw [Bool.eq_iff_iff]
  cases i
  cases j
  simp
section
variable {X : Cx} {a b c : Expr} {ta tb tc : TE} {pos : Pos}
theorem fin_bl {pins : List (Addr × Obj)} {σ : St} {H : Hp} {s : Shared} {Q : VK} {k k' : Bool} (I : Inv X pins σ H s) (q : Q (.bl k) H) (e : k = k') : EP X pins σ Q (.bool k') s := by
  subst e
  exact ⟨.bl k, H, I, rfl, q⟩
theorem op_eq : OpR X (compareOp .Eq) rEq := by
  intro pins s σ H x y v u Q I rx ry h
  obtain ⟨hs, q⟩ := h
  cases x with
  | non =>
    cases rx
    cases y with
    | non => cases ry; exact PySem.EqNone.eq_none_none (fin_bl I q (by simp))
    | bl j => cases ry; exact PySem.EqNone.eq_none_bool (fin_bl I q (by simp))
    | int j => obtain ⟨t', rfl⟩ := ry; exact PySem.EqNone.eq_none_int (fin_bl I q (by simp))
    | str j => obtain ⟨t', rfl⟩ := ry; exact PySem.EqNone.eq_none_str (fin_bl I q (by simp))
    | _ => exact absurd (show false = true from hs) Bool.false_ne_true
  | bl i =>
    cases rx
    cases y with
    | non => cases ry; exact PySem.EqNone.eq_bool_none (fin_bl I q (by simp))
    | bl j => cases ry; exact eq_bool (fin_bl I q dec_bl)
    | str j => obtain ⟨t', rfl⟩ := ry; exact PySem.EqMixed.eq_bool_str (fin_bl I q (by simp))
    | _ => exact absurd (show false = true from hs) Bool.false_ne_true
  | int i =>
    obtain ⟨t, rfl⟩ := rx
    cases y with
    | non => cases ry; exact PySem.EqNone.eq_int_none (fin_bl I q (by simp))
    | int j => obtain ⟨t', rfl⟩ := ry; exact eq_int (fin_bl I q dec_int)
    | str j => obtain ⟨t', rfl⟩ := ry; exact PySem.EqMixed.eq_int_str (fin_bl I q (by simp))
    | _ => exact absurd (show false = true from hs) Bool.false_ne_true
  | str i =>
    obtain ⟨t, rfl⟩ := rx
    cases y with
    | non => cases ry; exact PySem.EqNone.eq_str_none (fin_bl I q (by simp))
    | bl j => cases ry; exact PySem.EqMixed.eq_str_bool (fin_bl I q (by simp))
    | int j => obtain ⟨t', rfl⟩ := ry; exact PySem.EqMixed.eq_str_int (fin_bl I q (by simp))
    | str j => obtain ⟨t', rfl⟩ := ry; exact eq_str (fin_bl I q dec_str)
    | _ => exact absurd (show false = true from hs) Bool.false_ne_true
  | byt i =>
    obtain ⟨t, rfl⟩ := rx
    cases y with
    | byt j => obtain ⟨t', rfl⟩ := ry; exact PySem.W.eq_bytes (fin_bl I q dec_byt)
    | _ => exact absurd (show false = true from hs) Bool.false_ne_true
  | _ => cases y <;> exact absurd (show false = true from hs) Bool.false_ne_true
theorem op_lt : OpR X (compareOp .Lt) (rI0 fun i j => .bl (decide (i < j))) := opB0 fun _ _ _ _ _ _ _ q => lt_int q
theorem op_le : OpR X (compareOp .LtE) (rI0 fun i j => .bl (decide (i ≤ j))) := opB0 fun _ _ _ _ _ _ _ q => le_int q
theorem op_gt : OpR X (compareOp .Gt) (rI0 fun i j => .bl (decide (j < i))) := opB0 fun _ _ _ _ _ _ _ q => gt_int q
theorem nomark (b : Expr) {op : CmpOp} (h : op ≠ .In := by decide) (h2 : op ≠ .NotIn := by decide) : behindInMarks op b = false := by
  have e1 : (op == CmpOp.In) = false := by cases op <;> first | rfl | exact absurd rfl h
  have e2 : (op == CmpOp.NotIn) = false := by cases op <;> first | rfl | exact absurd rfl h2
  cases b <;> simp [behindInMarks, e1, e2]
theorem pe_cmpR {op : CmpOp} {r : R2} (ho : OpR X (compareOp op) r) (ha : PE X a ta) (hb : PE X b tb) (hm : behindInMarks op b = false) : PE X (.Compare a [op] [b] pos) (tOp r ta tb) := by
  intro pins s σ H Q I h
  exact wpAny_Compare1 (binT ha hb I h fun v u s2 x y H2 I2 rx ry q => ho pins s2 σ H2 x y v u Q I2 rx ry q) hm
def tTest (t : TE) : TT := fun σ H Q => t σ H fun x H' => ∃ k, x = .bl k ∧ Q k H'
theorem pt_cmpR {op : CmpOp} {r : R2} (ho : OpR X (compareOp op) r) (ha : PE X a ta) (hb : PE X b tb) (hm : behindInMarks op b = false) : PT X (.Compare a [op] [b] pos) (tTest (tOp r ta tb)) := by
  intro pins s σ H Q I h
  refine wpAny_isTrue_Compare1 (thn (ha pins s σ H _ I h) fun v s1 ⟨x, H1, I1, r1, q1⟩ => thn (hb pins s1 σ H1 _ I1 q1) fun u s2 ⟨y, H2, I2, r2, q2⟩ =>
    thn (ho pins s2 σ H2 x y v u _ I2 r1 r2 q2) fun c s3 ⟨z, H3, I3, r3, k, e, q3⟩ => ?_) hm
  subst e
  cases r3
  exact wpAny_truthy_bool ⟨H3, I3, q3⟩
def tChain (r r' : R2) (ta tb tc : TE) : TE := fun σ H Q => ta σ H fun x H1 => tb σ H1 fun y H2 => r x y H2 fun z H3 => ∃ k, z = .bl k ∧
  (if k = true then tc σ H3 fun w' H4 => r' y w' H4 Q else Q (.bl false) H3)
theorem pe_chain {op op' : CmpOp} {r r' : R2} (ho : OpR X (compareOp op) r) (ho' : OpR X (compareOp op') r') (ha : PE X a ta) (hb : PE X b tb) (hc : PE X c tc)
    (hm : lastMarks [op, op'] [b, c] = false := by with_unfolding_all rfl) : PE X (.Compare a [op, op'] [b, c] pos) (tChain r r' ta tb tc) := by
  intro pins s σ H Q I h
  refine Compare_chain (thn (ha pins s σ H _ I h) fun v s1 ⟨x, H1, I1, r1, q1⟩ => chain_link (thn (hb pins s1 σ H1 _ I1 q1) fun u s2 ⟨y, H2, I2, r2, q2⟩ =>
    thn (ho pins s2 σ H2 x y v u _ I2 r1 r2 q2) fun d s3 ⟨z, H3, I3, r3, k, e, q3⟩ => ?_)) hm
  subst e
  cases r3
  refine wpAny_truthy_bool ?_
  cases k with
  | false => exact ite_ff ⟨.bl false, H3, I3, rfl, q3⟩
  | true => exact ite_tt (chain_last (thn (hc pins s3 σ H3 _ I3 q3) fun w' s4 ⟨z', H4, I4, r4, q4⟩ => ho' pins s4 σ H4 y z' u w' Q I4 r2 r4 q4))
theorem pt_chain {op op' : CmpOp} {r r' : R2} (ho : OpR X (compareOp op) r) (ho' : OpR X (compareOp op') r') (ha : PE X a ta) (hb : PE X b tb) (hc : PE X c tc)
    (hm : lastMarks [op, op'] [b, c] = false := by with_unfolding_all rfl) : PT X (.Compare a [op, op'] [b, c] pos) (tTest (tChain r r' ta tb tc)) := by
  intro pins s σ H Q I h
  refine isTrue_chain (thn (ha pins s σ H _ I h) fun v s1 ⟨x, H1, I1, r1, q1⟩ => test_link (thn (hb pins s1 σ H1 _ I1 q1) fun u s2 ⟨y, H2, I2, r2, q2⟩ =>
    thn (ho pins s2 σ H2 x y v u _ I2 r1 r2 q2) fun d s3 ⟨z, H3, I3, r3, k, e, q3⟩ => ?_)) hm
  subst e
  cases r3
  refine wpAny_truthy_bool ?_
  cases k with
  | false =>
    obtain ⟨k', e', q'⟩ := q3
    cases e'
    exact ite_ff ⟨H3, I3, q'⟩
  | true =>
    refine ite_tt (test_last (thn (hc pins s3 σ H3 _ I3 q3) fun w' s4 ⟨z', H4, I4, r4, q4⟩ => thn (ho' pins s4 σ H4 y z' u w' _ I4 r2 r4 q4) fun d' s5 ⟨z2, H5, I5, r5, k2, e2, q5⟩ => ?_))
    subst e2
    cases r5
    exact wpAny_truthy_bool ⟨H5, I5, q5⟩
theorem line63 : (sizeLine : Nat) < 2 ^ 63 := by rw [sizeLine_eq]; decide
theorem vals1 {x : V} {us : List Value} (r : Vals [x] us) : ∃ u, us = [u] ∧ RelV x u := by
  cases r with
  | cons r1 r2 => cases r2; exact ⟨_, rfl, r1⟩
theorem vals2 {x y : V} {us : List Value} (r : Vals [x, y] us) : ∃ u w', us = [u, w'] ∧ RelV x u ∧ RelV y w' := by
  cases r with
  | cons r1 r2 =>
    cases r2 with
    | cons r3 r4 => cases r4; exact ⟨_, _, rfl, r1, r3⟩
theorem call_min2 (hc : X.calm = true) : CallR X (.builtin "min") (fun xs H Q => ∃ i j, xs = [.int i, .int j] ∧ Q (.int (if j < i then j else i)) H) := by
  intro pins s σ H xs us Q I r h
  obtain ⟨i, j, rfl, q⟩ := h
  obtain ⟨u, w', rfl, ⟨t, rfl⟩, ⟨t', rfl⟩⟩ := vals2 r
  refine min_two_ints (I.ok.hd hc) fun h' tk k => ⟨_, H, I.kept k, ?_, q⟩
  by_cases hj : j < i
  · rw [if_pos hj, if_pos hj]; exact ⟨_, rfl⟩
  · rw [if_neg hj, if_neg hj]; exact ⟨_, rfl⟩
end
end L2
namespace L2
open PySem PySem.Spec PyProof.Rows
structure ObjM (h : Heap) (x dx C : Addr) (mA : Str → Option Value) : Prop where
  obj : h.get? x = some (PySem.W.instObj C dx)
  ns : h.Ns1 dx mA
  ne : dx ≠ x
theorem lookIn_ns {h : Heap} {dx : Addr} {mA : Str → Option Value} (n : h.Ns1 dx mA) : ∃ od, h.get? dx = some od ∧ ∀ name, PySem.W.lookIn name od = some (mA name) := by
  obtain ⟨o, es, ep, ho, hd, hk, _, hm⟩ := n
  refine ⟨o, ho, fun name => ?_⟩
  have e := hm name
  unfold nsFind findBy at e
  rw [← Array.find?_toList] at e
  unfold PySem.W.lookIn
  rw [hd]
  dsimp only
  split
  · rename_i y q
    rw [q] at e
    exact congrArg some e
  · rename_i q
    rw [q] at e
    have a : es.toList.any (·.refKey) = false := by
      rw [List.any_eq_false]
      intro y hy
      obtain ⟨z, t, hkey⟩ := hk y (Array.mem_toList_iff.mp hy)
      simp [DictEntry.refKey, hkey]
    have a' : ¬ es.toList.any (·.refKey) = true := by rw [a]; exact Bool.false_ne_true
    rw [if_neg a']
    exact congrArg some e
theorem ObjM.look {h : Heap} {x dx C : Addr} {mA : Str → Option Value} (I : ObjM h x dx C mA) : ∃ od, PySem.W.InstAt h x (PySem.W.instObj C dx) C (some od) ∧ ∀ name, PySem.W.lookIn name od = some (mA name) :=
  let ⟨od, ho, hl⟩ := lookIn_ns I.ns
  ⟨od, ⟨I.obj, rfl, rfl, ho⟩, hl⟩
section
variable {prog : Program} {w : World} {A : Around} {E : Value → Shared → Prop} {s : Shared} {K : PySem.W.Frag} {x dx C f : Addr} {mA : Str → Option Value} {name : Str} {v : Value}
theorem get_map {expr : Bool} {Q : Value → Shared → Prop} (X : K.In s.heap) (I : ObjM s.heap x dx C mA) (hg : PySem.W.plainGet K C name = true) (hh : PySem.W.hasDictIn K C = true)
    (ha : PySem.W.findIn K (.ref C) name = some none) (hv : mA name = some v) (hv' : PySem.W.handedIn v = true) (h : Q v { s with toks := s.toks + 1 }) :
    wpAny (model prog w) A (getAttr (.ref x) name expr) Q E s := by
  obtain ⟨od, J, hl⟩ := I.look
  exact PySem.W.get_value X J (PySem.W.plainGet_of hg).1 (PySem.W.findObj_own hh ha rfl (by rw [hl, hv])) hv' h
theorem get_meth {pl : Sem Bool} {Q : Value × List Value → Shared → Prop} (X : K.In s.heap) (I : ObjM s.heap x dx C mA) (hg : PySem.W.plainGet K C name = true)
    (hf : PySem.W.findIn K (.ref C) name = some (some (.ref f))) (ht : PySem.W.isFn K (.ref f) = true) (hv : mA name = none) (h : Q (.ref f, [.ref x]) s) :
    wpAny (model prog w) A (getMethod (.ref x) name pl) Q E s := by
  obtain ⟨od, J, hl⟩ := I.look
  exact PySem.W.method_fn X J (PySem.W.plainGet_of hg).1 (PySem.W.plainGet_of hg).2 hf (beq_iff_eq.mp ht) (by show (PySem.W.lookIn name od).map (·.isSome) = some false; rw [hl, hv]; rfl) h
theorem set_map {ns : List Str} {Q : Unit → Shared → Prop} (X : K.In s.heap) (I : ObjM s.heap x dx C mA)
    (hs : PySem.W.findIn K (.ref C) "__setattr__" = some (some (.builtin "object.__setattr__"))) (hp : PySem.W.plainOver K C = true) (ht : PySem.W.takerIn K C name = some none) (hh : PySem.W.hasDictIn K C = true)
    (hw : PySem.Within mA ns) (hsz : ns.length ≤ sizeLine)
    (h : ∀ h', ObjM h' x dx C (fun y => if y = name then some v else mA y) → Heap.SameBut dx s.heap h' → Q () { s with heap := h', toks := s.toks + 2 }) :
    wpAny (model prog w) A (setAttr (.ref x) name v) Q E s := by
  obtain ⟨od, J, hl⟩ := I.look
  refine PySem.W.set_plain X J hs (PySem.W.osa_open (s := { s with toks := s.toks + 1 }) (r := none) X J hp ht fun b => ?_)
  obtain ⟨cd, hc, hd'⟩ := PySem.W.any_some hh
  have hx : s.heap.get? x = some ⟨.ref C, some dx, .plain, #[]⟩ := I.obj
  refine wpAny_bind (wpAny_pure (wpAny_bind (wpAny_bind (wpAny_loadPart hx (wpAny_bind (PySem.W.Looks.here (s := { s with toks := s.toks + 1 }) (PySem.W.looks_clsIn X hc) ?_))))))
  rw [hd']
  refine wpAny_pure (a := some dx) (wpAny_bind (wpAny_pure (wpAny_bind ?_)))
  refine wpAny_nsSet1 (s := { s with toks := s.toks + 1 }) I.ns fun h' hn2 hs2 => ?_
  obtain ⟨oD, esD, epD, hoD, hdD, hcD⟩ := hn2.count (PySem.Within.cons name v hw)
  refine wpAny_bind (wpAny_lookBehind hoD (by rw [hdD]; exact pastItsLine_dict (Nat.le_trans hcD (by rw [List.length_cons]; omega))) ?_)
  exact wpAny_pure (h _ ⟨(hs2.2 _ (Ne.symm I.ne)).trans I.obj, hn2, I.ne⟩ hs2)
theorem make_map {R : Result → Shared → Prop} {vs : List Value} {kw : List (Str × Value)} (X : K.In s.heap) (hm : PySem.W.makesIn K C = true)
    (hi : PySem.W.findIn K (.ref C) "__init__" = some (some (.ref f))) (hf : PySem.W.typeIn K (.ref f) = some (.type "function"))
    (h : codeAny (model prog w) (A.under (.builtin "type.__call__" ⟨.ref C :: vs, kw⟩)) (.call (.ref f) ⟨.ref (s.heap.objs.size + 1) :: vs, kw⟩) (PySem.W.InitBack (s.heap.objs.size + 1) R)
      { s with heap := (s.heap.push PySem.W.emptyDict).push (PySem.W.instObj C s.heap.objs.size) }) :
    codeAny (model prog w) A (.call (.ref C) ⟨vs, kw⟩) R s := by
  obtain ⟨hh, g, d, t, os⟩ := s
  exact PySem.W.make_core (PySem.W.makes_of X hm) (PySem.W.looks_findIn X hi) (fun self => PySem.W.bind_fn X self hf) (.inl rfl) h
end
def putF (f : Str) (v : V) : List (Str × V) → List (Str × V)
  | [] => [(f, v)]
  | (g, x) :: r => if g = f then (g, v) :: r else (g, x) :: putF f v r
theorem lookup_putF (f g : Str) (v : V) : ∀ fs : List (Str × V), (putF f v fs).lookup g = if g = f then some v else fs.lookup g
  | [] => by
    show List.lookup g [(f, v)] = _
    by_cases h : g = f
    · have hb : (g == f) = true := beq_iff_eq.mpr h
      simp only [List.lookup, hb, if_pos h]
    · have hb : (g == f) = false := beq_eq_false_iff_ne.mpr h
      simp only [List.lookup, hb, if_neg h]
  | (k, x) :: r => by
    have ih := lookup_putF f g v r
    rw [show putF f v ((k, x) :: r) = (if k = f then (k, v) :: r else (k, x) :: putF f v r) from rfl]
    by_cases hk : k = f
    · rw [if_pos hk]
      by_cases h : g = k
      · have hb : (g == k) = true := beq_iff_eq.mpr h
        simp only [List.lookup, hb, if_pos (h.trans hk)]
      · have hb : (g == k) = false := beq_eq_false_iff_ne.mpr h
        simp only [List.lookup, hb, if_neg (fun e : g = f => h (e.trans hk.symm))]
    · rw [if_neg hk]
      by_cases h : g = k
      · have hb : (g == k) = true := beq_iff_eq.mpr h
        simp only [List.lookup, hb, if_neg (fun e : g = f => hk (h.symm.trans e))]
      · have hb : (g == k) = false := beq_eq_false_iff_ne.mpr h
        simp only [List.lookup, hb]
        exact ih
theorem keys_putF (f : Str) (v : V) : ∀ fs : List (Str × V), f ∈ (putF f v fs).map (·.1) ∧ ∀ g, g ∈ fs.map (·.1) → g ∈ (putF f v fs).map (·.1)
  | [] => ⟨by simp [putF], fun g h => by simp at h⟩
  | (k, x) :: r => by
    obtain ⟨i1, i2⟩ := keys_putF f v r
    rw [show putF f v ((k, x) :: r) = (if k = f then (k, v) :: r else (k, x) :: putF f v r) from rfl]
    by_cases hk : k = f
    · rw [if_pos hk]
      subst hk
      exact ⟨by simp, fun g h => by simpa using h⟩
    · rw [if_neg hk]
      refine ⟨?_, fun g h => ?_⟩
      · rw [List.map_cons]
        exact List.mem_cons_of_mem _ i1
      · rw [List.map_cons] at h ⊢
        rcases List.mem_cons.mp h with e | e
        · exact List.mem_cons.mpr (.inl e)
        · exact List.mem_cons_of_mem _ (i2 g e)
theorem length_putF (f : Str) (v : V) : ∀ fs : List (Str × V), (putF f v fs).length ≤ fs.length + 1
  | [] => by simp [putF]
  | (k, x) :: r => by
    have ih := length_putF f v r
    rw [show putF f v ((k, x) :: r) = (if k = f then (k, v) :: r else (k, x) :: putF f v r) from rfl]
    by_cases hk : k = f
    · rw [if_pos hk, List.length_cons, List.length_cons]; omega
    · rw [if_neg hk, List.length_cons, List.length_cons]; omega
theorem RelO.some_of {v : V} {o : Option Value} (r : RelO (some v) o) : ∃ u, o = some u ∧ RelV v u := by
  cases o with
  | none => exact (show False from r).elim
  | some u => exact ⟨u, rfl, r⟩
theorem RelO.none_of {o : Option Value} (r : RelO none o) : o = none := by
  cases o with
  | none => rfl
  | some u => exact (show False from r).elim
theorem handed_of {v : V} {u : Value} (r : RelV v u) : PySem.W.handedIn u = true := by
  cases v with
  | non => cases (show u = Value.none from r); rfl
  | bl b => cases (show u = Value.bool b from r); rfl
  | int i => obtain ⟨t, e⟩ := (show ∃ t, u = Value.int i t from r); cases e; rfl
  | str x => obtain ⟨t, e⟩ := (show ∃ t, u = Value.str x t from r); cases e; rfl
  | byt b => obtain ⟨t, e⟩ := (show ∃ t, u = Value.bytes b t from r); cases e; rfl
  | flt b => obtain ⟨t, e⟩ := (show ∃ t, u = Value.float b t from r); cases e; rfl
  | ref a => cases (show u = Value.ref a from r); rfl
  | ty n => cases (show u = Value.type n from r); rfl
section
variable {P : Program} {w : World} {H H' : Hp} {h h' : Heap} {a C dx : Addr} {fs fs' : List (Str × V)}
theorem ins_get (hok : HOk P w H h) (e : H a = some (.ins C dx fs)) : ∃ mA, ObjM h a dx C mA ∧ (∀ f, RelO (fs.lookup f) (mA f)) ∧ PySem.Within mA (fs.map (·.1)) ∧ fs.length ≤ 1000 ∧ H dx = some (.own a) := by
  obtain ⟨d, z, ne, ob, mA, n, r, q⟩ := (show ObjOk P w H h a (.ins C dx fs) from hok a _ e)
  exact ⟨mA, ⟨ob, n, ne⟩, r, q, z, d⟩
end
structure Cls (K : PySem.W.Frag) (C : Addr) : Prop where
  pg : PySem.W.plainGet K C Str.empty = true
  hd : PySem.W.hasDictIn K C = true
  po : PySem.W.plainOver K C = true
  sa : PySem.W.findIn K (.ref C) "__setattr__" = some (some (.builtin "object.__setattr__"))
theorem Cls.get {K : PySem.W.Frag} {C : Addr} (c : Cls K C) (f : Str) : PySem.W.plainGet K C f = true := c.pg
def NoAttr (K : PySem.W.Frag) (C : Addr) (f : Str) : Prop := PySem.W.findIn K (.ref C) f = some none
theorem NoAttr.taker {K : PySem.W.Frag} {C : Addr} {f : Str} (n : NoAttr K C f) : PySem.W.takerIn K C f = some none := by
  unfold PySem.W.takerIn
  rw [show PySem.W.findIn K (.ref C) f = some none from n]
  rfl
structure Con (K : PySem.W.Frag) (C : Addr) (f : Str) (v : V) (u : Value) : Prop where
  at_ : PySem.W.findIn K (.ref C) f = some (some u)
  rel : RelV v u
  get : PySem.W.specialIn K u "__get__" = some none
  cp : PySem.W.copiedNames.contains f = false
structure Meth (K : PySem.W.Frag) (C : Addr) (m : Str) (f : Addr) : Prop where
  at_ : PySem.W.findIn K (.ref C) m = some (some (.ref f))
  fn : PySem.W.isFn K (.ref f) = true
  kp : PySem.W.keepIn K (.ref f) = true
section
variable {X : Cx} {pins : List (Addr × Obj)} {σ : St} {H : Hp} {s : Shared} {a C dx : Addr} {fs : List (Str × V)} {f : Str} {v : V} {A : Around} {E : Value → Shared → Prop}
theorem getattr_ok {b : Bool} {Q : Value → Shared → Prop} (I : Inv X pins σ H s) (e : H a = some (.ins C dx fs)) (c : Cls X.K C) (n : NoAttr X.K C f) (l : fs.lookup f = some v)
    (h : ∀ u s', Inv X pins σ H s' → RelV v u → Q u s') : wpAny (model X.prog X.w) A (getAttr (.ref a) f b) Q E s := by
  obtain ⟨mA, O, r, _, _, _⟩ := ins_get I.hok e
  obtain ⟨u, hu, ru⟩ := RelO.some_of (v := v) (o := mA f) (by rw [← l]; exact r f)
  exact get_map I.kIn O (c.get f) c.hd n hu (handed_of ru) (h u _ (I.tok _) ru)
theorem getmeth_ok {m : Str} {g : Addr} {pl : Sem Bool} {Q : Value × List Value → Shared → Prop} (I : Inv X pins σ H s) (e : H a = some (.ins C dx fs)) (c : Cls X.K C) (k : Meth X.K C m g) (l : fs.lookup m = none)
    (h : Q (.ref g, [.ref a]) s) : wpAny (model X.prog X.w) A (getMethod (.ref a) m pl) Q E s := by
  obtain ⟨mA, O, r, _, _, _⟩ := ins_get I.hok e
  have hn : mA m = none := RelO.none_of (by rw [← l]; exact r m)
  exact get_meth I.kIn O (c.get m) k.at_ k.fn hn h
theorem setattr_ok {y : V} {u : Value} {Q : Unit → Shared → Prop} (I : Inv X pins σ H s) (e : H a = some (.ins C dx fs)) (c : Cls X.K C) (n : NoAttr X.K C f) (hl : fs.length < 1000) (ry : RelV y u)
    (h : ∀ s', Inv X pins σ (upd H a (.ins C dx (putF f y fs))) s' → Q () s') : wpAny (model X.prog X.w) A (setAttr (.ref a) f u) Q E s := by
  obtain ⟨mA, O, r, wi, _, ho⟩ := ins_get I.hok e
  have hz : (fs.map (·.1)).length ≤ sizeLine := by rw [List.length_map, sizeLine_eq]; omega
  refine set_map I.kIn O c.sa c.po n.taker c.hd wi hz fun h' O' sb => h _ ?_
  have hd : ∃ o, h'.get? dx = some o := let ⟨o, _, _, e', _⟩ := O'.ns; ⟨o, e'⟩
  refine I.write (x := a) (e := dx) (by rw [e]; exact True.intro) (.inr ho) (fun b q hb z => (sb.2 b hb).trans z) hd ?_
  refine ⟨by rw [upd_ne O.ne]; exact ho, ?_, O.ne, O'.obj, _, O'.ns, fun g => ?_, fun g hg => ?_⟩
  · have := length_putF f y fs; omega
  · show RelO ((putF f y fs).lookup g) (if g = f then some u else mA g)
    rw [lookup_putF]
    by_cases q : g = f
    · rw [if_pos q, if_pos q]; exact ry
    · rw [if_neg q, if_neg q]; exact r g
  · by_cases q : g = f
    · rw [q]; exact (keys_putF f y fs).1
    · refine (keys_putF f y fs).2 g (wi g fun z => hg ?_)
      show (if g = f then some u else mA g) = none
      rw [if_neg q]; exact z
theorem Inv.made (I : Inv X pins σ H s) : Inv X pins σ (upd (upd H s.heap.objs.size (.own (s.heap.objs.size + 1))) (s.heap.objs.size + 1) (.ins C s.heap.objs.size []))
    { s with heap := (s.heap.push PySem.W.emptyDict).push (PySem.W.instObj C s.heap.objs.size) } := by
  have e1 : (s.heap.push PySem.W.emptyDict).get? s.heap.objs.size = some PySem.W.emptyDict := Heap.get?_push_size s.heap rfl
  have e2 : ((s.heap.push PySem.W.emptyDict).push (PySem.W.instObj C s.heap.objs.size)).get? (s.heap.objs.size + 1) = some (PySem.W.instObj C s.heap.objs.size) := by
    have := Heap.get?_push_size (s.heap.push PySem.W.emptyDict) (o := PySem.W.instObj C s.heap.objs.size) rfl
    rwa [Heap.size_push] at this
  have e3 : (s.heap.push PySem.W.emptyDict).Ns s.heap.objs.size (fun _ => none) := ⟨PySem.W.emptyDict, #[], _, e1, rfl, (fun e he => absurd he (by simp)), fun _ => rfl⟩
  have I1 := I.laid (a := s.heap.objs.size) (o := .own (s.heap.objs.size + 1)) (h' := s.heap.push PySem.W.emptyDict) (t' := s.toks) (fun b u q => Heap.get?_push_of_some _ q) (Nat.le_refl _) ⟨_, e1⟩
  refine I1.laid (a := s.heap.objs.size + 1) (o := .ins C s.heap.objs.size []) (t' := s.toks) (fun b u q => Heap.get?_push_of_some _ q) (Nat.le_of_eq (Heap.size_push _ _)) ?_
  have ne : s.heap.objs.size ≠ s.heap.objs.size + 1 := Nat.ne_of_lt (Nat.lt_succ_self _)
  refine ⟨by rw [upd_ne ne, upd_same], Nat.zero_le _, ne, e2, fun _ => none, (Heap.Ns1.of_empty e3).at fun o q => Heap.get?_push_of_some _ q, fun _ => True.intro, fun y hy => absurd rfl hy⟩
theorem attr_of {prog : Program} {w : World} {env : Env} {e : Expr} {f : Str} {pos : Pos} {s : Shared} {Q : Value → Shared → Prop} (hb : attributeBase e f env (eval e env) = eval e env)
    (h : wpAny (model prog w) A (eval e env) (fun o s₁ => wpAny (model prog w) A (getAttr o f true) Q E s₁) E s) : wpAny (model prog w) A (eval (.Attribute e f pos) env) Q E s :=
  Attribute_any_ h (by rw [arm_eval_Attribute, hb])
end
def tFld (K : PySem.W.Frag) (ta : TE) (f : Str) : TE := fun σ H Q => ta σ H fun x H1 => ∃ a C dx fs v, x = .ref a ∧ H1 a = some (.ins C dx fs) ∧ Cls K C ∧ NoAttr K C f ∧ fs.lookup f = some v ∧ Q v H1
def sFld (K : PySem.W.Frag) (ta tv : TE) (f : Str) : TS := fun D σ H => tv σ H fun y H1 => ta σ H1 fun x H2 => ∃ a C dx fs, x = .ref a ∧ H2 a = some (.ins C dx fs) ∧ Cls K C ∧ NoAttr K C f ∧ fs.length < 1000 ∧
  D.nx σ (upd H2 a (.ins C dx (putF f y fs)))
section
variable {X : Cx} {o e value : Expr} {f : Str} {pos pos' tpos : Pos} {ta tv : TE}
theorem pe_fld (he : PE X e ta) (hb : attributeBase e f X.env (eval e X.env) = eval e X.env) : PE X (.Attribute e f pos) (tFld X.K ta f) := by
  intro pins s σ H Q I h
  refine attr_of hb (thn (he pins s σ H _ I h) fun u s1 ⟨x, H1, I1, rx, a, C, dx, fs, v, ex, ea, c, n, l, q⟩ => ?_)
  subst ex
  obtain rfl : u = Value.ref a := rx
  exact getattr_ok I1 ea c n l fun u' s2 I2 ru => ⟨v, H1, I2, ru, q⟩
theorem ps_fld (ha : PE X o ta) (hv : PE X value tv) (hs : swapsWith value (some (.Attribute o f pos')) pos.line X.env = pure false) : PS X (.Assign [.Attribute o f pos'] value pos) (sFld X.K ta tv f) := by
  intro pins s σ H D I h
  refine plainObj_wpAny_Assign_Attribute (thn (hv pins s σ H _ I h) fun u s1 ⟨y, H1, I1, ry, q⟩ => thn (ha pins s1 σ H1 _ I1 q) fun ov s2 ⟨x, H2, I2, rx, a, C, dx, fs, ex, ea, c, n, l, q2⟩ => ?_) hs
  subst ex
  obtain rfl : ov = Value.ref a := rx
  exact setattr_ok I2 ea c n l ry fun s3 I3 => ⟨σ, _, I3, q2⟩
end
section
variable {X : Cx} {pins : List (Addr × Obj)} {σ : St} {H : Hp} {s : Shared} {A : Around} {E : Value → Shared → Prop} {Q : Value → Shared → Prop} {c : Value} {b : Bool}
inductive TyOf (K : PySem.W.Frag) (H : Hp) : V → Value → Prop where
  | non : TyOf K H .non (.type "NoneType")
  | bl (x : Bool) : TyOf K H (.bl x) (.type "bool")
  | int (i : Int) : TyOf K H (.int i) (.type "int")
  | str (x : Str) : TyOf K H (.str x) (.type "str")
  | flt (x : UInt64) : TyOf K H (.flt x) (.type "float")
  | lst {a : Addr} {xs : List V} (e : H a = some (.lst xs)) : TyOf K H (.ref a) (.type "list")
  | frz {a : Addr} {o : Obj} {xs : List V} (e : H a = some (.frz o (.lst xs))) : TyOf K H (.ref a) (.type "list")
  | tup {a : Addr} {xs : List V} (e : H a = some (.tup xs)) : TyOf K H (.ref a) (.type "tuple")
  | dK {a : Addr} {kvs : List (Key × V)} (e : H a = some (.dK kvs)) : TyOf K H (.ref a) (.type "dict")
  | dT {a : Addr} {kvs : List (List Key × V)} (e : H a = some (.dT kvs)) : TyOf K H (.ref a) (.type "dict")
  | ins {a C dx : Addr} {fs : List (Str × V)} (e : H a = some (.ins C dx fs)) (cl : Cls K C) (ha : PySem.W.findIn K (.ref C) "__class__" = some (some (.builtin "object.__class__")))
      (hn : PySem.W.specialIn K (.builtin "object.__class__") "__get__" = some (some (.builtin "getset_descriptor.__get__"))) (htk : PySem.W.takesIn K (.builtin "object.__class__") = some true)
      (hm : PySem.W.mroIn K C (.type "object") = some true) : TyOf K H (.ref a) (.ref C)
theorem isinst_ok {x : V} {u t : Value} (I : Inv X pins σ H s) (rx : RelV x u) (ty : TyOf X.K H x t) (e : PySem.W.kitOne X.K t c = some b) (h : ∀ tk, Q (.bool b) { s with toks := tk }) :
    wpAny (model X.prog X.w) A (call (.builtin "isinstance") [u, c]) Q E s := by
  cases ty with
  | non => cases (show u = Value.none from rx); exact PySem.W.kia_one PySem.W.kitx_none I.kIn True.intro e (fun z => nomatch z) h
  | bl y => cases (show u = Value.bool y from rx); exact PySem.W.kia_one PySem.W.kitx_bool I.kIn True.intro e (fun z => nomatch z) h
  | int i => obtain ⟨t, q⟩ := (show ∃ t, u = Value.int i t from rx); cases q; exact PySem.W.kia_one PySem.W.kitx_int I.kIn True.intro e (fun z => nomatch z) h
  | str y => obtain ⟨t, q⟩ := (show ∃ t, u = Value.str y t from rx); cases q; exact PySem.W.kia_one PySem.W.kitx_str I.kIn True.intro e (fun z => nomatch z) h
  | flt y => obtain ⟨t, q⟩ := (show ∃ t, u = Value.float y t from rx); cases q; exact PySem.W.kia_one PySem.W.kitx_float I.kIn True.intro e (fun z => nomatch z) h
  | @lst a xs ea =>
    cases (show u = Value.ref a from rx)
    obtain ⟨_, _, n, _, h1⟩ := (show ObjOk X.prog X.w H s.heap a (.lst xs) from I.hok a _ ea)
    exact PySem.W.kia_one PySem.W.kitx_list I.kIn ⟨_, h1, rfl⟩ e (fun z => nomatch z) h
  | @frz a ob xs ea =>
    cases (show u = Value.ref a from rx)
    obtain ⟨_, _, _, n, _, h1⟩ := (show ObjOk X.prog X.w H s.heap a (.frz ob (.lst xs)) from I.hok a _ ea)
    exact PySem.W.kia_one PySem.W.kitx_list I.kIn ⟨_, h1, rfl⟩ e (fun z => nomatch z) h
  | @tup a xs ea =>
    cases (show u = Value.ref a from rx)
    obtain ⟨_, _, _, p⟩ := (show ObjOk X.prog X.w H s.heap a (.tup xs) from I.hok a _ ea)
    obtain ⟨o, h1, h2, _⟩ := p
    exact PySem.W.kia_one PySem.W.kitx_tuple I.kIn ⟨o, h1, h2⟩ e (fun z => nomatch z) h
  | @dK a kvs ea =>
    cases (show u = Value.ref a from rx)
    obtain ⟨_, _, vs, _, p⟩ := (show ObjOk X.prog X.w H s.heap a (.dK kvs) from I.hok a _ ea)
    obtain ⟨o, es, ep, h1, h2, _⟩ := p
    exact PySem.W.kia_one PySem.W.kitx_dict I.kIn ⟨o, h1, h2.1⟩ e (fun z => nomatch z) h
  | @dT a kvs ea =>
    cases (show u = Value.ref a from rx)
    obtain ⟨_, _, xs, _, o, es, ep, h1, h2, _⟩ := (show ObjOk X.prog X.w H s.heap a (.dT kvs) from I.hok a _ ea)
    exact PySem.W.kia_one PySem.W.kitx_dict I.kIn ⟨o, h1, h2.1⟩ e (fun z => nomatch z) h
  | @ins a C dx fs ea cl ha hn htk hm =>
    cases (show u = Value.ref a from rx)
    obtain ⟨mA, O, _⟩ := ins_get I.hok ea
    obtain ⟨od, J, _⟩ := O.look
    exact PySem.W.kia_one (PySem.W.kitx_own (cl.get _) cl.hd ha hn htk hm) I.kIn J e (fun z => nomatch z) h
end
end L2
namespace L2
open PySem PySem.Spec PyProof.Rows
structure Room (k : Nat) (A : Around) : Prop where
  hd : A.handled = none
  dp : A.depth + 3 * k + 5 < recursionLimit
  un : A.units + 16 * k + 200 < cLine
theorem Room.mono {j k : Nat} {A : Around} (r : Room k A) (h : j ≤ k) : Room j A := ⟨r.hd, by have := r.dp; omega, by have := r.un; omega⟩
theorem Room.deeper {k : Nat} {A : Around} (r : Room (k + 1) A) (env : Env) : Room k (A.deeper env) :=
  ⟨r.hd, by have := r.dp; show A.depth + 1 + 3 * k + 5 < _; omega, by have := r.un; show A.units + 3 + 16 * k + 200 < _; omega⟩
theorem Room.in1 {k : Nat} {A : Around} (r : Room (k + 1) A) : Room k A.in1 :=
  ⟨r.hd, by have := r.dp; show A.depth + 3 * k + 5 < _; omega, by have := r.un; show A.units + 1 + 16 * k + 200 < _; omega⟩
theorem make_depth {A : Around} {C : Addr} {us : List Value} {kw : List (Str × Value)} : (A.under (.builtin "type.__call__" ⟨.ref C :: us, kw⟩)).depth = A.depth + 1 := by
  first | rfl | simp [Around.under, Code.weight, Code.isCreation, Code.isGuard, Code.isCaller, Code.frames, Code.isFrame, guardIds]
theorem make_units {A : Around} {C : Addr} {us : List Value} {kw : List (Str × Value)} : (A.under (.builtin "type.__call__" ⟨.ref C :: us, kw⟩)).units = A.units + 1 := by
  first | rfl | simp [Around.under, Code.cUnits, Code.frames, Code.isFrame]
theorem Room.make {k : Nat} {A : Around} (r : Room (k + 1) A) (C : Addr) (us : List Value) (kw : List (Str × Value)) : Room k (A.under (.builtin "type.__call__" ⟨.ref C :: us, kw⟩)) :=
  ⟨r.hd, by have := r.dp; rw [make_depth]; omega, by have := r.un; rw [make_units]; omega⟩
theorem Room.depth {k : Nat} {A : Around} (r : Room k A) : A.depth < recursionLimit := by have := r.dp; omega
theorem Room.units {k : Nat} {A : Around} (r : Room k A) : A.units + 64 < cLine := by have := r.un; omega
def tNil : TA := fun _ H Q => Q [] H
def tCons (ta : TE) (tr : TA) : TA := fun σ H Q => ta σ H fun x H1 => tr σ H1 fun xs H2 => Q (x :: xs) H2
section
variable {X : Cx} {e : Expr} {es : List Expr} {te : TE} {t : TA} {pos : Pos}
theorem pa_nil : PA X [] tNil := fun _ _ _ _ H Q I h => Calls.spliced_nil ⟨[], H, I, .nil, h⟩
theorem pa_cons (ha : PE X e te) (hr : PA X es t) (hs : starEach (e :: es) X.env = (false, eval e X.env) :: starEach es X.env := by rfl) : PA X (e :: es) (tCons te t) := by
  intro pos pins s σ H Q I h
  rw [hs]
  show wpAny _ _ (spliced ((false, eval e X.env) :: backTo pos (starEach es X.env))) _ _ s
  refine Calls.spliced_cons (thn (ha pins s σ H _ I h) fun u s1 ⟨x, H1, I1, r1, q1⟩ => ?_)
  exact thn (hr pos pins s1 σ H1 _ I1 q1) fun us s2 ⟨xs, H2, I2, r2, q2⟩ => ⟨x :: xs, H2, I2, .cons r1 r2, q2⟩
end
abbrev Sp := List V → Hp → VK → XK → Prop
abbrev CXT := List Env → Hp → Shared → XK → Value → Shared → Prop
structure Env0 (P : Program) (w : World) (K : PySem.W.Frag) (mg : Str → Option Value) (base : Heap) (A : Around) (outer : List Env) (s : Shared) (H : Hp) : Prop where
  frames : A.frames = some outer
  mod : Mod K mg base
  bs : ∀ b o, base.get? b = some o → s.heap.get? b = some o ∧ H b = none
  bsz : base.objs.size ≤ s.heap.objs.size
  funs : s.heap.FunFrames base outer
  frf : ∀ b ∈ frs outer, H b = none
  hok : HOk P w H s.heap
  bare : AllBare s.gens
def CE (outer : List Env) (P : Program) (w : World) (H : Hp) (s : Shared) (Q : VK) (u : Value) (s' : Shared) : Prop :=
  ∃ v H', s'.os = s.os ∧ AllBare s'.gens ∧ Un (frs outer) [] H H' s.heap s'.heap ∧ HOk P w H' s'.heap ∧ RelV v u ∧ Q v H'
def CR (CX : CXT) (outer : List Env) (P : Program) (w : World) (H : Hp) (s : Shared) (Q : VK) (E : XK) (r : Result) (s' : Shared) : Prop :=
  match r with
  | .ok (.ret u) => CE outer P w H s Q u s'
  | .ok _ => False
  | .error e => CX outer H s E e s'
structure FnOk (P : Program) (w : World) (K : PySem.W.Frag) (mg : Str → Option Value) (base : Heap) (CX : CXT) (k : Nat) (f : Addr) (fd : FuncData) (ps : List Str) (sp : Sp) : Prop where
  len : ∀ vs H Q E, sp vs H Q E → vs.length = ps.length
  run : ∀ (A : Around) (outer : List Env) (s : Shared) (H : Hp) (args : Args) (us : List Value) (vs : List V) (Q : VK) (E : XK), Room k A → Env0 P w K mg base A outer s H → BindsTo s fd args (ps.zip us) → Vals vs us → sp vs H Q E →
    codeAny (model P w) A (.call (.ref f) args) (CR CX outer P w H s Q E) s
theorem FnOk.mono {P : Program} {w : World} {K : PySem.W.Frag} {mg : Str → Option Value} {base : Heap} {CX : CXT} {j k : Nat} {f : Addr} {fd : FuncData} {ps : List Str} {sp : Sp} (F : FnOk P w K mg base CX j f fd ps sp) (h : j ≤ k) :
    FnOk P w K mg base CX k f fd ps sp := ⟨F.len, fun A outer s H args us vs Q E hr => F.run A outer s H args us vs Q E (hr.mono h)⟩
theorem FnOk.imp {P : Program} {w : World} {K : PySem.W.Frag} {mg : Str → Option Value} {base : Heap} {CX : CXT} {k : Nat} {f : Addr} {fd : FuncData} {ps : List Str} {sp sp' : Sp} (F : FnOk P w K mg base CX k f fd ps sp)
    (h : ∀ vs H Q E, sp' vs H Q E → sp vs H Q E) : FnOk P w K mg base CX k f fd ps sp' :=
  ⟨fun vs H Q E q => F.len vs H Q E (h _ _ _ _ q), fun A outer s H args us vs Q E hr he hb hv hs => F.run A outer s H args us vs Q E hr he hb hv (h _ _ _ _ hs)⟩
theorem Env0.make {P : Program} {w : World} {K : PySem.W.Frag} {mg : Str → Option Value} {base : Heap} {A : Around} {outer : List Env} {s : Shared} {H : Hp} (e : Env0 P w K mg base A outer s H) (C : Addr) (us : List Value) (kw : List (Str × Value)) :
    Env0 P w K mg base (A.under (.builtin "type.__call__" ⟨.ref C :: us, kw⟩)) outer s H := ⟨by first | exact e.frames | (simpa [Around.under, Code.envs, Code.isFrame, pushEnvs] using e.frames), e.mod, e.bs, e.bsz, e.funs, e.frf, e.hok, e.bare⟩
theorem Env0.in1 {P : Program} {w : World} {K : PySem.W.Frag} {mg : Str → Option Value} {base : Heap} {A : Around} {outer : List Env} {s : Shared} {H : Hp} (e : Env0 P w K mg base A outer s H) :
    Env0 P w K mg base A.in1 outer s H := ⟨e.frames, e.mod, e.bs, e.bsz, e.funs, e.frf, e.hok, e.bare⟩
section
variable {X : Cx} {pins : List (Addr × Obj)} {σ : St} {H : Hp} {s s' : Shared}
theorem Inv.env0 (I : Inv X pins σ H s) : Env0 X.prog X.w X.K X.mg X.base X.A X.stack s H :=
  ⟨I.ok.frames, I.ok.mod, I.bs, Nat.le_trans I.ok.bsz I.sz, I.stack, I.stkFree, I.hok, I.bare⟩
theorem Inv.after {Q : VK} {u : Value} (I : Inv X pins σ H s) (h : CE X.stack X.prog X.w H s Q u s') : EP X pins σ Q u s' := by
  obtain ⟨v, H', os, bare, un, hok, r, q⟩ := h
  obtain ⟨hh, g, d, t, os'⟩ := s'
  obtain rfl : os' = s.os := os
  exact ⟨v, H', I.call (h' := hh) (g' := g) (d' := d) (t' := t) (ch := []) un hok bare (fun b z => absurd z (by simp)), r, q⟩
end
def tCall (sp : Sp) (dvs : List V) (E : XK) (t : TA) : TE := fun σ H Q => t σ H fun vs H1 => sp (vs ++ dvs) H1 Q E
def tMeth (C : Addr) (m : Str) (sp : Sp) (dvs : List V) (E : XK) (ta : TE) (t : TA) : TE := fun σ H Q => ta σ H fun x H1 => ∃ a dx fs, x = .ref a ∧ H1 a = some (.ins C dx fs) ∧ fs.lookup m = none ∧
  t σ H1 fun vs H2 => sp (x :: (vs ++ dvs)) H2 Q E
def tMake (C : Addr) (sp : Sp) (dvs : List V) (E : XK) (t : TA) : TE := fun σ H Q => t σ H fun vs H1 => ∀ x dx, H1 x = none → H1 dx = none → dx ≠ x →
  sp (.ref x :: (vs ++ dvs)) (upd (upd H1 dx (.own x)) x (.ins C dx [])) (fun v H2 => v = .non ∧ Q (.ref x) H2) E
def Binds (K : PySem.W.Frag) (fd : FuncData) (ps : List Str) (ds : List Value) : Prop :=
  ∀ (s : Shared) (us : List Value), K.In s.heap → (us ++ ds).length = ps.length → BindsTo s fd ⟨us, []⟩ (ps.zip (us ++ ds))
theorem Binds.all {K : PySem.W.Frag} {fd : FuncData} {ps : List Str} (h : ∀ us : List Value, us.length = ps.length → bindArgs fd ⟨us, []⟩ = pure (ps.zip us)) : Binds K fd ps [] := fun s us _ hl => by
  rw [List.append_nil] at hl ⊢
  exact .of_eq (h us hl)
def Passes (CX : CXT) (X : Cx) (E : XK) : Prop := ∀ (pins : List (Addr × Obj)) (σ : St) (H : Hp) (s : Shared) (e : Value) (s' : Shared), Inv X pins σ H s → CX X.stack H s E e s' → X.xe e s'
section
variable {X : Cx} {CX : CXT} {k : Nat} {f C : Addr} {fd : FuncData} {ps : List Str} {sp : Sp} {dvs : List V} {ds : List Value} {E : XK} {x m : Str} {p pos apos : Pos} {e o : Expr} {es : List Expr} {ta : TE} {t : TA}
theorem run_fn {pins : List (Addr × Obj)} {σ : St} {H : Hp} {s : Shared} {Q : VK} {us : List Value} {vs : List V} (F : FnOk X.prog X.w X.K X.mg X.base CX k f fd ps sp) (hr : Room k X.A) (hb : Binds X.K fd ps ds) (hd : Vals dvs ds) (hx : Passes CX X E)
    (I : Inv X pins σ H s) (r : Vals vs us) (h : sp (vs ++ dvs) H Q E) : wpAny (model X.prog X.w) X.A (call (.ref f) us) (EP X pins σ Q) X.xe s := by
  have r2 : Vals (vs ++ dvs) (us ++ ds) := r.append hd
  have hl : (us ++ ds).length = ps.length := by rw [← r2.length]; exact F.len _ _ _ _ h
  refine wpAny_call (codeAny_mono (F.run X.A X.stack s H ⟨us, []⟩ (us ++ ds) (vs ++ dvs) Q E hr I.env0 (hb s us I.kIn hl) r2 h) fun r s' hq => ?_)
  cases r with
  | error e => exact hx pins σ H s e s' I hq
  | ok fl =>
    cases fl with
    | ret u => exact I.after hq
    | next => exact False.elim hq
    | brk => exact False.elim hq
    | cont => exact False.elim hq
theorem pe_call (F : FnOk X.prog X.w X.K X.mg X.base CX k f fd ps sp) (hr : Room k X.A) (hg : Gl X x) (hm : X.mg x = some (.ref f)) (hk : PySem.W.keepIn X.K (.ref f) = true) (hb : Binds X.K fd ps ds) (hd : Vals dvs ds) (hx : Passes CX X E)
    (ha : PA X (e :: es) t) (hdb : (x == ("__debug__" : Str)) = false := by decide) (he : starEach (e :: es) X.env = (false, eval e X.env) :: starEach es X.env := by rfl) (hpl : (backTo pos (starEach es X.env)).any (·.1) = false := by rfl) :
    PE X (.Call (.Name x p) (e :: es) [] pos) (tCall sp dvs E t) := by
  intro pins s σ H Q I h
  refine wpAny_Call_Name_kw (ld_glob I hg hm ?_ hdb)
  refine PySem.W.callWith_K (h₀ := X.base) I.ok.mod.kin hk (thn (ha pos pins s σ H _ I h) fun us s1 ⟨vs, H1, I1, r, q⟩ => ⟨I1.kIn, ?_⟩) he hpl
  exact run_fn F hr hb hd hx I1 r q
theorem pe_meth {pl : Sem Bool} (he : PE X o ta) (c : Cls X.K C) (hm : Meth X.K C m f) (F : FnOk X.prog X.w X.K X.mg X.base CX k f fd ps sp) (hr : Room k X.A) (hb : Binds X.K fd ps ds) (hd : Vals dvs ds) (hx : Passes CX X E) (ha : PA X (e :: es) t)
    (hst : starEach (e :: es) X.env = (false, eval e X.env) :: starEach es X.env := by rfl) (hpl : (backTo pos (starEach es X.env)).any (·.1) = false := by rfl)
    (ht : eval (.Call (.Attribute o m apos) (e :: es) [] pos) X.env = (do
      let ov ← eval o X.env
      standAt apos.atName
      let (f, first) ← holding [ov] (getMethod ov m pl)
      callWith pos f first (backTo pos (starEach (e :: es) X.env)) (backToKw pos (keywordEach [] X.env))) := by rfl) :
    PE X (.Call (.Attribute o m apos) (e :: es) [] pos) (tMeth C m sp dvs E ta t) := by
  intro pins s σ H Q I h
  refine PySem.W.methodCall_KW (pl := pl) (thn (he pins s σ H _ I h) fun u s1 ⟨x, H1, I1, rx, a, dx, fs, ex, ea, l, q⟩ => ?_) ht
  subst ex
  obtain rfl : u = Value.ref a := rx
  refine getmeth_ok I1 ea c hm l ?_
  refine PySem.W.callWith_K (first := [.ref a]) (h₀ := X.base) I.ok.mod.kin hm.kp (thn (ha pos pins s1 σ H1 _ I1 q) fun us s2 ⟨vs, H2, I2, r, q2⟩ => ⟨I2.kIn, ?_⟩) hst hpl
  exact run_fn (us := .ref a :: us) (vs := .ref a :: vs) F hr hb hd hx I2 (.cons rfl r) q2
theorem pe_meth0 {pl : Sem Bool} (he : PE X o ta) (c : Cls X.K C) (hm : Meth X.K C m f) (F : FnOk X.prog X.w X.K X.mg X.base CX k f fd ps sp) (hr : Room k X.A) (hb : Binds X.K fd ps ds) (hd : Vals dvs ds) (hx : Passes CX X E)
    (ht : eval (.Call (.Attribute o m apos) [] [] pos) X.env = (do
      let ov ← eval o X.env
      standAt apos.atName
      let (f, first) ← holding [ov] (getMethod ov m pl)
      callWith pos f first (backTo pos (starEach [] X.env)) (backToKw pos (keywordEach [] X.env))) := by rfl) :
    PE X (.Call (.Attribute o m apos) [] [] pos) (tMeth C m sp dvs E ta tNil) := by
  intro pins s σ H Q I h
  refine PySem.W.methodCall_KW (pl := pl) (thn (he pins s σ H _ I h) fun u s1 ⟨x, H1, I1, rx, a, dx, fs, ex, ea, l, q⟩ => ?_) ht
  subst ex
  obtain rfl : u = Value.ref a := rx
  refine getmeth_ok I1 ea c hm l ?_
  exact PySem.W.callWith_K0 (first := [.ref a]) I1.kIn hm.kp (run_fn (us := [.ref a]) (vs := [.ref a]) F hr hb hd hx I1 (.cons rfl .nil) q)
structure Mk (K : PySem.W.Frag) (C f : Addr) : Prop where
  makes : PySem.W.makesIn K C = true
  init : PySem.W.findIn K (.ref C) "__init__" = some (some (.ref f))
  fn : PySem.W.isFn K (.ref f) = true
  kp : PySem.W.keepIn K (.ref C) = true
theorem run_make {pins : List (Addr × Obj)} {σ : St} {H : Hp} {s : Shared} {Q : VK} {us : List Value} {vs : List V} (M : Mk X.K C f) (F : FnOk X.prog X.w X.K X.mg X.base CX k f fd ps sp) (hr : Room (k + 1) X.A) (hb : Binds X.K fd ps ds) (hd : Vals dvs ds)
    (hx : Passes CX X E) (I : Inv X pins σ H s) (r : Vals vs us)
    (h : ∀ x dx, H x = none → H dx = none → dx ≠ x → sp (.ref x :: (vs ++ dvs)) (upd (upd H dx (.own x)) x (.ins C dx [])) (fun v H2 => v = .non ∧ Q (.ref x) H2) E) :
    wpAny (model X.prog X.w) X.A (call (.ref C) us) (EP X pins σ Q) X.xe s := by
  have hq := h (s.heap.objs.size + 1) s.heap.objs.size (I.hok.fresh (Nat.le_succ _)) (I.hok.fresh (Nat.le_refl _)) (Nat.ne_of_lt (Nat.lt_succ_self _))
  have I2 := Inv.made (C := C) I
  have r2 : Vals (V.ref (s.heap.objs.size + 1) :: (vs ++ dvs)) (Value.ref (s.heap.objs.size + 1) :: (us ++ ds)) := .cons rfl (r.append hd)
  have hl : (Value.ref (s.heap.objs.size + 1) :: us ++ ds).length = ps.length := by
    have e := r2.length
    rw [F.len _ _ _ _ hq] at e
    exact e.symm
  refine wpAny_call (make_map (f := f) I.kIn M.makes M.init (beq_iff_eq.mp M.fn) (codeAny_mono (F.run _ X.stack _ _ ⟨Value.ref (s.heap.objs.size + 1) :: us, []⟩ (Value.ref (s.heap.objs.size + 1) :: (us ++ ds)) _ _ E (hr.make C us [])
    (I2.env0.make C us []) (hb _ (Value.ref (s.heap.objs.size + 1) :: us) I2.kIn hl) r2 hq) fun r s' hq' => ?_))
  cases r with
  | error e => exact hx pins σ _ _ e s' I2 hq'
  | ok fl =>
    cases fl with
    | ret u =>
      obtain ⟨v, H', I3, rv, ev, q3⟩ := I2.after hq'
      subst ev
      exact ⟨rv, ⟨V.ref (s.heap.objs.size + 1), H', I3, rfl, q3⟩⟩
    | next => exact False.elim hq'
    | brk => exact False.elim hq'
    | cont => exact False.elim hq'
theorem pe_make (M : Mk X.K C f) (F : FnOk X.prog X.w X.K X.mg X.base CX k f fd ps sp) (hr : Room (k + 1) X.A) (hg : Gl X x) (hm : X.mg x = some (.ref C)) (hb : Binds X.K fd ps ds) (hd : Vals dvs ds) (hx : Passes CX X E)
    (ha : PA X (e :: es) t) (hdb : (x == ("__debug__" : Str)) = false := by decide) (he : starEach (e :: es) X.env = (false, eval e X.env) :: starEach es X.env := by rfl) (hpl : (backTo pos (starEach es X.env)).any (·.1) = false := by rfl) :
    PE X (.Call (.Name x p) (e :: es) [] pos) (tMake C sp dvs E t) := by
  intro pins s σ H Q I h
  refine wpAny_Call_Name_kw (ld_glob I hg hm ?_ hdb)
  refine PySem.W.callWith_K (h₀ := X.base) I.ok.mod.kin M.kp (thn (ha pos pins s σ H _ I h) fun us s1 ⟨vs, H1, I1, r, q⟩ => ⟨I1.kIn, ?_⟩) he hpl
  exact run_make M F hr hb hd hx I1 r q
end
def PK (X : Cx) (kws : List Keyword) (t : TA) : Prop :=
  ∀ (pos : Pos) (pins : List (Addr × Obj)) (s : Shared) (σ : St) (H : Hp) (Q : List V → Hp → Prop), Inv X pins σ H s → t σ H Q → wpAny (model X.prog X.w) X.A (evalAll ((backToKw pos (keywordEach kws X.env)).map (·.2))) (AP X pins σ Q) X.xe s
section
variable {X : Cx} {CX : CXT} {k : Nat} {f C : Addr} {fd : FuncData} {ps ks : List Str} {sp : Sp} {E : XK} {x m : Str} {p pos apos kpos : Pos} {e o : Expr} {es : List Expr} {kws : List Keyword} {te ta : TE} {t tk : TA} {nm : Option Str}
theorem pk_nil : PK X [] tNil := fun _ _ _ _ H Q I h => wpAny_evalAll_nil ⟨[], H, I, .nil, h⟩
theorem pk_cons (ha : PE X e te) (hr : PK X kws t) : PK X (⟨nm, e, kpos⟩ :: kws) (tCons te t) := by
  intro pos pins s σ H Q I h
  show wpAny _ _ (evalAll ((do let v ← eval e X.env; standAt pos; pure v) :: (backToKw pos (keywordEach kws X.env)).map (·.2))) _ _ s
  refine wpAny_evalAll_cons (wpAny_bind (thn (ha pins s σ H _ I h) fun u s1 ⟨x, H1, I1, r1, q1⟩ => wpAny_bind (wpAny_standAt (wpAny_pure ?_))))
  exact thn (hr pos pins s1 σ H1 _ I1 q1) fun us s2 ⟨xs, H2, I2, r2, q2⟩ => ⟨x :: xs, H2, I2, .cons r1 r2, q2⟩
structure KBinds (K : PySem.W.Frag) (fd : FuncData) (ps ks : List Str) (g : List Value → List Value → List Value) (gV : List V → List V → List V) : Prop where
  to : ∀ (s : Shared) (us ws : List Value), K.In s.heap → (g us ws).length = ps.length → BindsTo s fd ⟨us, ks.zip ws⟩ (ps.zip (g us ws))
  rel : ∀ {vs : List V} {us : List Value} {zs : List V} {ws : List Value}, Vals vs us → Vals zs ws → Vals (gV vs zs) (g us ws)
variable {g : List Value → List Value → List Value} {gV : List V → List V → List V}
end
structure FnScope (N P : List Str) (sc : Scope) : Prop where
  kind : sc.kind = .function
  co : sc.isCoroutine = false
  gen : sc.isGenerator = false
  nd : N.Nodup
  pre : N.take P.length = P
  par : ∀ x ∈ P, sc.names.lookup x = some .local ∨ sc.names.lookup x = some .cell
  nofree : ∀ y ∈ sc.names, y.2 ≠ .free
theorem bindL_out {kindOf : Str → Option NameKind} {x : Str} : ∀ {binds : List (Str × Value)} {m : Str → Option Value}, (∀ v, (x, v) ∉ binds) → bindL kindOf binds m x = m x
  | [], _, _ => rfl
  | (n, v) :: r, m, h => by
    unfold bindL
    rw [bindL_out fun w hw => h w (List.mem_cons_of_mem _ hw)]
    split
    · have : x ≠ n := by rintro rfl; exact h v List.mem_cons_self
      simp [this]
    · rfl
theorem bindC_out {kindOf : Str → Option NameKind} {x : Str} : ∀ {binds : List (Str × Value)} {m : Str → Option Value}, (∀ v, (x, v) ∉ binds) → bindC kindOf binds m x = m x
  | [], _, _ => rfl
  | (n, v) :: r, m, h => by
    unfold bindC
    rw [bindC_out fun w hw => h w (List.mem_cons_of_mem _ hw)]
    split
    · rfl
    · have : x ≠ n := by rintro rfl; exact h v List.mem_cons_self
      simp [this]
theorem bindL_get {kindOf : Str → Option NameKind} {x : Str} {v : Value} : ∀ {P : List Str} {vs : List Value} {i : Nat} {m : Str → Option Value}, P.Nodup → P[i]? = some x → vs[i]? = some v → kindOf x = some .local →
    bindL kindOf (P.zip vs) m x = some v
  | [], _, _, _, _, h, _, _ => by simp at h
  | _ :: _, [], _, _, _, _, h, _ => by simp at h
  | p :: P, w :: vs, 0, m, nd, h1, h2, hk => by
    simp at h1 h2; subst h1; subst h2
    show bindL kindOf ((p, w) :: P.zip vs) m p = _
    unfold bindL
    rw [bindL_out fun v hv => (List.nodup_cons.mp nd).1 (List.of_mem_zip hv).1, if_pos hk]
    simp
  | p :: P, w :: vs, i + 1, m, nd, h1, h2, hk => by
    show bindL kindOf ((p, w) :: P.zip vs) m x = _
    unfold bindL
    exact bindL_get (i := i) (List.nodup_cons.mp nd).2 (by simpa using h1) (by simpa using h2) hk
theorem bindC_get {kindOf : Str → Option NameKind} {x : Str} {v : Value} : ∀ {P : List Str} {vs : List Value} {i : Nat} {m : Str → Option Value}, P.Nodup → P[i]? = some x → vs[i]? = some v → kindOf x ≠ some .local →
    bindC kindOf (P.zip vs) m x = some v
  | [], _, _, _, _, h, _, _ => by simp at h
  | _ :: _, [], _, _, _, _, h, _ => by simp at h
  | p :: P, w :: vs, 0, m, nd, h1, h2, hk => by
    simp at h1 h2; subst h1; subst h2
    show bindC kindOf ((p, w) :: P.zip vs) m p = _
    unfold bindC
    rw [bindC_out fun v hv => (List.nodup_cons.mp nd).1 (List.of_mem_zip hv).1, if_neg hk]
    simp
  | p :: P, w :: vs, i + 1, m, nd, h1, h2, hk => by
    show bindC kindOf ((p, w) :: P.zip vs) m x = _
    unfold bindC
    exact bindC_get (i := i) (List.nodup_cons.mp nd).2 (by simpa using h1) (by simpa using h2) hk
def start (N : List Str) (vs : List V) : St := vs.map some ++ List.replicate (N.length - vs.length) none
def cxOf (CX : CXT) (P : Program) (w : World) (K : PySem.W.Frag) (mg : Str → Option Value) (base : Heap) (N : List Str) (qual : Str) (scope : Scope) (f : Addr) (cd : Value) (A : Around) (outer : List Env) (s : Shared) (H : Hp) (E : XK) : Cx where
  prog := P
  w := w
  K := K
  mg := mg
  base := base
  A := A.deeper (envOfC qual scope s.heap.objs.size f cd)
  N := N
  s₀ := s
  H₀ := H
  env := envOfC qual scope s.heap.objs.size f cd
  outer := outer
  stack := envOfC qual scope s.heap.objs.size f cd :: outer
  ex := []
  calm := true
  fn := fun _ => true
  pn := []
  xe := fun e s' => wpAny (model P w) (A.deeper (envOfC qual scope s.heap.objs.size f cd)) (leaving (envOfC qual scope s.heap.objs.size f cd) e) (fun _ s'' => CX outer H s E e s'') (fun e' s'' => CX outer H s E e' s'') s'
theorem cell_has {sc : Scope} {n : Nat} {x : Str} (h : sc.names.lookup x = some .cell) : ∃ c, (cellsFrom n sc.names []).lookup x = some c := by
  have q := PySem.W.cellsFrom_some sc.names n [] (.inl h)
  exact Option.isSome_iff_exists.mp q
theorem inv_start {CX : CXT} {P : Program} {w : World} {K : PySem.W.Frag} {mg : Str → Option Value} {base : Heap} {N ps : List Str} {qual : Str} {scope : Scope} {f : Addr} {cd : Value} {A : Around} {outer : List Env} {s s1 : Shared} {H : Hp} {E : XK} {us : List Value} {vs : List V}
    (S : FnScope N ps scope) (hd : A.handled = none) (e0 : Env0 P w K mg base A outer s H) (hl : vs.length = ps.length) (r : Vals vs us)
    (x : InCallC s s.heap.objs.size (bindL (envOfC qual scope s.heap.objs.size f cd).kindOf (ps.zip us) fun _ => none) (cellsFrom (s.heap.objs.size + 1) scope.names []) (bindC (envOfC qual scope s.heap.objs.size f cd).kindOf (ps.zip us) fun _ => none) s1) :
    Inv (cxOf CX P w K mg base N qual scope f cd A outer s H E) [] (start N vs) H s1 := by
  have hpl : ps.length ≤ N.length := by have := congrArg List.length S.pre; rw [List.length_take] at this; omega
  obtain ⟨h1, tk, rfl, hk⟩ := x.done
  have noA : ∀ b : Addr, b ∉ (cxOf CX P w K mg base N qual scope f cd A outer s H E).ex := fun b z => absurd (show b ∈ ([] : List Addr) from z) (by simp)
  refine ⟨⟨e0.mod, S.kind, rfl, rfl, Nat.le_refl _, fun y z c h1 h2 => ?_, fun y hy => ?_, fun y c _ h => ?_, fun _ => hd, Around.frames_deeper e0.frames, .inr ⟨rfl, rfl⟩, fun b z => absurd z (noA b), e0.bs, e0.bsz, fun b _ _ => noA b, fun b z => absurd z (noA b), e0.funs, e0.frf⟩,
    rfl, e0.bare, Un.kept hk, ⟨_, x.toInCall.ns, fun i y v h1 h2 h3 => ?_⟩, fun y c h => ⟨_, x.cell y c h⟩, e0.hok.fresh (Nat.le_refl _), fun y c h => ?_, fun p hp => absurd (show p ∈ ([] : List (Addr × Obj)) from hp) (by simp), e0.hok.kept hk, ?_⟩
  · exact name_of_addr x.apart (PySem.mem_of_lookup h1) (PySem.mem_of_lookup h2)
  · have hy : scope.names.lookup y = some .cell ∨ scope.names.lookup y = some .free := hy
    rcases hy with hy | hy
    · exact cell_has hy
    · exact absurd rfl (S.nofree _ (PySem.mem_of_lookup hy))
  · exact Nat.le_of_lt (x.above y c (PySem.mem_of_lookup h))
  · have hi : i < vs.length := by
      unfold start at h2
      by_cases hi : i < vs.length
      · exact hi
      · rw [List.getElem?_append_right (by simpa using hi)] at h2
        rw [List.getElem?_replicate] at h2
        split at h2 <;> cases h2
    have ha : vs[i]? = some v := by
      unfold start at h2
      rw [List.getElem?_append_left (by simpa using hi), List.getElem?_map] at h2
      cases e : vs[i]? with
      | none => rw [e] at h2; cases h2
      | some a => rw [e] at h2; cases h2; rfl
    obtain ⟨u, hu, rv⟩ := r.get ha
    have hp : ps[i]? = some y := by
      rw [← S.pre, List.getElem?_take_of_lt (by omega)]; exact h1
    have ndP : ps.Nodup := by rw [← S.pre]; exact S.nd.sublist (List.take_sublist _ _)
    refine ⟨u, rv, ?_⟩
    rcases S.par y (List.mem_of_getElem? hp) with k | k
    · exact .inl ⟨k, bindL_get ndP hp hu k⟩
    · obtain ⟨c, e⟩ := cell_has (n := s.heap.objs.size + 1) k
      refine .inr ⟨.inl k, c, e, ?_⟩
      have q := x.cell y c e
      rw [bindC_get ndP hp hu (by show scope.names.lookup y ≠ _; rw [k]; decide)] at q
      exact q
  · exact e0.hok.fresh (Nat.le_of_lt (x.above y c (PySem.mem_of_lookup h)))
  · unfold start
    show _ = N.length
    rw [List.length_append, List.length_map, List.length_replicate]
    omega
theorem fn_of {CX : CXT} {P : Program} {w : World} {K : PySem.W.Frag} {mg : Str → Option Value} {base : Heap} {k : Nat} {f : Addr} {name qual : Str} {params : Arguments} {body : List Stmt} {scope : Scope} {dV kV doc pm cdv ct oc : Value} {an od : Option Addr}
    {osl : Array (Option Value)} {N ps : List Str} {sp : Sp} (lk : K.lookup f = some ⟨oc, od, .func (PySem.W.fnOf name qual params body scope dV kV doc pm an cdv ct), osl⟩) (hcd : PySem.W.codeIn K cdv qual = true) (S : FnScope N ps scope)
    (len : ∀ vs H Q E, sp vs H Q E → vs.length = ps.length)
    (hbody : ∀ (A : Around) (outer : List Env) (s : Shared) (H : Hp) (vs : List V) (Q : VK) (E : XK), Room k (A.deeper (envOfC qual scope s.heap.objs.size f cdv)) → sp vs H Q E →
      ∃ t, PSs (cxOf CX P w K mg base N qual scope f cdv A outer s H E) body t ∧ t { nx := fun _ H' => Q .non H', rt := Q } (start N vs) H) :
    FnOk P w K mg base CX (k + 1) f (PySem.W.fnOf name qual params body scope dV kV doc pm an cdv ct) ps sp := by
  refine ⟨len, fun A outer s H args us vs Q E hr e0 hb r hsp => ?_⟩
  have hl := len _ _ _ _ hsp
  have KX : K.In s.heap := e0.mod.kin.keeps fun b o e => (e0.bs b o e).1
  have lim : s.heap.NoLimit := e0.mod.nolimit.keeps fun b o e => (e0.bs b o e).1
  have hkind : ∀ y ∈ ps.zip us, scope.names.lookup y.1 = some .local ∨ (scope.names.lookup y.1 = some .cell ∧ ((cellsFrom (s.heap.objs.size + 1) scope.names []).lookup y.1).isSome = true) := fun ⟨n, v⟩ hy => by
    rcases S.par n (List.of_mem_zip hy).1 with q | q
    · exact .inl q
    · exact .inr ⟨q, PySem.W.cellsFrom_some _ _ _ (.inl q)⟩
  refine codeAny_call_function hr.depth (KX _ _ lk) rfl S.co S.gen rfl (PySem.W.codeRec_of KX hcd) (hb _ _ _ _ ?_)
  refine wpAny_newFunctionEnv_cells S.kind hkind fun env he s1 x => ?_
  subst he
  refine ⟨lim.keeps x.toInCall.keep, codeAny_func ?_⟩
  obtain ⟨t, ht, hq⟩ := hbody A outer s H vs Q E (hr.deeper _) hsp
  have I : Inv (cxOf CX P w K mg base N qual scope f cdv A outer s H E) [] (start N vs) H s1 := inv_start S hr.hd e0 hl r x
  refine wpAny_mono (ht [] s1 (start N vs) H _ I hq) (fun fl s' hs => ?_) fun e s' hs => hs
  have fin : ∀ {σ' : St} {H' : Hp} {v : V} {u : Value}, Inv (cxOf CX P w K mg base N qual scope f cdv A outer s H E) [] σ' H' s' → RelV v u → Q v H' → CE outer P w H s Q u s' :=
    fun {σ' H' v u} J rv q => ⟨v, H', J.os, J.bare, J.base, J.hok, rv, q⟩
  cases fl with
  | ret u =>
    obtain ⟨v, σ', H', J, rv, q⟩ := hs
    exact fin J rv q
  | next =>
    obtain ⟨σ', H', J, q⟩ := hs
    exact fin (v := V.non) (u := Value.none) J rfl q
  | brk =>
    obtain ⟨_, _, _, q⟩ := hs
    exact False.elim q
  | cont =>
    obtain ⟨_, _, _, q⟩ := hs
    exact False.elim q
end L2
namespace L2
open PySem PySem.Spec PyProof.Rows
section
variable {X : Cx} {x : Str} {p pos : Pos} {e : Expr} {es : List Expr} {t : TA} {id T : String} {r : List V → Hp → VK → Prop}
def tCB (r : List V → Hp → VK → Prop) (t : TA) : TE := fun σ H Q => t σ H fun vs H1 => r vs H1 Q
theorem pe_callB (hc : CallR X (.builtin id) r) (hg : Gl X x) (hm : X.mg x = none) (hv : bootBuiltins x = some (.builtin id)) (ha : PA X (e :: es) t) (hn : x ≠ "__name__" := by decide) (hdb : (x == ("__debug__" : Str)) = false := by decide)
    (he : starEach (e :: es) X.env = (false, eval e X.env) :: starEach es X.env := by rfl) (hpl : (backTo pos (starEach es X.env)).any (·.1) = false := by rfl) : PE X (.Call (.Name x p) (e :: es) [] pos) (tCB r t) := by
  intro pins s σ H Q I h
  refine wpAny_Call_Name_kw (ld_blt I hg hm hv ?_ hn hdb)
  exact PyProof.Rows.callWith_builtin1 (thn (ha pos pins s σ H _ I h) fun us s1 ⟨vs, H1, I1, r1, q1⟩ => hc pins s1 σ H1 vs us Q I1 r1 q1) he hpl
theorem pe_callTy (hc : CallR X (.type T) r) (hg : Gl X x) (hm : X.mg x = none) (hv : bootBuiltins x = some (.type T)) (ha : PA X (e :: es) t) (hn : x ≠ "__name__" := by decide) (hdb : (x == ("__debug__" : Str)) = false := by decide)
    (he : starEach (e :: es) X.env = (false, eval e X.env) :: starEach es X.env := by rfl) (hpl : (backTo pos (starEach es X.env)).any (·.1) = false := by rfl) : PE X (.Call (.Name x p) (e :: es) [] pos) (tCB r t) := by
  intro pins s σ H Q I h
  refine wpAny_Call_Name_kw (ld_blt I hg hm hv ?_ hn hdb)
  exact PyProof.Rows.callWith_type1 (thn (ha pos pins s σ H _ I h) fun us s1 ⟨vs, H1, I1, r1, q1⟩ => hc pins s1 σ H1 vs us Q I1 r1 q1) he hpl
end
end L2
namespace HT
open PySem PyProof.Rows
section
open PySem.SeqAt
open PySem.AutoSeq1 (wpAny_loadPart')
open PySem.MeetsSeq PySem.MeetsSeq2 PySem.MeetsSeq3
end
section
variable {prog : Program} {w : World} {A : Around} {E : Value → Shared → Prop} {s : Shared}
theorem cat_tup {t b : Addr} {vs ws : List Value} {Q : Value → Shared → Prop} (ht : IsTup s.heap t vs.toArray) (hb : IsTup s.heap b ws.toArray) (hv : vs ≠ [])
    (h1 : ws = [] → Q (.ref t) s) (h2 : ws ≠ [] → Q (.ref s.heap.objs.size) { s with heap := s.heap.push { cls := .type "tuple", data := .seq (vs ++ ws).toArray } })
    (hsz : vs.length + ws.length ≤ sizeLine) : wpAny (model prog w) A (binaryOp .Add (.ref t) (.ref b)) Q E s := by
  obtain ⟨⟨cls, dd, data, sl⟩, ho, hc, n, hd⟩ := id ht
  obtain ⟨⟨cls2, dd2, data2, sl2⟩, ho2, hc2, n2, hd2⟩ := id hb
  simp only at hc hd hc2 hd2
  subst hc hd hc2 hd2
  have e : vs.toArray ++ ws.toArray = (vs ++ ws).toArray := by simp
  by_cases hw : ws = []
  · exact concat_meets ⟨_, ho, rfl⟩ ⟨_, ho2, rfl⟩ noFill_tuple_add seq_tuple_add PySem.F.slot_tuple_add PySem.F.entry_tuple_add (PySem.F.args_tuple_add_2 _ _)
      (tuple_addW1 t b vs.toArray ws.toArray n n2 dd dd2 sl sl2 (by simpa using hv) (by simp [hw])) ⟨ho, ho2, h1 hw⟩
  · refine concat_meets ⟨_, ho, rfl⟩ ⟨_, ho2, rfl⟩ noFill_tuple_add seq_tuple_add PySem.F.slot_tuple_add PySem.F.entry_tuple_add (PySem.F.args_tuple_add_2 _ _)
      (tuple_addW2 t b vs.toArray ws.toArray n n2 dd dd2 sl sl2 (by simpa using hv) (by simpa using hw) (by rw [List.size_toArray, List.size_toArray]; exact hsz)) ⟨ho, ho2, ?_⟩
    rw [e]
    exact h2 hw
def sIx (n d : Nat) : Option Int → Nat
  | none => d
  | some v => if v < 0 then (v + (n : Int)).toNat else min v.toNat n
theorem sIx_none (n d : Nat) : sIx n d none = d := rfl
theorem sIx_nat (n d k : Nat) : sIx n d (some (k : Int)) = min k n := by
  show (if (k : Int) < 0 then ((k : Int) + (n : Int)).toNat else min (k : Int).toNat n) = min k n
  rw [if_neg (by omega), Int.toNat_natCast]
theorem sIx_le (n d : Nat) (hd : d ≤ n) (o : Option Int) : sIx n d o ≤ n := by
  cases o with
  | none => exact hd
  | some v =>
    show (if v < 0 then (v + (n : Int)).toNat else min v.toNat n) ≤ n
    by_cases hv : v < 0
    · rw [if_pos hv]; omega
    · rw [if_neg hv]; exact Nat.min_le_right _ _
theorem clip_eq (v : Int) (n d : Nat) : (if v < 0 then max (v + (n : Int)) 0 else min v (n : Int)) = ((sIx n d (some v) : Nat) : Int) := by
  show (if v < 0 then max (v + (n : Int)) 0 else min v (n : Int)) = (((if v < 0 then (v + (n : Int)).toNat else min v.toNat n) : Nat) : Int)
  by_cases hv : v < 0
  · simp only [if_pos hv]; omega
  · simp only [if_neg hv]; omega
theorem adjust_gen (lo hi : Option Int) (n : Nat) : Builtin.Slice.sliceAdjust lo hi 1 (n : Int) = (((sIx n 0 lo : Nat) : Int), ((sIx n n hi : Nat) : Int)) := by
  have h1 : ¬ ((1 : Int) < 0) := by omega
  unfold Builtin.Slice.sliceAdjust
  simp only [h1, if_false]
  refine Prod.ext ?_ ?_
  · cases lo with
    | none => rfl
    | some v => exact clip_eq v n 0
  · cases hi with
    | none => rfl
    | some v => exact clip_eq v n n
theorem places_gen (i j : Nat) : Builtin.Slice.slicePlaces (i : Int) (j : Int) 1 = j - i := by
  unfold Builtin.Slice.slicePlaces
  have h1 : (1 : Int) > 0 := by omega
  simp only [h1, if_true, Int.ediv_one]
  split <;> omega
theorem slicePart_ {v : Value} {o : Option Int} {Q : Option Int → Shared → Prop} (p : IsPart v o) (h : Q o s) : wpAny (model prog w) A (Builtin.Slice.slicePartIndex v) Q E s := by
  cases p with
  | none => exact slicePart_none h
  | int i t => exact slicePart_int h
theorem sliceApplied_gen {sl : Addr} {vl vu : Value} {lo hi : Option Int} {n : Nat} {Q : Int × Int × Nat → Shared → Prop} (hs : s.heap.IsSliceOf sl vl vu .none) (pl : IsPart vl lo) (pu : IsPart vu hi)
    (h : Q (((sIx n 0 lo : Nat) : Int), 1, sIx n n hi - sIx n 0 lo) s) : wpAny (model prog w) A (Builtin.Slice.sliceApplied (.ref sl) (pure (n : Int))) Q E s := by
  obtain ⟨os, hos, hcs, hds⟩ := id hs
  unfold Builtin.Slice.sliceApplied Builtin.Slice.sliceFields
  refine wpAny_bind (wpAny_bind (wpAny_field hos hds (x := vl) rfl (wpAny_bind (wpAny_field hos hds (x := vu) rfl (wpAny_bind (wpAny_field hos hds (x := .none) rfl (wpAny_pure ?_)))))))
  refine wpAny_bind (slicePart_none ?_)
  show wpAny _ _ (if ((1 : Int) == 0) = true then _ else _) _ _ s
  rw [if_neg (by decide)]
  refine wpAny_bind (slicePart_ pl (wpAny_bind (slicePart_ pu (wpAny_bind (wpAny_pure ?_)))))
  show wpAny _ _ (match Builtin.Slice.sliceAdjust lo hi 1 (n : Int) with | (lo, hi) => pure (lo, (1 : Int), Builtin.Slice.slicePlaces lo hi 1)) _ _ s
  rw [adjust_gen lo hi n]
  show wpAny _ _ (pure (((sIx n 0 lo : Nat) : Int), (1 : Int), Builtin.Slice.slicePlaces ((sIx n 0 lo : Nat) : Int) ((sIx n n hi : Nat) : Int) 1)) _ _ s
  rw [places_gen]
  exact wpAny_pure h
theorem pick_gen (xs : Array Value) (i k : Nat) : ((List.range k).filterMap fun (m : Nat) => xs[((i : Int) + (m : Int) * 1).toNat]?).toArray = ((xs.toList.drop i).take k).toArray := by
  have e : (fun (m : Nat) => xs[((i : Int) + (m : Int) * 1).toNat]?) = fun m => xs[i + m]? := by
    funext m
    have : ((i : Int) + (m : Int) * 1).toNat = i + m := by omega
    rw [this]
  rw [e]
  have := pick_run xs i k
  rw [List.filterMap_map] at this
  have e2 : ((fun x => xs[x]?) ∘ fun x => i + x) = fun m => xs[i + m]? := rfl
  rw [e2] at this
  rw [this]
theorem getItem_tuple_cut {t sl : Addr} {items : Array Value} {vl vu : Value} {lo hi : Option Int} {Q : Value → Shared → Prop} (ht : IsTup s.heap t items) (hs : s.heap.IsSliceOf sl vl vu .none) (pl : IsPart vl lo) (pu : IsPart vu hi)
    (hw : ¬ (sIx items.size 0 lo = 0 ∧ sIx items.size items.size hi = items.size))
    (h : Q (.ref s.heap.objs.size) { s with heap := s.heap.push { cls := .type "tuple", data := .seq ((items.toList.drop (sIx items.size 0 lo)).take (sIx items.size items.size hi - sIx items.size 0 lo)).toArray } })
    (hsz : items.size ≤ sizeLine) : wpAny (model prog w) A (getItem (.ref t) (.ref sl)) Q E s := by
  have htake : sizeOk (.seq ((items.toList.drop (sIx items.size 0 lo)).take (sIx items.size items.size hi - sIx items.size 0 lo)).toArray) := by
    show ((items.toList.drop (sIx items.size 0 lo)).take (sIx items.size items.size hi - sIx items.size 0 lo)).toArray.size ≤ sizeLine
    rw [List.size_toArray, List.length_take, List.length_drop, Array.length_toList]
    omega
  have hj : sIx items.size items.size hi ≤ items.size := sIx_le _ _ (Nat.le_refl _) hi
  obtain ⟨os, hos, hcs, hds⟩ := id hs
  have hTs : s.TypeIs (.ref sl) "slice" := ⟨os, hos, hcs⟩
  unfold getItem
  try with_reducible refine wpAny_holding ?_
  first | refine wpAny_bind (wpAny_pure ?_) | skip
  refine wpAny_bind (wpAny_sequenceKey ht.typeIs (by decide) ?_)
  refine wpAny_bind (wpAny_callSpecial?_slot (name := Str.ofString "__getitem__") ht.typeIs PyProof.Rows.slot_tuple_getitem
    (wpAny_call_entry PyProof.Rows.slot_tuple_getitem ht.typeIs entry_tuple_getitem ?_ (args_tuple_getitem _ _)))
  show wpAny _ _ (Builtin.Tuple.tupleItemsOf (.ref t) >>= _) _ _ s
  refine wpAny_bind (tupleItemsOf_ ht ?_)
  refine wpAny_bind (wpAny_typeOf hTs ?_)
  rw [if_pos (by decide)]
  refine wpAny_bind (sliceApplied_gen hs pl pu ?_)
  have hno : ¬ ((((sIx items.size 0 lo : Nat) : Int) == 0 && (1 : Int) == 1 && (sIx items.size items.size hi - sIx items.size 0 lo) == items.size) = true) := by
    intro q
    rw [Bool.and_eq_true, Bool.and_eq_true] at q
    have q1 : ((sIx items.size 0 lo : Nat) : Int) = 0 := eq_of_beq q.1.1
    have q2 : sIx items.size items.size hi - sIx items.size 0 lo = items.size := eq_of_beq q.2
    exact hw ⟨by omega, by omega⟩
  show wpAny _ _ (if (((sIx items.size 0 lo : Nat) : Int) == 0 && (1 : Int) == 1 && (sIx items.size items.size hi - sIx items.size 0 lo) == items.size) = true then _ else _) _ _ s
  rw [if_neg hno, pick_gen]
  first
    | exact wpAny_bind (m := Builtin.Tuple.tupleExact _) (wpAny_newObj_type (wpAny_pure ⟨_, rfl, wpAny_pure h⟩) htake)
    | exact wpAny_bind (m := Builtin.Tuple.tupleExact _) (wpAny_newObj_type (wpAny_bind (wpAny_pure (wpAny_pure ⟨_, rfl, wpAny_pure h⟩))) htake)
    | exact wpAny_bind (wpAny_bind (m := Builtin.Tuple.tupleExact _) (wpAny_newObj_type (wpAny_pure (wpAny_pure ⟨_, rfl, wpAny_pure h⟩)) htake))
    | exact wpAny_bind (wpAny_bind (m := Builtin.Tuple.tupleExact _) (wpAny_newObj_type (wpAny_pure ⟨_, rfl, wpAny_pure h⟩) htake))
end
end HT
namespace L2
open PySem PySem.Spec PyProof.Rows
abbrev TO := St → Hp → (Option Int → Hp → Prop) → Prop
def PO (X : Cx) (e : Option Expr) (t : TO) : Prop :=
  ∀ (pins : List (Addr × Obj)) (s : Shared) (σ : St) (H : Hp) (Q : Option Int → Hp → Prop), Inv X pins σ H s → t σ H Q →
    wpAny (model X.prog X.w) X.A (evalPart e X.env) (fun u s' => ∃ o H', Inv X pins σ H' s' ∧ IsPart u o ∧ Q o H') X.xe s
def tNoPart : TO := fun _ H Q => Q none H
def tPart (t : TE) : TO := fun σ H Q => t σ H fun x H1 => ∃ i, x = .int i ∧ Q (some i) H1
theorem intsAre_of {ns : List Int} : ∀ {us : List Value}, Vals (ns.map V.int) us → IntsAre us ns := by
  induction ns with
  | nil => intro us r; rw [List.map_nil] at r; cases r; exact .nil
  | cons n ns ih =>
    intro us r
    rw [List.map_cons] at r
    cases r with
    | cons r1 r2 =>
      obtain ⟨t, e⟩ := r1
      subst e
      exact .cons n t (ih r2)
section
variable {X : Cx} {e : Expr} {te : TE} {lo hi : Option Expr} {tl th : TO} {pos p2 : Pos}
theorem po_none : PO X none tNoPart := by
  intro pins s σ H Q I h
  rw [evalPart_none]
  exact wpAny_pure ⟨none, H, I, .none, h⟩
theorem po_some (h : PE X e te) : PO X (some e) (tPart te) := by
  intro pins s σ H Q I hw
  rw [evalPart_some]
  refine thn (h pins s σ H _ I hw) fun u s1 ⟨x, H1, I1, r1, q1⟩ => ?_
  obtain ⟨i, rfl, q⟩ := q1
  obtain ⟨t, rfl⟩ := r1
  exact ⟨some i, H1, I1, .int i t, q⟩
def SlR (X : Cx) (r : V → Option Int → Option Int → Hp → VK → Prop) : Prop :=
  ∀ (pins : List (Addr × Obj)) (s : Shared) (σ : St) (H : Hp) (x : V) (v vl vu : Value) (lo hi : Option Int) (sl : Addr) (Q : VK), Inv X pins σ H s → RelV x v → s.heap.IsSliceOf sl vl vu .none → IsPart vl lo → IsPart vu hi → r x lo hi H Q →
    ∃ T id, typeLookup (.type T) "__getitem__" = pure (some (.builtin id)) ∧ s.TypeIs v T ∧ wpAny (model X.prog X.w) X.A (getItem v (.ref sl)) (EP X pins σ Q) X.xe s
def tSl (r : V → Option Int → Option Int → Hp → VK → Prop) (te : TE) (tl th : TO) : TE := fun σ H Q => te σ H fun x H1 => tl σ H1 fun l H2 => th σ H2 fun u H3 => r x l u H3 Q
theorem pe_slice {r : V → Option Int → Option Int → Hp → VK → Prop} (hr : SlR X r) (he : PE X e te) (hl : PO X lo tl) (hu : PO X hi th) : PE X (.Subscript e (.Slice lo hi none p2) pos) (tSl r te tl th) := by
  intro pins s σ H Q I h
  refine Subscript_ (thn (he pins s σ H _ I h) fun v s1 ⟨x, H1, I1, r1, q1⟩ => ?_)
  refine wpAny_Slice (thn (hl pins s1 σ H1 _ I1 q1) fun vl s2 ⟨l, H2, I2, pl, q2⟩ => thn (hu pins s2 σ H2 _ I2 q2) fun vu s3 ⟨u, H3, I3, pu, q3⟩ => ?_)
  rw [evalPart_none]
  refine wpAny_pure ?_
  have I4 : Inv X pins σ H3 { s3 with heap := s3.heap.push { cls := .type "slice", data := .fields #[vl, vu, .none] } } := I3.kept (t' := s3.toks) fun b ob q => Heap.get?_push_of_some _ q
  obtain ⟨T, id, hT, ht, hg⟩ := hr pins { s3 with heap := s3.heap.push { cls := .type "slice", data := .fields #[vl, vu, .none] } } σ H3 x v vl vu l u s3.heap.objs.size Q I4 r1 (Heap.IsSliceOf.new ..) pl pu q3
  show wpAny (model X.prog X.w) X.A (subscriptTail e (.Slice lo hi none p2) v (.ref s3.heap.objs.size)) (EP X pins σ Q) X.xe { s3 with heap := s3.heap.push { cls := .type "slice", data := .fields #[vl, vu, .none] } }
  exact tail_any (ops := [.ref s3.heap.objs.size, v]) ht hT hg (by with_unfolding_all rfl)
def cutV (xs : List V) (lo hi : Option Int) : List V := (xs.drop (HT.sIx xs.length 0 lo)).take (HT.sIx xs.length xs.length hi - HT.sIx xs.length 0 lo)
theorem cutV_length (xs : List V) (lo hi : Option Int) : (cutV xs lo hi).length ≤ xs.length := by
  unfold cutV
  rw [List.length_take, List.length_drop]
  omega
def rSlT (K : PySem.W.Frag) : V → Option Int → Option Int → Hp → VK → Prop := fun x lo hi H Q => ∃ a xs, x = .ref a ∧ SqT K H a xs ∧
  ¬ (HT.sIx xs.length 0 lo = 0 ∧ HT.sIx xs.length xs.length hi = xs.length) ∧ ∀ p, H p = none → Q (.ref p) (upd H p (.tup (cutV xs lo hi)))
theorem sl_tup : SlR X (rSlT X.K) := by
  intro pins s σ H x v vl vu lo hi sl Q I rx hs pl pu h
  obtain ⟨a, xs, rfl, hx, hw, q⟩ := h
  cases rx
  obtain ⟨its, r, ht, hz⟩ := I.tuple hx
  have hlen : its.toArray.size = xs.length := by rw [List.size_toArray]; exact r.length.symm
  refine ⟨"tuple", _, PyProof.Rows.slot_tuple_getitem.lookup, ht.typeIs, ?_⟩
  refine HT.getItem_tuple_cut ht hs pl pu (by rw [hlen]; exact hw) ?_ (by rw [hlen]; exact hz)
  rw [hlen]
  refine ⟨.ref s.heap.objs.size, _, I.laid (t' := s.toks) (o := .tup (cutV xs lo hi)) (fun b ob q => Heap.get?_push_of_some _ q) (Nat.le_refl _) ?_, rfl, q _ (I.hok.fresh (Nat.le_refl _))⟩
  exact ⟨Nat.le_trans (cutV_length xs lo hi) hz, _, (r.drop (HT.sIx xs.length 0 lo)).take (HT.sIx xs.length xs.length hi - HT.sIx xs.length 0 lo), IsTup.new _ _⟩
def rCatT (K : PySem.W.Frag) : R2 := fun x y H Q => ∃ a b xs ys, x = .ref a ∧ y = .ref b ∧ SqT K H a xs ∧ SqT K H b ys ∧ xs ≠ [] ∧ xs.length + ys.length ≤ sizeLine ∧
  (ys = [] → Q (.ref a) H) ∧ (ys ≠ [] → ∀ p, H p = none → Q (.ref p) (upd H p (.tup (xs ++ ys))))
theorem Vals.nil_iff {xs : List V} {us : List Value} (r : Vals xs us) : us = [] ↔ xs = [] := by
  cases r with
  | nil => simp
  | cons _ _ => simp
theorem op_catT : OpR X (binaryOp .Add) (rCatT X.K) := by
  intro pins s σ H x y v u Q I rx ry h
  obtain ⟨a, b, xs, ys, rfl, rfl, ha, hb, hx, hz, q1, q2⟩ := h
  cases rx
  cases ry
  obtain ⟨its, r1, p1, _⟩ := I.tuple ha
  obtain ⟨its2, r2, p2, _⟩ := I.tuple hb
  refine HT.cat_tup p1 p2 (fun z => hx (r1.nil_iff.mp z)) (fun z => ⟨.ref a, H, I, rfl, q1 (r2.nil_iff.mp z)⟩) (fun z => ?_) (by rw [← r1.length, ← r2.length]; exact hz)
  refine ⟨.ref s.heap.objs.size, _, I.laid (t' := s.toks) (o := .tup (xs ++ ys)) (fun b ob q => Heap.get?_push_of_some _ q) (Nat.le_refl _) ?_, rfl, q2 (fun w => z (r2.nil_iff.mpr w)) _ (I.hok.fresh (Nat.le_refl _))⟩
  exact ⟨by rw [List.length_append]; exact hz, _, r1.append r2, IsTup.new _ _⟩
end
end L2
namespace L2
open PySem PySem.Spec PyProof.Rows
def ixN (n : Nat) (i : Int) : Option Nat := if 0 ≤ i then (if i < n then some i.toNat else none) else if -(n : Int) ≤ i then some (i + n).toNat else none
def atI {α : Type} (xs : List α) (i : Int) : Option α := (ixN xs.length i).bind fun j => xs[j]?
theorem ixN_seq {n : Nat} {i : Int} {j : Nat} (h : ixN n i = some j) : seqIndex? i n = some j ∧ j < n ∧ -(n : Int) ≤ i ∧ i < n := by
  unfold ixN at h
  by_cases h0 : 0 ≤ i
  · rw [if_pos h0] at h
    by_cases h1 : i < n
    · rw [if_pos h1] at h
      have e : i.toNat = j := Option.some.inj h
      exact ⟨by rw [seqIndex_of h0 h1, e], by omega, by omega, h1⟩
    · rw [if_neg h1] at h; cases h
  · rw [if_neg h0] at h
    by_cases h1 : -(n : Int) ≤ i
    · rw [if_pos h1] at h
      have e : (i + n).toNat = j := Option.some.inj h
      exact ⟨by rw [seqIndex_neg (by omega) h1, e], by omega, h1, by omega⟩
    · rw [if_neg h1] at h; cases h
theorem atI_get {α : Type} {xs : List α} {i : Int} {v : α} (h : atI xs i = some v) : ∃ j, seqIndex? i xs.length = some j ∧ xs[j]? = some v ∧ j < xs.length ∧ -(xs.length : Int) ≤ i ∧ i < xs.length := by
  unfold atI at h
  cases e : ixN xs.length i with
  | none => rw [e] at h; cases h
  | some j =>
    rw [e] at h
    obtain ⟨h1, h2, h3, h4⟩ := ixN_seq e
    exact ⟨j, h1, h, h2, h3, h4⟩
theorem atI_nat {α : Type} {xs : List α} {j : Nat} {v : α} (h : xs[j]? = some v) : atI xs (j : Int) = some v := by
  have hj : j < xs.length := (List.getElem?_eq_some_iff.mp h).1
  have e : ixN xs.length (j : Int) = some j := by
    unfold ixN
    rw [if_pos (by omega), if_pos (by omega)]; simp
  unfold atI; rw [e]; exact h
def PlainIx (b : Expr) : Prop := ∀ o i, subscripted b false o i = operate [o, i] (getItem o i)
def IxR (X : Cx) (r : R2) : Prop :=
  ∀ (value slice : Expr) (pins : List (Addr × Obj)) (s : Shared) (σ : St) (H : Hp) (x y : V) (v u : Value) (Q : VK), Inv X pins σ H s → RelV x v → RelV y u → r x y H Q →
    subscripted slice false v u = operate [v, u] (getItem v u) → wpAny (model X.prog X.w) X.A (subscriptTail value slice v u) (EP X pins σ Q) X.xe s
def MtR (X : Cx) (id : String) (r : V → List V → Hp → VK → Prop) : Prop :=
  ∀ (pins : List (Addr × Obj)) (s : Shared) (σ : St) (H : Hp) (x : V) (xs : List V) (v : Value) (us : List Value) (Q : VK), Inv X pins σ H s → RelV x v → Vals xs us → r x xs H Q →
    wpAny (model X.prog X.w) X.A (call (.builtin id) (v :: us)) (EP X pins σ Q) X.xe s
section
variable {X : Cx} {a b : Expr} {ta tb : TE} {pos : Pos}
theorem pe_ix {r : R2} (hr : IxR X r) (ha : PE X a ta) (hb : PE X b tb) (hs : PlainIx b) : PE X (.Subscript a b pos) (tOp r ta tb) := by
  intro pins s σ H Q I h
  exact Subscript_ (binT ha hb I h fun v u s2 x y H2 I2 rx ry q => hr a b pins s2 σ H2 x y v u Q I2 rx ry q (hs _ _))
def rIxL (K : PySem.W.Frag) : R2 := fun x y H Q => ∃ p xs i v, x = .ref p ∧ y = .int i ∧ SqL K H p xs ∧ atI xs i = some v ∧ Q v H
def rIxT (K : PySem.W.Frag) : R2 := fun x y H Q => ∃ p xs i v, x = .ref p ∧ y = .int i ∧ SqT K H p xs ∧ atI xs i = some v ∧ Q v H
theorem ix_list : IxR X (rIxL X.K) := by
  intro value slice pins s σ H x y v u Q I rx ry h hs
  obtain ⟨p, xs, i, z, rfl, rfl, hq, he, q⟩ := h
  cases rx
  obtain ⟨t, rfl⟩ := ry
  obtain ⟨its, r, pl, hz⟩ := I.list hq
  obtain ⟨j, h1, h2, h3, h4, h5⟩ := atI_get he
  obtain ⟨w, ew, rw'⟩ := r.get h2
  have hl := r.length
  have hn := line63
  have fin : EP X pins σ Q w s := ⟨z, H, I, rw', q⟩
  by_cases h0 : 0 ≤ i
  · have hj : i.toNat = j := by
      rw [seqIndex_of h0 h5] at h1
      exact Option.some.inj h1
    exact item_listR pl.isList h0 (by omega) (by rw [hj]; simpa using ew) fin hs
  · have hj : (i + (its.toArray.size : Int)).toNat = j := by
      rw [seqIndex_neg (by omega) h4] at h1
      rw [List.size_toArray, ← hl]
      exact Option.some.inj h1
    exact subscriptTail_builtinR (x := w) pl.isList.typeIs slot_list_getitem.lookup
      (wpAny_getItem_list_neg (Q := fun r s' => r = w ∧ EP X pins σ Q r s') pl.isList (by omega) (by rw [List.size_toArray] <;> omega) (by omega) (by rw [hj]; simpa using ew) ⟨rfl, fin⟩) hs
theorem ix_tup : IxR X (rIxT X.K) := by
  intro value slice pins s σ H x y v u Q I rx ry h hs
  obtain ⟨p, xs, i, z, rfl, rfl, hq, he, q⟩ := h
  cases rx
  obtain ⟨t, rfl⟩ := ry
  obtain ⟨its, r, pl, hz⟩ := I.tuple hq
  obtain ⟨j, h1, h2, h3, h4, h5⟩ := atI_get he
  obtain ⟨w, ew, rw'⟩ := r.get h2
  have hl := r.length
  have hn := line63
  have fin : EP X pins σ Q w s := ⟨z, H, I, rw', q⟩
  exact subscriptTail_builtinR (x := w) pl.typeIs slot_tuple_getitem.lookup
    (getItem_tuple (j := j) (Q := fun r s' => r = w ∧ EP X pins σ Q r s') pl (by omega) (by omega) (by rw [List.size_toArray, ← hl]; exact h1) (by simpa using ew) ⟨rfl, fin⟩) hs
theorem Inv.lst {pins : List (Addr × Obj)} {σ : St} {H : Hp} {s : Shared} {p : Addr} {xs : List V} (I : Inv X pins σ H s) (h : H p = some (.lst xs)) :
    ∃ (its : List Value) (n : Nat), Vals xs its ∧ s.heap.get? p = some { cls := .type "list", data := .seq its.toArray n } ∧ xs.length ≤ sizeLine := by
  obtain ⟨z, its, n, r, e⟩ := I.hok p _ h
  exact ⟨its, n, r, e, z⟩
theorem slice_bounds (lo hi : Option Int) (n : Nat) : (sliceBounds lo hi none n).1 = ((HT.sIx n 0 lo : Nat) : Int) ∧ (sliceBounds lo hi none n).2.1 = ((HT.sIx n n hi : Nat) : Int) ∧ (sliceBounds lo hi none n).2.2 = 1 := by
  refine ⟨?_, ?_, rfl⟩
  · cases lo with
    | none => simp [sliceBounds, HT.sIx]
    | some i =>
      simp only [sliceBounds, HT.sIx, Option.getD_none, show (1 : Int) > 0 by decide, if_true]
      by_cases h : i < 0
      · simp only [h, if_true] <;> omega
      · simp only [h, if_false] <;> omega
  · cases hi with
    | none => simp [sliceBounds, HT.sIx]
    | some i =>
      simp only [sliceBounds, HT.sIx, Option.getD_none, show (1 : Int) > 0 by decide, if_true]
      by_cases h : i < 0
      · simp only [h, if_true] <;> omega
      · simp only [h, if_false] <;> omega
theorem slicePick_cut (its : List Value) (lo hi : Option Int) : slicePick its.toArray lo hi none = ((its.drop (HT.sIx its.length 0 lo)).take (HT.sIx its.length its.length hi - HT.sIx its.length 0 lo)).toArray := by
  obtain ⟨h1, h2, h3⟩ := slice_bounds lo hi its.toArray.size
  unfold slicePick
  rw [h1, h2, h3]
  simp only [sliceRange_one, pick_run, List.size_toArray] <;> rfl
def rSlL (K : PySem.W.Frag) : V → Option Int → Option Int → Hp → VK → Prop := fun x lo hi H Q => ∃ a xs, x = .ref a ∧ SqL K H a xs ∧ ∀ p, H p = none → Q (.ref p) (upd H p (.lst (cutV xs lo hi)))
theorem sl_list : SlR X (rSlL X.K) := by
  intro pins s σ H x v vl vu lo hi sl Q I rx hs pl pu h
  obtain ⟨a, xs, rfl, hx, q⟩ := h
  cases rx
  obtain ⟨its, r, ht, hz⟩ := I.list hx
  have hlen := r.length
  refine ⟨"list", _, slot_list_getitem.lookup, ht.isList.typeIs, ?_⟩
  refine wpAny_getItem_list_slice ht.isList hs pl pu .none (by simp) ?_ (by rw [List.size_toArray] <;> omega)
  rw [slicePick_cut, ← hlen]
  refine ⟨.ref s.heap.objs.size, _, I.laid (t' := s.toks) (o := .lst (cutV xs lo hi)) (fun b ob q => Heap.get?_push_of_some _ q) (Nat.le_refl _) ?_, rfl, q _ (I.hok.fresh (Nat.le_refl _))⟩
  exact ⟨Nat.le_trans (cutV_length xs lo hi) hz, _, 0, (r.drop (HT.sIx xs.length 0 lo)).take (HT.sIx xs.length xs.length hi - HT.sIx xs.length 0 lo), Heap.get?_push_size _ rfl⟩
theorem call_len_seq : CallR X (.builtin "len") (fun xs H Q => ∃ p ys, xs = [.ref p] ∧ (SqL X.K H p ys ∨ SqT X.K H p ys) ∧ Q (.int ys.length) H) := by
  intro pins s σ H xs us Q I r h
  obtain ⟨p, ys, rfl, hq, q⟩ := h
  obtain ⟨u, rfl, rx⟩ := vals1 r
  cases rx
  have hn := line63
  rcases hq with hq | hq
  · obtain ⟨its, r', pl, hz⟩ := I.list hq
    have hlen := r'.length
    exact Calls.call_len_list pl.isList (by simp only [List.size_toArray] <;> omega) ⟨.int ys.length, H, I.tok _, ⟨s.toks + 1, by rw [List.size_toArray, hlen]⟩, q⟩
  · obtain ⟨its, r', pl, hz⟩ := I.tuple hq
    have hlen := r'.length
    exact len_tuple pl (by simp only [List.size_toArray] <;> omega) ⟨.int ys.length, H, I.tok _, ⟨s.toks + 1, by rw [List.size_toArray, hlen]⟩, q⟩
theorem call_list_of : CallR X (.type "list") (fun xs H Q => ∃ p ys, xs = [.ref p] ∧ (SqL X.K H p ys ∨ SqT X.K H p ys) ∧ ∀ l, H l = none → Q (.ref l) (upd H l (.lst ys))) := by
  intro pins s σ H xs us Q I r h
  obtain ⟨p, ys, rfl, hq, q⟩ := h
  obtain ⟨u, rfl, rx⟩ := vals1 r
  cases rx
  have fin : ∀ (its : List Value), Vals ys its → ys.length ≤ sizeLine → ∀ (h' : Heap) (c' : Nat), (∀ b o', s.heap.get? b = some o' → h'.get? b = some o') →
      h'.get? s.heap.objs.size = some { cls := .type "list", dict := none, data := .seq its.toArray c', slots := #[] } → EP X pins σ Q (.ref s.heap.objs.size) { s with heap := h' } := fun its r' hz h' c' kp e =>
    ⟨.ref s.heap.objs.size, _, I.laid (t' := s.toks) kp (Nat.le_refl _) (show ObjOk X.prog X.w _ h' _ (.lst ys) from ⟨hz, its, c', r', e⟩), rfl, q _ (I.hok.fresh (Nat.le_refl _))⟩
  rcases hq with hq | hq
  · obtain ⟨its, r', pl, hz⟩ := I.list hq
    have hlen := r'.length
    obtain ⟨o, ho, hc, n, hd⟩ := pl.isList
    exact call_list_seq p (.inl rfl) ho hc hd (fun h' c' kp e => fin its r' hz h' c' kp e) (by simp only [List.size_toArray] <;> omega)
  · obtain ⟨its, r', pl, hz⟩ := I.tuple hq
    have hlen := r'.length
    obtain ⟨o, ho, hc, n, hd⟩ := pl
    exact call_list_seq p (.inr rfl) ho hc hd (fun h' c' kp e => fin its r' hz h' c' kp e) (by simp only [List.size_toArray] <;> omega)
theorem call_tuple_of : CallR X (.type "tuple") (fun xs H Q => ∃ p ys, xs = [.ref p] ∧ ((SqL X.K H p ys ∧ ∀ l, H l = none → Q (.ref l) (upd H l (.tup ys))) ∨ (SqT X.K H p ys ∧ Q (.ref p) H))) := by
  intro pins s σ H xs us Q I r h
  obtain ⟨p, ys, rfl, h⟩ := h
  obtain ⟨u, rfl, rx⟩ := vals1 r
  cases rx
  rcases h with ⟨hq, q⟩ | ⟨hq, q⟩
  · obtain ⟨its, r', pl, hz⟩ := I.list hq
    have hlen := r'.length
    refine call_tuple_list pl.isList (fun h' kp => ?_) (by simp only [List.size_toArray] <;> omega)
    have I1 : Inv X pins σ H { s with heap := h' } := I.kept (t' := s.toks) kp
    have I2 : Inv X pins σ (upd H h'.objs.size (.tup ys)) { s with heap := h'.push { cls := .type "tuple", data := .seq its.toArray } } :=
      I1.laid (t' := s.toks) (fun b o e => Heap.get?_push_of_some _ e) (Nat.le_refl _) (show ObjOk X.prog X.w _ _ _ (.tup ys) from ⟨hz, its, r', IsTup.new _ _⟩)
    exact ⟨.ref h'.objs.size, _, I2, rfl, q _ (I1.hok.fresh (Nat.le_refl _))⟩
  · obtain ⟨its, r', pl, hz⟩ := I.tuple hq
    exact call_tuple_same pl ⟨.ref p, H, I, rfl, q⟩
def tyV (K : PySem.W.Frag) (T : String) (x : V) (H : Hp) : Prop := match x with
  | .str _ => T = "str"
  | .int _ => T = "int"
  | .ref p => (T = "list" ∧ ∃ xs, SqL K H p xs) ∨ (T = "tuple" ∧ ∃ o, K.lookup p = some o ∧ o.cls = .type "tuple" ∧ o.dict = none) ∨
      (T = "dict" ∧ ((∃ kvs, H p = some (.dK kvs)) ∨ ∃ kvs, H p = some (.dT kvs))) ∨ (T = "set" ∧ ∃ S n, H p = some (.set S n))
  | _ => False
theorem tyV_is {pins : List (Addr × Obj)} {σ : St} {H : Hp} {s : Shared} {T : String} {x : V} {v : Value} (I : Inv X pins σ H s) (r : RelV x v) (ty : tyV X.K T x H) :
    s.TypeIs v T ∧ ∀ a, v = .ref a → ∃ ob, s.heap.get? a = some ob ∧ ob.dict = none := by
  cases x with
  | str z =>
    obtain ⟨t, rfl⟩ := r
    cases (show T = "str" from ty)
    exact ⟨typeIs_str s z t, fun _ e => nomatch e⟩
  | int i =>
    obtain ⟨t, rfl⟩ := r
    cases (show T = "int" from ty)
    exact ⟨typeIs_int s i t, fun _ e => nomatch e⟩
  | ref p =>
    cases r
    rcases ty with ⟨rfl, xs, hq⟩ | ⟨rfl, o, hk, hc, hd⟩ | ⟨rfl, hk⟩ | ⟨rfl, S, n, hk⟩
    · obtain ⟨its, _, pl, _⟩ := I.list hq
      refine ⟨pl.isList.typeIs, fun a e => ?_⟩
      cases e
      obtain ⟨o, n, e, c, hd, _⟩ := pl
      exact ⟨o, e, hd⟩
    · refine ⟨⟨o, I.kIn p o hk, hc⟩, fun a e => ?_⟩
      cases e
      exact ⟨o, I.kIn _ o hk, hd⟩
    · have z : ∃ o, s.heap.get? p = some o ∧ o.ExactDict := by
        rcases hk with ⟨kvs, hk⟩ | ⟨kvs, hk⟩
        · obtain ⟨_, _, _, _, o, _, _, e, ex, _⟩ := I.hok p _ hk
          exact ⟨o, e, ex⟩
        · obtain ⟨_, _, _, _, o, _, _, e, ex, _⟩ := I.hok p _ hk
          exact ⟨o, e, ex⟩
      obtain ⟨o, e, ex⟩ := z
      refine ⟨⟨o, e, ex.1⟩, fun a e2 => ?_⟩
      cases e2
      exact ⟨o, e, ex.2.1⟩
    · obtain ⟨o, _, _, _, e, ex, _⟩ := I.hok p _ hk
      refine ⟨⟨o, e, ex.1⟩, fun a e2 => ?_⟩
      cases e2
      exact ⟨o, e, ex.2.1⟩
  | _ => exact False.elim ty
def tBM (K : PySem.W.Frag) (T : String) (r : V → List V → Hp → VK → Prop) (to : TE) (t : TA) : TE := fun σ H Q => to σ H fun x H1 => tyV K T x H1 ∧ t σ H1 fun xs H2 => r x xs H2 Q
variable {o e : Expr} {es : List Expr} {to : TE} {t : TA} {name : Str} {apos cpos : Pos} {T id : String} {r : V → List V → Hp → VK → Prop}
theorem pe_bm (pa : PlainAttrs T) (slot : Slot T name id) (hty : typeOf (.builtin id) = pure (.type "method_descriptor")) (hm : MtR X id r) (ho : PE X o to) (ha : PA X (e :: es) t)
    (hbase : attributeBase o name X.env (eval o X.env) = eval o X.env := by rfl)
    (hfew : ((backTo cpos (starEach (e :: es) X.env)).all (fun x => !x.1) && (backToKw cpos (keywordEach [] X.env)).all (fun x => x.1.isSome)
      && decide ((e :: es).length + ([] : List Keyword).length + (if ([] : List Keyword).isEmpty then 0 else 1) < 30)) = true := by rfl)
    (hline : (apos.endLine == cpos.line) = true := by rfl) (hs : starEach (e :: es) X.env = (false, eval e X.env) :: starEach es X.env := by rfl) (hplain : (backTo cpos (starEach es X.env)).any (·.1) = false := by rfl) :
    PE X (.Call (.Attribute o name apos) (e :: es) [] cpos) (tBM X.K T r to t) := by
  intro pins s σ H Q I h
  refine wpAny_Call_method_late hbase hfew hline rfl (thn (ho pins s σ H _ I h) fun v s1 ⟨x, H1, I1, r1, ty, q1⟩ => ?_)
  obtain ⟨h1, h2⟩ := tyV_is I1 r1 ty
  refine ⟨T, id, pa, slot, hty, h1, h2, ?_⟩
  have hA := ha cpos pins s1 σ H1 _ I1 q1
  rw [hs] at hA ⊢
  refine Calls.callWith_builtin (by show (false || (backTo cpos (starEach es X.env)).any (·.1)) = false; rw [hplain] <;> rfl) (Calls.evalArgs_plain ?_)
  exact thn hA fun us s2 ⟨vs, H2, I2, r2, q2⟩ => hm pins s2 σ H2 x vs v us Q I2 r1 r2 q2
end
end L2
namespace L2
open PySem PySem.Spec PyProof.Rows
def MtM (X : Cx) (id : String) (r : V → List V → Hp → VK → Prop) : Prop :=
  ∀ (pins : List (Addr × Obj)) (s : Shared) (σ : St) (H : Hp) (x : V) (xs : List V) (v : Value) (us : List Value) (Q : VK), Inv X pins σ H s → RelV x v → Vals xs us → r x xs H Q →
    wpAny (model X.prog X.w) X.A (call (.builtin id) (v :: us)) (EP X pins σ Q) X.xe s
theorem Vals.one : ∀ {x : V} {us : List Value}, Vals [x] us → ∃ u, us = [u] ∧ RelV x u
  | _, _, .cons r .nil => ⟨_, rfl, r⟩
theorem Vals.two : ∀ {x y : V} {us : List Value}, Vals [x, y] us → ∃ u v, us = [u, v] ∧ RelV x u ∧ RelV y v
  | _, _, _, .cons r (.cons q .nil) => ⟨_, _, rfl, r, q⟩
theorem Vals.zero : ∀ {us : List Value}, Vals [] us → us = []
  | _, .nil => rfl
theorem Vals.eraseIdx : ∀ {xs : List V} {us : List Value} (i : Nat), Vals xs us → Vals (xs.eraseIdx i) (us.eraseIdx i)
  | _, _, _, .nil => .nil
  | _, _, 0, .cons _ t => t
  | _, _, i + 1, .cons r t => .cons r (Vals.eraseIdx i t)
theorem Vals.reverse {xs : List V} {us : List Value} (h : Vals xs us) : Vals xs.reverse us.reverse := by
  induction h with
  | nil => exact .nil
  | cons r t ih => rw [List.reverse_cons, List.reverse_cons]; exact Vals.append ih (.cons r .nil)
section
variable {X : Cx} {pins : List (Addr × Obj)} {σ : St} {H : Hp} {s : Shared} {l b : Addr} {xs ys zs : List V}
theorem Inv.lset {its its' : List Value} {n : Nat} {f : Array Value → Array Value} {t' : Nat} (I : Inv X pins σ H s) (hH : H l = some (.lst xs))
    (e : s.heap.get? l = some { cls := .type "list", data := .seq its.toArray n }) (hf : f its.toArray = its'.toArray) (hv : Vals ys its') (hz : ys.length ≤ sizeLine) :
    Inv X pins σ (upd H l (.lst ys)) { s with heap := s.heap.update l (Obj.mapSeq f), toks := t' } := by
  have q := PySem.IsL.update e f
  rw [hf] at q
  refine I.write (x := l) (e := l) (by rw [hH]; exact trivial) (.inl rfl) (fun b' u hb hu => (Heap.get?_update_other s.heap (Obj.mapSeq f) (Ne.symm hb)).trans hu) ⟨_, q⟩ ?_
  exact ⟨hz, its', _, hv, q⟩
theorem Inv.lnew {its : List Value} {t' : Nat} (I : Inv X pins σ H s) (hv : Vals ys its) (hz : ys.length ≤ sizeLine) :
    Inv X pins σ (upd H s.heap.objs.size (.lst ys)) { s with heap := s.heap.push { cls := .type "list", data := .seq its.toArray }, toks := t' } :=
  I.laid (fun _ _ q => Heap.get?_push_of_some _ q) (Nat.le_refl _) ⟨hz, its, 0, hv, Heap.get?_push_size _ rfl⟩
theorem Inv.fresh (I : Inv X pins σ H s) : H s.heap.objs.size = none := I.hok.fresh (Nat.le_refl _)
theorem Inv.lstM (I : Inv X pins σ H s) (hH : H l = some (.lst xs)) : xs.length ≤ sizeLine ∧ ∃ (its : List Value) (n : Nat), Vals xs its ∧ xs.length = its.length ∧ s.heap.get? l = some { cls := .type "list", data := .seq its.toArray n } := by
  obtain ⟨z, its, n, r, e⟩ := I.hok l _ hH
  exact ⟨z, its, n, r, r.length, e⟩
theorem notLongL {n : Nat} (h : n ≤ sizeLine) : Builtin.List.listTooLong n = false := by
  unfold Builtin.List.listTooLong
  exact decide_eq_false (by omega)
end
section
variable {X : Cx}
def rAppend : V → List V → Hp → VK → Prop := fun x vs H Q => ∃ l xs y, x = .ref l ∧ vs = [y] ∧ H l = some (.lst xs) ∧ xs.length < sizeLine ∧ Q .non (upd H l (.lst (xs ++ [y])))
theorem mt_append : MtM X "list.append" rAppend := by
  intro pins s σ H x vs v us Q I rx rv h
  obtain ⟨l, xs, y, rfl, rfl, hH, hz, q⟩ := h
  cases rx
  obtain ⟨u, rfl, ru⟩ := rv.one
  obtain ⟨z, its, n, r, hl, e⟩ := I.lstM hH
  refine call_meets F.slot_list_append ⟨_, e, rfl⟩ F.entry_list_append (F.args_list_append_2 _ _) (PySem.list_append l its.toArray n u (by rw [List.size_toArray]; omega)) ⟨e, ?_⟩
  refine ⟨.non, _, I.lset (its' := its ++ [u]) hH e (by simp) (r.append (.cons ru .nil)) ?_, rfl, q⟩
  rw [List.length_append, List.length_singleton]
  omega
def rExtend : V → List V → Hp → VK → Prop := fun x vs H Q => ∃ l b xs zs, x = .ref l ∧ vs = [.ref b] ∧ H l = some (.lst xs) ∧ H b = some (.lst zs) ∧ xs.length + zs.length ≤ sizeLine ∧ Q .non (upd H l (.lst (xs ++ zs)))
theorem mt_extend : MtM X "list.extend" rExtend := by
  intro pins s σ H x vs v us Q I rx rv h
  obtain ⟨l, b, xs, zs, rfl, rfl, hH, hB, hz, q⟩ := h
  cases rx
  obtain ⟨u, rfl, ru⟩ := rv.one
  cases ru
  obtain ⟨z, its, n, r, hl, e⟩ := I.lstM hH
  obtain ⟨z2, its2, n2, r2, hl2, e2⟩ := I.lstM hB
  have hsz : its.toArray.size + its2.toArray.size ≤ sizeLine := by rw [List.size_toArray, List.size_toArray]; omega
  have hlong : ¬ (!its.toArray.isEmpty && Builtin.List.listTooLong (its.toArray.size + its2.toArray.size)) = true := by
    rw [notLongL hsz, Bool.and_false]
    exact Bool.false_ne_true
  refine call_meets F.slot_list_extend ⟨_, e, rfl⟩ F.entry_list_extend (F.args_list_extend_2 _ _)
    (AutoSeq1.list_extend_list_list_0 l its.toArray n b its2.toArray n2 hlong (by rw [List.size_toArray]; omega) (by omega)) ⟨e, e2, ?_⟩
  refine ⟨.non, _, I.lset (its' := its ++ its2) hH e (by simp) (r.append r2) ?_, rfl, q⟩
  rw [List.length_append]
  omega
def rCat : R2 := fun x y H Q => ∃ l b xs zs, x = .ref l ∧ y = .ref b ∧ H l = some (.lst xs) ∧ H b = some (.lst zs) ∧ xs.length + zs.length ≤ sizeLine ∧ ∀ p, H p = none → Q (.ref p) (upd H p (.lst (xs ++ zs)))
theorem op_cat : OpR X (binaryOp .Add) rCat := by
  intro pins s σ H x y v u Q I rx ry h
  obtain ⟨l, b, xs, zs, rfl, rfl, hH, hB, hz, q⟩ := h
  cases rx
  cases ry
  obtain ⟨z, its, n, r, hl, e⟩ := I.lstM hH
  obtain ⟨z2, its2, n2, r2, hl2, e2⟩ := I.lstM hB
  refine PySem.P.add_list e e2 ?_ (by rw [List.size_toArray, List.size_toArray]; omega)
  have ea : its.toArray ++ its2.toArray = (its ++ its2).toArray := by simp
  rw [ea]
  exact ⟨.ref _, _, I.lnew (t' := s.toks) (r.append r2) (by rw [List.length_append]; omega), rfl, q _ I.fresh⟩
end
section
variable {prog : Program} {w : World} {A : Around} {E : Value → Shared → Prop} {s : Shared}
end
section
variable {X : Cx}
end
end L2
namespace Att
open PySem PySem.W PySem.Calls PyProof.Rows
theorem ints_of_wellAll {P : Params} {h : Heap} : ∀ (ns : List Int) (vs : List Value), WellAll P h vs (ns.map WData.int) → IntsAre vs ns := by
  intro ns
  induction ns with
  | nil =>
    intro vs w
    rw [List.map_nil] at w
    cases w
    exact .nil
  | cons n ns ih =>
    intro vs w
    rw [List.map_cons] at w
    cases w with
    | cons a b =>
      cases a
      exact .cons _ _ (ih _ b)
theorem script_of {l : OpenLaw} {n : Nat} (hn : l.most = some n) {P : Params} {h : Heap} {args : List WData} {vals : List Value}
    (hpre : l.row.toRowW.claim.pre args = true) (hwl : WellAll P h vals args) :
    ∃ a vs ns, vals = [Value.ref a] ∧ args = [WData.list (ns.map WData.int)] ∧ h.get? a = some { cls := .type "list", data := .seq vs.toArray } ∧ IntsAre vs ns ∧ ns.length ≤ n := by
  have hsh : WShape.hasAll [] args [.list .int] = true := (pre_splitW hpre).1
  have hc : l.pre.holds [] { args := args } = true := (pre_splitW hpre).2
  obtain ⟨d, r, rfl, h1, h2⟩ := hasAllW_cons hsh
  obtain rfl := hasAllW_nil h2
  obtain ⟨xs, rfl, h3⟩ := hasW_list h1
  obtain ⟨ns, rfl⟩ := items_int h3
  have hlen : ns.length ≤ n := by
    unfold OpenLaw.pre at hc
    have h4 : (WTm.not (.lt (.lit (.int (n : Int))) (.len (.arg 0)))).holds [] { args := [.list (ns.map .int)] } = true := by
      have h4 := (holds_andW hc).1
      rw [hn] at h4
      exact h4
    have h5 := condW_of h4 (w_not (w_lt w_lit (w_len_list (w_arg rfl))))
    rw [List.length_map] at h5
    refine Nat.le_of_not_lt fun q => ?_
    have q' : (n : Int) < ((ns.length : Nat) : Int) := by omega
    first
      | (rw [decide_eq_true q'] at h5; exact absurd h5 (by decide))
      | (simp at h5; omega)
  cases hwl with
  | cons w1 w2 =>
    cases w2
    cases w1 with
    | list ho hall => exact ⟨_, _, ns, rfl, rfl, ho, ints_of_wellAll ns _ hall, hlen⟩
theorem post_true (l : OpenLaw) (args : List WData) : l.row.toRowW.claim.post args (.bool true) args = true :=
  postW_of (r := l.row.toRowW) (X := (true == true))
    (show WShape.has [] (.bool true) .bool = true by first | rfl | decide | simp [WShape.has, WShape.arms, WShape.armsAll])
    (show (WTm.eq .res (.lit (.bool true))).value [] { args := args, res := some (.bool true), after := args } = some (.bool (true == true)) from w_eq_bool (w_res rfl) w_lit) rfl
theorem attach_call {l : OpenLaw} {n : Nat} {q : Program} {loose : List Str} {XP : (Str → Option Value) → Heap → Prop} {YP : World → Heap → Prop} {d : DefRec}
    (hn : l.most = some n) (hdf : d.params.defaults = [])
    (call : ∀ (w : World) (s₀ s₁ : Shared) (mg mb : Str → Option Value) (fa : Addr) (o : Obj) (pm cd doc : Value) (a : Addr) (vs : List Value) (ns : List Int),
      Ground q loose [] XP w s₀ mg mb s₁.heap → YP w s₁.heap →
      s₁.heap.get? fa = some o → o.data = .func (docDef d.name d.params d.body d.scope pm cd doc) → s₁.heap.CodeRec cd d.name → mg d.name = some (.ref fa) →
      s₁.heap.get? a = some { cls := .type "list", data := .seq vs.toArray } → IntsAre vs ns → ns.length ≤ n → s₁.gens = #[] →
      codeAny (model l.prog w) callerA (.call (.ref fa) ⟨[.ref a], []⟩) (fun r s' => r = .ok (.ret (.bool true)) ∧ OldK s₁.heap s'.heap ∧ s'.os = s₁.os ∧ AllBare s'.gens) s₁) :
    WalkO q loose XP YP l.row.toRowW d [] (fun f vs => PySem.call f vs) := by
  intro w s₀ s₁ mg mb G Y fa o pm cd doc dV kV ho hd hcd hD hmg hg args vals as hpre hlay hrd hwl hlo
  obtain rfl : dV = .none := Dflts.none hD hdf
  obtain rfl : kV = .none := Dflts.noKw hD
  obtain ⟨a, vs, ns, rfl, rfl, hobj, hints, hlen⟩ := script_of hn hpre hwl
  refine enter_call (codeAny_mono (call w s₀ s₁ mg mb fa o pm cd doc a vs ns G Y ho (fd_plain hd) hcd hmg hobj hints hlen hg) fun r s' hq => ?_)
  obtain ⟨rfl, h2, h3, h4⟩ := hq
  exact ⟨.inl ⟨.bool true, .bool true, [], rfl, fun _ => rfl, .bool true, post_true l _, fun _ => ⟨List.Pairwise.nil, fun _ hm => (nomatch hm)⟩⟩, h2, h3, h4⟩
section
variable {prog : Program} {w : World} {A : Around} {E : Value → Shared → Prop} {s : Shared} {K : Frag}
end
end Att
namespace L2
open PySem PySem.Spec PyProof.Rows
theorem vals_ints : ∀ {vs : List Value} {ns : List Int}, IntsAre vs ns → Vals (ns.map V.int) vs
  | _, _, .nil => .nil
  | _, _, .cons n t h => .cons ⟨t, rfl⟩ (vals_ints h)
def Only (H : Hp) : Prop := ∀ b, H b = none ∨ ∃ o xs, H b = some (.frz o (.lst xs))
theorem law_call {P : Program} {w : World} {K : PySem.W.Frag} {mg mb : Str → Option Value} {CX : CXT} {k : Nat} {fa a : Addr} {fd : FuncData} {x : Str} {sp : Sp} {s₁ : Shared} {vs : List Value} {ns : List Int}
    (KX : K.In s₁.heap) (hns : s₁.heap.Ns mainGlobals mg) (hb : s₁.heap.Ns builtinsNs mb) (hbb : ∀ x : Str, x ≠ "__name__" → mb x = bootBuiltins x) (hlim : s₁.heap.NoLimit) (hg : s₁.gens = #[])
    (ha : s₁.heap.get? a = some { cls := .type "list", data := .seq vs.toArray }) (hi : IntsAre vs ns) (hl : ns.length ≤ sizeLine) (hr : Room k callerA)
    (F : ∀ base : Heap, K.In base → base.Ns mainGlobals mg → FnOk P w K mg base CX k fa fd [x] sp) (hbind : ∀ (s : Shared) (u : Value), BindsTo s fd ⟨[u], []⟩ [(x, u)])
    (hsp : ∀ H : Hp, Only H → SqL K H a (ns.map V.int) → sp [.ref a] H (fun v _ => v = .bl true) fun _ _ _ => False)
    (hCX : ∀ H e s', CX [] H s₁ (fun _ _ _ => False) e s' → False) :
    codeAny (model P w) callerA (.call (.ref fa) ⟨[.ref a], []⟩) (fun r s' => r = .ok (.ret (.bool true)) ∧ OldK s₁.heap s'.heap ∧ s'.os = s₁.os ∧ AllBare s'.gens) s₁ := by
  have rv := vals_ints hi
  have lenV := hi.length
  -- from an abstract heap in which nothing but the script may be tracked
  have core : ∀ H : Hp, Only H → SqL K H a (ns.map V.int) → HOk P w H s₁.heap → (∀ b, H b ≠ none → b = a) → (H a ≠ none → K.lookup a = none) →
      codeAny (model P w) callerA (.call (.ref fa) ⟨[.ref a], []⟩) (fun r s' => r = .ok (.ret (.bool true)) ∧ OldK s₁.heap s'.heap ∧ s'.os = s₁.os ∧ AllBare s'.gens) s₁ := by
    intro H hO hS hok hA hK
    have base_of : ∀ {b : Addr} {o : Obj}, s₁.heap.get? b = some o → H b = none → (hidT s₁.heap H).get? b = some o := fun e n => hidT_get e n
    have noA : ∀ {b : Addr} {o : Obj} {es : Array DictEntry} {ep : Nat}, s₁.heap.get? b = some o → o.data = .dict es ep → H b = none := fun {b o es ep} e d => by
      cases q : H b with
      | none => rfl
      | some u =>
        have e' : b = a := hA b (by rw [q]; simp)
        subst e'
        rw [ha] at e; cases e
        have d' : Data.seq vs.toArray _ = Data.dict es ep := d
        cases d'
    have nsK : ∀ {b : Addr} {m : Str → Option Value}, s₁.heap.Ns b m → (hidT s₁.heap H).Ns b m := fun {b m} ⟨o, es, ep, e, d, r⟩ => ⟨o, es, ep, base_of e (noA e d), d, r⟩
    have hKb : K.In (hidT s₁.heap H) := fun b o e => base_of (KX b o e) (by
      cases q : H b with
      | none => rfl
      | some u =>
        have e' : b = a := hA b (by rw [q]; simp)
        subst e'
        rw [hK (by rw [q]; simp)] at e; cases e)
    have hM : Mod K mg (hidT s₁.heap H) := ⟨hKb, nsK hns, ⟨mb, nsK hb, hbb⟩, let ⟨mc, h1, h2⟩ := hlim; ⟨mc, nsK h1, h2⟩⟩
    have e0 : Env0 P w K mg (hidT s₁.heap H) callerA [] s₁ H := ⟨rfl, hM, fun b o e => of_hidT e, Nat.le_of_eq (hidT_size _ _), trivial, fun b hb => absurd (show b ∈ ([] : List Addr) from hb) (by simp), hok, .of_eq hg⟩
    refine codeAny_mono ((F _ hKb (nsK hns)).run callerA [] s₁ H ⟨[.ref a], []⟩ [.ref a] [.ref a] _ _ hr e0 (hbind s₁ (.ref a)) (.cons rfl .nil) (hsp H hO hS)) fun r s' h => ?_
    cases r with
    | error e => exact (hCX H e s' h).elim
    | ok fl =>
      cases fl with
      | next => exact False.elim h
      | brk => exact False.elim h
      | cont => exact False.elim h
      | ret u =>
        obtain ⟨v, H', os, bare, un, hok', r', q⟩ := h
        have q' : v = .bl true := q
        subst q'
        obtain rfl : u = Value.bool true := r'
        refine ⟨rfl, OldK.of_keep fun b o e => ?_, os, bare⟩
        cases q : H b with
        | none => exact un.keep b o e q (by intro z; exact absurd (show b ∈ ([] : List Addr) from z) (by simp)) (by simp)
        | some u =>
          rcases hO b with z | ⟨ob, xs, z⟩
          · rw [q] at z; cases z
          · have z2 := un.frzs b ob _ z
            obtain ⟨e1, _⟩ := hok b _ z
            obtain ⟨e2, _⟩ := hok' b _ z2
            rw [e] at e1; cases e1
            exact e2
  cases hk : K.lookup a with
  | some o =>
    -- the script is one of the module's own objects
    have e := KX a o hk
    rw [ha] at e
    cases e
    refine core (fun _ => none) (fun _ => .inl rfl) (.inr ⟨_, vs.toArray, _, hk, rfl, rfl, rfl, by rw [List.size_toArray, lenV]; exact hl, by simpa using rv⟩) (fun b u z => by have z' : (none : Option HO) = some u := z; cases z') (fun b z => absurd rfl z) fun z => absurd rfl z
  | none =>
    refine core (fun b => if b = a then some (.frz { cls := .type "list", data := .seq vs.toArray } (.lst (ns.map V.int))) else none) (fun b => ?_) (.inl (.inr ⟨{ cls := .type "list", data := .seq vs.toArray }, if_pos rfl⟩)) (fun b u z => ?_) (fun b z => ?_) fun _ => hk
    · by_cases hb : b = a
      · exact .inr ⟨_, _, if_pos hb⟩
      · exact .inl (if_neg hb)
    · by_cases hb : b = a
      · have z' := (if_pos hb).symm.trans z
        cases z'
        subst hb
        exact ⟨ha, by rw [List.length_map]; exact hl, vs, _, rv, ha⟩
      · have z' := (if_neg hb).symm.trans z
        cases z'
    · by_cases hb : b = a
      · exact hb
      · exact absurd (if_neg hb) z
end L2
namespace L2
open PySem PySem.Spec PyProof.Rows
theorem walk_of {l : PySem.W.OpenLaw} {n k : Nat} {q : Program} {loose : List Str} {XP : (Str → Option Value) → Heap → Prop} {YP : World → Heap → Prop} {d : DefRec} {K : Params → PySem.W.Frag} {CX : World → CXT} {sp : World → Sp} {x : Str}
    (hn : l.most = some n) (hn2 : n ≤ sizeLine) (hdf : d.params.defaults = []) (hr : Room k callerA)
    (hY : ∀ (w : World) (h : Heap), YP w h → (K w.params).In h)
    (F : ∀ (w : World) (mg : Str → Option Value) (fa : Addr) (h : Heap), (K w.params).In h → h.Ns mainGlobals mg → mg d.name = some (.ref fa) →
      ∃ fd : FuncData, (∀ (s : Shared) (u : Value), BindsTo s fd ⟨[u], []⟩ [(x, u)]) ∧
        ∀ base : Heap, (K w.params).In base → base.Ns mainGlobals mg → FnOk l.prog w (K w.params) mg base (CX w) k fa fd [x] (sp w))
    (hsp : ∀ (w : World) (H : Hp) (a : Addr) (ns : List Int), ns.length ≤ n → Only H → SqL (K w.params) H a (ns.map V.int) → sp w [.ref a] H (fun v _ => v = .bl true) fun _ _ _ => False)
    (hCX : ∀ (w : World) (H : Hp) (s : Shared) (e : Value) (s' : Shared), CX w [] H s (fun _ _ _ => False) e s' → False) :
    PySem.W.WalkO q loose XP YP l.row.toRowW d [] (fun f vs => PySem.call f vs) := by
  refine Att.attach_call hn hdf fun w s₀ s₁ mg mb fa o pm cd doc a vs ns G Y ho hd hcd hmg hobj hints hlen hg => ?_
  have KX := hY w _ Y
  obtain ⟨fd, hb, hF⟩ := F w mg fa _ KX G.T.g hmg
  exact law_call KX G.T.g G.T.b G.T.builtins G.T.nolimit hg hobj hints (Nat.le_trans hlen hn2) hr hF hb (fun H hO hS => hsp w H a ns hlen hO hS) fun H e s' => hCX w H s₁ e s'
end L2
namespace L2
open PySem PySem.Spec PyProof.Rows
def inClass (s : Stmt) (j : Nat) : Stmt := match s with
  | .ClassDef _ _ _ body _ _ _ _ _ _ _ => body.getD j (.Pass ⟨0, 0, 0, 0⟩)
  | _ => .Pass ⟨0, 0, 0, 0⟩
def defArgs (s : Stmt) : Arguments := match s with
  | .FunctionDef _ a _ _ _ _ _ _ _ _ => a
  | _ => { posonlyargs := [], args := [], vararg := none, kwonlyargs := [], kw_defaults := [], kwarg := none, defaults := [] }
def defBody (s : Stmt) : List Stmt := match s with
  | .FunctionDef _ _ b _ _ _ _ _ _ _ => b
  | _ => []
def defScope (s : Stmt) : Scope := match s with
  | .FunctionDef _ _ _ _ _ _ sc _ _ _ => sc
  | _ => { kind := .function, names := [], isGenerator := false, isCoroutine := false }
abbrev CX0 : CXT := fun _ _ _ _ _ _ => False
abbrev E0 : XK := fun _ _ _ => False
structure Fun (K : PySem.W.Frag) (x qual : Str) (st : Stmt) (f : Addr) (fd : FuncData) : Prop where
  ex : ∃ (oc : Value) (od : Option Addr) (kV doc pm : Value) (an : Option Addr) (cdv ct : Value) (osl : Array (Option Value)),
    fd = PySem.W.fnOf x qual (defArgs st) (defBody st) (defScope st) .none kV doc pm an cdv ct ∧ K.lookup f = some ⟨oc, od, .func fd, osl⟩ ∧ PySem.W.codeIn K cdv qual = true
  kp : PySem.W.keepIn K (.ref f) = true
section
variable {P : Program} {w : World} {K : PySem.W.Frag} {mg : Str → Option Value} {base : Heap}
theorem Fun.ok {x qual : Str} {st : Stmt} {f : Addr} {fd : FuncData} {N ps : List Str} {k : Nat} {sp : Sp} (F : Fun K x qual st f fd) (S : FnScope N ps (defScope st)) (len : ∀ vs H Q E, sp vs H Q E → vs.length = ps.length)
    (hbody : ∀ (cdv : Value) (A : Around) (outer : List Env) (s : Shared) (H : Hp) (vs : List V) (Q : VK) (E : XK), Room k (A.deeper (envOfC qual (defScope st) s.heap.objs.size f cdv)) → sp vs H Q E →
      ∃ t, PSs (cxOf CX0 P w K mg base N qual (defScope st) f cdv A outer s H E).nox (defBody st) t ∧ t { nx := fun _ H' => Q .non H', rt := Q } (start N vs) H) : FnOk P w K mg base CX0 (k + 1) f fd ps sp := by
  obtain ⟨oc, od, kV, doc, pm, an, cdv, ct, osl, rfl, lk, hcd⟩ := F.ex
  refine fn_of lk hcd S len fun A outer s H vs Q E hr hsp => ?_
  obtain ⟨t, h, q⟩ := hbody cdv A outer s H vs Q E hr hsp
  exact ⟨t, h.nox, q⟩
theorem Fun.binds {x qual : Str} {st : Stmt} {f : Addr} {fd : FuncData} {ps : List Str} (F : Fun K x qual st f fd)
    (h : ∀ (kV doc pm : Value) (an : Option Addr) (cdv ct : Value) (us : List Value), us.length = ps.length → bindArgs (PySem.W.fnOf x qual (defArgs st) (defBody st) (defScope st) .none kV doc pm an cdv ct) ⟨us, []⟩ = pure (ps.zip us)) : Binds K fd ps [] := by
  obtain ⟨oc, od, kV, doc, pm, an, cdv, ct, osl, rfl, lk, hcd⟩ := F.ex
  exact .all (h kV doc pm an cdv ct)
theorem fun_mk {x qual : Str} {st : Stmt} {f : Addr} {oc : Value} {od an : Option Addr} {osl : Array (Option Value)} {kV doc pm cdv ct : Value} (l : K.lookup f = some ⟨oc, od, .func (PySem.W.fnOf x qual (defArgs st) (defBody st) (defScope st) .none kV doc pm an cdv ct), osl⟩)
    (c : PySem.W.codeIn K cdv qual = true) (k : PySem.W.keepIn K (.ref f) = true) : Fun K x qual st f (PySem.W.fnOf x qual (defArgs st) (defBody st) (defScope st) .none kV doc pm an cdv ct) := ⟨⟨oc, od, kV, doc, pm, an, cdv, ct, osl, rfl, l, c⟩, k⟩
end
section
variable {X : Cx}
theorem pv (i : Nat) {x : Str} {pos : Pos} (hN : X.N[i]? = some x := by rfl) (hv : Vis X.env.scope x := by first | exact Or.inl rfl | exact Or.inr (Or.inl rfl) | exact Or.inr (Or.inr rfl)) (hd : (x == ("__debug__" : Str)) = false := by decide)
    (hcd : (x == ("__classdict__" : Str)) = false := by decide) : PE X (.Name x pos) (tVar i) := pe_var hN hv hd hcd
end
theorem iteF {A B : Prop} (h : B) : if false = true then A else B := by
  rw [if_neg Bool.false_ne_true]
  exact h
theorem iteT {A B : Prop} (h : A) : if true = true then A else B := by
  rw [if_pos rfl]
  exact h
theorem ite2 {c A B : Prop} [Decidable c] (h1 : c → A) (h2 : ¬ c → B) : if c then A else B := by
  by_cases h : c
  · rw [if_pos h]
    exact h1 h
  · rw [if_neg h]
    exact h2 h
def Same (H H' : Hp) : Prop := ∀ b o, H b = some o → H' b = some o
theorem Same.refl (H : Hp) : Same H H := fun _ _ h => h
theorem Same.trans {H H1 H2 : Hp} (a : Same H H1) (b : Same H1 H2) : Same H H2 := fun c o h => b c o (a c o h)
theorem Same.free {H H' : Hp} (e : Same H H') {l : Addr} (h : H' l = Option.none) : H l = Option.none := by
  cases q : H l with
  | none => rfl
  | some o =>
    rw [e l o q] at h
    cases h
theorem Same.seq {K : PySem.W.Frag} {H H' : Hp} {a : Addr} {xs : List V} (e : Same H H') (h : SqL K H a xs) : SqL K H' a xs := by
  rcases h with (h | ⟨o, h⟩) | h
  · exact .inl (.inl (e _ _ h))
  · exact .inl (.inr ⟨o, e _ _ h⟩)
  · exact .inr h
end L2
set_option maxRecDepth 100000
namespace L2
open PySem PySem.Spec PyProof.Rows
def closG (env : Env) : List (Str × NameKind) → List (Str × Addr) → List (Str × Addr)
  | [], cs => cs
  | (n, k) :: r, cs => closG env r (if k == .free then (n, (env.cells.lookup n).getD 0) :: cs else cs)
theorem closG_for {env : Env} : ∀ (names : List (Str × NameKind)) (cs : List (Str × Addr)), (∀ p ∈ names, p.2 = .free → ∃ c, env.cells.lookup p.1 = some c) →
    (forIn names cs (fun (x : Str × NameKind) (r : List (Str × Addr)) => (do if x.2 == .free then pure (.yield ((x.1, ← cellOf env x.1) :: r)) else pure (.yield r) : Sem (ForInStep (List (Str × Addr)))))) = (pure (closG env names cs) : Sem _)
  | [], cs, _ => rfl
  | (n, k) :: r, cs, h => by
    rw [List.forIn_cons]
    by_cases hk : (k == NameKind.free) = true
    · obtain ⟨c, e⟩ := h (n, k) List.mem_cons_self (by simpa using hk)
      have ec : cellOf env n = pure c := by unfold cellOf; rw [show env.cells.lookup n = some c from e]
      simp only [hk, if_true, ec, pure_bind]
      rw [closG_for r _ fun p hp => h p (List.mem_cons_of_mem _ hp)]
      simp only [closG, hk, if_true, show env.cells.lookup n = some c from e, Option.getD_some]
    · simp only [hk, if_false, pure_bind, Bool.false_eq_true]
      rw [closG_for r _ fun p hp => h p (List.mem_cons_of_mem _ hp)]
      simp only [closG, hk, if_false, Bool.false_eq_true]
theorem closureFor_G {scope : Scope} {env : Env} (h : ∀ p ∈ scope.names, p.2 = .free → ∃ c, env.cells.lookup p.1 = some c) : closureFor scope env = pure (closG env scope.names []) := by
  rw [← closG_for scope.names [] h]
  simp only [closureFor]
  rw [bind_pure]
theorem closG_look {env : Env} {x : Str} {c : Addr} : ∀ (names : List (Str × NameKind)) (cs : List (Str × Addr)), (∀ p ∈ names, p.2 = .free → ∃ c, env.cells.lookup p.1 = some c) →
    (closG env names cs).lookup x = some c → cs.lookup x = some c ∨ env.cells.lookup x = some c
  | [], cs, _, h => .inl h
  | (n, k) :: r, cs, hf, h => by
    have hf' : ∀ p ∈ r, p.2 = .free → ∃ c, env.cells.lookup p.1 = some c := fun p hp => hf p (List.mem_cons_of_mem _ hp)
    unfold closG at h
    rcases closG_look r _ hf' h with q | q
    · by_cases hk : (k == NameKind.free) = true
      · rw [if_pos hk] at q
        obtain ⟨c', e⟩ := hf (n, k) List.mem_cons_self (by simpa using hk)
        have e : env.cells.lookup n = some c' := e
        rw [e, Option.getD_some, List.lookup_cons] at q
        cases hx : (x == n) with
        | true =>
          rw [hx] at q
          have : x = n := by simpa using hx
          subst this
          cases q
          exact .inr e
        | false => rw [hx] at q; exact .inl q
      · rw [if_neg hk] at q; exact .inl q
    · exact .inr q
theorem closG_has {env : Env} {x : Str} : ∀ (names : List (Str × NameKind)) (cs : List (Str × Addr)), ((x, NameKind.free) ∈ names ∨ ∃ c, cs.lookup x = some c) → ∃ c, (closG env names cs).lookup x = some c
  | [], cs, h => by
    rcases h with h | h
    · cases h
    · exact h
  | (n, k) :: r, cs, h => by
    unfold closG
    refine closG_has r _ ?_
    rcases h with h | ⟨c, h⟩
    · rcases List.mem_cons.mp h with e | h
      · cases e
        right
        rw [if_pos (by rfl), List.lookup_cons]
        simp
      · exact .inl h
    · right
      split
      · rw [List.lookup_cons]
        cases (x == n) with
        | true => exact ⟨_, rfl⟩
        | false => exact ⟨c, h⟩
      · exact ⟨c, h⟩
theorem relabel_free {env : Env} : ∀ {names : List (Str × NameKind)} {x : Str}, names.lookup x = some .free →
    ((names.map fun (n, k) => if (k == NameKind.free && env.scope.kind == .function && env.kindOf n == some .cell) then (n, NameKind.cell) else (n, k)).lookup x = some .cell ∨
     (names.map fun (n, k) => if (k == NameKind.free && env.scope.kind == .function && env.kindOf n == some .cell) then (n, NameKind.cell) else (n, k)).lookup x = some .free)
  | [], _, h => by simp at h
  | (n, k) :: r, x, h => by
    have ih := @relabel_free env r x
    rw [List.map_cons]
    cases hx : x == n with
    | true =>
      simp only [List.lookup_cons, hx] at h
      cases h
      dsimp only
      split
      · left; rw [List.lookup_cons, hx]
      · right; rw [List.lookup_cons, hx]
    | false =>
      simp only [List.lookup_cons, hx] at h
      dsimp only
      split
      · simp only [List.lookup_cons, hx]; exact ih h
      · simp only [List.lookup_cons, hx]; exact ih h
theorem relabel_inv {env : Env} : ∀ {names : List (Str × NameKind)} {x : Str} {k : NameKind}, k = .cell ∨ k = .free →
    (names.map fun (n, k) => if (k == NameKind.free && env.scope.kind == .function && env.kindOf n == some .cell) then (n, NameKind.cell) else (n, k)).lookup x = some k → ∃ k', (k' = .cell ∨ k' = .free) ∧ (x, k') ∈ names
  | [], _, _, _, h => by simp at h
  | (n, k) :: r, x, k', hk, h => by
    have ih := @relabel_inv env r x k' hk
    rw [List.map_cons] at h
    cases hx : x == n with
    | true =>
      have : x = n := by simpa using hx
      subst this
      dsimp only at h
      split at h
      · rename_i hc
        rw [List.lookup_cons, hx] at h
        refine ⟨k, .inr ?_, List.mem_cons_self⟩
        simp only [Bool.and_eq_true] at hc
        simpa using hc.1.1
      · rw [List.lookup_cons, hx] at h
        cases h
        exact ⟨_, hk, List.mem_cons_self⟩
    | false =>
      dsimp only at h
      have h' : (r.map fun (n, k) => if (k == NameKind.free && env.scope.kind == .function && env.kindOf n == some .cell) then (n, NameKind.cell) else (n, k)).lookup x = some k' := by
        split at h
        · simpa only [List.lookup_cons, hx] using h
        · simpa only [List.lookup_cons, hx] using h
      obtain ⟨k2, a, b⟩ := ih h'
      exact ⟨k2, a, List.mem_cons_of_mem _ b⟩
def cxComp (X : Cx) (scope : Scope) (N : List Str) (fp : List Addr) (s : Shared) (H : Hp) : Cx :=
  { X with N := N, s₀ := s, H₀ := H, env := compEnvC scope (closG X.env scope.names []) s.heap.objs.size X.env, outer := X.stack, stack := X.stack, ex := fp, fn := fun _ => false, pn := [], xe := fun _ _ => False }
def seen (js : List (Option Nat)) (σ : St) : St := js.map fun o => o.bind fun j => (σ[j]?).join
def compChk (X : Cx) (scope : Scope) (N : List Str) (js : List (Option Nat)) : Bool :=
  (scope.names.all fun p => p.2 != .cell && (p.2 != .free || X.env.kindOf p.1 == some .cell) && (p.2 != .local || scope.names.lookup p.1 == some .local)) &&
  (js.length == N.length) && ((N.zip js).all fun p => match p.2 with | none => true | some j => X.N[j]? == some p.1 && scope.names.lookup p.1 == some .free && X.env.kindOf p.1 == some .cell)
section
variable {X : Cx} {tg iter elt : Expr} {scope : Scope} {N : List Str} {js : List (Option Nat)} {pos : Pos}
theorem comp_start {pins : List (Addr × Obj)} {σ : St} {H : Hp} {s : Shared} {h' : Heap} {fp : List Addr} {t' : Nat} (I : Inv X pins σ H s) (hk : scope.kind = .function) (hck : compChk X scope N js = true)
    (hf : ∀ b ∈ fp, FpOk X pins H b) (hfl : ∀ b ∈ fp, b < s.heap.objs.size) (hns : h'.Ns s.heap.objs.size (fun _ => none)) (kp : ∀ b o, s.heap.get? b = some o → h'.get? b = some o) :
    Inv (cxComp X scope N fp s H) [] (seen js σ) H { s with heap := h', toks := t' } := by
  unfold compChk at hck
  simp only [Bool.and_eq_true] at hck
  obtain ⟨⟨h1, h2⟩, h3⟩ := hck
  have hlen : js.length = N.length := by simpa using h2
  have g1 : ∀ p ∈ scope.names, p.2 ≠ .cell ∧ (p.2 = .free → X.env.kindOf p.1 = some .cell) := fun p hp => by
    have q := List.all_eq_true.mp h1 p hp
    simp only [Bool.and_eq_true, bne_iff_ne, ne_eq, Bool.or_eq_true, beq_iff_eq] at q
    exact ⟨q.1.1, fun e => q.1.2.resolve_left fun z => z e⟩
  have hcl : ∀ p ∈ scope.names, p.2 = .free → ∃ c, X.env.cells.lookup p.1 = some c := fun p hp e => I.ok.has _ (.inl ((g1 p hp).2 e))
  have back : ∀ x c, (closG X.env scope.names []).lookup x = some c → X.env.cells.lookup x = some c := fun x c e => by
    rcases closG_look _ _ hcl e with q | q
    · cases q
    · exact q
  refine ⟨⟨I.ok.mod, ?_, I.ok.glob, I.ok.blt, Nat.le_refl _, fun x y c h1 h2 => I.ok.inj x y c (back _ _ h1) (back _ _ h2), fun x hx => ?_, fun _ _ z => (by cases z), I.ok.hd, I.ok.frames, .inl rfl, fun b hb => ⟨?_, fun x c e => ?_⟩, I.bs, Nat.le_trans I.ok.bsz I.sz, fun b o e hb => ?_, fun b hb => ?_, I.stack, I.stkFree⟩,
    rfl, I.bare, Un.kept kp, ⟨_, hns, fun i x v e1 e2 e3 => ?_⟩, fun x c e => ?_, I.hok.fresh (Nat.le_refl _), fun x c e => I.freeC x c (back _ _ e), fun p hp => (by cases hp), I.hok.kept kp, ?_⟩
  · show (relabel scope X.env).kind = _
    exact hk
  · have hx' : ∃ k, (k = .cell ∨ k = .free) ∧ (relabel scope X.env).names.lookup x = some k := by
      rcases hx with q | q
      · exact ⟨_, .inl rfl, q⟩
      · exact ⟨_, .inr rfl, q⟩
    obtain ⟨k, hk2, q⟩ := hx'
    obtain ⟨k', a, b⟩ := relabel_inv (env := X.env) hk2 q
    rcases a with a | a
    · exact absurd a (g1 _ b).1
    · subst a
      exact closG_has _ _ (.inl b)
  · exact Nat.ne_of_lt (hfl b hb)
  · exact (hf b hb).2.2.2.2.1 x c (back _ _ e)
  · rcases (hf b hb).2.2.2.1 with z | z
    · exact I.ok.noex b o e z
    · exact absurd (Nat.lt_of_lt_of_le (Heap.lt_size e) (Nat.le_trans I.ok.bsz z)) (Nat.lt_irrefl _)
  · intro hb2
    obtain ⟨_, q1, q2, _⟩ := hf b hb
    rcases List.mem_cons.mp (I.stkSub b hb2) with z | z
    · exact q1 z
    · exact q2 z
  · have e1 : N[i]? = some x := e1
    unfold seen at e2
    rw [List.getElem?_map] at e2
    cases ej : js[i]? with
    | none => rw [ej] at e2; cases e2
    | some o =>
      rw [ej] at e2
      cases o with
      | none => cases e2
      | some j =>
        have e2 : (σ[j]?).join = some v := by simpa using e2
        have e4 : σ[j]? = some (some v) := by
          cases q : σ[j]? with
          | none => rw [q] at e2; cases e2
          | some w => rw [q] at e2; cases e2; rfl
        have hz : (N.zip js)[i]? = some (x, some j) := by
          rw [List.getElem?_zip_eq_some]; exact ⟨e1, ej⟩
        have q := List.all_eq_true.mp h3 _ (List.mem_of_getElem? hz)
        simp only [Bool.and_eq_true, beq_iff_eq] at q
        obtain ⟨⟨q1, q2⟩, q3⟩ := q
        obtain ⟨m, hn, hl⟩ := I.loc
        obtain ⟨u, r, l⟩ := hl j x v q1 e4 (.inr (.inl q3))
        refine ⟨u, r, ?_⟩
        rcases l with ⟨l, _⟩ | ⟨_, c, l2, l3⟩
        · rw [q3] at l; cases l
        · obtain ⟨c', hc'⟩ := closG_has (env := X.env) (x := x) scope.names [] (.inl (PySem.mem_of_lookup q2))
          have e5 := back _ _ hc'
          rw [l2] at e5
          cases e5
          refine .inr ⟨?_, c, hc', ?_⟩
          · exact relabel_free q2
          · obtain ⟨o, ho, hd⟩ := l3
            exact ⟨o, kp _ _ ho, hd⟩
  · obtain ⟨v, o, ho, hd⟩ := I.cell x c (back _ _ e)
    exact ⟨v, o, kp _ _ ho, hd⟩
  · show (seen js σ).length = N.length
    unfold seen
    rw [List.length_map, hlen]
theorem compLoop_any {prog : Program} {w : World} {A : Around} {R : Result → Shared → Prop} {s : Shared} {it acc : Value} {env : Env} (I : Nat → Shared → Prop)
    (turn : ∀ n s, I n s → wpAny (model prog w) A (pyNext it) (fun r s₁ => match r with
      | none => R (.ok .next) s₁
      | some v => wpAny (model prog w) A (letOwnedTupleGo tg it v) (fun _ s₁' => wpAny (model prog w) A (assign tg env v) (fun _ s₂ =>
          wpAny (model prog w) A (eval elt env) (fun x s₄ =>
              wpAny (model prog w) A (call (.builtin "list.append") [acc, x]) (fun _ s₅ => ∃ m, m < n ∧ I m s₅) (fun _ _ => False) s₄) (fun _ _ => False) s₂) (fun _ _ => False) s₁') (fun _ _ => False) s₁) (fun _ _ => False) s)
    (n : Nat) (h : I n s) :
    codeAny (model prog w) A (.compLoop (.ListComp elt [⟨tg, iter, [], 0⟩] scope pos) 0 it acc env) R s := by
  refine codeAny_loop rfl I (fun n s hI => ?_) n h
  show wpAny _ A ((compTurn (.ListComp elt [⟨tg, iter, [], 0⟩] scope pos) 0 it acc env).onRaise (fun x => do noteFrame x env; theTreesLotGoes x)) _ _ s
  refine wpAny_noted ?_
  rw [compTurn_list1]
  refine wpAny_bind (wpAny_standAt (wpAny_bind (wpAny_mono (turn n s hI) (fun r s₁ h₁ => ?_) fun _ _ h' => h'.elim)))
  cases r with
  | none => exact wpAny_pure h₁
  | some v =>
    refine wpAny_bind (wpAny_mono h₁ (fun _ s₁' h₁' => ?_) fun _ _ h' => h'.elim)
    refine wpAny_bind (wpAny_mono h₁' (fun _ s₂ h₂ => ?_) fun _ _ h' => h'.elim)
    exact wpAny_bind (wpAny_bind (wpAny_mono h₂ (fun x s₄ h₄ => wpAny_bind (wpAny_mono h₄ (fun _ s₅ h₅ => wpAny_pure (wpAny_pure ⟨rfl, h₅⟩)) fun _ _ h' => h'.elim)) fun _ _ h' => h'.elim))
def tComp (js : List (Option Nat)) (wi : TI) (g : TG) (te : TE) : TE := fun σ H Q => wi σ H fun J H1 => ∀ D, H1 D = none → ∃ W : Nat → Nat → St → Hp → Prop, (∃ m, W 0 m (seen js σ) (upd H1 D (.lst []))) ∧
  ∀ i m σ' H', W i m σ' H' → (J.stop i H' ∧ Q (.ref D) H') ∨ (J.go i H' ∧ ∀ x H2, J.yld i H' x H2 → g x σ' H2 fun σ3 H3 => te σ3 H3 fun v H4 => ∃ xs, H4 D = some (.lst xs) ∧ xs.length < sizeLine ∧ ∃ m', m' < m ∧ W (i + 1) m' σ3 (upd H4 D (.lst (xs ++ [v]))))
theorem comp_core {wi : TI} {g : TG} {te : TE} {use : Option (Value → Sem Unit)} {Qv : Value → Shared → Prop} (hc : X.calm = true) (hi : PI X tg iter wi) (hk : scope.kind = .function) (hck : compChk X scope N js = true)
    (hg : ∀ fp s H, PG (cxComp X scope N fp s H) tg g) (he : ∀ fp s H, PE (cxComp X scope N fp s H) elt te)
    (hs : ∀ x, foldedSetIterable iter X.env x = pure x)
    {pins : List (Addr × Obj)} {σ : St} {H : Hp} {s : Shared} {Q : VK} (I : Inv X pins σ H s) (h : tComp js wi g te σ H Q)
    (hend : ∀ (D C : Addr) (H' : Hp) (s' : Shared), Inv X pins σ H' s' → (∃ m, s'.heap.Ns C m) → FpOk X pins H' C → Q (.ref D) H' → compPost (model X.prog X.w) X.A X.xe use Qv (.ref D) C (.ok .next) s') :
    wpAny (model X.prog X.w) X.A (comprehension (.ListComp elt [⟨tg, iter, [], 0⟩] scope pos) scope X.env (firstIterPos [⟨tg, iter, [], 0⟩] pos) (newList []) false (eval iter X.env) use) Qv X.xe s := by
  have hck' := hck
  unfold compChk at hck'
  simp only [Bool.and_eq_true] at hck'
  obtain ⟨⟨h1, _⟩, _⟩ := hck'
  have g1 : ∀ p ∈ scope.names, p.2 ≠ .cell ∧ (p.2 = .free → X.env.kindOf p.1 = some .cell) ∧ (p.2 = .local → scope.names.lookup p.1 = some .local) := fun p hp => by
    have q := List.all_eq_true.mp h1 p hp
    simp only [Bool.and_eq_true, bne_iff_ne, ne_eq, Bool.or_eq_true, beq_iff_eq] at q
    exact ⟨q.1.1, fun e => q.1.2.resolve_left fun z => z e, fun e => q.2.resolve_left fun z => z e⟩
  have hcl : ∀ p ∈ scope.names, p.2 = .free → ∃ c, X.env.cells.lookup p.1 = some c := fun p hp e => I.ok.has _ (.inl ((g1 p hp).2.1 e))
  refine wpAny_comprehension_free (use := use) (g := ⟨tg, iter, [], 0⟩) (gs := []) rfl hs (closureFor_G hcl) hk (fun p hp e => (g1 p hp).2.2 e) ?_
  refine thn (hi pins s σ H _ I h) fun v s1 h1 => thn h1 fun itv s2 h2 => ?_
  obtain ⟨it, fp, tn, J, H2, e, I2, T, st2, f2, hW⟩ := h2
  subst e
  have hfl : ∀ b ∈ fp, b < s2.heap.objs.size := fun b hb => by
    obtain ⟨o, ho, _⟩ := T.obj _ _ st2 b hb
    exact Heap.lt_size ho
  have hD : H2 s2.heap.objs.size = none := I2.hok.fresh (Nat.le_refl _)
  obtain ⟨W, ⟨m0, w0⟩, turn⟩ := hW _ hD
  refine wpAny_newObj_type (wpAny_newFunctionEnv (fun x hx => (g1 x hx).1) (by intro y hy; simp at hy) (fun h₁ hns₁ hsb₁ => ?_) hk)
  dsimp only at hns₁ hsb₁ ⊢
  have I3 : Inv X pins σ (upd H2 s2.heap.objs.size (.lst [])) { s2 with heap := s2.heap.push { cls := .type "list", dict := none, data := .seq ([] : List Value).toArray }, toks := s2.toks } :=
    I2.laid (t' := s2.toks) (fun b u e => Heap.get?_push_of_some _ e) (Nat.le_refl _) ⟨Nat.zero_le _, [], 0, .nil, Heap.get?_push_size _ rfl⟩
  generalize hs3 : ({ s2 with heap := s2.heap.push { cls := .type "list", dict := none, data := .seq ([] : List Value).toArray }, toks := s2.toks } : Shared) = s3 at I3
  have hh3 : s3.heap = s2.heap.push { cls := .type "list", dict := none, data := .seq ([] : List Value).toArray } := by rw [← hs3]
  have e3 : ({ s2 with heap := h₁, toks := s2.toks + ([] : List (Str × Value)).length } : Shared) = { s3 with heap := h₁, toks := s3.toks } := by rw [← hs3]; rfl
  rw [e3]
  rw [← hh3] at hns₁ hsb₁ ⊢
  generalize hH3 : upd H2 s2.heap.objs.size (.lst []) = H3 at I3 w0
  generalize hDs : s2.heap.objs.size = D at *
  have f3 : ∀ b ∈ fp, FpOk X pins H3 b := fun b hb => by
    refine ⟨?_, (f2 b hb).2⟩
    rw [← hH3, upd_ne (Nat.ne_of_lt (hfl b hb))]
    exact (f2 b hb).1
  have szD : s3.heap.objs.size = D + 1 := by rw [hh3, Heap.size_push]; rw [← hDs]
  have hfl3 : ∀ b ∈ fp, b < s3.heap.objs.size := fun b hb => Nat.lt_of_lt_of_le (hfl b hb) (by rw [szD]; exact Nat.le_succ _)
  have kp : ∀ b o, s3.heap.get? b = some o → h₁.get? b = some o := fun b o e => by
    rw [hsb₁.2 b (Nat.ne_of_lt (Heap.lt_size e))]
    exact Heap.get?_push_of_some _ e
  have st3 : tn 0 h₁ := T.keep 0 _ _ st2 fun b hb o e => kp b o (by rw [hh3]; exact Heap.get?_push_of_some _ e)
  have J0 : Inv (cxComp X scope N fp s3 H3) [] (seen js σ) H3 { s3 with heap := h₁, toks := s3.toks } := comp_start I3 hk hck f3 hfl3 hns₁ kp
  have fpc : ∀ {H' : Hp}, (∀ b ∈ fp, H' b = none) → ∀ b ∈ fp, FpOk (cxComp X scope N fp s3 H3) [] H' b := fun hn b hb =>
    ⟨hn b hb, (J0.ok.exf b hb).1, J0.ok.exfs b hb, .inl hb, (J0.ok.exf b hb).2, fun p hp => by cases hp⟩
  have lp : codeAny (model X.prog X.w) X.A (.compLoop (.ListComp elt [⟨tg, iter, [], 0⟩] scope pos) 0 (.ref it) (.ref D) (compEnvC scope (closG X.env scope.names []) s3.heap.objs.size X.env))
      (compPost (model X.prog X.w) X.A X.xe use Qv (.ref D) s3.heap.objs.size) { s3 with heap := h₁, toks := s3.toks } := by
    refine compLoop_any (fun n s' => ∃ i σ' H', Inv (cxComp X scope N fp s3 H3) [] σ' H' s' ∧ tn i s'.heap ∧ (∀ b ∈ fp, H' b = none) ∧ W i n σ' H') ?_ m0 ⟨0, _, H3, J0, st3, fun b hb => (f3 b hb).1, w0⟩
    rintro n s4 ⟨i, σ4, H4, I4, st4, fr4, w4⟩
    rcases turn i n σ4 H4 w4 with ⟨stop, qn⟩ | ⟨go, step⟩
    · refine thn (T.done (cxComp X scope N fp s3 H3) rfl rfl rfl hc i [] s4 σ4 H4 (fun _ _ => False) I4 (fpc fr4) st4 stop) fun r s5 ⟨hr, I5⟩ => ?_
      subst hr
      have I6 : Inv X pins σ H4 s5 := I3.call' (ch := fp) I5.os I5.base I5.hok I5.bare fun b hb => ⟨(f3 b hb).2.2.2.1, (f3 b hb).2.1, (f3 b hb).2.2.2.2.1, (f3 b hb).2.2.2.2.2⟩
      have fC : FpOk X pins H4 s3.heap.objs.size := I3.fpOk (Nat.le_refl _) I5.free
      obtain ⟨m, hn, _⟩ := I5.loc
      exact hend D s3.heap.objs.size H4 s5 I6 ⟨m, hn⟩ fC qn
    · refine thn (T.item (cxComp X scope N fp s3 H3) rfl rfl rfl hc i [] s4 σ4 H4 (fun _ _ => False) I4 (fpc fr4) st4 go) fun r s5 ⟨u, hr, h5⟩ => ?_
      subst hr
      refine thn h5 fun _ s6 ⟨x, H6, I6, r6, y6, st6, fr6⟩ => ?_
      have I6' := I6.pinned (fpc fr6) (T.obj _ _ st6)
      refine thn (hg fp s3 H3 _ s6 σ4 H6 x u _ I6' r6 (step x H6 y6)) fun _ s7 ⟨σ7, H7, I7, q7⟩ => ?_
      refine thn (he fp s3 H3 _ s7 σ7 H7 _ I7 q7) fun u8 s8 ⟨v8, H8, I8, r8, xs, e8, l8, m', hm, w8⟩ => ?_
      refine thn (mt_append _ s8 σ7 H8 (.ref D) [v8] (.ref D) [u8] (fun _ H9 => H9 = upd H8 D (.lst (xs ++ [v8]))) I8 rfl (.cons r8 .nil) ⟨D, xs, v8, rfl, rfl, e8, l8, rfl⟩) fun _ s9 ⟨v9, H9, I9, _, e9⟩ => ?_
      subst e9
      refine ⟨m', hm, i + 1, σ7, _, I9.unpinned, T.keep _ _ _ st6 fun b hb o e => (I9.pin (b, o) (List.mem_append_right _ (List.mem_append_right _ (mem_pinsAt hb e)))).1, fun b hb => ?_, w8⟩
      obtain ⟨o, e, d⟩ := T.obj _ _ st6 b hb
      exact (I9.pin (b, o) (List.mem_append_right _ (List.mem_append_right _ (mem_pinsAt hb e)))).2.1
  exact codeAny_compStart_list lp (T.self _ 0 _ _ _ st3 lp)
theorem pe_comp {wi : TI} {g : TG} {te : TE} (N : List Str) (js : List (Option Nat)) (hc : X.calm = true) (hi : PI X tg iter wi)
    (hg : ∀ fp s H, PG (cxComp X scope N fp s H) tg g) (he : ∀ fp s H, PE (cxComp X scope N fp s H) elt te) (hk : scope.kind = .function := by rfl) (hck : compChk X scope N js = true := by rfl)
    (hs : ∀ x, foldedSetIterable iter X.env x = pure x := by intro _; rfl) : PE X (.ListComp elt [⟨tg, iter, [], 0⟩] scope pos) (tComp js wi g te) := by
  intro pins s σ H Q I h
  rw [eval_ListComp]
  refine comp_core (use := none) hc hi hk hck hg he hs I h fun D C H' s' I' hC fC q => ?_
  obtain ⟨m, hn⟩ := hC
  refine ⟨m, hn, fun h' sb => ?_⟩
  obtain ⟨f0, f1, f2, f3, f4, f5⟩ := fC
  exact ⟨.ref D, H', I'.turned (t' := s'.toks) (fun b o hb e => (sb.2 b hb).trans e) f0 f1 f3 f4 f5, rfl, q⟩
theorem ps_setComp {wi : TI} {g : TG} {te : TE} (N : List Str) (js : List (Option Nat)) {i : Nat} {y : Str} {py spos : Pos} (hN : X.N.Nodup) (hi' : X.N[i]? = some y) (hx : Loc X.env.scope y) (hc : X.calm = true) (hi : PI X tg iter wi)
    (hg : ∀ fp s H, PG (cxComp X scope N fp s H) tg g) (he : ∀ fp s H, PE (cxComp X scope N fp s H) elt te) (hk : scope.kind = .function := by rfl) (hck : compChk X scope N js = true := by rfl)
    (hs : ∀ x, foldedSetIterable iter X.env x = pure x := by intro _; rfl)
    (hsw : swapsWith (.ListComp elt [⟨tg, iter, [], 0⟩] scope pos) (some (.Name y py)) spos.line X.env = pure true := by rfl)
    (hf : X.fn y = true ∨ X.env.scope.names.lookup y = some .local := by first | exact .inl rfl | exact .inr rfl | assumption) :
    PS X (.Assign [.Name y py] (.ListComp elt [⟨tg, iter, [], 0⟩] scope pos) spos) (tAsg (tComp js wi g te) (gName i)) := by
  intro pins s σ H D I h
  rw [exec_Assign_Name_used _ _ _ _ hsw]
  refine wpAny_bind (wpAny_standAt (wpAny_bind ?_))
  show wpAny _ X.A (do let _ ← comprehension (.ListComp elt [⟨tg, iter, [], 0⟩] scope pos) scope X.env _ (newList []) false (eval iter X.env) (some (assign (.Name y py) X.env))) _ _ s
  refine wpAny_bind (wpAny_mono (comp_core (use := some (assign (.Name y py) X.env)) (Qv := fun _ s' => SP X pins D .next s') hc hi hk hck hg he hs I h fun D' C H' s' I' hC fC q => ?_) (fun _ s' hq => wpAny_pure (wpAny_pure hq)) fun _ _ e => e)
  obtain ⟨m, hn⟩ := hC
  show wpAny _ X.A (assign (.Name y py) X.env (.ref D')) _ _ _
  refine wpAny_assign_Name (store_ok2 (v := .ref D') I' hN hi' hx rfl (fun s2 I2 hch => ?_) hf)
  obtain ⟨a, sb, ha⟩ := hch
  obtain ⟨f0, f1, f2, f3, f4, f5⟩ := fC
  have hCa : C ≠ a := by
    rcases ha with z | z
    · rw [z]; exact f1
    · exact (f4 _ _ z).symm
  refine ⟨m, hn.sameBut sb hCa, fun h' sb' => ?_⟩
  exact ⟨_, H', I2.turned (t' := s2.toks) (fun b o hb e => (sb'.2 b hb).trans e) f0 f1 f3 f4 f5, q⟩
end
end L2
set_option maxRecDepth 100000
namespace L2
open PySem PySem.Spec PyProof.Rows
section
variable {X : Cx}
def CDivL (_ j : Int) : Prop := 0 < j ∧ j < 2 ^ 250
theorem log2_small {j : Int} (h0 : 0 < j) (h : j < 2 ^ 250) : j.natAbs.log2 < 9000 := by
  have h1 : j.natAbs < 2 ^ 250 := by
    have e : (j.natAbs : Int) = j := Int.natAbs_of_nonneg (Int.le_of_lt h0)
    have : ((j.natAbs : Nat) : Int) < ((2 ^ 250 : Nat) : Int) := by rw [e]; exact h
    exact Int.ofNat_lt.mp this
  have h2 : j.natAbs ≠ 0 := by omega
  exact Nat.lt_of_lt_of_le ((Nat.log2_lt h2).mpr h1) (by decide)
theorem op_fdivL : OpR X (binaryOp .FloorDiv) (rI CDivL fun i j => .int (i / j)) := opI fun i j _ _ _ _ _ hc q => by
  refine floordiv_int (by have := hc.1; omega) ?_ (.inl (PyProof.noPylong_of_log2 (log2_small hc.1 hc.2)))
  rw [Int.fdiv_eq_ediv_of_nonneg _ (Int.le_of_lt hc.1)]
  exact q
def tyName : V → Option String
  | .non => some "NoneType" | .bl _ => some "bool" | .int _ => some "int" | .str _ => some "str" | _ => none
def subTy (a b : String) : Bool := a == b || (a == "bool" && b == "int")
theorem kit_sub {K : PySem.W.Frag} {t n : String} (ht : t = "NoneType" ∨ t = "bool" ∨ t = "int" ∨ t = "str") (hn : n = "int" ∨ n = "bool" ∨ n = "str" ∨ n = "list" ∨ n = "tuple" ∨ n = "dict") : PySem.W.kitOne K (.type t) (.type n) = some (subTy t n) := by
  rcases ht with rfl | rfl | rfl | rfl <;> rcases hn with rfl | rfl | rfl | rfl | rfl | rfl <;> kernel_rfl
theorem pe_ty {x : Str} {n : String} {pos : Pos} (hg : Gl X x) (hm : X.mg x = none) (hv : bootBuiltins x = some (.type n)) (hn : x ≠ "__name__" := by decide) (hd : (x == ("__debug__" : Str)) = false := by decide) : PE X (.Name x pos) (tC (.ty n)) :=
  pe_bltn hg hm hv rfl hn hd
theorem boot_isinstance : bootBuiltins "isinstance" = some (.builtin "isinstance") := by decide +kernel
theorem boot_max : bootBuiltins "max" = some (.builtin "max") := by decide +kernel
theorem boot_min : bootBuiltins "min" = some (.builtin "min") := by decide +kernel
theorem boot_int : bootBuiltins "int" = some (.type "int") := by decide +kernel
theorem boot_bool : bootBuiltins "bool" = some (.type "bool") := by decide +kernel
end
structure FunD (K : PySem.W.Frag) (x qual : Str) (st : Stmt) (dV : Value) (f : Addr) (fd : FuncData) : Prop where
  ex : ∃ (oc : Value) (od : Option Addr) (kV doc pm : Value) (an : Option Addr) (cdv ct : Value) (osl : Array (Option Value)),
    fd = PySem.W.fnOf x qual (defArgs st) (defBody st) (defScope st) dV kV doc pm an cdv ct ∧ K.lookup f = some ⟨oc, od, .func fd, osl⟩ ∧ PySem.W.codeIn K cdv qual = true
  kp : PySem.W.keepIn K (.ref f) = true
section
variable {P : Program} {w : World} {K : PySem.W.Frag} {mg : Str → Option Value} {base : Heap}
theorem FunD.ok {x qual : Str} {st : Stmt} {dV : Value} {f : Addr} {fd : FuncData} {N ps : List Str} {k : Nat} {sp : Sp} (F : FunD K x qual st dV f fd) (S : FnScope N ps (defScope st)) (len : ∀ vs H Q E, sp vs H Q E → vs.length = ps.length)
    (hbody : ∀ (cdv : Value) (A : Around) (outer : List Env) (s : Shared) (H : Hp) (vs : List V) (Q : VK) (E : XK), Room k (A.deeper (envOfC qual (defScope st) s.heap.objs.size f cdv)) → sp vs H Q E →
      ∃ t, PSs (cxOf CX0 P w K mg base N qual (defScope st) f cdv A outer s H E).nox (defBody st) t ∧ t { nx := fun _ H' => Q .non H', rt := Q } (start N vs) H) : FnOk P w K mg base CX0 (k + 1) f fd ps sp := by
  obtain ⟨oc, od, kV, doc, pm, an, cdv, ct, osl, rfl, lk, hcd⟩ := F.ex
  refine fn_of lk hcd S len fun A outer s H vs Q E hr hsp => ?_
  obtain ⟨t, h, q⟩ := hbody cdv A outer s H vs Q E hr hsp
  exact ⟨t, h.nox, q⟩
theorem fund_mk {x qual : Str} {st : Stmt} {f : Addr} {oc dV : Value} {od an : Option Addr} {osl : Array (Option Value)} {kV doc pm cdv ct : Value} (l : K.lookup f = some ⟨oc, od, .func (PySem.W.fnOf x qual (defArgs st) (defBody st) (defScope st) dV kV doc pm an cdv ct), osl⟩)
    (c : PySem.W.codeIn K cdv qual = true) (k : PySem.W.keepIn K (.ref f) = true) : FunD K x qual st dV f (PySem.W.fnOf x qual (defArgs st) (defBody st) (defScope st) dV kV doc pm an cdv ct) := ⟨⟨oc, od, kV, doc, pm, an, cdv, ct, osl, rfl, l, c⟩, k⟩
theorem FunD.binds {x qual : Str} {st : Stmt} {T f : Addr} {fd : FuncData} {ps : List Str} {ds dvs : List Value} {tc : Value} {td : Option Addr} {n : Nat} {tsl : Array (Option Value)} (m : Nat) (hm : m + ds.length = ps.length) (F : FunD K x qual st (.ref T) f fd) (ht : K.lookup T = some ⟨tc, td, .seq dvs.toArray n, tsl⟩)
    (h : ∀ (kV doc pm : Value) (an : Option Addr) (cdv ct : Value) (us : List Value), us.length = m → ∃ k, bindArgs (PySem.W.fnOf x qual (defArgs st) (defBody st) (defScope st) (.ref T) kV doc pm an cdv ct) ⟨us, []⟩ = seqItems? (.ref T) >>= k ∧ k (some dvs.toArray) = pure (ps.zip (us ++ ds))) : Binds K fd ps ds := by
  obtain ⟨oc, od, kV, doc, pm, an, cdv, ct, osl, rfl, lk, hcd⟩ := F.ex
  intro s us X hl
  rw [List.length_append] at hl
  obtain ⟨k, h1, h2⟩ := h kV doc pm an cdv ct us (by omega)
  exact PySem.W.binds_K X rfl ht rfl h1 h2
def gAB {α : Type} (a b : Nat) (us ws : List α) : List α := if us.length = a ∧ ws.length = b then us ++ ws else []
theorem gAB_rel {a b : Nat} {vs : List V} {us : List Value} {zs : List V} {ws : List Value} (r : Vals vs us) (q : Vals zs ws) : Vals (gAB a b vs zs) (gAB a b us ws) := by
  unfold gAB
  rw [r.length, q.length]
  split
  · exact r.append q
  · exact .nil
theorem FunD.kbinds {x qual : Str} {st : Stmt} {T f : Addr} {fd : FuncData} {ps ks : List Str} {dvs : List Value} {tc : Value} {td : Option Addr} {n : Nat} {tsl : Array (Option Value)} (a b : Nat) (hab : 0 < ps.length)
    (F : FunD K x qual st (.ref T) f fd) (ht : K.lookup T = some ⟨tc, td, .seq dvs.toArray n, tsl⟩)
    (h : ∀ (kV doc pm : Value) (an : Option Addr) (cdv ct : Value) (us ws : List Value), us.length = a → ws.length = b → ∃ k, bindArgs (PySem.W.fnOf x qual (defArgs st) (defBody st) (defScope st) (.ref T) kV doc pm an cdv ct) ⟨us, ks.zip ws⟩ = seqItems? (.ref T) >>= k ∧ k (some dvs.toArray) = pure (ps.zip (us ++ ws))) : KBinds K fd ps ks (gAB a b) (gAB a b) := by
  obtain ⟨oc, od, kV, doc, pm, an, cdv, ct, osl, rfl, lk, hcd⟩ := F.ex
  refine ⟨fun s us ws X hl => ?_, gAB_rel⟩
  have hc : us.length = a ∧ ws.length = b := by
    unfold gAB at hl
    split at hl
    · assumption
    · rw [List.length_nil] at hl; omega
  obtain ⟨k, h1, h2⟩ := h kV doc pm an cdv ct us ws hc.1 hc.2
  have e : gAB a b us ws = us ++ ws := by unfold gAB; rw [if_pos hc]
  rw [e]
  exact PySem.W.binds_K X rfl ht rfl h1 h2
end
end L2
set_option maxRecDepth 100000
namespace L2
open PySem PySem.Spec PyProof.Rows
section
variable {X : Cx}
def intsOf : List V → Option (List Int)
  | [] => some []
  | .int i :: r => match intsOf r with
    | some ns => some (i :: ns)
    | none => none
  | _ :: _ => none
def menu (ns : List Int) (k : Int) : Int := ns.getD k.toNat 0
def tMenu (t : TA) (ti : TE) : TE := fun σ H Q => t σ H fun vs H1 => vs.length ≤ 1000 ∧ ti σ H1 fun i H2 => ∃ ns k, intsOf vs = some ns ∧ i = .int k ∧ 0 ≤ k ∧ k < (ns.length : Int) ∧ (ns.length : Int) < 1000 ∧ Q (.int (menu ns k)) H2
theorem le_line {n : Nat} (h : n ≤ 1000) : n ≤ sizeLine := Nat.le_trans h (by decide)
def CPowS (i j : Int) : Prop := 0 ≤ j ∧ j ≤ 1000000 ∧ -(2 ^ 64) < i ∧ i < 2 ^ 64
theorem op_powS : OpR X (binaryOp .Pow) (rI CPowS fun i j => .int (i ^ j.toNat)) := opI fun i j _ _ _ _ _ hc q => pow_int_small hc.1 hc.2.1 (by have := hc.2.2; omega) q
def tTupS (t : TA) : TE := fun σ H Q => t σ H fun xs H1 => xs.length ≤ 1000 ∧ ∀ p, H1 p = none → Q (.ref p) (upd H1 p (.tup xs))
def tLstS (t : TA) : TE := fun σ H Q => t σ H fun xs H1 => xs.length ≤ 1000 ∧ ∀ p, H1 p = none → Q (.ref p) (upd H1 p (.lst xs))
theorem pe_tupS {es : List Expr} {t : TA} {x1} {pos : Pos} (h : PA X es t) : PE X (.Tuple es x1 pos) (tTupS t) := by
  intro pins s σ H Q I hq
  refine wpAny_Tuple_spliced (thn (h pos pins s σ H _ I hq) fun us s1 ⟨xs, H1, I1, r, z, q⟩ => ⟨by rw [← r.length]; exact le_line z, ?_⟩)
  have hf : H1 s1.heap.objs.size = none := I1.hok.fresh (Nat.le_refl _)
  refine ⟨.ref s1.heap.objs.size, upd H1 s1.heap.objs.size (.tup xs), I1.laid (t' := s1.toks) (fun b u e => Heap.get?_push_of_some _ e) (Nat.le_refl _) ?_, rfl, q _ hf⟩
  exact ⟨le_line z, us, r, ⟨_, Heap.get?_push_size _ rfl, rfl, _, rfl⟩⟩
theorem pe_lstS {es : List Expr} {t : TA} {pos : Pos} (h : PA X es t) : PE X (.List es pos) (tLstS t) := by
  intro pins s σ H Q I hq
  refine wpAny_List_spliced (thn (h pos pins s σ H _ I hq) fun us s1 ⟨xs, H1, I1, r, z, q⟩ => ⟨by rw [← r.length]; exact le_line z, ?_⟩)
  have hf : H1 s1.heap.objs.size = none := I1.hok.fresh (Nat.le_refl _)
  refine ⟨.ref s1.heap.objs.size, upd H1 s1.heap.objs.size (.lst xs), I1.laid (t' := s1.toks) (fun b u e => Heap.get?_push_of_some _ e) (Nat.le_refl _) ?_, rfl, q _ hf⟩
  exact ⟨le_line z, us, 0, r, Heap.get?_push_size _ rfl⟩
end
theorem seq_cut {t u : TS} {D : Ends} {σ : St} {H : Hp} (M : St → Hp → Prop) (h1 : ∀ N : St → Hp → Prop, (∀ σ' H', M σ' H' → N σ' H') → t { D with nx := N } σ H) (h2 : ∀ σ' H', M σ' H' → u D σ' H') : tSeq t u D σ H := h1 (u D) h2
end L2
namespace L2
theorem seq_cut2 {t t2 u : TS} {D : Ends} {σ : St} {H : Hp} (M : St → Hp → Prop) (h1 : ∀ N : St → Hp → Prop, (∀ σ' H', M σ' H' → N σ' H') → tSeq t t2 { D with nx := N } σ H) (h2 : ∀ σ' H', M σ' H' → u D σ' H') : tSeq t (tSeq t2 u) D σ H := h1 (u D) h2
theorem seq_cut3 {t t2 t3 u : TS} {D : Ends} {σ : St} {H : Hp} (M : St → Hp → Prop) (h1 : ∀ N : St → Hp → Prop, (∀ σ' H', M σ' H' → N σ' H') → tSeq t (tSeq t2 t3) { D with nx := N } σ H) (h2 : ∀ σ' H', M σ' H' → u D σ' H') : tSeq t (tSeq t2 (tSeq t3 u)) D σ H := h1 (u D) h2
end L2
set_option maxRecDepth 100000
namespace L2
open PySem PySem.Spec PyProof.Rows
section
variable {X : Cx}
theorem sl_listK (K : PySem.W.Frag) (hK : X.K = K := by rfl) : SlR X (rSlL K) := by subst hK; exact sl_list
theorem ix_listK (K : PySem.W.Frag) (hK : X.K = K := by rfl) : IxR X (rIxL K) := by subst hK; exact ix_list
theorem ix_tupK (K : PySem.W.Frag) (hK : X.K = K := by rfl) : IxR X (rIxT K) := by subst hK; exact ix_tup
theorem call_lenK (K : PySem.W.Frag) (hK : X.K = K := by rfl) : CallR X (.builtin "len") (fun xs H Q => ∃ p ys, xs = [.ref p] ∧ (SqL K H p ys ∨ SqT K H p ys) ∧ Q (.int ys.length) H) := by subst hK; exact call_len_seq
theorem pi_listK {tg l : Expr} {tl : TE} (K : PySem.W.Frag) (hl : PE X l tl) (hK : X.K = K := by rfl) : PI X tg l (iList K tl) := by subst hK; exact pi_list hl
theorem pi_tupK {tg l : Expr} {tl : TE} (K : PySem.W.Frag) (hl : PE X l tl) (hK : X.K = K := by rfl) : PI X tg l (iTup K tl) := by subst hK; exact pi_tup hl
theorem pg_tupK {es : List Expr} {k : Nat} {t : TGs} {n : Nat} {pos : Pos} (K : PySem.W.Frag) (hc : X.calm = true) (h : PGs X es t) (hn : (assignEach es X.env).length = n := by rfl) (hst : (assignEach es X.env).findIdx? (·.1) = none := by rfl) (hK : X.K = K := by rfl) : PG X (.Tuple es k pos) (gTup K n t) := by subst hK; exact pg_tup hc h hn hst
theorem pe_fldK {e : Expr} {ta : TE} {f : Str} {pos : Pos} (K : PySem.W.Frag) (he : PE X e ta) (hb : attributeBase e f X.env (eval e X.env) = eval e X.env := by rfl) (hK : X.K = K := by rfl) : PE X (.Attribute e f pos) (tFld K ta f) := by subst hK; exact pe_fld he hb
end
def TSame (H H' : Hp) : Prop := ∀ b xs, H b = some (.tup xs) → H' b = some (.tup xs)
theorem Same.tup {H H' : Hp} (h : Same H H') : TSame H H' := fun b xs e => h b _ e
theorem TSame.trans {H H1 H2 : Hp} (a : TSame H H1) (b : TSame H1 H2) : TSame H H2 := fun c o h => b c o (a c o h)
theorem Same.upd {H H' : Hp} {p : Addr} {o : HO} (s : Same H H') (h : H p = none) : Same H (upd H' p o) := fun b u e => by
  rw [upd_ne (ne_of_none e h)]; exact s b u e
theorem Same.new {H : Hp} {p : Addr} {o : HO} (h : H p = none) : Same H (L2.upd H p o) := (Same.refl H).upd h
theorem Same.none {H H' : Hp} (s : Same H H') {p : Addr} (h : H' p = none) : H p = none := s.free h
theorem comp_rel {K : PySem.W.Frag} {a D : Addr} {xs : List V} {g : TG} {te : TE} {σ0 : St} {H1 : Hp} {Q : Hp → Prop} (R : V → V → Hp → Prop) (ok : St → Prop) (mono : ∀ H H' x v, TSame H H' → R x v H → R x v H')
    (sq : SqL K H1 a xs) (hD : H1 D = none) (hz : xs.length ≤ 1000) (h0 : ok σ0)
    (hs : ∀ x σ' H (N : St → V → Hp → Prop), x ∈ xs → ok σ' → Same H1 H → (∀ σ3 v H4, R x v H4 → Same H H4 → ok σ3 → N σ3 v H4) → g x σ' H fun σ3 H3 => te σ3 H3 fun v H4 => N σ3 v H4)
    (hd : ∀ ys H', Same H1 H' → H' D = some (.lst ys) → Paired (fun x v => R x v H') xs ys → Q H') :
    ∃ W : Nat → Nat → St → Hp → Prop, (∃ m, W 0 m σ0 (upd H1 D (.lst []))) ∧
      ∀ i m σ' H', W i m σ' H' → ((Itl K a).stop i H' ∧ Q H') ∨ ((Itl K a).go i H' ∧ ∀ x H2, (Itl K a).yld i H' x H2 → g x σ' H2 fun σ3 H3 => te σ3 H3 fun v H4 => ∃ xs, H4 D = some (.lst xs) ∧ xs.length < sizeLine ∧ ∃ m', m' < m ∧ W (i + 1) m' σ3 (upd H4 D (.lst (xs ++ [v])))) := by
  refine ⟨fun i m σ' H' => m = xs.length - i ∧ i ≤ xs.length ∧ ok σ' ∧ Same H1 H' ∧ ∃ ys, H' D = some (.lst ys) ∧ Paired (fun x v => R x v H') (xs.take i) ys, ⟨xs.length, by simp, Nat.zero_le _, h0, Same.new hD, [], upd_same, by rw [List.take_zero]; exact .nil⟩, ?_⟩
  rintro i m σ' H' ⟨rfl, hi, hok, hsm, ys, hy, hp⟩
  have sq' := hsm.seq sq
  have hyl : ys.length = i := by rw [← Paired.length hp, List.length_take, Nat.min_eq_left hi]
  by_cases hlt : i < xs.length
  · refine .inr ⟨⟨xs, xs[i], sq', by simp [hlt]⟩, fun x H2 y => ?_⟩
    obtain ⟨e, y⟩ := y
    subst e
    have hx := y xs sq'
    refine hs x σ' _ (fun σ3 v H4 => ∃ xs', H4 D = some (.lst xs') ∧ xs'.length < sizeLine ∧ ∃ m', m' < xs.length - i ∧ _) (List.mem_of_getElem? hx) hok hsm fun σ3 v H4 r s4 ok3 => ?_
    have tD : TSame H4 (upd H4 D (.lst (ys ++ [v]))) := fun b zs e => by
      rw [upd_ne (ne_of e (s4 _ _ hy) (by intro z; cases z))]; exact e
    refine ⟨ys, s4 _ _ hy, Nat.lt_of_lt_of_le (show ys.length < 1001 by omega) (by decide), xs.length - (i + 1), by omega, rfl, hlt, ok3, (hsm.trans s4).upd hD, ys ++ [v], upd_same, ?_⟩
    have e2 : xs.take (i + 1) = xs.take i ++ [x] := by
      rw [List.take_add_one, hx]; rfl
    rw [e2]
    exact Paired.snoc (Paired.mapP hp fun b w q => mono _ _ _ _ (s4.tup.trans tD) q) (mono _ _ _ _ tD r)
  · have e : i = xs.length := by omega
    subst e
    rw [List.take_length] at hp
    exact .inl ⟨⟨xs, sq', Nat.le_refl _⟩, hd ys H' hsm hy hp⟩
theorem paired_map {α β : Type} {f : α → β} : ∀ {xs : List α} {ys : List β}, Paired (fun x y => y = f x) xs ys → ys = xs.map f
  | _, _, .nil => rfl
  | _, _, .cons h t => by rw [h, paired_map t]; rfl
theorem comp_mp {K : PySem.W.Frag} {a D : Addr} {xs : List V} {g : TG} {te : TE} {σ0 : St} {H1 : Hp} {Q : Hp → Prop} (f : V → V) (ok : St → Prop)
    (sq : SqL K H1 a xs) (hD : H1 D = none) (hz : xs.length ≤ 1000) (h0 : ok σ0)
    (hs : ∀ x σ' H (N : St → V → Hp → Prop), x ∈ xs → ok σ' → Same H1 H → (∀ σ3 H4, Same H H4 → ok σ3 → N σ3 (f x) H4) → g x σ' H fun σ3 H3 => te σ3 H3 fun v H4 => N σ3 v H4)
    (hd : ∀ H', Same H1 H' → H' D = some (.lst (xs.map f)) → Q H') :
    ∃ W : Nat → Nat → St → Hp → Prop, (∃ m, W 0 m σ0 (upd H1 D (.lst []))) ∧
      ∀ i m σ' H', W i m σ' H' → ((Itl K a).stop i H' ∧ Q H') ∨ ((Itl K a).go i H' ∧ ∀ x H2, (Itl K a).yld i H' x H2 → g x σ' H2 fun σ3 H3 => te σ3 H3 fun v H4 => ∃ xs, H4 D = some (.lst xs) ∧ xs.length < sizeLine ∧ ∃ m', m' < m ∧ W (i + 1) m' σ3 (upd H4 D (.lst (xs ++ [v])))) :=
  comp_rel (fun x v _ => v = f x) ok (fun _ _ _ _ _ h => h) sq hD hz h0 (fun x σ' H N hx ho sm q => hs x σ' H N hx ho sm fun σ3 H4 s4 o3 => q σ3 _ H4 rfl s4 o3) fun ys H' sm hy hp => hd H' sm (by rw [← paired_map hp]; exact hy)
end L2
set_option maxRecDepth 100000
namespace L2
open PySem PySem.Spec PyProof.Rows
end L2
set_option maxRecDepth 100000
namespace L2
open PySem PySem.Spec PyProof.Rows
end L2
namespace L2
open PySem PySem.Spec PyProof.Rows
theorem atI_0 {α : Type} (a : α) (l : List α) : atI (a :: l) 0 = some a := by exact atI_nat (j := 0) rfl
theorem atI_1 {α : Type} (a b : α) (l : List α) : atI (a :: b :: l) 1 = some b := by exact atI_nat (j := 1) rfl
theorem atI_2 {α : Type} (a b c : α) (l : List α) : atI (a :: b :: c :: l) 2 = some c := by exact atI_nat (j := 2) rfl
theorem atI_3 {α : Type} (a b c d : α) (l : List α) : atI (a :: b :: c :: d :: l) 3 = some d := by exact atI_nat (j := 3) rfl
end L2
set_option maxRecDepth 100000
namespace L2
open PySem PySem.Spec PyProof.Rows
section
variable {X : Cx}
theorem call_minL (K : PySem.W.Frag) (hc : X.calm = true) (hK : X.K = K := by rfl) : CallR X (.builtin "min") (fun xs H Q => ∃ (p : Addr) (ns : List Int), xs = [.ref p] ∧ SqL K H p (ns.map V.int) ∧ ns ≠ [] ∧ ∀ M, M ∈ ns → (∀ a ∈ ns, M ≤ a) → Q (.int M) H) := by
  subst hK
  intro pins s σ H xs us Q I r h
  obtain ⟨p, ns, rfl, hq, hne, q⟩ := h
  obtain ⟨u, rfl, rfl⟩ := vals1 r
  obtain ⟨its, rv, pl, hz⟩ := I.list hq
  have hi := intsAre_of rv
  obtain ⟨xs, e⟩ := hi.allInts.items
  have hn := hi.numsOf
  rw [show its = its.toArray.toList from rfl, e, nums_intItems] at hn
  have hsz : 0 < xs.size := by
    rcases Nat.eq_zero_or_pos xs.size with z | z
    · exfalso
      apply hne
      rw [← hn]
      have : xs = #[] := Array.eq_empty_of_size_eq_zero z
      rw [this]; rfl
    · exact z
  refine min_intList (I.ok.hd hc) (by rw [← e]; exact pl.isList) hsz fun v h' tk hv hk => ?_
  obtain ⟨t, rfl⟩ := intItems_at hv
  obtain ⟨h1, h2⟩ := argBest_lt (numAt xs) (xs.size - 1)
  refine ⟨.int _, H, I.kept hk, ⟨t, rfl⟩, q _ ?_ fun a ha => ?_⟩
  · rw [← hn, numAt_eq]; exact getD_mem (by rw [List.length_map, Array.length_toList]; omega)
  · rw [← hn] at ha
    obtain ⟨j, hj, rfl⟩ := mem_getD ha
    rw [List.length_map, Array.length_toList] at hj
    rw [← numAt_eq]; exact h2 j (by omega)
theorem call_maxL (K : PySem.W.Frag) (hc : X.calm = true) (hK : X.K = K := by rfl) : CallR X (.builtin "max") (fun xs H Q => ∃ (p : Addr) (ns : List Int), xs = [.ref p] ∧ SqL K H p (ns.map V.int) ∧ ns ≠ [] ∧ ∀ M, M ∈ ns → (∀ a ∈ ns, a ≤ M) → Q (.int M) H) := by
  subst hK
  intro pins s σ H xs us Q I r h
  obtain ⟨p, ns, rfl, hq, hne, q⟩ := h
  obtain ⟨u, rfl, rfl⟩ := vals1 r
  obtain ⟨its, rv, pl, hz⟩ := I.list hq
  have hi := intsAre_of rv
  obtain ⟨xs, e⟩ := hi.allInts.items
  have hn := hi.numsOf
  rw [show its = its.toArray.toList from rfl, e, nums_intItems] at hn
  have hsz : 0 < xs.size := by
    rcases Nat.eq_zero_or_pos xs.size with z | z
    · exfalso
      apply hne
      rw [← hn]
      have : xs = #[] := Array.eq_empty_of_size_eq_zero z
      rw [this]; rfl
    · exact z
  refine max_intList (I.ok.hd hc) (by rw [← e]; exact pl.isList) hsz fun v h' tk hv hk => ?_
  obtain ⟨t, rfl⟩ := intItems_at hv
  obtain ⟨h1, h2⟩ := argBest_gt (numAt xs) (xs.size - 1)
  refine ⟨.int _, H, I.kept hk, ⟨t, rfl⟩, q _ ?_ fun a ha => ?_⟩
  · rw [← hn, numAt_eq]; exact getD_mem (by rw [List.length_map, Array.length_toList]; omega)
  · rw [← hn] at ha
    obtain ⟨j, hj, rfl⟩ := mem_getD ha
    rw [List.length_map, Array.length_toList] at hj
    rw [← numAt_eq]; exact h2 j (by omega)
end
end L2
set_option maxRecDepth 100000
namespace L2
open PySem PySem.Spec PyProof.Rows
def FlyAt (h : Heap) (ea T : Addr) (cls : Value) (dx : Option Addr) (fl : Value) : Prop :=
  ∃ oe vs oT ts a0, h.get? ea = some oe ∧ oe.cls = cls ∧ oe.dict = dx ∧ oe.data = .fields vs ∧ vs[0]? = some a0 ∧ vs[1]? = some (.ref T) ∧ T ≠ ea ∧ h.get? T = some oT ∧ oT.data = .fields ts ∧ ts[3]? = some fl
abbrev Fly (h : Heap) (ea T : Addr) (cls : Value) (dx : Option Addr) : Prop := FlyAt h ea T cls dx .none
def Made (h : Heap) (ea : Addr) (cls : Value) (dx : Option Addr) : Prop := ∃ oe vs a0, h.get? ea = some oe ∧ oe.cls = cls ∧ oe.dict = dx ∧ oe.data = .fields vs ∧ vs[0]? = some a0 ∧ vs[1]? = some .none
structure Moved (h h' : Heap) (fs ch : List Addr) : Prop where
  keep : ∀ b o, h.get? b = some o → b ∉ ch → b ∉ fs → h'.get? b = some o
  slot : ∀ b o, h.get? b = some o → b ∉ ch → b ∈ fs → ∃ sl, h'.get? b = some { o with slots := sl }
theorem Moved.one {h h' : Heap} {fs : List Addr} {T : Addr} (k : ∀ b, b ≠ T → h'.get? b = h.get? b) : Moved h h' fs [T] :=
  ⟨fun b o e n _ => by rw [k b (by simpa using n)]; exact e, fun b o e n _ => ⟨o.slots, by rw [k b (by simpa using n)]; exact e⟩⟩
theorem Moved.trans {h h1 h2 : Heap} {fs ch ch' : List Addr} (a : Moved h h1 fs ch) (b : Moved h1 h2 fs ch') : Moved h h2 fs (ch ++ ch') :=
  ⟨fun c o e n m => b.keep c o (a.keep c o e (fun z => n (List.mem_append_left _ z)) m) (fun z => n (List.mem_append_right _ z)) m, fun c o e n m => by
    obtain ⟨sl, e1⟩ := a.slot c o e (fun z => n (List.mem_append_left _ z)) m
    obtain ⟨sl', e2⟩ := b.slot c _ e1 (fun z => n (List.mem_append_right _ z)) m
    exact ⟨sl', e2⟩⟩
theorem Moved.less {h h' : Heap} {fs ch : List Addr} (a : Moved h h' fs ch) {ch' : List Addr} (k : ∀ b ∈ ch, b ∈ ch' ∨ h.get? b = none) : Moved h h' fs ch' :=
  have z : ∀ b o, h.get? b = some o → b ∉ ch' → b ∉ ch := fun b o e n m => (k b m).elim n fun q => by rw [e] at q; cases q
  ⟨fun b o e n m => a.keep b o e (z b o e n) m, fun b o e n m => a.slot b o e (z b o e n) m⟩
theorem dict_map (o : Obj) (g) : (o.mapFields g).dict = o.dict := by
  cases o with
  | mk c d dt sl => cases dt <;> rfl
section
variable {M : Model} {A : Around} {E : Value → Shared → Prop} {s : Shared} {env : Env} {outer : List Env} {base : Heap} {L ea T : Addr} {cls fl : Value} {dx : Option Addr} {Q : Unit → Shared → Prop}
theorem entry_on {head : Value} {had : Bool} {oe : Obj} {vs : Array Value} {a0 : Value} (hfr : A.frames = some (env :: outer)) (hl : s.heap.FunFrames base (env :: outer)) (hf : env.frame = some L)
    (e1 : s.heap.get? ea = some oe) (e2 : oe.cls = cls) (e3 : oe.dict = dx) (e4 : oe.data = .fields vs) (e5 : vs[0]? = some a0) (e6 : 1 < vs.size)
    (h : ∀ h' T', FlyAt h' ea T' cls dx (rawInt L) → s.heap.get? T' = none → Moved s.heap h' (frs (env :: outer)) [ea] → Q () { s with heap := h' }) :
    wpAny M A (do let a ← frameOf env; let pl ← entryPlaceOf L had; let b ← EntryCells.newEntry head a .none (rawInt L) .none pl; setField (.ref ea) 1 b) Q E s := by
  have nfr : ea ∉ frs (env :: outer) := fun m => by
    obtain ⟨_, o', q1, q2⟩ := hl.mem m
    rw [e1] at q1
    cases q1
    exact q2 vs e4
  refine wpAny_bind (wpAny_frameOf_fun hfr hl hf fun g1 so => wpAny_bind (wpAny_entryPlaceOf fun pl isp => ?_))
  unfold EntryCells.newEntry newFields
  refine wpAny_bind (wpAny_newObj_type ?_ (isp.sizeOk5 _ _ _ _ _))
  have at1 : g1.get? ea = some oe := (so.2.1 ea nfr).trans e1
  have neT : g1.objs.size ≠ ea := Nat.ne_of_gt (Heap.lt_size at1)
  have len5 : ∀ (l : List Value), (([head, .ref L, .none, rawInt L, .none] ++ l).toArray)[3]? = some (rawInt L) := fun l => by simp
  generalize ho : ({ cls := .type "traceback", dict := none, data := .fields ([head, .ref L, .none, rawInt L, .none] ++ (if pl.isEmpty then List.replicate 6 Value.none else pl)).toArray } : Obj) = ot
  have hod : ot.data = .fields ([head, .ref L, .none, rawInt L, .none] ++ (if pl.isEmpty then List.replicate 6 Value.none else pl)).toArray := by rw [← ho]
  have hnf : ot.isFreed = false := Obj.isFreed_of_fields hod
  have at2 : (g1.push ot).get? ea = some oe := Heap.get?_push_of_some _ at1
  refine wpAny_setField at2 e4 e6 (h _ g1.objs.size ?_ ?_ ?_)
  · have fd := Obj.data_mapFields e4 (·.setIfInBounds 1 (Value.ref g1.objs.size))
    refine ⟨_, _, ot, _, a0, Heap.get?_update_self _ at2 (Obj.isFreed_of_fields fd), by rw [Obj.cls_mapFields]; exact e2, by rw [dict_map]; exact e3, fd, by rw [Array.getElem?_setIfInBounds_ne (by decide)]; exact e5, by simp [e6], neT, ?_, hod, len5 _⟩
    rw [Heap.get?_update_other _ _ (Ne.symm neT)]
    exact Heap.get?_push_size g1 hnf
  · exact Heap.get?_none_of_le (by rw [so.1]; exact Nat.le_refl _)
  · refine ⟨fun b o q n1 n2 => ?_, fun b o q n1 n2 => ?_⟩
    · rw [Heap.get?_update_other _ _ (fun z => n1 (by simp [z]))]
      exact Heap.get?_push_of_some _ ((so.2.1 b n2).trans q)
    · obtain ⟨sl, q2⟩ := so.2.2 b o q
      refine ⟨sl, ?_⟩
      rw [Heap.get?_update_other _ _ (fun z => n1 (by simp [z]))]
      exact Heap.get?_push_of_some _ q2
theorem note_new (hfr : A.frames = some (env :: outer)) (hl : s.heap.FunFrames base (env :: outer)) (hf : env.frame = some L) (m : Made s.heap ea cls dx)
    (h : ∀ h' T', FlyAt h' ea T' cls dx (rawInt L) → s.heap.get? T' = none → Moved s.heap h' (frs (env :: outer)) [ea] → Q () { s with heap := h' }) : wpAny M A (noteFrame (.ref ea) env) Q E s := by
  obtain ⟨oe, vs, a0, e1, e2, e3, e4, e5, e6⟩ := m
  unfold noteFrame
  simp only [hf]
  refine wpAny_bind (wpAny_field e1 e4 e6 ?_)
  rw [if_neg (by decide)]
  exact entry_on hfr hl hf e1 e2 e3 e4 e5 (Array.getElem?_eq_some_iff.mp e6).1 h
theorem note_on (hfr : A.frames = some (env :: outer)) (hl : s.heap.FunFrames base (env :: outer)) (hf : env.frame = some L) (m : Fly s.heap ea T cls dx)
    (h : ∀ h' T', FlyAt h' ea T' cls dx (rawInt L) → s.heap.get? T' = none → Moved s.heap h' (frs (env :: outer)) [T, ea] → Q () { s with heap := h' }) : wpAny M A (noteFrame (.ref ea) env) Q E s := by
  obtain ⟨oe, vs, oT, ts, a0, e1, e2, e3, e4, e5, e6, e7, e8, e9, e10⟩ := m
  unfold noteFrame
  simp only [hf]
  refine wpAny_bind (wpAny_field e1 e4 e6 ?_)
  rw [if_pos (by simp)]
  refine wpAny_bind (wpAny_field e8 e9 e10 ?_)
  rw [if_neg (by simp [rawInt])]
  refine wpAny_bind (wpAny_setField e8 e9 (Array.getElem?_eq_some_iff.mp e10).1 ?_)
  have oth : ∀ b, b ≠ T → (s.heap.update T (Obj.mapFields (·.setIfInBounds 3 Value.none))).get? b = s.heap.get? b := fun b n => Heap.get?_update_other _ _ (Ne.symm n)
  have rec' : ∀ b o, s.heap.get? b = some o → (∀ vs, o.data ≠ .fields vs) → b ≠ T := fun b o q nf z => by
    rw [z, e8] at q
    cases q
    exact nf ts e9
  have mv := Moved.one (fs := frs (env :: outer)) oth
  refine entry_on (s := { s with heap := _ }) hfr (hl.of_keeps fun b o q nf => ⟨o, (oth b (rec' b o q nf)).trans q, rfl⟩) hf ((oth ea (Ne.symm e7)).trans e1) e2 e3 e4 e5 (Array.getElem?_eq_some_iff.mp e6).1 fun h' T' f1 f2 f3 => h h' T' f1 ?_ (mv.trans f3)
  cases q : s.heap.get? T' with
  | none => rfl
  | some o =>
    by_cases z : T' = T
    · rw [z, Heap.get?_update_self _ e8 (Obj.isFreed_of_fields (Obj.data_mapFields e9 _))] at f2; cases f2
    · rw [oth T' z, q] at f2; cases f2
theorem flight_off (m : FlyAt s.heap ea T cls dx fl) (h : ∀ h', Fly h' ea T cls dx → (∀ b, b ≠ T → h'.get? b = s.heap.get? b) → Q () { s with heap := h' }) : wpAny M A (setFlight (.ref ea) none) Q E s := by
  obtain ⟨oe, vs, oT, ts, a0, e1, e2, e3, e4, e5, e6, e7, e8, e9, e10⟩ := m
  have sz : 3 < ts.size := (Array.getElem?_eq_some_iff.mp e10).1
  unfold setFlight
  refine wpAny_bind (wpAny_field e1 e4 e6 ?_)
  rw [if_pos (by simp)]
  have oth : ∀ b, b ≠ T → (s.heap.update T (Obj.mapFields (·.setIfInBounds 3 Value.none))).get? b = s.heap.get? b := fun b n => Heap.get?_update_other _ _ (Ne.symm n)
  refine wpAny_setField e8 e9 sz (h _ ⟨oe, vs, _, _, a0, (oth ea (Ne.symm e7)).trans e1, e2, e3, e4, e5, e6, e7, Heap.get?_update_self _ e8 (Obj.isFreed_of_fields (Obj.data_mapFields e9 _)), Obj.data_mapFields e9 _, by simp [sz]⟩ oth)
theorem leave_first (hfr : A.frames = some (env :: outer)) (hl : s.heap.FunFrames base (env :: outer)) (hf : env.frame = some L) (m : Made s.heap ea cls dx)
    (h : ∀ h' T', Fly h' ea T' cls dx → s.heap.get? T' = none → Moved s.heap h' (frs (env :: outer)) [ea] → Q () { s with heap := h' }) : wpAny M A (leaving env (.ref ea)) Q E s := by
  unfold leaving
  refine wpAny_bind (note_new hfr hl hf m fun h1 T1 f1 f2 f3 => ?_)
  refine flight_off (s := { s with heap := h1 }) f1 fun h2 f4 f5 => h h2 T1 f4 f2 ?_
  exact (f3.trans (Moved.one f5)).less fun b hb => (List.mem_append.mp hb).imp id fun z => by rw [List.mem_singleton] at z; rw [z]; exact f2
theorem look_on (hfr : A.frames = some (env :: outer)) (hl : s.heap.FunFrames base (env :: outer)) (hf : env.frame = some L) (m : Fly s.heap ea T cls dx)
    (h : ∀ h' T', Fly h' ea T' cls dx → s.heap.get? T' = none → Moved s.heap h' (frs (env :: outer)) [ea, T] → Q () { s with heap := h' }) :
    wpAny M A (noteFrame (.ref ea) env) (fun _ s2 => wpAny M A (setFlight (.ref ea) none) Q E s2) E s := by
  refine note_on hfr hl hf m fun h1 T1 f1 f2 f3 => ?_
  refine flight_off (s := { s with heap := h1 }) f1 fun h2 f4 f5 => h h2 T1 f4 f2 ?_
  refine (f3.trans (Moved.one f5)).less fun b hb => ?_
  rcases List.mem_append.mp hb with z | z
  · exact .inl (by simp at z ⊢; exact z.symm)
  · rw [List.mem_singleton] at z; rw [z]; exact .inr f2
theorem leave_on (hfr : A.frames = some (env :: outer)) (hl : s.heap.FunFrames base (env :: outer)) (hf : env.frame = some L) (m : Fly s.heap ea T cls dx)
    (h : ∀ h' T', Fly h' ea T' cls dx → s.heap.get? T' = none → Moved s.heap h' (frs (env :: outer)) [ea, T] → Q () { s with heap := h' }) : wpAny M A (leaving env (.ref ea)) Q E s := by
  unfold leaving
  exact wpAny_bind (look_on hfr hl hf m h)
end
theorem ObjOk.there {P : Program} {w : World} {H : Hp} {h : Heap} {a : Addr} {o : HO} (x : ObjOk P w H h a o) : ∃ u, h.get? a = some u := by
  cases o with
  | lst xs => obtain ⟨_, _, _, _, e⟩ := x; exact ⟨_, e⟩
  | tup xs => obtain ⟨_, _, _, o, e, _⟩ := x; exact ⟨_, e⟩
  | dK kvs => obtain ⟨_, _, _, _, o, _, _, e, _⟩ := x; exact ⟨_, e⟩
  | dT kvs => obtain ⟨_, _, _, _, o, _, _, e, _⟩ := x; exact ⟨_, e⟩
  | set S n => obtain ⟨o, _, _, _, e, _⟩ := x; exact ⟨_, e⟩
  | ins C dx fs => obtain ⟨_, _, _, e, _⟩ := x; exact ⟨_, e⟩
  | own y => exact x
  | xd fs => obtain ⟨_, ⟨_, _, _, e, _⟩, _⟩ := x; exact ⟨_, e⟩
  | rng lo hi => obtain ⟨_, _, _, e⟩ := x; exact ⟨_, e⟩
  | frz ob u => obtain ⟨e, _⟩ := x; exact ⟨_, e⟩
  | tbl ps => exact ⟨_, x⟩
  | met f y => exact ⟨_, x⟩
  | ext φ => exact x.2.1
theorem HOk.none_of {P : Program} {w : World} {H : Hp} {h : Heap} (k : HOk P w H h) {a : Addr} (e : h.get? a = none) : H a = none := by
  cases q : H a with
  | none => rfl
  | some o => obtain ⟨u, e2⟩ := (k a o q).there; rw [e] at e2; cases e2
section
variable {X : Cx} {pins : List (Addr × Obj)} {σ : St} {H : Hp} {s : Shared} {h' : Heap}
theorem Inv.moved {ch : List Addr} (I : Inv X pins σ H s) (m : Moved s.heap h' (frs X.stack) ch) (hn : ∀ b ∈ ch, H b = none) (h0 : ∀ b ∈ ch, X.s₀.heap.get? b = none) (hL : ∀ b ∈ ch, b ≠ X.env.locals)
    (hc : ∀ b ∈ ch, ∀ x c, X.env.cells.lookup x = some c → c ≠ b) (hp : ∀ b ∈ ch, ∀ p ∈ X.pn ++ pins, p.1 ≠ b) : Inv X pins σ H { s with heap := h' } := by
  have any : ∀ b o, b ∉ ch → s.heap.get? b = some o → ∃ sl, h'.get? b = some { o with slots := sl } := fun b o hb e => by
    by_cases m1 : b ∈ frs X.stack
    · exact m.slot b o e hb m1
    · exact ⟨o.slots, m.keep b o e hb m1⟩
  have neC : ∀ b o, X.s₀.heap.get? b = some o → b ∉ ch := fun b o e hb => by rw [h0 b hb] at e; cases e
  have neL : ∀ b o, X.s₀.heap.get? b = some o → b ≠ X.env.locals := fun b o e => Nat.ne_of_lt (Nat.lt_of_lt_of_le (Heap.lt_size e) I.ok.above)
  have nst : ∀ b, b ≠ X.env.locals → b ∉ X.fs → b ∉ frs X.stack := fun b h1 h2 h3 => (List.mem_cons.mp (I.stkSub b h3)).elim h1 h2
  have cellK : ∀ x c, X.env.cells.lookup x = some c → ∀ v, s.heap.IsCell c v → h'.IsCell c v := fun x c e v ⟨o, ho, hd⟩ => by
    obtain ⟨sl, q⟩ := any c o (fun z => hc c z x c e rfl) ho
    exact ⟨_, q, hd⟩
  have trk : ∀ b u, H b = some u → b ∉ ch ∧ b ∉ frs X.stack := fun b u e => ⟨fun z => (by rw [hn b z] at e; cases e), fun z => (by rw [I.stkFree b z] at e; cases e)⟩
  refine ⟨I.ok, I.os, I.bare, ⟨fun b o e n hb hx => ?_, fun b o e n hb hx => ?_, I.base.free, fun b o e hx => ?_, I.base.tups, I.base.frzs, I.base.tbls⟩, ?_, fun x c e => ?_, I.free, I.freeC, fun p hq => ?_, fun b u e => ?_, I.len⟩
  · exact m.keep b o (I.base.keep b o e n hb hx) (neC b o e) (nst b (neL b o e) hb)
  · obtain ⟨sl, e1⟩ := I.base.slot b o e n hb hx
    obtain ⟨sl', e2⟩ := any b _ (neC b o e) e1
    exact ⟨sl', e2⟩
  · obtain ⟨o', e1⟩ := I.base.there b o e hx
    obtain ⟨sl, e2⟩ := any b o' (neC b o e) e1
    exact ⟨_, e2⟩
  · obtain ⟨mm, ⟨o, es, ep, ho, r⟩, hl⟩ := I.loc
    obtain ⟨sl, e2⟩ := any _ o (fun z => hL _ z rfl) ho
    refine ⟨mm, ⟨_, es, ep, e2, r⟩, fun i x v e1 e2 e3 => ?_⟩
    obtain ⟨u, rr, l⟩ := hl i x v e1 e2 e3
    refine ⟨u, rr, ?_⟩
    rcases l with l | ⟨k, c, e, z⟩
    · exact .inl l
    · exact .inr ⟨k, c, e, cellK x c e _ z⟩
  · obtain ⟨v, z⟩ := I.cell x c e
    exact ⟨v, cellK x c e v z⟩
  · obtain ⟨e, n, ne, nf, d⟩ := I.pin p hq
    exact ⟨m.keep p.1 p.2 e (fun z => hp _ z p hq rfl) (nst _ ne nf), n, ne, nf, d⟩
  · refine (I.hok b u e).stay (fun c v hcv q => ?_) (fun _ q => q) fun _ _ q => q
    have z : c ∉ ch ∧ c ∉ frs X.stack := by
      rcases hcv with rfl | hcv
      · exact trk c u e
      · exact trk c _ hcv
    exact m.keep c v q z.1 z.2
structure Apart (X : Cx) (pins : List (Addr × Obj)) (H : Hp) (b : Addr) : Prop where
  trk : H b = none
  old : X.s₀.heap.get? b = none
  loc : b ≠ X.env.locals
  cell : ∀ x c, X.env.cells.lookup x = some c → c ≠ b
  pin : ∀ p ∈ X.pn ++ pins, p.1 ≠ b
theorem Inv.moved' {ch : List Addr} (I : Inv X pins σ H s) (m : Moved s.heap h' (frs X.stack) ch) (ha : ∀ b ∈ ch, Apart X pins H b) : Inv X pins σ H { s with heap := h' } :=
  I.moved m (fun b hb => (ha b hb).trk) (fun b hb => (ha b hb).old) (fun b hb => (ha b hb).loc) (fun b hb => (ha b hb).cell) fun b hb => (ha b hb).pin
theorem Inv.apart (I : Inv X pins σ H s) (hx : X.ex = []) {b : Addr} (e : s.heap.get? b = none) : Apart X pins H b := by
  refine ⟨I.hok.none_of e, ?_, ?_, fun x c hc z => ?_, fun p hp z => ?_⟩
  · cases q : X.s₀.heap.get? b with
    | none => rfl
    | some o =>
      obtain ⟨o', e1⟩ := I.base.there b o q (by rw [hx]; simp)
      rw [e] at e1; cases e1
  · rintro rfl
    obtain ⟨m, ⟨o, _, _, ho, _⟩, _⟩ := I.loc
    rw [e] at ho; cases ho
  · obtain ⟨v, o, ho, _⟩ := I.cell x c hc
    rw [z, e] at ho; cases ho
  · have := (I.pin p hp).1
    rw [z, e] at this; cases this
end
def CXE (P : Program) (w : World) : CXT := fun outer H s E e s' => ∃ (ea T : Addr) (cls : Value) (dx : Option Addr) (H' : Hp), e = .ref ea ∧ s'.os = s.os ∧ AllBare s'.gens ∧ Un (frs outer) [] H H' s.heap s'.heap ∧ HOk P w H' s'.heap ∧
  H' ea = none ∧ H' T = none ∧ s.heap.get? ea = none ∧ s.heap.get? T = none ∧ Fly s'.heap ea T cls dx ∧ E cls dx H'
theorem passE0 {P : Program} {w : World} {X : Cx} : Passes (CXE P w) X E0 := fun _ _ _ _ _ _ _ ⟨_, _, _, _, _, _, _, _, _, _, _, _, _, _, _, f⟩ => f.elim
section
variable {P : Program} {w : World} {K : PySem.W.Frag} {mg : Str → Option Value} {base : Heap} {N : List Str} {qual : Str} {scope : Scope} {f : Addr} {cd : Value} {A : Around} {outer : List Env} {s₀ : Shared} {H₀ : Hp} {E : XK}
abbrev cxE (P : Program) (w : World) (K : PySem.W.Frag) (mg : Str → Option Value) (base : Heap) (N : List Str) (qual : Str) (scope : Scope) (f : Addr) (cd : Value) (A : Around) (outer : List Env) (s₀ : Shared) (H₀ : Hp) (E : XK) : Cx :=
  cxOf (CXE P w) P w K mg base N qual scope f cd A outer s₀ H₀ E
theorem throw_ok {pins : List (Addr × Obj)} {σ : St} {H : Hp} {s : Shared} {ea : Addr} {cls : Value} {dx : Option Addr} (I : Inv (cxE P w K mg base N qual scope f cd A outer s₀ H₀ E) pins σ H s) (m : Made s.heap ea cls dx) (a : Apart (cxE P w K mg base N qual scope f cd A outer s₀ H₀ E) pins H ea) (e : E cls dx H) :
    (cxE P w K mg base N qual scope f cd A outer s₀ H₀ E).xe (.ref ea) s := by
  refine leave_first (base := base) (outer := outer) I.ok.frames I.stack rfl m fun h' T' fl nT mv => ?_
  have I' := I.moved' mv fun b hb => by
    rcases List.mem_cons.mp hb with rfl | hb
    · exact a
    · cases hb
  have aT := I.apart rfl nT
  exact ⟨ea, T', cls, dx, H, rfl, I'.os, I'.bare, I'.base, I'.hok, a.trk, aT.trk, a.old, aT.old, fl, e⟩
theorem passE : Passes (CXE P w) (cxE P w K mg base N qual scope f cd A outer s₀ H₀ E) E := by
  intro pins σ H s e s' I h
  obtain ⟨ea, T, cls, dx, H', rfl, h1, h2, h3, h4, h5, h6, h7, h8, h9, h10⟩ := h
  have a1 := I.apart rfl h7
  have a2 := I.apart rfl h8
  have I' := I.call' h1 h3 h4 h2 (by intro b hb; cases hb)
  refine leave_on (base := base) (outer := outer) I'.ok.frames I'.stack rfl h9 fun h' T' fl nT mv => ?_
  have I2 := I'.moved' mv fun b hb => by
    rcases List.mem_cons.mp hb with rfl | hb
    · exact ⟨h5, a1.old, a1.loc, a1.cell, a1.pin⟩
    · rcases List.mem_cons.mp hb with rfl | hb
      · exact ⟨h6, a2.old, a2.loc, a2.cell, a2.pin⟩
      · cases hb
  have aT := I'.apart rfl nT
  exact ⟨ea, T', cls, dx, H', rfl, I2.os, I2.bare, I2.base, I2.hok, h5, aT.trk, a1.old, aT.old, fl, h10⟩
end
end L2
set_option maxRecDepth 100000
namespace L2
open PySem PySem.Spec PyProof.Rows
abbrev veMro : List Value := [.type "ValueError", .type "Exception", .type "BaseException", .type "object"]
abbrev ExcC (K : PySem.W.Frag) (C : Addr) : Prop := PySem.W.excIn K C veMro "ValueError.__new__" = true
theorem exc_of {K : PySem.W.Frag} {g : Heap} {C : Addr} (kin : K.In g) (isx : ExcC K C) : ∃ nm qn N bs bm hdct sn sub ab col dd k0 k1 k2 k3 k5 mN, g.get? C = some (excClassObj nm qn C N bs bm hdct sn sub ab col dd k0 k1 k2 k3 k5 "ValueError.__new__") ∧
    g.Ns N mN ∧ mN "__init__" = none ∧ OwnTail g veMro bm := by
  unfold ExcC PySem.W.excIn at isx
  split at isx
  next dct cdat slo look =>
    split at isx
    next C2 tail s0 s1 s2 s3 made s5 mro slots =>
      simp only [Bool.and_eq_true, beq_iff_eq, Bool.not_eq_true'] at isx
      obtain ⟨⟨⟨⟨⟨e1, e2⟩, e3⟩, e4⟩, e5⟩, e6⟩ := isx
      cases cdat with
      | mk z1 z2 z3 z4 z5 z6 z7 z8 z9 z10 z11 =>
        dsimp only at mro e3 e5 e6
        subst e1 e2 mro e3
        cases slo with
        | mk lst =>
          dsimp only at slots
          subst slots
          exact ⟨_, _, _, _, _, _, _, _, _, _, _, _, _, _, _, _, _, kin _ _ look, .of_isNs (PySem.W.isNs_of_in kin e5), PySem.W.nsMap_none_of_in kin e5 e6, PySem.W.tail_of_in kin e4⟩
    next => cases isx
  next => cases isx
def tRaise (E : XK) (C : Addr) (t : TA) : TS := fun _ σ H => t σ H fun vs H1 => vs.length ≤ 1000 ∧ E (.ref C) none H1
section
variable {P : Program} {w : World} {K : PySem.W.Frag} {mg : Str → Option Value} {base : Heap} {N : List Str} {qual : Str} {scope : Scope} {f : Addr} {cd : Value} {A : Around} {outer : List Env} {s₀ : Shared} {H₀ : Hp} {E : XK}
theorem ps_raise {x : Str} {e : Expr} {es : List Expr} {t : TA} {C : Addr} {np cpos pos : Pos} (isx : ExcC K C) (hg : Gl (cxE P w K mg base N qual scope f cd A outer s₀ H₀ E) x) (hm : mg x = some (.ref C)) (ha : PA (cxE P w K mg base N qual scope f cd A outer s₀ H₀ E) (e :: es) t)
    (hdb : (x == ("__debug__" : Str)) = false := by decide) (he : starEach (e :: es) (cxE P w K mg base N qual scope f cd A outer s₀ H₀ E).env = (false, eval e (cxE P w K mg base N qual scope f cd A outer s₀ H₀ E).env) :: starEach es (cxE P w K mg base N qual scope f cd A outer s₀ H₀ E).env := by rfl)
    (hpl : (backTo cpos (starEach (e :: es) (cxE P w K mg base N qual scope f cd A outer s₀ H₀ E).env)).any (·.1) = false := by rfl) :
    PS (cxE P w K mg base N qual scope f cd A outer s₀ H₀ E) (.Raise (some (.Call (.Name x np) (e :: es) [] cpos)) none pos) (tRaise E C t) := by
  intro pins s σ H D I h
  obtain ⟨nm, qn, NN, bs, bm, hdct, sn, sub, ab, col, dd, k0, k1, k2, k3, k5, mN, c1, c2, c3, c4⟩ := exc_of I.mod.kin isx
  refine wpAny_Raise_call_subT (C := C) (nm := nm) (q := qn) (N := NN) (bs := bs) (bm := bm) (hdct := hdct) (sn := sn) (sub := sub) (ab := ab) (col := col) (dd := dd) (k0 := k0) (k1 := k1) (k2 := k2) (k3 := k3) (k5 := k5) PySem.F.excBase_ValueError (c4.hasType PySem.F.excBase_ValueError.hasBase) (I.ok.hd rfl) hpl c3 ?_
  refine ld_glob I hg hm ⟨rfl, ?_⟩ hdb
  have q := ha cpos pins s σ H _ I h
  rw [he] at q ⊢
  refine PySem.Calls.evalArgs_plain (thn q fun us s1 ⟨vs, H1, I1, r, q1⟩ => ?_)
  refine ⟨rfl, by rw [← r.length]; exact le_line q1.1, I1.bk _ _ c1, c2.keeps I1.bk, c4.keeps I1.bk, fun h' ea md => ?_⟩
  have I2 : Inv _ pins σ H1 { s1 with heap := h' } := I1.kept (t' := s1.toks) md.keeps
  obtain ⟨tp, e1, _, _⟩ := md.there
  refine throw_ok (cls := .ref C) (dx := none) I2 ⟨_, _, _, e1, rfl, rfl, rfl, rfl, rfl⟩ ?_ q1.2
  have a := I1.apart rfl md.new
  exact ⟨a.trk, a.old, a.loc, a.cell, a.pin⟩
theorem Fun.okE {x : Str} {st : Stmt} {fd : FuncData} {N ps : List Str} {k : Nat} {sp : Sp} (F : Fun K x qual st f fd) (S : FnScope N ps (defScope st)) (len : ∀ vs H Q E, sp vs H Q E → vs.length = ps.length)
    (hbody : ∀ (cdv : Value) (A : Around) (outer : List Env) (s : Shared) (H : Hp) (vs : List V) (Q : VK) (E : XK), Room k (A.deeper (envOfC qual (defScope st) s.heap.objs.size f cdv)) → sp vs H Q E →
      ∃ t, PSs (cxE P w K mg base N qual (defScope st) f cdv A outer s H E) (defBody st) t ∧ t { nx := fun _ H' => Q .non H', rt := Q } (start N vs) H) : FnOk P w K mg base (CXE P w) (k + 1) f fd ps sp := by
  obtain ⟨oc, od, kV, doc, pm, an, cdv, ct, osl, rfl, lk, hcd⟩ := F.ex
  exact fn_of lk hcd S len fun A outer s H vs Q E hr hsp => hbody cdv A outer s H vs Q E hr hsp
theorem Fun.okN {x : Str} {st : Stmt} {fd : FuncData} {N ps : List Str} {k : Nat} {sp : Sp} (F : Fun K x qual st f fd) (S : FnScope N ps (defScope st)) (len : ∀ vs H Q E, sp vs H Q E → vs.length = ps.length)
    (hbody : ∀ (cdv : Value) (A : Around) (outer : List Env) (s : Shared) (H : Hp) (vs : List V) (Q : VK) (E : XK), Room k (A.deeper (envOfC qual (defScope st) s.heap.objs.size f cdv)) → sp vs H Q E →
      ∃ t, PSs (cxE P w K mg base N qual (defScope st) f cdv A outer s H E).nox (defBody st) t ∧ t { nx := fun _ H' => Q .non H', rt := Q } (start N vs) H) : FnOk P w K mg base (CXE P w) (k + 1) f fd ps sp :=
  F.okE S len fun cdv A outer s H vs Q E hr hsp => let ⟨t, h, q⟩ := hbody cdv A outer s H vs Q E hr hsp; ⟨t, h.nox, q⟩
theorem FunD.okE {x : Str} {st : Stmt} {dV : Value} {fd : FuncData} {N ps : List Str} {k : Nat} {sp : Sp} (F : FunD K x qual st dV f fd) (S : FnScope N ps (defScope st)) (len : ∀ vs H Q E, sp vs H Q E → vs.length = ps.length)
    (hbody : ∀ (cdv : Value) (A : Around) (outer : List Env) (s : Shared) (H : Hp) (vs : List V) (Q : VK) (E : XK), Room k (A.deeper (envOfC qual (defScope st) s.heap.objs.size f cdv)) → sp vs H Q E →
      ∃ t, PSs (cxE P w K mg base N qual (defScope st) f cdv A outer s H E) (defBody st) t ∧ t { nx := fun _ H' => Q .non H', rt := Q } (start N vs) H) : FnOk P w K mg base (CXE P w) (k + 1) f fd ps sp := by
  obtain ⟨oc, od, kV, doc, pm, an, cdv, ct, osl, rfl, lk, hcd⟩ := F.ex
  exact fn_of lk hcd S len fun A outer s H vs Q E hr hsp => hbody cdv A outer s H vs Q E hr hsp
theorem FunD.okN {x : Str} {st : Stmt} {dV : Value} {fd : FuncData} {N ps : List Str} {k : Nat} {sp : Sp} (F : FunD K x qual st dV f fd) (S : FnScope N ps (defScope st)) (len : ∀ vs H Q E, sp vs H Q E → vs.length = ps.length)
    (hbody : ∀ (cdv : Value) (A : Around) (outer : List Env) (s : Shared) (H : Hp) (vs : List V) (Q : VK) (E : XK), Room k (A.deeper (envOfC qual (defScope st) s.heap.objs.size f cdv)) → sp vs H Q E →
      ∃ t, PSs (cxE P w K mg base N qual (defScope st) f cdv A outer s H E).nox (defBody st) t ∧ t { nx := fun _ H' => Q .non H', rt := Q } (start N vs) H) : FnOk P w K mg base (CXE P w) (k + 1) f fd ps sp :=
  F.okE S len fun cdv A outer s H vs Q E hr hsp => let ⟨t, h, q⟩ := hbody cdv A outer s H vs Q E hr hsp; ⟨t, h.nox, q⟩
end
def XP (X : Cx) (pins : List (Addr × Obj)) (σ : St) (E : XK) (e : Value) (s' : Shared) : Prop := ∃ ea T cls dx H', e = .ref ea ∧ Inv X pins σ H' s' ∧ Apart X pins H' ea ∧ Apart X pins H' T ∧ Fly s'.heap ea T cls dx ∧ E cls dx H'
def PX (X : Cx) (e : Expr) (t : XK → TE) : Prop :=
  ∀ (pins : List (Addr × Obj)) (s : Shared) (σ : St) (H : Hp) (Q : VK) (E : XK), Inv X pins σ H s → t E σ H Q → wpAny (model X.prog X.w) X.A (eval e X.env) (EP X pins σ Q) (XP X pins σ E) s
def PB (X : Cx) (sts : List Stmt) (t : XK → TS) : Prop :=
  ∀ (pins : List (Addr × Obj)) (s : Shared) (σ : St) (H : Hp) (D : Ends) (E : XK), Inv X pins σ H s → t E D σ H → wpAny (model X.prog X.w) X.A (execs sts X.env) (SP X pins D) (XP X pins σ E) s
section
variable {X : Cx} {k : Nat} {f C : Addr} {fd : FuncData} {ps : List Str} {sp : Sp} {dvs : List V} {ds : List Value} {x m : Str} {p pos apos : Pos} {e o : Expr} {es : List Expr} {ta : TE} {t : TA}
theorem xp_of (hx : X.ex = []) {pins : List (Addr × Obj)} {σ : St} {H : Hp} {s s' : Shared} {E : XK} {ev : Value} (I : Inv X pins σ H s) (h : CXE X.prog X.w X.stack H s E ev s') : XP X pins σ E ev s' := by
  obtain ⟨ea, T, cls, dx, H', rfl, h1, h2, h3, h4, h5, h6, h7, h8, h9, h10⟩ := h
  have a1 := I.apart hx h7
  have a2 := I.apart hx h8
  exact ⟨ea, T, cls, dx, H', rfl, I.call' h1 h3 h4 h2 (by intro b hb; cases hb), ⟨h5, a1.old, a1.loc, a1.cell, a1.pin⟩, ⟨h6, a2.old, a2.loc, a2.cell, a2.pin⟩, h9, h10⟩
theorem run_fnX (hx : X.ex = []) {pins : List (Addr × Obj)} {σ : St} {H : Hp} {s : Shared} {Q : VK} {E : XK} {us : List Value} {vs : List V} (F : FnOk X.prog X.w X.K X.mg X.base (CXE X.prog X.w) k f fd ps sp) (hr : Room k X.A) (hb : Binds X.K fd ps ds) (hd : Vals dvs ds)
    (I : Inv X pins σ H s) (r : Vals vs us) (h : sp (vs ++ dvs) H Q E) : wpAny (model X.prog X.w) X.A (call (.ref f) us) (EP X pins σ Q) (XP X pins σ E) s := by
  have r2 : Vals (vs ++ dvs) (us ++ ds) := r.append hd
  have hl : (us ++ ds).length = ps.length := by rw [← r2.length]; exact F.len _ _ _ _ h
  refine wpAny_call (codeAny_mono (F.run X.A X.stack s H ⟨us, []⟩ (us ++ ds) (vs ++ dvs) Q E hr I.env0 (hb s us I.kIn hl) r2 h) fun rr s' hq => ?_)
  cases rr with
  | error ev => exact xp_of hx I hq
  | ok fl =>
    cases fl with
    | ret u => exact I.after hq
    | next => exact False.elim hq
    | brk => exact False.elim hq
    | cont => exact False.elim hq
theorem px_call (hx : X.ex = []) (F : FnOk X.prog X.w X.K X.mg X.base (CXE X.prog X.w) k f fd ps sp) (hr : Room k X.A) (hg : Gl X x) (hm : X.mg x = some (.ref f)) (hk : PySem.W.keepIn X.K (.ref f) = true) (hb : Binds X.K fd ps ds) (hd : Vals dvs ds)
    (ha : ∀ E, PA (X.wish E) (e :: es) t) (hdb : (x == ("__debug__" : Str)) = false := by decide) (he : starEach (e :: es) X.env = (false, eval e X.env) :: starEach es X.env := by rfl) (hpl : (backTo pos (starEach es X.env)).any (·.1) = false := by rfl) :
    PX X (.Call (.Name x p) (e :: es) [] pos) (fun E => tCall sp dvs E t) := by
  intro pins s σ H Q E I h
  refine wpAny_Call_Name_kw (ld_glob I hg hm ?_ hdb)
  refine PySem.W.callWith_K (h₀ := X.base) I.ok.mod.kin hk (thn (ha (XP X pins σ E) pos pins s σ H _ (I.wish _) h) fun us s1 ⟨vs, H1, I1, r, q⟩ => ⟨I1.unwish.kIn, ?_⟩) he hpl
  exact run_fnX hx F hr hb hd I1.unwish r q
theorem pb_expr {te : XK → TE} (h : PX X e te) (hs : swapsWith e none pos.line X.env = pure false := by rfl) : PB X [.Expr e pos] (fun E => tDrop (te E)) := by
  intro pins s σ H D E I hw
  refine wpAny_execs_cons (wpAny_Expr_any (thn (h pins s σ H _ E I hw) fun v s1 ⟨y, H1, I1, r1, q1⟩ => ?_) I.quiet hs)
  exact wpAny_execs_nil ⟨σ, H1, I1, q1⟩
end
abbrev Cx.hand (X : Cx) (ea : Addr) : Cx := { X with A := X.A.mark (some (.ref ea)), calm := false, xe := fun _ _ => False }
theorem Cx.Ok.hand {X : Cx} (ok : X.Ok) (ea : Addr) : (X.hand ea).Ok :=
  ⟨ok.mod, ok.kind, ok.glob, ok.blt, ok.above, ok.inj, ok.has, ok.cab, (fun z => by cases z), ok.frames, ok.stk, ok.exf, ok.bs, ok.bsz, ok.noex, ok.exfs, ok.funs, ok.frf⟩
theorem Cx.Ok.unhand {X : Cx} {ea : Addr} (ok0 : X.Ok) (ok : (X.hand ea).Ok) : X.Ok := ok0
section
variable {X : Cx} {pins : List (Addr × Obj)} {σ : St} {H : Hp} {s : Shared} {ea : Addr}
theorem Inv.hand (I : Inv X pins σ H s) (ea : Addr) : Inv (X.hand ea) pins σ H s := ⟨I.ok.hand ea, I.os, I.bare, I.base, I.loc, I.cell, I.free, I.freeC, I.pin, I.hok, I.len⟩
theorem Inv.unhand (ok : X.Ok) (I : Inv (X.hand ea) pins σ H s) : Inv X pins σ H s := ⟨ok, I.os, I.bare, I.base, I.loc, I.cell, I.free, I.freeC, I.pin, I.hok, I.len⟩
def excAt (ea : Addr) (cls : Value) (dx : Option Addr) : HO := .ext fun h => ∃ oe vs, h.get? ea = some oe ∧ oe.cls = cls ∧ oe.dict = dx ∧ oe.data = .fields vs
theorem Inv.track {cls : Value} {dx : Option Addr} (I : Inv X pins σ H s) (a : Apart X pins H ea) (hx : ∃ oe vs, s.heap.get? ea = some oe ∧ oe.cls = cls ∧ oe.dict = dx ∧ oe.data = .fields vs) : Inv X pins σ (upd H ea (excAt ea cls dx)) s := by
  have ne : ∀ b o, X.s₀.heap.get? b = some o → b ≠ ea := fun b o e z => by rw [z, a.old] at e; cases e
  have nt : ∀ b o, H b = some o → b ≠ ea := fun b o e => ne_of_none e a.trk
  refine ⟨I.ok, I.os, I.bare, ⟨I.base.keep, I.base.slot, fun b o e n hx => ?_, I.base.there, fun b xs e => ?_, fun b o xs e => ?_, fun b ps e => ?_⟩, I.loc, I.cell, ?_, fun x c e => ?_, fun p hp => ?_, fun b u e => ?_, I.len⟩
  · rw [upd_ne (ne b o e)]; exact I.base.free b o e n hx
  · have q := I.base.tups b xs e
    rw [upd_ne (nt b _ q)]; exact q
  · have q := I.base.frzs b o xs e
    rw [upd_ne (nt b _ q)]; exact q
  · obtain ⟨mm, q⟩ := I.base.tbls b ps e
    exact ⟨mm, by rw [upd_ne (nt b _ q)]; exact q⟩
  · rw [upd_ne (Ne.symm a.loc)]; exact I.free
  · rw [upd_ne (a.cell x c e)]; exact I.freeC x c e
  · obtain ⟨q1, q2, q3⟩ := I.pin p hp
    exact ⟨q1, by rw [upd_ne (a.pin p hp)]; exact q2, q3⟩
  · by_cases hb : b = ea
    · subst hb
      rw [upd_same] at e
      cases e
      obtain ⟨oe, vs, q1, q2, q3⟩ := hx
      exact ⟨⟨oe, vs, q1, q2, q3⟩, ⟨oe, q1⟩, fun h1 h2 ⟨o1, v1, z1, z2⟩ k => ⟨o1, v1, k _ z1, z2⟩⟩
    · rw [upd_ne hb] at e
      exact (I.hok b u e).stay (fun _ _ _ q => q) (fun c q => by rw [upd_ne (nt c _ q)]; exact q) fun c xs q => by rw [upd_ne (nt c _ q)]; exact q
theorem name_goes {M : Model} {A : Around} {E : Value → Shared → Prop} {i : Nat} {n : Str} {pos : Pos} {Q : Unit → Shared → Prop} (I : Inv X pins σ H s) (hN : X.N.Nodup) (hi : X.N[i]? = some n) (hl : X.env.scope.names.lookup n = some .local)
    (h : ∀ s', Inv X pins (σ.set i none) H s' → Q () s') : wpAny M A (do bindName X.env n .none; unbindBehindTheSuite X.env n pos) Q E s := by
  obtain ⟨m, hn, hloc⟩ := I.loc
  refine wpAny_nameGoes_keeps hl hn (by rw [I.ok.kind]; rfl) fun h' v hn' hs => h _ ?_
  have keep : ∀ b o, b ≠ X.env.locals → s.heap.get? b = some o → h'.get? b = some o := fun b o ne e => (hs.2 b ne).trans e
  have neL : ∀ b o, X.s₀.heap.get? b = some o → b ≠ X.env.locals := fun b o e => Nat.ne_of_lt (Nat.lt_of_lt_of_le (Heap.lt_size e) I.ok.above)
  have lL : ∃ o, h'.get? X.env.locals = some o := by obtain ⟨o, _, _, ho, _⟩ := hn'; exact ⟨o, ho⟩
  refine ⟨I.ok, I.os, I.bare, ⟨fun b o e n1 hb hx => keep b o (neL b o e) (I.base.keep b o e n1 hb hx), fun b o e n1 hb hx => ?_, I.base.free, fun b o e hx => ?_, I.base.tups, I.base.frzs, I.base.tbls⟩, ⟨_, hn', fun j y v' e1 e2 e3 => ?_⟩, fun x c e => ?_, I.free, I.freeC, fun p hp => ?_, fun b u e => ?_, by rw [List.length_set]; exact I.len⟩
  · obtain ⟨sl, q⟩ := I.base.slot b o e n1 hb hx
    exact ⟨sl, keep b _ (neL b o e) q⟩
  · obtain ⟨o', q⟩ := I.base.there b o e hx
    exact ⟨o', keep b _ (neL b o e) q⟩
  · have hj : j ≠ i := fun z => by
      subst z
      by_cases hlt : j < σ.length
      · rw [List.getElem?_set_self hlt] at e2; cases e2
      · rw [List.getElem?_eq_none (by rw [List.length_set]; omega)] at e2; cases e2
    rw [List.getElem?_set_ne (Ne.symm hj)] at e2
    obtain ⟨u, r, q⟩ := hloc j y v' e1 e2 e3
    refine ⟨u, r, ?_⟩
    rcases q with ⟨k, e⟩ | ⟨k, c, e, z⟩
    · have ny : y ≠ n := fun z => hj (nodup_ix hN e1 (z ▸ hi))
      exact .inl ⟨k, by simp [ny, e]⟩
    · exact .inr ⟨k, c, e, z.sameBut hs (I.cne y c e)⟩
  · obtain ⟨v', z⟩ := I.cell x c e
    exact ⟨v', z.sameBut hs (I.cne x c e)⟩
  · obtain ⟨q1, q2, q3, q4⟩ := I.pin p hp
    exact ⟨keep _ _ q3 q1, q2, q3, q4⟩
  · have nL : ∀ c v, H c = some v → c ≠ X.env.locals := fun c v q => ne_of_none q I.free
    refine (I.hok b u e).stay (fun c v hc q => keep c v ?_ q) (fun _ q => q) fun _ _ q => q
    rcases hc with rfl | hc
    · exact nL c u e
    · exact nL c _ hc
end
def endsTry (i : Nat) (D : Ends) : Ends := { nx := fun σ H => D.nx (σ.set i none) H, rt := D.rt, bk := fun σ H => D.bk (σ.set i none) H, ct := fun σ H => D.ct (σ.set i none) H }
def tTry (K : PySem.W.Frag) (c : Value) (i : Nat) (tb : XK → TS) (ts : TS) : TS := fun D σ H =>
  tb (fun cls dx H' => PySem.W.exmOne K cls c = some true ∧ ∀ ea, H' ea = none → ts (endsTry i D) (σ.set i (some (.ref ea))) (upd H' ea (excAt ea cls dx))) D σ H
theorem ps_try {X : Cx} {body : List Stmt} {tb : XK → TS} {ts : TS} {cn n : Str} {C : Addr} {i : Nat} {b0 : Stmt} {suite : List Stmt} {np hpos pos : Pos} (K : PySem.W.Frag) (hx : X.ex = []) (hst : X.stack = X.env :: X.outer) (hfr : X.env.frame = some X.env.locals) (hb : PB X body tb)
    (hg : Gl X cn) (hm : X.mg cn = some (.ref C)) (hN : X.N.Nodup) (hi : X.N[i]? = some n) (hl : X.env.scope.names.lookup n = some .local) (hs : ∀ ea, PSs (X.hand ea) (b0 :: suite) ts) (hK : X.K = K := by rfl) (hdb : (cn == ("__debug__" : Str)) = false := by decide) :
    PS X (.Try body [.ExceptHandler (some (.Name cn np)) (some n) (b0 :: suite) hpos] [] [] pos) (tTry K (.ref C) i tb ts) := by
  subst hK
  intro pins s σ H D I h
  refine wpAny_Try_except (wpAny_mono (hb pins s σ H D _ I h) (fun fl s1 q => ?_) fun ev s1 z => ?_)
  · cases fl with
    | next =>
      obtain ⟨σ', H', I', q⟩ := q
      exact wpAny_execs_nil ⟨σ', H', I', q⟩
    | ret v => exact q
    | brk => exact q
    | cont => exact q
  obtain ⟨ea, T, cls, dx, H1, rfl, I1, a1, a2, fly, hcl, hsu⟩ := z
  have stk : ∀ {s : Shared} {σ : St} {H : Hp}, Inv X pins σ H s → s.heap.FunFrames X.base (X.env :: X.outer) := fun {s σ H} I => by have := I.stack; rw [hst] at this; exact this
  have two : ∀ {T : Addr}, Apart X pins H1 T → ∀ b ∈ [ea, T], Apart X pins H1 b := fun {T} aT b hb => by
    rcases List.mem_cons.mp hb with rfl | hb
    · exact a1
    · rcases List.mem_cons.mp hb with rfl | hb
      · exact aT
      · cases hb
  refine look_on (base := X.base) (outer := X.outer) (by rw [I1.ok.frames, hst]) (stk I1) hfr fly fun h2 T2 fly2 nT2 mv2 => ?_
  rw [← hst] at mv2
  have I2 := I1.moved' mv2 (two a2)
  have aT2 : Apart X pins H1 T2 := I1.apart hx nT2
  obtain ⟨oe, vs, oT, tvs, a0, e1, e2, e3, e4, _⟩ := id fly2
  have LT : PySem.W.Looks (model X.prog X.w) ({ s1 with heap := h2 } : Shared).heap (typeOf (.ref ea)) cls := by
    subst e2
    exact (PySem.W.Looks.ld e1).andThen .now
  refine wpAny_handleBy_cons (codeAny_handlers_test ?_) (by intro q; cases q)
  refine ld_glob (X := X.hand ea) (I2.hand ea) hg hm ?_ hdb
  refine (PySem.W.exm_one I2.kIn LT hcl).here ?_
  refine codeAny_handlers_suite_as ?_
  refine flight_off (s := { s1 with heap := h2 }) fly2 fun h3 fly3 same => ?_
  have I3 := I2.moved' (Moved.one same) fun b hb => by rw [List.mem_singleton] at hb; rw [hb]; exact aT2
  obtain ⟨oe3, vs3, _, _, _, f1, f2, f3, f4, _⟩ := id fly3
  have I4 := I3.track a1 ⟨oe3, vs3, f1, f2, f3, f4⟩
  refine store_ok (X := X.hand ea) (v := .ref ea) (I4.hand ea) hN hi (.inl hl) rfl (fun s5 I5 => ?_) (.inr hl)
  refine wpAny_mono (hs ea pins s5 _ _ (endsTry i D) I5 (hsu ea a1.trk)) (fun fl s6 q => ?_) fun _ _ z => z.elim
  have okX := I.ok
  cases fl with
  | next =>
    obtain ⟨σ', H', I', q⟩ := q
    exact name_goes (I'.unhand okX) hN hi hl fun s7 I7 => ⟨_, H', I7, q⟩
  | brk =>
    obtain ⟨σ', H', I', q⟩ := q
    exact name_goes (I'.unhand okX) hN hi hl fun s7 I7 => ⟨_, H', I7, q⟩
  | cont =>
    obtain ⟨σ', H', I', q⟩ := q
    exact name_goes (I'.unhand okX) hN hi hl fun s7 I7 => ⟨_, H', I7, q⟩
  | ret u =>
    obtain ⟨v, σ', H', I', r, q⟩ := q
    exact name_goes (I'.unhand okX) hN hi hl fun s7 I7 => ⟨v, _, H', I7, r, q⟩
end L2
set_option maxRecDepth 100000
set_option maxHeartbeats 1000000
namespace L2
open PySem PySem.Spec PyProof.Rows
structure XCls (K : PySem.W.Frag) (C : Addr) : Prop where
  ga : PySem.W.findIn K (.ref C) "__getattribute__" = some (some (.builtin "BaseException.__getattribute__"))
  gt : PySem.W.findIn K (.ref C) "__getattr__" = some none
  ic : (PySem.W.clsIn K C).isSome = true
  kc : PySem.W.findIn K (.ref C) "__class__" = some (some (.builtin "object.__class__"))
  kg : PySem.W.specialIn K (.builtin "object.__class__") "__get__" = some (some (.builtin "getset_descriptor.__get__"))
  kt : PySem.W.takesIn K (.builtin "object.__class__") = some true
  mo : PySem.W.mroIn K C (.type "object") = some true
  mb : PySem.W.mroIn K C (.type "BaseException") = some true
section
variable {prog : Program} {w : World} {A : Around} {E : Value → Shared → Prop} {s : Shared} {K : PySem.W.Frag} {ea C : Addr} {oe : Obj} {od : Option Obj}
theorem xcheck (kin : K.In s.heap) (c : XCls K C) (I : PySem.W.InstAt s.heap ea oe C od) {nameV : Value} {Q : Unit → Shared → Prop} (h : Q () s) : wpAny (model prog w) A (checkBuiltinCall "BaseException.__getattribute__" ⟨[.ref ea, nameV], []⟩) Q E s := by
  obtain ⟨g, g2, g3, g4, g5⟩ := s
  have kd : builtinKind "BaseException.__getattribute__" = some .slot := by decide +kernel
  have sp : splitId "BaseException.__getattribute__" = some ("BaseException", "__getattribute__") := by decide +kernel
  have L0 := I.type (M := model prog w)
  have L1 := PySem.W.looks_mroIn (M := model prog w) kin c.mb
  have aok := F.args_bexc_ga (.ref ea) nameV
  simp only [checkBuiltinCall, kd, sp]
  refine wpAny_bind ?_
  unfold isInstance
  refine wpAny_bind (L0.at (L1.at ?_))
  repeat (first | exact h | wp_step)
theorem xcall_bind (kin : K.In s.heap) (c : XCls K C) (I : PySem.W.InstAt s.heap ea oe C od) {name : Str} {tk : Tok} {g a : Value} (hf : PySem.W.findObj K C od name = some (.bind g a)) {P : Value → Shared → Prop}
    (h : wpAny (model prog w) A.in1 (call g [a, .ref ea, .ref C]) P E s) : wpAny (model prog w) A (call (.builtin "BaseException.__getattribute__") [.ref ea, .str name tk]) P E s := by
  obtain ⟨h1, h2, h3, h4, h5⟩ := s
  have L0 := I.type (M := model prog w)
  have L1 := PySem.W.looks_find (M := model prog w) kin I hf
  refine wpAny_call (codeAny_call_builtin PySem.F.attr_ValueError.ga.plain F.entry_bexc_ga (xcheck kin c I ?_))
  refine wpAny_bind (wpAny_pure (wpAny_bind (wpAny_pure (wpAny_bind (L0.at (wpAny_bind (L1.at ?_)))))))
  show wpAny _ _ (holding [a] (call g [a, .ref ea, .ref C]) >>= ret) _ _ _
  exact wpAny_bind (wpAny_holding (wpAny_mono h (fun v s' z => wpAny_pure z) fun _ _ z => z))
theorem xget (kin : K.In s.heap) (c : XCls K C) (I : PySem.W.InstAt s.heap ea oe C od) {nameV : Value} {fill expr : Bool} {Q : Value → Shared → Prop} {P : Value → Shared → Prop}
    (h : wpAny (model prog w) A (call (.builtin "BaseException.__getattribute__") [.ref ea, nameV]) P (fun _ _ => False) s) (hq : ∀ v s', P v s' → wpAny (model prog w) A (handedOut v) Q E s') : wpAny (model prog w) A (getAttrBy (.ref ea) nameV fill expr) Q E s := by
  obtain ⟨h1, h2, h3, h4, h5⟩ := s
  have L0 := I.type (M := model prog w)
  have L1 := PySem.W.looks_findIn (M := model prog w) kin c.ga
  have L2 := PySem.W.looks_findIn (M := model prog w) kin c.gt
  unfold getAttrBy
  refine wpAny_holding (wpAny_bind (L0.at (wpAny_bind (L1.at ?_))))
  dsimp only
  have ne : (Value.builtin "BaseException.__getattribute__" == Value.builtin "object.__getattribute__") = false := by decide +kernel
  rw [ne, Bool.and_false, if_neg Bool.false_ne_true]
  unfold getAttrByItsOwn hookBefore
  refine wpAny_bind ?_
  rw [if_pos (show onTheHeap (.ref C) = true from rfl)]
  refine L2.at (wpAny_bind (wpAny_attempt (wpAny_holding ?_)))
  unfold callGetattribute
  rw [if_neg (by cases expr <;> decide)]
  unfold boundAndCalled
  rw [PySem.F.attr_ValueError.ga.bind (.ref ea)]
  refine wpAny_bind (wpAny_pure ?_)
  exact wpAny_mono h (fun v s' z => hq v s' z) fun _ _ z => z.elim
theorem xclass (kin : K.In s.heap) (c : XCls K C) (I : PySem.W.InstAt s.heap ea oe C od) {Q : Option Value → Shared → Prop} (h : Q (some (.ref C)) { s with toks := s.toks + 1 }) : wpAny (model prog w) A (getAttr? (.ref ea) "__class__") Q E s := by
  obtain ⟨cd, hcd⟩ := Option.isSome_iff_exists.mp c.ic
  have hf : PySem.W.findObj K C od "__class__" = some (.bind (.builtin "getset_descriptor.__get__") (.builtin "object.__class__")) := by
    unfold PySem.W.findObj
    rw [hcd, Option.bind_some, c.kc, Option.bind_some]
    simp [c.kg, c.kt]
  unfold getAttr? getAttrBy?
  refine wpAny_bind (wpAny_mkText (wpAny_bind (wpAny_attempt ?_)))
  refine xget (s := { s with toks := s.toks + 1 }) (P := fun v s' => v = .ref C ∧ s' = { s with toks := s.toks + 1 }) kin c I ?_ ?_
  · refine xcall_bind (s := { s with toks := s.toks + 1 }) kin c I hf (wpAny_call ?_)
    exact PySem.W.class_get (s := { s with toks := s.toks + 1 }) (ox := oe) (od := od) kin I c.mo ⟨rfl, rfl⟩
  · rintro v s' ⟨rfl, rfl⟩
    exact PySem.W.handed_on rfl (wpAny_pure h)
theorem kitx_exc (c : XCls K C) : PySem.W.KitX K (.ref ea) (.ref C) (fun h => PySem.W.InstAt h ea oe C od) where
  ty := fun _ _ _ I => I.type
  it := fun M g kin _ => by
    obtain ⟨cd, hcd⟩ := Option.isSome_iff_exists.mp c.ic
    unfold PySem.W.clsIn at hcd
    split at hcd
    next look =>
      intro A1 Q1 E1 s1 k1 q1
      unfold isType loadHead
      exact wpAny_bind (wpAny_loadPart (k1 _ _ (kin _ _ look)) (wpAny_pure q1))
    next => cases hcd
  ne := fun g tp dd its n sl kin htp => by
    obtain ⟨cd, hcd⟩ := Option.isSome_iff_exists.mp c.ic
    refine Bool.eq_false_iff.mpr fun z => ?_
    obtain rfl : C = tp := Value.ref.inj (beq_iff_eq.mp z)
    unfold PySem.W.clsIn at hcd
    split at hcd
    next look =>
      have z2 := (kin _ _ look).symm.trans htp
      cases z2
    next => cases hcd
  ca := fun kin I q => xclass kin c I q
end
theorem ic_of {K : PySem.W.Frag} {C : Addr} {v : Value} {b : Bool} (h : PySem.W.mroIn K C v = some b) : (PySem.W.clsIn K C).isSome = true := by
  unfold PySem.W.mroIn at h
  cases e : PySem.W.clsIn K C with
  | none => rw [e] at h; cases h
  | some c => rfl
section
variable {X : Cx}
theorem call_isx (K : PySem.W.Frag) (hK : X.K = K := by rfl) : CallR X (.builtin "isinstance") (fun xs H Q => ∃ (ea C : Addr) (c : V) (u : Value) (b : Bool), xs = [.ref ea, c] ∧ H ea = some (excAt ea (.ref C) none) ∧ XCls K C ∧ RelV c u ∧ (∀ u', RelV c u' → u' = u) ∧ PySem.W.kitOne K (.ref C) u = some b ∧ Q (.bl b) H) := by
  subst hK
  intro pins s σ H xs us Q I r h
  obtain ⟨ea, C, c, u, b, rfl, hx, hc, hu, hu2, hk, q⟩ := h
  obtain ⟨u1, u2, rfl, r1, r2⟩ := vals2 r
  cases r1
  cases hu2 _ r2
  obtain ⟨⟨oe, vs, e1, e2, e3, e4⟩, _, _⟩ := I.hok _ _ hx
  refine PySem.W.kia_one (kitx_exc (oe := oe) (od := none) hc) I.kIn ⟨e1, e2, ?_, ?_⟩ hk (fun z => nomatch z) fun tk => ⟨.bl b, H, I.tok tk, rfl, q⟩
  · cases oe with
    | mk a1 a2 a3 a4 => dsimp only at e4; subst e4; rfl
  · rw [e3]; trivial
end
end L2
set_option maxRecDepth 100000
set_option maxHeartbeats 1000000
namespace L2
open PySem PySem.Spec PyProof.Rows
section
variable {X : Cx}
theorem pe_bmK {o e : Expr} {es : List Expr} {to : TE} {t : TA} {name : Str} {apos cpos : Pos} {T id : String} {r : V → List V → Hp → VK → Prop} (K : PySem.W.Frag) (pa : PlainAttrs T) (slot : Slot T name id) (hty : typeOf (.builtin id) = pure (.type "method_descriptor")) (hm : MtR X id r) (ho : PE X o to) (ha : PA X (e :: es) t)
    (hbase : attributeBase o name X.env (eval o X.env) = eval o X.env := by rfl)
    (hfew : ((backTo cpos (starEach (e :: es) X.env)).all (fun x => !x.1) && (backToKw cpos (keywordEach [] X.env)).all (fun x => x.1.isSome)
      && decide ((e :: es).length + ([] : List Keyword).length + (if ([] : List Keyword).isEmpty then 0 else 1) < 30)) = true := by rfl)
    (hline : (apos.endLine == cpos.line) = true := by rfl) (hs : starEach (e :: es) X.env = (false, eval e X.env) :: starEach es X.env := by rfl) (hplain : (backTo cpos (starEach es X.env)).any (·.1) = false := by rfl) (hK : X.K = K := by rfl) :
    PE X (.Call (.Attribute o name apos) (e :: es) [] cpos) (tBM K T r to t) := by
  subst hK
  exact pe_bm pa slot hty hm ho ha hbase hfew hline hs hplain
theorem call_isiT (K : PySem.W.Frag) (hK : X.K = K := by rfl) : CallR X (.builtin "isinstance") (fun xs H Q => ∃ x n t b, xs = [x, .ty n] ∧ TyOf K H x (.type t) ∧ PySem.W.kitOne K (.type t) (.type n) = some b ∧ Q (.bl b) H) := by
  subst hK
  intro pins s σ H xs us Q I r h
  obtain ⟨x, n, t, b, rfl, ht, hb, q⟩ := h
  obtain ⟨u, w', rfl, r1, r2⟩ := vals2 r
  cases r2
  exact isinst_ok I r1 ht hb fun tk => ⟨.bl b, H, I.tok tk, rfl, q⟩
end
theorem boot_ValueError : bootBuiltins "ValueError" = some (.type "ValueError") := by decide +kernel
theorem pe_gint {X : Cx} {x : Str} {i : Int} {pos : Pos} (hg : Gl X x) (hm : ∃ t, X.mg x = some (.int i t)) (hd : (x == ("__debug__" : Str)) = false := by decide) : PE X (.Name x pos) (tC (.int i)) := by
  obtain ⟨t, h⟩ := hm
  exact pe_glob hg h ⟨_, rfl⟩ hd
end L2
set_option maxRecDepth 100000
set_option maxHeartbeats 4000000
namespace L2
open PySem PySem.NumText PyProof.Rows
abbrev cs (x : Str) : List Nat := x.cps.toList
end L2
set_option maxRecDepth 100000
set_option maxHeartbeats 1000000
namespace L2
open PySem PySem.Spec PyProof.Rows
structure XInit (K : PySem.W.Frag) (C CL f : Addr) : Prop where
  obj : ∃ nm qn N bs hdct sn sub ab col dd k0 k1 k2 k3 k5, K.lookup C = some (excClassObj nm qn C N bs (.ref CL :: veMro) hdct sn sub ab col dd k0 k1 k2 k3 k5 "ValueError.__new__")
  up : ExcC K CL
  top : ∃ nm qn N bs hdct sn sub ab col dd k0 k1 k2 k3 k5, K.lookup CL = some (excClassObj nm qn CL N bs veMro hdct sn sub ab col dd k0 k1 k2 k3 k5 "ValueError.__new__")
  init : PySem.W.findIn K (.ref C) "__init__" = some (some (.ref f))
  fn : PySem.W.typeIn K (.ref f) = some (.type "function")
  kp : PySem.W.keepIn K (.ref C) = true
  sa : PySem.W.findIn K (.ref C) "__setattr__" = some (some (.builtin "object.__setattr__"))
  hd : PySem.W.hasDictIn K C = true
  xc : XCls K C
theorem XInit.here {K : PySem.W.Frag} {C CL f : Addr} (x : XInit K C CL f) {g : Heap} (kin : K.In g) : ∃ nm qn N bs hdct sn sub ab col dd k0 k1 k2 k3 k5, g.get? C = some (excClassObj nm qn C N bs (.ref CL :: veMro) hdct sn sub ab col dd k0 k1 k2 k3 k5 "ValueError.__new__") ∧ OwnTail g veMro (.ref CL :: veMro) := by
  obtain ⟨nm, qn, N, bs, hdct, sn, sub, ab, col, dd, k0, k1, k2, k3, k5, h⟩ := x.obj
  refine ⟨nm, qn, N, bs, hdct, sn, sub, ab, col, dd, k0, k1, k2, k3, k5, kin _ _ h, ?_⟩
  obtain ⟨nm', qn', N', bs', bm', hdct', sn', sub', ab', col', dd', j0, j1, j2, j3, j5, mN, c1, c2, c3, c4⟩ := exc_of kin x.up
  exact .own c1 c2 c3 .base
section
variable {prog : Program} {w : World} {A : Around} {E : Value → Shared → Prop} {s : Shared} {K : PySem.W.Frag} {ea C CL f : Addr} {oe : Obj} {od : Option Obj}
end
section
variable {X : Cx} {pins : List (Addr × Obj)} {σ : St} {H : Hp} {s : Shared} {ea C CL f : Addr}
end
section
variable {P : Program} {w : World} {K : PySem.W.Frag} {mg : Str → Option Value} {base : Heap} {N : List Str} {qual : Str} {scope : Scope} {f : Addr} {cd : Value} {A : Around} {outer : List Env} {s₀ : Shared} {H₀ : Hp} {E : XK}
end
end L2
set_option maxRecDepth 100000
set_option maxHeartbeats 1000000
namespace L2
open PySem PySem.Spec PyProof.Rows
section
variable {X : Cx} {pins : List (Addr × Obj)} {σ : St} {H : Hp} {s : Shared} {ea : Addr}
end
structure UpInit (K : PySem.W.Frag) (CL : Addr) : Prop where
  sp : PySem.W.specialIn K (.ref CL) "__getattribute__" = some (some (.builtin "type.__getattribute__"))
  rd : PySem.W.readsIn K CL (.type "type") = true
  fc : PySem.W.findCls K (.ref CL) (.type "type") "__init__" = some (.val (.builtin "ValueError.__init__"))
section
variable {X : Cx} {o e value : Expr} {es : List Expr} {f x : Str} {pos pos' apos np : Pos} {ta tv : TE} {t : TA}
end
structure FnH (P : Program) (w : World) (K : PySem.W.Frag) (mg : Str → Option Value) (base : Heap) (k : Nat) (f : Addr) (fd : FuncData) (ps : List Str) (sp : Sp) : Prop where
  len : ∀ vs H Q E, sp vs H Q E → vs.length = ps.length
  run : ∀ (A : Around) (ea : Addr) (outer : List Env) (s : Shared) (H : Hp) (args : Args) (us : List Value) (vs : List V) (Q : VK), Room k A → Env0 P w K mg base A outer s H → BindsTo s fd args (ps.zip us) → Vals vs us → sp vs H Q E0 →
    codeAny (model P w) (A.mark (some (.ref ea))) (.call (.ref f) args) (fun r s' => match r with | .ok (.ret u) => CE outer P w H s Q u s' | _ => False) s
section
variable {P : Program} {w : World} {K : PySem.W.Frag} {mg : Str → Option Value} {base : Heap} {qual : Str} {f : Addr}
end
end L2
set_option maxRecDepth 100000
set_option maxHeartbeats 1000000
namespace L2
open PySem PySem.Spec PySem.NumText PyProof.Rows
section
variable {X : Cx}
theorem call_allB (K : PySem.W.Frag) (hc : X.calm = true) (hK : X.K = K := by rfl) : CallR X (.builtin "all") (fun xs H Q => ∃ (p : Addr) (bs : List Bool), xs = [.ref p] ∧ SqL K H p (bs.map V.bl) ∧ Q (.bl (bs.all id)) H) := by
  subst hK
  intro pins s σ H xs us Q I r h
  obtain ⟨p, bs, rfl, hq, q⟩ := h
  obtain ⟨u, rfl, rfl⟩ := vals1 r
  obtain ⟨its, rv, pl, hz⟩ := I.list hq
  have nth : ∀ (i : Nat) (v : Value), its.toArray[i]? = some v → v = Value.bool (bs.getD i true) := fun i v e => by
    have e : its[i]? = some v := by simpa using e
    have hi : i < bs.length := by
      have := (List.getElem?_eq_some_iff.mp e).1
      have h2 := rv.length
      simp at h2
      omega
    obtain ⟨u, e2, r2⟩ := rv.get (i := i) (x := V.bl bs[i]) (by simp [hi])
    rw [e] at e2
    cases e2
    cases r2
    rw [List.getD_eq_getElem?_getD, List.getElem?_eq_getElem hi]
    rfl
  refine call_all_walk (wpAny_pyIter_list pl.isList ?_)
  have hne : p ≠ s.heap.objs.size := by
    obtain ⟨o, e, _⟩ := pl.isList
    exact Nat.ne_of_lt (Heap.lt_size e)
  refine ⟨s.heap.objs.size, _, _, _, _, _, fun i => bs.getD i true, rfl, Walks.list (A := X.A.in1) (I.ok.hd hc) s.heap.objs.size p hne its.toArray, ⟨?_, ?_⟩, ?_, ?_⟩
  · exact ⟨_, Heap.get?_push_size _ rfl, rfl, rfl⟩
  · obtain ⟨o, e, r⟩ := pl.isList
    exact ⟨o, Heap.get?_push_of_some _ e, r⟩
  · intro i v s1 Q1 E1 hP hQ
    rw [nth i v hP]
    exact wpAny_truthy_bool hQ
  · intro h' tk hk
    refine ⟨.bl _, H, I.kept (t' := tk) (h' := h') fun b o e => hk b o (fun z => ?_) (Heap.get?_push_of_some _ e), rfl, ?_⟩
    · rw [List.mem_singleton] at z
      rw [z] at e
      exact absurd (Heap.lt_size e) (Nat.lt_irrefl _)
    · have hl : its.toArray.size = bs.length := by have := rv.length; simp at this ⊢; omega
      rw [hl]
      have : ((List.range bs.length).all fun i => bs.getD i true) = bs.all id := by
        clear q rv nth hl hq hz
        induction bs with
        | nil => rfl
        | cons b bs ih => rw [List.length_cons, List.range_succ_eq_map, List.all_cons, List.all_map, List.all_cons, ← ih]; rfl
      rw [this]; exact q
end
theorem boot_all : bootBuiltins "all" = some (.builtin "all") := by decide +kernel
end L2
set_option maxRecDepth 100000
set_option maxHeartbeats 1000000
namespace L2
open PySem PySem.Spec PySem.NumText PyProof.Rows
section
variable {X : Cx}
theorem boot_tuple : bootBuiltins "tuple" = some (.type "tuple") := by decide +kernel
theorem boot_list : bootBuiltins "list" = some (.type "list") := by decide +kernel
theorem boot_dict : bootBuiltins "dict" = some (.type "dict") := by decide +kernel
end
structure ItemOk (e : Expr) (te : TE) : Prop where
  pe : ∀ X : Cx, PE X e te
  st : ∀ (es : List Expr) (env : Env), starEach (e :: es) env = (false, eval e env) :: starEach es env
theorem ItemOk.pa {X : Cx} {e : Expr} {te : TE} {es : List Expr} {t : TA} (i : ItemOk e te) (h : PA X es t) : PA X (e :: es) (tCons te t) := pa_cons (i.pe X) h (i.st es X.env)
end L2
namespace L2
open PySem PySem.Spec PySem.NumText PyProof.Rows
end L2
set_option maxRecDepth 100000
namespace L2
open PySem PySem.Spec PyProof.Rows
section
variable {κ : Type} [DecidableEq κ]
def valV (kvs : List (κ × V)) (k : κ) : Option V := (kvs.find? fun kv => decide (kv.1 = k)).map (·.2)
def putK (kvs : List (κ × V)) (k : κ) (v : V) : List (κ × V) :=
  if (kvs.any fun kv => decide (kv.1 = k)) = true then kvs.map (fun kv => if kv.1 = k then (kv.1, v) else kv) else kvs ++ [(k, v)]
def dropK (kvs : List (κ × V)) (k : κ) : List (κ × V) := kvs.filter fun kv => decide (kv.1 ≠ k)
theorem valV_pos {p : κ × V} {r : List (κ × V)} {k : κ} (e : p.1 = k) : valV (p :: r) k = some p.2 := by simp [valV, List.find?_cons, e]
theorem valV_neg {p : κ × V} {r : List (κ × V)} {k : κ} (e : ¬ p.1 = k) : valV (p :: r) k = valV r k := by simp [valV, List.find?_cons, e]
theorem valV_any (k : κ) : ∀ kvs : List (κ × V), (kvs.any fun kv => decide (kv.1 = k)) = (valV kvs k).isSome
  | [] => rfl
  | p :: r => by
    rw [List.any_cons]
    by_cases e : p.1 = k
    · simp only [valV_pos e, decide_eq_true e, Bool.true_or, Option.isSome_some]
    · rw [valV_neg e, decide_eq_false e, Bool.false_or]; exact valV_any k r
theorem valV_map (k j : κ) (y : V) : ∀ kvs : List (κ × V), valV (kvs.map fun kv => if kv.1 = k then (kv.1, y) else kv) j = (valV kvs j).map fun x => if j = k then y else x
  | [] => rfl
  | p :: r => by
    have ih := valV_map k j y r
    rw [List.map_cons]
    by_cases h : p.1 = k
    · rw [if_pos h]
      by_cases e : p.1 = j
      · rw [valV_pos (p := (p.1, y)) e, valV_pos e, Option.map_some, if_pos (e.symm.trans h)]
      · rw [valV_neg (p := (p.1, y)) e, valV_neg e, ih]
    · rw [if_neg h]
      by_cases e : p.1 = j
      · rw [valV_pos (p := p) e, valV_pos e, Option.map_some, if_neg (fun z => h (e.trans z))]
      · rw [valV_neg (p := p) e, valV_neg e, ih]
theorem valV_snoc (k j : κ) (y : V) : ∀ kvs : List (κ × V), valV kvs k = none → valV (kvs ++ [(k, y)]) j = if j = k then some y else valV kvs j
  | [], _ => by
    by_cases e : k = j
    · rw [if_pos e.symm]; exact valV_pos (p := (k, y)) e
    · rw [if_neg (fun z => e z.symm)]; exact valV_neg (p := (k, y)) e
  | p :: r, hn => by
    rw [List.cons_append]
    have hk : ¬ p.1 = k := fun z => by rw [valV_pos z] at hn; cases hn
    rw [valV_neg hk] at hn
    have ih := valV_snoc k j y r hn
    by_cases e : p.1 = j
    · rw [valV_pos e, valV_pos e, if_neg (fun z => hk (e.trans z))]
    · rw [valV_neg e, valV_neg e, ih]
theorem valV_put (kvs : List (κ × V)) (k j : κ) (y : V) : valV (putK kvs k y) j = if j = k then some y else valV kvs j := by
  unfold putK
  by_cases a : (kvs.any fun kv => decide (kv.1 = k)) = true
  · rw [if_pos a, valV_map]
    rw [valV_any] at a
    by_cases e : j = k
    · obtain ⟨x, hx⟩ := Option.isSome_iff_exists.mp a
      rw [if_pos e, e, hx, Option.map_some, if_pos rfl]
    · rw [if_neg e]
      cases valV kvs j with
      | none => rfl
      | some x => rw [Option.map_some, if_neg e]
  · rw [if_neg a]
    refine valV_snoc k j y kvs ?_
    rw [valV_any] at a
    cases q : valV kvs k with
    | none => rfl
    | some x => rw [q] at a; exact (a rfl).elim
theorem length_putK (kvs : List (κ × V)) (k : κ) (v : V) : (putK kvs k v).length ≤ kvs.length + 1 := by
  unfold putK
  split
  · rw [List.length_map]; omega
  · rw [List.length_append, List.length_cons, List.length_nil]; omega
theorem RelO.isSome_eq {o : Option V} {u : Option Value} (r : RelO o u) : o.isSome = u.isSome := by
  cases o with
  | none => cases u with
    | none => rfl
    | some _ => exact (show False from r).elim
  | some _ => cases u with
    | none => exact (show False from r).elim
    | some _ => rfl
theorem RelO.getD {o : Option V} {u : Option Value} {d : V} {d' : Value} (r : RelO o u) (rd : RelV d d') : RelV (o.getD d) (u.getD d') := by
  cases o with
  | none => cases u with
    | none => exact rd
    | some _ => exact (show False from r).elim
  | some _ => cases u with
    | none => exact (show False from r).elim
    | some _ => exact r
theorem KV.val {kvs : List (κ × V)} {vs : List (κ × Value)} (r : KV kvs vs) (k : κ) : RelO (valV kvs k) (valueAt vs k) := by
  unfold KV at r
  induction r with
  | nil => exact True.intro
  | @cons p q ps qs h t ih =>
    obtain ⟨h1, h2⟩ := h
    by_cases e : p.1 = k
    · have e' : q.1 = k := h1.symm.trans e
      have b : valueAt (q :: qs) k = some q.2 := by simp [valueAt, List.find?_cons, e']
      rw [valV_pos e, b]; exact h2
    · have e' : ¬ q.1 = k := fun z => e (h1.trans z)
      have b : valueAt (q :: qs) k = valueAt qs k := by simp [valueAt, List.find?_cons, e']
      rw [valV_neg e, b]; exact ih
theorem KV.any {kvs : List (κ × V)} {vs : List (κ × Value)} (r : KV kvs vs) (k : κ) : (kvs.any fun kv => decide (kv.1 = k)) = vs.any fun kv => decide (kv.1 = k) := by
  unfold KV at r
  induction r with
  | nil => rfl
  | cons h t ih => rw [List.any_cons, List.any_cons, ih, h.1]
theorem KV.repl {kvs : List (κ × V)} {vs : List (κ × Value)} (r : KV kvs vs) (k : κ) {y : V} {u : Value} (ry : RelV y u) :
    KV (kvs.map fun kv => if kv.1 = k then (kv.1, y) else kv) (vs.map fun kv => if kv.1 = k then (kv.1, u) else kv) := by
  unfold KV at r ⊢
  induction r with
  | nil => exact .nil
  | @cons p q ps qs h t ih =>
    rw [List.map_cons, List.map_cons]
    refine .cons ?_ ih
    obtain ⟨h1, h2⟩ := h
    by_cases e : p.1 = k
    · rw [if_pos e, if_pos (h1.symm.trans e)]; exact ⟨h1, ry⟩
    · rw [if_neg e, if_neg (fun z => e (h1.trans z))]; exact ⟨h1, h2⟩
theorem KV.put {kvs : List (κ × V)} {vs : List (κ × Value)} (r : KV kvs vs) (k : κ) {y : V} {u : Value} (ry : RelV y u) : KV (putK kvs k y) (stored vs k u) := by
  unfold putK stored
  rw [r.any k]
  by_cases e : (vs.any fun kv => decide (kv.1 = k)) = true
  · rw [if_pos e, if_pos e]; exact r.repl k ry
  · rw [if_neg e, if_neg e]; exact Paired.snoc r ⟨rfl, ry⟩
theorem KV.drop {kvs : List (κ × V)} {vs : List (κ × Value)} (r : KV kvs vs) (k : κ) : KV (dropK kvs k) (without vs k) := by
  unfold KV at r ⊢
  unfold dropK without
  induction r with
  | nil => exact .nil
  | @cons p q ps qs h t ih =>
    obtain ⟨h1, h2⟩ := h
    rw [List.filter_cons, List.filter_cons]
    by_cases e : p.1 = k
    · have a : ¬ decide (p.1 ≠ k) = true := by simp [e]
      have b : ¬ decide (q.1 ≠ k) = true := by simp [h1.symm.trans e]
      rw [if_neg a, if_neg b]; exact ih
    · have e' : ¬ q.1 = k := fun z => e (h1.trans z)
      have a : decide (p.1 ≠ k) = true := by simp [e]
      have b : decide (q.1 ≠ k) = true := by simp [e']
      rw [if_pos a, if_pos b]; exact .cons ⟨h1, h2⟩ ih
theorem KV.length {kvs : List (κ × V)} {vs : List (κ × Value)} (r : KV kvs vs) : kvs.length = vs.length := Paired.length r
end
theorem kV_is {P : Program} {w : World} {k : Key} {u : Value} (r : RelV (kV k) u) : (mixKind P w).is k u = true := by
  cases k with
  | inl i => obtain ⟨t, e⟩ := (show ∃ t, u = Value.int i t from r); subst e; exact mixKind_int P w i t
  | inr x => obtain ⟨t, e⟩ := (show ∃ t, u = Value.str x t from r); subst e; exact mixKind_str P w x t
theorem items_are {P : Program} {w : World} : ∀ {ks : List Key} {us : List Value}, Vals (ks.map kV) us → ItemsAre (mixKind P w) ks us
  | [], _, r => by rw [List.map_nil] at r; cases r; exact .nil
  | k :: ks, _, r => by
    rw [List.map_cons] at r
    cases r with
    | cons h t => exact .cons (kV_is h) (items_are t)
abbrev KT (H : Hp) : List (List Key × V) → List (List Key × Addr × Value) → Prop := Paired fun p q => p.1 = q.1 ∧ H q.2.1 = some (.tup (p.1.map kV)) ∧ RelV p.2 q.2.2
theorem KT.val {H : Hp} {kvs : List (List Key × V)} {xs : List (List Key × Addr × Value)} (r : KT H kvs xs) (k : List Key) : RelO (valV kvs k) ((atKey xs k).map (·.2)) := by
  induction r with
  | nil => exact True.intro
  | @cons p q ps qs h t ih =>
    obtain ⟨h1, _, h2⟩ := h
    by_cases e : p.1 = k
    · have e' : q.1 = k := h1.symm.trans e
      have b : atKey (q :: qs) k = some q.2 := by simp [atKey, List.find?_cons, e']
      rw [valV_pos e, b]; exact h2
    · have e' : ¬ q.1 = k := fun z => e (h1.trans z)
      have b : atKey (q :: qs) k = atKey qs k := by simp [atKey, List.find?_cons, e']
      rw [valV_neg e, b]; exact ih
theorem KT.repl {H : Hp} {kvs : List (List Key × V)} {xs : List (List Key × Addr × Value)} (r : KT H kvs xs) (k : List Key) {y : V} {u : Value} (ry : RelV y u) :
    KT H (kvs.map fun kv => if kv.1 = k then (kv.1, y) else kv) (xs.map (putAt k u)) := by
  induction r with
  | nil => exact .nil
  | @cons p q ps qs h t ih =>
    rw [List.map_cons, List.map_cons]
    refine .cons ?_ ih
    obtain ⟨h1, h2, h3⟩ := h
    unfold putAt
    by_cases e : p.1 = k
    · rw [if_pos e, if_pos (h1.symm.trans e)]; exact ⟨h1, h2, ry⟩
    · rw [if_neg e, if_neg (fun z => e (h1.trans z))]; exact ⟨h1, h2, h3⟩
theorem KT.put {H : Hp} {kvs : List (List Key × V)} {xs : List (List Key × Addr × Value)} (r : KT H kvs xs) (k : List Key) {b : Addr} {y : V} {u : Value} (hb : H b = some (.tup (k.map kV))) (ry : RelV y u) :
    KT H (putK kvs k y) (storedH xs k b u) := by
  have e : (kvs.any fun kv => decide (kv.1 = k)) = (atKey xs k).isSome := by
    rw [valV_any, (r.val k).isSome_eq, Option.isSome_map]
  unfold putK storedH
  rw [e]
  by_cases q : (atKey xs k).isSome = true
  · rw [if_pos q, if_pos q]; exact r.repl k ry
  · rw [if_neg q, if_neg q]; exact Paired.snoc r ⟨rfl, hb, ry⟩
theorem KT.keeps {H H' : Hp} {kvs : List (List Key × V)} {xs : List (List Key × Addr × Value)} (r : KT H kvs xs) (ht : ∀ b ys, H b = some (.tup ys) → H' b = some (.tup ys)) : KT H' kvs xs :=
  Paired.mapP r fun _ _ z => ⟨z.1, ht _ _ z.2.1, z.2.2⟩
section
variable {P : Program} {w : World} {H : Hp} {h : Heap} {a : Addr}
theorem rd_of {u : HO} (ok : HOk P w H h) (e : Rd H a u) : ObjOk P w H h a u := e.ok ok
theorem dk_rd {kvs : List (Key × V)} (ok : HOk P w H h) (e : Rd H a (.dK kvs)) : kvs.length ≤ sizeLine ∧ (a == sysModules) = false ∧ ∃ vs, KV kvs vs ∧ h.DictOf (mixKind P w) a vs :=
  show ObjOk P w H h a (.dK kvs) from rd_of ok e
theorem dk_of {kvs : List (Key × V)} (ok : HOk P w H h) (e : H a = some (.dK kvs)) : kvs.length ≤ sizeLine ∧ (a == sysModules) = false ∧ ∃ vs, KV kvs vs ∧ h.DictOf (mixKind P w) a vs := dk_rd ok (.inl e)
theorem key_of {ks : List Key} (ok : HOk P w H h) (e : H a = some (.tup (ks.map kV))) : (tupleKind (mixKind P w)).is h ks a := by
  obtain ⟨_, its, r, o, h1, h2, n, h3⟩ := (show ObjOk P w H h a (.tup (ks.map kV)) from ok a _ e)
  exact ⟨o, its.toArray, n, h1, h2, h3, by simpa using items_are r⟩
theorem dt_rd {kvs : List (List Key × V)} (ok : HOk P w H h) (e : Rd H a (.dT kvs)) : kvs.length ≤ sizeLine ∧ (a == sysModules) = false ∧
    ∃ xs, KT H kvs xs ∧ h.DictOfH (tupleKind (mixKind P w)) a xs := by
  obtain ⟨z, y, xs, r, o, es, ep, h1, h2, h3, h4, h5⟩ := (show ObjOk P w H h a (.dT kvs) from rd_of ok e)
  refine ⟨z, y, xs, r, o, es, ep, h1, h2, h3, h4, fun x hx => ?_, h5⟩
  have all : ∀ {l : List (List Key × V)} {m : List (List Key × Addr × Value)}, KT H l m → ∀ x ∈ m, (tupleKind (mixKind P w)).is h x.1 x.2.1 := by
    intro l m q
    induction q with
    | nil => intro x hx; exact nomatch hx
    | @cons p q ps qs hq t ih =>
      intro x hx
      rcases List.mem_cons.mp hx with e | hx
      · subst e
        exact key_of ok (by rw [← hq.1]; exact hq.2.1)
      · exact ih x hx
  exact all r x hx
theorem dt_of {kvs : List (List Key × V)} (ok : HOk P w H h) (e : H a = some (.dT kvs)) : kvs.length ≤ sizeLine ∧ (a == sysModules) = false ∧
    ∃ xs, KT H kvs xs ∧ h.DictOfH (tupleKind (mixKind P w)) a xs := dt_rd ok (.inl e)
end
def DGet (H : Hp) (a : Addr) (y : V) (r : Option V) : Prop :=
  (∃ kvs k, Rd H a (.dK kvs) ∧ y = kV k ∧ r = valV kvs k) ∨ ∃ kvs k b, Rd H a (.dT kvs) ∧ y = .ref b ∧ H b = some (.tup (k.map kV)) ∧ r = valV kvs k
def DPut (H : Hp) (a : Addr) (y v : V) (H' : Hp) : Prop :=
  (∃ kvs k, H a = some (.dK kvs) ∧ y = kV k ∧ kvs.length < sizeLine ∧ H' = upd H a (.dK (putK kvs k v))) ∨
  ∃ kvs k b, H a = some (.dT kvs) ∧ y = .ref b ∧ H b = some (.tup (k.map kV)) ∧ kvs.length < sizeLine ∧ H' = upd H a (.dT (putK kvs k v))
theorem DGet.k {H : Hp} {a : Addr} {kvs : List (Key × V)} {k : Key} (e : H a = some (.dK kvs)) : DGet H a (kV k) (valV kvs k) := .inl ⟨kvs, k, .inl e, rfl, rfl⟩
theorem DGet.t {H : Hp} {a b : Addr} {kvs : List (List Key × V)} {k : List Key} (e : H a = some (.dT kvs)) (eb : H b = some (.tup (k.map kV))) : DGet H a (.ref b) (valV kvs k) := .inr ⟨kvs, k, b, .inl e, rfl, eb, rfl⟩
theorem DPut.k {H : Hp} {a : Addr} {kvs : List (Key × V)} {k : Key} {v : V} (e : H a = some (.dK kvs)) (hl : kvs.length < sizeLine) : DPut H a (kV k) v (upd H a (.dK (putK kvs k v))) := .inl ⟨kvs, k, e, rfl, hl, rfl⟩
theorem DPut.t {H : Hp} {a b : Addr} {kvs : List (List Key × V)} {k : List Key} {v : V} (e : H a = some (.dT kvs)) (eb : H b = some (.tup (k.map kV))) (hl : kvs.length < sizeLine) :
    DPut H a (.ref b) v (upd H a (.dT (putK kvs k v))) := .inr ⟨kvs, k, b, e, rfl, eb, hl, rfl⟩
section
variable {X : Cx} {pins : List (Addr × Obj)} {σ : St} {H : Hp} {s : Shared} {a : Addr} {y v : V} {u r : Value} {o : Option V} {A : Around} {E : Value → Shared → Prop}
theorem Inv.big (I : Inv X pins σ H s) : sysModules < s.heap.objs.size := by
  have h : mainGlobals < s.heap.objs.size := (I.mod.glob.keeps I.bk).lt
  exact Nat.lt_trans (by decide) h
theorem d_getItem {Q : Value → Shared → Prop} (hu : A.units + 1 < cLine) (I : Inv X pins σ H s) (g : DGet H a y (some v)) (ry : RelV y u) (h : ∀ w' s', Inv X pins σ H s' → RelV v w' → Q w' s') :
    wpAny (model X.prog X.w) A (getItem (.ref a) u) Q E s := by
  rcases g with ⟨kvs, k, e, ey, l⟩ | ⟨kvs, k, b, e, ey, eb, l⟩
  · subst ey
    obtain ⟨z, hd, vs, rel, dd⟩ := dk_rd I.hok e
    obtain ⟨w', hw, rw'⟩ := RelO.some_of (v := v) (o := valueAt vs k) (by rw [l]; exact rel.val k)
    exact wpAny_getItem_of (kV_is ry) dd.mapOf hw (h w' _ (I.tok _) rw')
  · subst ey
    cases (show u = Value.ref b from ry)
    obtain ⟨z, hd, xs, rel, dd⟩ := dt_rd I.hok e
    obtain ⟨w', hw, rw'⟩ := RelO.some_of (v := v) (o := (atKey xs k).map (·.2)) (by rw [l]; exact rel.val k)
    obtain ⟨p, hp, hp2⟩ := Option.map_eq_some_iff.mp hw
    refine wpAny_getItem_heap (tupleKind_room_in1 hu) (key_of I.hok eb) dd hp ?_
    rw [hp2]
    exact h w' _ (I.tok _) rw'
theorem d_notIn {Q : Value → Shared → Prop} (hu : A.units + 1 < cLine) (I : Inv X pins σ H s) (g : DGet H a y o) (ry : RelV y u) (h : ∀ s', Inv X pins σ H s' → Q (.bool (!o.isSome)) s') :
    wpAny (model X.prog X.w) A (compareOp .NotIn u (.ref a)) Q E s := by
  rcases g with ⟨kvs, k, e, ey, l⟩ | ⟨kvs, k, b, e, ey, eb, l⟩
  · subst ey
    obtain ⟨z, hd, vs, rel, dd⟩ := dk_rd I.hok e
    refine wpAny_notIn_of (kV_is ry) hd dd.mapOf ?_
    rw [← (rel.val k).isSome_eq, ← l]
    exact h _ (I.tok _)
  · subst ey
    cases (show u = Value.ref b from ry)
    obtain ⟨z, hd, xs, rel, dd⟩ := dt_rd I.hok e
    refine wpAny_notIn_heap (tupleKind_room_in1 hu) (key_of I.hok eb) hd dd ?_
    have q := (rel.val k).isSome_eq
    rw [Option.isSome_map] at q
    rw [← q, ← l]
    exact h _ (I.tok _)
theorem d_write {h' : Heap} {t' : Nat} {ob : HO} (I : Inv X pins σ H s) (mu : Mut (H a)) (hs : Heap.SameBut a s.heap h') (he : ∃ q, h'.get? a = some q) (new : ObjOk X.prog X.w (upd H a ob) h' a ob) :
    Inv X pins σ (upd H a ob) { s with heap := h', toks := t' } :=
  I.write (x := a) (e := a) mu (.inl rfl) (fun b q hb z => (hs.2 b hb).trans z) he new
theorem dk_new {P : Program} {w : World} {H' : Hp} {h' : Heap} {kvs : List (Key × V)} {vs : List (Key × Value)} (z : kvs.length ≤ sizeLine) (hd : (a == sysModules) = false) (rel : KV kvs vs) (dd : h'.DictOf (mixKind P w) a vs) :
    ObjOk P w H' h' a (.dK kvs) := ⟨z, hd, vs, rel, dd⟩
theorem d_setItem {H' : Hp} {Q : Unit → Shared → Prop} (hu : A.units + 1 < cLine) (I : Inv X pins σ H s) (g : DPut H a y v H') (ry : RelV y u) (rv : RelV v r) (h : ∀ s', Inv X pins σ H' s' → Q () s') :
    wpAny (model X.prog X.w) A (setItem (.ref a) u r) Q E s := by
  rcases g with ⟨kvs, k, e, ey, l, eH⟩ | ⟨kvs, k, b, e, ey, eb, l, eH⟩
  · subst ey eH
    obtain ⟨z, hd, vs, rel, dd⟩ := dk_of I.hok e
    have hz : vs.length ≤ sizeLine := by rw [← rel.length]; exact z
    have hl : (putK kvs k v).length ≤ sizeLine := by have := length_putK kvs k v; omega
    refine wpAny_setItem_pairs (hsz := hz) (kV_is ry) dd fun h' dd' hs => h _ ?_
    have he : ∃ q, h'.get? a = some q := let ⟨q, _, _, hq, _⟩ := dd'; ⟨q, hq⟩
    exact d_write I (by rw [e]; exact True.intro) hs he (dk_new hl hd (rel.put k rv) dd')
  · subst ey eH
    cases (show u = Value.ref b from ry)
    obtain ⟨z, hd, xs, rel, dd⟩ := dt_of I.hok e
    have hz : xs.length ≤ sizeLine := by rw [← Paired.length rel]; exact z
    have hl : (putK kvs k v).length ≤ sizeLine := by have := length_putK kvs k v; omega
    refine wpAny_setItem_heap (hsz := hz) (tupleKind_room_in1 hu) (key_of I.hok eb) dd fun h' dd' hs => h _ ?_
    obtain ⟨q, es, ep, hq, h2, h3, h4, _, h5⟩ := dd'
    refine d_write I (by rw [e]; exact True.intro) hs ⟨q, hq⟩ ⟨hl, hd, _, (rel.put k eb rv).keeps fun c ys ec => ?_, q, es, ep, hq, h2, h3, h4, h5⟩
    rw [upd_ne (ne_of ec e (fun z => nomatch z))]
    exact ec
end
section
variable {X : Cx} {pins : List (Addr × Obj)} {σ : St} {H : Hp} {s : Shared} {a : Addr} {kvs : List (Key × V)} {k : Key} {u : Value} {A : Around} {E : Value → Shared → Prop}
end
def NoSl (i : Expr) : Prop := ∀ ov iv, subscripted i false ov iv = operate [ov, iv] (getItem ov iv)
theorem subD_of {prog : Program} {w : World} {A : Around} {E : Value → Shared → Prop} {s : Shared} {env : Env} {value slice : Expr} {pos : Pos} {T id : String} {Q : Value → Shared → Prop}
    (hl : typeLookup (.type T) "__getitem__" = pure (some (.builtin id))) (hs : NoSl slice)
    (h : wpAny (model prog w) A (eval value env) (fun o s₁ => wpAny (model prog w) A (eval slice env) (fun i s₂ => s₂.TypeIs o T ∧ wpAny (model prog w) A (getItem o i) Q E s₂) E s₁) E s) :
    wpAny (model prog w) A (eval (.Subscript value slice pos) env) Q E s := by
  refine Subscript_ (wpAny_mono h (fun o s₁ h₁ => wpAny_mono h₁ (fun i s₂ h₂ => ?_) fun _ _ x => x) fun _ _ x => x)
  obtain ⟨hT, h₂⟩ := h₂
  unfold subscriptTail
  refine wpAny_bind ?_
  rw [getitemInPython_of_ne hT.not_modules]
  refine wpAny_bind (wpAny_specialOf hT hl ?_)
  have fin : wpAny (model prog w) A (subscripted slice false o i) (fun r s₃ => wpAny (model prog w) A (letTemporaryGo value o r >>= fun _ => pure r) Q E s₃) E s₂ := by
    rw [hs o i]
    exact wpAny_operating (wpAny_mono h₂ (fun r s₃ h₃ => wpAny_bind (wpAny_letTemporaryGo (wpAny_pure h₃))) fun _ _ x => x)
  first
    | exact wpAny_pure (wpAny_bind fin)
    | exact wpAny_bind (wpAny_pure (wpAny_bind fin))
    | exact wpAny_bind fin
theorem dict_typeIs {X : Cx} {pins : List (Addr × Obj)} {σ : St} {H : Hp} {s : Shared} {a : Addr} {y : V} {o : Option V} (I : Inv X pins σ H s) (g : DGet H a y o) : s.TypeIs (.ref a) "dict" := by
  rcases g with ⟨kvs, k, e, _, _⟩ | ⟨kvs, k, b, e, _, _, _⟩
  · obtain ⟨_, _, vs, _, dd⟩ := dk_rd I.hok e
    exact dd.typeIs
  · obtain ⟨_, _, xs, _, dd⟩ := dt_rd I.hok e
    exact dd.typeIs
def tDGet (td ty : TE) : TE := fun σ H Q => td σ H fun x H1 => ty σ H1 fun y H2 => ∃ a v, x = .ref a ∧ DGet H2 a y (some v) ∧ Q v H2
def tDNotIn (ty td : TE) : TE := fun σ H Q => ty σ H fun y H1 => td σ H1 fun x H2 => ∃ a o, x = .ref a ∧ DGet H2 a y o ∧ Q (.bl (!o.isSome)) H2
def sDPut (td ty tv : TE) : TS := fun D σ H => tv σ H fun v H1 => td σ H1 fun x H2 => ty σ H2 fun y H3 => ∃ a H4, x = .ref a ∧ DPut H3 a y v H4 ∧ D.nx σ H4
section
variable {X : Cx} {o i e value : Expr} {pos pos' tpos : Pos} {td ty tv : TE}
theorem pe_dget (hu : X.A.units + 1 < cLine) (ho : PE X o td) (hi : PE X i ty) (hs : NoSl i) : PE X (.Subscript o i pos) (tDGet td ty) := by
  intro pins s σ H Q I h
  refine subD_of PySem.F.slot_dict_getitem.lookup hs (thn (ho pins s σ H _ I h) fun u s1 ⟨x, H1, I1, rx, q1⟩ => thn (hi pins s1 σ H1 _ I1 q1) fun iv s2 ⟨y, H2, I2, ry, a, v, ex, g, q2⟩ => ?_)
  subst ex
  obtain rfl : u = Value.ref a := rx
  exact ⟨dict_typeIs I2 g, d_getItem hu I2 g ry fun w' s3 I3 rw' => ⟨v, H2, I3, rw', q2⟩⟩
theorem pc_dnotin (hu : X.A.units + 1 < cLine) (hi : PE X i ty) (ho : PE X o td) : PC X .NotIn i o (tDNotIn ty td) := by
  intro pins s σ H Q I h
  refine thn (hi pins s σ H _ I h) fun iv s1 ⟨y, H1, I1, ry, q1⟩ => thn (ho pins s1 σ H1 _ I1 q1) fun u s2 ⟨x, H2, I2, rx, a, ov, ex, g, q2⟩ => ?_
  subst ex
  obtain rfl : u = Value.ref a := rx
  exact d_notIn hu I2 g ry fun s3 I3 => ⟨.bl (!ov.isSome), H2, I3, rfl, q2⟩
theorem ps_dput (hu : X.A.units + 1 < cLine) (ho : PE X o td) (hi : PE X i ty) (hv : PE X value tv) (hs : swapsWith value (some (.Subscript o i pos')) pos.line X.env = pure false) :
    PS X (.Assign [.Subscript o i pos'] value pos) (sDPut td ty tv) := by
  intro pins s σ H D I h
  refine wpAny_Assign_Subscript (thn (hv pins s σ H _ I h) fun r s1 ⟨v, H1, I1, rv, q1⟩ => thn (ho pins s1 σ H1 _ I1 q1) fun u s2 ⟨x, H2, I2, rx, q2⟩ => thn (hi pins s2 σ H2 _ I2 q2) fun iv s3 ⟨y, H3, I3, ry, a, H4, ex, g, q3⟩ => ?_) hs
  subst ex
  obtain rfl : u = Value.ref a := rx
  exact d_setItem hu I3 g ry rv fun s4 I4 => ⟨σ, H4, I4, q3⟩
end
theorem dk_empty {P : Program} {w : World} {H : Hp} (h : Heap) (hb : sysModules < h.objs.size) : ObjOk P w H (h.push { cls := .type "dict", data := .dict #[] }) h.objs.size (.dK []) :=
  ⟨Nat.zero_le _, beq_eq_false_iff_ne.mpr (Ne.symm (Nat.ne_of_lt hb)), [], .nil, Heap.DictOf.new h⟩
theorem dt_empty {P : Program} {w : World} {H : Hp} (h : Heap) (hb : sysModules < h.objs.size) : ObjOk P w H (h.push { cls := .type "dict", data := .dict #[] }) h.objs.size (.dT []) :=
  ⟨Nat.zero_le _, beq_eq_false_iff_ne.mpr (Ne.symm (Nat.ne_of_lt hb)), [], .nil, _, #[], 0, Heap.get?_push_size _ rfl, ⟨rfl, rfl, rfl⟩, rfl, rfl, List.nodup_nil⟩
def tDNewK : TE := fun _ H Q => ∀ p, H p = none → Q (.ref p) (upd H p (.dK []))
def tDNewT : TE := fun _ H Q => ∀ p, H p = none → Q (.ref p) (upd H p (.dT []))
section
variable {X : Cx} {pos : Pos}
theorem pe_dnewK : PE X (.Dict [] [] pos) tDNewK := fun pins s σ H Q I h =>
  wpAny_Dict_empty ⟨.ref s.heap.objs.size, _, I.laid (a := s.heap.objs.size) (o := .dK []) (t' := s.toks) (fun _ _ q => Heap.get?_push_of_some _ q) (Nat.le_refl _) (dk_empty s.heap I.big), rfl, h _ (I.hok.fresh (Nat.le_refl _))⟩
theorem pe_dnewT : PE X (.Dict [] [] pos) tDNewT := fun pins s σ H Q I h =>
  wpAny_Dict_empty ⟨.ref s.heap.objs.size, _, I.laid (a := s.heap.objs.size) (o := .dT []) (t' := s.toks) (fun _ _ q => Heap.get?_push_of_some _ q) (Nat.le_refl _) (dt_empty s.heap I.big), rfl, h _ (I.hok.fresh (Nat.le_refl _))⟩
end
def mergeK (kvs more : List (Key × V)) : List (Key × V) := more.foldl (fun acc kv => putK acc kv.1 kv.2) kvs
theorem KV.merge : ∀ {more : List (Key × V)} {rs : List (Key × Value)} {kvs : List (Key × V)} {vs : List (Key × Value)}, KV more rs → KV kvs vs → KV (mergeK kvs more) (merged vs rs) := by
  intro more rs kvs vs r
  unfold KV at r
  induction r generalizing kvs vs with
  | nil => intro q; exact q
  | @cons p q ps qs h t ih =>
    intro r0
    have e : KV (putK kvs p.1 p.2) (stored vs q.1 q.2) := by
      have := r0.put p.1 h.2
      rw [← h.1]; exact this
    exact ih e
structure M1 (X : Cx) (o : Expr) (m : Str) (apos : Pos) (e : Expr) (cpos : Pos) : Prop where
  base : attributeBase o m X.env (eval o X.env) = eval o X.env
  few : ((backTo cpos (starEach [e] X.env)).all (fun x => !x.1) && (backToKw cpos (keywordEach [] X.env)).all (fun x => x.1.isSome)
    && decide (([e] : List Expr).length + ([] : List Keyword).length + (if ([] : List Keyword).isEmpty then 0 else 1) < 30)) = true
  line : (apos.endLine == cpos.line) = true
  trees : backTo cpos (starEach [e] X.env) = [(false, eval e X.env)]
structure M2 (X : Cx) (o : Expr) (m : Str) (apos : Pos) (e f : Expr) (cpos : Pos) : Prop where
  base : attributeBase o m X.env (eval o X.env) = eval o X.env
  few : ((backTo cpos (starEach [e, f] X.env)).all (fun x => !x.1) && (backToKw cpos (keywordEach [] X.env)).all (fun x => x.1.isSome)
    && decide (([e, f] : List Expr).length + ([] : List Keyword).length + (if ([] : List Keyword).isEmpty then 0 else 1) < 30)) = true
  line : (apos.endLine == cpos.line) = true
  trees : backTo cpos (starEach [e, f] X.env) = [(false, eval e X.env), (false, eval f X.env)]
section
variable {X : Cx} {pins : List (Addr × Obj)} {σ : St} {H : Hp} {s : Shared} {a : Addr} {y d : V} {u r : Value} {o : Option V} {A : Around} {E : Value → Shared → Prop}
end
section
variable {X : Cx} {o e f : Expr} {apos cpos : Pos} {td ty tx : TE}
end
section
variable {X : Cx} {pins : List (Addr × Obj)} {σ : St} {H : Hp} {s : Shared} {a : Addr} {kvs : List (Key × V)} {A : Around} {E : Value → Shared → Prop}
end
section
variable {X : Cx} {pins : List (Addr × Obj)} {σ : St} {H : Hp} {s : Shared} {a : Addr} {y : V} {u : Value} {A : Around} {E : Value → Shared → Prop}
end
end L2
set_option maxRecDepth 100000
set_option maxHeartbeats 1000000
namespace LS
open PySem
end LS
set_option maxRecDepth 100000
set_option maxHeartbeats 1000000
namespace LS
open PySem
end LS
set_option maxRecDepth 100000
set_option maxHeartbeats 1000000
namespace LS
open PySem
section
variable {prog : Program} {w : World} {K : Type} [DecidableEq K] {kn : KeyKind prog w K} {A : Around} {E : Value → Shared → Prop} {s : Shared}
end
end LS
set_option maxRecDepth 100000
set_option maxHeartbeats 1000000
namespace LS
open PySem
section
variable {prog : Program} {w : World} {K : Type} [DecidableEq K] {kn : KeyKind prog w K} {A : Around} {E : Value → Shared → Prop} {s : Shared}
end
end LS
set_option maxRecDepth 100000
set_option maxHeartbeats 3200000
namespace LS
open PySem PyProof.Rows
abbrev freshSet (led : Bool) : Obj := { cls := .type "set", dict := none, data := .set #[] 0 (.fresh 0 0 led) }
section
variable {w : World} {prog : Program} {A : Around} {E : Value → Shared → Prop} {s : Shared}
theorem new_code (x : Value) {Q₁ : Value → Shared → Prop} (h : Q₁ (.ref s.heap.objs.size) { s with heap := s.heap.push (freshSet (!(w.params.followText "set-order"))) }) :
    codeAny (model prog w) A (.call (.builtin "set.__new__") ⟨[.type "set", x], []⟩) (wants Q₁ E) s := by
  refine codeAny_of_tree ?_
  have step := PySem.F.newCall_set_1 x
  show wpAny _ A.in1 (checkBuiltinCall "set.__new__" ⟨[.type "set", x], []⟩ >>= fun _ => again (.builtin "set.__new__" ⟨[.type "set", x], []⟩)) _ _ s
  refine wpAny_bind (wpAny_of_eq step (wpAny_pure ⟨plainId_quiet PySem.F.plain_set_new _, ?_⟩))
  refine codeAny_builtin PySem.F.entry_set_new ?_
  rw [Around.under_plainId PySem.F.plain_set_new _]
  delta Builtin.«set.__new__»; unfold Builtin.Frozenset.newClass
  have self := sub_set_self
  cases s with
  | mk hp g d tk os =>
    dsimp only at h ⊢
    wp_walk
    refine wpAny_askSetting (wpAny_pure ?_); simp only [newObj]
    exact wpAny_bind (wpAny_alloc (wpAny_pure (wpAny_pure h)))
theorem set_of {x : Value} {Q : Value → Shared → Prop}
    (upd : ∀ (led : Bool) (A' : Around), led = (!(w.params.followText "set-order")) → A'.units ≤ A.units + 8 → A'.handled = A.handled → wpAny (model prog w) A' (Builtin.Frozenset.updateFrom "set.__init__" s.heap.objs.size x) (fun _ s₂ => Q (.ref s.heap.objs.size) s₂) E { s with heap := s.heap.push (freshSet led) }) :
    wpAny (model prog w) A (call (.type "set") [x]) Q E s := by
  obtain ⟨c, tl, hmro⟩ := PySem.F.called_set.mro
  have hmade := PySem.F.called_set.made
  have hsub := PySem.F.called_set.sub
  refine wpAny_call (codeAny_of_tree ?_); show wpAny _ _ (callAny (.type "set") _) _ _ _
  refine wpAny_pure ⟨Code.quiet_builtin _ (by decide +kernel), codeAny_builtin PySem.F.entry_type_call ?_⟩
  rw [Around.under_plain (weight_type_call_type "set" [x] []) rfl]
  have h1 := PySem.F.called_set.notType
  have h2 := PySem.F.called_set.canCreate
  have hct := PySem.F.typeCall_set_1 x
  (repeat (any_goals (first | assumption | wp_step))); refine codeAny_mono (new_code x (E := E) (Q₁ := fun obj s₁ => ∃ led : Bool, led = (!(w.params.followText "set-order")) ∧ obj = .ref s.heap.objs.size ∧ s₁ = { s with heap := s.heap.push (freshSet led) }) ⟨_, rfl, rfl, rfl⟩) fun r s₁ hr => ?_
  cases r with
  | error e => exact hr
  | ok fl =>
    cases fl with
    | ret obj =>
      obtain ⟨led, hled, rfl, rfl⟩ := hr
      have hS : (s.heap.push (freshSet led)).get? s.heap.objs.size = some (freshSet led) := Heap.get?_push_size _ rfl
      have hT : Shared.TypeIs { s with heap := s.heap.push (freshSet led) } (.ref s.heap.objs.size) "set" := ⟨_, hS, rfl⟩
      have hli := PySem.F.called_set.init.lookup
      have hbi := PySem.F.called_set.init.bind (.ref s.heap.objs.size)
      (repeat (any_goals (first | assumption | wp_step))); refine codeAny_mono (codeAny_call_builtin (R := wants (fun r s₂ => r = .none ∧ Q (.ref s.heap.objs.size) s₂) E) PySem.F.called_set.init.plain PySem.F.entry_set_init (check_set_init_1 hT ?_)) fun r₂ s₂ hr₂ => ?_
      · unfold Builtin.«set.__init__» noKeywords; generalize hPI : Builtin.Frozenset.updateFrom = PI
        wp_walk
        subst hPI
        exact wpAny_mono (upd led A.in1.in1 hled (by simp [Around.in1_units]) (by simp)) (fun r s' q => wpAny_pure ⟨rfl, q⟩) (fun e s' x => x)
      · cases r₂ with
        | error e => exact hr₂
        | ok fl₂ =>
          cases fl₂ with
          | ret r =>
            obtain ⟨rfl, hq⟩ := hr₂; repeat (any_goals (first | assumption | wp_step))
          | _ => exact hr₂.elim
    | _ => exact hr.elim
end
section
variable {prog : Program} {w : World} {K : Type} [DecidableEq K] {kn : KeyKind prog w K} {A : Around} {E : Value → Shared → Prop} {s : Shared}
theorem sub_dict_set : isSubtype (Value.type "dict") (.type "set") = pure false := by rw [isSubtype_type]; kernel_rfl
theorem sub_dict_frz : isSubtype (.type "dict") (.type "frozenset") = pure false := by rw [isSubtype_type]; kernel_rfl
end
end LS
set_option maxRecDepth 100000
set_option maxHeartbeats 3200000
namespace LS
open PySem PyProof.Rows
theorem eraseIdx_perm {α : Type} : ∀ {l : List α} {i : Nat} {x : α}, l[i]? = some x → l.Perm (x :: l.eraseIdx i)
  | [], i, x, h => by simp at h
  | a :: l, 0, x, h => by simp at h; subst h; exact .refl _
  | a :: l, i + 1, x, h => by
    have h : l[i]? = some x := by simpa using h
    exact ((eraseIdx_perm h).cons a).trans (.swap _ _ _)
section
variable {A : Around} {M : Model} {E : Value → Shared → Prop} {s : Shared}
end
theorem pick_go {α : Type} (next : Nat → Nat) : ∀ (fuel k : Nat) (left : List α) (out : Array α), left.length ≤ fuel → (pickOrder.go next fuel k left out).toList.Perm (out.toList ++ left)
  | 0, k, left, out, h => by
    have : left = [] := List.length_eq_zero_iff.mp (by omega)
    subst this
    unfold pickOrder.go
    simp
  | fuel + 1, k, left, out, h => by
    unfold pickOrder.go
    cases left with
    | nil => simp
    | cons a r =>
      have hi : next k % (a :: r).length < (a :: r).length := Nat.mod_lt _ (by simp)
      rw [List.getElem?_eq_getElem hi]
      dsimp only
      have hp := eraseIdx_perm (List.getElem?_eq_getElem hi)
      refine (pick_go next fuel (k + 1) _ _ (by have := hp.length_eq; simp only [List.length_cons] at this h ⊢; omega)).trans ?_
      rw [Array.toList_push, List.append_assoc]
      exact (hp.symm).append_left _
theorem pick_perm {α : Type} (next : Nat → Nat) (xs : Array α) : (pickOrder next xs).toList.Perm xs.toList := by
  have := pick_go next xs.size 0 xs.toList #[] (by simp)
  simpa [pickOrder] using this
section
variable {prog : Program} {w : World} {K : Type} [DecidableEq K] {kn : KeyKind prog w K} {A : Around} {E : Value → Shared → Prop} {s : Shared}
end
end LS
set_option maxRecDepth 100000
set_option maxHeartbeats 3200000
namespace LS
open PySem PyProof.Rows
section
variable {prog : Program} {w : World} {K : Type} [DecidableEq K] {kn : KeyKind prog w K} {A : Around} {E : Value → Shared → Prop} {s : Shared}
end
end LS
set_option maxRecDepth 100000
set_option maxHeartbeats 3200000
namespace LS
open PySem PyProof.Rows
theorem entry_set_or : entryFor table "set.__or__" = some Builtin.«frozenset.__or__» :=
  entryFor_alias (id' := "frozenset.__or__") (by kernel_rfl) rfl (by decide +kernel) (by kernel_rfl)
section
variable {prog : Program} {w : World} {K : Type} [DecidableEq K] {kn : KeyKind prog w K} {A : Around} {E : Value → Shared → Prop} {s : Shared}
theorem isSet {a : Addr} {Q : Bool → Shared → Prop} (hT : s.TypeIs (.ref a) "set") (h : Q true s) : wpAny (model prog w) A (Builtin.Frozenset.isAnySet (.ref a)) Q E s := by
  unfold Builtin.Frozenset.isAnySet
  have h1 := sub_set_self
  wp_walk
  exact h
theorem new_set {Q : Value → Shared → Prop} (h : ∀ led : Bool, led = (!(w.params.followText "set-order")) → Q (.ref s.heap.objs.size) { s with heap := s.heap.push (freshSet led) }) : wpAny (model prog w) A (newSet (.type "set")) Q E s := by
  unfold newSet setsByText
  refine wpAny_bind (wpAny_bind (wpAny_askSetting (wpAny_pure ?_))); dsimp only
  simp only [newObj]
  exact wpAny_bind (wpAny_alloc (wpAny_pure (h _ rfl)))
end
end LS
set_option maxRecDepth 100000
set_option maxHeartbeats 3200000
namespace LS
open PySem PyProof.Rows
theorem slot_sit_next : Slot "set_iterator" "__next__" "set_iterator.__next__" :=
  .of (owner := "set_iterator") (n := "__next__") (by rw [typeLookup_type, builtinLookup_eq_fast]; kernel_rfl) (by decide +kernel) (by decide +kernel) (by decide +kernel) (by first | exact .inl (by decide +kernel) | exact .inr (by decide +kernel)) (by rw [isSubtype_type]; kernel_rfl)
theorem entry_sit_next : entryFor table "set_iterator.__next__" = some Builtin.«set_iterator.__next__» := entryFor_of_tree (by kernel_rfl)
theorem args_sit_next (a : Value) : argsOk "set_iterator.__next__" ⟨[a], []⟩ := by
  unfold argsOk
  first | kernel_rfl | decide +kernel | (simp only []; kernel_rfl)
theorem slot_sit_iter : Slot "set_iterator" "__iter__" "set_iterator.__iter__" :=
  .of (owner := "set_iterator") (n := "__iter__") (by rw [typeLookup_type, builtinLookup_eq_fast]; kernel_rfl) (by decide +kernel) (by decide +kernel) (by decide +kernel) (by first | exact .inl (by decide +kernel) | exact .inr (by decide +kernel)) (by rw [isSubtype_type]; kernel_rfl)
theorem entry_sit_iter : entryFor table "set_iterator.__iter__" = some Builtin.«dict_keyiterator.__iter__» := entryFor_alias (id' := "dict_keyiterator.__iter__") (by kernel_rfl) rfl (by decide +kernel) (by kernel_rfl)
theorem args_sit_iter (a : Value) : argsOk "set_iterator.__iter__" ⟨[a], []⟩ := by
  unfold argsOk
  first | kernel_rfl | decide +kernel | (simp only []; kernel_rfl)
abbrev itObj (first : Value) (i : Nat) (S : Addr) (n ep : Nat) : Obj := { cls := .type "set_iterator", data := .fields #[first, .int i 0, .ref S, .int n 0, .int ep 0] }
section
variable {w : World} {prog : Program} {A : Around} {E : Value → Shared → Prop} {s : Shared}
theorem it_stop {I S : Addr} {first : Value} {i n ep : Nat} {R : PySem.Fin → Shared → Prop} {Q : Option Value → Shared → Prop} (hh : A.handled = none) (hI : s.heap.get? I = some (itObj first i S n ep)) (h : ∀ h', Heap.ExtBut I s.heap h' → Q none { s with heap := h' }) :
    wpAny (model prog w) A.in1 (do
        setField (Value.ref I) 2 Value.none
        let e ← newExc (Value.type "StopIteration") []
        raiseNew e) R (fun e s' => wpAny (model prog w) A (do
          let b ← isInstance e (Value.type "StopIteration")
          if b = true then pure none else throw e) Q E s') s := by
  refine wpAny_bind (wpAny_setField hI rfl (by simp) ?_)
  refine wpAny_bind ?_
  simp only [newTuple, newExc]
  refine wpAny_bind (wpAny_newObj_type ?_ (by size_fits)); have none1 : firstArgMember (.type "StopIteration") [] = pure Value.none := by first | rfl | (simp only [firstArgMember]; rfl)
  refine wpAny_bind (wpAny_of_eq none1 ?_)
  refine wpAny_newObj_type ?_ (by size_fits); simp only [raiseNew]
  refine wpAny_bind (wpAny_handled ?_); rw [show A.in1.handled = none from hh]
  refine wpAny_bind (wpAny_pure (wpAny_throw ?_)); have isStop := isSubtype_stop
  refine wpAny_bind (wpAny_isInstance ⟨_, Heap.get?_push_size _ rfl, rfl⟩ isStop ?_)
  exact wpAny_pure (h _ (((Heap.SameBut.update ..).extBut.push _).push _))
theorem end_small {I S : Addr} {o : Obj} {es : Array (Int × Value)} {ep i n : Nat} {t : SetTable} {slot : Int} {tk : Tok} {Q : Option Value → Shared → Prop} (hh : A.handled = none) (hI : s.heap.get? I = some (itObj (.int slot tk) i S n ep)) (hS : s.heap.get? S = some o) (hd : o.data = .set es ep t) (hf : t.fits es.size = true) (hn : es.size = n)
    (hnext : ∀ (R : Option (Value × Nat) → Shared → Prop) (E' : Value → Shared → Prop), R none s → wpAny (model prog w) A.in1 (setNext S slot.toNat i ep) R E' s)
    (h : ∀ h', Heap.ExtBut I s.heap h' → Q none { s with heap := h' }) : wpAny (model prog w) A (pyNext (.ref I)) Q E s := by
  have hTy : s.TypeIs (.ref I) "set_iterator" := ⟨_, hI, rfl⟩
  unfold pyNext
  refine wpAny_bind (wpAny_attempt (wpAny_callSpecial?_slot (name := Str.ofString "__next__") hTy slot_sit_next (wpAny_call_entry slot_sit_next hTy entry_sit_next ?_ (args_sit_next _))))
  unfold Builtin.«set_iterator.__next__» slotArgs
  simp only [List.isEmpty_nil, Bool.not_true, Bool.false_eq_true, ↓reduceIte, bind_assoc, List.length_nil, bne_self_eq_false]; refine wpAny_bind (wpAny_pure ?_)
  dsimp only
  refine wpAny_bind (wpAny_fieldsOf hI rfl ?_)
  dsimp only
  refine wpAny_bind (wpAny_setEntries_of hS hd hf ?_)
  rw [if_neg (by rw [hn]; simp)]
  simp only [Int.toNat_natCast]
  refine wpAny_bind (hnext _ _ ?_)
  dsimp only
  exact it_stop hh hI h
theorem small_walk {S : Addr} {o : Obj} {es : Array (Int × Value)} {ep : Nat} {t : SetTable} {k i : Nat} {R : Option (Value × Nat) → Shared → Prop} (hS : s.heap.get? S = some o) (hd : o.data = .set es ep t) (hf : t.fits es.size = true) (hb : w.params.followText "set-order" = false) (hled : t.led = true) (h1 : es.size ≤ 1)
    (h : R (match es[SetTable.below t.place k]?, t.place[SetTable.below t.place k]? with | some (_, x), some j => some (x, j + 1) | _, _ => none) s) : wpAny (model prog w) A (setNext S k i ep) R E s := by
  unfold setNext setsByText
  refine wpAny_bind (wpAny_setState_of hS hd hf ?_)
  dsimp only
  refine wpAny_bind (wpAny_bind (wpAny_askSetting (wpAny_pure ?_))); rw [if_neg (by show ¬ w.params.followText "set-order" = true; rw [hb]; decide)]
  show wpAny _ _ (if (!t.plain && decide (es.size > 1)) = true then _ else _) _ _ _
  rw [if_neg (by simp; omega)]
  show wpAny _ _ ((if (!t.led && !es.isEmpty) = true then (unsupported "set:maker-not-led" : Sem Unit) else pure ()) >>= _) _ _ _
  rw [if_neg (by rw [hled]; simp)]
  refine wpAny_bind (wpAny_pure ?_); exact wpAny_pure h
theorem text_walk {S : Addr} {o : Obj} {es : Array (Int × Value)} {ep : Nat} {t : SetTable} {k i : Nat} {R : Option (Value × Nat) → Shared → Prop} (hS : s.heap.get? S = some o) (hd : o.data = .set es ep t) (hf : t.fits es.size = true) (hb : w.params.followText "set-order" = true)
    (h : R (((pickOrder (w.params.setOrder S ep) es)[i]?).map fun e => (e.2, k)) s) : wpAny (model prog w) A (setNext S k i ep) R E s := by
  unfold setNext setsByText
  refine wpAny_bind (wpAny_setState_of hS hd hf ?_)
  dsimp only
  refine wpAny_bind (wpAny_bind (wpAny_askSetting (wpAny_pure ?_))); rw [if_pos (by exact hb), if_neg (by simp)]
  unfold setWalk setsByText
  refine wpAny_bind (wpAny_bind (wpAny_setState_of hS hd hf ?_))
  dsimp only
  refine wpAny_bind (wpAny_bind (wpAny_askSetting (wpAny_pure ?_))); rw [if_pos (by exact hb)]
  refine wpAny_bind (wpAny_askSetting (wpAny_pure ?_))
  exact wpAny_pure h
end
section
variable {prog : Program} {w : World} {K : Type} [DecidableEq K] {kn : KeyKind prog w K} {A : Around} {E : Value → Shared → Prop} {s : Shared}
theorem entry_set_iter : entryFor table "set.__iter__" = some Builtin.«frozenset.__iter__» := entryFor_alias (id' := "frozenset.__iter__") (by kernel_rfl) rfl (by decide +kernel) (by kernel_rfl)
end
end LS
set_option maxRecDepth 100000
set_option maxHeartbeats 3200000
namespace LS
open PySem PyProof.Rows
section
variable {prog : Program} {w : World} {K : Type} [DecidableEq K] {kn : KeyKind prog w K} {A : Around} {E : Value → Shared → Prop} {s : Shared}
end
end LS
set_option maxRecDepth 100000
set_option maxHeartbeats 3200000
namespace LS
open PySem PySem.W PyProof.Rows
section
variable {n : Nat} (hn : 0 < n)
include hn
end
section
variable {w : World} {prog : Program} {A : Around} {E : Value → Shared → Prop} {s : Shared}
end
end LS
set_option maxRecDepth 100000
set_option maxHeartbeats 3200000
namespace LS
open PySem PySem.W PyProof.Rows
section
variable {prog : Program} {w : World} {K : Type} [DecidableEq K] {kn : PySem.KeyKind prog w K} {A : Around} {E : Value → Shared → Prop} {s : Shared}
end
end LS
set_option maxRecDepth 100000
set_option maxHeartbeats 3200000
namespace LS
open PySem PySem.W PyProof.Rows
section
variable {prog : Program} {w : World} {K : Type} [DecidableEq K] {kn : PySem.KeyKind prog w K} {A : Around} {E : Value → Shared → Prop} {s : Shared} {R : Result → Shared → Prop}
end
end LS
set_option maxRecDepth 100000
set_option maxHeartbeats 3200000
namespace L2
open PySem PySem.Spec PyProof.Rows LS
section
variable {X : Cx} {pins : List (Addr × Obj)} {σ : St} {H : Hp} {s : Shared}
theorem Inv.redrawn (I : Inv X pins σ H s) (d : Drawn) : Inv X pins σ H { s with drawn := d } := ⟨I.ok, I.os, I.bare, I.base, I.loc, I.cell, I.free, I.freeC, I.pin, I.hok, I.len⟩
end
theorem boot_set : bootBuiltins "set" = Option.some (Value.type "set") := by decide +kernel
end L2
set_option maxRecDepth 100000
set_option maxHeartbeats 1600000
namespace LS
open PySem
section
variable {w : World} {prog : Program} {A : Around} {E : Value → Shared → Prop} {s : Shared}
def RawD (h : Heap) (d : Addr) (es : Array DictEntry) (ep : Nat) : Prop := ∃ o, h.get? d = some o ∧ o.ExactDict ∧ o.data = .dict es ep
theorem RawD.typeIs {d : Addr} {es : Array DictEntry} {ep : Nat} (x : RawD s.heap d es ep) : s.TypeIs (.ref d) "dict" := let ⟨o, a, b, _⟩ := x; ⟨o, a, b.1⟩
theorem RawD.keep {h h' : Heap} {d : Addr} {es : Array DictEntry} {ep : Nat} (x : RawD h d es ep) (k : ∀ o, h.get? d = some o → h'.get? d = some o) : RawD h' d es ep := let ⟨o, a, b⟩ := x; ⟨o, k o a, b⟩
theorem iter_raw {d : Addr} {es : Array DictEntry} {ep : Nat} {Q : Value → Shared → Prop} (hd : (d == sysModules) = false) (hm : RawD s.heap d es ep)
    (hQ : Q (.ref s.heap.objs.size) { s with heap := s.heap.push { cls := .type "dict_keyiterator", data := .fields #[.ref d, .int 0 0, .int es.size 0, .int ep 0] } }) : wpAny (model prog w) A (pyIter (.ref d)) Q E s := by
  have hT := hm.typeIs
  obtain ⟨o, ho, hc, hdat⟩ := hm
  refine wpAny_pyIter_slot hT F.slot_dict_iter (wpAny_call_entry F.slot_dict_iter hT F.entry_dict_iter ?_ (F.args_dict_iter_1 _)); unfold Builtin.«dict.__iter__» Builtin.Dict.dictSlotNone
  refine wpAny_bind (wpAny_bind (wpAny_notOrdered_dict hT ?_))
  show wpAny _ _ (pure (Value.ref d)) _ _ s; refine wpAny_pure ?_
  show wpAny _ _ (Builtin.Dict.showsAll d >>= _) _ _ s; unfold Builtin.Dict.showsAll
  rw [hd, if_neg Bool.false_ne_true]
  refine wpAny_bind (wpAny_pure (wpAny_bind (wpAny_dictEntries ho hdat (wpAny_bind (wpAny_dictEpoch ho hdat ?_)))))
  exact wpAny_bind (wpAny_newObj_type (wpAny_pure ⟨_, rfl, "dict_keyiterator", _, ⟨_, Heap.get?_push_size _ rfl, rfl⟩, F.slot_dict_keyiterator_next.lookup, hQ⟩))
theorem next_key {it d : Addr} {i ep : Nat} {es : Array DictEntry} {e : DictEntry} {Q : Option Value → Shared → Prop} (hit : s.heap.IsKeyIter it d i es.size ep) (hm : RawD s.heap d es ep) (hx : es[i]? = some e)
    (hQ : ∀ h', h'.IsKeyIter it d (i + 1) es.size ep → Heap.SameBut it s.heap h' → Q (some e.key) { s with heap := h' }) : wpAny (model prog w) A (pyNext (.ref it)) Q E s := by
  have hT := hit.typeIs
  obtain ⟨o, ho, hc, hd⟩ := id hit; obtain ⟨od, hod, hcd, hdd⟩ := hm
  unfold pyNext
  refine wpAny_bind (wpAny_attempt (wpAny_callSpecial?_slot (name := Str.ofString "__next__") hT F.slot_dict_keyiterator_next (wpAny_call_entry F.slot_dict_keyiterator_next hT F.entry_dict_keyiterator_next ?_ (F.args_dict_keyiterator_next_1 _))))
  refine wpAny_bind (wpAny_pure (wpAny_bind (wpAny_bind (wpAny_bind (wpAny_typeNameOfWhole_keyiter hT (wpAny_pure (wpAny_bind (wpAny_fieldsOf ho hd ?_))))))))
  simp only [show Builtin.Dict_items.ownsTuple "dict_keyiterator" = false from by decide, Bool.false_eq_true, if_false]
  show wpAny _ _ (if (Value.ref d == Value.none) = true then _ else _) _ _ s; rw [show (Value.ref d == Value.none) = false from rfl, if_neg Bool.false_ne_true]
  refine wpAny_bind (wpAny_pure (wpAny_bind (wpAny_dictEntries hod hdd ?_)))
  rw [if_neg (by simp)]
  refine wpAny_bind (wpAny_pure (wpAny_bind (wpAny_dictEpoch hod hdd ?_)))
  rw [if_neg (by simp)]
  have hlt : i < es.size := (Array.getElem?_eq_some_iff.mp hx).1
  have he : es[i] = e := (Array.getElem?_eq_some_iff.mp hx).2
  refine wpAny_pure ?_
  simp only [show ¬ ((i : Int) < 0) from by omega, if_false, Int.toNat_natCast, hx]
  refine wpAny_bind (wpAny_bind (wpAny_typeNameOfWhole_keyiter hT (wpAny_pure (wpAny_bind (wpAny_isOneOf_keyiter hT ?_)))))
  show wpAny _ _ (setField (.ref it) 1 (rawInt ((i : Int) + 1)) >>= _) _ _ s; refine wpAny_bind (wpAny_setField ho hd (by simp) ?_)
  generalize hh : s.heap.update it (Obj.mapFields (·.setIfInBounds 1 (rawInt ((i : Int) + 1)))) = h1
  have hit' : h1.IsKeyIter it d (i + 1) es.size ep := ⟨_, by rw [← hh]; exact Heap.get?_update_self _ ho (Obj.isFreed_of_fields (Obj.data_mapFields hd _)), (Obj.cls_mapFields ..).trans hc, by rw [Obj.data_mapFields hd]; simp [rawInt]⟩
  have sb : Heap.SameBut it s.heap h1 := by rw [← hh]; exact Heap.SameBut.update ..
  have hT1 : Shared.TypeIs { s with heap := h1 } (.ref it) "dict_keyiterator" := hit'.typeIs
  refine wpAny_bind (wpAny_holding (wpAny_bind (wpAny_isOneOf_keyiter hT1 ?_)))
  show wpAny _ _ (pure e.key) _ _ _; exact wpAny_pure (wpAny_pure ⟨_, rfl, wpAny_pure (hQ h1 hit' sb)⟩)
theorem end_key {it d : Addr} {i ep : Nat} {es : Array DictEntry} {Q : Option Value → Shared → Prop} (hh : A.handled = none) (hit : s.heap.IsKeyIter it d i es.size ep) (hm : RawD s.heap d es ep) (hx : es.size ≤ i) (hQ : ∀ h', Heap.ExtBut it s.heap h' → Q none { s with heap := h' }) : wpAny (model prog w) A (pyNext (.ref it)) Q E s := by
  have hT := hit.typeIs
  obtain ⟨o, ho, hc, hd⟩ := id hit; obtain ⟨od, hod, hcd, hdd⟩ := hm
  unfold pyNext
  refine wpAny_bind (wpAny_attempt (wpAny_callSpecial?_slot (name := Str.ofString "__next__") hT F.slot_dict_keyiterator_next (wpAny_call_entry F.slot_dict_keyiterator_next hT F.entry_dict_keyiterator_next ?_ (F.args_dict_keyiterator_next_1 _))))
  refine wpAny_bind (wpAny_pure (wpAny_bind (wpAny_bind (wpAny_bind (wpAny_typeNameOfWhole_keyiter hT (wpAny_pure (wpAny_bind (wpAny_fieldsOf ho hd ?_))))))))
  simp only [show Builtin.Dict_items.ownsTuple "dict_keyiterator" = false from by decide, Bool.false_eq_true, if_false]
  show wpAny _ _ (if (Value.ref d == Value.none) = true then _ else _) _ _ s; rw [show (Value.ref d == Value.none) = false from rfl, if_neg Bool.false_ne_true]
  refine wpAny_bind (wpAny_pure (wpAny_bind (wpAny_dictEntries hod hdd ?_)))
  rw [if_neg (by simp)]
  refine wpAny_bind (wpAny_pure (wpAny_bind (wpAny_dictEpoch hod hdd ?_)))
  rw [if_neg (by simp)]
  refine wpAny_pure ?_
  simp only [show ¬ ((i : Int) < 0) from by omega, if_false, Int.toNat_natCast, Array.getElem?_eq_none hx]
  refine wpAny_bind (wpAny_bind (wpAny_typeNameOfWhole_keyiter hT (wpAny_pure ?_)))
  show wpAny _ _ (setField (.ref it) 0 .none >>= _) _ _ s; refine wpAny_bind (wpAny_setField ho hd (by simp) ?_)
  show wpAny _ _ (newExc (.type "StopIteration") [] >>= _) _ _ _; refine wpAny_bind ?_
  simp only [newExc, newTuple]; refine wpAny_bind (wpAny_newObj_type ?_ (by size_fits))
  refine wpAny_bind (m := firstArgMember _ _) (wpAny_of_eq (a := Value.none) (by first | rfl | (simp only [firstArgMember]; rfl)) (wpAny_newObj_type ?_ (by size_fits)))
  simp only [raiseNew]; refine wpAny_bind (wpAny_handled ?_); rw [show A.in1.handled = none from hh]
  refine wpAny_bind (wpAny_pure (wpAny_throw ?_)); refine wpAny_bind (wpAny_isInstance (b := true) (T := "StopIteration") ⟨_, Heap.get?_push_size _ rfl, rfl⟩ isSubtype_stop (wpAny_pure ?_))
  exact hQ _ (((Heap.SameBut.update ..).extBut.push _).push _)
theorem next_val {it d : Addr} {i ep : Nat} {es : Array DictEntry} {e : DictEntry} {Q : Option Value → Shared → Prop} (hit : s.heap.IsValIter it d i es.size ep) (hm : RawD s.heap d es ep) (hx : es[i]? = some e)
    (hQ : ∀ h', h'.IsValIter it d (i + 1) es.size ep → Heap.SameBut it s.heap h' → Q (some e.val) { s with heap := h' }) : wpAny (model prog w) A (pyNext (.ref it)) Q E s := by
  have hT := hit.typeIs
  obtain ⟨o, ho, hc, hd⟩ := id hit; obtain ⟨od, hod, hcd, hdd⟩ := hm
  unfold pyNext
  refine wpAny_bind (wpAny_attempt (wpAny_callSpecial?_slot (name := Str.ofString "__next__") hT F.slot_dict_valueiterator_next (wpAny_call_entry F.slot_dict_valueiterator_next hT F.entry_dict_valueiterator_next ?_ (F.args_dict_valueiterator_next_1 _))))
  refine wpAny_bind (wpAny_pure (wpAny_bind (wpAny_bind (wpAny_bind (wpAny_typeNameOfWhole_valiter hT (wpAny_pure (wpAny_bind (wpAny_fieldsOf ho hd ?_))))))))
  simp only [show Builtin.Dict_items.ownsTuple "dict_valueiterator" = false from by decide, Bool.false_eq_true, if_false]
  show wpAny _ _ (if (Value.ref d == Value.none) = true then _ else _) _ _ s; rw [show (Value.ref d == Value.none) = false from rfl, if_neg Bool.false_ne_true]
  refine wpAny_bind (wpAny_pure (wpAny_bind (wpAny_dictEntries hod hdd ?_)))
  rw [if_neg (by simp)]
  refine wpAny_bind (wpAny_pure (wpAny_bind (wpAny_dictEpoch hod hdd ?_)))
  rw [if_neg (by simp)]
  have hlt : i < es.size := (Array.getElem?_eq_some_iff.mp hx).1
  have he : es[i] = e := (Array.getElem?_eq_some_iff.mp hx).2
  refine wpAny_pure ?_
  simp only [show ¬ ((i : Int) < 0) from by omega, if_false, Int.toNat_natCast, hx]
  refine wpAny_bind (wpAny_bind (wpAny_typeNameOfWhole_valiter hT (wpAny_pure (wpAny_bind (wpAny_isOneOf_valiter hT ?_)))))
  show wpAny _ _ (setField (.ref it) 1 (rawInt ((i : Int) + 1)) >>= _) _ _ s; refine wpAny_bind (wpAny_setField ho hd (by simp) ?_)
  generalize hh : s.heap.update it (Obj.mapFields (·.setIfInBounds 1 (rawInt ((i : Int) + 1)))) = h1
  have hit' : h1.IsValIter it d (i + 1) es.size ep := ⟨_, by rw [← hh]; exact Heap.get?_update_self _ ho (Obj.isFreed_of_fields (Obj.data_mapFields hd _)), (Obj.cls_mapFields ..).trans hc, by rw [Obj.data_mapFields hd]; simp [rawInt]⟩
  have sb : Heap.SameBut it s.heap h1 := by rw [← hh]; exact Heap.SameBut.update ..
  have hT1 : Shared.TypeIs { s with heap := h1 } (.ref it) "dict_valueiterator" := hit'.typeIs
  refine wpAny_bind (wpAny_holding (wpAny_bind (wpAny_isOneOf_valiter hT1 (wpAny_bind (wpAny_isOneOf_valiter hT1 ?_)))))
  show wpAny _ _ (pure e.val) _ _ _; exact wpAny_pure (wpAny_pure ⟨_, rfl, wpAny_pure (hQ h1 hit' sb)⟩)
theorem end_val {it d : Addr} {i ep : Nat} {es : Array DictEntry} {Q : Option Value → Shared → Prop} (hh : A.handled = none) (hit : s.heap.IsValIter it d i es.size ep) (hm : RawD s.heap d es ep) (hx : es.size ≤ i) (hQ : ∀ h', Heap.ExtBut it s.heap h' → Q none { s with heap := h' }) : wpAny (model prog w) A (pyNext (.ref it)) Q E s := by
  have hT := hit.typeIs
  obtain ⟨o, ho, hc, hd⟩ := id hit; obtain ⟨od, hod, hcd, hdd⟩ := hm
  unfold pyNext
  refine wpAny_bind (wpAny_attempt (wpAny_callSpecial?_slot (name := Str.ofString "__next__") hT F.slot_dict_valueiterator_next (wpAny_call_entry F.slot_dict_valueiterator_next hT F.entry_dict_valueiterator_next ?_ (F.args_dict_valueiterator_next_1 _))))
  refine wpAny_bind (wpAny_pure (wpAny_bind (wpAny_bind (wpAny_bind (wpAny_typeNameOfWhole_valiter hT (wpAny_pure (wpAny_bind (wpAny_fieldsOf ho hd ?_))))))))
  simp only [show Builtin.Dict_items.ownsTuple "dict_valueiterator" = false from by decide, Bool.false_eq_true, if_false]
  show wpAny _ _ (if (Value.ref d == Value.none) = true then _ else _) _ _ s; rw [show (Value.ref d == Value.none) = false from rfl, if_neg Bool.false_ne_true]
  refine wpAny_bind (wpAny_pure (wpAny_bind (wpAny_dictEntries hod hdd ?_)))
  rw [if_neg (by simp)]
  refine wpAny_bind (wpAny_pure (wpAny_bind (wpAny_dictEpoch hod hdd ?_)))
  rw [if_neg (by simp)]
  refine wpAny_pure ?_
  simp only [show ¬ ((i : Int) < 0) from by omega, if_false, Int.toNat_natCast, Array.getElem?_eq_none hx]
  refine wpAny_bind (wpAny_bind (wpAny_typeNameOfWhole_valiter hT (wpAny_pure ?_)))
  show wpAny _ _ (setField (.ref it) 0 .none >>= _) _ _ s; refine wpAny_bind (wpAny_setField ho hd (by simp) ?_)
  show wpAny _ _ (newExc (.type "StopIteration") [] >>= _) _ _ _; refine wpAny_bind ?_
  simp only [newExc, newTuple]; refine wpAny_bind (wpAny_newObj_type ?_ (by size_fits))
  refine wpAny_bind (m := firstArgMember _ _) (wpAny_of_eq (a := Value.none) (by first | rfl | (simp only [firstArgMember]; rfl)) (wpAny_newObj_type ?_ (by size_fits)))
  simp only [raiseNew]; refine wpAny_bind (wpAny_handled ?_); rw [show A.in1.handled = none from hh]
  refine wpAny_bind (wpAny_pure (wpAny_throw ?_)); refine wpAny_bind (wpAny_isInstance (b := true) (T := "StopIteration") ⟨_, Heap.get?_push_size _ rfl, rfl⟩ isSubtype_stop (wpAny_pure ?_))
  exact hQ _ (((Heap.SameBut.update ..).extBut.push _).push _)
theorem vals_raw {d : Addr} {es : Array DictEntry} {ep : Nat} {Q : Value → Shared → Prop} (hd : (d == sysModules) = false) (hm : RawD s.heap d es ep)
    (h : Q (.ref s.heap.objs.size) { s with heap := s.heap.push { cls := .type "dict_values", data := .fields #[.ref d] } }) : wpAny (model prog w) A (call (.builtin "dict.values") [.ref d]) Q E s := by
  have hT := hm.typeIs
  refine wpAny_call_entry F.slot_dict_values hT F.entry_dict_values ?_ (F.args_dict_values_1 _)
  refine wpAny_bind ?_; unfold Builtin.Dict.noArgs; refine wpAny_bind (wpAny_notOrdered_dict hT ?_); show wpAny _ _ (pure d) _ _ s
  refine wpAny_pure ?_
  show wpAny _ _ (Builtin.Dict.showsAll d >>= _) _ _ s; unfold Builtin.Dict.showsAll
  rw [hd, if_neg Bool.false_ne_true]
  exact wpAny_bind (wpAny_pure (wpAny_bind (wpAny_newObj_type (wpAny_pure ⟨_, rfl, h⟩))))
theorem items_raw {d : Addr} {es : Array DictEntry} {ep : Nat} {Q : Value → Shared → Prop} (hd : (d == sysModules) = false) (hm : RawD s.heap d es ep)
    (h : Q (.ref s.heap.objs.size) { s with heap := s.heap.push { cls := .type "dict_items", data := .fields #[.ref d] } }) : wpAny (model prog w) A (call (.builtin "dict.items") [.ref d]) Q E s := by
  have hT := hm.typeIs
  refine wpAny_call_entry F.slot_dict_items hT F.entry_dict_items ?_ (F.args_dict_items_1 _)
  unfold Builtin.«dict.items» Builtin.Dict.noArgs
  refine wpAny_bind (wpAny_bind (wpAny_notOrdered_dict hT ?_)); show wpAny _ _ (pure d) _ _ s
  refine wpAny_pure ?_
  show wpAny _ _ (Builtin.Dict.showsAll d >>= _) _ _ s; unfold Builtin.Dict.showsAll
  rw [hd, if_neg Bool.false_ne_true]
  exact wpAny_bind (wpAny_pure (wpAny_bind (wpAny_newObj_type (wpAny_pure ⟨_, rfl, h⟩))))
theorem iter_items {v d : Addr} {es : Array DictEntry} {ep : Nat} {Q : Value → Shared → Prop} (hv : s.heap.IsItemsView v d) (hm : RawD s.heap d es ep)
    (hQ : Q (.ref s.heap.objs.size) { s with heap := s.heap.push { cls := .type "dict_itemiterator", data := .fields #[.none, .bool false, .ref d, .int 0 0, .int es.size 0, .int ep 0, .none, .none] } }) : wpAny (model prog w) A (pyIter (.ref v)) Q E s := by
  have hT := hv.typeIs
  obtain ⟨ov, hov, hcv, hdv⟩ := hv
  obtain ⟨o, ho, hc, hdat⟩ := hm
  refine wpAny_pyIter_slot hT F.slot_dict_items_iter (wpAny_call_entry F.slot_dict_items_iter hT F.entry_dict_items_iter ?_ (F.args_dict_items_iter_1 _))
  unfold Builtin.«dict_items.__iter__» Builtin.Dict_items.dictOf
  refine wpAny_bind (wpAny_pure (wpAny_bind (wpAny_bind (wpAny_field hov hdv (x := .ref d) rfl (wpAny_pure (wpAny_bind ?_))))))
  unfold Builtin.Dict_items.newIterator; refine wpAny_bind (wpAny_dictEntries ho hdat (wpAny_bind (wpAny_dictEpoch ho hdat ?_)))
  simp only [show Builtin.Dict_items.ownsTuple "dict_itemiterator" = true from by decide, if_true]
  refine wpAny_newObj_type (wpAny_pure ⟨_, rfl, "dict_itemiterator", _, ⟨_, Heap.get?_push_size _ rfl, rfl⟩, F.slot_dict_itemiterator_next.lookup, ?_⟩) (by simp only [sizeOk, Builtin.Dict_items.ownedTupleFields, List.size_toArray, List.length_append, List.length_cons, List.length_nil, sizeLine_eq]; omega)
  exact hQ
theorem next_items {it d : Addr} {i ep : Nat} {es : Array DictEntry} {e : DictEntry} {ok ov : Value} {Q : Option Value → Shared → Prop} (hit : IsItemIter s.heap it d i es.size ep ok ov) (hm : RawD s.heap d es ep) (hx : es[i]? = some e)
    (hQ : ∀ h', IsItemIterOut h' it d (i + 1) es.size ep e.key e.val s.heap.objs.size → h'.get? s.heap.objs.size = some { cls := .type "tuple", data := .seq #[e.key, e.val] } → h'.objs.size = s.heap.objs.size + 1 → (∀ b o, b ≠ it → s.heap.get? b = some o → h'.get? b = some o) → Q (some (.ref s.heap.objs.size)) { s with heap := h' }) : wpAny (model prog w) A (pyNext (.ref it)) Q E s := by
  have hT : s.TypeIs (.ref it) "dict_itemiterator" := ⟨_, hit, rfl⟩; obtain ⟨od, hod, hcd, hdd⟩ := hm
  unfold pyNext
  refine wpAny_bind (wpAny_attempt (wpAny_callSpecial?_slot (name := Str.ofString "__next__") hT F.slot_dict_itemiterator_next (wpAny_call_entry F.slot_dict_itemiterator_next hT F.entry_dict_itemiterator_next ?_ (F.args_dict_itemiterator_next_1 _))))
  refine wpAny_bind (wpAny_pure (wpAny_bind (wpAny_bind (wpAny_bind (wpAny_typeNameOfWhole_itemiter hT (wpAny_pure (wpAny_bind (wpAny_fieldsOf hit rfl ?_))))))))
  simp only [show Builtin.Dict_items.ownsTuple "dict_itemiterator" = true from by decide, if_true]
  show wpAny _ _ (if (Value.ref d == Value.none) = true then _ else _) _ _ s; rw [show (Value.ref d == Value.none) = false from rfl, if_neg Bool.false_ne_true]
  refine wpAny_bind (wpAny_pure (wpAny_bind (wpAny_dictEntries hod hdd ?_)))
  rw [if_neg (by simp)]
  refine wpAny_bind (wpAny_pure (wpAny_bind (wpAny_dictEpoch hod hdd ?_)))
  rw [if_neg (by simp)]
  refine wpAny_pure ?_
  simp only [show ¬ ((i : Int) < 0) from by omega, if_false, Int.toNat_natCast, hx]
  refine wpAny_bind (wpAny_bind (wpAny_typeNameOfWhole_itemiter hT (wpAny_pure (wpAny_bind (wpAny_isOneOf_itemiter hT ?_)))))
  show wpAny _ _ (setField (.ref it) 3 (rawInt ((i : Int) + 1)) >>= _) _ _ s
  refine wpAny_bind (wpAny_setField_rec hit (by simp) fun h1 q1 sb1 => ?_)
  have e1 : IsItemIter h1 it d (i + 1) es.size ep ok ov := by
    show h1.get? it = _
    rw [show ((i + 1 : Nat) : Int) = (i : Int) + 1 from by omega]; simpa [rawInt] using q1
  have sb1 : Heap.SameBut it s.heap h1 := sb1
  have hT1 : Shared.TypeIs { s with heap := h1 } (.ref it) "dict_itemiterator" := ⟨_, e1, rfl⟩
  refine wpAny_bind (wpAny_holding (wpAny_bind (wpAny_isOneOf_itemiter hT1 (wpAny_bind (wpAny_isOneOf_itemiter hT1 ?_)))))
  show wpAny _ _ (Builtin.Dict_items.pairFromOwner (.ref it) 6 e.key e.val) _ _ { s with heap := h1 }
  unfold Builtin.Dict_items.pairFromOwner Builtin.Dict_items.ownedTupleIsFree
  refine wpAny_bind (wpAny_newTuple ?_); have e2 : IsItemIter (h1.push { cls := .type "tuple", data := .seq #[e.key, e.val] }) it d (i + 1) es.size ep ok ov := Heap.get?_push_of_some _ e1
  have z1 : h1.objs.size = s.heap.objs.size := sb1.1
  have t2 : (h1.push { cls := .type "tuple", data := .seq #[e.key, e.val] }).get? s.heap.objs.size = some { cls := .type "tuple", data := .seq #[e.key, e.val] } := by rw [← z1]; exact Heap.get?_push_size _ rfl
  have z2 : (h1.push { cls := .type "tuple", data := .seq #[e.key, e.val] }).objs.size = s.heap.objs.size + 1 := by rw [Heap.size_push, z1]
  have k2 : ∀ b o, b ≠ it → s.heap.get? b = some o → (h1.push { cls := .type "tuple", data := .seq #[e.key, e.val] }).get? b = some o := fun b o hb x => Heap.get?_push_of_some _ (sb1.extBut b o hb x)
  generalize hh2 : h1.push { cls := .type "tuple", data := .seq #[e.key, e.val] } = h2 at e2 t2 z2 k2
  have ne : s.heap.objs.size ≠ it := Nat.ne_of_gt (Heap.lt_size hit)
  dsimp only
  rw [z1]
  refine wpAny_bind (wpAny_bind (wpAny_field e2 rfl (x := .none) rfl (wpAny_pure ?_)))
  simp only [if_true]
  refine wpAny_bind (wpAny_field e2 rfl (x := ok) rfl (wpAny_bind (wpAny_field e2 rfl (x := ov) rfl ?_)))
  refine wpAny_bind (wpAny_setField_rec e2 (by simp) fun h3 q3 sb3 => ?_)
  have e3 : IsItemIter h3 it d (i + 1) es.size ep e.key ov := q3
  refine wpAny_bind (wpAny_setField_rec e3 (by simp) fun h4 q4 sb4 => ?_)
  have e4 : IsItemIter h4 it d (i + 1) es.size ep e.key e.val := q4
  refine wpAny_bind (wpAny_setField_rec e4 (by simp) fun h5 q5 sb5 => ?_)
  have e5 : IsItemIterOut h5 it d (i + 1) es.size ep e.key e.val s.heap.objs.size := q5
  refine wpAny_bind (wpAny_setField_rec e5 (by simp) fun h6 q6 sb6 => ?_)
  have all : Heap.SameBut it h2 h6 := ((sb3.trans sb4).trans sb5).trans sb6
  refine wpAny_bind (wpAny_letGo (wpAny_pure (wpAny_pure ⟨_, rfl, wpAny_pure (hQ h6 q6 (all.extBut _ _ ne t2) ?_ fun b o hb x => all.extBut b o hb (k2 b o hb x))⟩)))
  exact all.1.trans z2
theorem end_items {it d : Addr} {i ep : Nat} {es : Array DictEntry} {ok ov : Value} {Q : Option Value → Shared → Prop} (hh : A.handled = none) (hit : IsItemIter s.heap it d i es.size ep ok ov) (hm : RawD s.heap d es ep) (hx : es.size ≤ i) (hQ : ∀ h', Heap.ExtBut it s.heap h' → Q none { s with heap := h' }) : wpAny (model prog w) A (pyNext (.ref it)) Q E s := by
  have hT : s.TypeIs (.ref it) "dict_itemiterator" := ⟨_, hit, rfl⟩; obtain ⟨od, hod, hcd, hdd⟩ := hm
  unfold pyNext
  refine wpAny_bind (wpAny_attempt (wpAny_callSpecial?_slot (name := Str.ofString "__next__") hT F.slot_dict_itemiterator_next (wpAny_call_entry F.slot_dict_itemiterator_next hT F.entry_dict_itemiterator_next ?_ (F.args_dict_itemiterator_next_1 _))))
  refine wpAny_bind (wpAny_pure (wpAny_bind (wpAny_bind (wpAny_bind (wpAny_typeNameOfWhole_itemiter hT (wpAny_pure (wpAny_bind (wpAny_fieldsOf hit rfl ?_))))))))
  simp only [show Builtin.Dict_items.ownsTuple "dict_itemiterator" = true from by decide, if_true]
  show wpAny _ _ (if (Value.ref d == Value.none) = true then _ else _) _ _ s; rw [show (Value.ref d == Value.none) = false from rfl, if_neg Bool.false_ne_true]
  refine wpAny_bind (wpAny_pure (wpAny_bind (wpAny_dictEntries hod hdd ?_)))
  rw [if_neg (by simp)]
  refine wpAny_bind (wpAny_pure (wpAny_bind (wpAny_dictEpoch hod hdd ?_)))
  rw [if_neg (by simp)]
  refine wpAny_pure ?_
  simp only [show ¬ ((i : Int) < 0) from by omega, if_false, Int.toNat_natCast, Array.getElem?_eq_none hx]
  refine wpAny_bind (wpAny_bind (wpAny_typeNameOfWhole_itemiter hT (wpAny_pure ?_)))
  show wpAny _ _ (setField (.ref it) 2 .none >>= _) _ _ s; refine wpAny_bind (wpAny_setField hit rfl (by simp) ?_)
  show wpAny _ _ (newExc (.type "StopIteration") [] >>= _) _ _ _; refine wpAny_bind ?_
  simp only [newExc, newTuple]; refine wpAny_bind (wpAny_newObj_type ?_ (by size_fits))
  refine wpAny_bind (m := firstArgMember _ _) (wpAny_of_eq (a := Value.none) (by first | rfl | (simp only [firstArgMember]; rfl)) (wpAny_newObj_type ?_ (by size_fits)))
  simp only [raiseNew]; refine wpAny_bind (wpAny_handled ?_); rw [show A.in1.handled = none from hh]
  refine wpAny_bind (wpAny_pure (wpAny_throw ?_)); refine wpAny_bind (wpAny_isInstance (b := true) (T := "StopIteration") ⟨_, Heap.get?_push_size _ rfl, rfl⟩ isSubtype_stop (wpAny_pure ?_))
  exact hQ _ (((Heap.SameBut.update ..).extBut.push _).push _)
theorem iter_vals {v d : Addr} {es : Array DictEntry} {ep : Nat} {Q : Value → Shared → Prop} (hv : s.heap.IsValuesView v d) (hm : RawD s.heap d es ep)
    (hQ : Q (.ref s.heap.objs.size) { s with heap := s.heap.push { cls := .type "dict_valueiterator", data := .fields #[.ref d, .int 0 0, .int es.size 0, .int ep 0] } }) : wpAny (model prog w) A (pyIter (.ref v)) Q E s := by
  have hT := hv.typeIs
  obtain ⟨ov, hov, hcv, hdv⟩ := hv
  obtain ⟨o, ho, hc, hdat⟩ := hm
  refine wpAny_pyIter_slot hT F.slot_dict_values_iter (wpAny_call_entry F.slot_dict_values_iter hT F.entry_dict_values_iter ?_ (F.args_dict_values_iter_1 _))
  unfold Builtin.«dict_values.__iter__» Builtin.Dict_items.dictOf
  refine wpAny_bind (wpAny_pure (wpAny_bind (wpAny_bind (wpAny_field hov hdv (x := .ref d) rfl (wpAny_pure (wpAny_bind ?_))))))
  unfold Builtin.Dict_items.newIterator; refine wpAny_bind (wpAny_dictEntries ho hdat (wpAny_bind (wpAny_dictEpoch ho hdat ?_)))
  simp only [show Builtin.Dict_items.ownsTuple "dict_valueiterator" = false from by decide, Bool.false_eq_true, if_false]
  exact wpAny_newObj_type (wpAny_pure ⟨_, rfl, "dict_valueiterator", _, ⟨_, Heap.get?_push_size _ rfl, rfl⟩, F.slot_dict_valueiterator_next.lookup, hQ⟩)
end
end LS
set_option maxRecDepth 100000
set_option maxHeartbeats 1600000
namespace L2
open PySem PySem.Spec PyProof.Rows LS
def held (d : Addr) (o : Obj) : HO := .ext fun h => h.get? d = some o
def viewO (n : String) (a d : Addr) : HO := .ext fun h => ∃ o, h.get? a = some o ∧ o.cls = .type n ∧ o.data = .fields #[.ref d]
structure DIs (P : Program) (w : World) (d : Addr) (o : Obj) (kvs : List (List Key × V)) (xs : List (List Key × Addr × Value)) (es : Array DictEntry) (ep : Nat) : Prop where
  len : kvs.length ≤ sizeLine
  sys : (d == sysModules) = false
  ex : o.ExactDict
  data : o.data = .dict es ep
  es : es.toList = xs.map (entryOfKey (tupleKind (mixKind P w)))
  nd : (xs.map (·.1)).Nodup
theorem held_ok {P : Program} {w : World} {H : Hp} {h : Heap} {d : Addr} {o : Obj} (e : h.get? d = some o) : ObjOk P w H h d (held d o) := ⟨e, ⟨o, e⟩, fun h1 h2 q k => k _ q⟩
theorem held_is {P : Program} {w : World} {H : Hp} {h : Heap} {d : Addr} {o : Obj} (ok : HOk P w H h) (e : H d = some (held d o)) : h.get? d = some o := (ok d _ e).1
section
variable {X : Cx} {pins : List (Addr × Obj)} {σ : St} {H : Hp} {s : Shared}
theorem hold_in {d : Addr} {kvs : List (List Key × V)} (I : Inv X pins σ H s) (e : H d = some (.dT kvs)) : ∃ o xs es ep, DIs X.prog X.w d o kvs xs es ep ∧ KT H kvs xs ∧ Inv X pins σ (upd H d (held d o)) s := by
  obtain ⟨z1, z2, xs, rel, o, es, ep, h1, h2, h3, h4, h5⟩ := (show ObjOk X.prog X.w H s.heap d (.dT kvs) from I.hok d _ e)
  refine ⟨o, xs, es, ep, ⟨z1, z2, h2, h3, h4, h5⟩, rel, ?_⟩
  have := I.write (x := d) (e := d) (o := held d o) (t' := s.toks) (h' := s.heap) (by rw [e]; trivial) (.inl rfl) (fun b u _ q => q) ⟨o, h1⟩ (held_ok h1)
  exact this
theorem hold_out {d : Addr} {o : Obj} {kvs : List (List Key × V)} {xs : List (List Key × Addr × Value)} {es : Array DictEntry} {ep : Nat} (I : Inv X pins σ H s) (e : H d = some (held d o)) (D : DIs X.prog X.w d o kvs xs es ep) (k : KT H kvs xs) :
    Inv X pins σ (upd H d (.dT kvs)) s := by
  have h1 := held_is I.hok e
  refine I.write (x := d) (e := d) (t' := s.toks) (h' := s.heap) (by rw [e]; trivial) (.inl rfl) (fun b u _ q => q) ⟨o, h1⟩ ?_
  refine ⟨D.len, D.sys, xs, k.keeps fun b ys q => ?_, o, es, ep, h1, D.ex, D.data, D.es, D.nd⟩
  rw [upd_ne]
  · exact q
  · rintro rfl; rw [e] at q; cases q
def tHold (P : Program) (w : World) (t : TE) : TE := fun σ H Q => ∃ d kvs, H d = some (.dT kvs) ∧ ∀ o xs es ep, DIs P w d o kvs xs es ep → KT H kvs xs → t σ (upd H d (held d o)) fun v H1 => H1 d = some (held d o) ∧ TSame H H1 ∧ Q v (upd H1 d (.dT kvs))
theorem pe_hold {e : Expr} {t : TE} (h : PE X e t) : PE X e (tHold X.prog X.w t) := by
  intro pins s σ H Q I q
  obtain ⟨d, kvs, hd, q⟩ := q
  obtain ⟨o, xs, es, ep, D, k, I1⟩ := hold_in I hd
  refine thn (h pins s σ _ _ I1 (q o xs es ep D k)) fun u s1 ⟨v, H1, I2, r, e1, ts, q1⟩ => ⟨v, _, hold_out I2 e1 D (k.keeps ts), r, q1⟩
def sHold (P : Program) (w : World) (t : TS) : TS := fun D σ H => ∃ d kvs, H d = some (.dT kvs) ∧ ∀ o xs es ep, DIs P w d o kvs xs es ep → KT H kvs xs →
  t { nx := fun σ1 H1 => H1 d = some (held d o) ∧ TSame H H1 ∧ D.nx σ1 (upd H1 d (.dT kvs)), rt := fun _ _ => False } σ (upd H d (held d o))
theorem ps_hold {e : Stmt} {t : TS} (h : PS X e t) : PS X e (sHold X.prog X.w t) := by
  intro pins s σ H D I q
  obtain ⟨d, kvs, hd, q⟩ := q
  obtain ⟨o, xs, es, ep, Dd, k, I1⟩ := hold_in I hd
  refine thn (h pins s σ _ _ I1 (q o xs es ep Dd k)) fun f s1 sp => ?_
  cases f with
  | next => obtain ⟨σ1, H1, I2, e1, ts, q1⟩ := sp; exact ⟨σ1, _, hold_out I2 e1 Dd (k.keeps ts), q1⟩
  | brk => obtain ⟨σ1, H1, I2, e1⟩ := sp; exact e1.elim
  | cont => obtain ⟨σ1, H1, I2, e1⟩ := sp; exact e1.elim
  | ret u => obtain ⟨v, σ1, H1, I2, r, e1⟩ := sp; exact e1.elim
end
def Itd (d : Addr) (o : Obj) (vs : List V) : It := ⟨fun i H => H d = some (held d o) ∧ i < vs.length, fun i H x H' => H' = H ∧ vs[i]? = some x, fun i H => H d = some (held d o) ∧ vs.length ≤ i⟩
theorem vals_at : ∀ {vs : List V} {us : List Value}, Vals vs us → ∀ {i : Nat} {u : Value}, us[i]? = some u → ∃ v, vs[i]? = some v ∧ RelV v u
  | _, _, .nil, i, u, e => by simp at e
  | _, _, .cons r t, 0, u, e => by simp only [List.getElem?_cons_zero, Option.some.injEq] at e; subst e; exact ⟨_, rfl, r⟩
  | _, _, .cons r t, i + 1, u, e => by simp only [List.getElem?_cons_succ] at e ⊢; exact vals_at t e
theorem turn_key {P : Program} {w : World} {K : PySem.W.Frag} {tg : Expr} {d it : Addr} {o : Obj} {vs : List V} {es : Array DictEntry} {ep : Nat} (hex : o.ExactDict) (hdat : o.data = .dict es ep) (hv : Vals vs (es.toList.map (·.key))) :
    Turn P w K tg (Itd d o vs) [it] it (fun i h => h.IsKeyIter it d i es.size ep) where
  mem := by simp
  obj := fun i h st b hb => by
    obtain rfl : b = it := by simpa using hb
    obtain ⟨o, e, c, d⟩ := st
    exact ⟨o, e, fun v z => by rw [d] at z; cases z⟩
  keep := fun i h h' st k => by
    obtain ⟨o, e, c, d⟩ := st
    exact ⟨o, k it (by simp) o e, c, d⟩
  item := by
    intro X hP hw hK hc i pins s σ H E I hf st hg
    subst hP hw hK
    obtain ⟨hd, hg⟩ := hg
    obtain ⟨f0, f1, f2, f3, f4, f5⟩ := hf it (by simp)
    have hl : vs.length = es.size := by rw [hv.length, List.length_map, Array.length_toList]
    have hi : i < es.size := by omega
    obtain ⟨v, hv1, hv2⟩ := vals_at hv (i := i) (u := es[i].key) (by simp [hi])
    refine next_key st ⟨o, held_is I.hok hd, hex, hdat⟩ (e := es[i]) (by simp [hi]) fun h' st' sb => ?_
    have I1 : Inv X pins σ H { s with heap := h' } := I.turned (t' := s.toks) (fun b o hb e => (sb.2 b hb).trans e) f0 f1 f3 f4 f5
    obtain ⟨o', e1, c, d'⟩ := id st'
    exact ⟨_, rfl, go_of (s := { s with heap := h' }) e1 c d' (by decide) ⟨v, H, I1, hv2, ⟨rfl, hv1⟩, st', fun b hb => (hf b hb).1⟩⟩
  done := by
    intro X hP hw hK hc i pins s σ H E I hf st hg
    subst hP hw hK
    obtain ⟨hd, hg⟩ := hg
    obtain ⟨f0, f1, f2, f3, f4, f5⟩ := hf it (by simp)
    have hl : vs.length = es.size := by rw [hv.length, List.length_map, Array.length_toList]
    exact end_key (I.ok.hd hc) st ⟨o, held_is I.hok hd, hex, hdat⟩ (by omega) fun h' eb => ⟨rfl, I.turned (t' := s.toks) (fun b o hb e => eb b o hb e) f0 f1 f3 f4 f5⟩
  self := fun _ _ _ _ _ st h => wpAny_pyIter_keyiter st h
theorem turn_val {P : Program} {w : World} {K : PySem.W.Frag} {tg : Expr} {d it : Addr} {o : Obj} {vs : List V} {es : Array DictEntry} {ep : Nat} (hex : o.ExactDict) (hdat : o.data = .dict es ep) (hv : Vals vs (es.toList.map (·.val))) :
    Turn P w K tg (Itd d o vs) [it] it (fun i h => h.IsValIter it d i es.size ep) where
  mem := by simp
  obj := fun i h st b hb => by
    obtain rfl : b = it := by simpa using hb
    obtain ⟨o, e, c, d⟩ := st
    exact ⟨o, e, fun v z => by rw [d] at z; cases z⟩
  keep := fun i h h' st k => by
    obtain ⟨o, e, c, d⟩ := st
    exact ⟨o, k it (by simp) o e, c, d⟩
  item := by
    intro X hP hw hK hc i pins s σ H E I hf st hg
    subst hP hw hK
    obtain ⟨hd, hg⟩ := hg
    obtain ⟨f0, f1, f2, f3, f4, f5⟩ := hf it (by simp)
    have hl : vs.length = es.size := by rw [hv.length, List.length_map, Array.length_toList]
    have hi : i < es.size := by omega
    obtain ⟨v, hv1, hv2⟩ := vals_at hv (i := i) (u := es[i].val) (by simp [hi])
    refine next_val st ⟨o, held_is I.hok hd, hex, hdat⟩ (e := es[i]) (by simp [hi]) fun h' st' sb => ?_
    have I1 : Inv X pins σ H { s with heap := h' } := I.turned (t' := s.toks) (fun b o hb e => (sb.2 b hb).trans e) f0 f1 f3 f4 f5
    obtain ⟨o', e1, c, d'⟩ := id st'
    exact ⟨_, rfl, go_of (s := { s with heap := h' }) e1 c d' (by decide) ⟨v, H, I1, hv2, ⟨rfl, hv1⟩, st', fun b hb => (hf b hb).1⟩⟩
  done := by
    intro X hP hw hK hc i pins s σ H E I hf st hg
    subst hP hw hK
    obtain ⟨hd, hg⟩ := hg
    obtain ⟨f0, f1, f2, f3, f4, f5⟩ := hf it (by simp)
    have hl : vs.length = es.size := by rw [hv.length, List.length_map, Array.length_toList]
    exact end_val (I.ok.hd hc) st ⟨o, held_is I.hok hd, hex, hdat⟩ (by omega) fun h' eb => ⟨rfl, I.turned (t' := s.toks) (fun b o hb e => eb b o hb e) f0 f1 f3 f4 f5⟩
  self := fun _ _ _ _ _ st h => wpAny_pyIter_valiter st h
def iKey (tl : TE) : TI := fun σ H R => tl σ H fun x H1 => ∃ d o vs es ep, x = .ref d ∧ H1 d = some (held d o) ∧ (d == sysModules) = false ∧ o.ExactDict ∧ o.data = .dict es ep ∧ Vals vs (es.toList.map (·.key)) ∧ R (Itd d o vs) H1
theorem pi_key {X : Cx} {tg l : Expr} {tl : TE} (hl : PE X l tl) : PI X tg l (iKey tl) := by
  intro pins s σ H R I h
  refine thn (hl pins s σ H _ I h) fun v s1 ⟨y, H1, I1, r1, q1⟩ => ?_
  obtain ⟨d, o, vs, es, ep, rfl, hd, hs, hex, hdat, hv, q⟩ := q1
  cases r1
  have fp : ∀ b ∈ [s1.heap.objs.size], FpOk X pins H1 b := fun b hb => by
    obtain rfl : b = s1.heap.objs.size := by simpa using hb
    exact I1.fpOk (Nat.le_refl _) (I1.hok.fresh (Nat.le_refl _))
  exact iter_raw hs ⟨o, held_is I1.hok hd, hex, hdat⟩ ⟨s1.heap.objs.size, [s1.heap.objs.size], _, _, H1, rfl, I1.kept (t' := s1.toks) fun b o e => Heap.get?_push_of_some _ e, turn_key hex hdat hv, ⟨_, Heap.get?_push_size _ rfl, rfl, rfl⟩, fp, q⟩
def iVal (tl : TE) : TI := fun σ H R => tl σ H fun x H1 => ∃ p d o vs es ep, x = .ref p ∧ H1 p = some (viewO "dict_values" p d) ∧ H1 d = some (held d o) ∧ o.ExactDict ∧ o.data = .dict es ep ∧ Vals vs (es.toList.map (·.val)) ∧ R (Itd d o vs) H1
theorem pi_val {X : Cx} {tg l : Expr} {tl : TE} (hl : PE X l tl) : PI X tg l (iVal tl) := by
  intro pins s σ H R I h
  refine thn (hl pins s σ H _ I h) fun v s1 ⟨y, H1, I1, r1, q1⟩ => ?_
  obtain ⟨p, d, o, vs, es, ep, rfl, hp, hd, hex, hdat, hv, q⟩ := q1
  cases r1
  have fp : ∀ b ∈ [s1.heap.objs.size], FpOk X pins H1 b := fun b hb => by
    obtain rfl : b = s1.heap.objs.size := by simpa using hb
    exact I1.fpOk (Nat.le_refl _) (I1.hok.fresh (Nat.le_refl _))
  have hvw : s1.heap.IsValuesView p d := (I1.hok p _ hp).1
  exact iter_vals hvw ⟨o, held_is I1.hok hd, hex, hdat⟩ ⟨s1.heap.objs.size, [s1.heap.objs.size], _, _, H1, rfl, I1.kept (t' := s1.toks) fun b o e => Heap.get?_push_of_some _ e, turn_val hex hdat hv, ⟨_, Heap.get?_push_size _ rfl, rfl, rfl⟩, fp, q⟩
end L2
set_option maxRecDepth 100000
set_option maxHeartbeats 1600000
namespace L2
open PySem PySem.Spec PyProof.Rows LS
section
variable {X : Cx} {o : Expr} {to : TE} {apos cpos : Pos}
def tView (n : String) (to : TE) : TE := fun σ H Q => to σ H fun x H1 => ∃ d o es ep, x = .ref d ∧ H1 d = some (held d o) ∧ (d == sysModules) = false ∧ o.ExactDict ∧ o.data = .dict es ep ∧ ∀ p, H1 p = none → Q (.ref p) (upd H1 p (viewO n p d))
theorem view_laid {pins : List (Addr × Obj)} {σ : St} {H : Hp} {s : Shared} {d : Addr} {n : String} (I : Inv X pins σ H s) : Inv X pins σ (upd H s.heap.objs.size (viewO n s.heap.objs.size d)) { s with heap := s.heap.push { cls := .type n, data := .fields #[.ref d] } } :=
  I.laid (t' := s.toks) (fun b u e => Heap.get?_push_of_some _ e) (Nat.le_refl _) ⟨⟨_, Heap.get?_push_size _ rfl, rfl, rfl⟩, ⟨_, Heap.get?_push_size _ rfl⟩, fun h1 h2 ⟨o, q1, q⟩ k => ⟨o, k _ q1, q⟩⟩
theorem pe_values (ho : PE X o to) (hbase : attributeBase o "values" X.env (eval o X.env) = eval o X.env := by rfl) (hline : (apos.endLine == cpos.line) = true := by rfl) : PE X (.Call (.Attribute o "values" apos) [] [] cpos) (tView "dict_values" to) := by
  intro pins s σ H Q I h
  refine wpAny_Call_method0_late hbase hline (thn (ho pins s σ H _ I h) fun v s1 ⟨x, H1, I1, r1, d, ob, es, ep, e, hd, hs, hex, hdat, q⟩ => ?_)
  subst e
  cases r1
  have h1 := held_is I1.hok hd
  refine ⟨"dict", "dict.values", PySem.F.plainAttrs_dict, PySem.F.slot_dict_values, PySem.F.type_dict_values, ⟨ob, h1, hex.1⟩, fun a z => by cases z; exact ⟨ob, h1, hex.2.1⟩, Calls.callWith_builtin rfl (PySem.evalArgs_none ?_)⟩
  exact vals_raw hs ⟨ob, h1, hex, hdat⟩ ⟨.ref s1.heap.objs.size, _, view_laid I1, rfl, q _ (I1.hok.fresh (Nat.le_refl _))⟩
theorem pe_items (ho : PE X o to) (hbase : attributeBase o "items" X.env (eval o X.env) = eval o X.env := by rfl) (hline : (apos.endLine == cpos.line) = true := by rfl) : PE X (.Call (.Attribute o "items" apos) [] [] cpos) (tView "dict_items" to) := by
  intro pins s σ H Q I h
  refine wpAny_Call_method0_late hbase hline (thn (ho pins s σ H _ I h) fun v s1 ⟨x, H1, I1, r1, d, ob, es, ep, e, hd, hs, hex, hdat, q⟩ => ?_)
  subst e
  cases r1
  have h1 := held_is I1.hok hd
  refine ⟨"dict", "dict.items", PySem.F.plainAttrs_dict, PySem.F.slot_dict_items, PySem.F.type_dict_items, ⟨ob, h1, hex.1⟩, fun a z => by cases z; exact ⟨ob, h1, hex.2.1⟩, Calls.callWith_builtin rfl (PySem.evalArgs_none ?_)⟩
  exact items_raw hs ⟨ob, h1, hex, hdat⟩ ⟨.ref s1.heap.objs.size, _, view_laid I1, rfl, q _ (I1.hok.fresh (Nat.le_refl _))⟩
end
theorem Inv.trackF {X : Cx} {pins : List (Addr × Obj)} {σ : St} {H : Hp} {s : Shared} {a : Addr} {o : HO} (I : Inv X pins σ H s) (f : FpOk X pins H a) (hs : X.s₀.heap.objs.size ≤ a) (new : ObjOk X.prog X.w (upd H a o) s.heap a o) : Inv X pins σ (upd H a o) s := by
  obtain ⟨f0, f1, f2, f3, f4, f5⟩ := f
  have ne : ∀ {b u}, H b = some u → b ≠ a := fun e z => by rw [z, f0] at e; cases e
  refine ⟨I.ok, I.os, I.bare, ⟨I.base.keep, I.base.slot, fun b ob q n hx => ?_, I.base.there, fun b xs q => ?_, fun b ob u q => ?_, fun b ps q => ?_⟩, I.loc, I.cell, ?_, fun x c e => ?_, fun p hp => ?_, fun b u e => ?_, I.len⟩
  · rw [upd_ne (Nat.ne_of_lt (Nat.lt_of_lt_of_le (Heap.lt_size q) hs))]; exact I.base.free b ob q n hx
  · have := I.base.tups b xs q
    rw [upd_ne (ne this)]; exact this
  · have := I.base.frzs b ob u q
    rw [upd_ne (ne this)]; exact this
  · obtain ⟨m, e⟩ := I.base.tbls b ps q
    exact ⟨m, by rw [upd_ne (ne e)]; exact e⟩
  · rw [upd_ne (Ne.symm f1)]; exact I.free
  · rw [upd_ne (f4 x c e)]; exact I.freeC x c e
  · obtain ⟨p1, p2, p3⟩ := I.pin p hp
    exact ⟨p1, by rw [upd_ne (f5 p hp)]; exact p2, p3⟩
  · by_cases hb : b = a
    · subst hb; rw [upd_same] at e; cases e; exact new
    · rw [upd_ne hb] at e
      exact (I.hok b u e).stay (fun c v _ q => q) (fun c q => by rw [upd_ne (ne q)]; exact q) fun c xs q => by rw [upd_ne (ne q)]; exact q
theorem entry_itemiter : entryFor table "dict_itemiterator.__iter__" = some Builtin.«dict_keyiterator.__iter__» := entryFor_alias (id' := "dict_keyiterator.__iter__") (by kernel_rfl) rfl (by decide +kernel) (by kernel_rfl)
def Itp (d : Addr) (o : Obj) (ks vs : List V) : It := ⟨fun i H => H d = some (held d o) ∧ i < ks.length, fun i H x H' => ∃ p k v, x = .ref p ∧ H p = none ∧ ks[i]? = some k ∧ vs[i]? = some v ∧ H' = upd H p (.tup [k, v]), fun i H => H d = some (held d o) ∧ ks.length ≤ i⟩
theorem turn_items {P : Program} {w : World} {K : PySem.W.Frag} {elts : List Expr} {x1} {tpos : Pos} {d it : Addr} {o : Obj} {ks vs : List V} {es : Array DictEntry} {ep : Nat} (hex : o.ExactDict) (hdat : o.data = .dict es ep) (hk : Vals ks (es.toList.map (·.key))) (hv : Vals vs (es.toList.map (·.val))) :
    Turn P w K (.Tuple elts x1 tpos) (Itp d o ks vs) [it] it (fun i h => ∃ ok ov, IsItemIter h it d i es.size ep ok ov) where
  mem := by simp
  obj := fun i h st b hb => by
    obtain rfl : b = it := by simpa using hb
    obtain ⟨ok, ov, e⟩ := st
    exact ⟨_, e, fun v z => by cases z⟩
  keep := fun i h h' st k => by
    obtain ⟨ok, ov, e⟩ := st
    exact ⟨ok, ov, k it (by simp) _ e⟩
  item := by
    intro X hP hw hK hc i pins s σ H E I hf st hg
    subst hP hw hK
    obtain ⟨hd, hg⟩ := hg
    obtain ⟨ok, ov, st⟩ := st
    obtain ⟨f0, f1, f2, f3, f4, f5⟩ := hf it (by simp)
    have hl : ks.length = es.size := by rw [hk.length, List.length_map, Array.length_toList]
    have hi : i < es.size := by omega
    obtain ⟨k, hk1, hk2⟩ := vals_at hk (i := i) (u := es[i].key) (by simp [hi])
    obtain ⟨v, hv1, hv2⟩ := vals_at hv (i := i) (u := es[i].val) (by simp [hi])
    refine next_items st ⟨o, held_is I.hok hd, hex, hdat⟩ (e := es[i]) (by simp [hi]) fun h' st' ht hz kp => ?_
    refine ⟨_, rfl, wpAny_letOwnedTupleGo_items (s := { s with heap := h' }) st' fun h2 st2 sb2 => ?_⟩
    have sb2 : Heap.SameBut it h' h2 := sb2
    have nit : s.heap.objs.size ≠ it := Nat.ne_of_gt (Heap.lt_size st)
    have I1 : Inv X pins σ H { s with heap := h2 } := I.turned (t' := s.toks) (fun b o hb e => (sb2.2 b hb).trans (kp b o hb e)) f0 f1 f3 f4 f5
    have ht2 : h2.get? s.heap.objs.size = some { cls := .type "tuple", data := .seq #[es[i].key, es[i].val] } := (sb2.2 _ nit).trans ht
    have hn : H s.heap.objs.size = none := I.hok.fresh (Nat.le_refl _)
    refine ⟨.ref s.heap.objs.size, upd H s.heap.objs.size (.tup [k, v]), ?_, rfl, ⟨_, k, v, rfl, hn, hk1, hv1, rfl⟩, ⟨_, _, st2⟩, fun b hb => ?_⟩
    · obtain ⟨g0, g1, g2, g3, g4, g5⟩ := I.fpOk (Nat.le_refl _) hn
      refine I1.trackF ⟨g0, g1, g2, g3, g4, g5⟩ (Nat.le_trans I.sz (Nat.le_refl _)) ⟨by show 2 ≤ sizeLine; decide, [es[i].key, es[i].val], .cons hk2 (.cons hv2 .nil), _, ht2, rfl, _, rfl⟩
    · obtain rfl : b = it := by simpa using hb
      rw [upd_ne (Ne.symm nit)]; exact f0
  done := by
    intro X hP hw hK hc i pins s σ H E I hf st hg
    subst hP hw hK
    obtain ⟨hd, hg⟩ := hg
    obtain ⟨ok, ov, st⟩ := st
    obtain ⟨f0, f1, f2, f3, f4, f5⟩ := hf it (by simp)
    have hl : ks.length = es.size := by rw [hk.length, List.length_map, Array.length_toList]
    exact end_items (I.ok.hd hc) st ⟨o, held_is I.hok hd, hex, hdat⟩ (by omega) fun h' eb => ⟨rfl, I.turned (t' := s.toks) (fun b o hb e => eb b o hb e) f0 f1 f3 f4 f5⟩
  self := fun _ _ _ _ _ st h => by
    obtain ⟨ok, ov, st⟩ := st
    have hT : Shared.TypeIs _ (.ref it) "dict_itemiterator" := ⟨_, st, rfl⟩
    refine wpAny_pyIter_slot hT F.slot_dict_itemiterator_iter (wpAny_call_entry F.slot_dict_itemiterator_iter hT entry_itemiter ?_ (F.args_dict_itemiterator_iter_1 _))
    show wpAny _ _ (ret (.ref it)) _ _ _; exact wpAny_pure ⟨_, rfl, "dict_itemiterator", _, hT, F.slot_dict_itemiterator_next.lookup, h⟩
def iItems (tl : TE) : TI := fun σ H R => tl σ H fun x H1 => ∃ p d o ks vs es ep, x = .ref p ∧ H1 p = some (viewO "dict_items" p d) ∧ H1 d = some (held d o) ∧ o.ExactDict ∧ o.data = .dict es ep ∧ Vals ks (es.toList.map (·.key)) ∧ Vals vs (es.toList.map (·.val)) ∧ R (Itp d o ks vs) H1
theorem pi_items {X : Cx} {elts : List Expr} {x1} {tpos : Pos} {l : Expr} {tl : TE} (hl : PE X l tl) : PI X (.Tuple elts x1 tpos) l (iItems tl) := by
  intro pins s σ H R I h
  refine thn (hl pins s σ H _ I h) fun v s1 ⟨y, H1, I1, r1, q1⟩ => ?_
  obtain ⟨p, d, o, ks, vs, es, ep, rfl, hp, hd, hex, hdat, hk, hv, q⟩ := q1
  cases r1
  have fp : ∀ b ∈ [s1.heap.objs.size], FpOk X pins H1 b := fun b hb => by
    obtain rfl : b = s1.heap.objs.size := by simpa using hb
    exact I1.fpOk (Nat.le_refl _) (I1.hok.fresh (Nat.le_refl _))
  have hvw : s1.heap.IsItemsView p d := (I1.hok p _ hp).1
  exact iter_items hvw ⟨o, held_is I1.hok hd, hex, hdat⟩ ⟨s1.heap.objs.size, [s1.heap.objs.size], _, _, H1, rfl, I1.kept (t' := s1.toks) fun b o e => Heap.get?_push_of_some _ e, turn_items hex hdat hk hv, ⟨.none, .none, Heap.get?_push_size _ rfl⟩, fp, q⟩
theorem keys_vals {P : Program} {w : World} {d : Addr} {o : Obj} {kvs : List (List Key × V)} {xs : List (List Key × Addr × Value)} {es : Array DictEntry} {ep : Nat} (D : DIs P w d o kvs xs es ep) : Vals (xs.map fun x => V.ref x.2.1) (es.toList.map (·.key)) := by
  rw [D.es, List.map_map]
  clear D
  induction xs with
  | nil => exact .nil
  | cons x xs ih => exact .cons rfl ih
theorem vals_vals {P : Program} {w : World} {H : Hp} {d : Addr} {o : Obj} {kvs : List (List Key × V)} {xs : List (List Key × Addr × Value)} {es : Array DictEntry} {ep : Nat} (D : DIs P w d o kvs xs es ep) (k : KT H kvs xs) : Vals (kvs.map (·.2)) (es.toList.map (·.val)) := by
  rw [D.es, List.map_map]
  clear D
  induction k with
  | nil => exact .nil
  | cons hq t ih => exact .cons hq.2.2 ih
theorem comp_dict {d D : Addr} {o : Obj} {vs : List V} {g : TG} {te : TE} {σ0 : St} {H1 : Hp} {Q : Hp → Prop} (R : V → V → Hp → Prop) (ok : St → Prop) (mono : ∀ H H' x v, TSame H H' → R x v H → R x v H')
    (hd0 : H1 d = some (held d o)) (hD : H1 D = none) (hz : vs.length ≤ 1000) (h0 : ok σ0)
    (hs : ∀ x σ' H (N : St → V → Hp → Prop), x ∈ vs → ok σ' → Same H1 H → (∀ σ3 v H4, R x v H4 → Same H H4 → ok σ3 → N σ3 v H4) → g x σ' H fun σ3 H3 => te σ3 H3 fun v H4 => N σ3 v H4)
    (hd : ∀ ys H', Same H1 H' → H' D = some (.lst ys) → Paired (fun x v => R x v H') vs ys → Q H') :
    ∃ W : Nat → Nat → St → Hp → Prop, (∃ m, W 0 m σ0 (upd H1 D (.lst []))) ∧
      ∀ i m σ' H', W i m σ' H' → ((Itd d o vs).stop i H' ∧ Q H') ∨ ((Itd d o vs).go i H' ∧ ∀ x H2, (Itd d o vs).yld i H' x H2 → g x σ' H2 fun σ3 H3 => te σ3 H3 fun v H4 => ∃ xs, H4 D = some (.lst xs) ∧ xs.length < sizeLine ∧ ∃ m', m' < m ∧ W (i + 1) m' σ3 (upd H4 D (.lst (xs ++ [v])))) := by
  refine ⟨fun i m σ' H' => m = vs.length - i ∧ i ≤ vs.length ∧ ok σ' ∧ Same H1 H' ∧ ∃ ys, H' D = some (.lst ys) ∧ Paired (fun x v => R x v H') (vs.take i) ys, ⟨vs.length, by simp, Nat.zero_le _, h0, Same.new hD, [], upd_same, by rw [List.take_zero]; exact .nil⟩, ?_⟩
  rintro i m σ' H' ⟨rfl, hi, hok, hsm, ys, hy, hp⟩
  have hyl : ys.length = i := by rw [← Paired.length hp, List.length_take, Nat.min_eq_left hi]
  by_cases hlt : i < vs.length
  · refine .inr ⟨⟨hsm _ _ hd0, hlt⟩, fun x H2 y => ?_⟩
    obtain ⟨e, hx⟩ := y
    subst e
    refine hs x σ' _ (fun σ3 v H4 => ∃ xs', H4 D = some (.lst xs') ∧ xs'.length < sizeLine ∧ ∃ m', m' < vs.length - i ∧ _) (List.mem_of_getElem? hx) hok hsm fun σ3 v H4 r s4 ok3 => ?_
    have tD : TSame H4 (upd H4 D (.lst (ys ++ [v]))) := fun b zs e => by
      rw [upd_ne (ne_of e (s4 _ _ hy) (by intro z; cases z))]; exact e
    refine ⟨ys, s4 _ _ hy, Nat.lt_of_lt_of_le (show ys.length < 1001 by omega) (by decide), vs.length - (i + 1), by omega, rfl, hlt, ok3, (hsm.trans s4).upd hD, ys ++ [v], upd_same, ?_⟩
    rw [show vs.take (i + 1) = vs.take i ++ [x] by rw [List.take_add_one, hx]; rfl]
    exact Paired.snoc (Paired.mapP hp fun b w q => mono _ _ _ _ (s4.tup.trans tD) q) (mono _ _ _ _ tD r)
  · have e : i = vs.length := by omega
    subst e
    refine .inl ⟨⟨hsm _ _ hd0, Nat.le_refl _⟩, hd ys H' hsm hy (by rw [List.take_length] at hp; exact hp)⟩
end L2
set_option maxRecDepth 100000
set_option maxHeartbeats 1600000
namespace L2
open PySem PySem.Spec PyProof.Rows LS
section
variable {X : Cx} {tg iter elt tst : Expr} {scope : Scope} {N : List Str} {js : List (Option Nat)} {pos : Pos}
theorem compLoop_if {prog : Program} {w : World} {A : Around} {R : Result → Shared → Prop} {s : Shared} {it acc : Value} {env : Env} (I : Nat → Shared → Prop)
    (turn : ∀ n s, I n s → wpAny (model prog w) A (pyNext it) (fun r s1 => match r with
      | none => R (.ok .next) s1
      | some v => wpAny (model prog w) A (letOwnedTupleGo tg it v) (fun _ s2 => wpAny (model prog w) A (assign tg env v) (fun _ s3 => wpAny (model prog w) A (isTrue tst env (eval tst env)) (fun b s4 => if b = true then
          wpAny (model prog w) A (eval elt env) (fun x s5 => wpAny (model prog w) A (call (.builtin "list.append") [acc, x]) (fun _ s6 => ∃ m, m < n ∧ I m s6) (fun _ _ => False) s5) (fun _ _ => False) s4
          else ∃ m, m < n ∧ I m s4) (fun _ _ => False) s3) (fun _ _ => False) s2) (fun _ _ => False) s1) (fun _ _ => False) s)
    (n : Nat) (h : I n s) : codeAny (model prog w) A (.compLoop (.ListComp elt [⟨tg, iter, [tst], 0⟩] scope pos) 0 it acc env) R s := by
  refine codeAny_loop rfl I (fun n s hI => ?_) n h; show wpAny _ A ((compTurn (.ListComp elt [⟨tg, iter, [tst], 0⟩] scope pos) 0 it acc env).onRaise (fun x => do noteFrame x env; theTreesLotGoes x)) _ _ s
  refine wpAny_noted ?_
  rw [compTurn_list]
  refine wpAny_bind (wpAny_standAt (wpAny_bind (wpAny_mono (turn n s hI) (fun r s1 h1 => ?_) fun _ _ h' => h'.elim)))
  cases r with
  | none => exact wpAny_pure h1
  | some v =>
    refine wpAny_bind (wpAny_mono h1 (fun _ s2 h2 => wpAny_bind (wpAny_mono h2 (fun _ s3 h3 => wpAny_bind (wpAny_tests_one (wpAny_mono h3 (fun b s4 h4 => ?_) fun _ _ h' => h'.elim))) fun _ _ h' => h'.elim)) fun _ _ h' => h'.elim)
    cases b with
    | false => exact wpAny_pure ⟨rfl, by simpa using h4⟩
    | true =>
      have h4 := by simpa using h4
      exact wpAny_bind (wpAny_bind (wpAny_mono h4 (fun x s5 h5 => wpAny_bind (wpAny_mono h5 (fun _ s6 h6 => wpAny_pure (wpAny_pure ⟨rfl, h6⟩)) fun _ _ h' => h'.elim)) fun _ _ h' => h'.elim))
def tCompIf (js : List (Option Nat)) (wi : TI) (g : TG) (tt : TT) (te : TE) : TE := fun σ H Q => wi σ H fun J H1 => ∀ D, H1 D = none → ∃ W : Nat → Nat → St → Hp → Prop, (∃ m, W 0 m (seen js σ) (upd H1 D (.lst []))) ∧
  ∀ i m σ' H', W i m σ' H' → (J.stop i H' ∧ Q (.ref D) H') ∨ (J.go i H' ∧ ∀ x H2, J.yld i H' x H2 → g x σ' H2 fun σ3 H3 => tt σ3 H3 fun b H4 => if b = true then te σ3 H4 fun v H5 => ∃ xs, H5 D = some (.lst xs) ∧ xs.length < sizeLine ∧ ∃ m', m' < m ∧ W (i + 1) m' σ3 (upd H5 D (.lst (xs ++ [v]))) else ∃ m', m' < m ∧ W (i + 1) m' σ3 H4)
theorem compIf_core {wi : TI} {g : TG} {tt : TT} {te : TE} {use : Option (Value → Sem Unit)} {Qv : Value → Shared → Prop} (hc : X.calm = true) (hi : PI X tg iter wi) (hk : scope.kind = .function) (hck : compChk X scope N js = true)
    (hg : ∀ fp s H, PG (cxComp X scope N fp s H) tg g) (ht : ∀ fp s H, PT (cxComp X scope N fp s H) tst tt) (he : ∀ fp s H, PE (cxComp X scope N fp s H) elt te)
    (hs : ∀ x, foldedSetIterable iter X.env x = pure x)
    {pins : List (Addr × Obj)} {σ : St} {H : Hp} {s : Shared} {Q : VK} (I : Inv X pins σ H s) (h : tCompIf js wi g tt te σ H Q)
    (hend : ∀ (D C : Addr) (H' : Hp) (s' : Shared), Inv X pins σ H' s' → (∃ m, s'.heap.Ns C m) → FpOk X pins H' C → Q (.ref D) H' → compPost (model X.prog X.w) X.A X.xe use Qv (.ref D) C (.ok .next) s') :
    wpAny (model X.prog X.w) X.A (comprehension (.ListComp elt [⟨tg, iter, [tst], 0⟩] scope pos) scope X.env (firstIterPos [⟨tg, iter, [tst], 0⟩] pos) (newList []) false (eval iter X.env) use) Qv X.xe s := by
  have hck' := hck
  unfold compChk at hck'
  simp only [Bool.and_eq_true] at hck'
  obtain ⟨⟨h1, _⟩, _⟩ := hck'
  have g1 : ∀ p ∈ scope.names, p.2 ≠ .cell ∧ (p.2 = .free → X.env.kindOf p.1 = some .cell) ∧ (p.2 = .local → scope.names.lookup p.1 = some .local) := fun p hp => by
    have q := List.all_eq_true.mp h1 p hp
    simp only [Bool.and_eq_true, bne_iff_ne, ne_eq, Bool.or_eq_true, beq_iff_eq] at q
    exact ⟨q.1.1, fun e => q.1.2.resolve_left fun z => z e, fun e => q.2.resolve_left fun z => z e⟩
  have hcl : ∀ p ∈ scope.names, p.2 = .free → ∃ c, X.env.cells.lookup p.1 = some c := fun p hp e => I.ok.has _ (.inl ((g1 p hp).2.1 e))
  refine wpAny_comprehension_free (use := use) (g := ⟨tg, iter, [tst], 0⟩) (gs := []) rfl hs (closureFor_G hcl) hk (fun p hp e => (g1 p hp).2.2 e) ?_
  refine thn (hi pins s σ H _ I h) fun v s1 h1 => thn h1 fun itv s2 h2 => ?_
  obtain ⟨it, fp, tn, J, H2, e, I2, T, st2, f2, hW⟩ := h2
  subst e
  have hfl : ∀ b ∈ fp, b < s2.heap.objs.size := fun b hb => by
    obtain ⟨o, ho, _⟩ := T.obj _ _ st2 b hb
    exact Heap.lt_size ho
  have hD : H2 s2.heap.objs.size = none := I2.hok.fresh (Nat.le_refl _)
  obtain ⟨W, ⟨m0, w0⟩, turn⟩ := hW _ hD
  refine wpAny_newObj_type (wpAny_newFunctionEnv (fun x hx => (g1 x hx).1) (by intro y hy; simp at hy) (fun h₁ hns₁ hsb₁ => ?_) hk)
  dsimp only at hns₁ hsb₁ ⊢
  have I3 : Inv X pins σ (upd H2 s2.heap.objs.size (.lst [])) { s2 with heap := s2.heap.push { cls := .type "list", dict := none, data := .seq ([] : List Value).toArray }, toks := s2.toks } :=
    I2.laid (t' := s2.toks) (fun b u e => Heap.get?_push_of_some _ e) (Nat.le_refl _) ⟨Nat.zero_le _, [], 0, .nil, Heap.get?_push_size _ rfl⟩
  generalize hs3 : ({ s2 with heap := s2.heap.push { cls := .type "list", dict := none, data := .seq ([] : List Value).toArray }, toks := s2.toks } : Shared) = s3 at I3
  have hh3 : s3.heap = s2.heap.push { cls := .type "list", dict := none, data := .seq ([] : List Value).toArray } := by rw [← hs3]
  have e3 : ({ s2 with heap := h₁, toks := s2.toks + ([] : List (Str × Value)).length } : Shared) = { s3 with heap := h₁, toks := s3.toks } := by rw [← hs3]; rfl
  rw [e3]
  rw [← hh3] at hns₁ hsb₁ ⊢
  generalize hH3 : upd H2 s2.heap.objs.size (.lst []) = H3 at I3 w0
  generalize hDs : s2.heap.objs.size = D at *
  have f3 : ∀ b ∈ fp, FpOk X pins H3 b := fun b hb => by
    refine ⟨?_, (f2 b hb).2⟩
    rw [← hH3, upd_ne (Nat.ne_of_lt (hfl b hb))]
    exact (f2 b hb).1
  have szD : s3.heap.objs.size = D + 1 := by rw [hh3, Heap.size_push]; rw [← hDs]
  have hfl3 : ∀ b ∈ fp, b < s3.heap.objs.size := fun b hb => Nat.lt_of_lt_of_le (hfl b hb) (by rw [szD]; exact Nat.le_succ _)
  have kp : ∀ b o, s3.heap.get? b = some o → h₁.get? b = some o := fun b o e => by
    rw [hsb₁.2 b (Nat.ne_of_lt (Heap.lt_size e))]
    exact Heap.get?_push_of_some _ e
  have st3 : tn 0 h₁ := T.keep 0 _ _ st2 fun b hb o e => kp b o (by rw [hh3]; exact Heap.get?_push_of_some _ e)
  have J0 : Inv (cxComp X scope N fp s3 H3) [] (seen js σ) H3 { s3 with heap := h₁, toks := s3.toks } := comp_start I3 hk hck f3 hfl3 hns₁ kp
  have fpc : ∀ {H' : Hp}, (∀ b ∈ fp, H' b = none) → ∀ b ∈ fp, FpOk (cxComp X scope N fp s3 H3) [] H' b := fun hn b hb =>
    ⟨hn b hb, (J0.ok.exf b hb).1, J0.ok.exfs b hb, .inl hb, (J0.ok.exf b hb).2, fun p hp => by cases hp⟩
  have lp : codeAny (model X.prog X.w) X.A (.compLoop (.ListComp elt [⟨tg, iter, [tst], 0⟩] scope pos) 0 (.ref it) (.ref D) (compEnvC scope (closG X.env scope.names []) s3.heap.objs.size X.env))
      (compPost (model X.prog X.w) X.A X.xe use Qv (.ref D) s3.heap.objs.size) { s3 with heap := h₁, toks := s3.toks } := by
    refine compLoop_if (fun n s' => ∃ i σ' H', Inv (cxComp X scope N fp s3 H3) [] σ' H' s' ∧ tn i s'.heap ∧ (∀ b ∈ fp, H' b = none) ∧ W i n σ' H') ?_ m0 ⟨0, _, H3, J0, st3, fun b hb => (f3 b hb).1, w0⟩
    rintro n s4 ⟨i, σ4, H4, I4, st4, fr4, w4⟩
    rcases turn i n σ4 H4 w4 with ⟨stop, qn⟩ | ⟨go, step⟩
    · refine thn (T.done (cxComp X scope N fp s3 H3) rfl rfl rfl hc i [] s4 σ4 H4 (fun _ _ => False) I4 (fpc fr4) st4 stop) fun r s5 ⟨hr, I5⟩ => ?_
      subst hr
      have I6 : Inv X pins σ H4 s5 := I3.call' (ch := fp) I5.os I5.base I5.hok I5.bare fun b hb => ⟨(f3 b hb).2.2.2.1, (f3 b hb).2.1, (f3 b hb).2.2.2.2.1, (f3 b hb).2.2.2.2.2⟩
      have fC : FpOk X pins H4 s3.heap.objs.size := I3.fpOk (Nat.le_refl _) I5.free
      obtain ⟨m, hn, _⟩ := I5.loc
      exact hend D s3.heap.objs.size H4 s5 I6 ⟨m, hn⟩ fC qn
    · refine thn (T.item (cxComp X scope N fp s3 H3) rfl rfl rfl hc i [] s4 σ4 H4 (fun _ _ => False) I4 (fpc fr4) st4 go) fun r s5 ⟨u, hr, h5⟩ => ?_
      subst hr
      refine thn h5 fun _ s6 ⟨x, H6, I6, r6, y6, st6, fr6⟩ => ?_
      have I6' := I6.pinned (fpc fr6) (T.obj _ _ st6)
      refine thn (hg fp s3 H3 _ s6 σ4 H6 x u _ I6' r6 (step x H6 y6)) fun _ s7 ⟨σ7, H7, I7, q7⟩ => ?_
      refine thn (ht fp s3 H3 _ s7 σ7 H7 _ I7 q7) fun b s7' ⟨H7', I7', q7'⟩ => ?_
      cases b with
      | false =>
        obtain ⟨m', hm, w8⟩ := (by simpa using q7' : ∃ m', m' < n ∧ W (i + 1) m' σ7 H7')
        simp only [Bool.false_eq_true, if_false]; refine ⟨m', hm, i + 1, σ7, _, I7'.unpinned, T.keep _ _ _ st6 fun b hb o e => (I7'.pin (b, o) (List.mem_append_right _ (List.mem_append_right _ (mem_pinsAt hb e)))).1, fun b hb => ?_, w8⟩
        obtain ⟨o, e, d⟩ := T.obj _ _ st6 b hb
        exact (I7'.pin (b, o) (List.mem_append_right _ (List.mem_append_right _ (mem_pinsAt hb e)))).2.1
      | true =>
      simp only [if_true] at q7' ⊢
      refine thn (he fp s3 H3 _ s7' σ7 H7' _ I7' q7') fun u8 s8 ⟨v8, H8, I8, r8, xs, e8, l8, m', hm, w8⟩ => ?_
      refine thn (mt_append _ s8 σ7 H8 (.ref D) [v8] (.ref D) [u8] (fun _ H9 => H9 = upd H8 D (.lst (xs ++ [v8]))) I8 rfl (.cons r8 .nil) ⟨D, xs, v8, rfl, rfl, e8, l8, rfl⟩) fun _ s9 ⟨v9, H9, I9, _, e9⟩ => ?_
      subst e9
      refine ⟨m', hm, i + 1, σ7, _, I9.unpinned, T.keep _ _ _ st6 fun b hb o e => (I9.pin (b, o) (List.mem_append_right _ (List.mem_append_right _ (mem_pinsAt hb e)))).1, fun b hb => ?_, w8⟩
      obtain ⟨o, e, d⟩ := T.obj _ _ st6 b hb
      exact (I9.pin (b, o) (List.mem_append_right _ (List.mem_append_right _ (mem_pinsAt hb e)))).2.1
  exact codeAny_compStart_list lp (T.self _ 0 _ _ _ st3 lp)
theorem pe_compIf {wi : TI} {g : TG} {tt : TT} {te : TE} (N : List Str) (js : List (Option Nat)) (hc : X.calm = true) (hi : PI X tg iter wi)
    (hg : ∀ fp s H, PG (cxComp X scope N fp s H) tg g) (ht : ∀ fp s H, PT (cxComp X scope N fp s H) tst tt) (he : ∀ fp s H, PE (cxComp X scope N fp s H) elt te) (hk : scope.kind = .function := by rfl) (hck : compChk X scope N js = true := by rfl)
    (hs : ∀ x, foldedSetIterable iter X.env x = pure x := by intro _; rfl) : PE X (.ListComp elt [⟨tg, iter, [tst], 0⟩] scope pos) (tCompIf js wi g tt te) := by
  intro pins s σ H Q I h
  rw [eval_ListComp]
  refine compIf_core (use := none) hc hi hk hck hg ht he hs I h fun D C H' s' I' hC fC q => ?_
  obtain ⟨m, hn⟩ := hC
  refine ⟨m, hn, fun h' sb => ?_⟩
  obtain ⟨f0, f1, f2, f3, f4, f5⟩ := fC
  exact ⟨.ref D, H', I'.turned (t' := s'.toks) (fun b o hb e => (sb.2 b hb).trans e) f0 f1 f3 f4 f5, rfl, q⟩
end
end L2
set_option maxRecDepth 100000
set_option maxHeartbeats 1600000
namespace L2
open PySem PySem.Spec PyProof.Rows LS
def tNo : TE := fun _ _ _ => False
section
variable {X : Cx}
theorem pe_no {e : Expr} : PE X e tNo := fun _ _ _ _ _ _ h => h.elim
theorem call_dictE : CallR X (.type "dict") (fun xs H Q => ∃ d, xs = [V.ref d] ∧ H d = some (.dT []) ∧ ∀ p, H p = none → Q (.ref p) (upd H p (.dT []))) := by
  intro pins s σ H xs us Q I r h
  obtain ⟨d, rfl, hd, q⟩ := h
  obtain ⟨u, rfl, rx⟩ := vals1 r
  cases rx
  obtain ⟨z1, z2, ys, rel, o, es, ep, h1, h2, h3, h4, h5⟩ := (show ObjOk X.prog X.w H s.heap d (.dT []) from I.hok d _ hd)
  cases rel
  have he : es = #[] := by cases es; simpa using h4
  subst he
  have dd : s.heap.DictOf (mixKind X.prog X.w) d [] := ⟨o, #[], ep, h1, h2, h3, fun e hm => by simp at hm, .nil, List.nodup_nil⟩
  refine kt_call_dict z2 dd (Nat.zero_le _) fun h' dd' hs => ?_
  obtain ⟨o', es', ep', g1, g2, g3, g4, g5, g6⟩ := dd'
  have he' : es' = #[] := by
    have := g5.length
    cases es'
    simpa using this
  subst he'
  refine ⟨.ref s.heap.objs.size, _, I.laid (o := .dT []) (t' := s.toks) (fun b q hq => ?_) (Nat.le_refl _) ⟨Nat.zero_le _, beq_eq_false_iff_ne.mpr (Ne.symm (Nat.ne_of_lt I.big)), [], .nil, o', #[], ep', g1, g2, g3, rfl, List.nodup_nil⟩, rfl, q _ (I.hok.fresh (Nat.le_refl _))⟩
  exact (hs.2 b (Nat.ne_of_lt (Heap.lt_size hq))).trans (Heap.get?_push_of_some _ hq)
end
end L2
set_option maxRecDepth 100000
set_option maxHeartbeats 1600000
namespace LS
open PySem PySem.Spec PyProof.Rows L2
def two : Option (Int × Tok) → Array Value
  | none => #[]
  | some (m, t) => #[.int m t, .int m t]
def Best (r : Int → Int → Prop) : Option Int → List Int → Prop
  | none, l => l = []
  | some m, l => m ∈ l ∧ ∀ a ∈ l, r m a
section
variable {prog : Program} {w : World} {A : Around} {E : Value → Shared → Prop} {s : Shared} {R : Result → Shared → Prop}
theorem min_go {I p S : Addr} {its : List Value} {ns : List Int} {d : Value} (hv : Vals (ns.map V.int) its) (hh : A.handled = none) (hIp : p ≠ I) (hSI : S ≠ I) (hSp : S ≠ p) :
    ∀ (k i : Nat) (s : Shared) (c : Nat) (best : Option (Int × Tok)), ns.length - i = k → i ≤ ns.length → s.heap.IsListIter I p i ∧ s.heap.IsList p its.toArray → s.heap.get? S = some { cls := .type "list", dict := none, data := .seq (two best) c, slots := #[] } → Best (fun a b => a ≤ b) (best.map (·.1)) (ns.take i) →
      (∀ v h' tk, (ns = [] → v = d) → (ns ≠ [] → ∃ m t, v = .int m t ∧ m ∈ ns ∧ ∀ a ∈ ns, m ≤ a) → (∀ b o, b ≠ S → b ≠ I → s.heap.get? b = some o → h'.get? b = some o) → R (.ok (.ret v)) { s with heap := h', toks := tk }) →
      codeAny (model prog w) A (.builtin "min.loop" ⟨[.ref I, .none, .ref S], [(Str.ofString "default", d)]⟩) R s := by
  have W := Walks.list (prog := prog) (w := w) (A := A.in1) hh I p hIp its.toArray
  have hn : its.toArray.size = ns.length := by rw [List.size_toArray, ← hv.length, List.length_map]
  have hname : (toString "min" ++ toString ".loop" : String) = "min.loop" := (by decide); intro k
  induction k with
  | zero =>
    intro i s c best hk hil hst hS hB hR
    have hin : i = ns.length := (by omega); refine codeAny_builtin F.entry_min_loop ?_
    rw [Around.under_plainId F.plain_min_loop _]; show wpAny _ A.in1 (seqItems? (.ref S) >>= _) _ _ s
    refine wpAny_bind (wpAny_seqItems hS rfl ?_); show wpAny _ A.in1 (tryCatch (pyNext (.ref I)) _ >>= _) _ _ s
    refine wpAny_bind (wpAny_tryCatch (W.done s _ _ (by rw [hn, ← hin]; exact hst) fun h' tk hk' => ?_))
    have hS' := hk' S _ (by simpa using hSI) hS
    rw [hin, List.take_length] at hB
    cases best with
    | none =>
      have e : ns = [] := hB
      show wpAny _ A.in1 (rule _ >>= _) _ _ _
      refine wpAny_bind (wpAny_rule (wpAny_pure (hR d h' tk (fun _ => rfl) (fun z => absurd e z) fun b o _ hb x => hk' b o (by simpa using hb) x)))
    | some mt =>
      obtain ⟨m, t⟩ := mt
      obtain ⟨b1, b2⟩ := (show m ∈ ns ∧ ∀ a ∈ ns, m ≤ a from hB)
      show wpAny _ A.in1 (updateSeq S (fun _ => #[]) >>= _) _ _ _; have hS2 : h'.get? S = some { cls := .type "list", dict := none, data := .seq #[.int m t, .int m t] c, slots := #[] } := hS'
      refine wpAny_bind (wpAny_updateSeq hS2 rfl (wpAny_bind (wpAny_letGo (wpAny_pure ?_))))
      exact hR _ _ tk (fun z => by rw [z] at b1; simp at b1) (fun _ => ⟨m, t, rfl, b1, b2⟩) fun b o hbS hb x => (Heap.get?_update_other _ _ (Ne.symm hbS)).trans (hk' b o (by simpa using hb) x)
  | succ k ih =>
    intro i s c best hk hil hst hS hB hR
    have hlt : i < ns.length := (by omega); refine codeAny_builtin F.entry_min_loop ?_
    rw [Around.under_plainId F.plain_min_loop _]; show wpAny _ A.in1 (seqItems? (.ref S) >>= _) _ _ s
    refine wpAny_bind (wpAny_seqItems hS rfl ?_); show wpAny _ A.in1 (tryCatch (pyNext (.ref I)) _ >>= _) _ _ s
    refine wpAny_bind (wpAny_tryCatch (W.item i s _ _ (by omega) hst fun v h' tk hP hst' hk' => ?_))
    have hS' := hk' S _ (by simpa using hSI) hS
    have hP' : its[i]? = some v := by simpa using hP
    obtain ⟨x, hx1, hx2⟩ := vals_at hv hP'
    obtain ⟨n, hn1, hn2⟩ : ∃ n, ns[i]? = some n ∧ x = V.int n := by
      rw [List.getElem?_map, List.getElem?_eq_getElem hlt] at hx1
      exact ⟨ns[i], List.getElem?_eq_getElem hlt, (Option.some.inj hx1).symm⟩
    subst hn2
    obtain ⟨t, rfl⟩ := (show ∃ t, v = Value.int n t from hx2)
    have tk1 : ns.take (i + 1) = ns.take i ++ [n] := by rw [List.take_add_one, hn1]; rfl
    have put : ∀ c' : Nat, (h'.update S (Obj.mapSeq fun _ => #[.int n t, .int n t])).IsListIter I p (i + 1) ∧ (h'.update S (Obj.mapSeq fun _ => #[.int n t, .int n t])).IsList p its.toArray := fun _ => by
      refine W.frame (i + 1) h' _ hst' fun b hb o e => (Heap.get?_update_other _ _ fun z : S = b => ?_).trans e
      rcases List.mem_cons.mp hb with q | q
      · exact hSI (z.trans q)
      · exact hSp (z.trans (by simpa using q))
    cases best with
    | none =>
      show wpAny _ A.in1 (updateSeq S (fun _ => #[Value.int n t, Value.int n t]) >>= _) _ _ _
      refine wpAny_bind (wpAny_updateSeq hS' rfl ?_); rw [hname]
      have e : ns.take i = [] := hB
      refine wpAny_pure ⟨plainId_quiet F.plain_min_loop _, ih (i + 1) _ _ (some (n, t)) (by omega) hlt (put 0) (Heap.get?_update_self _ hS' rfl) ?_ fun v' h2 tk2 g1 g2 g3 => hR v' h2 tk2 g1 g2 fun b o hbS hb x => g3 b o hbS hb ((Heap.get?_update_other _ _ (Ne.symm hbS)).trans (hk' b o (by simpa using hb) x))⟩
      rw [tk1, e]
      show n ∈ ([] ++ [n] : List Int) ∧ ∀ a ∈ ([] ++ [n] : List Int), n ≤ a
      exact ⟨by simp, fun a ha => by simp at ha; omega⟩
    | some mt =>
      obtain ⟨m, u⟩ := mt
      obtain ⟨b1, b2⟩ := (show m ∈ ns.take i ∧ ∀ a ∈ ns.take i, m ≤ a from hB)
      have cmp := CmpOf.ints_lt (prog := prog) (w := w) (A := A.in1) (P := fun j v => ∃ t, v = Value.int (if j = 0 then n else m) t) (fun j => if j = 0 then n else m) (fun _ _ z => z)
      show wpAny _ A.in1 (tryCatch (holding [Value.int n t, Value.int n t] (richCompare .Lt (.int n t) (.int m u) >>= _)) _ >>= _) _ _ _
      refine wpAny_bind (wpAny_tryCatch (wpAny_holding (wpAny_bind (cmp 0 1 (.int n t) (.int m u) _ _ _ ⟨t, rfl⟩ ⟨u, rfl⟩ (wpAny_bind (wpAny_holding (wpAny_truthy_bool (wpAny_bind (wpAny_letGo (wpAny_pure ?_)))))))))) 
      have hS2 : h'.get? S = some { cls := .type "list", dict := none, data := .seq #[.int m u, .int m u] c, slots := #[] } := hS'
      change wpAny _ _ (if decide (n < m) = true then _ else _) _ _ _
      by_cases hb : n < m
      · rw [decide_eq_true hb, if_pos rfl]
        refine wpAny_bind (wpAny_updateSeq hS2 rfl (wpAny_bind (wpAny_letGo ?_)))
        rw [hname]
        refine wpAny_pure ⟨plainId_quiet F.plain_min_loop _, ih (i + 1) _ _ (some (n, t)) (by omega) hlt (put 0) (Heap.get?_update_self _ hS' rfl) ?_ fun v' h2 tk2 g1 g2 g3 => hR v' h2 tk2 g1 g2 fun b o hbS hb x => g3 b o hbS hb ((Heap.get?_update_other _ _ (Ne.symm hbS)).trans (hk' b o (by simpa using hb) x))⟩
        rw [tk1]; show n ∈ ns.take i ++ [n] ∧ ∀ a ∈ ns.take i ++ [n], n ≤ a
        refine ⟨by simp, fun a ha => ?_⟩
        rcases List.mem_append.mp ha with q | q
        · have := b2 a q; omega
        · simp at q; omega
      · rw [decide_eq_false hb, if_neg Bool.false_ne_true]
        refine wpAny_bind (wpAny_letGo ?_); rw [hname]
        refine wpAny_pure ⟨plainId_quiet F.plain_min_loop _, ih (i + 1) _ c (some (m, u)) (by omega) hlt hst' hS' ?_ fun v' h2 tk2 g1 g2 g3 => hR v' h2 tk2 g1 g2 fun b o hbS hb x => g3 b o hbS hb (hk' b o (by simpa using hb) x)⟩
        rw [tk1]; show m ∈ ns.take i ++ [n] ∧ ∀ a ∈ ns.take i ++ [n], m ≤ a
        refine ⟨List.mem_append_left _ b1, fun a ha => ?_⟩
        rcases List.mem_append.mp ha with q | q
        · exact b2 a q
        · simp at q; omega
theorem args_minD (a v : Value) : argsOk "min" ⟨[a], [(Str.ofString "default", v)]⟩ := by unfold argsOk; kernel_rfl
theorem min_def {p : Addr} {its : List Value} {ns : List Int} {d : Value} {Q : Value → Shared → Prop} (hv : Vals (ns.map V.int) its) (hh : A.handled = none) (hp : s.heap.IsList p its.toArray)
    (h : ∀ v h' tk, (ns = [] → v = d) → (ns ≠ [] → ∃ m t, v = .int m t ∧ m ∈ ns ∧ ∀ a ∈ ns, m ≤ a) → (∀ b o, s.heap.get? b = some o → h'.get? b = some o) → Q v { s with heap := h', toks := tk }) :
    wpAny (model prog w) A (call (.builtin "min") [.ref p] [(Str.ofString "default", d)]) Q E s := by
  have hname : (toString "min" ++ toString ".loop" : String) = "min.loop" := (by decide); obtain ⟨op, hop, hrest⟩ := id hp
  have hpl := Heap.lt_size hop
  refine kmk_tree F.kind_min F.plain_min F.entry_min (args_minD _ _) ?_
  show wpAny _ A.in1 (Builtin.Builtins.bindParams "min" ["key", "default"] 0 ⟨[], [(Str.ofString "default", d)]⟩ >>= _) _ _ s
  refine wpAny_bind (wpAny_of_eq (show Builtin.Builtins.bindParams "min" ["key", "default"] 0 ⟨[], [(Str.ofString "default", d)]⟩ = pure [none, some d] from rfl) (wpAny_bind (wpAny_pure (wpAny_bind (wpAny_pyIter_list hp (wpAny_bind (wpAny_newList ?_ (Nat.zero_le _))))))))
  rw [hname]
  generalize hoi : ({ cls := Value.type "list_iterator", data := Data.fields #[Value.ref p, Value.int 0 0] } : Obj) = oI
  have k1 : ∀ b o, s.heap.get? b = some o → ((s.heap.push oI).push (seqObj "list" #[] 0)).get? b = some o := fun b o e => Heap.get?_push_of_some _ (Heap.get?_push_of_some _ e)
  have z1 : (s.heap.push oI).objs.size = s.heap.objs.size + 1 := Heap.size_push ..
  have z2 : s.heap.objs.size < (s.heap.push oI).objs.size := by rw [z1]; exact Nat.lt_succ_self _
  refine wpAny_pure ⟨plainId_quiet F.plain_min_loop _, min_go hv hh (I := s.heap.objs.size) (S := (s.heap.push oI).objs.size) (Nat.ne_of_lt hpl) (Nat.ne_of_gt z2) (Nat.ne_of_gt (Nat.lt_trans hpl z2)) ns.length 0 _ 0 none (by omega) (Nat.zero_le _) ⟨⟨oI, Heap.get?_push_of_some _ (Heap.get?_push_size _ (by rw [← hoi]; rfl)), by rw [← hoi], by rw [← hoi]; rfl⟩, ⟨op, k1 _ _ hop, hrest⟩⟩ (Heap.get?_push_size _ rfl) rfl fun v h' tk g1 g2 g3 => ?_⟩
  exact h v h' tk g1 g2 fun b o e => g3 b o (Nat.ne_of_lt (Nat.lt_trans (Heap.lt_size e) z2)) (Nat.ne_of_lt (Heap.lt_size e)) (k1 b o e)
theorem max_go {I p S : Addr} {its : List Value} {ns : List Int} {d : Value} (hv : Vals (ns.map V.int) its) (hh : A.handled = none) (hIp : p ≠ I) (hSI : S ≠ I) (hSp : S ≠ p) :
    ∀ (k i : Nat) (s : Shared) (c : Nat) (best : Option (Int × Tok)), ns.length - i = k → i ≤ ns.length → s.heap.IsListIter I p i ∧ s.heap.IsList p its.toArray → s.heap.get? S = some { cls := .type "list", dict := none, data := .seq (two best) c, slots := #[] } → Best (fun a b => a ≥ b) (best.map (·.1)) (ns.take i) →
      (∀ v h' tk, (ns = [] → v = d) → (ns ≠ [] → ∃ m t, v = .int m t ∧ m ∈ ns ∧ ∀ a ∈ ns, m ≥ a) → (∀ b o, b ≠ S → b ≠ I → s.heap.get? b = some o → h'.get? b = some o) → R (.ok (.ret v)) { s with heap := h', toks := tk }) →
      codeAny (model prog w) A (.builtin "max.loop" ⟨[.ref I, .none, .ref S], [(Str.ofString "default", d)]⟩) R s := by
  have W := Walks.list (prog := prog) (w := w) (A := A.in1) hh I p hIp its.toArray
  have hn : its.toArray.size = ns.length := by rw [List.size_toArray, ← hv.length, List.length_map]
  have hname : (toString "max" ++ toString ".loop" : String) = "max.loop" := (by decide); intro k
  induction k with
  | zero =>
    intro i s c best hk hil hst hS hB hR
    have hin : i = ns.length := (by omega); refine codeAny_builtin F.entry_max_loop ?_
    rw [Around.under_plainId F.plain_max_loop _]; show wpAny _ A.in1 (seqItems? (.ref S) >>= _) _ _ s
    refine wpAny_bind (wpAny_seqItems hS rfl ?_); show wpAny _ A.in1 (tryCatch (pyNext (.ref I)) _ >>= _) _ _ s
    refine wpAny_bind (wpAny_tryCatch (W.done s _ _ (by rw [hn, ← hin]; exact hst) fun h' tk hk' => ?_))
    have hS' := hk' S _ (by simpa using hSI) hS
    rw [hin, List.take_length] at hB
    cases best with
    | none =>
      have e : ns = [] := hB
      show wpAny _ A.in1 (rule _ >>= _) _ _ _
      refine wpAny_bind (wpAny_rule (wpAny_pure (hR d h' tk (fun _ => rfl) (fun z => absurd e z) fun b o _ hb x => hk' b o (by simpa using hb) x)))
    | some mt =>
      obtain ⟨m, t⟩ := mt
      obtain ⟨b1, b2⟩ := (show m ∈ ns ∧ ∀ a ∈ ns, m ≥ a from hB)
      show wpAny _ A.in1 (updateSeq S (fun _ => #[]) >>= _) _ _ _; have hS2 : h'.get? S = some { cls := .type "list", dict := none, data := .seq #[.int m t, .int m t] c, slots := #[] } := hS'
      refine wpAny_bind (wpAny_updateSeq hS2 rfl (wpAny_bind (wpAny_letGo (wpAny_pure ?_))))
      exact hR _ _ tk (fun z => by rw [z] at b1; simp at b1) (fun _ => ⟨m, t, rfl, b1, b2⟩) fun b o hbS hb x => (Heap.get?_update_other _ _ (Ne.symm hbS)).trans (hk' b o (by simpa using hb) x)
  | succ k ih =>
    intro i s c best hk hil hst hS hB hR
    have hlt : i < ns.length := (by omega); refine codeAny_builtin F.entry_max_loop ?_
    rw [Around.under_plainId F.plain_max_loop _]; show wpAny _ A.in1 (seqItems? (.ref S) >>= _) _ _ s
    refine wpAny_bind (wpAny_seqItems hS rfl ?_); show wpAny _ A.in1 (tryCatch (pyNext (.ref I)) _ >>= _) _ _ s
    refine wpAny_bind (wpAny_tryCatch (W.item i s _ _ (by omega) hst fun v h' tk hP hst' hk' => ?_))
    have hS' := hk' S _ (by simpa using hSI) hS
    have hP' : its[i]? = some v := by simpa using hP
    obtain ⟨x, hx1, hx2⟩ := vals_at hv hP'
    obtain ⟨n, hn1, hn2⟩ : ∃ n, ns[i]? = some n ∧ x = V.int n := by
      rw [List.getElem?_map, List.getElem?_eq_getElem hlt] at hx1
      exact ⟨ns[i], List.getElem?_eq_getElem hlt, (Option.some.inj hx1).symm⟩
    subst hn2
    obtain ⟨t, rfl⟩ := (show ∃ t, v = Value.int n t from hx2)
    have tk1 : ns.take (i + 1) = ns.take i ++ [n] := by rw [List.take_add_one, hn1]; rfl
    have put : ∀ c' : Nat, (h'.update S (Obj.mapSeq fun _ => #[.int n t, .int n t])).IsListIter I p (i + 1) ∧ (h'.update S (Obj.mapSeq fun _ => #[.int n t, .int n t])).IsList p its.toArray := fun _ => by
      refine W.frame (i + 1) h' _ hst' fun b hb o e => (Heap.get?_update_other _ _ fun z : S = b => ?_).trans e
      rcases List.mem_cons.mp hb with q | q
      · exact hSI (z.trans q)
      · exact hSp (z.trans (by simpa using q))
    cases best with
    | none =>
      show wpAny _ A.in1 (updateSeq S (fun _ => #[Value.int n t, Value.int n t]) >>= _) _ _ _
      refine wpAny_bind (wpAny_updateSeq hS' rfl ?_); rw [hname]
      have e : ns.take i = [] := hB
      refine wpAny_pure ⟨plainId_quiet F.plain_max_loop _, ih (i + 1) _ _ (some (n, t)) (by omega) hlt (put 0) (Heap.get?_update_self _ hS' rfl) ?_ fun v' h2 tk2 g1 g2 g3 => hR v' h2 tk2 g1 g2 fun b o hbS hb x => g3 b o hbS hb ((Heap.get?_update_other _ _ (Ne.symm hbS)).trans (hk' b o (by simpa using hb) x))⟩
      rw [tk1, e]
      show n ∈ ([] ++ [n] : List Int) ∧ ∀ a ∈ ([] ++ [n] : List Int), n ≥ a
      exact ⟨by simp, fun a ha => by simp at ha; omega⟩
    | some mt =>
      obtain ⟨m, u⟩ := mt
      obtain ⟨b1, b2⟩ := (show m ∈ ns.take i ∧ ∀ a ∈ ns.take i, m ≥ a from hB)
      have cmp := CmpOf.ints_gt (prog := prog) (w := w) (A := A.in1) (P := fun j v => ∃ t, v = Value.int (if j = 0 then n else m) t) (fun j => if j = 0 then n else m) (fun _ _ z => z)
      show wpAny _ A.in1 (tryCatch (holding [Value.int n t, Value.int n t] (richCompare .Gt (.int n t) (.int m u) >>= _)) _ >>= _) _ _ _
      refine wpAny_bind (wpAny_tryCatch (wpAny_holding (wpAny_bind (cmp 0 1 (.int n t) (.int m u) _ _ _ ⟨t, rfl⟩ ⟨u, rfl⟩ (wpAny_bind (wpAny_holding (wpAny_truthy_bool (wpAny_bind (wpAny_letGo (wpAny_pure ?_)))))))))) 
      have hS2 : h'.get? S = some { cls := .type "list", dict := none, data := .seq #[.int m u, .int m u] c, slots := #[] } := hS'
      change wpAny _ _ (if decide (n > m) = true then _ else _) _ _ _
      by_cases hb : n > m
      · rw [decide_eq_true hb, if_pos rfl]
        refine wpAny_bind (wpAny_updateSeq hS2 rfl (wpAny_bind (wpAny_letGo ?_)))
        rw [hname]
        refine wpAny_pure ⟨plainId_quiet F.plain_max_loop _, ih (i + 1) _ _ (some (n, t)) (by omega) hlt (put 0) (Heap.get?_update_self _ hS' rfl) ?_ fun v' h2 tk2 g1 g2 g3 => hR v' h2 tk2 g1 g2 fun b o hbS hb x => g3 b o hbS hb ((Heap.get?_update_other _ _ (Ne.symm hbS)).trans (hk' b o (by simpa using hb) x))⟩
        rw [tk1]; show n ∈ ns.take i ++ [n] ∧ ∀ a ∈ ns.take i ++ [n], n ≥ a
        refine ⟨by simp, fun a ha => ?_⟩
        rcases List.mem_append.mp ha with q | q
        · have := b2 a q; omega
        · simp at q; omega
      · rw [decide_eq_false hb, if_neg Bool.false_ne_true]
        refine wpAny_bind (wpAny_letGo ?_); rw [hname]
        refine wpAny_pure ⟨plainId_quiet F.plain_max_loop _, ih (i + 1) _ c (some (m, u)) (by omega) hlt hst' hS' ?_ fun v' h2 tk2 g1 g2 g3 => hR v' h2 tk2 g1 g2 fun b o hbS hb x => g3 b o hbS hb (hk' b o (by simpa using hb) x)⟩
        rw [tk1]; show m ∈ ns.take i ++ [n] ∧ ∀ a ∈ ns.take i ++ [n], m ≥ a
        refine ⟨List.mem_append_left _ b1, fun a ha => ?_⟩
        rcases List.mem_append.mp ha with q | q
        · exact b2 a q
        · simp at q; omega
theorem args_maxD (a v : Value) : argsOk "max" ⟨[a], [(Str.ofString "default", v)]⟩ := by unfold argsOk; kernel_rfl
theorem max_def {p : Addr} {its : List Value} {ns : List Int} {d : Value} {Q : Value → Shared → Prop} (hv : Vals (ns.map V.int) its) (hh : A.handled = none) (hp : s.heap.IsList p its.toArray)
    (h : ∀ v h' tk, (ns = [] → v = d) → (ns ≠ [] → ∃ m t, v = .int m t ∧ m ∈ ns ∧ ∀ a ∈ ns, m ≥ a) → (∀ b o, s.heap.get? b = some o → h'.get? b = some o) → Q v { s with heap := h', toks := tk }) :
    wpAny (model prog w) A (call (.builtin "max") [.ref p] [(Str.ofString "default", d)]) Q E s := by
  have hname : (toString "max" ++ toString ".loop" : String) = "max.loop" := (by decide); obtain ⟨op, hop, hrest⟩ := id hp
  have hpl := Heap.lt_size hop
  refine kmk_tree F.kind_max F.plain_max F.entry_max (args_maxD _ _) ?_
  show wpAny _ A.in1 (Builtin.Builtins.bindParams "max" ["key", "default"] 0 ⟨[], [(Str.ofString "default", d)]⟩ >>= _) _ _ s
  refine wpAny_bind (wpAny_of_eq (show Builtin.Builtins.bindParams "max" ["key", "default"] 0 ⟨[], [(Str.ofString "default", d)]⟩ = pure [none, some d] from rfl) (wpAny_bind (wpAny_pure (wpAny_bind (wpAny_pyIter_list hp (wpAny_bind (wpAny_newList ?_ (Nat.zero_le _))))))))
  rw [hname]
  generalize hoi : ({ cls := Value.type "list_iterator", data := Data.fields #[Value.ref p, Value.int 0 0] } : Obj) = oI
  have k1 : ∀ b o, s.heap.get? b = some o → ((s.heap.push oI).push (seqObj "list" #[] 0)).get? b = some o := fun b o e => Heap.get?_push_of_some _ (Heap.get?_push_of_some _ e)
  have z1 : (s.heap.push oI).objs.size = s.heap.objs.size + 1 := Heap.size_push ..
  have z2 : s.heap.objs.size < (s.heap.push oI).objs.size := by rw [z1]; exact Nat.lt_succ_self _
  refine wpAny_pure ⟨plainId_quiet F.plain_max_loop _, max_go hv hh (I := s.heap.objs.size) (S := (s.heap.push oI).objs.size) (Nat.ne_of_lt hpl) (Nat.ne_of_gt z2) (Nat.ne_of_gt (Nat.lt_trans hpl z2)) ns.length 0 _ 0 none (by omega) (Nat.zero_le _) ⟨⟨oI, Heap.get?_push_of_some _ (Heap.get?_push_size _ (by rw [← hoi]; rfl)), by rw [← hoi], by rw [← hoi]; rfl⟩, ⟨op, k1 _ _ hop, hrest⟩⟩ (Heap.get?_push_size _ rfl) rfl fun v h' tk g1 g2 g3 => ?_⟩
  exact h v h' tk g1 g2 fun b o e => g3 b o (Nat.ne_of_lt (Nat.lt_trans (Heap.lt_size e) z2)) (Nat.ne_of_lt (Heap.lt_size e)) (k1 b o e)
end
end LS
set_option maxRecDepth 100000
set_option maxHeartbeats 1600000
namespace L2
open PySem PySem.Spec PyProof.Rows LS
def CallKR (X : Cx) (f : Value) (ks : List Str) (r : List V → List V → Hp → VK → Prop) : Prop :=
  ∀ (pins : List (Addr × Obj)) (s : Shared) (σ : St) (H : Hp) (xs zs : List V) (us ws : List Value) (Q : VK), Inv X pins σ H s → Vals xs us → Vals zs ws → r xs zs H Q → wpAny (model X.prog X.w) X.A (call f us (ks.zip ws)) (EP X pins σ Q) X.xe s
def tCBK (r : List V → List V → Hp → VK → Prop) (t tk : TA) : TE := fun σ H Q => t σ H fun vs H1 => tk σ H1 fun zs H2 => r vs zs H2 Q
section
variable {X : Cx}
theorem pe_callBK {id : String} {ks : List Str} {r : List V → List V → Hp → VK → Prop} {x : Str} {p pos : Pos} {e : Expr} {es : List Expr} {kws : List Keyword} {t tk : TA} (hc : CallKR X (.builtin id) ks r) (hg : Gl X x) (hm : X.mg x = none) (hv : bootBuiltins x = some (.builtin id)) (ha : PA X (e :: es) t) (hk : PK X kws tk)
    (hn : x ≠ "__name__" := by decide) (hdb : (x == ("__debug__" : Str)) = false := by decide) (hks : (backToKw pos (keywordEach kws X.env)).filterMap (·.1) = ks := by rfl)
    (he : backTo pos (starEach (e :: es) X.env) = (false, eval e X.env) :: backTo pos (starEach es X.env) := by rfl) (hplain : (backTo pos (starEach (e :: es) X.env)).any (·.1) = false := by rfl)
    (hall : (backToKw pos (keywordEach kws X.env)).all (·.1.isSome) = true := by rfl) (hkw : (backToKw pos (keywordEach kws X.env)).any (·.1.isNone) = false := by rfl) : PE X (.Call (.Name x p) (e :: es) kws pos) (tCBK r t tk) := by
  intro pins s σ H Q I h
  refine wpAny_Call_Name_kw (ld_blt I hg hm hv ?_ hn hdb)
  refine PyProof.Rows.callWith_kw (thn (ha pos pins s σ H _ I h) fun us s1 ⟨vs, H1, I1, r1, q1⟩ => thn (hk pos pins s1 σ H1 _ I1 q1) fun ws s2 ⟨zs, H2, I2, r2, q2⟩ => ?_) he hplain hall hkw
  rw [hks]
  exact hc pins s2 σ H2 vs zs us ws Q I2 r1 r2 q2
theorem call_minD (K : PySem.W.Frag) (hc : X.calm = true) (hK : X.K = K := by rfl) : CallKR X (.builtin "min") ["default"] (fun xs zs H Q => ∃ (p : Addr) (ns : List Int) (d : Int), xs = [.ref p] ∧ zs = [.int d] ∧ SqL K H p (ns.map V.int) ∧ ∀ m, (ns = [] → m = d) → (ns ≠ [] → m ∈ ns ∧ ∀ a ∈ ns, m ≤ a) → Q (.int m) H) := by
  subst hK
  intro pins s σ H xs zs us ws Q I r rz h
  obtain ⟨p, ns, d, rfl, rfl, hq, q⟩ := h
  obtain ⟨u, rfl, rfl⟩ := vals1 r
  obtain ⟨w', rfl, rw'⟩ := vals1 rz
  obtain ⟨t, rfl⟩ := (show ∃ t, w' = Value.int d t from rw')
  obtain ⟨its, rv, pl, hz⟩ := I.list hq
  refine min_def (d := .int d t) rv (I.ok.hd hc) pl.isList fun v h' tk g1 g2 g3 => ?_
  by_cases e : ns = []
  · rw [g1 e]
    exact ⟨.int d, H, I.kept (t' := tk) g3, ⟨t, rfl⟩, q d (fun _ => rfl) (fun z => absurd e z)⟩
  · obtain ⟨m, t2, e1, e2, e3⟩ := g2 e
    rw [e1]
    exact ⟨.int m, H, I.kept (t' := tk) g3, ⟨t2, rfl⟩, q m (fun z => absurd z e) fun _ => ⟨e2, e3⟩⟩
theorem call_maxD (K : PySem.W.Frag) (hc : X.calm = true) (hK : X.K = K := by rfl) : CallKR X (.builtin "max") ["default"] (fun xs zs H Q => ∃ (p : Addr) (ns : List Int) (d : Int), xs = [.ref p] ∧ zs = [.int d] ∧ SqL K H p (ns.map V.int) ∧ ∀ m, (ns = [] → m = d) → (ns ≠ [] → m ∈ ns ∧ ∀ a ∈ ns, m ≥ a) → Q (.int m) H) := by
  subst hK
  intro pins s σ H xs zs us ws Q I r rz h
  obtain ⟨p, ns, d, rfl, rfl, hq, q⟩ := h
  obtain ⟨u, rfl, rfl⟩ := vals1 r
  obtain ⟨w', rfl, rw'⟩ := vals1 rz
  obtain ⟨t, rfl⟩ := (show ∃ t, w' = Value.int d t from rw')
  obtain ⟨its, rv, pl, hz⟩ := I.list hq
  refine max_def (d := .int d t) rv (I.ok.hd hc) pl.isList fun v h' tk g1 g2 g3 => ?_
  by_cases e : ns = []
  · rw [g1 e]
    exact ⟨.int d, H, I.kept (t' := tk) g3, ⟨t, rfl⟩, q d (fun _ => rfl) (fun z => absurd e z)⟩
  · obtain ⟨m, t2, e1, e2, e3⟩ := g2 e
    rw [e1]
    exact ⟨.int m, H, I.kept (t' := tk) g3, ⟨t2, rfl⟩, q m (fun z => absurd z e) fun _ => ⟨e2, e3⟩⟩
end
theorem call_isiC {X : Cx} (K : PySem.W.Frag) (hK : X.K = K := by rfl) : CallR X (.builtin "isinstance") (fun xs H Q => ∃ x C t b, xs = [x, .ref C] ∧ TyOf K H x t ∧ PySem.W.kitOne K t (.ref C) = some b ∧ Q (.bl b) H) := by
  subst hK
  intro pins s σ H xs us Q I r h
  obtain ⟨x, C, t, b, rfl, ht, hb, q⟩ := h
  obtain ⟨u, w', rfl, r1, r2⟩ := vals2 r
  cases r2
  exact isinst_ok I r1 ht hb fun tk => ⟨.bl b, H, I.tok tk, rfl, q⟩
theorem compIf_pr {α : Type} {K : PySem.W.Frag} {a D : Addr} {xs : List V} {us : List α} {g : TG} {tt : TT} {te : TE} {σ0 : St} {H1 : Hp} {Q : Hp → Prop} (p : α → Bool) (f : α → V) (ok : St → Prop)
    (sq : SqL K H1 a xs) (hD : H1 D = none) (hz : xs.length ≤ 1000) (hlen : us.length = xs.length) (h0 : ok σ0)
    (hs : ∀ (i : Nat) x u σ' H (N : St → Bool → V → Hp → Prop), xs[i]? = some x → us[i]? = some u → ok σ' → Same H1 H → (∀ σ3 H4, Same H H4 → ok σ3 → N σ3 (p u) (f u) H4) → g x σ' H fun σ3 H3 => tt σ3 H3 fun b H4 => if b = true then te σ3 H4 fun v H5 => N σ3 true v H5 else N σ3 false (f u) H4)
    (hd : ∀ H', Same H1 H' → H' D = some (.lst ((us.filter p).map f)) → Q H') :
    ∃ W : Nat → Nat → St → Hp → Prop, (∃ m, W 0 m σ0 (upd H1 D (.lst []))) ∧
      ∀ i m σ' H', W i m σ' H' → ((Itl K a).stop i H' ∧ Q H') ∨ ((Itl K a).go i H' ∧ ∀ x H2, (Itl K a).yld i H' x H2 → g x σ' H2 fun σ3 H3 => tt σ3 H3 fun b H4 => if b = true then te σ3 H4 fun v H5 => ∃ xs, H5 D = some (.lst xs) ∧ xs.length < sizeLine ∧ ∃ m', m' < m ∧ W (i + 1) m' σ3 (upd H5 D (.lst (xs ++ [v]))) else ∃ m', m' < m ∧ W (i + 1) m' σ3 H4) := by
  refine ⟨fun i m σ' H' => m = xs.length - i ∧ i ≤ xs.length ∧ ok σ' ∧ Same H1 H' ∧ H' D = some (.lst (((us.take i).filter p).map f)), ⟨xs.length, by simp, Nat.zero_le _, h0, Same.new hD, by rw [List.take_zero]; exact upd_same⟩, ?_⟩
  rintro i m σ' H' ⟨rfl, hi, hok, hsm, hy⟩
  have sq' := hsm.seq sq
  by_cases hlt : i < xs.length
  · refine .inr ⟨⟨xs, xs[i], sq', by simp [hlt]⟩, fun x H2 y => ?_⟩
    obtain ⟨e, y⟩ := y
    subst e
    have hx := y xs sq'
    have hu : us[i]? = some us[i] := List.getElem?_eq_getElem (by omega)
    have tk : us.take (i + 1) = us.take i ++ [us[i]] := by rw [List.take_add_one, hu]; rfl
    have sml : (((us.take i).filter p).map f).length < sizeLine := by
      rw [List.length_map]
      have := List.length_filter_le p (us.take i)
      rw [List.length_take] at this
      exact Nat.lt_of_lt_of_le (show _ < 1001 by omega) (by decide)
    refine hs i x us[i] σ' _ (fun σ3 b v H5 => if b = true then ∃ ys, H5 D = some (.lst ys) ∧ ys.length < sizeLine ∧ ∃ m', m' < xs.length - i ∧ (m' = xs.length - (i + 1) ∧ i + 1 ≤ xs.length ∧ ok σ3 ∧ Same H1 (upd H5 D (.lst (ys ++ [v]))) ∧ (upd H5 D (.lst (ys ++ [v]))) D = some (.lst (((us.take (i + 1)).filter p).map f)))
      else ∃ m', m' < xs.length - i ∧ (m' = xs.length - (i + 1) ∧ i + 1 ≤ xs.length ∧ ok σ3 ∧ Same H1 H5 ∧ H5 D = some (.lst (((us.take (i + 1)).filter p).map f)))) hx hu hok hsm fun σ3 H4 s4 ok3 => ?_
    cases hp : p us[i] with
    | true =>
      rw [if_pos rfl]
      refine ⟨_, s4 _ _ hy, sml, xs.length - (i + 1), by omega, rfl, hlt, ok3, (hsm.trans s4).upd hD, ?_⟩
      rw [upd_same, tk, List.filter_append, List.map_append]
      simp [hp]
    | false =>
      rw [if_neg Bool.false_ne_true]; refine ⟨xs.length - (i + 1), by omega, rfl, hlt, ok3, hsm.trans s4, ?_⟩
      rw [tk, List.filter_append, List.map_append, s4 _ _ hy]
      simp [hp]
  · have e : i = xs.length := by omega
    subst e
    refine .inl ⟨⟨xs, sq', Nat.le_refl _⟩, hd H' hsm (by rw [← hlen, List.take_length] at hy; exact hy)⟩
theorem boot_sorted : bootBuiltins "sorted" = Option.some (Value.builtin "sorted") := by decide +kernel
end L2
set_option maxRecDepth 100000
set_option maxHeartbeats 1600000
namespace L2
open PySem PySem.Spec PyProof.Rows LS
theorem call_listK {X : Cx} (K : PySem.W.Frag) (hK : X.K = K := by rfl) : CallR X (.type "list") (fun xs H Q => ∃ p ys, xs = [.ref p] ∧ SqL K H p ys ∧ ∀ l, H l = none → Q (.ref l) (upd H l (.lst ys))) := by
  subst hK
  intro pins s σ H xs us Q I r h
  obtain ⟨p, ys, e, hq, q⟩ := h
  exact call_list_of pins s σ H xs us Q I r ⟨p, ys, e, .inl hq, q⟩
theorem comp_tpm {K : PySem.W.Frag} {a D : Addr} {xs : List V} {g : TG} {te : TE} {σ0 : St} {H1 : Hp} {Q : Hp → Prop} (f : V → V) (ok : St → Prop)
    (sq : H1 a = some (.tup xs)) (hD : H1 D = none) (hz : xs.length ≤ 1000) (h0 : ok σ0)
    (hs : ∀ x σ' H (N : St → V → Hp → Prop), x ∈ xs → ok σ' → Same H1 H → (∀ σ3 H4, Same H H4 → ok σ3 → N σ3 (f x) H4) → g x σ' H fun σ3 H3 => te σ3 H3 fun v H4 => N σ3 v H4)
    (hd : ∀ H', Same H1 H' → H' D = some (.lst (xs.map f)) → Q H') :
    ∃ W : Nat → Nat → St → Hp → Prop, (∃ m, W 0 m σ0 (upd H1 D (.lst []))) ∧
      ∀ i m σ' H', W i m σ' H' → ((Itt K a).stop i H' ∧ Q H') ∨ ((Itt K a).go i H' ∧ ∀ x H2, (Itt K a).yld i H' x H2 → g x σ' H2 fun σ3 H3 => te σ3 H3 fun v H4 => ∃ xs, H4 D = some (.lst xs) ∧ xs.length < sizeLine ∧ ∃ m', m' < m ∧ W (i + 1) m' σ3 (upd H4 D (.lst (xs ++ [v])))) := by
  refine ⟨fun i m σ' H' => m = xs.length - i ∧ i ≤ xs.length ∧ ok σ' ∧ Same H1 H' ∧ H' D = some (.lst ((xs.take i).map f)), ⟨xs.length, by simp, Nat.zero_le _, h0, Same.new hD, by rw [List.take_zero]; exact upd_same⟩, ?_⟩
  rintro i m σ' H' ⟨rfl, hi, hok, hsm, hy⟩
  have sq' : SqT K H' a xs := SqT.of (hsm _ _ sq)
  by_cases hlt : i < xs.length
  · refine .inr ⟨⟨xs, xs[i], sq', by simp [hlt]⟩, fun x H2 y => ?_⟩
    obtain ⟨e, y⟩ := y
    subst e
    have hx := y xs sq'
    refine hs x σ' _ (fun σ3 v H4 => ∃ xs', H4 D = some (.lst xs') ∧ xs'.length < sizeLine ∧ ∃ m', m' < xs.length - i ∧ _) (List.mem_of_getElem? hx) hok hsm fun σ3 H4 s4 ok3 => ?_
    refine ⟨_, s4 _ _ hy, Nat.lt_of_lt_of_le (show _ < 1001 by rw [List.length_map, List.length_take]; omega) (by decide), xs.length - (i + 1), by omega, rfl, hlt, ok3, (hsm.trans s4).upd hD, ?_⟩
    rw [upd_same, List.take_add_one, hx, List.map_append]; rfl
  · have e : i = xs.length := by omega
    subst e
    exact .inl ⟨⟨xs, sq', Nat.le_refl _⟩, hd H' hsm (by rw [List.take_length] at hy; exact hy)⟩
end L2
set_option maxRecDepth 100000
set_option maxHeartbeats 1600000
namespace L2
open PySem PySem.Spec PyProof.Rows LS
section
variable {X : Cx} {tg : Expr}
end
end L2
set_option maxRecDepth 100000
set_option maxHeartbeats 1600000
namespace L2
open PySem PySem.Spec PyProof.Rows LS
structure Five (z a b c d : Addr) : Prop where
  az : a ≠ z
  bz : b ≠ z
  cz : c ≠ z
  dz : d ≠ z
  ab : a ≠ b
  ac : a ≠ c
  ad : a ≠ d
  bc : b ≠ c
  bd : b ≠ d
  cd : c ≠ d
end L2
set_option maxRecDepth 100000
set_option maxHeartbeats 1600000
namespace L2
open PySem PySem.Spec PyProof.Rows LS
end L2
set_option maxRecDepth 100000
set_option maxHeartbeats 1600000
namespace L2
open PySem PySem.Spec PyProof.Rows LS PySem.SeqAt
mutual
inductive IsD8 (K : PySem.W.Frag) (H : Hp) : V → PyData → Prop
  | non : IsD8 K H .non .none
  | bl (b) : IsD8 K H (.bl b) (.bool b)
  | int (i) : IsD8 K H (.int i) (.int i)
  | str (x) : IsD8 K H (.str x) (.str x)
  | lst {a xs ds} : SqL K H a xs → AreD8 K H xs ds → IsD8 K H (.ref a) (.list ds)
  | tup {a xs ds} : SqT K H a xs → AreD8 K H xs ds → IsD8 K H (.ref a) (.tuple ds)
inductive AreD8 (K : PySem.W.Frag) (H : Hp) : List V → List PyData → Prop
  | nil : AreD8 K H [] []
  | cons {x xs d ds} : IsD8 K H x d → AreD8 K H xs ds → AreD8 K H (x :: xs) (d :: ds)
end
section
variable {X : Cx} {pins : List (Addr × Obj)} {σ : St} {H : Hp} {s : Shared}
mutual
theorem IsD8.reads (I : Inv X pins σ H s) : ∀ {v : V} {d : PyData}, IsD8 X.K H v d → ∀ {u : Value}, RelV v u → ∃ as, Reads s.heap u d as
  | _, _, .non, u, r => by cases (show u = Value.none from r); exact ⟨[], .none⟩
  | _, _, .bl b, u, r => by cases (show u = Value.bool b from r); exact ⟨[], .bool b⟩
  | _, _, .int i, u, r => by obtain ⟨t, e⟩ := (show ∃ t, u = Value.int i t from r); subst e; exact ⟨[], .int i t⟩
  | _, _, .str x, u, r => by obtain ⟨t, e⟩ := (show ∃ t, u = Value.str x t from r); subst e; exact ⟨[], .str x t⟩
  | _, _, .lst sq rs, u, r => by
    cases r
    obtain ⟨its, rv, p, _⟩ := I.list sq
    obtain ⟨as, ra⟩ := AreD8.reads I rs rv
    obtain ⟨o, ho, hc, n, hd⟩ := p.isList
    exact ⟨_, .list ho hc hd (by simpa using ra)⟩
  | _, _, .tup sq rs, u, r => by
    cases r
    obtain ⟨its, rv, p, _⟩ := I.tuple sq
    obtain ⟨as, ra⟩ := AreD8.reads I rs rv
    obtain ⟨o, ho, hc, n, hd⟩ := p
    exact ⟨_, .tuple ho hc hd (by simpa using ra)⟩
theorem AreD8.reads (I : Inv X pins σ H s) : ∀ {vs : List V} {ds : List PyData}, AreD8 X.K H vs ds → ∀ {us : List Value}, Vals vs us → ∃ as, ReadsAll s.heap us ds as
  | _, _, .nil, us, r => by cases r; exact ⟨[], .nil⟩
  | _, _, .cons h t, us, r => by
    cases r with
    | cons r1 r2 =>
      obtain ⟨a1, q1⟩ := IsD8.reads I h r1
      obtain ⟨a2, q2⟩ := AreD8.reads I t r2
      exact ⟨_, .cons q1 q2⟩
end
end
theorem op_neD {X : Cx} (K : PySem.W.Frag) (hu : X.A.units + 64 < cLine) (hK : X.K = K := by rfl) : OpR X (compareOp .NotEq) (fun x y H Q => ∃ d e, IsD8 K H x d ∧ IsD8 K H y e ∧ shaped d = true ∧ shaped e = true ∧ Q (.bl (!PyData.eqv d e)) H) := by
  subst hK
  intro pins s σ H x y v u Q I rx ry h
  obtain ⟨d, e, h1, h2, s1, s2, q⟩ := h
  obtain ⟨as, ra⟩ := IsD8.reads I h1 rx
  obtain ⟨bs, rb⟩ := IsD8.reads I h2 ry
  exact ne_dataH ra rb s1 s2 hu ⟨.bl _, H, I, rfl, q⟩
end L2
set_option maxRecDepth 100000
set_option maxHeartbeats 1600000
namespace L2
open PySem PySem.Spec PyProof.Rows LS PySem.SeqAt
mutual
inductive Al (K : PySem.W.Frag) (H : Hp) : Nat → V → V → Prop
  | non {n} : Al K H n .non .non
  | bl {n} (b) : Al K H n (.bl b) (.bl b)
  | int {n} (i) : Al K H n (.int i) (.int i)
  | str {n} (x) : Al K H n (.str x) (.str x)
  | ref {n} (a) : Al K H n (.ref a) (.ref a)
  | lst {n a b xs ys} : SqL K H a xs → SqL K H b ys → Als K H n xs ys → Al K H (n + 1) (.ref a) (.ref b)
inductive Als (K : PySem.W.Frag) (H : Hp) : Nat → List V → List V → Prop
  | nil {n} : Als K H n [] []
  | cons {n x y xs ys} : Al K H n x y → Als K H n xs ys → Als K H n (x :: xs) (y :: ys)
end
theorem Als.length {K : PySem.W.Frag} {H : Hp} {n : Nat} : ∀ {xs ys : List V}, Als K H n xs ys → xs.length = ys.length
  | _, _, .nil => rfl
  | _, _, .cons _ t => by simp [Als.length t]
theorem Als.refs {K : PySem.W.Frag} {H : Hp} {n : Nat} : ∀ as : List Addr, Als K H n (as.map V.ref) (as.map V.ref)
  | [] => .nil
  | a :: as => .cons (.ref a) (Als.refs as)
section
variable {X : Cx} {pins : List (Addr × Obj)} {σ : St} {H : Hp} {s : Shared}
mutual
theorem Al.eqAt (I : Inv X pins σ H s) : ∀ {n : Nat} {x y : V}, Al X.K H n x y → ∀ {u v : Value}, RelV x u → RelV y v → ∀ {A : Around}, A.units + n < cLine → EqAt A s u v true
  | _, _, _, .non, u, v, r1, r2, A, _ => by cases (show u = Value.none from r1); cases (show v = Value.none from r2); exact EqAt.same _
  | _, _, _, .bl b, u, v, r1, r2, A, _ => by cases (show u = Value.bool b from r1); cases (show v = Value.bool b from r2); exact EqAt.same _
  | _, _, _, .int i, u, v, r1, r2, A, _ => by
    obtain ⟨t, e⟩ := (show ∃ t, u = Value.int i t from r1); obtain ⟨t', e'⟩ := (show ∃ t, v = Value.int i t from r2); subst e e'
    have := EqAt.int_int (A := A) (s := s) i t i t'
    rwa [beq_self_eq_true] at this
  | _, _, _, .str x, u, v, r1, r2, A, _ => by
    obtain ⟨t, e⟩ := (show ∃ t, u = Value.str x t from r1); obtain ⟨t', e'⟩ := (show ∃ t, v = Value.str x t from r2); subst e e'
    have := EqAt.str_str (A := A) (s := s) x t x t'
    rwa [beq_self_eq_true] at this
  | _, _, _, .ref a, u, v, r1, r2, A, _ => by cases r1; cases r2; exact EqAt.same _
  | _, _, _, .lst (n := n) (a := a) (b := b) (xs := xs) (ys := ys) sa sb h, u, v, r1, r2, A, hu => by
    cases r1
    cases r2
    by_cases e : a = b
    · subst e; exact EqAt.same _
    · obtain ⟨its, v1, p1, _⟩ := I.list sa
      obtain ⟨jts, v2, p2, _⟩ := I.list sb
      have l := h.length
      have k1 := v1.length
      have k2 := v2.length
      have := RcAt.lists (A := A) (s := s) (e := fun _ => true) p1.isList p2.isList (by simp; omega) (by omega) fun j h1 h2 => by
        simpa using Als.eqAt I h v1 v2 (A := A.in1) (by rw [Around.in1_units]; omega) j (by simpa using h1) (by simpa using h2)
      rw [show ((List.range its.toArray.size).all fun _ => true) = true by simp] at this
      exact EqAt.of_refs e this
theorem Als.eqAt (I : Inv X pins σ H s) : ∀ {n : Nat} {xs ys : List V}, Als X.K H n xs ys → ∀ {us vs : List Value}, Vals xs us → Vals ys vs → ∀ {A : Around}, A.units + n < cLine → ∀ (j : Nat) (h1 : j < us.length) (h2 : j < vs.length), EqAt A s us[j] vs[j] true
  | _, _, _, .nil, us, vs, r1, r2, A, _, j, h1, h2 => by cases r1; simp at h1
  | _, _, _, .cons h t, us, vs, r1, r2, A, hu, j, h1, h2 => by
    cases r1 with
    | cons a1 b1 =>
      cases r2 with
      | cons a2 b2 =>
        cases j with
        | zero => exact Al.eqAt I h a1 a2 hu
        | succ j => simpa using Als.eqAt I t b1 b2 hu j (by simpa using h1) (by simpa using h2)
end
end
theorem op_eqA {X : Cx} (K : PySem.W.Frag) (hu : X.A.units + 64 < cLine) (hK : X.K = K := by rfl) : OpR X (compareOp .Eq) (fun x y H Q => ∃ n a b xs ys, n ≤ 60 ∧ x = .ref a ∧ y = .ref b ∧ SqL K H a xs ∧ SqL K H b ys ∧ Als K H n xs ys ∧ Q (.bl true) H) := by
  subst hK
  intro pins s σ H x y v u Q I rx ry h
  obtain ⟨n, a, b, xs, ys, hn, rfl, rfl, ha, hb, h, q⟩ := h
  cases rx
  cases ry
  obtain ⟨its, v1, p1, _⟩ := I.list ha
  obtain ⟨jts, v2, p2, _⟩ := I.list hb
  have l := h.length
  have k1 := v1.length
  have k2 := v2.length
  refine SeqAt.eq_listAt (e := fun _ => true) p1.isList p2.isList (by simp; omega) (by omega) (fun j h1 h2 => ?_) ⟨.bl true, H, I, by rw [show ((List.range its.toArray.size).all fun _ => true) = true by simp]; rfl, q⟩
  simpa using Als.eqAt I h v1 v2 (A := X.A.in1) (by rw [Around.in1_units]; omega) j (by simpa using h1) (by simpa using h2)
theorem op_neA {X : Cx} (K : PySem.W.Frag) (hu : X.A.units + 64 < cLine) (hK : X.K = K := by rfl) : OpR X (compareOp .NotEq) (fun x y H Q => ∃ n a b xs ys, n ≤ 60 ∧ x = .ref a ∧ y = .ref b ∧ SqL K H a xs ∧ SqL K H b ys ∧ Als K H n xs ys ∧ Q (.bl false) H) := by
  subst hK
  intro pins s σ H x y v u Q I rx ry h
  obtain ⟨n, a, b, xs, ys, hn, rfl, rfl, ha, hb, h, q⟩ := h
  cases rx
  cases ry
  obtain ⟨its, v1, p1, _⟩ := I.list ha
  obtain ⟨jts, v2, p2, _⟩ := I.list hb
  have l := h.length
  have k1 := v1.length
  have k2 := v2.length
  have := RcNeAt.lists (A := X.A) (s := s) (e := fun _ => true) p1.isList p2.isList (by simp; omega) (by omega) fun j h1 h2 => by
    simpa using Als.eqAt I h v1 v2 (A := X.A.in1) (by rw [Around.in1_units]; omega) j (by simpa using h1) (by simpa using h2)
  rw [show (!((List.range its.toArray.size).all fun _ => true)) = false by simp] at this
  exact this X.prog X.w X.xe _ ⟨.bl false, H, I, rfl, q⟩
end L2
set_option maxRecDepth 100000
set_option maxHeartbeats 1600000
namespace L2
open PySem PySem.Spec PyProof.Rows LS
theorem pb_if {X : Cx} {c : Expr} {a b : List Stmt} {pos : Pos} {tc : TT} {ta tb : XK → TS} (hc : PT X.nox c tc) (ha : PB X a ta) (hb : PB X b tb) : PB X [.If c a b pos] (fun E => tIfS tc (ta E) (tb E)) := by
  intro pins s σ H D E I h
  refine wpAny_execs_cons (wpAny_mono (Q := SP X pins D) (E := XP X pins σ E) (wpAny_If ?_) (fun f s1 q => ?_) fun _ _ z => z)
  · refine wpAny_mono (hc pins s σ H _ (I.wish _) h) (fun d s1 ⟨H1, I1, q1⟩ => ?_) fun _ _ z => False.elim z
    cases d with
    | true => exact ha pins s1 σ H1 D E I1.unwish q1
    | false => exact hb pins s1 σ H1 D E I1.unwish q1
  · cases f with
    | next => exact wpAny_execs_nil q
    | ret v => exact q
    | brk => exact q
    | cont => exact q
end L2
set_option maxRecDepth 100000
set_option maxHeartbeats 1600000
namespace L2
open PySem PySem.Spec PyProof.Rows LS PySem.SeqAt
section
variable {X : Cx}
theorem sl_tupK (K : PySem.W.Frag) (hK : X.K = K := by rfl) : SlR X (rSlT K) := by subst hK; exact sl_tup
theorem call_anyB (K : PySem.W.Frag) (hc : X.calm = true) (hK : X.K = K := by rfl) : CallR X (.builtin "any") (fun xs H Q => ∃ (p : Addr) (bs : List Bool), xs = [.ref p] ∧ SqL K H p (bs.map V.bl) ∧ Q (.bl (bs.any id)) H) := by
  subst hK
  intro pins s σ H xs us Q I r h
  obtain ⟨p, bs, rfl, hq, q⟩ := h
  obtain ⟨u, rfl, rfl⟩ := vals1 r
  obtain ⟨its, rv, pl, hz⟩ := I.list hq
  have nth : ∀ (i : Nat) (v : Value), its.toArray[i]? = some v → v = Value.bool (bs.getD i true) := fun i v e => by
    have e : its[i]? = some v := by simpa using e
    have hi : i < bs.length := by
      have := (List.getElem?_eq_some_iff.mp e).1
      have h2 := rv.length
      simp at h2
      omega
    obtain ⟨u, e2, r2⟩ := rv.get (i := i) (x := V.bl bs[i]) (by simp [hi])
    rw [e] at e2
    cases e2
    cases r2
    rw [List.getD_eq_getElem?_getD, List.getElem?_eq_getElem hi]
    rfl
  refine call_any_walk (wpAny_pyIter_list pl.isList ?_)
  have hne : p ≠ s.heap.objs.size := by
    obtain ⟨o, e, _⟩ := pl.isList
    exact Nat.ne_of_lt (Heap.lt_size e)
  refine ⟨s.heap.objs.size, _, _, _, _, _, fun i => bs.getD i true, rfl, Walks.list (A := X.A.in1) (I.ok.hd hc) s.heap.objs.size p hne its.toArray, ⟨?_, ?_⟩, ?_, ?_⟩
  · exact ⟨_, Heap.get?_push_size _ rfl, rfl, rfl⟩
  · obtain ⟨o, e, r⟩ := pl.isList
    exact ⟨o, Heap.get?_push_of_some _ e, r⟩
  · intro i v s1 Q1 E1 hP hQ
    rw [nth i v hP]
    exact wpAny_truthy_bool hQ
  · intro h' tk hk
    refine ⟨.bl _, H, I.kept (t' := tk) (h' := h') fun b o e => hk b o (fun z => ?_) (Heap.get?_push_of_some _ e), rfl, ?_⟩
    · rw [List.mem_singleton] at z
      rw [z] at e
      exact absurd (Heap.lt_size e) (Nat.lt_irrefl _)
    · have hl : its.toArray.size = bs.length := by have := rv.length; simp at this ⊢; omega
      rw [hl]
      have : ((List.range bs.length).any fun i => bs.getD i true) = bs.any id := by
        clear q rv nth hl hq hz
        induction bs with
        | nil => rfl
        | cons b bs ih => rw [List.length_cons, List.range_succ_eq_map, List.any_cons, List.any_map, List.any_cons, ← ih]; rfl
      rw [this]; exact q
theorem boot_any : bootBuiltins "any" = Option.some (Value.builtin "any") := PyProof.Rows.boot_any
theorem op_neE (K : PySem.W.Frag) (hu : X.A.units + 64 < cLine) (hK : X.K = K := by rfl) : OpR X (compareOp .NotEq) (fun x y H Q => ∃ (a b : Addr) (xs : List V), x = .ref a ∧ y = .ref b ∧ SqL K H a xs ∧ SqL K H b [] ∧ Q (.bl (!xs.isEmpty)) H) := by
  subst hK
  intro pins s σ H x y v u Q I rx ry h
  obtain ⟨a, b, xs, rfl, rfl, ha, hb, q⟩ := h
  cases rx
  cases ry
  have hu : X.A.units < cLine := Nat.lt_of_le_of_lt (Nat.le_add_right _ _) hu
  obtain ⟨its, r1, p1, _⟩ := I.list ha
  obtain ⟨jts, r2, p2, _⟩ := I.list hb
  cases r2
  cases xs with
  | nil =>
    cases r1
    have := RcNeAt.lists (A := X.A) (s := s) (e := fun _ => true) p1.isList p2.isList rfl hu fun j h1 h2 => by simp at h1
    exact this X.prog X.w X.xe _ ⟨.bl false, H, I, rfl, q⟩
  | cons x xs =>
    have l := r1.length
    have := RcNeAt.lists_lengths (A := X.A) (s := s) p1.isList p2.isList (by simp at l ⊢; intro z; simp [z] at l) hu
    exact this X.prog X.w X.xe _ ⟨.bl true, H, I, rfl, q⟩
theorem op_eqE (K : PySem.W.Frag) (hu : X.A.units + 64 < cLine) (hK : X.K = K := by rfl) : OpR X (compareOp .Eq) (fun x y H Q => ∃ (a b : Addr) (xs : List V), x = .ref a ∧ y = .ref b ∧ SqL K H a xs ∧ SqL K H b [] ∧ Q (.bl xs.isEmpty) H) := by
  subst hK
  intro pins s σ H x y v u Q I rx ry h
  obtain ⟨a, b, xs, rfl, rfl, ha, hb, q⟩ := h
  cases rx
  cases ry
  have hu : X.A.units < cLine := Nat.lt_of_le_of_lt (Nat.le_add_right _ _) hu
  obtain ⟨its, r1, p1, _⟩ := I.list ha
  obtain ⟨jts, r2, p2, _⟩ := I.list hb
  cases r2
  cases xs with
  | nil =>
    cases r1
    exact SeqAt.eq_listAt (e := fun _ => true) p1.isList p2.isList rfl hu (fun j h1 h2 => by simp at h1) ⟨.bl true, H, I, rfl, q⟩
  | cons x xs =>
    have l := r1.length
    exact SeqAt.eq_list_lengthsAt p1.isList p2.isList (by simp at l ⊢; intro z; simp [z] at l) hu ⟨.bl false, H, I, rfl, q⟩
end
theorem comp_pr {α : Type} {K : PySem.W.Frag} {a D : Addr} {xs : List V} {us : List α} {g : TG} {te : TE} {σ0 : St} {H1 : Hp} {Q : Hp → Prop} (f : α → V) (ok : St → Prop)
    (sq : SqL K H1 a xs) (hD : H1 D = none) (hz : xs.length ≤ 1000) (hlen : us.length = xs.length) (h0 : ok σ0)
    (hs : ∀ (i : Nat) x u σ' H (N : St → V → Hp → Prop), xs[i]? = some x → us[i]? = some u → ok σ' → Same H1 H → (∀ σ3 H4, Same H H4 → ok σ3 → N σ3 (f u) H4) → g x σ' H fun σ3 H3 => te σ3 H3 fun v H4 => N σ3 v H4)
    (hd : ∀ H', Same H1 H' → H' D = some (.lst (us.map f)) → Q H') :
    ∃ W : Nat → Nat → St → Hp → Prop, (∃ m, W 0 m σ0 (upd H1 D (.lst []))) ∧
      ∀ i m σ' H', W i m σ' H' → ((Itl K a).stop i H' ∧ Q H') ∨ ((Itl K a).go i H' ∧ ∀ x H2, (Itl K a).yld i H' x H2 → g x σ' H2 fun σ3 H3 => te σ3 H3 fun v H4 => ∃ xs, H4 D = some (.lst xs) ∧ xs.length < sizeLine ∧ ∃ m', m' < m ∧ W (i + 1) m' σ3 (upd H4 D (.lst (xs ++ [v])))) := by
  refine ⟨fun i m σ' H' => m = xs.length - i ∧ i ≤ xs.length ∧ ok σ' ∧ Same H1 H' ∧ H' D = some (.lst ((us.take i).map f)), ⟨xs.length, by simp, Nat.zero_le _, h0, Same.new hD, by rw [List.take_zero]; exact upd_same⟩, ?_⟩
  rintro i m σ' H' ⟨rfl, hi, hok, hsm, hy⟩
  have sq' := hsm.seq sq
  by_cases hlt : i < xs.length
  · refine .inr ⟨⟨xs, xs[i], sq', by simp [hlt]⟩, fun x H2 y => ?_⟩
    obtain ⟨e, y⟩ := y
    subst e
    have hx := y xs sq'
    have hu : us[i]? = some us[i] := List.getElem?_eq_getElem (by omega)
    have tk : us.take (i + 1) = us.take i ++ [us[i]] := by rw [List.take_add_one, hu]; rfl
    have sml : ((us.take i).map f).length < sizeLine := by
      rw [List.length_map, List.length_take]
      exact Nat.lt_of_lt_of_le (show _ < 1001 by omega) (by decide)
    refine hs i x us[i] σ' _ (fun σ3 v H4 => ∃ ys, H4 D = some (.lst ys) ∧ ys.length < sizeLine ∧ ∃ m', m' < xs.length - i ∧ (m' = xs.length - (i + 1) ∧ i + 1 ≤ xs.length ∧ ok σ3 ∧ Same H1 (upd H4 D (.lst (ys ++ [v]))) ∧ (upd H4 D (.lst (ys ++ [v]))) D = some (.lst ((us.take (i + 1)).map f)))) hx hu hok hsm fun σ3 H4 s4 ok3 => ?_
    refine ⟨_, s4 _ _ hy, sml, xs.length - (i + 1), by omega, rfl, hlt, ok3, (hsm.trans s4).upd hD, ?_⟩
    rw [upd_same, tk, List.map_append]
    rfl
  · have e : i = xs.length := by omega
    subst e
    refine .inl ⟨⟨xs, sq', Nat.le_refl _⟩, hd H' hsm (by rw [← hlen, List.take_length] at hy; exact hy)⟩
def hide (H : Hp) (D : Addr) : Hp := fun b => if b = D then none else H b
theorem hide_ne {H : Hp} {b D : Addr} (h : b ≠ D) : hide H D b = H b := by unfold hide; rw [if_neg h]
theorem hide_upd {H : Hp} {D : Addr} {o : HO} : hide (upd H D o) D = hide H D := by
  funext b; unfold hide
  by_cases h : b = D
  · rw [if_pos h, if_pos h]
  · rw [if_neg h, if_neg h, upd_ne h]
theorem hide_same {H : Hp} {D : Addr} : Same (hide H D) H := fun b o e => by
  unfold hide at e
  by_cases h : b = D
  · rw [if_pos h] at e; cases e
  · rw [if_neg h] at e; exact e
theorem hide_mono {H H' : Hp} {D : Addr} (s : Same H H') : Same (hide H D) (hide H' D) := fun b o e => by
  unfold hide at e ⊢
  by_cases h : b = D
  · rw [if_pos h] at e; cases e
  · rw [if_neg h] at e ⊢; exact s b o e
theorem comp_ob {α : Type} {K : PySem.W.Frag} {a D : Addr} {xs : List V} {us : List α} {g : TG} {te : TE} {σ0 : St} {H1 : Hp} {Q : Hp → Prop} (R : α → V → Hp → Prop) (ok : St → Prop) (mono : ∀ H H' x v, Same H H' → R x v H → R x v H')
    (sq : SqL K H1 a xs) (hD : H1 D = none) (hz : xs.length ≤ 1000) (hlen : us.length = xs.length) (h0 : ok σ0)
    (hs : ∀ (i : Nat) x u σ' H (N : St → V → Hp → Prop), xs[i]? = some x → us[i]? = some u → ok σ' → Same H1 H → (∃ ys, H D = some (.lst ys)) → (∀ σ3 v H4, R u v (hide H4 D) → Same H H4 → ok σ3 → N σ3 v H4) → g x σ' H fun σ3 H3 => te σ3 H3 fun v H4 => N σ3 v H4)
    (hd : ∀ ys H', Same H1 H' → H' D = some (.lst ys) → Paired (fun v u => R u v H') ys us → Q H') :
    ∃ W : Nat → Nat → St → Hp → Prop, (∃ m, W 0 m σ0 (upd H1 D (.lst []))) ∧
      ∀ i m σ' H', W i m σ' H' → ((Itl K a).stop i H' ∧ Q H') ∨ ((Itl K a).go i H' ∧ ∀ x H2, (Itl K a).yld i H' x H2 → g x σ' H2 fun σ3 H3 => te σ3 H3 fun v H4 => ∃ xs, H4 D = some (.lst xs) ∧ xs.length < sizeLine ∧ ∃ m', m' < m ∧ W (i + 1) m' σ3 (upd H4 D (.lst (xs ++ [v])))) := by
  refine ⟨fun i m σ' H' => m = xs.length - i ∧ i ≤ xs.length ∧ ok σ' ∧ Same H1 H' ∧ ∃ ys, H' D = some (.lst ys) ∧ Paired (fun v u => R u v (hide H' D)) ys (us.take i), ⟨xs.length, by simp, Nat.zero_le _, h0, Same.new hD, [], upd_same, by rw [List.take_zero]; exact .nil⟩, ?_⟩
  rintro i m σ' H' ⟨rfl, hi, hok, hsm, ys, hy, hp⟩
  have sq' := hsm.seq sq
  have hyl : ys.length = i := by rw [Paired.length hp, List.length_take]; omega
  by_cases hlt : i < xs.length
  · refine .inr ⟨⟨xs, xs[i], sq', by simp [hlt]⟩, fun x H2 y => ?_⟩
    obtain ⟨e, y⟩ := y
    subst e
    have hx := y xs sq'
    have hu : us[i]? = some us[i] := List.getElem?_eq_getElem (by omega)
    refine hs i x us[i] σ' _ (fun σ3 v H4 => ∃ xs', H4 D = some (.lst xs') ∧ xs'.length < sizeLine ∧ ∃ m', m' < xs.length - i ∧ _) hx hu hok hsm ⟨_, hy⟩ fun σ3 v H4 r s4 ok3 => ?_
    refine ⟨ys, s4 _ _ hy, Nat.lt_of_lt_of_le (show ys.length < 1001 by omega) (by decide), xs.length - (i + 1), by omega, rfl, hlt, ok3, (hsm.trans s4).upd hD, ys ++ [v], upd_same, ?_⟩
    rw [List.take_add_one, hu, hide_upd]
    exact Paired.snoc (Paired.mapP hp fun b w q => mono _ _ _ _ (hide_mono s4) q) r
  · have e : i = xs.length := by omega
    subst e
    rw [← hlen, List.take_length] at hp
    exact .inl ⟨⟨xs, sq', Nat.le_refl _⟩, hd ys H' hsm hy (Paired.mapP hp fun b w q => mono _ _ _ _ hide_same q)⟩
theorem compIf_rng {D : Addr} {lo : Int} {n : Nat} {g : TG} {tt : TT} {te : TE} {σ0 : St} {H1 : Hp} {Q : Hp → Prop} (p : Nat → Bool) (f : Nat → V) (ok : St → Prop)
    (hD : H1 D = none) (hz : n ≤ 1000) (h0 : ok σ0)
    (hs : ∀ i σ' H (N : St → Bool → V → Hp → Prop), i < n → ok σ' → Same H1 H → (∀ σ3 H4, Same H H4 → ok σ3 → N σ3 (p i) (f i) H4) → g (.int (lo + i)) σ' H fun σ3 H3 => tt σ3 H3 fun b H4 => if b = true then te σ3 H4 fun v H5 => N σ3 true v H5 else N σ3 false (f i) H4)
    (hd : ∀ H', Same H1 H' → H' D = some (.lst (((List.range n).filter p).map f)) → Q H') :
    ∃ W : Nat → Nat → St → Hp → Prop, (∃ m, W 0 m σ0 (upd H1 D (.lst []))) ∧
      ∀ i m σ' H', W i m σ' H' → ((Itr lo n).stop i H' ∧ Q H') ∨ ((Itr lo n).go i H' ∧ ∀ x H2, (Itr lo n).yld i H' x H2 → g x σ' H2 fun σ3 H3 => tt σ3 H3 fun b H4 => if b = true then te σ3 H4 fun v H5 => ∃ xs, H5 D = some (.lst xs) ∧ xs.length < sizeLine ∧ ∃ m', m' < m ∧ W (i + 1) m' σ3 (upd H5 D (.lst (xs ++ [v]))) else ∃ m', m' < m ∧ W (i + 1) m' σ3 H4) := by
  refine ⟨fun i m σ' H' => m = n - i ∧ i ≤ n ∧ ok σ' ∧ Same H1 H' ∧ H' D = some (.lst (((List.range i).filter p).map f)), ⟨n, by simp, Nat.zero_le _, h0, Same.new hD, upd_same⟩, ?_⟩
  rintro i m σ' H' ⟨rfl, hi, hok, hsm, hy⟩
  by_cases hlt : i < n
  · refine .inr ⟨hlt, fun x H2 y => ?_⟩
    obtain ⟨e, y⟩ := y
    subst e y
    have sml : (((List.range i).filter p).map f).length < sizeLine := by
      rw [List.length_map]
      have := List.length_filter_le p (List.range i)
      rw [List.length_range] at this
      exact Nat.lt_of_lt_of_le (show _ < 1001 by omega) (by decide)
    refine hs i σ' _ (fun σ3 b v H5 => if b = true then ∃ ys, H5 D = some (.lst ys) ∧ ys.length < sizeLine ∧ ∃ m', m' < n - i ∧ (m' = n - (i + 1) ∧ i + 1 ≤ n ∧ ok σ3 ∧ Same H1 (upd H5 D (.lst (ys ++ [v]))) ∧ (upd H5 D (.lst (ys ++ [v]))) D = some (.lst (((List.range (i + 1)).filter p).map f)))
      else ∃ m', m' < n - i ∧ (m' = n - (i + 1) ∧ i + 1 ≤ n ∧ ok σ3 ∧ Same H1 H5 ∧ H5 D = some (.lst (((List.range (i + 1)).filter p).map f)))) hlt hok hsm fun σ3 H4 s4 ok3 => ?_
    cases hp : p i with
    | true =>
      rw [if_pos rfl]
      refine ⟨_, s4 _ _ hy, sml, n - (i + 1), by omega, rfl, hlt, ok3, (hsm.trans s4).upd hD, ?_⟩
      rw [upd_same, List.range_succ, List.filter_append, List.map_append]
      simp [hp]
    | false =>
      rw [if_neg Bool.false_ne_true]; refine ⟨n - (i + 1), by omega, rfl, hlt, ok3, hsm.trans s4, ?_⟩
      rw [List.range_succ, List.filter_append, List.map_append, s4 _ _ hy]
      simp [hp]
  · have e : i = n := by omega
    subst e
    exact .inl ⟨Nat.le_refl _, hd H' hsm hy⟩
end L2
set_option maxRecDepth 100000
set_option maxHeartbeats 1600000
namespace L2
open PySem PySem.Spec PyProof.Rows LS
theorem hu1 {A : Around} {k : Nat} (hr : Room k A) : A.units + 1 < cLine := Nat.lt_of_le_of_lt (Nat.add_le_add_left (by decide) _) hr.units
theorem for_no {J : It} {g : TG} {tb : TS} {D : Ends} {σ : St} {H : Hp} (hs : J.stop 0 H) (hd : D.nx σ H) :
    ∃ W : Nat → Nat → St → Hp → Prop, (∃ m, W 0 m σ H) ∧ ∀ i m σ H, W i m σ H →
      (J.stop i H ∧ D.nx σ H) ∨ (J.go i H ∧ ∃ N : St → Hp → Prop, (∀ σ' H', N σ' H' → ∃ m', m' < m ∧ W (i + 1) m' σ' H') ∧ ∀ x H', J.yld i H x H' → g x σ H' fun σ2 H2 => tb { D with nx := N, ct := N, bk := D.nx } σ2 H2) := by
  refine ⟨fun i _ σ' H' => i = 0 ∧ σ' = σ ∧ H' = H, ⟨0, rfl, rfl, rfl⟩, ?_⟩
  rintro i m σ' H' ⟨rfl, rfl, rfl⟩
  exact .inl ⟨hs, hd⟩
end L2
set_option maxRecDepth 100000
set_option maxHeartbeats 1600000
namespace LS
open PySem PySem.Spec PyProof.Rows L2
theorem nolen_lr : typeLookup (.type "list_reverseiterator") "__len__" = pure none := by rw [typeLookup_type, builtinLookup_eq_fast]; kernel_rfl
theorem hint_lr : typeLookup (.type "list_reverseiterator") "__length_hint__" = pure (some (.builtin "list_reverseiterator.__length_hint__")) := by rw [typeLookup_type, builtinLookup_eq_fast]; kernel_rfl
section
variable {prog : Program} {w : World} {A : Around} {E : Value → Shared → Prop} {s : Shared}
theorem extend_rev {R : Result → Shared → Prop} (hh : A.handled = none) {I l S : Addr} {items : Array Value} {c : Nat} (hne : l ≠ I) (hSI : S ≠ I) (hSl : S ≠ l) (hI : s.heap.IsRevIter I l ((items.size : Int) - 1)) (hl : s.heap.IsList l items)
    (hS : s.heap.get? S = some { cls := .type "list", dict := none, data := .seq #[] c, slots := #[] }) (hn : items.size ≤ sizeLine)
    (hR : ∀ s' acc' c', Moved (S :: [I]) (fun a b => b = a) s s' → s'.heap.get? S = some { cls := .type "list", dict := none, data := .seq acc' c', slots := #[] } → ItemsOf (fun i v => items[items.size - 1 - i]? = some v) acc' items.size → R (.ok (.ret .none)) s') :
    wpAny (model prog w) A.in1 (Builtin.List.listExtendWith (.ref S) (.ref I) .none)
      (fun fin s' => match fin with | .done f => R (.ok f) s' | .again c' => c'.quiet = true ∧ codeAny (model prog w) A c' R s') (fun e s' => R (.error e) s') s := by
  have W := Walks.listRev (prog := prog) (w := w) (A := A.in1) hh I l hne items
  have hst : (0 : Nat) ≤ items.size ∧ s.heap.IsRevIter I l ((items.size : Int) - 1 - ((0 : Nat) : Int)) ∧ s.heap.IsList l items := ⟨Nat.zero_le _, by simpa using hI, hl⟩
  have hSf : S ∉ [I, l] := by simp [hSI, hSl]
  have h1 : Builtin.List.listSameRef (.ref S) (.ref I) = false := by simp [Builtin.List.listSameRef, hSI]
  unfold Builtin.List.listExtendWith
  refine wpAny_bind (wpAny_typeOf hI.typeIs ?_)
  rw [if_neg (by rw [h1]; decide)]
  refine wpAny_bind (wpAny_pyIter_revIter hI ?_)
  refine wpAny_bind (wpAny_holding ?_)
  unfold Builtin.List.listLengthHint
  refine wpAny_bind (wpAny_specialOf hI.typeIs nolen_lr ?_)
  show wpAny _ A.in1 (specialOf (Value.ref I) (Str.ofString "__length_hint__") >>= _) _ _ _
  refine wpAny_bind (wpAny_specialOf hI.typeIs hint_lr ?_)
  (generalize hid : ("list_reverseiterator.__length_hint__" : String) = id0; (fail_if_success (clear hid id0)); wp_delta; rw [show splitId id0 = some ("list_reverseiterator", "__length_hint__") from by subst hid; decide +kernel]; subst hid)
  refine wpAny_bind (wpAny_isInstance (b := true) hI.typeIs (by rw [isSubtype_type]; kernel_rfl) ?_)
  refine wpAny_pure ?_
  rw [if_neg (by decide)]
  refine wpAny_pure ⟨plainId_quiet F.plain_extend_loop _, codeAny_extend_loopS W.toS hn _ hSf _ items.size 0 _ _ _ rfl (Nat.zero_le _) hst hS (ItemsOf.nil _) fun s' acc' c' hm hS' hacc => ?_⟩
  exact hR s' acc' c' hm hS' hacc
theorem list_init_rev {R : Result → Shared → Prop} (hh : A.handled = none) {I l S : Addr} {items : Array Value} (hne : l ≠ I) (hSI : S ≠ I) (hSl : S ≠ l) (hI : s.heap.IsRevIter I l ((items.size : Int) - 1)) (hl : s.heap.IsList l items)
    (hS : s.heap.get? S = some { cls := .type "list", data := .seq #[] }) (hn : items.size ≤ sizeLine)
    (hR : ∀ h' tk acc' c', (∀ b o, b ≠ S → b ≠ I → s.heap.get? b = some o → h'.get? b = some o) → h'.get? S = some { cls := .type "list", dict := none, data := .seq acc' c', slots := #[] } → ItemsOf (fun i v => items[items.size - 1 - i]? = some v) acc' items.size → R (.ok (.ret .none)) { s with heap := h', toks := tk }) :
    wpAny (model prog w) A.in1 (Builtin.«list.__init__» ⟨[.ref S, .ref I], []⟩)
      (fun fin s' => match fin with | .done f => R (.ok f) s' | .again c' => c'.quiet = true ∧ codeAny (model prog w) A c' R s') (fun e s' => R (.error e) s') s := by
  show wpAny _ A.in1 (do let old ← Builtin.List.listItems (.ref S); Builtin.List.listUpdate (.ref S) (fun _ => #[]); letGo old.toList.reverse; Builtin.List.listExtendWith (.ref S) (.ref I) .none) _ _ s
  refine wpAny_bind ?_
  unfold Builtin.List.listItems
  refine wpAny_bind (wpAny_seqItems hS rfl (wpAny_pure ?_))
  show wpAny _ A.in1 (updateSeq S (fun _ => #[]) >>= fun _ => letGo (#[] : Array Value).toList.reverse >>= fun _ => Builtin.List.listExtendWith (.ref S) (.ref I) .none) _ _ s
  refine wpAny_bind (wpAny_updateSeq hS rfl ?_)
  have hS₂ := Heap.get?_update_self (Obj.mapSeq (fun _ => (#[] : Array Value))) hS rfl
  have oth : ∀ b o, b ≠ S → s.heap.get? b = some o → (s.heap.update S (Obj.mapSeq (fun _ => (#[] : Array Value)))).get? b = some o :=
    fun b o hb e => (Heap.get?_update_other _ _ (Ne.symm hb)).trans e
  refine wpAny_bind (wpAny_letGo ?_)
  refine extend_rev (s := { s with heap := s.heap.update S (Obj.mapSeq (fun _ => (#[] : Array Value))) }) hh hne hSI hSl (hI.at fun o e => oth I o hSI.symm e) (hl.at fun o e => oth l o hSl.symm e) hS₂ hn fun s' acc' c' hm hS' hacc => ?_
  rw [Moved.eq_with hm]
  refine hR s'.heap s'.toks acc' c' (fun b o hb hb2 e => hm.heap b o (by simp [hb, hb2]) (oth b o hb e)) hS' hacc
theorem rev_of {items acc : Array Value} (h : ItemsOf (fun i v => items[items.size - 1 - i]? = some v) acc items.size) : acc = items.toList.reverse.toArray := by
  obtain ⟨h1, h2⟩ := h
  apply Array.ext
  · simp [h1]
  · intro i hi hi2
    have : items[items.size - 1 - i]? = some acc[i] := h2 i acc[i] (Array.getElem?_eq_getElem hi)
    have hlt : items.size - 1 - i < items.size := by omega
    rw [Array.getElem?_eq_getElem hlt] at this
    have := Option.some.inj this
    simp [← this]
theorem call_list_rev {Q : Value → Shared → Prop} (hh : A.handled = none) {I l : Addr} {items : Array Value} (hne : l ≠ I) (hI : s.heap.IsRevIter I l ((items.size : Int) - 1)) (hl : s.heap.IsList l items) (hn : items.size ≤ sizeLine)
    (hQ : ∀ h' tk c', (∀ b o, b ≠ I → s.heap.get? b = some o → h'.get? b = some o) → h'.get? s.heap.objs.size = some { cls := .type "list", dict := none, data := .seq items.toList.reverse.toArray c', slots := #[] } → Q (.ref s.heap.objs.size) { s with heap := h', toks := tk }) :
    wpAny (model prog w) A (call (.type "list") [.ref I]) Q E s := by
  have hlI : I < s.heap.objs.size := by obtain ⟨o, e, _⟩ := hI; exact Heap.lt_size e
  have hll : l < s.heap.objs.size := by obtain ⟨o, e, _⟩ := id hl; exact Heap.lt_size e
  refine callType_codes (Q₁ := fun obj s₁ => obj = .ref s.heap.objs.size ∧ s₁ = { s with heap := s.heap.push { cls := .type "list", data := .seq #[] } }) F.called_list (F.typeCall_list_1 _) F.entry_list_init
    (code_list_new _ ⟨rfl, rfl⟩) fun obj s₁ h₁ => ?_
  obtain ⟨rfl, rfl⟩ := h₁
  have hS : (s.heap.push { cls := .type "list", data := .seq #[] }).get? s.heap.objs.size = some { cls := .type "list", data := .seq #[] } := Heap.get?_push_size _ rfl
  refine ⟨⟨_, hS, rfl⟩, F.args_list_init_2 _ _, list_init_rev (A := A.in1) (s := { s with heap := s.heap.push { cls := .type "list", data := .seq #[] } }) hh hne (Nat.ne_of_gt hlI) (Nat.ne_of_gt hll) (hI.at fun o e => Heap.get?_push_of_some _ e) (hl.at fun o e => Heap.get?_push_of_some _ e) hS hn fun h' tk acc' c' hk hS' hacc => ⟨rfl, ?_⟩⟩
  rw [rev_of hacc] at hS'
  exact hQ h' tk c' (fun b o hb e => hk b o (Nat.ne_of_lt (Heap.lt_size e)) hb (Heap.get?_push_of_some _ e)) hS'
end
end LS
namespace L2
open PySem PySem.Spec PyProof.Rows LS
theorem boot_reversedT : bootBuiltins "reversed" = Option.some (Value.type "reversed") := by decide +kernel
theorem pe_listRev {X : Cx} (K : PySem.W.Frag) {p1 p2 p3 p4 : Pos} {e : Expr} {te : TE} (hc : X.calm = true) (hgl : Gl X "list") (hml : X.mg "list" = none) (hgr : Gl X "reversed") (hmr : X.mg "reversed" = none) (he : PE X e te)
    (hs1 : starEach [.Call (.Name "reversed" p2) [e] [] p3] X.env = (false, eval (.Call (.Name "reversed" p2) [e] [] p3) X.env) :: starEach [] X.env := by rfl) (hs2 : starEach [e] X.env = (false, eval e X.env) :: starEach [] X.env := by rfl)
    (hK : X.K = K := by rfl) : PE X (.Call (.Name "list" p1) [.Call (.Name "reversed" p2) [e] [] p3] [] p4) (fun σ H Q => te σ H fun x H1 => ∃ a xs, x = .ref a ∧ SqL K H1 a xs ∧ ∀ l, H1 l = none → Q (.ref l) (upd H1 l (.lst xs.reverse))) := by
  subst hK
  intro pins s σ H Q I h
  refine wpAny_Call_Name_kw (ld_blt I hgl hml boot_list ?_)
  refine PyProof.Rows.callWith_type1 ?_ hs1 rfl
  rw [hs1]
  show wpAny _ _ (spliced ((false, eval (.Call (.Name "reversed" p2) [e] [] p3) X.env) :: backTo p4 (starEach [] X.env))) _ _ s
  refine Calls.spliced_cons ?_
  refine wpAny_Call_Name_kw (ld_blt I hgr hmr boot_reversedT ?_)
  refine PyProof.Rows.callWith_type1 ?_ hs2 rfl
  rw [hs2]
  show wpAny _ _ (spliced ((false, eval e X.env) :: backTo p3 (starEach [] X.env))) _ _ s
  refine Calls.spliced_cons (thn (he pins s σ H _ I h) fun u s1 ⟨x, H1, I1, r1, a, xs, ex, hx, q⟩ => ?_)
  subst ex
  cases r1
  obtain ⟨its, r, ht, hz⟩ := I1.list hx
  have hlen := r.length
  refine Calls.spliced_nil ?_
  refine call_reversed_list ht.isList ?_
  refine Calls.spliced_nil ?_
  have ha : a < s1.heap.objs.size := by obtain ⟨o, e, _⟩ := id ht.isList; exact Heap.lt_size e
  refine call_list_rev (s := { s1 with heap := s1.heap.push (revObj a ((its.toArray.size : Int) - 1)) }) (I1.ok.hd hc) (I := s1.heap.objs.size) (l := a) (items := its.toArray) (Nat.ne_of_lt ha) ⟨_, Heap.get?_push_size _ rfl, rfl, rfl⟩ (ht.isList.at fun o e => Heap.get?_push_of_some _ e) (by rw [List.size_toArray]; omega) fun h' tk c' hk hS' => ?_
  refine ⟨.ref _, _, I1.laid (t' := tk) (h' := h') (o := .lst xs.reverse) (fun b o e => hk b o (Nat.ne_of_lt (Heap.lt_size e)) (Heap.get?_push_of_some _ e)) (by rw [Heap.size_push]; exact Nat.le_succ _) ?_, rfl, q _ (I1.hok.fresh (by rw [Heap.size_push]; exact Nat.le_succ _))⟩
  exact ⟨by rw [List.length_reverse]; exact hz, its.reverse, c', r.reverse, by simpa using hS'⟩
end L2
namespace L2
open PySem PySem.Spec PyProof.Rows LS
section
variable {X : Cx} {tg iter elt tst : Expr} {scope : Scope} {pos : Pos}
theorem ps_setCompIf {wi : TI} {g : TG} {tt : TT} {te : TE} (N : List Str) (js : List (Option Nat)) {i : Nat} {y : Str} {py spos : Pos} (hN : X.N.Nodup) (hi' : X.N[i]? = some y) (hx : Loc X.env.scope y) (hc : X.calm = true) (hi : PI X tg iter wi)
    (hg : ∀ fp s H, PG (cxComp X scope N fp s H) tg g) (ht : ∀ fp s H, PT (cxComp X scope N fp s H) tst tt) (he : ∀ fp s H, PE (cxComp X scope N fp s H) elt te) (hk : scope.kind = .function := by rfl) (hck : compChk X scope N js = true := by rfl)
    (hs : ∀ x, foldedSetIterable iter X.env x = pure x := by intro _; rfl)
    (hsw : swapsWith (.ListComp elt [⟨tg, iter, [tst], 0⟩] scope pos) (some (.Name y py)) spos.line X.env = pure true := by rfl)
    (hf : X.fn y = true ∨ X.env.scope.names.lookup y = some .local := by first | exact .inl rfl | exact .inr rfl | assumption) :
    PS X (.Assign [.Name y py] (.ListComp elt [⟨tg, iter, [tst], 0⟩] scope pos) spos) (tAsg (tCompIf js wi g tt te) (gName i)) := by
  intro pins s σ H D I h
  rw [exec_Assign_Name_used _ _ _ _ hsw]
  refine wpAny_bind (wpAny_standAt (wpAny_bind ?_))
  show wpAny _ X.A (do let _ ← comprehension (.ListComp elt [⟨tg, iter, [tst], 0⟩] scope pos) scope X.env _ (newList []) false (eval iter X.env) (some (assign (.Name y py) X.env))) _ _ s
  refine wpAny_bind (wpAny_mono (compIf_core (use := some (assign (.Name y py) X.env)) (Qv := fun _ s' => SP X pins D .next s') hc hi hk hck hg ht he hs I h fun D' C H' s' I' hC fC q => ?_) (fun _ s' hq => wpAny_pure (wpAny_pure hq)) fun _ _ e => e)
  obtain ⟨m, hn⟩ := hC
  show wpAny _ X.A (assign (.Name y py) X.env (.ref D')) _ _ _
  refine wpAny_assign_Name (store_ok2 (v := .ref D') I' hN hi' hx rfl (fun s2 I2 hch => ?_) hf)
  obtain ⟨a, sb, ha⟩ := hch
  obtain ⟨f0, f1, f2, f3, f4, f5⟩ := fC
  have hCa : C ≠ a := by
    rcases ha with z | z
    · rw [z]; exact f1
    · exact (f4 _ _ z).symm
  refine ⟨m, hn.sameBut sb hCa, fun h' sb' => ?_⟩
  exact ⟨_, H', I2.turned (t' := s2.toks) (fun b o hb e => (sb'.2 b hb).trans e) f0 f1 f3 f4 f5, q⟩
end
end L2
set_option maxRecDepth 100000
set_option maxHeartbeats 3200000
namespace LS
open PySem PySem.W PyProof.Rows
abbrev noSet (w : World) : Obj := freshSet (!(w.params.followText "set-order"))
section
variable {prog : Program} {w : World} {A : Around} {E : Value → Shared → Prop} {s : Shared}
theorem fits0 (led : Bool) : (SetTable.fresh 0 0 led).fits (#[] : Array (Int × Value)).size = true := by cases led <;> decide +kernel
theorem room0 {S : Addr} {m : Nat} {Q : Unit → Shared → Prop} (hS : s.heap.get? S = some (noSet w)) (hm : m = 0) (h : Q () s) : wpAny (model prog w) A (setRoomFor S m) Q E s := by
  subst hm
  unfold setRoomFor
  refine wpAny_bind (wpAny_setState_of hS rfl (fits0 _) ?_)
  exact wpAny_pure h
theorem upd_dict0 {d S : Addr} {od : Obj} {ep : Nat} {Q : Unit → Shared → Prop} (hS : s.heap.get? S = some (noSet w)) (hod : s.heap.get? d = some od) (hxd : od.ExactDict) (hdd : od.data = .dict #[] ep) (hm : (d == sysModules) = false) (h : Q () s) :
    wpAny (model prog w) A (Builtin.Frozenset.updateFrom "set.__init__" S (.ref d)) Q E s := by
  have hT : s.TypeIs (.ref d) "dict" := ⟨od, hod, hxd.1⟩
  unfold Builtin.Frozenset.updateFrom Builtin.Frozenset.isAnySet
  have h1 := sub_dict_set
  have h2 := sub_dict_frz
  generalize hPI : setRoomFor = PI
  wp_walk
  subst hPI
  rw [hdd]
  dsimp only
  refine wpAny_pure ?_
  refine wpAny_bind (wpAny_dictEntries hod hdd ?_)
  refine wpAny_bind (room0 hS rfl ?_)
  refine wpAny_bind (wpAny_dictEntries hod hdd ?_)
  refine wpAny_bind ?_
  rw [Std.Legacy.Range.forIn_eq_forIn_range']; simp only [Std.Legacy.Range.size, Nat.sub_zero, Nat.add_sub_cancel, Nat.div_one]
  refine wpAny_forIn_list _ (fun rest _ s' => rest = [] ∧ s' = s) _ ?_ ?_ _ _ ⟨rfl, rfl⟩
  · rintro x rest b s' ⟨z, _⟩
    cases z
  · rintro b s' ⟨_, rfl⟩
    exact wpAny_pure h
theorem merge0 {a b : Addr} {each : Sem Unit} {Q : Unit → Shared → Prop} (hb : s.heap.get? b = some (noSet w)) (hab : a ≠ b) (h : Q () s) : wpAny (model prog w) A (setMerge a b each) Q E s := by
  unfold setMerge
  rw [if_neg (by simpa using hab)]
  refine wpAny_bind (wpAny_setState_of hb rfl (fits0 _) ?_)
  exact wpAny_pure h
theorem set_union0 {l r : Addr} {Q : Value → Shared → Prop} (hl : s.heap.get? l = some (noSet w)) (hr : s.heap.get? r = some (noSet w)) (hlr : l ≠ r)
    (h : Q (.ref s.heap.objs.size) { s with heap := s.heap.push (noSet w) }) :
    wpAny (model prog w) A (binaryOp .BitOr (.ref l) (.ref r)) Q E s := by
  have hTl : s.TypeIs (.ref l) "set" := ⟨_, hl, rfl⟩
  have hTr : s.TypeIs (.ref r) "set" := ⟨_, hr, rfl⟩
  refine wpAny_binaryOp_same (T := "set") (op := .BitOr) hTl hTr PySem.F.fills_set_or PySem.F.slot_set_or (wpAny_call_entry PySem.F.slot_set_or hTl entry_set_or ?_ (PySem.F.args_set_or_2 _ _))
  show wpAny _ _ (Builtin.Frozenset.slot1 "__or__" ⟨[.ref l, .ref r], []⟩ >>= _) _ _ _
  unfold Builtin.Frozenset.slot1 slotArgs
  simp only [List.isEmpty_nil, Bool.not_true, Bool.false_eq_true, ↓reduceIte, bind_assoc, List.length_cons, List.length_nil, Nat.zero_add, bne_self_eq_false]
  refine wpAny_bind (wpAny_pure ?_); dsimp only
  refine wpAny_bind (wpAny_pure ?_); dsimp only
  refine wpAny_bind ?_
  unfold andM
  refine wpAny_bind (isSet hTl ?_)
  show wpAny _ _ (Builtin.Frozenset.isAnySet (.ref r)) _ _ _
  refine isSet hTr ?_
  simp only [Bool.not_true, Bool.false_eq_true, if_false]; show wpAny _ _ (pure l >>= _) _ _ _
  refine wpAny_bind (wpAny_pure ?_); refine wpAny_bind ?_
  show wpAny _ _ (Builtin.Frozenset.copyOf l >>= _) _ _ _
  have k0 : ∀ b o, s.heap.get? b = some o → (s.heap.push (noSet w)).get? b = some o := fun b o e => Heap.get?_push_of_some _ e
  refine wpAny_bind ?_
  unfold Builtin.Frozenset.copyOf Builtin.Frozenset.baseOf
  refine wpAny_bind (wpAny_bind (wpAny_isInstance hTl sub_set_self ?_))
  simp only [if_true]
  refine wpAny_pure ?_
  refine wpAny_bind (new_set fun led hled => ?_)
  subst hled
  show wpAny _ _ (pure s.heap.objs.size >>= _) _ _ _
  refine wpAny_bind (wpAny_pure ?_)
  refine wpAny_bind (merge0 (s := { s with heap := s.heap.push (noSet w) }) (k0 _ _ hl) (Nat.ne_of_gt (Heap.lt_size hl)) (wpAny_pure ?_))
  rw [if_pos (by
    have : r ≠ l := Ne.symm hlr
    simpa using this)]
  show wpAny _ _ (pure s.heap.objs.size >>= _) _ _ _
  refine wpAny_bind (wpAny_pure ?_); refine wpAny_bind (wpAny_holding ?_)
  unfold Builtin.Frozenset.updateFrom
  refine wpAny_bind (isSet (s := { s with heap := s.heap.push (noSet w) }) ⟨_, k0 _ _ hr, rfl⟩ ?_)
  simp only [if_true]
  show wpAny _ _ (pure r >>= _) _ _ _
  refine wpAny_bind (wpAny_pure ?_); unfold Builtin.Frozenset.merge
  refine wpAny_bind (wpAny_setEpoch_of (s := { s with heap := s.heap.push (noSet w) }) (k0 _ _ hr) rfl (fits0 _) ?_)
  refine merge0 (s := { s with heap := s.heap.push (noSet w) }) (k0 _ _ hr) (Nat.ne_of_gt (Heap.lt_size hr)) (wpAny_pure ?_)
  exact wpAny_pure ⟨_, rfl, (by intro z; cases z), h⟩
theorem upd_list0 {p S : Addr} {Q : Unit → Shared → Prop} (hh : A.handled = none) (hS : s.heap.get? S = some (noSet w)) (hp : s.heap.IsList p #[])
    (h : ∀ s', (∀ b o, s.heap.get? b = some o → s'.heap.get? b = some o) → s'.gens = s.gens → s'.os = s.os → s'.drawn = s.drawn → Q () s') :
    wpAny (model prog w) A (Builtin.Frozenset.updateFrom "set.__init__" S (.ref p)) Q E s := by
  have hT := hp.typeIs
  have hp0 := hp
  obtain ⟨op, hop, hcp, np, hdp⟩ := hp
  have hlt := Heap.lt_size hop
  unfold Builtin.Frozenset.updateFrom Builtin.Frozenset.isAnySet
  have q1 := PySem.F.sub_list_set
  have q2 := PySem.F.sub_list_frozenset
  have q3 : (Value.type "list" == Value.type "dict") = false := by decide
  generalize hPI : pyIter = PI
  wp_walk
  subst hPI
  refine wpAny_pyIter_list hp0 ?_
  refine wpAny_bind (wpAny_runValue ?_); generalize hoi : ({ cls := Value.type "list_iterator", data := Data.fields #[Value.ref p, Value.int 0 0] } : Obj) = oI
  have k1 : ∀ b o, s.heap.get? b = some o → (s.heap.push oI).get? b = some o := fun b o e => Heap.get?_push_of_some _ e
  have W : WalksS prog w A.in1 s.heap.objs.size [s.heap.objs.size, p] [s.heap.objs.size] (fun a b => b = a) (#[] : Array Value).size (fun i v => (#[] : Array Value)[i]? = some v) (fun i s' => s'.heap.IsListIter s.heap.objs.size p i ∧ s'.heap.IsList p #[]) := (Walks.list (A := A.in1) hh s.heap.objs.size p (Nat.ne_of_lt hlt) #[]).toS
  refine codeAny_builtin PyProof.Rows.F.entry_set_update_loop ?_
  rw [Around.under_plainId PyProof.Rows.F.plain_set_update_loop _]
  show wpAny _ A.in1 (pyNext (.ref s.heap.objs.size) >>= _) _ _ { s with heap := s.heap.push oI }
  refine wpAny_bind (W.done { s with heap := s.heap.push oI } _ _ ⟨⟨oI, Heap.get?_push_size _ (by rw [← hoi]; rfl), by rw [← hoi], by rw [← hoi]; rfl⟩, ⟨op, k1 _ _ hop, hcp, np, hdp⟩⟩ fun s' hm => ?_)
  refine wpAny_pure (wpAny_pure ?_)
  exact h s' (fun b o e => hm.heap b o (by simpa using Nat.ne_of_lt (Heap.lt_size e)) (k1 b o e)) hm.gens hm.os hm.drawn
theorem next0 {S : Addr} {R : Option (Value × Nat) → Shared → Prop} (hS : s.heap.get? S = some (noSet w)) (h : R none s) : wpAny (model prog w) A (setNext S 0 0 0) R E s := by
  cases hb : w.params.followText "set-order" with
  | true =>
    refine text_walk hS rfl (fits0 _) hb ?_
    rw [Array.getElem?_eq_none (by
      have := (pick_perm (w.params.setOrder S 0) (#[] : Array (Int × Value))).length_eq
      simp at this
      simp [this])]
    exact h
  | false =>
    refine small_walk hS rfl (fits0 _) hb (by rw [hb]; rfl) (Nat.zero_le _) ?_
    exact h
theorem walk0 {I S : Addr} (hh : A.handled = none) (hIS : S ≠ I) :
    WalksS prog w A I [I, S] [I] (fun a b => b = a) 0 (fun _ _ => False) (fun i s => s.heap.get? I = some (itObj (.int 0 0) 0 S 0 0) ∧ s.heap.get? S = some (noSet w)) where
  sub := fun b hb => by rw [List.mem_singleton.mp hb]; simp
  grefl := fun _ => rfl; gtrans := fun _ _ _ h1 h2 => h2.trans h1
  frame := fun i s h' tk st _ hk => ⟨hk I (by simp) _ st.1, hk S (by simp) _ st.2⟩
  item := fun i s Q E hi => absurd hi (Nat.not_lt_zero _)
  done := fun s Q E st hQ => by
    obtain ⟨hI, hS⟩ := st
    exact end_small hh hI hS rfl (fits0 _) rfl (fun R E' r => next0 hS r) fun h' e => hQ _ ⟨fun b ob hb q => e b ob (fun z => hb (by simp [z])) q, rfl, rfl, rfl, Nat.le_refl _⟩
  self := fun i s Q E st hQ => by
    obtain ⟨hI, _⟩ := st
    have hTy : s.TypeIs (.ref I) "set_iterator" := ⟨_, hI, rfl⟩
    refine wpAny_pyIter_slot hTy slot_sit_iter (wpAny_call_entry slot_sit_iter hTy entry_sit_iter ?_ (args_sit_iter _))
    show wpAny _ _ (ret (.ref I)) _ _ s
    exact wpAny_pure ⟨_, rfl, "set_iterator", _, hTy, slot_sit_next.lookup, hQ⟩
theorem iter0 {S : Addr} {Q : Value → Shared → Prop} (hS : s.heap.get? S = some (noSet w)) (h : Q (.ref s.heap.objs.size) { s with heap := s.heap.push (itObj (.int 0 0) 0 S 0 0) }) :
    wpAny (model prog w) A (pyIter (.ref S)) Q E s := by
  have hTy : s.TypeIs (.ref S) "set" := ⟨_, hS, rfl⟩
  refine wpAny_pyIter_slot hTy PySem.F.slot_set_iter (wpAny_call_entry PySem.F.slot_set_iter hTy entry_set_iter ?_ (PySem.F.args_set_iter_1 _))
  unfold Builtin.«frozenset.__iter__» Builtin.Frozenset.slot0 slotArgs
  simp only [List.isEmpty_nil, Bool.not_true, Bool.false_eq_true, ↓reduceIte, bind_assoc, List.length_nil, bne_self_eq_false]; refine wpAny_bind (wpAny_pure ?_)
  show wpAny _ _ (pure S >>= _) _ _ _
  refine wpAny_bind (wpAny_pure ?_); unfold Builtin.Frozenset.sizeOf
  refine wpAny_bind (wpAny_bind (wpAny_setEntries_of hS rfl (fits0 _) (wpAny_pure ?_)))
  unfold setDrawn setsByText
  refine wpAny_bind (wpAny_bind (wpAny_setState_of hS rfl (fits0 _) ?_))
  dsimp only
  refine wpAny_bind (wpAny_bind (wpAny_askSetting (wpAny_pure ?_))); refine wpAny_pure ?_
  show wpAny _ _ (if (!(w.params.followText "set-order") && (!(SetTable.fresh 0 0 (!w.params.followText "set-order")).plain && decide ((#[] : Array (Int × Value)).size > 1))) = true then _ else _) _ _ _
  rw [if_neg (by simp)]
  refine wpAny_bind (wpAny_pure ?_); refine wpAny_bind (wpAny_setEpoch_of hS rfl (fits0 _) ?_)
  refine wpAny_bind (wpAny_newObj_type ?_)
  refine wpAny_pure ⟨_, rfl, "set_iterator", _, ⟨_, Heap.get?_push_size _ rfl, rfl⟩, slot_sit_next.lookup, h⟩
theorem collect0 {S : Addr} {Q : List Value → Shared → Prop} (hh : A.handled = none) (hS : s.heap.get? S = some (noSet w))
    (h : ∀ s', (∀ b ob, s.heap.get? b = some ob → s'.heap.get? b = some ob) → s.heap.objs.size ≤ s'.heap.objs.size → s'.gens = s.gens → s'.os = s.os → Q [] s') :
    wpAny (model prog w) A (collect (.ref S)) Q E s := by
  have hTy : s.TypeIs (.ref S) "set" := ⟨_, hS, rfl⟩
  have hlt := Heap.lt_size hS
  unfold collect
  refine wpAny_bind (wpAny_runValue (codeAny_builtin PySem.F.entry_proto_collect ?_))
  rw [Around.under_plainId PySem.F.plain_proto_collect _]; show wpAny _ A.in1 (newList [] >>= fun l => again (.builtin "list.__iadd__" ⟨[l, .ref S], []⟩)) _ _ s
  refine wpAny_bind (wpAny_newObj_type ?_); refine wpAny_pure ⟨plainId_quiet PySem.F.plain_list_iadd _, codeAny_builtin PySem.F.entry_list_iadd ?_⟩
  rw [Around.under_plainId PySem.F.plain_list_iadd _]; generalize hL : ({ cls := Value.type "list", data := Data.seq ([] : List Value).toArray } : Obj) = oL
  have k1 : ∀ b ob, s.heap.get? b = some ob → (s.heap.push oL).get? b = some ob := fun b ob e => Heap.get?_push_of_some _ e
  have hL1 : (s.heap.push oL).get? s.heap.objs.size = some oL := Heap.get?_push_size _ (by rw [← hL]; rfl)
  have hS1 := k1 _ _ hS
  have sz1 : (s.heap.push oL).objs.size = s.heap.objs.size + 1 := Heap.size_push _ _
  have hTy1 : Shared.TypeIs { s with heap := s.heap.push oL } (.ref S) "set" := ⟨_, hS1, rfl⟩
  show wpAny _ A.in1 (Builtin.List.listExtendWith (.ref s.heap.objs.size) (.ref S) (.ref s.heap.objs.size)) _ _ _
  unfold Builtin.List.listExtendWith; refine wpAny_bind (wpAny_typeOf hTy1 ?_)
  have q1 : Builtin.List.listSameRef (.ref s.heap.objs.size) (.ref S) = false := by
    have : s.heap.objs.size ≠ S := Nat.ne_of_gt hlt
    simp [Builtin.List.listSameRef, this]
  rw [if_neg (by rw [q1]; decide)]
  refine wpAny_bind (iter0 (s := { s with heap := s.heap.push oL }) hS1 ?_)
  generalize hIe : (s.heap.push oL).objs.size = I
  have hI1 : s.heap.objs.size + 1 = I := by rw [← hIe, sz1]
  have k2 : ∀ b ob, (s.heap.push oL).get? b = some ob → ((s.heap.push oL).push (itObj (.int 0 0) 0 S 0 0)).get? b = some ob := fun b ob e => Heap.get?_push_of_some _ e
  have hI2 : ((s.heap.push oL).push (itObj (.int 0 0) 0 S 0 0)).get? I = some (itObj (.int 0 0) 0 S 0 0) := by rw [← hIe]; exact Heap.get?_push_size _ rfl
  show wpAny _ _ _ _ _ { s with heap := (s.heap.push oL).push (itObj (.int 0 0) 0 S 0 0) }
  generalize (s.heap.push oL).push (itObj (.int 0 0) 0 S 0 0) = h2 at k2 hI2 ⊢
  have hS2 := k2 _ _ hS1
  have hTy2 : Shared.TypeIs { s with heap := h2 } (.ref S) "set" := ⟨_, hS2, rfl⟩
  refine wpAny_bind (wpAny_holding ?_); unfold Builtin.List.listLengthHint
  refine wpAny_bind (wpAny_specialOf hTy2 PySem.F.slot_set_len.lookup ?_)
  generalize hid : ("set.__len__" : String) = name0
  wp_delta
  have hsp : splitId name0 = some ("set", "__len__") := by subst hid; decide +kernel
  rw [hsp]
  subst hid
  show wpAny _ _ (isInstance (Value.ref S) (Value.type "set") >>= _) _ _ _
  refine wpAny_bind (wpAny_isInstance hTy2 sub_set_self ?_)
  show wpAny _ _ (typeOf (Value.ref S) >>= _) _ _ _
  refine wpAny_bind (wpAny_typeOf hTy2 ?_)
  refine wpAny_pure ?_
  show wpAny _ A.in1 (rule "list.extend.makes-room" >>= fun _ => Builtin.List.listTouch (.ref s.heap.objs.size) >>= fun _ => again (.builtin "list.extend.loop" ⟨[.ref s.heap.objs.size, .ref I, .ref s.heap.objs.size], []⟩)) _ _ _
  refine wpAny_bind (wpAny_rule ?_); have hL2 : h2.get? s.heap.objs.size = some oL := k2 _ _ hL1
  refine wpAny_bind ?_
  show wpAny _ A.in1 (updateSeq s.heap.objs.size (·.push .none) >>= fun _ => updateSeq s.heap.objs.size (·.pop)) _ _ _; refine wpAny_bind (wpAny_updateSeq (s := { s with heap := h2 }) hL2 (by rw [← hL]) ?_)
  have hL3 := Heap.get?_update_self (Obj.mapSeq (·.push Value.none)) hL2 (by rw [← hL]; rfl)
  have sb3 := Heap.SameBut.update h2 s.heap.objs.size (Obj.mapSeq (·.push Value.none))
  generalize h2.update s.heap.objs.size (Obj.mapSeq (·.push Value.none)) = h3 at hL3 sb3 ⊢
  refine wpAny_updateSeq (s := { s with heap := h3 }) hL3 (by rw [← hL]; rfl) ?_
  have hL4 := Heap.get?_update_self (Obj.mapSeq (·.pop)) hL3 (by rw [← hL]; rfl)
  have sb4 := Heap.SameBut.update h3 s.heap.objs.size (Obj.mapSeq (·.pop))
  generalize h3.update s.heap.objs.size (Obj.mapSeq (·.pop)) = h4 at hL4 sb4 ⊢
  have sb := sb3.trans sb4
  have hIL : I ≠ s.heap.objs.size := by omega
  have hSL : S ≠ s.heap.objs.size := Nat.ne_of_lt hlt
  have hSI : S ≠ I := by rw [← hI1]; exact Nat.ne_of_lt (Nat.lt_succ_of_lt hlt)
  have W := walk0 (prog := prog) (w := w) (A := A.in1) hh hSI
  subst hL
  refine wpAny_pure ⟨plainId_quiet PySem.F.plain_extend_loop _, codeAny_extend_loopS W (Nat.zero_le _) s.heap.objs.size (by simp only [List.mem_cons, List.not_mem_nil, or_false, not_or]; exact ⟨Ne.symm hIL, Ne.symm hSL⟩) _ 0 0 { s with heap := h4 } #[] _ rfl (Nat.zero_le _) ⟨(sb.2 I hIL).trans hI2, (sb.2 S hSL).trans hS2⟩ (hL4.trans rfl) (ItemsOf.nil _) fun s' acc c hm hS' hacc => ?_⟩
  show wpAny _ A (load s.heap.objs.size >>= _) _ _ s'; refine wpAny_bind (wpAny_load hS' (wpAny_pure ?_))
  have eacc : acc.toList = [] := by
    have := hacc.1
    cases acc
    simpa using this
  rw [eacc]
  refine h s' (fun b ob e => ?_) (Nat.le_of_lt (Heap.lt_size hS')) hm.gens hm.os
  have hb := Heap.lt_size e
  refine hm.heap b ob ?_ ((sb.2 b (Nat.ne_of_lt hb)).trans (k2 _ _ (k1 _ _ e)))
  simp only [List.mem_cons, List.not_mem_nil, or_false, not_or]
  exact ⟨Nat.ne_of_lt hb, by rw [← hI1]; exact Nat.ne_of_lt (Nat.lt_succ_of_lt hb)⟩
theorem sort0 {a : Addr} {n : Nat} {P : PySem.Fin → Shared → Prop} (ho : s.heap.get? a = some (seqObj "list" #[] n))
    (h : ∀ h' e, Heap.ExtBut a s.heap h' → h'.get? a = some (seqObj "list" #[] e) → P (.done (.ret .none)) { s with heap := h' }) : wpAny (model prog w) A (Builtin.«list.sort» ⟨[.ref a], []⟩) P E s := by
  rw [list_sort_plain]
  refine wpAny_bind (listItems_at ho rfl ?_)
  refine wpAny_bind (listUpdate_at ho rfl ?_ (Nat.zero_le _) (Nat.zero_le _)); obtain ⟨e1, ho1⟩ : ∃ e1, (s.heap.update a (Obj.mapSeq fun _ => (#[] : Array Value))).get? a = some (seqObj "list" #[] e1) := ⟨_, get?_update_seq ho fun _ => #[]⟩
  have sb1 := Heap.SameBut.update s.heap a (Obj.mapSeq fun _ => (#[] : Array Value))
  generalize s.heap.update a (Obj.mapSeq fun _ => (#[] : Array Value)) = h1 at ho1 sb1 ⊢
  refine wpAny_bind (seqEpoch_at (s := { s with heap := h1 }) ho1 rfl ?_)
  refine wpAny_bind (wpAny_newTuple ?_ (Nat.zero_le _)); refine wpAny_bind (wpAny_newList ?_ (Nat.zero_le _))
  refine wpAny_holding ?_
  dsimp only
  generalize hot : ({ cls := Value.type "tuple", data := Data.seq (#[] : Array Value).toList.toArray } : Obj) = oT
  generalize hol : ({ cls := Value.type "list", data := Data.seq ([] : List Value).toArray } : Obj) = oL
  have k2 : ∀ b o, h1.get? b = some o → ((h1.push oT).push oL).get? b = some o := fun b o e => Heap.get?_push_of_some _ (Heap.get?_push_of_some _ e)
  have ho2 := k2 _ _ ho1
  have ext : Heap.ExtBut a s.heap ((h1.push oT).push oL) := fun b o hb e => k2 b o ((sb1.2 b hb).trans e)
  generalize (h1.push oT).push oL = h2 at k2 ho2 ext ⊢
  have z2 : (#[] : Array Value).size < 2 := by decide
  rw [if_pos z2]
  refine wpAny_bind (wpAny_pure ?_); rw [if_pos z2, StateT.run_pure]
  refine wpAny_bind (wpAny_pure ?_); dsimp only
  refine wpAny_bind (seqEpoch_at (s := { s with heap := h2 }) ho2 rfl ?_)
  have za : (arrOf (SortSt.mk' general' ((#[] : Array Value).zip (#[] : Array Value)) #[] 7 none)).map (fun x : Value × Value => x.2) = #[] := by first | rfl | simp [arrOf, SortSt.mk']
  rw [za]
  refine wpAny_bind (listUpdate_at (s := { s with heap := h2 }) ho2 rfl ?_ (Nat.zero_le _) (Nat.zero_le _))
  simp only [bne_self_eq_false, Bool.false_eq_true, if_false]; obtain ⟨e3, ho3⟩ : ∃ e3, (h2.update a (Obj.mapSeq fun _ => (#[] : Array Value))).get? a = some (seqObj "list" #[] e3) := ⟨_, get?_update_seq ho2 fun _ => #[]⟩
  have sb3 := Heap.SameBut.update h2 a (Obj.mapSeq fun _ => (#[] : Array Value))
  exact wpAny_pure (h _ e3 (ext.trans sb3.extBut) ho3)
theorem sorted_set0 {S : Addr} {Q : Value → Shared → Prop} (hh : A.handled = none) (hS : s.heap.get? S = some (noSet w))
    (h : ∀ s' l e, (∀ b ob, s.heap.get? b = some ob → s'.heap.get? b = some ob) → s'.gens = s.gens → s'.os = s.os → s.heap.objs.size ≤ l → s'.heap.get? l = some (seqObj "list" #[] e) → Q (.ref l) s') :
    wpAny (model prog w) A (call (.builtin "sorted") [.ref S]) Q E s := by
  refine Calls.call_function_entry kind_sorted plain_sorted entry_sorted (args_sorted1 _) ?_; unfold Builtin.«sorted»
  refine wpAny_bind (m := checkCount "sorted" 1 1 _) (wpAny_pure ?_); refine wpAny_bind (collect0 (A := A.in1) hh hS fun s1 k1 le1 g1 o1 => ?_)
  refine wpAny_bind (wpAny_newList ?_ (Nat.zero_le _))
  have hoL : (s1.heap.push (seqObj "list" #[] 0)).get? s1.heap.objs.size = some (seqObj "list" #[] 0) := Heap.get?_push_size _ rfl
  have k2 : ∀ b ob, s.heap.get? b = some ob → (s1.heap.push (seqObj "list" #[] 0)).get? b = some ob := fun b ob e => Heap.get?_push_of_some _ (k1 b ob e)
  refine wpAny_bind (wpAny_holding (wpAny_call_entry slot_list_sort ⟨_, hoL, rfl⟩ entry_list_sort (sort0 (s := { s1 with heap := s1.heap.push (seqObj "list" #[] 0) }) hoL fun h' e ext ho' => ⟨_, rfl, ?_⟩) (args_list_sort _)))
  refine wpAny_pure ⟨_, rfl, h _ _ e (fun b ob eb => ?_) g1 o1 le1 ho'⟩
  exact ext b ob (Nat.ne_of_lt (Heap.lt_size (k1 b ob eb))) (k2 b ob eb)
end
end LS
namespace L2
open PySem PySem.Spec PyProof.Rows LS
def setN (w : World) (a : Addr) : HO := .ext fun h => h.get? a = some (noSet w)
section
variable {X : Cx} {pins : List (Addr × Obj)} {σ : St} {H : Hp} {s : Shared}
theorem setN_ok {P : Program} {w : World} {H' : Hp} {h : Heap} {a : Addr} (x : h.get? a = some (noSet w)) : ObjOk P w H' h a (setN w a) := ⟨x, ⟨_, x⟩, fun g1 g2 e k => k _ e⟩
theorem call_setD0 : CallR X (.type "set") (fun xs H Q => ∃ d, xs = [V.ref d] ∧ H d = some (.dT []) ∧ ∀ p, H p = none → Q (.ref p) (upd H p (setN X.w p))) := by
  intro pins s σ H xs us Q I r h
  obtain ⟨d, rfl, hd, q⟩ := h
  obtain ⟨u, rfl, rx⟩ := vals1 r
  cases rx
  refine set_of fun led A' hled hA hH => ?_
  subst hled
  have k0 : ∀ b o, s.heap.get? b = some o → (s.heap.push (noSet X.w)).get? b = some o := fun b o e => Heap.get?_push_of_some _ e
  have hS : (s.heap.push (noSet X.w)).get? s.heap.objs.size = some (noSet X.w) := Heap.get?_push_size _ rfl
  obtain ⟨z1, z2, ys, rel, o, es, ep, h1, h2, h3, h4, h5⟩ := (show ObjOk X.prog X.w H s.heap d (.dT []) from I.hok d _ hd)
  cases rel
  have he : es = #[] := by cases es; simpa using h4
  subst he
  refine upd_dict0 (s := { s with heap := s.heap.push (noSet X.w) }) hS (k0 _ _ h1) h2 h3 z2 ?_
  exact ⟨.ref s.heap.objs.size, _, I.laid (t' := s.toks) k0 (Nat.le_refl _) (setN_ok hS), rfl, q _ (I.hok.fresh (Nat.le_refl _))⟩
theorem call_setL0 (hc : X.calm = true) : CallR X (.type "set") (fun xs H Q => ∃ l, xs = [V.ref l] ∧ H l = some (.lst []) ∧ ∀ p, H p = none → Q (.ref p) (upd H p (setN X.w p))) := by
  intro pins s σ H xs us Q I r h
  obtain ⟨l, rfl, hl, q⟩ := h
  obtain ⟨u, rfl, rx⟩ := vals1 r
  cases rx
  refine set_of fun led A' hled hA hH => ?_
  subst hled
  have k0 : ∀ b o, s.heap.get? b = some o → (s.heap.push (noSet X.w)).get? b = some o := fun b o e => Heap.get?_push_of_some _ e
  have hS : (s.heap.push (noSet X.w)).get? s.heap.objs.size = some (noSet X.w) := Heap.get?_push_size _ rfl
  obtain ⟨_, its, n, rv, e1⟩ := (show ObjOk X.prog X.w H _ l (.lst []) from I.hok l _ hl)
  cases rv
  refine upd_list0 (s := { s with heap := s.heap.push (noSet X.w) }) (p := l) (by rw [hH]; exact I.ok.hd hc) hS ⟨_, k0 _ _ e1, rfl, _, rfl⟩ fun s' kp g o d => ?_
  have keep : ∀ b o, s.heap.get? b = some o → s'.heap.get? b = some o := fun b o e => kp b o (k0 b o e)
  have I1 : Inv X pins σ (upd H s.heap.objs.size (setN X.w s.heap.objs.size)) { s with heap := s'.heap, toks := s'.toks } := I.laid (t' := s'.toks) keep (Nat.le_refl _) (setN_ok (kp _ _ hS))
  have es : s' = { s with heap := s'.heap, toks := s'.toks } := by
    cases s'
    simp only at g o d ⊢
    rw [g, o, d]
  refine ⟨.ref s.heap.objs.size, _, ?_, rfl, q _ (I.hok.fresh (Nat.le_refl _))⟩
  rw [es]
  exact I1
theorem op_setOr0 : OpR X (binaryOp .BitOr) (fun x y H Q => ∃ a b, x = V.ref a ∧ y = V.ref b ∧ H a = some (setN X.w a) ∧ H b = some (setN X.w b) ∧ a ≠ b ∧ ∀ p, H p = none → Q (.ref p) (upd H p (setN X.w p))) := by
  intro pins s σ H x y v u Q I rx ry h
  obtain ⟨a, b, rfl, rfl, ha, hb, hab, q⟩ := h
  cases rx
  cases ry
  refine set_union0 (I.hok _ _ ha).1 (I.hok _ _ hb).1 hab ?_
  exact ⟨.ref s.heap.objs.size, _, I.laid (t' := s.toks) (fun b o e => Heap.get?_push_of_some _ e) (Nat.le_refl _) (setN_ok (Heap.get?_push_size _ rfl)), rfl, q _ (I.hok.fresh (Nat.le_refl _))⟩
theorem call_sortS0 (hc : X.calm = true) : CallR X (.builtin "sorted") (fun xs H Q => ∃ a, xs = [V.ref a] ∧ H a = some (setN X.w a) ∧ ∀ p, H p = none → Q (.ref p) (upd H p (.lst []))) := by
  intro pins s σ H xs us Q I r h
  obtain ⟨a, rfl, ha, q⟩ := h
  obtain ⟨u, rfl, rx⟩ := vals1 r
  cases rx
  refine sorted_set0 (I.ok.hd hc) (I.hok _ _ ha).1 fun s' l e keep hg hos hl hol => ?_
  have I1 : Inv X pins σ (upd H l (.lst [])) { s with heap := s'.heap, toks := s'.toks } := I.laid (t' := s'.toks) keep hl ⟨Nat.zero_le _, [], e, .nil, hol⟩
  have es : s' = { ({ s with heap := s'.heap, toks := s'.toks } : Shared) with drawn := s'.drawn } := by
    cases s'
    simp only at hg hos ⊢
    rw [hg, hos]
  refine ⟨.ref l, _, ?_, rfl, q l (I.hok.fresh hl)⟩
  rw [es]
  exact I1.redrawn _
theorem call_lenS0 : CallR X (.builtin "len") (fun xs H Q => ∃ a, xs = [V.ref a] ∧ H a = some (setN X.w a) ∧ Q (.int 0) H) := by
  intro pins s σ H xs us Q I r h
  obtain ⟨a, rfl, ha, q⟩ := h
  obtain ⟨u, rfl, rx⟩ := vals1 r
  cases rx
  exact call_len_set (I.hok _ _ ha).1 ⟨rfl, rfl, rfl⟩ rfl (fits0 _) (by decide) ⟨.int 0, H, I.tok _, ⟨s.toks + 1, rfl⟩, q⟩
end
end L2
set_option maxRecDepth 100000
set_option maxHeartbeats 4000000
namespace My
open PySem L2
def top (i : Nat) : Stmt := PySem.Challenge.pw_lampcues_k40_refused_deeds.main.body.getD i (.Pass ⟨0, 0, 0, 0⟩)
abbrev s_is_whole : Stmt := (top 11)
abbrev s_is_time : Stmt := (top 14)
abbrev s_is_cue_number : Stmt := (top 28)
abbrev s_has_slots_as_keys : Stmt := (top 29)
abbrev s_Part_init : Stmt := (inClass (top 30) 0)
abbrev s_Part_told_slots : Stmt := (inClass (top 30) 1)
abbrev s_is_part_list : Stmt := (top 31)
abbrev s_Cue_init : Stmt := (inClass (top 32) 0)
abbrev s_cue_list : Stmt := (top 33)
abbrev s_checked : Stmt := (top 35)
abbrev s_above : Stmt := (top 39)
abbrev s_below : Stmt := (top 40)
abbrev s_cue_at : Stmt := (top 41)
abbrev s_Walk_init : Stmt := (inClass (top 43) 0)
abbrev s_Walk_clock_top : Stmt := (inClass (top 43) 1)
abbrev s_Walk_note : Stmt := (inClass (top 43) 2)
abbrev s_Walk_arrive : Stmt := (inClass (top 43) 4)
abbrev s_Walk_come_to : Stmt := (inClass (top 43) 3)
abbrev s_Walk_on : Stmt := (inClass (top 43) 9)
abbrev s_Walk_stop : Stmt := (inClass (top 43) 8)
abbrev s_has_cue : Stmt := (top 44)
abbrev s_Walk_goto : Stmt := (inClass (top 43) 6)
abbrev s_Walk_go : Stmt := (inClass (top 43) 5)
abbrev s_Walk_back : Stmt := (inClass (top 43) 7)
abbrev s_do_deed : Stmt := (top 45)
abbrev s_refuse_falling : Stmt := (top 46)
abbrev s_rows_of : Stmt := (top 47)
abbrev s_put_in : Stmt := (top 36)
abbrev s_carried : Stmt := (top 37)
abbrev s_shown : Stmt := (top 38)
abbrev s_Step_init : Stmt := (inClass (top 54) 0)
abbrev s_steps_of : Stmt := (top 55)
abbrev s_tell_rows : Stmt := (top 57)
abbrev s_look_at : Stmt := (top 58)
abbrev s_told : Stmt := (top 59)
abbrev s_law_cell_at : Stmt := (top 61)
abbrev s_law_mixed : Stmt := (top 63)
abbrev s_law_time : Stmt := (top 64)
abbrev s_law_numbers : Stmt := (top 65)
abbrev s_law_deeds : Stmt := (top 66)
abbrev s_law_fallen : Stmt := (top 67)
abbrev s_law_truths : Stmt := (top 68)
abbrev s_law : Stmt := (top 69)
structure Adr where
  f_is_whole : Addr
  d_is_whole : FuncData
  f_is_time : Addr
  d_is_time : FuncData
  f_is_cue_number : Addr
  d_is_cue_number : FuncData
  f_has_slots_as_keys : Addr
  d_has_slots_as_keys : FuncData
  f_Part_init : Addr
  d_Part_init : FuncData
  T_Part_init : Addr
  D_Part_init : List Value
  f_Part_told_slots : Addr
  d_Part_told_slots : FuncData
  f_is_part_list : Addr
  d_is_part_list : FuncData
  f_Cue_init : Addr
  d_Cue_init : FuncData
  T_Cue_init : Addr
  D_Cue_init : List Value
  f_cue_list : Addr
  d_cue_list : FuncData
  f_checked : Addr
  d_checked : FuncData
  f_above : Addr
  d_above : FuncData
  f_below : Addr
  d_below : FuncData
  f_cue_at : Addr
  d_cue_at : FuncData
  f_Walk_init : Addr
  d_Walk_init : FuncData
  f_Walk_clock_top : Addr
  d_Walk_clock_top : FuncData
  T_Walk_clock_top : Addr
  D_Walk_clock_top : List Value
  f_Walk_note : Addr
  d_Walk_note : FuncData
  f_Walk_arrive : Addr
  d_Walk_arrive : FuncData
  f_Walk_come_to : Addr
  d_Walk_come_to : FuncData
  T_Walk_come_to : Addr
  D_Walk_come_to : List Value
  f_Walk_on : Addr
  d_Walk_on : FuncData
  f_Walk_stop : Addr
  d_Walk_stop : FuncData
  f_has_cue : Addr
  d_has_cue : FuncData
  f_Walk_goto : Addr
  d_Walk_goto : FuncData
  f_Walk_go : Addr
  d_Walk_go : FuncData
  f_Walk_back : Addr
  d_Walk_back : FuncData
  f_do_deed : Addr
  d_do_deed : FuncData
  f_refuse_falling : Addr
  d_refuse_falling : FuncData
  f_rows_of : Addr
  d_rows_of : FuncData
  T_rows_of : Addr
  D_rows_of : List Value
  f_put_in : Addr
  d_put_in : FuncData
  f_carried : Addr
  d_carried : FuncData
  f_shown : Addr
  d_shown : FuncData
  f_Step_init : Addr
  d_Step_init : FuncData
  f_steps_of : Addr
  d_steps_of : FuncData
  f_tell_rows : Addr
  d_tell_rows : FuncData
  f_look_at : Addr
  d_look_at : FuncData
  f_told : Addr
  d_told : FuncData
  T_told : Addr
  D_told : List Value
  f_law_cell_at : Addr
  d_law_cell_at : FuncData
  f_law_mixed : Addr
  d_law_mixed : FuncData
  f_law_time : Addr
  d_law_time : FuncData
  f_law_numbers : Addr
  d_law_numbers : FuncData
  f_law_deeds : Addr
  d_law_deeds : FuncData
  f_law_fallen : Addr
  d_law_fallen : FuncData
  f_law_truths : Addr
  d_law_truths : FuncData
  f_law : Addr
  d_law : FuncData
  C_Part : Addr
  C_Cue : Addr
  C_Walk : Addr
  C_Step : Addr
  C_LampError : Addr
  C_NoList : Addr
  C_Late : Addr
  C_NoCue : Addr
  unit : Unit
structure Txt (K : PySem.W.Frag) (mg : Str → Option Value) (A : Adr) : Prop where
  F_is_whole : Fun K "is_whole" "is_whole" s_is_whole A.f_is_whole A.d_is_whole
  bb_is_whole : Binds K A.d_is_whole ["thing"] []
  m_is_whole : mg "is_whole" = some (.ref A.f_is_whole)
  F_is_time : Fun K "is_time" "is_time" s_is_time A.f_is_time A.d_is_time
  bb_is_time : Binds K A.d_is_time ["thing"] []
  m_is_time : mg "is_time" = some (.ref A.f_is_time)
  F_is_cue_number : Fun K "is_cue_number" "is_cue_number" s_is_cue_number A.f_is_cue_number A.d_is_cue_number
  bb_is_cue_number : Binds K A.d_is_cue_number ["thing"] []
  m_is_cue_number : mg "is_cue_number" = some (.ref A.f_is_cue_number)
  F_has_slots_as_keys : Fun K "has_slots_as_keys" "has_slots_as_keys" s_has_slots_as_keys A.f_has_slots_as_keys A.d_has_slots_as_keys
  bb_has_slots_as_keys : Binds K A.d_has_slots_as_keys ["thing"] []
  m_has_slots_as_keys : mg "has_slots_as_keys" = some (.ref A.f_has_slots_as_keys)
  F_Part_init : FunD K "__init__" "Part.__init__" s_Part_init (.ref A.T_Part_init) A.f_Part_init A.d_Part_init
  bb_Part_init : Binds K A.d_Part_init ["self", "tells", "alone", "rise", "fall", "wait"] []
  bd_Part_init : Binds K A.d_Part_init ["self", "tells", "alone", "rise", "fall", "wait"] A.D_Part_init
  dv_Part_init : Vals [V.int 0, V.int 0, V.int 0] A.D_Part_init
  kb_Part_init : KBinds K A.d_Part_init ["self", "tells", "alone", "rise", "fall", "wait"] ["rise", "fall", "wait"] (gAB 3 3) (gAB 3 3)
  M_Part : Mk K A.C_Part A.f_Part_init
  F_Part_told_slots : Fun K "told_slots" "Part.told_slots" s_Part_told_slots A.f_Part_told_slots A.d_Part_told_slots
  bb_Part_told_slots : Binds K A.d_Part_told_slots ["self"] []
  me_Part_told_slots : Meth K A.C_Part "told_slots" A.f_Part_told_slots
  F_is_part_list : Fun K "is_part_list" "is_part_list" s_is_part_list A.f_is_part_list A.d_is_part_list
  bb_is_part_list : Binds K A.d_is_part_list ["thing"] []
  m_is_part_list : mg "is_part_list" = some (.ref A.f_is_part_list)
  F_Cue_init : FunD K "__init__" "Cue.__init__" s_Cue_init (.ref A.T_Cue_init) A.f_Cue_init A.d_Cue_init
  bb_Cue_init : Binds K A.d_Cue_init ["self", "number", "parts", "stops", "follow"] []
  bd_Cue_init : Binds K A.d_Cue_init ["self", "number", "parts", "stops", "follow"] A.D_Cue_init
  dv_Cue_init : Vals [V.bl false, V.non] A.D_Cue_init
  kb_Cue_init : KBinds K A.d_Cue_init ["self", "number", "parts", "stops", "follow"] ["stops", "follow"] (gAB 3 2) (gAB 3 2)
  M_Cue : Mk K A.C_Cue A.f_Cue_init
  F_cue_list : Fun K "cue_list" "cue_list" s_cue_list A.f_cue_list A.d_cue_list
  bb_cue_list : Binds K A.d_cue_list ["cues"] []
  m_cue_list : mg "cue_list" = some (.ref A.f_cue_list)
  F_checked : Fun K "checked" "checked" s_checked A.f_checked A.d_checked
  bb_checked : Binds K A.d_checked ["cues", "number"] []
  m_checked : mg "checked" = some (.ref A.f_checked)
  F_above : Fun K "above" "above" s_above A.f_above A.d_above
  bb_above : Binds K A.d_above ["cues", "number"] []
  m_above : mg "above" = some (.ref A.f_above)
  F_below : Fun K "below" "below" s_below A.f_below A.d_below
  bb_below : Binds K A.d_below ["cues", "number"] []
  m_below : mg "below" = some (.ref A.f_below)
  F_cue_at : Fun K "cue_at" "cue_at" s_cue_at A.f_cue_at A.d_cue_at
  bb_cue_at : Binds K A.d_cue_at ["cues", "number"] []
  m_cue_at : mg "cue_at" = some (.ref A.f_cue_at)
  F_Walk_init : Fun K "__init__" "Walk.__init__" s_Walk_init A.f_Walk_init A.d_Walk_init
  bb_Walk_init : Binds K A.d_Walk_init ["self", "cues"] []
  M_Walk : Mk K A.C_Walk A.f_Walk_init
  F_Walk_clock_top : FunD K "clock_top" "Walk.clock_top" s_Walk_clock_top (.ref A.T_Walk_clock_top) A.f_Walk_clock_top A.d_Walk_clock_top
  bb_Walk_clock_top : Binds K A.d_Walk_clock_top ["self", "top", "bottom"] []
  bd_Walk_clock_top : Binds K A.d_Walk_clock_top ["self", "top", "bottom"] A.D_Walk_clock_top
  dv_Walk_clock_top : Vals [V.int 1] A.D_Walk_clock_top
  kb_Walk_clock_top : KBinds K A.d_Walk_clock_top ["self", "top", "bottom"] ["bottom"] (gAB 2 1) (gAB 2 1)
  me_Walk_clock_top : Meth K A.C_Walk "clock_top" A.f_Walk_clock_top
  F_Walk_note : Fun K "note" "Walk.note" s_Walk_note A.f_Walk_note A.d_Walk_note
  bb_Walk_note : Binds K A.d_Walk_note ["self", "clock", "word"] []
  me_Walk_note : Meth K A.C_Walk "note" A.f_Walk_note
  F_Walk_arrive : Fun K "arrive" "Walk.arrive" s_Walk_arrive A.f_Walk_arrive A.d_Walk_arrive
  bb_Walk_arrive : Binds K A.d_Walk_arrive ["self", "clock", "number"] []
  me_Walk_arrive : Meth K A.C_Walk "arrive" A.f_Walk_arrive
  F_Walk_come_to : FunD K "come_to" "Walk.come_to" s_Walk_come_to (.ref A.T_Walk_come_to) A.f_Walk_come_to A.d_Walk_come_to
  bb_Walk_come_to : Binds K A.d_Walk_come_to ["self", "top", "bottom"] []
  bd_Walk_come_to : Binds K A.d_Walk_come_to ["self", "top", "bottom"] A.D_Walk_come_to
  dv_Walk_come_to : Vals [V.int 1] A.D_Walk_come_to
  kb_Walk_come_to : KBinds K A.d_Walk_come_to ["self", "top", "bottom"] ["bottom"] (gAB 2 1) (gAB 2 1)
  me_Walk_come_to : Meth K A.C_Walk "come_to" A.f_Walk_come_to
  F_Walk_on : Fun K "on" "Walk.on" s_Walk_on A.f_Walk_on A.d_Walk_on
  bb_Walk_on : Binds K A.d_Walk_on ["self", "tick"] []
  me_Walk_on : Meth K A.C_Walk "on" A.f_Walk_on
  F_Walk_stop : Fun K "stop" "Walk.stop" s_Walk_stop A.f_Walk_stop A.d_Walk_stop
  bb_Walk_stop : Binds K A.d_Walk_stop ["self", "tick"] []
  me_Walk_stop : Meth K A.C_Walk "stop" A.f_Walk_stop
  F_has_cue : Fun K "has_cue" "has_cue" s_has_cue A.f_has_cue A.d_has_cue
  bb_has_cue : Binds K A.d_has_cue ["cues", "number"] []
  m_has_cue : mg "has_cue" = some (.ref A.f_has_cue)
  F_Walk_goto : Fun K "goto" "Walk.goto" s_Walk_goto A.f_Walk_goto A.d_Walk_goto
  bb_Walk_goto : Binds K A.d_Walk_goto ["self", "tick", "number"] []
  me_Walk_goto : Meth K A.C_Walk "goto" A.f_Walk_goto
  F_Walk_go : Fun K "go" "Walk.go" s_Walk_go A.f_Walk_go A.d_Walk_go
  bb_Walk_go : Binds K A.d_Walk_go ["self", "tick"] []
  me_Walk_go : Meth K A.C_Walk "go" A.f_Walk_go
  F_Walk_back : Fun K "back" "Walk.back" s_Walk_back A.f_Walk_back A.d_Walk_back
  bb_Walk_back : Binds K A.d_Walk_back ["self", "tick"] []
  me_Walk_back : Meth K A.C_Walk "back" A.f_Walk_back
  F_do_deed : Fun K "do_deed" "do_deed" s_do_deed A.f_do_deed A.d_do_deed
  bb_do_deed : Binds K A.d_do_deed ["walk", "deed"] []
  m_do_deed : mg "do_deed" = some (.ref A.f_do_deed)
  F_refuse_falling : Fun K "refuse_falling" "refuse_falling" s_refuse_falling A.f_refuse_falling A.d_refuse_falling
  bb_refuse_falling : Binds K A.d_refuse_falling ["deeds"] []
  m_refuse_falling : mg "refuse_falling" = some (.ref A.f_refuse_falling)
  F_rows_of : FunD K "rows_of" "rows_of" s_rows_of (.ref A.T_rows_of) A.f_rows_of A.d_rows_of
  bb_rows_of : Binds K A.d_rows_of ["cues", "deeds", "top", "bottom"] []
  bd_rows_of : Binds K A.d_rows_of ["cues", "deeds", "top", "bottom"] A.D_rows_of
  dv_rows_of : Vals [V.int 1] A.D_rows_of
  kb_rows_of : KBinds K A.d_rows_of ["cues", "deeds", "top", "bottom"] ["bottom"] (gAB 3 1) (gAB 3 1)
  m_rows_of : mg "rows_of" = some (.ref A.f_rows_of)
  F_put_in : Fun K "put_in" "put_in" s_put_in A.f_put_in A.d_put_in
  bb_put_in : Binds K A.d_put_in ["look", "told"] []
  m_put_in : mg "put_in" = some (.ref A.f_put_in)
  F_carried : Fun K "carried" "carried" s_carried A.f_carried A.d_carried
  bb_carried : Binds K A.d_carried ["cues", "number"] []
  m_carried : mg "carried" = some (.ref A.f_carried)
  F_shown : Fun K "shown" "shown" s_shown A.f_shown A.d_shown
  bb_shown : Binds K A.d_shown ["cues", "number"] []
  m_shown : mg "shown" = some (.ref A.f_shown)
  F_Step_init : Fun K "__init__" "Step.__init__" s_Step_init A.f_Step_init A.d_Step_init
  bb_Step_init : Binds K A.d_Step_init ["self", "row", "look"] []
  M_Step : Mk K A.C_Step A.f_Step_init
  F_steps_of : Fun K "steps_of" "steps_of" s_steps_of A.f_steps_of A.d_steps_of
  bb_steps_of : Binds K A.d_steps_of ["rows"] []
  m_steps_of : mg "steps_of" = some (.ref A.f_steps_of)
  F_tell_rows : Fun K "tell_rows" "tell_rows" s_tell_rows A.f_tell_rows A.d_tell_rows
  bb_tell_rows : Binds K A.d_tell_rows ["courses", "rows"] []
  m_tell_rows : mg "tell_rows" = some (.ref A.f_tell_rows)
  F_look_at : Fun K "look_at" "look_at" s_look_at A.f_look_at A.d_look_at
  bb_look_at : Binds K A.d_look_at ["courses", "top", "bottom"] []
  m_look_at : mg "look_at" = some (.ref A.f_look_at)
  F_told : FunD K "told" "told" s_told (.ref A.T_told) A.f_told A.d_told
  bb_told : Binds K A.d_told ["cues", "deeds", "top", "bottom"] []
  bd_told : Binds K A.d_told ["cues", "deeds", "top", "bottom"] A.D_told
  dv_told : Vals [V.int 1] A.D_told
  kb_told : KBinds K A.d_told ["cues", "deeds", "top", "bottom"] ["bottom"] (gAB 3 1) (gAB 3 1)
  m_told : mg "told" = some (.ref A.f_told)
  F_law_cell_at : Fun K "_law_cell_at" "_law_cell_at" s_law_cell_at A.f_law_cell_at A.d_law_cell_at
  bb_law_cell_at : Binds K A.d_law_cell_at ["_law_script", "_law_k"] []
  m_law_cell_at : mg "_law_cell_at" = some (.ref A.f_law_cell_at)
  F_law_mixed : Fun K "_law_mixed" "_law_mixed" s_law_mixed A.f_law_mixed A.d_law_mixed
  bb_law_mixed : Binds K A.d_law_mixed ["_law_cell", "_law_k"] []
  m_law_mixed : mg "_law_mixed" = some (.ref A.f_law_mixed)
  F_law_time : Fun K "_law_time" "_law_time" s_law_time A.f_law_time A.d_law_time
  bb_law_time : Binds K A.d_law_time ["_law_mixed_here"] []
  m_law_time : mg "_law_time" = some (.ref A.f_law_time)
  F_law_numbers : Fun K "_law_numbers" "_law_numbers" s_law_numbers A.f_law_numbers A.d_law_numbers
  bb_law_numbers : Binds K A.d_law_numbers ["_law_mixed_here"] []
  m_law_numbers : mg "_law_numbers" = some (.ref A.f_law_numbers)
  F_law_deeds : Fun K "_law_deeds" "_law_deeds" s_law_deeds A.f_law_deeds A.d_law_deeds
  bb_law_deeds : Binds K A.d_law_deeds ["_law_script"] []
  m_law_deeds : mg "_law_deeds" = some (.ref A.f_law_deeds)
  F_law_fallen : Fun K "_law_fallen" "_law_fallen" s_law_fallen A.f_law_fallen A.d_law_fallen
  bb_law_fallen : Binds K A.d_law_fallen ["_law_deeds_here", "_law_mixed_here"] []
  m_law_fallen : mg "_law_fallen" = some (.ref A.f_law_fallen)
  F_law_truths : Fun K "_law_truths" "_law_truths" s_law_truths A.f_law_truths A.d_law_truths
  bb_law_truths : Binds K A.d_law_truths ["_law_way", "_law_cues", "_law_deeds_here", "_law_top"] []
  m_law_truths : mg "_law_truths" = some (.ref A.f_law_truths)
  F_law : Fun K "law" "law" s_law A.f_law A.d_law
  bb_law : Binds K A.d_law ["_law_script"] []
  m_law : mg "law" = some (.ref A.f_law)
  cl_Part : Cls K A.C_Part
  c_Part : mg "Part" = some (.ref A.C_Part)
  na_Part_tells : NoAttr K A.C_Part "tells"
  na_Part_alone : NoAttr K A.C_Part "alone"
  na_Part_rise : NoAttr K A.C_Part "rise"
  na_Part_fall : NoAttr K A.C_Part "fall"
  na_Part_wait : NoAttr K A.C_Part "wait"
  ty_Part : ∀ (H : Hp) (a dx : Addr) (fs : List (Str × V)), H a = some (.ins A.C_Part dx fs) → TyOf K H (.ref a) (.ref A.C_Part)
  kt_Part : PySem.W.kitOne K (.ref A.C_Part) (.ref A.C_Part) = some true
  cl_Cue : Cls K A.C_Cue
  c_Cue : mg "Cue" = some (.ref A.C_Cue)
  na_Cue_number : NoAttr K A.C_Cue "number"
  na_Cue_parts : NoAttr K A.C_Cue "parts"
  na_Cue_stops : NoAttr K A.C_Cue "stops"
  na_Cue_follow : NoAttr K A.C_Cue "follow"
  ty_Cue : ∀ (H : Hp) (a dx : Addr) (fs : List (Str × V)), H a = some (.ins A.C_Cue dx fs) → TyOf K H (.ref a) (.ref A.C_Cue)
  kt_Cue : PySem.W.kitOne K (.ref A.C_Cue) (.ref A.C_Cue) = some true
  kn_Cue : PySem.W.kitOne K (.type "NoneType") (.ref A.C_Cue) = some false
  cl_Walk : Cls K A.C_Walk
  c_Walk : mg "Walk" = some (.ref A.C_Walk)
  na_Walk_cues : NoAttr K A.C_Walk "cues"
  na_Walk_number : NoAttr K A.C_Walk "number"
  na_Walk_lag : NoAttr K A.C_Walk "lag"
  na_Walk_held : NoAttr K A.C_Walk "held"
  na_Walk_due : NoAttr K A.C_Walk "due"
  na_Walk_trail : NoAttr K A.C_Walk "trail"
  cl_Step : Cls K A.C_Step
  c_Step : mg "Step" = some (.ref A.C_Step)
  na_Step_clock : NoAttr K A.C_Step "clock"
  na_Step_look : NoAttr K A.C_Step "look"
  na_Step_cue : NoAttr K A.C_Step "cue"
  na_Step_word : NoAttr K A.C_Step "word"
  c_LampError : mg "LampError" = some (.ref A.C_LampError)
  c_NoList : mg "NoList" = some (.ref A.C_NoList)
  c_Late : mg "Late" = some (.ref A.C_Late)
  c_NoCue : mg "NoCue" = some (.ref A.C_NoCue)
  x_NoList : ExcC K A.C_NoList
  xc_NoList : XCls K A.C_NoList
  xm_NoList : PySem.W.exmOne K (.ref A.C_NoList) (.ref A.C_LampError) = some true
  xv_NoList : PySem.W.kitOne K (.ref A.C_NoList) (.type "ValueError") = some true
  xk_NoList_LampError : PySem.W.kitOne K (.ref A.C_NoList) (.ref A.C_LampError) = some true
  xk_NoList_NoList : PySem.W.kitOne K (.ref A.C_NoList) (.ref A.C_NoList) = some true
  xk_NoList_Late : PySem.W.kitOne K (.ref A.C_NoList) (.ref A.C_Late) = some false
  xk_NoList_NoCue : PySem.W.kitOne K (.ref A.C_NoList) (.ref A.C_NoCue) = some false
  x_Late : ExcC K A.C_Late
  xc_Late : XCls K A.C_Late
  xm_Late : PySem.W.exmOne K (.ref A.C_Late) (.ref A.C_LampError) = some true
  xv_Late : PySem.W.kitOne K (.ref A.C_Late) (.type "ValueError") = some true
  xk_Late_LampError : PySem.W.kitOne K (.ref A.C_Late) (.ref A.C_LampError) = some true
  xk_Late_NoList : PySem.W.kitOne K (.ref A.C_Late) (.ref A.C_NoList) = some false
  xk_Late_Late : PySem.W.kitOne K (.ref A.C_Late) (.ref A.C_Late) = some true
  xk_Late_NoCue : PySem.W.kitOne K (.ref A.C_Late) (.ref A.C_NoCue) = some false
  b_isinstance : mg "isinstance" = none
  b_int : mg "int" = none
  b_bool : mg "bool" = none
  b_str : mg "str" = none
  b_tuple : mg "tuple" = none
  b_list : mg "list" = none
  b_dict : mg "dict" = none
  b_set : mg "set" = none
  b_sorted : mg "sorted" = none
  b_len : mg "len" = none
  b_all : mg "all" = none
  b_any : mg "any" = none
  b_min : mg "min" = none
  b_max : mg "max" = none
  b_range : mg "range" = none
  b_reversed : mg "reversed" = none
  b_ValueError : mg "ValueError" = none
  g_MOST_TICKS : ∃ t, mg "MOST_TICKS" = some (.int 1000000000 t)
  g_MOST_NUMBER : ∃ t, mg "MOST_NUMBER" = some (.int 1000000000 t)
  g_MOST_PARTS : ∃ t, mg "MOST_PARTS" = some (.int 9 t)
theorem sc_is_whole : FnScope ["thing"] ["thing"] (defScope s_is_whole) := ⟨rfl, rfl, rfl, by decide +kernel, rfl, by decide +kernel, by decide +kernel⟩
theorem sc_is_time : FnScope ["thing"] ["thing"] (defScope s_is_time) := ⟨rfl, rfl, rfl, by decide +kernel, rfl, by decide +kernel, by decide +kernel⟩
theorem sc_is_cue_number : FnScope ["thing"] ["thing"] (defScope s_is_cue_number) := ⟨rfl, rfl, rfl, by decide +kernel, rfl, by decide +kernel, by decide +kernel⟩
theorem sc_has_slots_as_keys : FnScope ["thing"] ["thing"] (defScope s_has_slots_as_keys) := ⟨rfl, rfl, rfl, by decide +kernel, rfl, by decide +kernel, by decide +kernel⟩
theorem ndc_has_slots_as_keys_0 : (["key"] : List Str).Nodup := by decide +kernel
theorem sc_Part_init : FnScope ["self", "tells", "alone", "rise", "fall", "wait", "told", "worth"] ["self", "tells", "alone", "rise", "fall", "wait"] (defScope s_Part_init) := ⟨rfl, rfl, rfl, by decide +kernel, rfl, by decide +kernel, by decide +kernel⟩
theorem ndc_Part_init_0 : (["ticks"] : List Str).Nodup := by decide +kernel
theorem sc_Part_told_slots : FnScope ["self"] ["self"] (defScope s_Part_told_slots) := ⟨rfl, rfl, rfl, by decide +kernel, rfl, by decide +kernel, by decide +kernel⟩
theorem sc_is_part_list : FnScope ["thing", "slots", "part"] ["thing"] (defScope s_is_part_list) := ⟨rfl, rfl, rfl, by decide +kernel, rfl, by decide +kernel, by decide +kernel⟩
theorem ndc_is_part_list_0 : (["part"] : List Str).Nodup := by decide +kernel
theorem sc_Cue_init : FnScope ["self", "number", "parts", "stops", "follow"] ["self", "number", "parts", "stops", "follow"] (defScope s_Cue_init) := ⟨rfl, rfl, rfl, by decide +kernel, rfl, by decide +kernel, by decide +kernel⟩
theorem sc_cue_list : FnScope ["cues", "place"] ["cues"] (defScope s_cue_list) := ⟨rfl, rfl, rfl, by decide +kernel, rfl, by decide +kernel, by decide +kernel⟩
theorem ndc_cue_list_0 : (["cue"] : List Str).Nodup := by decide +kernel
theorem sc_checked : FnScope ["cues", "number", "own"] ["cues", "number"] (defScope s_checked) := ⟨rfl, rfl, rfl, by decide +kernel, rfl, by decide +kernel, by decide +kernel⟩
theorem sc_above : FnScope ["cues", "number"] ["cues", "number"] (defScope s_above) := ⟨rfl, rfl, rfl, by decide +kernel, rfl, by decide +kernel, by decide +kernel⟩
theorem ndc_above_0 : (["cue", "number"] : List Str).Nodup := by decide +kernel
theorem sc_below : FnScope ["cues", "number"] ["cues", "number"] (defScope s_below) := ⟨rfl, rfl, rfl, by decide +kernel, rfl, by decide +kernel, by decide +kernel⟩
theorem ndc_below_0 : (["cue", "number"] : List Str).Nodup := by decide +kernel
theorem sc_cue_at : FnScope ["cues", "number", "cue"] ["cues", "number"] (defScope s_cue_at) := ⟨rfl, rfl, rfl, by decide +kernel, rfl, by decide +kernel, by decide +kernel⟩
theorem sc_Walk_init : FnScope ["self", "cues"] ["self", "cues"] (defScope s_Walk_init) := ⟨rfl, rfl, rfl, by decide +kernel, rfl, by decide +kernel, by decide +kernel⟩
theorem sc_Walk_clock_top : FnScope ["self", "top", "bottom"] ["self", "top", "bottom"] (defScope s_Walk_clock_top) := ⟨rfl, rfl, rfl, by decide +kernel, rfl, by decide +kernel, by decide +kernel⟩
theorem sc_Walk_note : FnScope ["self", "clock", "word"] ["self", "clock", "word"] (defScope s_Walk_note) := ⟨rfl, rfl, rfl, by decide +kernel, rfl, by decide +kernel, by decide +kernel⟩
theorem sc_Walk_arrive : FnScope ["self", "clock", "number", "follow"] ["self", "clock", "number"] (defScope s_Walk_arrive) := ⟨rfl, rfl, rfl, by decide +kernel, rfl, by decide +kernel, by decide +kernel⟩
theorem sc_Walk_come_to : FnScope ["self", "top", "bottom", "clock", "number"] ["self", "top", "bottom"] (defScope s_Walk_come_to) := ⟨rfl, rfl, rfl, by decide +kernel, rfl, by decide +kernel, by decide +kernel⟩
theorem sc_Walk_on : FnScope ["self", "tick"] ["self", "tick"] (defScope s_Walk_on) := ⟨rfl, rfl, rfl, by decide +kernel, rfl, by decide +kernel, by decide +kernel⟩
theorem sc_Walk_stop : FnScope ["self", "tick"] ["self", "tick"] (defScope s_Walk_stop) := ⟨rfl, rfl, rfl, by decide +kernel, rfl, by decide +kernel, by decide +kernel⟩
theorem sc_has_cue : FnScope ["cues", "number"] ["cues", "number"] (defScope s_has_cue) := ⟨rfl, rfl, rfl, by decide +kernel, rfl, by decide +kernel, by decide +kernel⟩
theorem ndc_has_cue_0 : (["cue", "number"] : List Str).Nodup := by decide +kernel
theorem sc_Walk_goto : FnScope ["self", "tick", "number"] ["self", "tick", "number"] (defScope s_Walk_goto) := ⟨rfl, rfl, rfl, by decide +kernel, rfl, by decide +kernel, by decide +kernel⟩
theorem sc_Walk_go : FnScope ["self", "tick"] ["self", "tick"] (defScope s_Walk_go) := ⟨rfl, rfl, rfl, by decide +kernel, rfl, by decide +kernel, by decide +kernel⟩
theorem sc_Walk_back : FnScope ["self", "tick"] ["self", "tick"] (defScope s_Walk_back) := ⟨rfl, rfl, rfl, by decide +kernel, rfl, by decide +kernel, by decide +kernel⟩
theorem sc_do_deed : FnScope ["walk", "deed", "tick", "word"] ["walk", "deed"] (defScope s_do_deed) := ⟨rfl, rfl, rfl, by decide +kernel, rfl, by decide +kernel, by decide +kernel⟩
theorem sc_refuse_falling : FnScope ["deeds", "place"] ["deeds"] (defScope s_refuse_falling) := ⟨rfl, rfl, rfl, by decide +kernel, rfl, by decide +kernel, by decide +kernel⟩
theorem sc_rows_of : FnScope ["cues", "deeds", "top", "bottom", "walk", "deed"] ["cues", "deeds", "top", "bottom"] (defScope s_rows_of) := ⟨rfl, rfl, rfl, by decide +kernel, rfl, by decide +kernel, by decide +kernel⟩
theorem sc_put_in : FnScope ["look", "told", "slot", "worth"] ["look", "told"] (defScope s_put_in) := ⟨rfl, rfl, rfl, by decide +kernel, rfl, by decide +kernel, by decide +kernel⟩
theorem sc_carried : FnScope ["cues", "number", "look", "cue", "part"] ["cues", "number"] (defScope s_carried) := ⟨rfl, rfl, rfl, by decide +kernel, rfl, by decide +kernel, by decide +kernel⟩
theorem sc_shown : FnScope ["cues", "number", "look", "cue", "part"] ["cues", "number"] (defScope s_shown) := ⟨rfl, rfl, rfl, by decide +kernel, rfl, by decide +kernel, by decide +kernel⟩
theorem sc_Step_init : FnScope ["self", "row", "look"] ["self", "row", "look"] (defScope s_Step_init) := ⟨rfl, rfl, rfl, by decide +kernel, rfl, by decide +kernel, by decide +kernel⟩
theorem sc_steps_of : FnScope ["rows", "steps", "cues", "looks", "row"] ["rows"] (defScope s_steps_of) := ⟨rfl, rfl, rfl, by decide +kernel, rfl, by decide +kernel, by decide +kernel⟩
theorem sc_tell_rows : FnScope ["courses", "rows", "step", "slot", "course"] ["courses", "rows"] (defScope s_tell_rows) := ⟨rfl, rfl, rfl, by decide +kernel, rfl, by decide +kernel, by decide +kernel⟩
theorem sc_look_at : FnScope ["courses", "top", "bottom", "look", "slot", "course", "worth"] ["courses", "top", "bottom"] (defScope s_look_at) := ⟨rfl, rfl, rfl, by decide +kernel, rfl, by decide +kernel, by decide +kernel⟩
theorem sc_told : FnScope ["cues", "deeds", "top", "bottom", "telling", "courses"] ["cues", "deeds", "top", "bottom"] (defScope s_told) := ⟨rfl, rfl, rfl, by decide +kernel, rfl, by decide +kernel, by decide +kernel⟩
theorem sc_law_cell_at : FnScope ["_law_script", "_law_k"] ["_law_script", "_law_k"] (defScope s_law_cell_at) := ⟨rfl, rfl, rfl, by decide +kernel, rfl, by decide +kernel, by decide +kernel⟩
theorem sc_law_mixed : FnScope ["_law_cell", "_law_k"] ["_law_cell", "_law_k"] (defScope s_law_mixed) := ⟨rfl, rfl, rfl, by decide +kernel, rfl, by decide +kernel, by decide +kernel⟩
theorem sc_law_time : FnScope ["_law_mixed_here", "_law_number"] ["_law_mixed_here"] (defScope s_law_time) := ⟨rfl, rfl, rfl, by decide +kernel, rfl, by decide +kernel, by decide +kernel⟩
theorem sc_law_numbers : FnScope ["_law_mixed_here", "_law_numbers_here", "_law_last", "_law_k"] ["_law_mixed_here"] (defScope s_law_numbers) := ⟨rfl, rfl, rfl, by decide +kernel, rfl, by decide +kernel, by decide +kernel⟩
theorem sc_law_deeds : FnScope ["_law_script", "_law_deeds_here", "_law_tick", "_law_k", "_law_mixed_here", "_law_word", "_law_deed"] ["_law_script"] (defScope s_law_deeds) := ⟨rfl, rfl, rfl, by decide +kernel, rfl, by decide +kernel, by decide +kernel⟩
theorem sc_law_fallen : FnScope ["_law_deeds_here", "_law_mixed_here", "_law_places", "_law_at", "_law_tick"] ["_law_deeds_here", "_law_mixed_here"] (defScope s_law_fallen) := ⟨rfl, rfl, rfl, by decide +kernel, rfl, by decide +kernel, by decide +kernel⟩
theorem ndc_law_fallen_0 : (["_law_k", "_law_deeds_here"] : List Str).Nodup := by decide +kernel
theorem sc_law_truths : FnScope ["_law_way", "_law_cues", "_law_deeds_here", "_law_top", "_law_truths_here", "e"] ["_law_way", "_law_cues", "_law_deeds_here", "_law_top"] (defScope s_law_truths) := ⟨rfl, rfl, rfl, by decide +kernel, rfl, by decide +kernel, by decide +kernel⟩
theorem sc_law : FnScope ["_law_script", "_law_mixed_here", "_law_numbers_here", "_law_cues", "_law_none", "_law_deeds_here", "_law_fallen_here", "_law_ticks", "_law_tops", "_law_top", "_law_kept", "_law_way"] ["_law_script"] (defScope s_law) := ⟨rfl, rfl, rfl, by decide +kernel, rfl, by decide +kernel, by decide +kernel⟩
theorem ndc_law_0 : (["_law_deed"] : List Str).Nodup := by decide +kernel
theorem ndc_law_1 : (["_law_number"] : List Str).Nodup := by decide +kernel
def spWh0 : Sp := fun vs H Q _ => ∃ i : Int, vs = [.int i] ∧ Q (.bl true) H
theorem ok_is_whole {P : Program} {w : World} {K : PySem.W.Frag} {mg : Str → Option Value} {base : Heap} {A : Adr} (T : Txt K mg A) : FnOk P w K mg base (CXE P w) 1 A.f_is_whole A.d_is_whole ["thing"] (spWh0) := by
  refine T.F_is_whole.okN sc_is_whole (fun vs H Q E h => ?_) (fun cdv Ar outer s H vs Q E hr h => ?_)
  · obtain ⟨i, rfl, k⟩ := h
    rfl
  · obtain ⟨i, rfl, k⟩ := h
    refine ⟨_, (pss_one (ps_ret (pe_and (pe_callB (call_isiT K) (by rfl) T.b_isinstance boot_isinstance (pa_cons (pv 0) (pa_cons (pe_ty (by rfl) T.b_int boot_int) pa_nil))) (pe_one (pe_not (pe_callB (call_isiT K) (by rfl) T.b_isinstance boot_isinstance (pa_cons (pv 0) (pa_cons (pe_ty (by rfl) T.b_bool boot_bool) pa_nil)))))))), ?_⟩
    refine ⟨_, rfl, _, _, _, _, rfl, .int i, kit_sub (.inr (.inr (.inl rfl))) (.inl rfl), _, rfl, iteT ?_⟩
    exact ⟨_, rfl, _, _, _, _, rfl, .int i, kit_sub (.inr (.inr (.inl rfl))) (.inr (.inl rfl)), _, rfl, k⟩
def spTime0 : Sp := fun vs H Q _ => ∃ i : Int, vs = [.int i] ∧ 0 ≤ i ∧ i ≤ 1000000000 ∧ Q (.bl true) H
theorem ok_is_time {P : Program} {w : World} {K : PySem.W.Frag} {mg : Str → Option Value} {base : Heap} {A : Adr} (T : Txt K mg A) : FnOk P w K mg base (CXE P w) 2 A.f_is_time A.d_is_time ["thing"] (spTime0) := by
  have G_is_whole := ok_is_whole (P := P) (w := w) (base := base) T
  refine T.F_is_time.okN sc_is_time (fun vs H Q E h => ?_) (fun cdv Ar outer s H vs Q E hr h => ?_)
  · obtain ⟨i, rfl, h0, h1, k⟩ := h
    rfl
  · obtain ⟨i, rfl, h0, h1, k⟩ := h
    refine ⟨_, (pss_one (ps_ret (pe_and (pe_call G_is_whole (hr.mono (by decide)) (by rfl) T.m_is_whole T.F_is_whole.kp T.bb_is_whole .nil passE0 (pa_cons (pv 0) pa_nil)) (pe_one (pe_chain op_le op_le pe_int (pv 0) (pe_gint (by rfl) T.g_MOST_TICKS)))))), ?_⟩
    refine ⟨_, rfl, i, rfl, _, rfl, iteT ?_⟩
    refine ⟨_, rfl, _, _, rfl, rfl, _, rfl, ?_⟩
    rw [decide_eq_true h0]
    refine iteT ⟨_, _, rfl, rfl, ?_⟩
    show Q (.bl (decide (i ≤ 1000000000))) H
    rw [decide_eq_true h1]
    exact k
def spNum0 : Sp := fun vs H Q _ => ∃ i : Int, vs = [.int i] ∧ 1 ≤ i ∧ i ≤ 1000000000 ∧ Q (.bl true) H
theorem ok_is_cue_number {P : Program} {w : World} {K : PySem.W.Frag} {mg : Str → Option Value} {base : Heap} {A : Adr} (T : Txt K mg A) : FnOk P w K mg base (CXE P w) 2 A.f_is_cue_number A.d_is_cue_number ["thing"] (spNum0) := by
  have G_is_whole := ok_is_whole (P := P) (w := w) (base := base) T
  refine T.F_is_cue_number.okN sc_is_cue_number (fun vs H Q E h => ?_) (fun cdv Ar outer s H vs Q E hr h => ?_)
  · obtain ⟨i, rfl, h0, h1, k⟩ := h
    rfl
  · obtain ⟨i, rfl, h0, h1, k⟩ := h
    refine ⟨_, (pss_one (ps_ret (pe_and (pe_call G_is_whole (hr.mono (by decide)) (by rfl) T.m_is_whole T.F_is_whole.kp T.bb_is_whole .nil passE0 (pa_cons (pv 0) pa_nil)) (pe_one (pe_chain op_le op_le pe_int (pv 0) (pe_gint (by rfl) T.g_MOST_NUMBER)))))), ?_⟩
    refine ⟨_, rfl, i, rfl, _, rfl, iteT ?_⟩
    refine ⟨_, rfl, _, _, rfl, rfl, _, rfl, ?_⟩
    rw [decide_eq_true h0]
    refine iteT ⟨_, _, rfl, rfl, ?_⟩
    show Q (.bl (decide (i ≤ 1000000000))) H
    rw [decide_eq_true h1]
    exact k
theorem kt0 {H : Hp} {xs : List (List Key × Addr × Value)} (h : KT H [] xs) : xs = [] := by cases h; rfl
theorem kit_dd {K : PySem.W.Frag} : PySem.W.kitOne K (.type "dict") (.type "dict") = some true := by kernel_rfl
theorem kit_ll {K : PySem.W.Frag} : PySem.W.kitOne K (.type "list") (.type "list") = some true := by kernel_rfl
theorem ts_hold {H H' : Hp} {d : Addr} {o : Obj} {kvs : List (List Key × V)} (hd : H d = some (.dT kvs)) (sm : Same (upd H d (held d o)) H') : TSame H H' := fun b xs e => by
  refine sm b _ ?_
  rw [upd_ne (ne_of e hd (by intro z; cases z))]; exact e
theorem sm_hold {H H' : Hp} {d : Addr} {o : Obj} {kvs : List (List Key × V)} (hd : H d = some (.dT kvs)) (sm : Same (upd H d (held d o)) H') : Same H (upd H' d (.dT kvs)) := fun b u e => by
  by_cases hb : b = d
  · subst hb; rw [hd] at e; cases e; exact upd_same
  · rw [upd_ne hb]; exact sm b u (by rw [upd_ne hb]; exact e)
theorem none_told {H : Hp} {d D : Addr} {o : Obj} {g : TG} {te : TE} {σ0 : St} {Q : Hp → Prop} (hd : H d = some (.dT [])) (hD : H D = none) {H1 : Hp} (s1 : Same (upd H d (held d o)) H1) (hD1 : H1 D = none)
    (h : ∀ H', Same (upd H d (held d o)) H' → H' D = some (.lst []) → Q H') :
    ∃ W : Nat → Nat → St → Hp → Prop, (∃ m, W 0 m σ0 (upd H1 D (.lst []))) ∧
      ∀ i m σ' H', W i m σ' H' → ((Itd d o []).stop i H' ∧ Q H') ∨ ((Itd d o []).go i H' ∧ ∀ x H2, (Itd d o []).yld i H' x H2 → g x σ' H2 fun σ3 H3 => te σ3 H3 fun v H4 => ∃ xs, H4 D = some (.lst xs) ∧ xs.length < sizeLine ∧ ∃ m', m' < m ∧ W (i + 1) m' σ3 (upd H4 D (.lst (xs ++ [v])))) :=
  comp_dict (fun _ _ _ => True) (fun _ => True) (fun _ _ _ _ _ h => h) (s1 _ _ upd_same) hD1 (Nat.zero_le _) trivial (fun x σ' H N hx => by simp at hx) fun ys H' sm hl hp => h H' (s1.trans sm) (by cases hp; exact hl)
def spKeys0 : Sp := fun vs H Q _ => ∃ d, vs = [.ref d] ∧ H d = some (.dT []) ∧ ∀ H', Same H H' → Q (.bl true) H'
theorem ok_has_slots_as_keys {P : Program} {w : World} {K : PySem.W.Frag} {mg : Str → Option Value} {base : Heap} {A : Adr} (T : Txt K mg A) : FnOk P w K mg base (CXE P w) 2 A.f_has_slots_as_keys A.d_has_slots_as_keys ["thing"] (spKeys0) := by
  refine T.F_has_slots_as_keys.okN sc_has_slots_as_keys (fun vs H Q E h => ?_) (fun cdv Ar outer s H vs Q E hr h => ?_)
  · obtain ⟨d, rfl, hd, k⟩ := h
    rfl
  · obtain ⟨d, rfl, hd, k⟩ := h
    refine ⟨_, (pss_one (ps_ret (pe_and (pe_callB (call_isiT K) (by rfl) T.b_isinstance boot_isinstance (pa_cons (pv 0) (pa_cons (pe_ty (by rfl) T.b_dict boot_dict) pa_nil))) (pe_one (pe_callB (call_allB K rfl) (by rfl) T.b_all boot_all (pa_cons (pe_hold (pe_comp ["key"] [none] rfl (pi_key (pv 0)) (fun _ _ _ => (pg_name (i := 0) ndc_has_slots_as_keys_0 rfl (Or.inl rfl))) (fun _ _ _ => pe_no))) pa_nil)))))), ?_⟩
    refine ⟨_, rfl, _, _, _, true, rfl, .dT hd, kit_dd, true, rfl, iteT ?_⟩
    refine ⟨d, [], hd, fun o xs es ep D kt => ?_⟩
    have hv := keys_vals D
    rw [kt0 kt] at hv
    refine ⟨_, rfl, d, o, [], es, ep, rfl, upd_same, D.sys, D.ex, D.data, hv, fun D' hD' => ?_⟩
    have hD : H D' = none := by
      have ne : D' ≠ d := by rintro rfl; rw [upd_same] at hD'; cases hD'
      rw [upd_ne ne] at hD'; exact hD'
    refine none_told hd hD (Same.refl _) hD' fun H' sm hl => ⟨sm _ _ upd_same, ts_hold hd sm, ?_⟩
    refine ⟨D', [], rfl, SqL.of ?_, k _ (sm_hold hd sm)⟩
    rw [upd_ne (Ne.symm (ne_of_none hd hD))]; exact hl
def partF (d1 d2 : Addr) : List (Str × V) := [("tells", .ref d1), ("alone", .ref d2), ("rise", .int 0), ("fall", .int 0), ("wait", .int 0)]
def Part0 (A : Adr) (H : Hp) (p : Addr) : Prop := ∃ dx d1 d2, H p = some (.ins A.C_Part dx (partF d1 d2)) ∧ H d1 = some (.dT []) ∧ H d2 = some (.dT [])
def spPart0 (A : Adr) : Sp := fun vs H Q _ => ∃ (x dx d1 d2 : Addr), vs = [.ref x, .ref d1, .ref d2, .int 0, .int 0, .int 0] ∧ H x = some (.ins A.C_Part dx []) ∧ H d1 = some (.dT []) ∧ H d2 = some (.dT []) ∧
  ∀ H', Part0 A H' x → (∀ b o, b ≠ x → H b = some o → H' b = some o) → Q .non H'
theorem ok_Part_init {P : Program} {w : World} {K : PySem.W.Frag} {mg : Str → Option Value} {base : Heap} {A : Adr} (T : Txt K mg A) : FnOk P w K mg base (CXE P w) 3 A.f_Part_init A.d_Part_init ["self", "tells", "alone", "rise", "fall", "wait"] (spPart0 A) := by
  have G_has_slots_as_keys := ok_has_slots_as_keys (P := P) (w := w) (base := base) T
  have G_is_time := ok_is_time (P := P) (w := w) (base := base) T
  refine T.F_Part_init.okN sc_Part_init (fun vs H Q E h => ?_) (fun cdv Ar outer s H vs Q E hr h => ?_)
  · obtain ⟨x, dx, d1, d2, rfl, hx, h1, h2, k⟩ := h
    rfl
  · obtain ⟨x, dx, d1, d2, rfl, hx, h1, h2, k⟩ := h
    refine ⟨_, (pss_cons (ps_for PassesOwn.never rfl (pi_tupK K (pe_tupS (pa_cons (pv 1) (pa_cons (pv 2) pa_nil)))) (pg_name (i := 6) sc_Part_init.nd rfl (Or.inl rfl)) (pss_one (ps_if (pt_not (pt_val (pe_call G_has_slots_as_keys (hr.mono (by decide)) (by rfl) T.m_has_slots_as_keys T.F_has_slots_as_keys.kp T.bb_has_slots_as_keys .nil passE0 (pa_cons (pv 6) pa_nil)))) (pss_one ps_never) pss_nil)))
      (pss_cons (ps_for PassesOwn.never rfl (pi_tupK K (pe_tupS (pa_cons (pv 1) (pa_cons (pv 2) pa_nil)))) (pg_name (i := 6) sc_Part_init.nd rfl (Or.inl rfl)) (pss_one (ps_hold (ps_for PassesOwn.never rfl (pi_val (pe_values (pv 6))) (pg_name (i := 7) sc_Part_init.nd rfl (Or.inl rfl)) pss_never))))
      (pss_cons (ps_if (pt_not (pt_val (pe_callB (call_allB K rfl) (by rfl) T.b_all boot_all (pa_cons (pe_comp ["ticks"] [none] rfl (pi_tupK K (pe_tupS (pa_cons (pv 3) (pa_cons (pv 4) (pa_cons (pv 5) pa_nil))))) (fun _ _ _ => (pg_name (i := 0) ndc_Part_init_0 rfl (Or.inl rfl))) (fun _ _ _ => (pe_call G_is_time (hr.mono (by decide)) (by rfl) T.m_is_time T.F_is_time.kp T.bb_is_time .nil passE0 (pa_cons (pv 0) pa_nil)))) pa_nil)))) (pss_one ps_never) pss_nil)
      (pss_cons (ps_fld (pv 0) (pe_callTy call_dictE (by rfl) T.b_dict boot_dict (pa_cons (pv 1) pa_nil)) rfl)
      (pss_cons (ps_fld (pv 0) (pe_callTy call_dictE (by rfl) T.b_dict boot_dict (pa_cons (pv 2) pa_nil)) rfl)
      (pss_cons (ps_fld (pv 0) (pv 3) rfl)
      (pss_cons (ps_fld (pv 0) (pv 4) rfl)
      (pss_one (ps_fld (pv 0) (pv 5) rfl))))))))), ?_⟩
    refine ⟨_, rfl, _, rfl, (by show 2 ≤ 1000; decide), fun t ht => ?_⟩
    have s0 : Same H (upd H t (.tup [.ref d1, .ref d2])) := Same.new ht
    refine ⟨t, rfl, ⟨_, SqT.of upd_same⟩, for_tup (xs := [.ref d1, .ref d2]) (fun _ σ' H' => ∃ z : Option V, σ' = [some (.ref x), some (.ref d1), some (.ref d2), some (.int 0), some (.int 0), some (.int 0), z, none] ∧ Same (upd H t (.tup [.ref d1, .ref d2])) H') ⟨none, rfl, Same.refl _⟩ (fun i σ' H' _ hp => ?_) (fun i v σ' H' hv hp => ?_) fun σ' H' hp => ?_⟩
    · obtain ⟨z, _, sm⟩ := hp; exact SqT.of (sm _ _ upd_same)
    · obtain ⟨z, rfl, sm⟩ := hp
      obtain ⟨d, rfl, hd⟩ : ∃ d, v = .ref d ∧ H d = some (.dT []) := by
        rcases List.mem_cons.mp (List.mem_of_getElem? hv) with e | e
        · exact ⟨d1, e, h1⟩
        · exact ⟨d2, by simpa using e, h2⟩
      exact ⟨_, rfl, d, rfl, sm _ _ (s0 _ _ hd), fun H2 sm2 => ⟨_, rfl, iteF ⟨_, rfl, sm.trans sm2⟩⟩⟩
    obtain ⟨z, rfl, sm⟩ := hp
    have sA : Same H H' := s0.trans sm
    clear sm s0
    refine ⟨_, rfl, _, rfl, (by show 2 ≤ 1000; decide), fun t2 ht2 => ?_⟩
    have s2 : Same H (upd H' t2 (.tup [.ref d1, .ref d2])) := sA.trans (Same.new ht2)
    refine ⟨t2, rfl, ⟨_, SqT.of upd_same⟩, for_tup (xs := [.ref d1, .ref d2]) (fun _ σ' G => ∃ z : Option V, σ' = [some (.ref x), some (.ref d1), some (.ref d2), some (.int 0), some (.int 0), some (.int 0), z, none] ∧ Same (upd H' t2 (.tup [.ref d1, .ref d2])) G) ⟨z, rfl, Same.refl _⟩ (fun i σ' G _ hp => ?_) (fun i v σ' G hv hp => ?_) fun σ' G hp => ?_⟩
    · obtain ⟨z, _, sm⟩ := hp; exact SqT.of (sm _ _ upd_same)
    · obtain ⟨z, rfl, sm⟩ := hp
      obtain ⟨d, rfl, hd⟩ : ∃ d, v = .ref d ∧ H d = some (.dT []) := by
        rcases List.mem_cons.mp (List.mem_of_getElem? hv) with e | e
        · exact ⟨d1, e, h1⟩
        · exact ⟨d2, by simpa using e, h2⟩
      have hd' : G d = some (.dT []) := sm _ _ (s2 _ _ hd)
      refine ⟨d, [], hd', fun o xs es ep D kt => ?_⟩
      have hvl := vals_vals D kt
      refine ⟨_, rfl, d, o, es, ep, rfl, upd_same, D.sys, D.ex, D.data, fun p hp => ?_⟩
      have pd : d ≠ p := by rintro rfl; rw [upd_same] at hp; cases hp
      refine ⟨p, d, o, [], es, ep, rfl, upd_same, by rw [upd_ne pd, upd_same], D.ex, D.data, hvl, for_no ⟨by rw [upd_ne pd, upd_same], Nat.le_refl _⟩ ?_⟩
      exact ⟨by rw [upd_ne pd, upd_same], ts_hold hd' (Same.new hp), ⟨_, rfl, sm.trans (sm_hold hd' (Same.new hp))⟩⟩
    obtain ⟨z2, rfl, sm⟩ := hp
    have sB : Same H G := s2.trans sm
    clear sm s2 sA
    refine ⟨_, rfl, _, rfl, _, rfl, (by show 3 ≤ 1000; decide), fun t3 ht3 => ⟨t3, rfl, ⟨_, SqT.of upd_same⟩, fun D3 hD3 => ?_⟩⟩
    refine comp_tpm (fun _ => .bl true) (fun σ => σ.length = 1) upd_same hD3 (by show 3 ≤ 1000; decide) rfl (fun v σ' G2 N hv ho sm q => ?_) fun G2 sm hl => ?_
    · have e : v = .int 0 := by simpa using hv
      subst e
      match σ', ho with
      | [_], _ => exact ⟨_, rfl, 0, rfl, by decide, by decide, q _ _ (Same.refl _) rfl⟩
    have sC : Same H G2 := sB.trans ((Same.new ht3).trans sm)
    refine ⟨D3, [true, true, true], rfl, SqL.of hl, _, rfl, iteF ?_⟩
    clear sm sB
    have x1 := sC _ _ hx
    refine ⟨_, rfl, d1, rfl, sC _ _ h1, fun e1 he1 => ⟨_, rfl, x, A.C_Part, dx, _, rfl, by rw [upd_ne (ne_of_none x1 he1)]; exact x1, T.cl_Part, T.na_Part_tells, (by show 0 < 1000; decide), ?_⟩⟩
    have n1 : x ≠ e1 := ne_of_none x1 he1
    have m2 : d2 ≠ x := ne_of h2 hx (by intro z; cases z)
    have m2' : d2 ≠ e1 := ne_of_none (sC _ _ h2) he1
    refine ⟨_, rfl, d2, rfl, by rw [upd_ne m2, upd_ne m2']; exact sC _ _ h2, fun e2 he2 => ?_⟩
    have n2 : x ≠ e2 := by rintro rfl; rw [upd_same] at he2; cases he2
    have n12 : e1 ≠ e2 := by rintro rfl; rw [upd_ne (Ne.symm n1), upd_same] at he2; cases he2
    have he2' : G2 e2 = none := by rw [upd_ne (Ne.symm n2), upd_ne (Ne.symm n12)] at he2; exact he2
    refine ⟨_, rfl, x, A.C_Part, dx, _, rfl, by rw [upd_ne n2, upd_same], T.cl_Part, T.na_Part_alone, (by show 1 < 1000; decide), ?_⟩
    refine ⟨_, rfl, _, rfl, x, A.C_Part, dx, _, rfl, upd_same, T.cl_Part, T.na_Part_rise, (by show 2 < 1000; decide), ?_⟩
    refine ⟨_, rfl, _, rfl, x, A.C_Part, dx, _, rfl, upd_same, T.cl_Part, T.na_Part_fall, (by show 3 < 1000; decide), ?_⟩
    refine ⟨_, rfl, _, rfl, x, A.C_Part, dx, _, rfl, upd_same, T.cl_Part, T.na_Part_wait, (by show 4 < 1000; decide), ?_⟩
    refine k _ ⟨dx, e1, e2, upd_same, ?_, ?_⟩ fun b o hb e => ?_
    · rw [upd_ne (Ne.symm n1), upd_ne (Ne.symm n1), upd_ne (Ne.symm n1), upd_ne (Ne.symm n1), upd_ne n12, upd_ne (Ne.symm n1), upd_same]
    · rw [upd_ne (Ne.symm n2), upd_ne (Ne.symm n2), upd_ne (Ne.symm n2), upd_ne (Ne.symm n2), upd_same]
    · have b1 : b ≠ e1 := ne_of_none (sC _ _ e) he1
      have b2 : b ≠ e2 := ne_of_none (sC _ _ e) he2'
      rw [upd_ne hb, upd_ne hb, upd_ne hb, upd_ne hb, upd_ne b2, upd_ne hb, upd_ne b1]
      exact sC _ _ e
theorem fld_tells {d1 d2 : Addr} : List.lookup ("tells" : Str) (partF d1 d2) = some (V.ref d1) := rfl
theorem fld_alone {d1 d2 : Addr} : List.lookup ("alone" : Str) (partF d1 d2) = some (V.ref d2) := rfl
def spSlots0 (A : Adr) : Sp := fun vs H Q _ => ∃ p, vs = [.ref p] ∧ Part0 A H p ∧ ∀ l H', H l = none → H' l = some (.lst []) → Same H H' → Q (.ref l) H'
theorem ok_Part_told_slots {P : Program} {w : World} {K : PySem.W.Frag} {mg : Str → Option Value} {base : Heap} {A : Adr} (T : Txt K mg A) : FnOk P w K mg base (CXE P w) 1 A.f_Part_told_slots A.d_Part_told_slots ["self"] (spSlots0 A) := by
  refine T.F_Part_told_slots.okN sc_Part_told_slots (fun vs H Q E h => ?_) (fun cdv Ar outer s H vs Q E hr h => ?_)
  · obtain ⟨p, rfl, hp, k⟩ := h
    rfl
  · obtain ⟨p, rfl, hp, k⟩ := h
    refine ⟨_, (pss_one (ps_ret (pe_callB (call_sortS0 rfl) (by rfl) T.b_sorted boot_sorted (pa_cons (pe_op op_setOr0 (pe_callTy call_setD0 (by rfl) T.b_set boot_set (pa_cons (pe_fldK K (pv 0)) pa_nil)) (pe_callTy call_setD0 (by rfl) T.b_set boot_set (pa_cons (pe_fldK K (pv 0)) pa_nil))) pa_nil)))), ?_⟩
    obtain ⟨dx, d1, d2, hp, h1, h2⟩ := hp
    refine ⟨_, rfl, p, A.C_Part, dx, _, _, rfl, hp, T.cl_Part, T.na_Part_tells, fld_tells, ?_⟩
    refine ⟨d1, rfl, h1, fun a ha => ?_⟩
    have s1 : ∀ o, Same H (upd H a o) := fun o => Same.new ha
    refine ⟨_, rfl, p, A.C_Part, dx, _, _, rfl, s1 _ _ _ hp, T.cl_Part, T.na_Part_alone, fld_alone, ?_⟩
    refine ⟨d2, rfl, s1 _ _ _ h2, fun b hb => ?_⟩
    have nab : a ≠ b := by rintro rfl; rw [upd_same] at hb; cases hb
    have hb0 : H b = none := by rw [upd_ne (Ne.symm nab)] at hb; exact hb
    have s2 : ∀ o o', Same H (upd (upd H a o) b o') := fun o o' => (s1 o).trans (Same.new (by rw [upd_ne (Ne.symm nab)]; exact hb0))
    refine ⟨a, b, rfl, rfl, by rw [upd_ne nab, upd_same], upd_same, nab, fun c hc => ?_⟩
    have nac : a ≠ c := by rintro rfl; rw [upd_ne nab, upd_same] at hc; cases hc
    have nbc : b ≠ c := by rintro rfl; rw [upd_same] at hc; cases hc
    have hc0 : H c = none := by rw [upd_ne (Ne.symm nbc), upd_ne (Ne.symm nac)] at hc; exact hc
    refine ⟨c, rfl, upd_same, fun l hl => ?_⟩
    have nal : a ≠ l := by rintro rfl; rw [upd_ne nac, upd_ne nab, upd_same] at hl; cases hl
    have nbl : b ≠ l := by rintro rfl; rw [upd_ne nbc, upd_same] at hl; cases hl
    have ncl : c ≠ l := by rintro rfl; rw [upd_same] at hl; cases hl
    have hl0 : H l = none := by rw [upd_ne (Ne.symm ncl), upd_ne (Ne.symm nbl), upd_ne (Ne.symm nal)] at hl; exact hl
    refine k l _ hl0 upd_same ?_
    intro q u e
    rw [upd_ne (ne_of_none e hl0), upd_ne (ne_of_none e hc0), upd_ne (ne_of_none e hb0), upd_ne (ne_of_none e ha)]
    exact e
def Parts0 (A : Adr) (H : Hp) (ps : List Addr) : Prop := ∀ p ∈ ps, Part0 A H p
theorem Part0.keep {A : Adr} {H H' : Hp} {p : Addr} (h : Part0 A H p) (s : Same H H') : Part0 A H' p := by
  obtain ⟨dx, d1, d2, a, b, c⟩ := h
  exact ⟨dx, d1, d2, s _ _ a, s _ _ b, s _ _ c⟩
def spParts0 (A : Adr) : Sp := fun vs H Q _ => ∃ (l : Addr) (ps : List Addr), vs = [.ref l] ∧ H l = some (.lst (ps.map V.ref)) ∧ 1 ≤ ps.length ∧ ps.length ≤ 9 ∧ Parts0 A H ps ∧ ∀ H', Same H H' → Q (.bl true) H'
theorem ok_is_part_list {P : Program} {w : World} {K : PySem.W.Frag} {mg : Str → Option Value} {base : Heap} {A : Adr} (T : Txt K mg A) : FnOk P w K mg base (CXE P w) 3 A.f_is_part_list A.d_is_part_list ["thing"] (spParts0 A) := by
  have G_Part_told_slots := ok_Part_told_slots (P := P) (w := w) (base := base) T
  refine T.F_is_part_list.okN sc_is_part_list (fun vs H Q E h => ?_) (fun cdv Ar outer s H vs Q E hr h => ?_)
  · obtain ⟨l, ps, rfl, hl, h1, h9, hp, k⟩ := h
    rfl
  · obtain ⟨l, ps, rfl, hl, h1, h9, hp, k⟩ := h
    refine ⟨_, (pss_cons (ps_if (PW.pt (pw_or (pt_not (pt_val (pe_callB (call_isiT K) (by rfl) T.b_isinstance boot_isinstance (pa_cons (pv 0) (pa_cons (pe_ty (by rfl) T.b_list boot_list) pa_nil))))) (pw_or1 (pt_not (pt_chain op_le op_le pe_int (pe_callB (call_lenK K) (by rfl) T.b_len PySem.boot_len (pa_cons (pv 0) pa_nil)) (pe_gint (by rfl) T.g_MOST_PARTS)))))) (pss_one (ps_ret pe_bl)) pss_nil)
      (pss_cons (ps_if (pt_not (pt_val (pe_callB (call_allB K rfl) (by rfl) T.b_all boot_all (pa_cons (pe_comp ["part"] [none] rfl (pi_listK K (pv 0)) (fun _ _ _ => (pg_name (i := 0) ndc_is_part_list_0 rfl (Or.inl rfl))) (fun _ _ _ => (pe_callB (call_isiC K) (by rfl) T.b_isinstance boot_isinstance (pa_cons (pv 0) (pa_cons (pe_glob (v := V.ref _) (by rfl) T.c_Part rfl) pa_nil))))) pa_nil)))) (pss_one (ps_ret pe_bl)) pss_nil)
      (pss_cons (ps_set (i := 1) sc_is_part_list.nd rfl (Or.inl rfl) (pe_lstS pa_nil))
      (pss_cons (ps_for PassesOwn.never rfl (pi_listK K (pv 0)) (pg_name (i := 2) sc_is_part_list.nd rfl (Or.inl rfl)) (pss_one (ps_expr (pe_bmK K PySem.F.plainAttrs_list PySem.F.slot_list_extend PySem.F.type_list_extend mt_extend (pv 1) (pa_cons (pe_meth0 (pv 2) T.cl_Part T.me_Part_told_slots G_Part_told_slots (hr.mono (by decide)) T.bb_Part_told_slots .nil passE0) pa_nil)))))
      (pss_one (ps_ret (pe_cmpR op_eq (pe_callB (call_lenK K) (by rfl) T.b_len PySem.boot_len (pa_cons (pv 1) pa_nil)) (pe_callB call_lenS0 (by rfl) T.b_len PySem.boot_len (pa_cons (pe_callTy (call_setL0 rfl) (by rfl) T.b_set boot_set (pa_cons (pv 1) pa_nil)) pa_nil)) (nomark _)))))))), ?_⟩
    refine ⟨_, rfl, _, _, _, true, rfl, .lst hl, kit_ll, true, rfl, iteF ?_⟩
    have b1 : decide ((1 : Int) ≤ ((ps.map V.ref).length : Nat)) = true := decide_eq_true (by rw [List.length_map]; omega)
    have b9 : decide (((ps.map V.ref).length : Nat) ≤ (9 : Int)) = true := decide_eq_true (by rw [List.length_map]; omega)
    refine ⟨_, rfl, _, _, rfl, .inl (SqL.of hl), _, _, rfl, rfl, _, rfl, ?_⟩
    rw [b1]
    refine iteT ⟨_, _, rfl, rfl, _, rfl, ?_⟩
    rw [b9]
    refine iteF ?_
    refine ⟨_, rfl, l, rfl, ⟨_, SqL.of hl⟩, fun D hD => ?_⟩
    refine comp_mp (fun _ => .bl true) (fun σ => σ.length = 1) (SqL.of hl) hD (by rw [List.length_map]; omega) rfl (fun v σ' G N hv ho sm q => ?_) fun G sm hDl => ?_
    · obtain ⟨p, hpm, rfl⟩ := List.mem_map.mp hv
      obtain ⟨dx, d1, d2, e, _, _⟩ := (hp p hpm).keep sm
      match σ', ho with
      | [_], _ => exact ⟨_, rfl, _, _, _, true, rfl, T.ty_Part _ _ _ _ e, T.kt_Part, q _ _ (Same.refl _) rfl⟩
    refine ⟨D, ps.map (fun _ => true), rfl, SqL.of (by rw [hDl, List.map_map, List.map_map]; rfl), _, rfl, ?_⟩
    rw [show (ps.map fun _ => true).all id = true by simp]
    refine iteF ?_
    refine ⟨by decide, fun S hS => ?_⟩
    have sS : Same H (upd G S (.lst [])) := sm.trans (Same.new hS)
    refine ⟨_, rfl, l, rfl, ⟨_, SqL.of (sS _ _ hl)⟩, for_list (xs := ps.map V.ref) (fun _ σ' G' => ∃ z : Option V, σ' = [some (.ref l), some (.ref S), z] ∧ Same (upd G S (.lst [])) G') ⟨none, rfl, Same.refl _⟩ (fun i σ' G' _ hq => ?_) (fun i v σ' G' hv hq => ?_) fun σ' G' hq => ?_⟩
    · obtain ⟨z, _, s2⟩ := hq; exact SqL.of (s2 _ _ (sS _ _ hl))
    · obtain ⟨z, rfl, s2⟩ := hq
      obtain ⟨p, hpm, rfl⟩ := List.mem_map.mp (List.mem_of_getElem? hv)
      have hS2 := s2 _ _ upd_same
      have pk := (hp p hpm).keep (sS.trans s2)
      obtain ⟨dx, d1, d2, e, e1, e2⟩ := id pk
      refine ⟨_, rfl, .inl ⟨rfl, _, SqL.of hS2⟩, _, rfl, p, dx, _, rfl, e, rfl, p, rfl, pk, fun b G2 hb hbl s3 => ?_⟩
      refine ⟨S, b, [], [], rfl, rfl, s3 _ _ hS2, hbl, by decide, _, rfl, fun c u ec => ?_⟩
      by_cases hc : c = S
      · subst hc; rw [upd_same] at ec ⊢; exact ec
      · rw [upd_ne hc]; exact s3 _ _ (s2 _ _ ec)
    obtain ⟨z, rfl, s2⟩ := hq
    have hS2 : G' S = some (.lst []) := s2 _ _ upd_same
    refine ⟨_, rfl, S, [], rfl, .inl (SqL.of hS2), _, rfl, S, rfl, hS2, fun q hq => ?_⟩
    exact ⟨q, rfl, upd_same, rfl, k _ ((sS.trans s2).trans (Same.new hq))⟩
def cueF (n : Int) (L : Addr) (st : Bool) (fo : V) : List (Str × V) := [("number", .int n), ("parts", .ref L), ("stops", .bl st), ("follow", fo)]
def FoOk (fo : V) : Prop := fo = .non ∨ ∃ f : Int, fo = .int f ∧ 0 ≤ f ∧ f ≤ 1000000000
def Cue0 (A : Adr) (H : Hp) (c : Addr) (n : Int) (st : Bool) (fo : V) : Prop := ∃ dx L ps, H c = some (.ins A.C_Cue dx (cueF n L st fo)) ∧ H L = some (.lst (ps.map V.ref)) ∧ 1 ≤ ps.length ∧ Parts0 A H ps
theorem Cue0.keep {A : Adr} {H H' : Hp} {c : Addr} {n : Int} {st : Bool} {fo : V} (h : Cue0 A H c n st fo) (s : Same H H') : Cue0 A H' c n st fo := by
  obtain ⟨dx, L, ps, a, b, l, d⟩ := h
  exact ⟨dx, L, ps, s _ _ a, s _ _ b, l, fun p hp => (d p hp).keep s⟩
def Cue1 (A : Adr) (H : Hp) (c L : Addr) (n : Int) (st : Bool) (fo : V) : Prop := ∃ dx ps, H c = some (.ins A.C_Cue dx (cueF n L st fo)) ∧ H L = some (.lst (ps.map V.ref)) ∧ 1 ≤ ps.length ∧ Parts0 A H ps
def spCue0 (A : Adr) : Sp := fun vs H Q _ => ∃ (x dx l : Addr) (n : Int) (st : Bool) (fo : V) (ps : List Addr), vs = [.ref x, .int n, .ref l, .bl st, fo] ∧ H x = some (.ins A.C_Cue dx []) ∧ 1 ≤ n ∧ n ≤ 1000000000 ∧ FoOk fo ∧ H l = some (.lst (ps.map V.ref)) ∧ 1 ≤ ps.length ∧ ps.length ≤ 9 ∧ Parts0 A H ps ∧
  ∀ H' L, H L = none → Cue1 A H' x L n st fo → (∀ b o, b ≠ x → H b = some o → H' b = some o) → Q .non H'
theorem ok_Cue_init {P : Program} {w : World} {K : PySem.W.Frag} {mg : Str → Option Value} {base : Heap} {A : Adr} (T : Txt K mg A) : FnOk P w K mg base (CXE P w) 4 A.f_Cue_init A.d_Cue_init ["self", "number", "parts", "stops", "follow"] (spCue0 A) := by
  have G_is_cue_number := ok_is_cue_number (P := P) (w := w) (base := base) T
  have G_is_part_list := ok_is_part_list (P := P) (w := w) (base := base) T
  have G_is_time := ok_is_time (P := P) (w := w) (base := base) T
  refine T.F_Cue_init.okN sc_Cue_init (fun vs H Q E h => ?_) (fun cdv Ar outer s H vs Q E hr h => ?_)
  · obtain ⟨x, dx, l, n, st, fo, ps, rfl, hx, hn1, hn2, hfo, hl, h1, h9, hp, k⟩ := h
    rfl
  · obtain ⟨x, dx, l, n, st, fo, ps, rfl, hx, hn1, hn2, hfo, hl, h1, h9, hp, k⟩ := h
    refine ⟨_, (pss_cons (ps_if (pt_not (pt_val (pe_call G_is_cue_number (hr.mono (by decide)) (by rfl) T.m_is_cue_number T.F_is_cue_number.kp T.bb_is_cue_number .nil passE0 (pa_cons (pv 1) pa_nil)))) (pss_one ps_never) pss_nil)
      (pss_cons (ps_if (pt_not (pt_val (pe_call G_is_part_list (hr.mono (by decide)) (by rfl) T.m_is_part_list T.F_is_part_list.kp T.bb_is_part_list .nil passE0 (pa_cons (pv 2) pa_nil)))) (pss_one ps_never) pss_nil)
      (pss_cons (ps_if (PW.pt (pw_and (pt_cmp (pc_notN (pv 4))) (pw_and1 (pt_not (pt_val (pe_call G_is_time (hr.mono (by decide)) (by rfl) T.m_is_time T.F_is_time.kp T.bb_is_time .nil passE0 (pa_cons (pv 4) pa_nil))))))) (pss_one ps_never) pss_nil)
      (pss_cons (ps_fld (pv 0) (pv 1) rfl)
      (pss_cons (ps_fld (pv 0) (pe_callTy (call_listK K) (by rfl) T.b_list boot_list (pa_cons (pv 2) pa_nil)) rfl)
      (pss_cons (ps_fld (pv 0) (pv 3) rfl)
      (pss_one (ps_fld (pv 0) (pv 4) rfl)))))))), ?_⟩
    refine ⟨_, rfl, n, rfl, hn1, hn2, _, rfl, iteF ?_⟩
    refine ⟨_, rfl, l, ps, rfl, hl, h1, h9, hp, fun H1 s1 => ⟨_, rfl, iteF ?_⟩⟩
    have ok : ∀ Q2 : Bool → Hp → Prop, Q2 false H1 → (tAnd (tB (tNotN (tVar 4))) (tNot (tB (tCall spTime0 [] E0 (tCons (tVar 4) tNil))))) [some (.ref x), some (.int n), some (.ref l), some (.bl st), some fo] H1 Q2 := fun Q2 q => by
      rcases hfo with rfl | ⟨f, rfl, f0, f1⟩
      · exact ⟨_, rfl, _, rfl, iteF q⟩
      · exact ⟨_, rfl, _, rfl, iteT ⟨_, rfl, f, rfl, f0, f1, _, rfl, q⟩⟩
    refine ok _ (iteF ?_)
    have x1 := s1 _ _ hx
    have l1 := s1 _ _ hl
    have nlx : l ≠ x := ne_of l1 x1 (by intro z; cases z)
    refine ⟨_, rfl, _, rfl, x, A.C_Cue, dx, _, rfl, x1, T.cl_Cue, T.na_Cue_number, (by show 0 < 1000; decide), ?_⟩
    refine ⟨_, rfl, l, _, rfl, SqL.of (by rw [upd_ne nlx]; exact l1), fun L hL => ?_⟩
    have nLx : x ≠ L := by rintro rfl; rw [upd_same] at hL; cases hL
    have hL1 : H1 L = none := by rw [upd_ne (Ne.symm nLx)] at hL; exact hL
    refine ⟨_, rfl, x, A.C_Cue, dx, _, rfl, by rw [upd_ne nLx, upd_same], T.cl_Cue, T.na_Cue_parts, (by show 1 < 1000; decide), ?_⟩
    refine ⟨_, rfl, _, rfl, x, A.C_Cue, dx, _, rfl, upd_same, T.cl_Cue, T.na_Cue_stops, (by show 2 < 1000; decide), ?_⟩
    refine ⟨_, rfl, _, rfl, x, A.C_Cue, dx, _, rfl, upd_same, T.cl_Cue, T.na_Cue_follow, (by show 3 < 1000; decide), ?_⟩
    have kp : ∀ b o, b ≠ x → H b = some o → (upd (upd (upd (upd (upd H1 x (.ins A.C_Cue dx (putF "number" (.int n) []))) L (.lst (ps.map V.ref))) x (.ins A.C_Cue dx (putF "parts" (.ref L) (putF "number" (.int n) [])))) x (.ins A.C_Cue dx (putF "stops" (.bl st) (putF "parts" (.ref L) (putF "number" (.int n) []))))) x (.ins A.C_Cue dx (putF "follow" fo (putF "stops" (.bl st) (putF "parts" (.ref L) (putF "number" (.int n) [])))))) b = some o := fun b o hb e => by
      rw [upd_ne hb, upd_ne hb, upd_ne hb, upd_ne (ne_of_none (s1 _ _ e) hL1), upd_ne hb]
      exact s1 _ _ e
    refine k _ L (s1.free hL1) ⟨dx, ps, upd_same, ?_, h1, fun p hpm => ?_⟩ kp
    · rw [upd_ne (Ne.symm nLx), upd_ne (Ne.symm nLx), upd_ne (Ne.symm nLx), upd_same]
    · obtain ⟨dp, d1, d2, e, e1, e2⟩ := hp p hpm
      have np : ∀ {q o}, H q = some o → o ≠ .ins A.C_Cue dx [] → q ≠ x := fun a b z => by rw [z, hx] at a; exact b (Option.some.inj a).symm
      exact ⟨dp, d1, d2, kp _ _ (np e (fun z => by have := congrArg (fun o => match o with | HO.ins _ _ fs => fs.length | _ => 0) z; simp [partF] at this)) e, kp _ _ (np e1 (by intro z; cases z)) e1, kp _ _ (np e2 (by intro z; cases z)) e2⟩
structure Cu where
  n : Int
  st : Bool
  fo : V
def Cues0 (A : Adr) (H : Hp) (cs : List Addr) (us : List Cu) : Prop := Paired (fun c (u : Cu) => Cue0 A H c u.n u.st u.fo) cs us
theorem Cues0.keep {A : Adr} {H H' : Hp} {cs : List Addr} {us : List Cu} (h : Cues0 A H cs us) (s : Same H H') : Cues0 A H' cs us := Paired.mapP h fun _ _ q => q.keep s
theorem paired_mem {α β : Type} {F : α → β → Prop} : ∀ {as : List α} {bs : List β}, Paired F as bs → ∀ {a}, a ∈ as → ∃ b, b ∈ bs ∧ F a b
  | _, _, .nil, _, h => by simp at h
  | _, _, .cons q t, a, h => by
    rcases List.mem_cons.mp h with e | h
    · subst e; exact ⟨_, List.mem_cons_self, q⟩
    · obtain ⟨b, hb, f⟩ := paired_mem t h
      exact ⟨b, List.mem_cons_of_mem _ hb, f⟩
theorem paired_at {α β : Type} {F : α → β → Prop} : ∀ {as : List α} {bs : List β}, Paired F as bs → ∀ {i : Nat} {a : α}, as[i]? = some a → ∃ b, bs[i]? = some b ∧ F a b
  | _, _, .nil, _, _, h => by simp at h
  | _, _, .cons q t, 0, a, h => by simp only [List.getElem?_cons_zero, Option.some.injEq] at h; subst h; exact ⟨_, rfl, q⟩
  | _, _, .cons q t, i + 1, a, h => by simp only [List.getElem?_cons_succ] at h ⊢; exact paired_at t h
def Rising (us : List Cu) : Prop := us.Pairwise fun a b => a.n < b.n
def spList0 (A : Adr) : Sp := fun vs H Q _ => ∃ (l : Addr) (cs : List Addr) (us : List Cu), vs = [.ref l] ∧ H l = some (.lst (cs.map V.ref)) ∧ cs.length ≤ 900 ∧ Cues0 A H cs us ∧ Rising us ∧ ∀ m H', H m = none → H' m = some (.lst (cs.map V.ref)) → Same H H' → Q (.ref m) H'
theorem ok_cue_list {P : Program} {w : World} {K : PySem.W.Frag} {mg : Str → Option Value} {base : Heap} {A : Adr} (T : Txt K mg A) : FnOk P w K mg base (CXE P w) 1 A.f_cue_list A.d_cue_list ["cues"] (spList0 A) := by
  refine T.F_cue_list.okE sc_cue_list (fun vs H Q E h => ?_) (fun cdv Ar outer s H vs Q E hr h => ?_)
  · obtain ⟨l, cs, us, rfl, hl, hz, hc, hri, k⟩ := h
    rfl
  · obtain ⟨l, cs, us, rfl, hl, hz, hc, hri, k⟩ := h
    refine ⟨_, (pss_cons (ps_if (PW.pt (pw_or (pt_not (pt_val (pe_callB (call_isiT K) (by rfl) T.b_isinstance boot_isinstance (pa_cons (pv 0) (pa_cons (pe_ty (by rfl) T.b_list boot_list) pa_nil))))) (pw_or1 (pt_not (pt_val (pe_callB (call_allB K rfl) (by rfl) T.b_all boot_all (pa_cons (pe_comp ["cue"] [none] rfl (pi_listK K (pv 0)) (fun _ _ _ => (pg_name (i := 0) ndc_cue_list_0 rfl (Or.inl rfl))) (fun _ _ _ => (pe_callB (call_isiC K) (by rfl) T.b_isinstance boot_isinstance (pa_cons (pv 0) (pa_cons (pe_glob (v := V.ref _) (by rfl) T.c_Cue rfl) pa_nil))))) pa_nil))))))) (pss_one (ps_raise T.x_NoList (by rfl) T.c_NoList (pa_cons pe_str pa_nil))) pss_nil)
      (pss_cons (ps_for PassesOwn.leaving rfl (pi_range2 (by rfl) T.b_range (pa_cons pe_int (pa_cons (pe_callB (call_lenK K) (by rfl) T.b_len PySem.boot_len (pa_cons (pv 0) pa_nil)) pa_nil))) (pg_name (i := 1) sc_cue_list.nd rfl (Or.inl rfl)) (pss_one (ps_if (pt_cmpR op_le (pe_fldK K (pe_ix (ix_listK K) (pv 0) (pv 1) (fun _ _ => rfl))) (pe_fldK K (pe_ix (ix_listK K) (pv 0) (pe_op op_sub (pv 1) pe_int) (fun _ _ => rfl))) (nomark _)) (pss_one (ps_raise T.x_NoList (by rfl) T.c_NoList (pa_cons pe_str pa_nil))) pss_nil)))
      (pss_one (ps_ret (pe_callTy (call_listK K) (by rfl) T.b_list boot_list (pa_cons (pv 0) pa_nil)))))), ?_⟩
    refine ⟨_, rfl, _, _, _, true, rfl, .lst hl, kit_ll, true, rfl, iteF ?_⟩
    refine ⟨_, rfl, l, rfl, ⟨_, SqL.of hl⟩, fun D hD => ?_⟩
    refine comp_mp (fun _ => .bl true) (fun σ => σ.length = 1) (SqL.of hl) hD (by rw [List.length_map]; omega) rfl (fun v σ' G N hv ho sm q => ?_) fun G sm hDl => ?_
    · obtain ⟨c, hcm, rfl⟩ := List.mem_map.mp hv
      obtain ⟨u, _, dx, L, ps, e, _⟩ := paired_mem (hc.keep sm) hcm
      match σ', ho with
      | [_], _ => exact ⟨_, rfl, _, _, _, true, rfl, T.ty_Cue _ _ _ _ e, T.kt_Cue, q _ _ (Same.refl _) rfl⟩
    refine ⟨D, cs.map (fun _ => true), rfl, SqL.of (by rw [hDl, List.map_map, List.map_map]; rfl), _, rfl, ?_⟩
    rw [show (cs.map fun _ => true).all id = true by simp]
    refine iteF ?_
    have lG := sm _ _ hl
    have ln : (cs.map V.ref).length = cs.length := List.length_map _
    refine ⟨_, rfl, l, _, rfl, .inl (SqL.of lG), 1, _, rfl, ⟨by decide, by decide, by rw [ln]; omega, by rw [ln]; omega⟩, ?_⟩
    refine for_range (fun _ σ' G' => ∃ z : Option V, σ' = [some (.ref l), z] ∧ G' = G) ⟨none, rfl, rfl⟩ (fun i σ' G' hi hq => ?_) fun σ' G' hq => ?_
    · obtain ⟨z, rfl, rfl⟩ := hq
      rw [ln] at hi
      have i1 : i + 1 < cs.length := by omega
      have g1 : cs[i + 1]? = some cs[i + 1] := List.getElem?_eq_getElem i1
      have g0 : cs[i]? = some cs[i] := List.getElem?_eq_getElem (by omega)
      obtain ⟨u1, v1, dx1, L1, ps1, e1, _⟩ := paired_at (hc.keep sm) g1
      obtain ⟨u0, v0, dx0, L0, ps0, e0, _⟩ := paired_at (hc.keep sm) g0
      have lt : u0.n < u1.n := by
        have := List.pairwise_iff_getElem.mp hri i (i + 1) (List.getElem?_eq_some_iff.mp v0).1 (List.getElem?_eq_some_iff.mp v1).1 (by omega)
        rw [(List.getElem?_eq_some_iff.mp v0).2, (List.getElem?_eq_some_iff.mp v1).2] at this
        exact this
      have a1 : atI (cs.map V.ref) (1 + (i : Int)) = some (.ref cs[i + 1]) := by
        rw [show (1 + (i : Int)) = ((i + 1 : Nat) : Int) from by omega]
        exact atI_nat (by rw [List.getElem?_map, g1]; rfl)
      have a0 : atI (cs.map V.ref) (1 + (i : Int) - 1) = some (.ref cs[i]) := by
        rw [show (1 + (i : Int) - 1) = ((i : Nat) : Int) from by omega]
        exact atI_nat (by rw [List.getElem?_map, g0]; rfl)
      refine ⟨_, rfl, _, rfl, l, _, _, _, rfl, rfl, SqL.of lG, a1, cs[i + 1], A.C_Cue, dx1, _, _, rfl, e1, T.cl_Cue, T.na_Cue_number, rfl, ?_⟩
      refine ⟨_, rfl, _, rfl, _, _, rfl, rfl, l, _, _, _, rfl, rfl, SqL.of lG, a0, cs[i], A.C_Cue, dx0, _, _, rfl, e0, T.cl_Cue, T.na_Cue_number, rfl, ?_⟩
      refine ⟨_, _, rfl, rfl, _, rfl, ?_⟩
      rw [show decide (u1.n ≤ u0.n) = false from decide_eq_false (by omega)]
      exact iteF ⟨_, rfl, rfl⟩
    obtain ⟨z, rfl, rfl⟩ := hq
    refine ⟨_, rfl, l, _, rfl, SqL.of lG, fun m hm => ?_⟩
    have hm0 : H m = none := sm.free hm
    exact k m _ hm0 upd_same (sm.trans (Same.new hm))
def spChecked0 (A : Adr) : Sp := fun vs H Q _ => ∃ (l : Addr) (n : Int) (cs : List Addr) (us : List Cu), vs = [.ref l, .int n] ∧ 0 ≤ n ∧ H l = some (.lst (cs.map V.ref)) ∧ cs.length ≤ 900 ∧ Cues0 A H cs us ∧ Rising us ∧ ∀ m H', H m = none → H' m = some (.lst (cs.map V.ref)) → Same H H' → Q (.ref m) H'
theorem ok_checked {P : Program} {w : World} {K : PySem.W.Frag} {mg : Str → Option Value} {base : Heap} {A : Adr} (T : Txt K mg A) : FnOk P w K mg base (CXE P w) 2 A.f_checked A.d_checked ["cues", "number"] (spChecked0 A) := by
  have G_cue_list := ok_cue_list (P := P) (w := w) (base := base) T
  have G_is_whole := ok_is_whole (P := P) (w := w) (base := base) T
  refine T.F_checked.okN sc_checked (fun vs H Q E h => ?_) (fun cdv Ar outer s H vs Q E hr h => ?_)
  · obtain ⟨l, n, cs, us, rfl, hn, hl, hz, hc, hri, k⟩ := h
    rfl
  · obtain ⟨l, n, cs, us, rfl, hn, hl, hz, hc, hri, k⟩ := h
    refine ⟨_, (pss_cons (ps_set (i := 2) sc_checked.nd rfl (Or.inl rfl) (pe_call G_cue_list (hr.mono (by decide)) (by rfl) T.m_cue_list T.F_cue_list.kp T.bb_cue_list .nil passE0 (pa_cons (pv 0) pa_nil)))
      (pss_cons (ps_if (PW.pt (pw_or (pt_not (pt_val (pe_call G_is_whole (hr.mono (by decide)) (by rfl) T.m_is_whole T.F_is_whole.kp T.bb_is_whole .nil passE0 (pa_cons (pv 1) pa_nil)))) (pw_or1 (pt_cmpR op_lt (pv 1) pe_int (nomark _))))) (pss_one ps_never) pss_nil)
      (pss_one (ps_ret (pv 2))))), ?_⟩
    refine ⟨_, rfl, l, cs, us, rfl, hl, hz, hc, hri, fun m H1 hm hml s1 => ?_⟩
    refine ⟨_, rfl, n, rfl, _, rfl, iteF ?_⟩
    refine ⟨_, rfl, _, _, rfl, rfl, _, rfl, ?_⟩
    rw [show decide (n < 0) = false from decide_eq_false (by omega)]
    refine iteF ?_
    exact ⟨_, rfl, k m H1 hm hml s1⟩
def LeastOr0 (ns : List Int) (m : Int) : Prop := (ns = [] → m = 0) ∧ (ns ≠ [] → m ∈ ns ∧ ∀ a ∈ ns, m ≤ a)
def MostOr0 (ns : List Int) (m : Int) : Prop := (ns = [] → m = 0) ∧ (ns ≠ [] → m ∈ ns ∧ ∀ a ∈ ns, m ≥ a)
def nsAbove (us : List Cu) (n : Int) : List Int := (us.filter fun u => decide (u.n > n)).map (·.n)
def nsBelow (us : List Cu) (n : Int) : List Int := (us.filter fun u => decide (u.n < n)).map (·.n)
def spAbove0 (A : Adr) : Sp := fun vs H Q _ => ∃ (l : Addr) (n : Int) (cs : List Addr) (us : List Cu), vs = [.ref l, .int n] ∧ 0 ≤ n ∧ H l = some (.lst (cs.map V.ref)) ∧ cs.length ≤ 900 ∧ Cues0 A H cs us ∧ Rising us ∧ ∀ m H', LeastOr0 (nsAbove us n) m → Same H H' → Q (.int m) H'
theorem ok_above {P : Program} {w : World} {K : PySem.W.Frag} {mg : Str → Option Value} {base : Heap} {A : Adr} (T : Txt K mg A) : FnOk P w K mg base (CXE P w) 3 A.f_above A.d_above ["cues", "number"] (spAbove0 A) := by
  have G_checked := ok_checked (P := P) (w := w) (base := base) T
  refine T.F_above.okN sc_above (fun vs H Q E h => ?_) (fun cdv Ar outer s H vs Q E hr h => ?_)
  · obtain ⟨l, n, cs, us, rfl, hn, hl, hz, hc, hri, k⟩ := h
    rfl
  · obtain ⟨l, n, cs, us, rfl, hn, hl, hz, hc, hri, k⟩ := h
    refine ⟨_, (pss_one (ps_ret (pe_callBK (call_minD K rfl) (by rfl) T.b_min boot_min (pa_cons (pe_compIf ["cue", "number"] [none, some 1] rfl (pi_listK K (pe_call G_checked (hr.mono (by decide)) (by rfl) T.m_checked T.F_checked.kp T.bb_checked .nil passE0 (pa_cons (pv 0) (pa_cons (pv 1) pa_nil)))) (fun _ _ _ => (pg_name (i := 0) ndc_above_0 rfl (Or.inl rfl))) (fun _ _ _ => (pt_cmpR op_gt (pe_fldK K (pv 0)) (pv 1) (nomark _))) (fun _ _ _ => (pe_fldK K (pv 0)))) pa_nil) (pk_cons pe_int pk_nil)))), ?_⟩
    refine ⟨_, rfl, _, rfl, l, n, cs, us, rfl, hn, hl, hz, hc, hri, fun m H1 hm hml s1 => ?_⟩
    refine ⟨m, rfl, ⟨_, SqL.of hml⟩, fun D hD => ?_⟩
    have hcl : us.length = (cs.map V.ref).length := by rw [List.length_map]; exact (Paired.length hc).symm
    refine compIf_pr (fun u : Cu => decide (u.n > n)) (fun u => .int u.n) (fun σ => ∃ z, σ = [z, some (.int n)]) (SqL.of hml) hD (by rw [List.length_map]; omega) hcl ⟨none, rfl⟩ (fun i v u σ' G N hv hu ho sm q => ?_) fun G sm hDl => ?_
    · obtain ⟨z, rfl⟩ := ho
      rw [List.getElem?_map] at hv
      cases hci : cs[i]? with
      | none => rw [hci] at hv; cases hv
      | some c =>
        rw [hci] at hv
        obtain rfl : V.ref c = v := by simpa using hv
        obtain ⟨u', hu', dx, L, ps, e, _⟩ := paired_at (hc.keep (s1.trans sm)) hci
        rw [hu] at hu'
        cases hu'
        have q' := q [some (.ref c), some (.int n)] G (Same.refl _) ⟨_, rfl⟩
        refine ⟨_, rfl, c, A.C_Cue, dx, _, _, rfl, e, T.cl_Cue, T.na_Cue_number, rfl, _, rfl, _, _, rfl, rfl, _, rfl, ?_⟩
        by_cases hb : u.n > n
        · rw [decide_eq_true hb] at q'
          rw [show decide (n < u.n) = true from decide_eq_true hb]
          exact iteT ⟨_, rfl, c, A.C_Cue, dx, _, _, rfl, e, T.cl_Cue, T.na_Cue_number, rfl, q'⟩
        · rw [decide_eq_false hb] at q'
          rw [show decide (n < u.n) = false from decide_eq_false hb]
          exact iteF q'
    exact ⟨D, nsAbove us n, 0, rfl, rfl, SqL.of (by rw [hDl]; unfold nsAbove; rw [List.map_map]; rfl), fun m' g1 g2 => k m' G ⟨g1, g2⟩ (s1.trans sm)⟩
def spBelow0 (A : Adr) : Sp := fun vs H Q _ => ∃ (l : Addr) (n : Int) (cs : List Addr) (us : List Cu), vs = [.ref l, .int n] ∧ 0 ≤ n ∧ H l = some (.lst (cs.map V.ref)) ∧ cs.length ≤ 900 ∧ Cues0 A H cs us ∧ Rising us ∧ ∀ m H', MostOr0 (nsBelow us n) m → Same H H' → Q (.int m) H'
theorem ok_below {P : Program} {w : World} {K : PySem.W.Frag} {mg : Str → Option Value} {base : Heap} {A : Adr} (T : Txt K mg A) : FnOk P w K mg base (CXE P w) 3 A.f_below A.d_below ["cues", "number"] (spBelow0 A) := by
  have G_checked := ok_checked (P := P) (w := w) (base := base) T
  refine T.F_below.okN sc_below (fun vs H Q E h => ?_) (fun cdv Ar outer s H vs Q E hr h => ?_)
  · obtain ⟨l, n, cs, us, rfl, hn, hl, hz, hc, hri, k⟩ := h
    rfl
  · obtain ⟨l, n, cs, us, rfl, hn, hl, hz, hc, hri, k⟩ := h
    refine ⟨_, (pss_one (ps_ret (pe_callBK (call_maxD K rfl) (by rfl) T.b_max boot_max (pa_cons (pe_compIf ["cue", "number"] [none, some 1] rfl (pi_listK K (pe_call G_checked (hr.mono (by decide)) (by rfl) T.m_checked T.F_checked.kp T.bb_checked .nil passE0 (pa_cons (pv 0) (pa_cons (pv 1) pa_nil)))) (fun _ _ _ => (pg_name (i := 0) ndc_below_0 rfl (Or.inl rfl))) (fun _ _ _ => (pt_cmpR op_lt (pe_fldK K (pv 0)) (pv 1) (nomark _))) (fun _ _ _ => (pe_fldK K (pv 0)))) pa_nil) (pk_cons pe_int pk_nil)))), ?_⟩
    refine ⟨_, rfl, _, rfl, l, n, cs, us, rfl, hn, hl, hz, hc, hri, fun m H1 hm hml s1 => ?_⟩
    refine ⟨m, rfl, ⟨_, SqL.of hml⟩, fun D hD => ?_⟩
    have hcl : us.length = (cs.map V.ref).length := by rw [List.length_map]; exact (Paired.length hc).symm
    refine compIf_pr (fun u : Cu => decide (u.n < n)) (fun u => .int u.n) (fun σ => ∃ z, σ = [z, some (.int n)]) (SqL.of hml) hD (by rw [List.length_map]; omega) hcl ⟨none, rfl⟩ (fun i v u σ' G N hv hu ho sm q => ?_) fun G sm hDl => ?_
    · obtain ⟨z, rfl⟩ := ho
      rw [List.getElem?_map] at hv
      cases hci : cs[i]? with
      | none => rw [hci] at hv; cases hv
      | some c =>
        rw [hci] at hv
        obtain rfl : V.ref c = v := by simpa using hv
        obtain ⟨u', hu', dx, L, ps, e, _⟩ := paired_at (hc.keep (s1.trans sm)) hci
        rw [hu] at hu'
        cases hu'
        have q' := q [some (.ref c), some (.int n)] G (Same.refl _) ⟨_, rfl⟩
        refine ⟨_, rfl, c, A.C_Cue, dx, _, _, rfl, e, T.cl_Cue, T.na_Cue_number, rfl, _, rfl, _, _, rfl, rfl, _, rfl, ?_⟩
        by_cases hb : u.n < n
        · rw [decide_eq_true hb] at q'
          rw [show decide (u.n < n) = true from decide_eq_true hb]
          exact iteT ⟨_, rfl, c, A.C_Cue, dx, _, _, rfl, e, T.cl_Cue, T.na_Cue_number, rfl, q'⟩
        · rw [decide_eq_false hb] at q'
          rw [show decide (u.n < n) = false from decide_eq_false hb]
          exact iteF q'
    exact ⟨D, nsBelow us n, 0, rfl, rfl, SqL.of (by rw [hDl]; unfold nsBelow; rw [List.map_map]; rfl), fun m' g1 g2 => k m' G ⟨g1, g2⟩ (s1.trans sm)⟩
def CueAt0 (A : Adr) (cs : List Addr) (us : List Cu) (n : Int) (v : V) : Prop := (v = .non ∧ ∀ u ∈ us, u.n ≠ n) ∨ ∃ (i : Nat) (c : Addr) (u : Cu), v = .ref c ∧ cs[i]? = some c ∧ us[i]? = some u ∧ u.n = n
def spCueAt0 (A : Adr) : Sp := fun vs H Q _ => ∃ (l : Addr) (n : Int) (cs : List Addr) (us : List Cu), vs = [.ref l, .int n] ∧ 0 ≤ n ∧ H l = some (.lst (cs.map V.ref)) ∧ cs.length ≤ 900 ∧ Cues0 A H cs us ∧ Rising us ∧ ∀ v H', CueAt0 A cs us n v → Same H H' → Q v H'
theorem ok_cue_at {P : Program} {w : World} {K : PySem.W.Frag} {mg : Str → Option Value} {base : Heap} {A : Adr} (T : Txt K mg A) : FnOk P w K mg base (CXE P w) 3 A.f_cue_at A.d_cue_at ["cues", "number"] (spCueAt0 A) := by
  have G_checked := ok_checked (P := P) (w := w) (base := base) T
  refine T.F_cue_at.okN sc_cue_at (fun vs H Q E h => ?_) (fun cdv Ar outer s H vs Q E hr h => ?_)
  · obtain ⟨l, n, cs, us, rfl, hn, hl, hz, hc, hri, k⟩ := h
    rfl
  · obtain ⟨l, n, cs, us, rfl, hn, hl, hz, hc, hri, k⟩ := h
    refine ⟨_, (pss_cons (ps_for PassesOwn.never rfl (pi_listK K (pe_call G_checked (hr.mono (by decide)) (by rfl) T.m_checked T.F_checked.kp T.bb_checked .nil passE0 (pa_cons (pv 0) (pa_cons (pv 1) pa_nil)))) (pg_name (i := 2) sc_cue_at.nd rfl (Or.inl rfl)) (pss_one (ps_if (pt_cmpR op_eq (pe_fldK K (pv 2)) (pv 1) (nomark _)) (pss_one (ps_ret (pv 2))) pss_nil)))
      (pss_one (ps_ret pe_non))), ?_⟩
    refine ⟨_, rfl, _, rfl, l, n, cs, us, rfl, hn, hl, hz, hc, hri, fun m H1 hm hml s1 => ?_⟩
    have hcl : us.length = cs.length := (Paired.length hc).symm
    refine ⟨m, rfl, ⟨_, SqL.of hml⟩, for_list (xs := cs.map V.ref) (fun i σ' G => (∃ z : Option V, σ' = [some (.ref l), some (.int n), z]) ∧ G = H1 ∧ ∀ u ∈ us.take i, u.n ≠ n) ⟨⟨none, rfl⟩, rfl, by simp⟩ (fun i σ' G _ hq => ?_) (fun i v σ' G hv hq => ?_) fun σ' G hq => ?_⟩
    · obtain ⟨_, rfl, _⟩ := hq; exact SqL.of hml
    · obtain ⟨⟨z, rfl⟩, rfl, no⟩ := hq
      rw [List.getElem?_map] at hv
      cases hci : cs[i]? with
      | none => rw [hci] at hv; cases hv
      | some c =>
        rw [hci] at hv
        obtain rfl : V.ref c = v := by simpa using hv
        obtain ⟨u, hu, dx, L, ps, e, _⟩ := paired_at (hc.keep s1) hci
        refine ⟨_, rfl, c, A.C_Cue, dx, _, _, rfl, e, T.cl_Cue, T.na_Cue_number, rfl, _, rfl, rfl, _, rfl, ?_⟩
        by_cases hb : u.n = n
        · rw [show decide (V.int u.n = V.int n) = true from decide_eq_true (by rw [hb])]
          exact iteT ⟨_, rfl, k _ _ (.inr ⟨i, c, u, rfl, hci, hu, hb⟩) s1⟩
        · rw [show decide (V.int u.n = V.int n) = false from decide_eq_false (fun z => hb (by simpa using z))]
          refine iteF ⟨⟨_, rfl⟩, rfl, fun w hw => ?_⟩
          rw [List.take_add_one, hu] at hw
          rcases List.mem_append.mp hw with y | y
          · exact no w y
          · have : w = u := by simpa using y
            rw [this]; exact hb
    obtain ⟨⟨z, rfl⟩, rfl, no⟩ := hq
    refine k _ _ (.inl ⟨rfl, fun u hu => no u ?_⟩) s1
    rw [List.take_of_length_le (by rw [List.length_map]; omega)]
    exact hu
abbrev Row := Int × Int × Str
def oV : Option Int → V
  | none => .non
  | some i => .int i
structure Wk where
  num : Int
  lag : Int
  held : Option Int
  due : Option Int
def clk (w : Wk) (t b : Int) : Int := match w.held with
  | none => t - w.lag * b
  | some h => h * b
def onW (w : Wk) (t : Int) : Wk := { w with lag := t - clk w t 1, held := none }
theorem clk_on (w : Wk) (t : Int) : clk (onW w t) t 1 = clk w t 1 := by
  show t - (t - clk w t 1) * 1 = _; omega
def dueO (c : Int) : V → Option Int
  | .int f => some (c + f)
  | _ => none
def nextC (us : List Cu) (n : Int) : Option Cu := us.find? fun u => decide (n < u.n)
def hasC (us : List Cu) (n : Int) : Option Cu := us.find? fun u => decide (u.n = n)
def prevN (us : List Cu) (n : Int) : Int := match (us.filter fun u => decide (u.n < n)).getLast? with
  | none => 0
  | some u => u.n
def nextN (us : List Cu) (n : Int) : Int := match nextC us n with
  | none => 0
  | some u => u.n
def goneTo (w : Wk) (t : Int) (u : Cu) : Wk := { onW w t with num := u.n, due := dueO (clk w t 1) u.fo }
def gotoF (w : Wk) (t : Int) : Option Cu → Wk × List Row × Bool
  | none => (w, [], false)
  | some u => (goneTo w t u, [(clk w t 1, u.n, ("go" : Str))], true)
def backF (us : List Cu) (w : Wk) (t : Int) : Wk × List Row × Bool := if w.num = 0 then (w, [], false) else ({ onW w t with num := prevN us w.num, due := none }, [(clk w t 1, prevN us w.num, ("back" : Str))], true)
inductive Wd where
  | go | back | goto (n : Int) | stop | on
def wdV : Wd → List V
  | .go => [.str "go"]
  | .back => [.str "back"]
  | .goto n => [.str "goto", .int n]
  | .stop => [.str "stop"]
  | .on => [.str "on"]
structure Dd where
  tick : Int
  wd : Wd
def DeedAt (H : Hp) (a : Addr) (d : Dd) : Prop := H a = some (.tup (.int d.tick :: wdV d.wd))
def doF (us : List Cu) (w : Wk) (d : Dd) : Wk × List Row := match d.wd with
  | .go => ((gotoF w d.tick (nextC us w.num)).1, (gotoF w d.tick (nextC us w.num)).2.1)
  | .back => ((backF us w d.tick).1, (backF us w d.tick).2.1)
  | .goto n => ((gotoF w d.tick (hasC us n)).1, (gotoF w d.tick (hasC us n)).2.1)
  | .stop => ({ w with held := some (clk w d.tick 1) }, [])
  | .on => (onW w d.tick, [])
inductive Comes (us : List Cu) (k b : Int) : Int → Option Int → List Row → Int → Option Int → Prop
  | rest {n d} : (∀ e, d = some e → k < e * b) → Comes us k b n d [] n d
  | last {n e} : e * b ≤ k → nextC us n = none → Comes us k b n (some e) [] n none
  | go {n e u r n' d'} : e * b ≤ k → nextC us n = some u → Comes us k b u.n (dueO e u.fo) r n' d' → Comes us k b n (some e) ((e, u.n, ("go" : Str)) :: r) n' d'
inductive Runs (us : List Cu) : Wk → List Dd → List Row → Wk → Prop
  | nil {w : Wk} : Runs us w [] [] w
  | snoc {w : Wk} {ds : List Dd} {r : List Row} {w1 : Wk} {d : Dd} {r1 : List Row} {n1 : Int} {d1 : Option Int} : Runs us w ds r w1 → Comes us (clk w1 d.tick 1) 1 w1.num w1.due r1 n1 d1 → Runs us w (ds ++ [d]) (r ++ (r1 ++ (doF us { w1 with num := n1, due := d1 } d).2)) (doF us { w1 with num := n1, due := d1 } d).1
theorem find_least {n : Int} : ∀ {us : List Cu}, Rising us → ∀ {u : Cu}, nextC us n = some u → ∀ v ∈ us, n < v.n → u.n ≤ v.n
  | [], _, u, h, _, hv, _ => by simp at hv
  | a :: us, ri, u, h, v, hv, hn => by
    unfold nextC at h
    rw [List.find?_cons] at h
    have ri' := List.pairwise_cons.mp ri
    by_cases c : n < a.n
    · rw [show decide (n < a.n) = true from decide_eq_true c] at h
      cases h
      rcases List.mem_cons.mp hv with rfl | hv
      · exact Int.le_refl _
      · exact Int.le_of_lt (ri'.1 v hv)
    · rw [show decide (n < a.n) = false from decide_eq_false c] at h
      rcases List.mem_cons.mp hv with rfl | hv
      · exact absurd hn c
      · exact find_least ri'.2 h v hv hn
theorem next_mem {us : List Cu} {n : Int} {u : Cu} (h : nextC us n = some u) : u ∈ us ∧ n < u.n :=
  ⟨List.mem_of_find?_eq_some h, of_decide_eq_true (List.find?_some (p := fun u : Cu => decide (n < u.n)) h)⟩
theorem least_next {us : List Cu} (ri : Rising us) {n m : Int} (h : LeastOr0 (nsAbove us n) m) : m = nextN us n := by
  unfold nextN
  cases e : nextC us n with
  | none =>
    refine h.1 ?_
    have := List.find?_eq_none.mp e
    unfold nsAbove
    rw [List.filter_eq_nil_iff.mpr fun u hu => this u hu]
    rfl
  | some u =>
    obtain ⟨hu, hn⟩ := next_mem e
    have um : u.n ∈ nsAbove us n := List.mem_map.mpr ⟨u, List.mem_filter.mpr ⟨hu, decide_eq_true hn⟩, rfl⟩
    obtain ⟨h1, h2⟩ := h.2 (List.ne_nil_of_mem um)
    obtain ⟨v, hv, rfl⟩ := List.mem_map.mp h1
    obtain ⟨v1, v2⟩ := List.mem_filter.mp hv
    have a := find_least ri e v v1 (of_decide_eq_true v2)
    have b := h2 _ um
    show v.n = u.n
    omega
theorem last_most {l : List Cu} (ri : Rising l) {u : Cu} (h : l.getLast? = some u) : ∀ v ∈ l, v.n ≤ u.n := by
  obtain ⟨l', rfl⟩ := List.getLast?_eq_some_iff.mp h
  intro v hv
  rcases List.mem_append.mp hv with hv | hv
  · exact Int.le_of_lt ((List.pairwise_append.mp ri).2.2 v hv u (by simp))
  · rw [List.mem_singleton] at hv; rw [hv]; exact Int.le_refl _
theorem most_prev {us : List Cu} (ri : Rising us) {n m : Int} (h : MostOr0 (nsBelow us n) m) : m = prevN us n := by
  unfold prevN
  cases e : (us.filter fun u => decide (u.n < n)).getLast? with
  | none =>
    refine h.1 ?_
    unfold nsBelow
    rw [List.getLast?_eq_none_iff.mp e]
    rfl
  | some u =>
    have hu : u ∈ us.filter fun u => decide (u.n < n) := List.mem_of_getLast? e
    have um : u.n ∈ nsBelow us n := List.mem_map.mpr ⟨u, hu, rfl⟩
    obtain ⟨h1, h2⟩ := h.2 (List.ne_nil_of_mem um)
    obtain ⟨v, hv, rfl⟩ := List.mem_map.mp h1
    have a := last_most (List.Pairwise.filter _ ri) e v hv
    have b := h2 _ um
    show v.n = u.n
    omega
theorem has_of {us : List Cu} (ri : Rising us) {u : Cu} (hu : u ∈ us) : hasC us u.n = some u := by
  unfold hasC
  induction us with
  | nil => simp at hu
  | cons a us ih =>
    have ri' := List.pairwise_cons.mp ri
    rw [List.find?_cons]
    rcases List.mem_cons.mp hu with rfl | hu
    · rw [decide_eq_true rfl]
    · rw [show decide (a.n = u.n) = false from decide_eq_false (by have := ri'.1 u hu; omega)]
      exact ih ri'.2 hu
theorem has_mem {us : List Cu} {n : Int} {u : Cu} (h : hasC us n = some u) : u ∈ us ∧ u.n = n :=
  ⟨List.mem_of_find?_eq_some h, of_decide_eq_true (List.find?_some (p := fun u : Cu => decide (u.n = n)) h)⟩
def cntA (us : List Cu) (n : Int) : Nat := (us.filter fun u => decide (n < u.n)).length
theorem cnt_le (us : List Cu) (n : Int) : cntA us n ≤ us.length := List.length_filter_le _ _
theorem cnt_cons (a : Cu) (us : List Cu) (n : Int) : cntA (a :: us) n = cntA us n + (if n < a.n then 1 else 0) := by
  unfold cntA
  rw [List.filter_cons]
  by_cases c : n < a.n
  · rw [decide_eq_true c, if_pos rfl, if_pos c, List.length_cons]
  · rw [decide_eq_false c, if_neg Bool.false_ne_true, if_neg c]; rfl
theorem cnt_mono {n m : Int} (h : n ≤ m) : ∀ us : List Cu, cntA us m ≤ cntA us n
  | [] => Nat.le_refl _
  | a :: us => by
    have ih := cnt_mono h us
    rw [cnt_cons, cnt_cons]
    by_cases c : m < a.n
    · rw [if_pos c, if_pos (show n < a.n by omega)]; omega
    · rw [if_neg c]; omega
theorem cnt_lt {n : Int} {u : Cu} (hn : n < u.n) : ∀ {us : List Cu}, u ∈ us → cntA us u.n < cntA us n
  | [], h => by simp at h
  | a :: us, h => by
    have m := cnt_mono (Int.le_of_lt hn) us
    rw [cnt_cons, cnt_cons]
    rcases List.mem_cons.mp h with rfl | h
    · rw [if_neg (show ¬ u.n < u.n by omega), if_pos hn]; omega
    · have ih := cnt_lt hn h
      by_cases c : u.n < a.n
      · rw [if_pos c, if_pos (show n < a.n by omega)]; omega
      · rw [if_neg c]; omega
def walkF (Lc Lt : Addr) (w : Wk) : List (Str × V) := [("cues", .ref Lc), ("number", .int w.num), ("lag", .int w.lag), ("held", oV w.held), ("due", oV w.due), ("trail", .ref Lt)]
structure Rw where
  r : Addr
  l : Addr
  c : Int
  n : Int
  w : Str
def Rw.d (t : Rw) : Row := (t.c, t.n, t.w)
def RowAt (H : Hp) (cs : List Addr) (t : Rw) : Prop := H t.r = some (.tup [.int t.c, .ref t.l, .int t.n, .str t.w]) ∧ H t.l = some (.lst (cs.map V.ref))
structure WalkAt (A : Adr) (H0 H : Hp) (x Lc Lt : Addr) (cs : List Addr) (us : List Cu) (w : Wk) (ts : List Rw) : Prop where
  ob : ∃ dx, H x = some (.ins A.C_Walk dx (walkF Lc Lt w))
  cu : H Lc = some (.lst (cs.map V.ref))
  ok : Cues0 A H0 cs us
  ri : Rising us
  sz : cs.length ≤ 900
  fo : ∀ u ∈ us, FoOk u.fo ∧ 1 ≤ u.n
  tr : H Lt = some (.lst (ts.map fun t => V.ref t.r))
  rs : ∀ t ∈ ts, RowAt H cs t ∧ t.l ≠ Lt ∧ H0 t.l = none ∧ H0 t.r = none
  nd : (ts.map (·.l)).Nodup
  ne : Lc ≠ Lt
  nn : 0 ≤ w.num
  sm : Same H0 H
  fx : H0 x = none
  fl : H0 Lt = none
theorem WalkAt.keep {A : Adr} {H0 H H' : Hp} {x Lc Lt : Addr} {cs : List Addr} {us : List Cu} {w : Wk} {ts : List Rw} (h : WalkAt A H0 H x Lc Lt cs us w ts) (s : Same H H') : WalkAt A H0 H' x Lc Lt cs us w ts :=
  ⟨by obtain ⟨dx, e⟩ := h.ob; exact ⟨dx, s _ _ e⟩, s _ _ h.cu, h.ok, h.ri, h.sz, h.fo, s _ _ h.tr, fun t ht => ⟨⟨s _ _ (h.rs t ht).1.1, s _ _ (h.rs t ht).1.2⟩, (h.rs t ht).2⟩, h.nd, h.ne, h.nn, h.sm.trans s, h.fx, h.fl⟩
theorem WalkAt.put {A : Adr} {H0 H : Hp} {x Lc Lt : Addr} {cs : List Addr} {us : List Cu} {w : Wk} {ts : List Rw} (h : WalkAt A H0 H x Lc Lt cs us w ts) {dx : Addr} (hx : H x = some (.ins A.C_Walk dx (walkF Lc Lt w))) (w' : Wk) (hn : 0 ≤ w'.num) :
    WalkAt A H0 (upd H x (.ins A.C_Walk dx (walkF Lc Lt w'))) x Lc Lt cs us w' ts := by
  have kp : ∀ {b o}, H b = some o → (∀ C d f, o ≠ .ins C d f) → (upd H x (.ins A.C_Walk dx (walkF Lc Lt w'))) b = some o := fun {b o} e n => by
    rw [upd_ne (ne_of e hx (n _ _ _))]; exact e
  exact ⟨⟨dx, upd_same⟩, kp h.cu (by intro _ _ _ z; cases z), h.ok, h.ri, h.sz, h.fo, kp h.tr (by intro _ _ _ z; cases z), fun t ht => ⟨⟨kp (h.rs t ht).1.1 (by intro _ _ _ z; cases z), kp (h.rs t ht).1.2 (by intro _ _ _ z; cases z)⟩, (h.rs t ht).2⟩, h.nd, h.ne, hn, h.sm.upd h.fx, h.fx, h.fl⟩
theorem WalkAt.snoc {A : Adr} {H0 H : Hp} {x Lc Lt : Addr} {cs : List Addr} {us : List Cu} {w : Wk} {ts : List Rw} (h : WalkAt A H0 H x Lc Lt cs us w ts) {l r : Addr} (hl : H l = none) (hr : (upd H l (.lst (cs.map V.ref))) r = none) (c : Int) (wd : Str) :
    WalkAt A H0 (upd (upd (upd H l (.lst (cs.map V.ref))) r (.tup [.int c, .ref l, .int w.num, .str wd])) Lt (.lst (ts.map (fun t => V.ref t.r) ++ [V.ref r]))) x Lc Lt cs us w (ts ++ [⟨r, l, c, w.num, wd⟩]) := by
  have nrl : r ≠ l := by rintro rfl; rw [upd_same] at hr; cases hr
  have hr' : H r = none := by rw [upd_ne nrl] at hr; exact hr
  have nl : l ≠ Lt := fun e => by rw [e, h.tr] at hl; cases hl
  have nr : r ≠ Lt := fun e => by rw [e, h.tr] at hr'; cases hr'
  have kp : ∀ {b o}, H b = some o → b ≠ Lt → (upd (upd (upd H l (.lst (cs.map V.ref))) r (.tup [.int c, .ref l, .int w.num, .str wd])) Lt (.lst (ts.map (fun t => V.ref t.r) ++ [V.ref r]))) b = some o := fun {b o} e n => by
    rw [upd_ne n, upd_ne (ne_of_none e hr'), upd_ne (ne_of_none e hl)]; exact e
  obtain ⟨dx, hx⟩ := h.ob
  refine ⟨⟨dx, kp hx (ne_of hx h.tr (by intro z; cases z))⟩, kp h.cu h.ne, h.ok, h.ri, h.sz, h.fo, by rw [upd_same, List.map_append]; rfl, fun t ht => ?_, ?_, h.ne, h.nn, ((h.sm.upd (h.sm.free hl)).upd (h.sm.free hr')).upd h.fl, h.fx, h.fl⟩
  · rcases List.mem_append.mp ht with ht | ht
    · obtain ⟨⟨a, b⟩, n, f⟩ := h.rs t ht
      exact ⟨⟨kp a (ne_of a h.tr (by intro z; cases z)), kp b n⟩, n, f⟩
    · rw [List.mem_singleton] at ht
      subst ht
      exact ⟨⟨by rw [upd_ne nr, upd_same], by rw [upd_ne nl, upd_ne (Ne.symm nrl), upd_same]⟩, nl, h.sm.free hl, h.sm.free hr'⟩
  · rw [List.map_append]
    refine List.nodup_append.mpr ⟨h.nd, by simp, fun a ha b hb e => ?_⟩
    rw [List.map_cons, List.map_nil, List.mem_singleton] at hb
    obtain ⟨t, ht, rfl⟩ := List.mem_map.mp ha
    have := (h.rs t ht).1.2
    rw [e, hb] at this
    rw [hl] at this
    cases this
def spWalk (A : Adr) : Sp := fun vs H Q _ => ∃ (x dx l : Addr) (cs : List Addr) (us : List Cu), vs = [.ref x, .ref l] ∧ H x = some (.ins A.C_Walk dx []) ∧ H l = some (.lst (cs.map V.ref)) ∧ cs.length ≤ 900 ∧ Cues0 A H cs us ∧ Rising us ∧
  ∀ Lc Lt H', H' x = some (.ins A.C_Walk dx (walkF Lc Lt ⟨0, 0, none, none⟩)) → H' Lc = some (.lst (cs.map V.ref)) → H' Lt = some (.lst []) → H Lc = none → H Lt = none → Lc ≠ Lt → (∀ b o, b ≠ x → H b = some o → H' b = some o) → Q .non H'
theorem ok_Walk_init {P : Program} {w : World} {K : PySem.W.Frag} {mg : Str → Option Value} {base : Heap} {A : Adr} (T : Txt K mg A) : FnOk P w K mg base (CXE P w) 2 A.f_Walk_init A.d_Walk_init ["self", "cues"] (spWalk A) := by
  have G_cue_list := ok_cue_list (P := P) (w := w) (base := base) T
  refine T.F_Walk_init.okE sc_Walk_init (fun vs H Q E h => ?_) (fun cdv Ar outer s H vs Q E hr h => ?_)
  · obtain ⟨x, dx, l, cs, us, rfl, hx, hl, hz, hc, hri, k⟩ := h
    rfl
  · obtain ⟨x, dx, l, cs, us, rfl, hx, hl, hz, hc, hri, k⟩ := h
    refine ⟨_, (pss_cons (ps_fld (pv 0) (pe_call G_cue_list (hr.mono (by decide)) (by rfl) T.m_cue_list T.F_cue_list.kp T.bb_cue_list .nil passE (pa_cons (pv 1) pa_nil)) rfl)
      (pss_cons (ps_fld (pv 0) pe_int rfl)
      (pss_cons (ps_fld (pv 0) pe_int rfl)
      (pss_cons (ps_fld (pv 0) pe_non rfl)
      (pss_cons (ps_fld (pv 0) pe_non rfl)
      (pss_one (ps_fld (pv 0) (pe_lstS pa_nil) rfl))))))), ?_⟩
    refine ⟨_, rfl, l, cs, us, rfl, hl, hz, hc, hri, fun Lc H1 hLc0 hLc s1 => ?_⟩
    have nc : Lc ≠ x := fun e => by rw [e, hx] at hLc0; cases hLc0
    refine ⟨_, rfl, x, A.C_Walk, dx, _, rfl, s1 _ _ hx, T.cl_Walk, T.na_Walk_cues, (by show 0 < 1000; decide), ?_⟩
    refine ⟨_, rfl, x, A.C_Walk, dx, _, rfl, upd_same, T.cl_Walk, T.na_Walk_number, (by show 1 < 1000; decide), ?_⟩
    refine ⟨_, rfl, x, A.C_Walk, dx, _, rfl, upd_same, T.cl_Walk, T.na_Walk_lag, (by show 2 < 1000; decide), ?_⟩
    refine ⟨_, rfl, x, A.C_Walk, dx, _, rfl, upd_same, T.cl_Walk, T.na_Walk_held, (by show 3 < 1000; decide), ?_⟩
    refine ⟨_, rfl, x, A.C_Walk, dx, _, rfl, upd_same, T.cl_Walk, T.na_Walk_due, (by show 4 < 1000; decide), ?_⟩
    refine ⟨by decide, fun Lt hLt => ?_⟩
    have nt : Lt ≠ x := fun e => by rw [e, upd_same] at hLt; cases hLt
    have hLt1 : H1 Lt = none := by rw [upd_ne nt, upd_ne nt, upd_ne nt, upd_ne nt, upd_ne nt] at hLt; exact hLt
    have nct : Lc ≠ Lt := ne_of_none hLc hLt1
    refine ⟨_, rfl, x, A.C_Walk, dx, _, rfl, by rw [upd_ne (Ne.symm nt), upd_same], T.cl_Walk, T.na_Walk_trail, (by show 5 < 1000; decide), ?_⟩
    refine k Lc Lt _ upd_same ?_ ?_ hLc0 (s1.free hLt1) nct fun b o hb e => ?_
    · rw [upd_ne nc, upd_ne nct, upd_ne nc, upd_ne nc, upd_ne nc, upd_ne nc, upd_ne nc]; exact hLc
    · rw [upd_ne nt, upd_same]
    · rw [upd_ne hb, upd_ne (ne_of_none (s1 _ _ e) hLt1), upd_ne hb, upd_ne hb, upd_ne hb, upd_ne hb, upd_ne hb]; exact s1 _ _ e
def Sm64 (b : Int) : Prop := -18446744073709551616 < b ∧ b < 18446744073709551616
def spClk (A : Adr) : Sp := fun vs H Q _ => ∃ (x dx Lc Lt : Addr) (w : Wk) (t b : Int), vs = [.ref x, .int t, .int b] ∧ H x = some (.ins A.C_Walk dx (walkF Lc Lt w)) ∧ Sm64 b ∧ Q (.int (clk w t b)) H
theorem ok_Walk_clock_top {P : Program} {w : World} {K : PySem.W.Frag} {mg : Str → Option Value} {base : Heap} {A : Adr} (T : Txt K mg A) : FnOk P w K mg base (CXE P w) 1 A.f_Walk_clock_top A.d_Walk_clock_top ["self", "top", "bottom"] (spClk A) := by
  refine T.F_Walk_clock_top.okN sc_Walk_clock_top (fun vs H Q E h => ?_) (fun cdv Ar outer s H vs Q E hr h => ?_)
  · obtain ⟨x, dx, Lc, Lt, w, t, b, rfl, hx, hb, k⟩ := h
    rfl
  · obtain ⟨x, dx, Lc, Lt, w, t, b, rfl, hx, hb, k⟩ := h
    refine ⟨_, (pss_cons (ps_if (pt_cmp (pc_isN (pe_fldK K (pv 0)))) (pss_one (ps_ret (pe_op op_sub (pv 1) (pe_op op_mul (pe_fldK K (pv 0)) (pv 2))))) pss_nil)
      (pss_one (ps_ret (pe_op op_mul (pe_fldK K (pv 0)) (pv 2))))), ?_⟩
    refine ⟨_, rfl, x, A.C_Walk, dx, _, _, rfl, hx, T.cl_Walk, T.na_Walk_held, rfl, _, rfl, ?_⟩
    unfold clk at k
    cases e : w.held with
    | none =>
      rw [e] at k
      refine iteT ⟨_, rfl, _, rfl, x, A.C_Walk, dx, _, _, rfl, hx, T.cl_Walk, T.na_Walk_lag, rfl, _, rfl, _, _, rfl, rfl, .inr ⟨hb.1, hb.2⟩, _, _, rfl, rfl, k⟩
    | some h =>
      rw [e] at k
      refine iteF ⟨_, rfl, x, A.C_Walk, dx, _, _, rfl, hx, T.cl_Walk, T.na_Walk_held, rfl, _, rfl, h, _, by rw [e]; rfl, rfl, .inr ⟨hb.1, hb.2⟩, k⟩
def spNote (A : Adr) : Sp := fun vs H Q _ => ∃ (H0 : Hp) (x Lc Lt : Addr) (cs : List Addr) (us : List Cu) (w : Wk) (ts : List Rw) (c : Int) (wd : Str), vs = [.ref x, .int c, .str wd] ∧ WalkAt A H0 H x Lc Lt cs us w ts ∧ ts.length < 1000000 ∧
  ∀ H' t, t.d = (c, w.num, wd) → WalkAt A H0 H' x Lc Lt cs us w (ts ++ [t]) → Q .non H'
theorem ok_Walk_note {P : Program} {w : World} {K : PySem.W.Frag} {mg : Str → Option Value} {base : Heap} {A : Adr} (T : Txt K mg A) : FnOk P w K mg base (CXE P w) 1 A.f_Walk_note A.d_Walk_note ["self", "clock", "word"] (spNote A) := by
  refine T.F_Walk_note.okN sc_Walk_note (fun vs H Q E h => ?_) (fun cdv Ar outer s H vs Q E hr h => ?_)
  · obtain ⟨H0, x, Lc, Lt, cs, us, w, ts, c, wd, rfl, hW, hz, k⟩ := h
    rfl
  · obtain ⟨H0, x, Lc, Lt, cs, us, w, ts, c, wd, rfl, hW, hz, k⟩ := h
    refine ⟨_, (pss_one (ps_expr (pe_bmK K PySem.F.plainAttrs_list PySem.F.slot_list_append PySem.F.type_list_append mt_append (pe_fldK K (pv 0)) (pa_cons (pe_tupS (pa_cons (pv 1) (pa_cons (pe_callTy (call_listK K) (by rfl) T.b_list boot_list (pa_cons (pe_fldK K (pv 0)) pa_nil)) (pa_cons (pe_fldK K (pv 0)) (pa_cons (pv 2) pa_nil))))) pa_nil)))), ?_⟩
    obtain ⟨dx, hx⟩ := hW.ob
    refine ⟨_, rfl, x, A.C_Walk, dx, _, _, rfl, hx, T.cl_Walk, T.na_Walk_trail, rfl, .inl ⟨rfl, _, SqL.of hW.tr⟩, ?_⟩
    refine ⟨_, rfl, _, rfl, x, A.C_Walk, dx, _, _, rfl, hx, T.cl_Walk, T.na_Walk_cues, rfl, Lc, _, rfl, SqL.of hW.cu, fun l hl => ?_⟩
    refine ⟨_, rfl, x, A.C_Walk, dx, _, _, rfl, by rw [upd_ne (ne_of_none hx hl)]; exact hx, T.cl_Walk, T.na_Walk_number, rfl, _, rfl, (by show 4 ≤ 1000; decide), fun r hr => ?_⟩
    have nrl : r ≠ l := by rintro rfl; rw [upd_same] at hr; cases hr
    have hr' : H r = none := by rw [upd_ne nrl] at hr; exact hr
    refine ⟨Lt, _, V.ref r, rfl, rfl, by rw [upd_ne (ne_of_none hW.tr hr'), upd_ne (ne_of_none hW.tr hl)]; exact hW.tr, Nat.lt_of_lt_of_le (by rw [List.length_map]; exact hz) (show 1000000 ≤ 2 ^ 24 by decide), ?_⟩
    exact k _ ⟨r, l, c, w.num, wd⟩ rfl (hW.snoc hl hr c wd)
def spArrive (A : Adr) : Sp := fun vs H Q _ => ∃ (H0 : Hp) (x Lc Lt : Addr) (cs : List Addr) (us : List Cu) (w : Wk) (ts : List Rw) (c n : Int) (u : Cu), vs = [.ref x, .int c, .int n] ∧ WalkAt A H0 H x Lc Lt cs us w ts ∧ ts.length < 1000000 ∧ u ∈ us ∧ u.n = n ∧
  ∀ H' t, t.d = (c, n, ("go" : Str)) → WalkAt A H0 H' x Lc Lt cs us { w with num := n, due := dueO c u.fo } (ts ++ [t]) → Q .non H'
theorem ok_Walk_arrive {P : Program} {w : World} {K : PySem.W.Frag} {mg : Str → Option Value} {base : Heap} {A : Adr} (T : Txt K mg A) : FnOk P w K mg base (CXE P w) 4 A.f_Walk_arrive A.d_Walk_arrive ["self", "clock", "number"] (spArrive A) := by
  have G_Walk_note := ok_Walk_note (P := P) (w := w) (base := base) T
  have G_cue_at := ok_cue_at (P := P) (w := w) (base := base) T
  refine T.F_Walk_arrive.okN sc_Walk_arrive (fun vs H Q E h => ?_) (fun cdv Ar outer s H vs Q E hr h => ?_)
  · obtain ⟨H0, x, Lc, Lt, cs, us, w, ts, c, n, u, rfl, hW, hz, hu, hn, k⟩ := h
    rfl
  · obtain ⟨H0, x, Lc, Lt, cs, us, w, ts, c, n, u, rfl, hW, hz, hu, hn, k⟩ := h
    refine ⟨_, (pss_cons (ps_set (i := 3) sc_Walk_arrive.nd rfl (Or.inl rfl) (pe_fldK K (pe_call G_cue_at (hr.mono (by decide)) (by rfl) T.m_cue_at T.F_cue_at.kp T.bb_cue_at .nil passE0 (pa_cons (pe_fldK K (pv 0)) (pa_cons (pv 2) pa_nil)))))
      (pss_cons (ps_fld (pv 0) (pv 2) rfl)
      (pss_cons (ps_fld (pv 0) (pe_ifExp (pt_cmp (pc_isN (pv 3))) pe_non (pe_op op_add (pv 1) (pv 3))) rfl)
      (pss_one (ps_expr (pe_meth (pv 0) T.cl_Walk T.me_Walk_note G_Walk_note (hr.mono (by decide)) T.bb_Walk_note .nil passE0 (pa_cons (pv 1) (pa_cons pe_str pa_nil)))))))), ?_⟩
    obtain ⟨dx, hx⟩ := hW.ob
    have n1 : 1 ≤ n := by have := (hW.fo u hu).2; omega
    refine seq_cut (fun σ' H' => σ' = [some (.ref x), some (.int c), some (.int n), some u.fo] ∧ Same H H') (fun N hN => ?_) ?_
    · refine ⟨_, rfl, x, A.C_Walk, dx, _, _, rfl, hx, T.cl_Walk, T.na_Walk_cues, rfl, _, rfl, Lc, n, cs, us, rfl, by omega, hW.cu, hW.sz, hW.ok.keep hW.sm, hW.ri, fun v H1 hv s1 => ?_⟩
      rcases hv with ⟨_, no⟩ | ⟨i, cc, u', rfl, h1, h2, h3⟩
      · exact absurd hn (no u hu)
      · have e1 : u' = u := by
          have a := has_of hW.ri (List.mem_of_getElem? h2)
          have b := has_of hW.ri hu
          rw [h3] at a
          rw [hn] at b
          rw [a] at b
          exact Option.some.inj b
        subst e1
        obtain ⟨u2, hu2, dc, L, ps, e, _⟩ := paired_at (hW.ok.keep (hW.sm.trans s1)) h1
        rw [h2] at hu2
        cases hu2
        exact ⟨cc, A.C_Cue, dc, _, _, rfl, e, T.cl_Cue, T.na_Cue_follow, rfl, hN _ _ ⟨rfl, s1⟩⟩
    rintro σ' H1 ⟨rfl, s1⟩
    have hW1 := hW.keep s1
    have hx1 := s1 _ _ hx
    refine seq_cut (fun σ' H' => σ' = [some (.ref x), some (.int c), some (.int n), some u.fo] ∧ WalkAt A H0 H' x Lc Lt cs us { w with num := n } ts ∧ H' x = some (.ins A.C_Walk dx (walkF Lc Lt { w with num := n }))) (fun N hN => ?_) ?_
    · exact ⟨_, rfl, _, rfl, x, A.C_Walk, dx, _, rfl, hx1, T.cl_Walk, T.na_Walk_number, (by show 6 < 1000; decide), hN _ _ ⟨rfl, hW1.put hx1 { w with num := n } (by show 0 ≤ n; omega), upd_same⟩⟩
    rintro σ' H2 ⟨rfl, hW2, hx2⟩
    refine seq_cut (fun σ' H' => σ' = [some (.ref x), some (.int c), some (.int n), some u.fo] ∧ WalkAt A H0 H' x Lc Lt cs us { w with num := n, due := dueO c u.fo } ts) (fun N hN => ?_) ?_
    · refine ⟨_, rfl, _, rfl, ?_⟩
      rcases (hW.fo u hu).1 with e | ⟨f, e, _, _⟩
      · rw [e] at hN ⊢
        exact iteT ⟨_, rfl, x, A.C_Walk, dx, _, rfl, hx2, T.cl_Walk, T.na_Walk_due, (by show 6 < 1000; decide), hN _ _ ⟨rfl, hW2.put hx2 { w with num := n, due := none } (by show 0 ≤ n; omega)⟩⟩
      · rw [e] at hN ⊢
        exact iteF ⟨_, rfl, _, rfl, _, _, rfl, rfl, _, rfl, x, A.C_Walk, dx, _, rfl, hx2, T.cl_Walk, T.na_Walk_due, (by show 6 < 1000; decide), hN _ _ ⟨rfl, hW2.put hx2 { w with num := n, due := some (c + f) } (by show 0 ≤ n; omega)⟩⟩
    rintro σ' H3 ⟨rfl, hW3⟩
    obtain ⟨dx3, hx3⟩ := hW3.ob
    exact ⟨_, rfl, x, dx3, _, rfl, hx3, rfl, _, rfl, H0, x, Lc, Lt, cs, us, _, ts, c, "go", rfl, hW3, hz, fun H' t ht h => k H' t ht h⟩
def ComeInv (A : Adr) (H0 : Hp) (x Lc Lt : Addr) (cs : List Addr) (us : List Cu) (w : Wk) (ts : List Rw) (top b : Int) (m : Nat) (σ' : St) (H' : Hp) : Prop :=
  ∃ (w1 : Wk) (ts1 : List Rw) (z : Option V), m = 2 * cntA us w1.num + (if w1.due.isSome then 1 else 0) ∧ σ' = [some (.ref x), some (.int top), some (.int b), some (.int (clk w top b)), z] ∧ WalkAt A H0 H' x Lc Lt cs us w1 (ts ++ ts1) ∧ w1.lag = w.lag ∧ w1.held = w.held ∧
    ts1.length + cntA us w1.num ≤ us.length ∧ ∀ r n' d', Comes us (clk w top b) b w1.num w1.due r n' d' → Comes us (clk w top b) b w.num w.due (ts1.map Rw.d ++ r) n' d'
def spCome (A : Adr) : Sp := fun vs H Q _ => ∃ (H0 : Hp) (x Lc Lt : Addr) (cs : List Addr) (us : List Cu) (w : Wk) (ts : List Rw) (top b : Int), vs = [.ref x, .int top, .int b] ∧ WalkAt A H0 H x Lc Lt cs us w ts ∧ ts.length + us.length < 1000000 ∧ Sm64 b ∧
  ∀ H' n' d' ts1, Comes us (clk w top b) b w.num w.due (ts1.map Rw.d) n' d' → ts1.length ≤ us.length → WalkAt A H0 H' x Lc Lt cs us { w with num := n', due := d' } (ts ++ ts1) → Q .non H'
theorem ok_Walk_come_to {P : Program} {w : World} {K : PySem.W.Frag} {mg : Str → Option Value} {base : Heap} {A : Adr} (T : Txt K mg A) : FnOk P w K mg base (CXE P w) 5 A.f_Walk_come_to A.d_Walk_come_to ["self", "top", "bottom"] (spCome A) := by
  have G_Walk_arrive := ok_Walk_arrive (P := P) (w := w) (base := base) T
  have G_Walk_clock_top := ok_Walk_clock_top (P := P) (w := w) (base := base) T
  have G_above := ok_above (P := P) (w := w) (base := base) T
  refine T.F_Walk_come_to.okN sc_Walk_come_to (fun vs H Q E h => ?_) (fun cdv Ar outer s H vs Q E hr h => ?_)
  · obtain ⟨H0, x, Lc, Lt, cs, us, w, ts, top, b, rfl, hW, hz, hb, k⟩ := h
    rfl
  · obtain ⟨H0, x, Lc, Lt, cs, us, w, ts, top, b, rfl, hW, hz, hb, k⟩ := h
    refine ⟨_, (pss_cons (ps_set (i := 3) sc_Walk_come_to.nd rfl (Or.inl rfl) (pe_meth (pv 0) T.cl_Walk T.me_Walk_clock_top G_Walk_clock_top (hr.mono (by decide)) T.bb_Walk_clock_top .nil passE0 (pa_cons (pv 1) (pa_cons (pv 2) pa_nil))))
      (pss_one (ps_while PassesOwn.never (PW.pt (pw_and (pt_cmp (pc_notN (pe_fldK K (pv 0)))) (pw_and1 (pt_cmpR op_le (pe_op op_mul (pe_fldK K (pv 0)) (pv 2)) (pv 3) (nomark _))))) (pss_cons (ps_set (i := 4) sc_Walk_come_to.nd rfl (Or.inl rfl) (pe_call G_above (hr.mono (by decide)) (by rfl) T.m_above T.F_above.kp T.bb_above .nil passE0 (pa_cons (pe_fldK K (pv 0)) (pa_cons (pe_fldK K (pv 0)) pa_nil))))
      (pss_one (ps_if (pt_cmpR op_eq (pv 4) pe_int (nomark _)) (pss_one (ps_fld (pv 0) pe_non rfl)) (pss_one (ps_expr (pe_meth (pv 0) T.cl_Walk T.me_Walk_arrive G_Walk_arrive (hr.mono (by decide)) T.bb_Walk_arrive .nil passE0 (pa_cons (pe_fldK K (pv 0)) (pa_cons (pv 4) pa_nil))))))))))), ?_⟩
    refine seq_cut (fun σ' H' => σ' = [some (.ref x), some (.int top), some (.int b), some (.int (clk w top b)), none] ∧ H' = H) (fun N hN => ?_) ?_
    · obtain ⟨dx, hx⟩ := hW.ob
      exact ⟨_, rfl, x, dx, _, rfl, hx, rfl, _, rfl, _, rfl, x, dx, Lc, Lt, w, top, b, rfl, hx, hb, hN _ _ ⟨rfl, rfl⟩⟩
    rintro σ' H1 ⟨rfl, rfl⟩
    have done : ∀ (w1 : Wk) (ts1 : List Rw) (H' : Hp), WalkAt A H0 H' x Lc Lt cs us w1 (ts ++ ts1) → w1.lag = w.lag → w1.held = w.held → ts1.length ≤ us.length → Comes us (clk w top b) b w.num w.due (ts1.map Rw.d) w1.num w1.due → Q .non H' := fun w1 ts1 H' h h1 h2 h3 h4 => by
      refine k H' w1.num w1.due ts1 h4 h3 ?_
      obtain ⟨a1, a2, a3, a4⟩ := w1
      cases h1
      cases h2
      exact h
    refine ⟨ComeInv A H0 x Lc Lt cs us w ts top b, ⟨_, w, [], none, rfl, rfl, by rw [List.append_nil]; exact hW, rfl, rfl, by have := cnt_le us w.num; simpa using this, fun r n' d' h => h⟩, ?_⟩
    clear hW
    rintro m σ' H2 ⟨w1, ts1, z, rfl, rfl, hW, el, eh, hc, hr⟩
    obtain ⟨dx, hx⟩ := hW.ob
    refine ⟨_, rfl, x, A.C_Walk, dx, _, _, rfl, hx, T.cl_Walk, T.na_Walk_due, rfl, _, rfl, ?_⟩
    cases ed : w1.due with
    | none =>
      refine iteF (iteF ?_)
      have := hr [] w1.num w1.due (.rest fun e h => by rw [ed] at h; cases h)
      rw [List.append_nil] at this
      exact done w1 ts1 H2 hW el eh (by omega) this
    | some e =>
      refine iteT ?_
      refine ⟨_, rfl, x, A.C_Walk, dx, _, _, rfl, hx, T.cl_Walk, T.na_Walk_due, rfl, _, rfl, e, _, by rw [ed]; rfl, rfl, .inr ⟨hb.1, hb.2⟩, _, rfl, _, _, rfl, rfl, _, rfl, ?_⟩
      by_cases c : e * b ≤ clk w top b
      · rw [decide_eq_true c]
        refine iteT ⟨fun σ' H' => ∃ m', m' < 2 * cntA us w1.num + 1 ∧ ComeInv A H0 x Lc Lt cs us w ts top b m' σ' H', fun _ _ h => h, ?_⟩
        refine ⟨_, rfl, x, A.C_Walk, dx, _, _, rfl, hx, T.cl_Walk, T.na_Walk_cues, rfl, _, rfl, x, A.C_Walk, dx, _, _, rfl, hx, T.cl_Walk, T.na_Walk_number, rfl, Lc, w1.num, cs, us, rfl, hW.nn, hW.cu, hW.sz, hW.ok.keep hW.sm, hW.ri, fun a H3 ha s3 => ?_⟩
        have ea := least_next hW.ri ha
        have hW3 := hW.keep s3
        have hx3 := s3 _ _ hx
        refine ⟨_, rfl, rfl, _, rfl, ?_⟩
        unfold nextN at ea
        cases en : nextC us w1.num with
        | none =>
          rw [en] at ea
          subst ea
          rw [decide_eq_true rfl]
          refine iteT ⟨_, rfl, x, A.C_Walk, dx, _, rfl, hx3, T.cl_Walk, T.na_Walk_due, (by show 6 < 1000; decide), ?_⟩
          refine ⟨2 * cntA us w1.num + 0, by omega, { w1 with due := none }, ts1, _, rfl, rfl, hW3.put hx3 { w1 with due := none } hW.nn, el, eh, hc, fun r n' d' h => ?_⟩
          cases h with
          | rest _ =>
            have := hr [] w1.num none (by rw [ed]; exact .last c en)
            exact this
        | some u =>
          rw [en] at ea
          have ea : a = u.n := ea
          subst ea
          obtain ⟨hu, hlt⟩ := next_mem en
          have u1 := (hW.fo u hu).2
          rw [decide_eq_false (show ¬ V.int u.n = V.int 0 from fun z => by have := V.int.inj z; omega)]
          have cl := cnt_lt hlt hu
          refine iteF ⟨_, rfl, x, dx, _, rfl, hx3, rfl, _, rfl, x, A.C_Walk, dx, _, _, rfl, hx3, T.cl_Walk, T.na_Walk_due, rfl, _, rfl, H0, x, Lc, Lt, cs, us, w1, ts ++ ts1, e, u.n, u, by rw [ed]; rfl, hW3, by rw [List.length_append]; omega, hu, rfl, fun H4 t ht h4 => ?_⟩
          refine ⟨2 * cntA us u.n + (if (dueO e u.fo).isSome then 1 else 0), by split <;> omega, { w1 with num := u.n, due := dueO e u.fo }, ts1 ++ [t], _, rfl, rfl, by rw [← List.append_assoc]; exact h4, el, eh, by rw [List.length_append]; show ts1.length + 1 + cntA us u.n ≤ _; omega, fun r n' d' h => ?_⟩
          have := hr ((e, u.n, ("go" : Str)) :: r) n' d' (by rw [ed]; exact .go c en h)
          rw [List.map_append, List.append_assoc]
          rw [show List.map Rw.d [t] ++ r = (e, u.n, ("go" : Str)) :: r by rw [List.map_cons, ht]; rfl]
          exact this
      · rw [decide_eq_false c]
        refine iteF ?_
        have := hr [] w1.num w1.due (.rest fun e' h => by rw [ed] at h; cases h; omega)
        rw [List.append_nil] at this
        exact done w1 ts1 H2 hW el eh (by omega) this
def spOn (A : Adr) : Sp := fun vs H Q _ => ∃ (H0 : Hp) (x Lc Lt : Addr) (cs : List Addr) (us : List Cu) (w : Wk) (ts : List Rw) (t : Int), vs = [.ref x, .int t] ∧ WalkAt A H0 H x Lc Lt cs us w ts ∧ ∀ H', WalkAt A H0 H' x Lc Lt cs us (onW w t) ts → Q .non H'
theorem ok_Walk_on {P : Program} {w : World} {K : PySem.W.Frag} {mg : Str → Option Value} {base : Heap} {A : Adr} (T : Txt K mg A) : FnOk P w K mg base (CXE P w) 2 A.f_Walk_on A.d_Walk_on ["self", "tick"] (spOn A) := by
  have G_Walk_clock_top := ok_Walk_clock_top (P := P) (w := w) (base := base) T
  refine T.F_Walk_on.okN sc_Walk_on (fun vs H Q E h => ?_) (fun cdv Ar outer s H vs Q E hr h => ?_)
  · obtain ⟨H0, x, Lc, Lt, cs, us, w, ts, t, rfl, hW, k⟩ := h
    rfl
  · obtain ⟨H0, x, Lc, Lt, cs, us, w, ts, t, rfl, hW, k⟩ := h
    refine ⟨_, (pss_cons (ps_fld (pv 0) (pe_op op_sub (pv 1) (pe_meth (pv 0) T.cl_Walk T.me_Walk_clock_top G_Walk_clock_top (hr.mono (by decide)) T.bd_Walk_clock_top T.dv_Walk_clock_top passE0 (pa_cons (pv 1) pa_nil))) rfl)
      (pss_one (ps_fld (pv 0) pe_non rfl))), ?_⟩
    obtain ⟨dx, hx⟩ := hW.ob
    refine ⟨_, rfl, _, rfl, x, dx, _, rfl, hx, rfl, _, rfl, x, dx, Lc, Lt, w, t, 1, rfl, hx, ⟨by decide, by decide⟩, _, _, rfl, rfl, _, rfl, x, A.C_Walk, dx, _, rfl, hx, T.cl_Walk, T.na_Walk_lag, (by show 6 < 1000; decide), ?_⟩
    have h1 := hW.put hx { w with lag := t - clk w t 1 } hW.nn
    refine ⟨_, rfl, x, A.C_Walk, dx, _, rfl, upd_same, T.cl_Walk, T.na_Walk_held, (by show 6 < 1000; decide), ?_⟩
    exact k _ (h1.put upd_same (onW w t) hW.nn)
theorem any_has {n : Int} : ∀ us : List Cu, (us.map (fun u => decide (u.n = n))).any id = (hasC us n).isSome
  | [] => rfl
  | u :: us => by
    have ih := any_has (n := n) us
    unfold hasC at ih ⊢
    rw [List.map_cons, List.any_cons, List.find?_cons, ih]
    by_cases c : u.n = n
    · rw [decide_eq_true c]; rfl
    · rw [decide_eq_false c]; rfl
def spHas (A : Adr) : Sp := fun vs H Q _ => ∃ (l : Addr) (n : Int) (cs : List Addr) (us : List Cu), vs = [.ref l, .int n] ∧ H l = some (.lst (cs.map V.ref)) ∧ cs.length ≤ 900 ∧ Cues0 A H cs us ∧ ∀ H', Same H H' → Q (.bl (hasC us n).isSome) H'
theorem ok_has_cue {P : Program} {w : World} {K : PySem.W.Frag} {mg : Str → Option Value} {base : Heap} {A : Adr} (T : Txt K mg A) : FnOk P w K mg base (CXE P w) 2 A.f_has_cue A.d_has_cue ["cues", "number"] (spHas A) := by
  have G_is_whole := ok_is_whole (P := P) (w := w) (base := base) T
  refine T.F_has_cue.okN sc_has_cue (fun vs H Q E h => ?_) (fun cdv Ar outer s H vs Q E hr h => ?_)
  · obtain ⟨l, n, cs, us, rfl, hl, hz, hc, k⟩ := h
    rfl
  · obtain ⟨l, n, cs, us, rfl, hl, hz, hc, k⟩ := h
    refine ⟨_, (pss_one (ps_ret (pe_and (pe_call G_is_whole (hr.mono (by decide)) (by rfl) T.m_is_whole T.F_is_whole.kp T.bb_is_whole .nil passE0 (pa_cons (pv 1) pa_nil)) (pe_one (pe_callB (call_anyB K rfl) (by rfl) T.b_any boot_any (pa_cons (pe_comp ["cue", "number"] [none, some 1] rfl (pi_listK K (pv 0)) (fun _ _ _ => (pg_name (i := 0) ndc_has_cue_0 rfl (Or.inl rfl))) (fun _ _ _ => (pe_cmpR op_eq (pe_fldK K (pv 0)) (pv 1) (nomark _)))) pa_nil)))))), ?_⟩
    refine ⟨_, rfl, n, rfl, _, rfl, iteT ?_⟩
    refine ⟨_, rfl, l, rfl, ⟨_, SqL.of hl⟩, fun D hD => ?_⟩
    have hcl : us.length = (cs.map V.ref).length := by rw [List.length_map]; exact (Paired.length hc).symm
    refine comp_pr (fun u : Cu => .bl (decide (u.n = n))) (fun σ => ∃ z, σ = [z, some (.int n)]) (SqL.of hl) hD (by rw [List.length_map]; omega) hcl ⟨none, rfl⟩ (fun i v u σ' G N hv hu ho sm q => ?_) fun G sm hDl => ?_
    · obtain ⟨z, rfl⟩ := ho
      rw [List.getElem?_map] at hv
      cases hci : cs[i]? with
      | none => rw [hci] at hv; cases hv
      | some c =>
        rw [hci] at hv
        obtain rfl : V.ref c = v := by simpa using hv
        obtain ⟨u', hu', dx, L, ps, e, _⟩ := paired_at (hc.keep sm) hci
        rw [hu] at hu'
        cases hu'
        refine ⟨_, rfl, c, A.C_Cue, dx, _, _, rfl, e, T.cl_Cue, T.na_Cue_number, rfl, _, rfl, rfl, ?_⟩
        rw [show decide (V.int u.n = V.int n) = decide (u.n = n) from decide_eq_decide.mpr ⟨V.int.inj, fun h => by rw [h]⟩]
        exact q _ _ (Same.refl _) ⟨_, rfl⟩
    refine ⟨D, us.map (fun u => decide (u.n = n)), rfl, SqL.of (by rw [hDl, List.map_map]; rfl), ?_⟩
    rw [any_has]
    exact k G sm
def spGoto (A : Adr) : Sp := fun vs H Q _ => ∃ (H0 : Hp) (x Lc Lt : Addr) (cs : List Addr) (us : List Cu) (w : Wk) (ts : List Rw) (t n : Int), vs = [.ref x, .int t, .int n] ∧ WalkAt A H0 H x Lc Lt cs us w ts ∧ ts.length < 1000000 ∧
  ∀ H' ts1, ts1.map Rw.d = (gotoF w t (hasC us n)).2.1 → WalkAt A H0 H' x Lc Lt cs us (gotoF w t (hasC us n)).1 (ts ++ ts1) → Q (.bl (gotoF w t (hasC us n)).2.2) H'
theorem ok_Walk_goto {P : Program} {w : World} {K : PySem.W.Frag} {mg : Str → Option Value} {base : Heap} {A : Adr} (T : Txt K mg A) : FnOk P w K mg base (CXE P w) 5 A.f_Walk_goto A.d_Walk_goto ["self", "tick", "number"] (spGoto A) := by
  have G_Walk_arrive := ok_Walk_arrive (P := P) (w := w) (base := base) T
  have G_Walk_clock_top := ok_Walk_clock_top (P := P) (w := w) (base := base) T
  have G_Walk_on := ok_Walk_on (P := P) (w := w) (base := base) T
  have G_has_cue := ok_has_cue (P := P) (w := w) (base := base) T
  refine T.F_Walk_goto.okN sc_Walk_goto (fun vs H Q E h => ?_) (fun cdv Ar outer s H vs Q E hr h => ?_)
  · obtain ⟨H0, x, Lc, Lt, cs, us, w, ts, t, n, rfl, hW, hz, k⟩ := h
    rfl
  · obtain ⟨H0, x, Lc, Lt, cs, us, w, ts, t, n, rfl, hW, hz, k⟩ := h
    refine ⟨_, (pss_cons (ps_if (pt_not (pt_val (pe_call G_has_cue (hr.mono (by decide)) (by rfl) T.m_has_cue T.F_has_cue.kp T.bb_has_cue .nil passE0 (pa_cons (pe_fldK K (pv 0)) (pa_cons (pv 2) pa_nil))))) (pss_one (ps_ret pe_bl)) pss_nil)
      (pss_cons (ps_expr (pe_meth (pv 0) T.cl_Walk T.me_Walk_on G_Walk_on (hr.mono (by decide)) T.bb_Walk_on .nil passE0 (pa_cons (pv 1) pa_nil)))
      (pss_cons (ps_expr (pe_meth (pv 0) T.cl_Walk T.me_Walk_arrive G_Walk_arrive (hr.mono (by decide)) T.bb_Walk_arrive .nil passE0 (pa_cons (pe_meth (pv 0) T.cl_Walk T.me_Walk_clock_top G_Walk_clock_top (hr.mono (by decide)) T.bd_Walk_clock_top T.dv_Walk_clock_top passE0 (pa_cons (pv 1) pa_nil)) (pa_cons (pv 2) pa_nil))))
      (pss_one (ps_ret pe_bl))))), ?_⟩
    obtain ⟨dx, hx⟩ := hW.ob
    refine ⟨_, rfl, x, A.C_Walk, dx, _, _, rfl, hx, T.cl_Walk, T.na_Walk_cues, rfl, _, rfl, Lc, n, cs, us, rfl, hW.cu, hW.sz, hW.ok.keep hW.sm, fun H1 s1 => ⟨_, rfl, ?_⟩⟩
    have hW1 := hW.keep s1
    cases e : hasC us n with
    | none =>
      rw [e] at k
      refine iteT (k H1 [] rfl ?_)
      rw [List.append_nil]; exact hW1
    | some u =>
      rw [e] at k
      obtain ⟨hu, hn⟩ := has_mem e
      have hx1 := s1 _ _ hx
      refine iteF ⟨_, rfl, x, dx, _, rfl, hx1, rfl, _, rfl, H0, x, Lc, Lt, cs, us, w, ts, t, rfl, hW1, fun H2 hW2 => ?_⟩
      obtain ⟨dx2, hx2⟩ := hW2.ob
      refine ⟨_, rfl, x, dx2, _, rfl, hx2, rfl, _, rfl, x, dx2, _, rfl, hx2, rfl, _, rfl, x, dx2, Lc, Lt, onW w t, t, 1, rfl, hx2, ⟨by decide, by decide⟩, _, rfl, H0, x, Lc, Lt, cs, us, onW w t, ts, clk (onW w t) t 1, n, u, rfl, hW2, hz, hu, hn, fun H3 r hr hW3 => ?_⟩
      refine k H3 [r] ?_ ?_
      · rw [List.map_cons, hr, clk_on, ← hn]; rfl
      · rw [clk_on, ← hn] at hW3; exact hW3
def spGo (A : Adr) : Sp := fun vs H Q _ => ∃ (H0 : Hp) (x Lc Lt : Addr) (cs : List Addr) (us : List Cu) (w : Wk) (ts : List Rw) (t : Int), vs = [.ref x, .int t] ∧ WalkAt A H0 H x Lc Lt cs us w ts ∧ ts.length < 1000000 ∧
  ∀ H' ts1, ts1.map Rw.d = (gotoF w t (nextC us w.num)).2.1 → WalkAt A H0 H' x Lc Lt cs us (gotoF w t (nextC us w.num)).1 (ts ++ ts1) → Q (.bl (gotoF w t (nextC us w.num)).2.2) H'
theorem has_next {us : List Cu} (ri : Rising us) (h1 : ∀ u ∈ us, FoOk u.fo ∧ 1 ≤ u.n) (n : Int) : hasC us (nextN us n) = nextC us n := by
  unfold nextN
  cases e : nextC us n with
  | none =>
    show hasC us 0 = none
    cases e2 : hasC us 0 with
    | none => rfl
    | some u =>
      obtain ⟨hu, h0⟩ := has_mem e2
      have := (h1 u hu).2
      omega
  | some u => exact has_of ri (next_mem e).1
theorem ok_Walk_go {P : Program} {w : World} {K : PySem.W.Frag} {mg : Str → Option Value} {base : Heap} {A : Adr} (T : Txt K mg A) : FnOk P w K mg base (CXE P w) 6 A.f_Walk_go A.d_Walk_go ["self", "tick"] (spGo A) := by
  have G_Walk_goto := ok_Walk_goto (P := P) (w := w) (base := base) T
  have G_above := ok_above (P := P) (w := w) (base := base) T
  refine T.F_Walk_go.okN sc_Walk_go (fun vs H Q E h => ?_) (fun cdv Ar outer s H vs Q E hr h => ?_)
  · obtain ⟨H0, x, Lc, Lt, cs, us, w, ts, t, rfl, hW, hz, k⟩ := h
    rfl
  · obtain ⟨H0, x, Lc, Lt, cs, us, w, ts, t, rfl, hW, hz, k⟩ := h
    refine ⟨_, (pss_one (ps_ret (pe_meth (pv 0) T.cl_Walk T.me_Walk_goto G_Walk_goto (hr.mono (by decide)) T.bb_Walk_goto .nil passE0 (pa_cons (pv 1) (pa_cons (pe_call G_above (hr.mono (by decide)) (by rfl) T.m_above T.F_above.kp T.bb_above .nil passE0 (pa_cons (pe_fldK K (pv 0)) (pa_cons (pe_fldK K (pv 0)) pa_nil))) pa_nil))))), ?_⟩
    obtain ⟨dx, hx⟩ := hW.ob
    refine ⟨_, rfl, x, dx, _, rfl, hx, rfl, _, rfl, _, rfl, x, A.C_Walk, dx, _, _, rfl, hx, T.cl_Walk, T.na_Walk_cues, rfl, _, rfl, x, A.C_Walk, dx, _, _, rfl, hx, T.cl_Walk, T.na_Walk_number, rfl, Lc, w.num, cs, us, rfl, hW.nn, hW.cu, hW.sz, hW.ok.keep hW.sm, hW.ri, fun a H1 ha s1 => ?_⟩
    rw [least_next hW.ri ha]
    refine ⟨H0, x, Lc, Lt, cs, us, w, ts, t, nextN us w.num, rfl, hW.keep s1, hz, ?_⟩
    rw [has_next hW.ri hW.fo]
    exact k
def spBack (A : Adr) : Sp := fun vs H Q _ => ∃ (H0 : Hp) (x Lc Lt : Addr) (cs : List Addr) (us : List Cu) (w : Wk) (ts : List Rw) (t : Int), vs = [.ref x, .int t] ∧ WalkAt A H0 H x Lc Lt cs us w ts ∧ ts.length < 1000000 ∧
  ∀ H' ts1, ts1.map Rw.d = (backF us w t).2.1 → WalkAt A H0 H' x Lc Lt cs us (backF us w t).1 (ts ++ ts1) → Q (.bl (backF us w t).2.2) H'
theorem prev_ge {us : List Cu} (h1 : ∀ u ∈ us, FoOk u.fo ∧ 1 ≤ u.n) (n : Int) : 0 ≤ prevN us n := by
  unfold prevN
  cases e : (us.filter fun u => decide (u.n < n)).getLast? with
  | none => exact Int.le_refl _
  | some u =>
    have := (h1 u (List.mem_filter.mp (List.mem_of_getLast? e)).1).2
    show 0 ≤ u.n
    omega
theorem ok_Walk_back {P : Program} {w : World} {K : PySem.W.Frag} {mg : Str → Option Value} {base : Heap} {A : Adr} (T : Txt K mg A) : FnOk P w K mg base (CXE P w) 4 A.f_Walk_back A.d_Walk_back ["self", "tick"] (spBack A) := by
  have G_Walk_clock_top := ok_Walk_clock_top (P := P) (w := w) (base := base) T
  have G_Walk_note := ok_Walk_note (P := P) (w := w) (base := base) T
  have G_Walk_on := ok_Walk_on (P := P) (w := w) (base := base) T
  have G_below := ok_below (P := P) (w := w) (base := base) T
  refine T.F_Walk_back.okN sc_Walk_back (fun vs H Q E h => ?_) (fun cdv Ar outer s H vs Q E hr h => ?_)
  · obtain ⟨H0, x, Lc, Lt, cs, us, w, ts, t, rfl, hW, hz, k⟩ := h
    rfl
  · obtain ⟨H0, x, Lc, Lt, cs, us, w, ts, t, rfl, hW, hz, k⟩ := h
    refine ⟨_, (pss_cons (ps_if (pt_cmpR op_eq (pe_fldK K (pv 0)) pe_int (nomark _)) (pss_one (ps_ret pe_bl)) pss_nil)
      (pss_cons (ps_expr (pe_meth (pv 0) T.cl_Walk T.me_Walk_on G_Walk_on (hr.mono (by decide)) T.bb_Walk_on .nil passE0 (pa_cons (pv 1) pa_nil)))
      (pss_cons (ps_fld (pv 0) (pe_call G_below (hr.mono (by decide)) (by rfl) T.m_below T.F_below.kp T.bb_below .nil passE0 (pa_cons (pe_fldK K (pv 0)) (pa_cons (pe_fldK K (pv 0)) pa_nil))) rfl)
      (pss_cons (ps_fld (pv 0) pe_non rfl)
      (pss_cons (ps_expr (pe_meth (pv 0) T.cl_Walk T.me_Walk_note G_Walk_note (hr.mono (by decide)) T.bb_Walk_note .nil passE0 (pa_cons (pe_meth (pv 0) T.cl_Walk T.me_Walk_clock_top G_Walk_clock_top (hr.mono (by decide)) T.bd_Walk_clock_top T.dv_Walk_clock_top passE0 (pa_cons (pv 1) pa_nil)) (pa_cons pe_str pa_nil))))
      (pss_one (ps_ret pe_bl))))))), ?_⟩
    obtain ⟨dx, hx⟩ := hW.ob
    unfold backF at k
    refine ⟨_, rfl, x, A.C_Walk, dx, _, _, rfl, hx, T.cl_Walk, T.na_Walk_number, rfl, rfl, _, rfl, ?_⟩
    by_cases c : w.num = 0
    · rw [if_pos c] at k
      rw [decide_eq_true (show V.int w.num = V.int 0 by rw [c])]
      refine iteT (k H [] rfl ?_)
      rw [List.append_nil]; exact hW
    rw [if_neg c] at k
    rw [decide_eq_false (show ¬ V.int w.num = V.int 0 from fun z => c (V.int.inj z))]
    refine iteF ⟨_, rfl, x, dx, _, rfl, hx, rfl, _, rfl, H0, x, Lc, Lt, cs, us, w, ts, t, rfl, hW, fun H1 hW1 => ?_⟩
    obtain ⟨dx1, hx1⟩ := hW1.ob
    refine ⟨_, rfl, x, A.C_Walk, dx1, _, _, rfl, hx1, T.cl_Walk, T.na_Walk_cues, rfl, _, rfl, x, A.C_Walk, dx1, _, _, rfl, hx1, T.cl_Walk, T.na_Walk_number, rfl, Lc, w.num, cs, us, rfl, hW.nn, hW1.cu, hW1.sz, hW1.ok.keep hW1.sm, hW1.ri, fun a H2 ha s2 => ?_⟩
    rw [most_prev hW.ri ha]
    have hW2 := hW1.keep s2
    have hx2 := s2 _ _ hx1
    have p0 := prev_ge hW.fo w.num
    refine ⟨_, rfl, x, A.C_Walk, dx1, _, rfl, hx2, T.cl_Walk, T.na_Walk_number, (by show 6 < 1000; decide), ?_⟩
    have h3 := hW2.put hx2 { onW w t with num := prevN us w.num } p0
    refine ⟨_, rfl, x, A.C_Walk, dx1, _, rfl, upd_same, T.cl_Walk, T.na_Walk_due, (by show 6 < 1000; decide), ?_⟩
    have h4 := h3.put upd_same { onW w t with num := prevN us w.num, due := none } p0
    refine ⟨_, rfl, x, dx1, _, rfl, upd_same, rfl, _, rfl, x, dx1, _, rfl, upd_same, rfl, _, rfl, x, dx1, Lc, Lt, { onW w t with num := prevN us w.num, due := none }, t, 1, rfl, upd_same, ⟨by decide, by decide⟩, ?_⟩
    refine ⟨H0, x, Lc, Lt, cs, us, _, ts, clk w t 1, "back", by rw [← clk_on w t]; rfl, h4, hz, fun H5 r hr hW5 => k H5 [r] (by rw [List.map_cons, hr]; rfl) hW5⟩
def spStop (A : Adr) : Sp := fun vs H Q _ => ∃ (H0 : Hp) (x Lc Lt : Addr) (cs : List Addr) (us : List Cu) (w : Wk) (ts : List Rw) (t : Int), vs = [.ref x, .int t] ∧ WalkAt A H0 H x Lc Lt cs us w ts ∧ ∀ H', WalkAt A H0 H' x Lc Lt cs us { w with held := some (clk w t 1) } ts → Q .non H'
theorem ok_Walk_stop {P : Program} {w : World} {K : PySem.W.Frag} {mg : Str → Option Value} {base : Heap} {A : Adr} (T : Txt K mg A) : FnOk P w K mg base (CXE P w) 2 A.f_Walk_stop A.d_Walk_stop ["self", "tick"] (spStop A) := by
  have G_Walk_clock_top := ok_Walk_clock_top (P := P) (w := w) (base := base) T
  refine T.F_Walk_stop.okN sc_Walk_stop (fun vs H Q E h => ?_) (fun cdv Ar outer s H vs Q E hr h => ?_)
  · obtain ⟨H0, x, Lc, Lt, cs, us, w, ts, t, rfl, hW, k⟩ := h
    rfl
  · obtain ⟨H0, x, Lc, Lt, cs, us, w, ts, t, rfl, hW, k⟩ := h
    refine ⟨_, (pss_one (ps_fld (pv 0) (pe_meth (pv 0) T.cl_Walk T.me_Walk_clock_top G_Walk_clock_top (hr.mono (by decide)) T.bd_Walk_clock_top T.dv_Walk_clock_top passE0 (pa_cons (pv 1) pa_nil)) rfl)), ?_⟩
    obtain ⟨dx, hx⟩ := hW.ob
    refine ⟨_, rfl, x, dx, _, rfl, hx, rfl, _, rfl, x, dx, Lc, Lt, w, t, 1, rfl, hx, ⟨by decide, by decide⟩, _, rfl, x, A.C_Walk, dx, _, rfl, hx, T.cl_Walk, T.na_Walk_held, (by show 6 < 1000; decide), ?_⟩
    exact k _ (hW.put hx { w with held := some (clk w t 1) } hW.nn)
def spDeed (A : Adr) : Sp := fun vs H Q _ => ∃ (H0 : Hp) (x Lc Lt a : Addr) (cs : List Addr) (us : List Cu) (w : Wk) (ts : List Rw) (d : Dd), vs = [.ref x, .ref a] ∧ DeedAt H0 a d ∧ WalkAt A H0 H x Lc Lt cs us w ts ∧ ts.length + us.length < 900000 ∧
  ∀ H' n' d' r ts1, Comes us (clk w d.tick 1) 1 w.num w.due r n' d' → ts1.map Rw.d = r ++ (doF us { w with num := n', due := d' } d).2 → ts1.length ≤ us.length + 1 → WalkAt A H0 H' x Lc Lt cs us (doF us { w with num := n', due := d' } d).1 (ts ++ ts1) → Q .non H'
theorem ok_do_deed {P : Program} {w : World} {K : PySem.W.Frag} {mg : Str → Option Value} {base : Heap} {A : Adr} (T : Txt K mg A) : FnOk P w K mg base (CXE P w) 7 A.f_do_deed A.d_do_deed ["walk", "deed"] (spDeed A) := by
  have G_Walk_back := ok_Walk_back (P := P) (w := w) (base := base) T
  have G_Walk_come_to := ok_Walk_come_to (P := P) (w := w) (base := base) T
  have G_Walk_go := ok_Walk_go (P := P) (w := w) (base := base) T
  have G_Walk_goto := ok_Walk_goto (P := P) (w := w) (base := base) T
  have G_Walk_on := ok_Walk_on (P := P) (w := w) (base := base) T
  have G_Walk_stop := ok_Walk_stop (P := P) (w := w) (base := base) T
  refine T.F_do_deed.okN sc_do_deed (fun vs H Q E h => ?_) (fun cdv Ar outer s H vs Q E hr h => ?_)
  · obtain ⟨H0, x, Lc, Lt, a, cs, us, w, ts, d, rfl, hd, hW, hz, k⟩ := h
    rfl
  · obtain ⟨H0, x, Lc, Lt, a, cs, us, w, ts, d, rfl, hd, hW, hz, k⟩ := h
    refine ⟨_, (pss_cons (ps_set (i := 2) sc_do_deed.nd rfl (Or.inl rfl) (pe_ix (ix_tupK K) (pv 1) pe_int (fun _ _ => rfl)))
      (pss_cons (ps_set (i := 3) sc_do_deed.nd rfl (Or.inl rfl) (pe_ix (ix_tupK K) (pv 1) pe_int (fun _ _ => rfl)))
      (pss_cons (ps_expr (pe_meth (pv 0) T.cl_Walk T.me_Walk_come_to G_Walk_come_to (hr.mono (by decide)) T.bd_Walk_come_to T.dv_Walk_come_to passE0 (pa_cons (pv 2) pa_nil)))
      (pss_one (ps_if (pt_cmpR op_eq (pv 3) pe_str (nomark _)) (pss_one (ps_expr (pe_meth (pv 0) T.cl_Walk T.me_Walk_go G_Walk_go (hr.mono (by decide)) T.bb_Walk_go .nil passE0 (pa_cons (pv 2) pa_nil)))) (pss_one (ps_if (pt_cmpR op_eq (pv 3) pe_str (nomark _)) (pss_one (ps_expr (pe_meth (pv 0) T.cl_Walk T.me_Walk_back G_Walk_back (hr.mono (by decide)) T.bb_Walk_back .nil passE0 (pa_cons (pv 2) pa_nil)))) (pss_one (ps_if (pt_cmpR op_eq (pv 3) pe_str (nomark _)) (pss_one (ps_expr (pe_meth (pv 0) T.cl_Walk T.me_Walk_goto G_Walk_goto (hr.mono (by decide)) T.bb_Walk_goto .nil passE0 (pa_cons (pv 2) (pa_cons (pe_ix (ix_tupK K) (pv 1) pe_int (fun _ _ => rfl)) pa_nil))))) (pss_one (ps_if (pt_cmpR op_eq (pv 3) pe_str (nomark _)) (pss_one (ps_expr (pe_meth (pv 0) T.cl_Walk T.me_Walk_stop G_Walk_stop (hr.mono (by decide)) T.bb_Walk_stop .nil passE0 (pa_cons (pv 2) pa_nil)))) (pss_one (ps_if (pt_cmpR op_eq (pv 3) pe_str (nomark _)) (pss_one (ps_expr (pe_meth (pv 0) T.cl_Walk T.me_Walk_on G_Walk_on (hr.mono (by decide)) T.bb_Walk_on .nil passE0 (pa_cons (pv 2) pa_nil)))) (pss_one (ps_if (pt_cmpR op_eq (pv 3) pe_str (nomark _)) (pss_one (ps_expr pe_no)) pss_nil))))))))))))))), ?_⟩
    have ha := hW.sm _ _ hd
    have a0 : atI (.int d.tick :: wdV d.wd) 0 = some (V.int d.tick) := atI_0 _ _
    obtain ⟨wv, wr, ew⟩ : ∃ wv wr, wdV d.wd = wv :: wr := by cases d.wd <;> exact ⟨_, _, rfl⟩
    have a1 : atI (.int d.tick :: wdV d.wd) 1 = some wv := by rw [ew]; exact atI_1 _ _ _
    refine seq_cut2 (fun σ' H' => σ' = [some (.ref x), some (.ref a), some (.int d.tick), some wv] ∧ H' = H) (fun N hN => ?_) ?_
    · refine ⟨_, rfl, a, _, _, _, rfl, rfl, SqT.of ha, a0, _, rfl, a, _, _, _, rfl, rfl, SqT.of ha, a1, hN _ _ ⟨rfl, rfl⟩⟩
    rintro σ' H1 ⟨rfl, rfl⟩
    refine seq_cut (fun σ' H' => σ' = [some (.ref x), some (.ref a), some (.int d.tick), some wv] ∧ ∃ n' d' ts0, Comes us (clk w d.tick 1) 1 w.num w.due (ts0.map Rw.d) n' d' ∧ ts0.length ≤ us.length ∧ WalkAt A H0 H' x Lc Lt cs us { w with num := n', due := d' } (ts ++ ts0)) (fun N hN => ?_) ?_
    · obtain ⟨dx, hx⟩ := hW.ob
      exact ⟨_, rfl, x, dx, _, rfl, hx, rfl, _, rfl, H0, x, Lc, Lt, cs, us, w, ts, d.tick, 1, rfl, hW, by omega, ⟨by decide, by decide⟩, fun H' n' d' ts1 h1 h2 h3 => hN _ _ ⟨rfl, n', d', ts1, h1, h2, h3⟩⟩
    rintro σ' H2 ⟨rfl, n', d', ts0, hC, hl0, hW2⟩
    have k' : ∀ H' ts2, ts2.map Rw.d = (doF us { w with num := n', due := d' } d).2 → ts2.length ≤ 1 → WalkAt A H0 H' x Lc Lt cs us (doF us { w with num := n', due := d' } d).1 (ts ++ ts0 ++ ts2) → Q .non H' := fun H' ts2 h1 h2 h3 => by
      refine k H' n' d' _ (ts0 ++ ts2) hC (by rw [List.map_append, h1]) (by rw [List.length_append]; omega) ?_
      rw [← List.append_assoc]; exact h3
    clear k
    obtain ⟨dx, hx⟩ := hW2.ob
    have hz2 : (ts ++ ts0).length < 1000000 := by rw [List.length_append]; omega
    generalize ({ w with num := n', due := d' } : Wk) = w2 at hW2 hx k'
    have ha2 := hW2.sm _ _ hd
    have lg : ∀ o, (gotoF w2 d.tick o).2.1.length ≤ 1 := fun o => by cases o <;> simp [gotoF]
    have lb : (backF us w2 d.tick).2.1.length ≤ 1 := by unfold backF; split <;> simp
    obtain ⟨tick, wd⟩ := d
    cases wd with
    | go =>
      cases ew
      refine ⟨_, rfl, rfl, _, rfl, ?_⟩
      refine iteT ⟨_, rfl, x, dx, _, rfl, hx, rfl, _, rfl, H0, x, Lc, Lt, cs, us, w2, ts ++ ts0, tick, rfl, hW2, hz2, fun H' ts2 h1 h2 => k' H' ts2 h1 (by have e := congrArg List.length h1; rw [List.length_map] at e; rw [e]; exact lg _) h2⟩
    | back =>
      cases ew
      refine ⟨_, rfl, rfl, _, rfl, ?_⟩
      rw [show decide (V.str ("back" : Str) = V.str "go") = false by decide +kernel]
      refine iteF ⟨_, rfl, rfl, _, rfl, ?_⟩
      refine iteT ⟨_, rfl, x, dx, _, rfl, hx, rfl, _, rfl, H0, x, Lc, Lt, cs, us, w2, ts ++ ts0, tick, rfl, hW2, hz2, fun H' ts2 h1 h2 => k' H' ts2 h1 (by have e := congrArg List.length h1; rw [List.length_map] at e; rw [e]; exact lb) h2⟩
    | goto n =>
      cases ew
      refine ⟨_, rfl, rfl, _, rfl, ?_⟩
      rw [show decide (V.str ("goto" : Str) = V.str "go") = false by decide +kernel]
      refine iteF ⟨_, rfl, rfl, _, rfl, ?_⟩
      rw [show decide (V.str ("goto" : Str) = V.str "back") = false by decide +kernel]
      refine iteF ⟨_, rfl, rfl, _, rfl, ?_⟩
      refine iteT ⟨_, rfl, x, dx, _, rfl, hx, rfl, _, rfl, _, rfl, a, _, _, _, rfl, rfl, SqT.of ha2, atI_2 _ _ _ _, H0, x, Lc, Lt, cs, us, w2, ts ++ ts0, tick, n, rfl, hW2, hz2, fun H' ts2 h1 h2 => k' H' ts2 h1 (by have e := congrArg List.length h1; rw [List.length_map] at e; rw [e]; exact lg _) h2⟩
    | stop =>
      cases ew
      refine ⟨_, rfl, rfl, _, rfl, ?_⟩
      rw [show decide (V.str ("stop" : Str) = V.str "go") = false by decide +kernel]
      refine iteF ⟨_, rfl, rfl, _, rfl, ?_⟩
      rw [show decide (V.str ("stop" : Str) = V.str "back") = false by decide +kernel]
      refine iteF ⟨_, rfl, rfl, _, rfl, ?_⟩
      rw [show decide (V.str ("stop" : Str) = V.str "goto") = false by decide +kernel]
      refine iteF ⟨_, rfl, rfl, _, rfl, ?_⟩
      refine iteT ⟨_, rfl, x, dx, _, rfl, hx, rfl, _, rfl, H0, x, Lc, Lt, cs, us, w2, ts ++ ts0, tick, rfl, hW2, fun H' h2 => k' H' [] rfl (Nat.zero_le _) (by rw [List.append_nil]; exact h2)⟩
    | on =>
      cases ew
      refine ⟨_, rfl, rfl, _, rfl, ?_⟩
      rw [show decide (V.str ("on" : Str) = V.str "go") = false by decide +kernel]
      refine iteF ⟨_, rfl, rfl, _, rfl, ?_⟩
      rw [show decide (V.str ("on" : Str) = V.str "back") = false by decide +kernel]
      refine iteF ⟨_, rfl, rfl, _, rfl, ?_⟩
      rw [show decide (V.str ("on" : Str) = V.str "goto") = false by decide +kernel]
      refine iteF ⟨_, rfl, rfl, _, rfl, ?_⟩
      rw [show decide (V.str ("on" : Str) = V.str "stop") = false by decide +kernel]
      refine iteF ⟨_, rfl, rfl, _, rfl, ?_⟩
      refine iteT ⟨_, rfl, x, dx, _, rfl, hx, rfl, _, rfl, H0, x, Lc, Lt, cs, us, w2, ts ++ ts0, tick, rfl, hW2, fun H' h2 => k' H' [] rfl (Nat.zero_le _) (by rw [List.append_nil]; exact h2)⟩
def DeedsAt (H : Hp) (L : Addr) (ds : List Dd) : Prop := ∃ as : List Addr, H L = some (.lst (as.map V.ref)) ∧ Paired (DeedAt H) as ds
theorem DeedsAt.keep {H H' : Hp} {L : Addr} {ds : List Dd} (h : DeedsAt H L ds) (s : Same H H') : DeedsAt H' L ds := by
  obtain ⟨as, h1, h2⟩ := h
  exact ⟨as, s _ _ h1, Paired.mapP h2 fun a d e => s _ _ e⟩
def Slow (ds : List Dd) : Prop := ds.Pairwise fun a b => a.tick ≤ b.tick
def spFall : Sp := fun vs H Q _ => ∃ (L : Addr) (ds : List Dd), vs = [.ref L] ∧ DeedsAt H L ds ∧ ds.length ≤ 900 ∧ Slow ds ∧ Q .non H
theorem ok_refuse_falling {P : Program} {w : World} {K : PySem.W.Frag} {mg : Str → Option Value} {base : Heap} {A : Adr} (T : Txt K mg A) : FnOk P w K mg base (CXE P w) 1 A.f_refuse_falling A.d_refuse_falling ["deeds"] (spFall) := by
  refine T.F_refuse_falling.okE sc_refuse_falling (fun vs H Q E h => ?_) (fun cdv Ar outer s H vs Q E hr h => ?_)
  · obtain ⟨L, ds, rfl, hL, hz, hs, k⟩ := h
    rfl
  · obtain ⟨L, ds, rfl, hL, hz, hs, k⟩ := h
    refine ⟨_, (pss_one (ps_for PassesOwn.leaving rfl (pi_range2 (by rfl) T.b_range (pa_cons pe_int (pa_cons (pe_callB (call_lenK K) (by rfl) T.b_len PySem.boot_len (pa_cons (pv 0) pa_nil)) pa_nil))) (pg_name (i := 1) sc_refuse_falling.nd rfl (Or.inl rfl)) (pss_one (ps_if (pt_cmpR op_lt (pe_ix (ix_tupK K) (pe_ix (ix_listK K) (pv 0) (pv 1) (fun _ _ => rfl)) pe_int (fun _ _ => rfl)) (pe_ix (ix_tupK K) (pe_ix (ix_listK K) (pv 0) (pe_op op_sub (pv 1) pe_int) (fun _ _ => rfl)) pe_int (fun _ _ => rfl)) (nomark _)) (pss_one (ps_raise T.x_Late (by rfl) T.c_Late (pa_cons pe_str pa_nil))) pss_nil)))), ?_⟩
    obtain ⟨as, hl, hp⟩ := hL
    have hlen := Paired.length hp
    have ln : (as.map V.ref).length = as.length := List.length_map _
    refine ⟨_, rfl, L, _, rfl, .inl (SqL.of hl), 1, _, rfl, ⟨by decide, by decide, by rw [ln]; omega, by rw [ln]; omega⟩, ?_⟩
    refine for_range (fun _ σ' G' => ∃ z : Option V, σ' = [some (.ref L), z] ∧ G' = H) ⟨none, rfl, rfl⟩ (fun i σ' G' hi hq => ?_) fun σ' G' hq => ?_
    · obtain ⟨z, rfl, rfl⟩ := hq
      rw [ln] at hi
      have i1 : i + 1 < as.length := by omega
      have g1 : as[i + 1]? = some as[i + 1] := List.getElem?_eq_getElem i1
      have g0 : as[i]? = some as[i] := List.getElem?_eq_getElem (by omega)
      obtain ⟨u1, v1, e1⟩ := paired_at hp g1
      obtain ⟨u0, v0, e0⟩ := paired_at hp g0
      have le : u0.tick ≤ u1.tick := by
        have := List.pairwise_iff_getElem.mp hs i (i + 1) (List.getElem?_eq_some_iff.mp v0).1 (List.getElem?_eq_some_iff.mp v1).1 (by omega)
        rw [(List.getElem?_eq_some_iff.mp v0).2, (List.getElem?_eq_some_iff.mp v1).2] at this
        exact this
      have a1 : atI (as.map V.ref) (1 + (i : Int)) = some (.ref as[i + 1]) := by
        rw [show (1 + (i : Int)) = ((i + 1 : Nat) : Int) from by omega]
        exact atI_nat (by rw [List.getElem?_map, g1]; rfl)
      have a0 : atI (as.map V.ref) (1 + (i : Int) - 1) = some (.ref as[i]) := by
        rw [show (1 + (i : Int) - 1) = ((i : Nat) : Int) from by omega]
        exact atI_nat (by rw [List.getElem?_map, g0]; rfl)
      refine ⟨_, rfl, _, rfl, L, _, _, _, rfl, rfl, SqL.of hl, a1, as[i + 1], _, _, _, rfl, rfl, SqT.of e1, atI_0 _ _, ?_⟩
      refine ⟨_, rfl, _, rfl, _, _, rfl, rfl, L, _, _, _, rfl, rfl, SqL.of hl, a0, as[i], _, _, _, rfl, rfl, SqT.of e0, atI_0 _ _, ?_⟩
      refine ⟨_, _, rfl, rfl, _, rfl, ?_⟩
      rw [show decide (u1.tick < u0.tick) = false from decide_eq_false (by omega)]
      exact iteF ⟨_, rfl, rfl⟩
    obtain ⟨z, rfl, rfl⟩ := hq
    exact k
def spRows (A : Adr) : Sp := fun vs H Q _ => ∃ (l L : Addr) (top b : Int) (cs : List Addr) (us : List Cu) (ds : List Dd), vs = [.ref l, .ref L, .int top, .int b] ∧ H l = some (.lst (cs.map V.ref)) ∧ Cues0 A H cs us ∧ Rising us ∧ cs.length ≤ 100 ∧ (∀ u ∈ us, FoOk u.fo ∧ 1 ≤ u.n) ∧ DeedsAt H L ds ∧ ds.length ≤ 100 ∧ Slow ds ∧ Sm64 b ∧
  ∀ p H' x Lc Lt j w r rl n' d' ts, j ≤ ds.length → (∀ i d, i < j → ds[i]? = some d → d.tick * b ≤ top) → (∀ d, ds[j]? = some d → top < d.tick * b) → Runs us ⟨0, 0, none, none⟩ (ds.take j) r w → Comes us (clk w top b) b w.num w.due rl n' d' →
    WalkAt A H H' x Lc Lt cs us { w with num := n', due := d' } ts → ts.map Rw.d = (0, 0, ("list" : Str)) :: (r ++ rl) → H' p = some (.tup [.ref Lt, .int (clk w top b), .int b]) → H p = none → Q (.ref p) H'
theorem ok_rows_of {P : Program} {w : World} {K : PySem.W.Frag} {mg : Str → Option Value} {base : Heap} {A : Adr} (T : Txt K mg A) : FnOk P w K mg base (CXE P w) 8 A.f_rows_of A.d_rows_of ["cues", "deeds", "top", "bottom"] (spRows A) := by
  have G_Walk_clock_top := ok_Walk_clock_top (P := P) (w := w) (base := base) T
  have G_Walk_come_to := ok_Walk_come_to (P := P) (w := w) (base := base) T
  have G_Walk_init := ok_Walk_init (P := P) (w := w) (base := base) T
  have G_Walk_note := ok_Walk_note (P := P) (w := w) (base := base) T
  have G_do_deed := ok_do_deed (P := P) (w := w) (base := base) T
  have G_refuse_falling := ok_refuse_falling (P := P) (w := w) (base := base) T
  refine T.F_rows_of.okE sc_rows_of (fun vs H Q E h => ?_) (fun cdv Ar outer s H vs Q E hr h => ?_)
  · obtain ⟨l, L, top, b, cs, us, ds, rfl, hl, hc, hri, hz, hfo, hL, hdz, hsl, hb, k⟩ := h
    rfl
  · obtain ⟨l, L, top, b, cs, us, ds, rfl, hl, hc, hri, hz, hfo, hL, hdz, hsl, hb, k⟩ := h
    refine ⟨_, (pss_cons (ps_set (i := 4) sc_rows_of.nd rfl (Or.inl rfl) (pe_make T.M_Walk G_Walk_init (hr.mono (by decide)) (by rfl) T.c_Walk T.bb_Walk_init .nil passE (pa_cons (pv 0) pa_nil)))
      (pss_cons (ps_expr (pe_call G_refuse_falling (hr.mono (by decide)) (by rfl) T.m_refuse_falling T.F_refuse_falling.kp T.bb_refuse_falling .nil passE (pa_cons (pv 1) pa_nil)))
      (pss_cons (ps_expr (pe_meth (pv 4) T.cl_Walk T.me_Walk_note G_Walk_note (hr.mono (by decide)) T.bb_Walk_note .nil passE0 (pa_cons pe_int (pa_cons pe_str pa_nil))))
      (pss_cons (ps_for PassesOwn.leaving rfl (pi_listK K (pv 1)) (pg_name (i := 5) sc_rows_of.nd rfl (Or.inl rfl)) (pss_cons (ps_if (pt_cmpR op_gt (pe_op op_mul (pe_ix (ix_tupK K) (pv 5) pe_int (fun _ _ => rfl)) (pv 3)) (pv 2) (nomark _)) (pss_one ps_break) pss_nil)
      (pss_one (ps_expr (pe_call G_do_deed (hr.mono (by decide)) (by rfl) T.m_do_deed T.F_do_deed.kp T.bb_do_deed .nil passE0 (pa_cons (pv 4) (pa_cons (pv 5) pa_nil)))))))
      (pss_cons (ps_expr (pe_meth (pv 4) T.cl_Walk T.me_Walk_come_to G_Walk_come_to (hr.mono (by decide)) T.bb_Walk_come_to .nil passE0 (pa_cons (pv 2) (pa_cons (pv 3) pa_nil))))
      (pss_one (ps_ret (pe_tupS (pa_cons (pe_fldK K (pv 4)) (pa_cons (pe_meth (pv 4) T.cl_Walk T.me_Walk_clock_top G_Walk_clock_top (hr.mono (by decide)) T.bb_Walk_clock_top .nil passE0 (pa_cons (pv 2) (pa_cons (pv 3) pa_nil))) (pa_cons (pv 3) pa_nil))))))))))), ?_⟩
    have hcl : cs.length = us.length := Paired.length hc
    refine seq_cut (fun σ' H' => ∃ x Lc Lt, σ' = [some (.ref l), some (.ref L), some (.int top), some (.int b), some (.ref x), none] ∧ WalkAt A H H' x Lc Lt cs us ⟨0, 0, none, none⟩ []) (fun N hN => ?_) ?_
    · refine ⟨_, rfl, fun x dx nx ndx nex => ⟨x, dx, l, cs, us, rfl, upd_same, ?_⟩⟩
      have s0 : Same H (upd (upd H dx (.own x)) x (.ins A.C_Walk dx [])) := (Same.new ndx).upd nx
      refine ⟨s0 _ _ hl, by omega, hc.keep s0, hri, fun Lc Lt H' h1 h2 h3 h4 h5 h6 h7 => ⟨rfl, hN _ _ ⟨x, Lc, Lt, rfl, ⟨⟨dx, h1⟩, h2, hc, hri, by omega, hfo, h3, fun t ht => by simp at ht, by simp, h6, Int.le_refl _, fun b o e => h7 b o (ne_of_none e nx) (s0 _ _ e), nx, s0.free h5⟩⟩⟩⟩
    rintro σ' H1 ⟨x, Lc, Lt, rfl, hW⟩
    refine seq_cut2 (fun σ' H' => ∃ t : Rw, σ' = [some (.ref l), some (.ref L), some (.int top), some (.int b), some (.ref x), none] ∧ t.d = (0, 0, ("list" : Str)) ∧ WalkAt A H H' x Lc Lt cs us ⟨0, 0, none, none⟩ [t]) (fun N hN => ?_) ?_
    · refine ⟨_, rfl, L, ds, rfl, hL.keep hW.sm, by omega, hsl, ?_⟩
      obtain ⟨dx, hx⟩ := hW.ob
      exact ⟨_, rfl, x, dx, _, rfl, hx, rfl, H, x, Lc, Lt, cs, us, ⟨0, 0, none, none⟩, [], 0, "list", rfl, hW, by decide, fun H' t ht h => hN _ _ ⟨t, rfl, ht, h⟩⟩
    rintro σ' H2 ⟨t0, rfl, ht0, hW2⟩
    obtain ⟨as, hA, hp⟩ := hL
    have hal := Paired.length hp
    refine seq_cut (fun σ' H' => ∃ (j : Nat) (w : Wk) (r : List Row) (ts : List Rw) (z : Option V), σ' = [some (.ref l), some (.ref L), some (.int top), some (.int b), some (.ref x), z] ∧ j ≤ ds.length ∧ (∀ i d, i < j → ds[i]? = some d → d.tick * b ≤ top) ∧ (∀ d, ds[j]? = some d → top < d.tick * b) ∧ Runs us ⟨0, 0, none, none⟩ (ds.take j) r w ∧ WalkAt A H H' x Lc Lt cs us w ts ∧ ts.map Rw.d = (0, 0, ("list" : Str)) :: r ∧ ts.length ≤ 1 + 101 * j) (fun N hN => ?_) ?_
    · refine ⟨_, rfl, L, rfl, ⟨_, SqL.of (hW2.sm _ _ hA)⟩, for_list (xs := as.map V.ref) (fun j σ' H' => ∃ (w : Wk) (r : List Row) (ts : List Rw) (z : Option V), σ' = [some (.ref l), some (.ref L), some (.int top), some (.int b), some (.ref x), z] ∧ (∀ i d, i < j → ds[i]? = some d → d.tick * b ≤ top) ∧ Runs us ⟨0, 0, none, none⟩ (ds.take j) r w ∧ WalkAt A H H' x Lc Lt cs us w ts ∧ ts.map Rw.d = (0, 0, ("list" : Str)) :: r ∧ ts.length ≤ 1 + 101 * j) ?_ ?_ ?_ ?_⟩
      · exact ⟨_, [], [t0], none, rfl, fun i d hi => absurd hi (Nat.not_lt_zero _), by rw [List.take_zero]; exact .nil, hW2, by rw [List.map_cons, ht0]; rfl, by simp⟩
      · rintro i σ' H' _ ⟨w, r, ts, z, rfl, _, _, h, _⟩
        exact SqL.of (h.sm _ _ hA)
      · rintro i v σ' H3 hv ⟨w, r, ts, z, rfl, hle, hR, hW3, hts, hln⟩
        rw [List.getElem?_map] at hv
        cases hai : as[i]? with
        | none => rw [hai] at hv; cases hv
        | some a =>
          rw [hai] at hv
          obtain rfl : V.ref a = v := by simpa using hv
          obtain ⟨d, hd, ha⟩ := paired_at hp hai
          have hid : i < ds.length := (List.getElem?_eq_some_iff.mp hd).1
          refine ⟨_, rfl, a, _, _, _, rfl, rfl, SqT.of (hW3.sm _ _ ha), atI_0 _ _, _, rfl, _, _, rfl, rfl, .inr ⟨hb.1, hb.2⟩, _, rfl, _, _, rfl, rfl, _, rfl, ?_⟩
          by_cases c : top < d.tick * b
          · rw [decide_eq_true c]
            exact iteT (hN _ _ ⟨i, w, r, ts, _, rfl, by omega, hle, fun d' hd' => (by rw [hd] at hd'; cases hd'; exact c), hR, hW3, hts, hln⟩)
          · rw [decide_eq_false c]
            refine iteF ⟨_, rfl, _, rfl, H, x, Lc, Lt, a, cs, us, w, ts, d, rfl, ha, hW3, by omega, fun H4 n' d' r1 ts1 hC hm hl1 hW4 => ?_⟩
            refine ⟨_, r ++ (r1 ++ (doF us { w with num := n', due := d' } d).2), ts ++ ts1, _, rfl, fun i' d2 hi' hd2 => ?_, ?_, hW4, ?_, ?_⟩
            · by_cases e : i' = i
              · subst e; rw [hd] at hd2; cases hd2; omega
              · exact hle i' d2 (by omega) hd2
            · rw [List.take_add_one, hd]
              exact .snoc hR hC
            · rw [List.map_append, hts, hm]; rfl
            · rw [List.length_append]; omega
      · rintro σ' H3 ⟨w, r, ts, z, rfl, hle, hR, hW3, hts, hln⟩
        rw [List.length_map, hal] at hle hR hln
        exact hN _ _ ⟨ds.length, w, r, ts, z, rfl, Nat.le_refl _, hle, fun d hd => (by rw [List.getElem?_eq_none_iff.mpr (Nat.le_refl _)] at hd; cases hd), hR, hW3, hts, hln⟩
    rintro σ' H3 ⟨j, w, r, ts, z, rfl, hj, hle, hlt, hR, hW3, hts, hln⟩
    refine seq_cut (fun σ' H' => ∃ n' d' ts1, σ' = [some (.ref l), some (.ref L), some (.int top), some (.int b), some (.ref x), z] ∧ Comes us (clk w top b) b w.num w.due (ts1.map Rw.d) n' d' ∧ WalkAt A H H' x Lc Lt cs us { w with num := n', due := d' } (ts ++ ts1)) (fun N hN => ?_) ?_
    · obtain ⟨dx, hx⟩ := hW3.ob
      exact ⟨_, rfl, x, dx, _, rfl, hx, rfl, _, rfl, _, rfl, H, x, Lc, Lt, cs, us, w, ts, top, b, rfl, hW3, by omega, hb, fun H' n' d' ts1 h1 h2 h3 => hN _ _ ⟨n', d', ts1, rfl, h1, h3⟩⟩
    rintro σ' H4 ⟨n', d', ts1, rfl, hC, hW4⟩
    obtain ⟨dx, hx⟩ := hW4.ob
    refine ⟨_, rfl, x, A.C_Walk, dx, _, _, rfl, hx, T.cl_Walk, T.na_Walk_trail, rfl, _, rfl, x, dx, _, rfl, hx, rfl, _, rfl, _, rfl, x, dx, Lc, Lt, _, top, b, rfl, hx, hb, _, rfl, (by show 3 ≤ 1000; decide), fun p hp' => ?_⟩
    exact k p _ x Lc Lt j w r (ts1.map Rw.d) n' d' (ts ++ ts1) hj hle hlt hR hC (hW4.keep (Same.new hp')) (by rw [List.map_append, hts]; rfl) upd_same (hW4.sm.free hp')
def spCell (K : PySem.W.Frag) : Sp := fun vs H Q _ => ∃ (a : Addr) (ns : List Int) (i : Int), vs = [.ref a, .int i] ∧ SqL K H a (ns.map V.int) ∧ 0 ≤ i ∧ ∀ v, Q (.int v) H
theorem ok_law_cell_at {P : Program} {w : World} {K : PySem.W.Frag} {mg : Str → Option Value} {base : Heap} {A : Adr} (T : Txt K mg A) : FnOk P w K mg base (CXE P w) 1 A.f_law_cell_at A.d_law_cell_at ["_law_script", "_law_k"] (spCell K) := by
  refine T.F_law_cell_at.okN sc_law_cell_at (fun vs H Q E h => ?_) (fun cdv Ar outer s H vs Q E hr h => ?_)
  · obtain ⟨a, ns, i, rfl, hS, hi, k⟩ := h
    rfl
  · obtain ⟨a, ns, i, rfl, hS, hi, k⟩ := h
    refine ⟨_, (pss_cons (ps_if (pt_cmpR op_lt (pv 1) (pe_callB (call_lenK K) (by rfl) T.b_len PySem.boot_len (pa_cons (pv 0) pa_nil)) (nomark _)) (pss_one (ps_ret (pe_ix (ix_listK K) (pv 0) (pv 1) (fun _ _ => rfl)))) pss_nil)
      (pss_one (ps_ret pe_int))), ?_⟩
    refine ⟨_, rfl, _, rfl, a, _, rfl, .inl hS, _, _, rfl, rfl, _, rfl, ?_⟩
    refine ite2 (fun c => ?_) (fun c => ?_)
    · have c := of_decide_eq_true c
      rw [List.length_map] at c
      obtain ⟨v, hv⟩ : ∃ v, ns[i.toNat]? = some v := ⟨_, List.getElem?_eq_getElem (by omega)⟩
      refine ⟨_, rfl, _, rfl, a, _, _, _, rfl, rfl, hS, ?_, k v⟩
      have := atI_nat (xs := ns.map V.int) (j := i.toNat) (v := .int v) (by rw [List.getElem?_map, hv]; rfl)
      rwa [Int.toNat_of_nonneg hi] at this
    · exact k 0
def spMixed : Sp := fun vs H Q _ => ∃ c p : Int, vs = [.int c, .int p] ∧ 0 ≤ p ∧ p ≤ 100 ∧ ∀ v, 0 ≤ v → v < 2147483629 → Q (.int v) H
theorem pp {p : Int} (h : 0 ≤ p) (h' : p ≤ 100) : -18446744073709551616 < 48271 + 7919 * p * p ∧ 48271 + 7919 * p * p < 18446744073709551616 := by
  have h1 : 0 ≤ 7919 * p * p := Int.mul_nonneg (by omega) h
  have h2 : 7919 * p * p ≤ 791900 * 100 := Int.mul_le_mul (by omega) h' h (by omega)
  omega
theorem ok_law_mixed {P : Program} {w : World} {K : PySem.W.Frag} {mg : Str → Option Value} {base : Heap} {A : Adr} (T : Txt K mg A) : FnOk P w K mg base (CXE P w) 1 A.f_law_mixed A.d_law_mixed ["_law_cell", "_law_k"] (spMixed) := by
  refine T.F_law_mixed.okN sc_law_mixed (fun vs H Q E h => ?_) (fun cdv Ar outer s H vs Q E hr h => ?_)
  · obtain ⟨c, p, rfl, hp, hp', k⟩ := h
    rfl
  · obtain ⟨c, p, rfl, hp, hp', k⟩ := h
    refine ⟨_, (pss_one (ps_ret (pe_op op_mod (pe_op op_mul (pe_op op_add (pe_op op_mod (pe_op op_fdivL (pv 0) pe_int) (pe_op op_powS pe_int pe_int)) pe_int) (pe_op op_add pe_int (pe_op op_mul (pe_op op_mul pe_int (pv 1)) (pv 1)))) pe_int))), ?_⟩
    simp only [tSeq, tIfS, tAsg, gName, tRet, tRetN, tNext, tDrop, tTest, tB, tOp, tUn, rI, rI0, rU, rEq, rNe, scal, tVar, tC, tCB, tCons, tNil, tCall, tAnd, tOr, tNot, tAndV, tOrV, tNotV, tLstS, tTupS, tMenu, intsOf, tyName, L2.start, CMul, CDivL, CPowS, List.map_cons, List.map_nil, List.length_cons, List.length_nil, List.cons_append, List.nil_append, List.append_nil, List.getElem?_cons_zero, List.getElem?_cons_succ, List.set_cons_zero, List.set_cons_succ, Nat.reduceAdd, Nat.reduceSub, Nat.zero_add, List.reduceReplicate, Option.some.injEq, exists_eq_left', exists_eq_left, exists_and_left, and_assoc, V.int.injEq, V.bl.injEq, V.ref.injEq, V.ty.injEq, List.cons.injEq, and_true, true_and, decide_eq_true_eq, reduceCtorEq, false_and, and_false, exists_false, Bool.false_eq_true, if_true, if_false, exists_const, true_or, or_true, false_or, or_false, Bool.not_eq_true', decide_eq_false_iff_not, ite_not, Bool.not_true, Bool.not_false, Nat.reduceLeDiff, Int.reduceLT, Int.reduceLE, Int.reduceNeg, Int.reducePow, Int.reduceToNat, Int.reduceAdd, Int.reduceMul, Int.reduceSub, Nat.reducePow, Nat.reduceLT, Int.natCast_add, Int.cast_ofNat_Int, decide_true, decide_false, Int.natCast_zero, Int.zero_add, String.reduceEq]
    refine ⟨.inr ⟨by omega, by omega⟩, .inr (pp hp hp'), ?_⟩
    exact k _ (Int.emod_nonneg _ (by omega)) (Int.emod_lt_of_pos _ (by omega))
def spTimeL : Sp := fun vs H Q _ => ∃ m : Int, vs = [.int m] ∧ ∀ v, 0 ≤ v → v ≤ 1000000000 → Q (.int v) H
theorem ok_law_time {P : Program} {w : World} {K : PySem.W.Frag} {mg : Str → Option Value} {base : Heap} {A : Adr} (T : Txt K mg A) : FnOk P w K mg base (CXE P w) 1 A.f_law_time A.d_law_time ["_law_mixed_here"] (spTimeL) := by
  refine T.F_law_time.okN sc_law_time (fun vs H Q E h => ?_) (fun cdv Ar outer s H vs Q E hr h => ?_)
  · obtain ⟨m, rfl, k⟩ := h
    rfl
  · obtain ⟨m, rfl, k⟩ := h
    refine ⟨_, (pss_cons (ps_set (i := 1) sc_law_time.nd rfl (Or.inl rfl) (pe_op op_mod (pe_op op_mul (pv 0) pe_int) pe_int))
      (pss_cons (ps_if (pt_cmpR op_eq (pe_op op_mod (pv 1) pe_int) pe_int (nomark _)) (pss_one (ps_ret pe_int)) pss_nil)
      (pss_cons (ps_if (pt_cmpR op_eq (pe_op op_mod (pv 1) pe_int) pe_int (nomark _)) (pss_one (ps_ret (pe_op op_mul pe_int (pe_op op_mod (pe_op op_fdivL (pv 1) pe_int) pe_int)))) pss_nil)
      (pss_cons (ps_if (pt_cmpR op_eq (pe_op op_mod (pv 1) pe_int) pe_int (nomark _)) (pss_one (ps_ret (pe_op op_mod (pe_op op_fdivL (pv 1) pe_int) pe_int))) pss_nil)
      (pss_one (ps_ret (pe_op op_mod (pe_op op_fdivL (pv 1) pe_int) (pe_op op_add (pe_op op_powS pe_int pe_int) pe_int)))))))), ?_⟩
    simp only [tSeq, tIfS, tAsg, gName, tRet, tRetN, tNext, tDrop, tTest, tB, tOp, tUn, rI, rI0, rU, rEq, rNe, scal, tVar, tC, tCB, tCons, tNil, tCall, tAnd, tOr, tNot, tAndV, tOrV, tNotV, tLstS, tTupS, tMenu, intsOf, tyName, L2.start, CMul, CDivL, CPowS, List.map_cons, List.map_nil, List.length_cons, List.length_nil, List.cons_append, List.nil_append, List.append_nil, List.getElem?_cons_zero, List.getElem?_cons_succ, List.set_cons_zero, List.set_cons_succ, Nat.reduceAdd, Nat.reduceSub, Nat.zero_add, List.reduceReplicate, Option.some.injEq, exists_eq_left', exists_eq_left, exists_and_left, and_assoc, V.int.injEq, V.bl.injEq, V.ref.injEq, V.ty.injEq, List.cons.injEq, and_true, true_and, decide_eq_true_eq, reduceCtorEq, false_and, and_false, exists_false, Bool.false_eq_true, if_true, if_false, exists_const, true_or, or_true, false_or, or_false, Bool.not_eq_true', decide_eq_false_iff_not, ite_not, Bool.not_true, Bool.not_false, Nat.reduceLeDiff, Int.reduceLT, Int.reduceLE, Int.reduceNeg, Int.reducePow, Int.reduceToNat, Int.reduceAdd, Int.reduceMul, Int.reduceSub, Nat.reducePow, Nat.reduceLT, Int.natCast_add, Int.cast_ofNat_Int, decide_true, decide_false, Int.natCast_zero, Int.zero_add, String.reduceEq]
    generalize m * 40692 % 4000000007 = n
    split
    · exact k _ (by omega) (by omega)
    split
    · exact k _ (by omega) (by omega)
    split
    · exact k _ (by omega) (by omega)
    · exact k _ (by omega) (by omega)
theorem cell_at {K : PySem.W.Frag} {ns : List Int} {i : Nat} (h : i < ns.length) : atI (ns.map V.int) (i : Int) = some (V.int ns[i]) := atI_nat (by rw [List.getElem?_map, List.getElem?_eq_getElem h]; rfl)
def rowsL (r : Row) : List V := [.int r.1, .int r.2.1, .str r.2.2]
def RowsL (H : Hp) (D : Addr) (rs : List Row) : Prop := ∃ as : List Addr, H D = some (.lst (as.map V.ref)) ∧ Paired (fun a r => H a = some (.tup (rowsL r))) as rs
theorem RowsL.keep {H H' : Hp} {D : Addr} {rs : List Row} (h : RowsL H D rs) (s : Same H H') : RowsL H' D rs := by
  obtain ⟨as, h1, h2⟩ := h
  exact ⟨as, s _ _ h1, Paired.mapP h2 fun a r e => s _ _ e⟩
theorem paired_app {α β : Type} {F : α → β → Prop} : ∀ {xs zs : List α} {ys ws : List β}, Paired F xs ys → Paired F zs ws → Paired F (xs ++ zs) (ys ++ ws)
  | _, _, _, _, .nil, s => s
  | _, _, _, _, .cons r t, s => .cons r (paired_app t s)
theorem DeedsAt.snoc {H : Hp} {D q : Addr} {ds : List Dd} (h : DeedsAt H D ds) {d : Dd} (hq : H q = none) : ∃ as : List Addr, (upd H q (.tup (.int d.tick :: wdV d.wd))) D = some (.lst (as.map V.ref)) ∧ as.length = ds.length ∧ DeedsAt (upd (upd H q (.tup (.int d.tick :: wdV d.wd))) D (.lst (as.map V.ref ++ [V.ref q]))) D (ds ++ [d]) := by
  obtain ⟨as, h1, h2⟩ := h
  have nq : D ≠ q := ne_of_none h1 hq
  refine ⟨as, by rw [upd_ne nq]; exact h1, Paired.length h2, as ++ [q], by rw [upd_same, List.map_append]; rfl, paired_app (Paired.mapP h2 fun a x e => ?_) (.cons ?_ .nil)⟩
  · show _ = _
    rw [upd_ne (ne_of (show H a = some _ from e) h1 (by intro z; cases z)), upd_ne (ne_of_none (show H a = some _ from e) hq)]; exact e
  · show _ = _
    rw [upd_ne nq.symm, upd_same]
theorem RowsL.snoc {H : Hp} {D q : Addr} {rs : List Row} (h : RowsL H D rs) {r : Row} (hq : H q = none) : ∃ as : List Addr, (upd H q (.tup (rowsL r))) D = some (.lst (as.map V.ref)) ∧ as.length = rs.length ∧ RowsL (upd (upd H q (.tup (rowsL r))) D (.lst (as.map V.ref ++ [V.ref q]))) D (rs ++ [r]) := by
  obtain ⟨as, h1, h2⟩ := h
  have nq : D ≠ q := ne_of_none h1 hq
  refine ⟨as, by rw [upd_ne nq]; exact h1, Paired.length h2, as ++ [q], by rw [upd_same, List.map_append]; rfl, paired_app (Paired.mapP h2 fun a x e => ?_) (.cons ?_ .nil)⟩
  · rw [upd_ne (ne_of e h1 (by intro z; cases z)), upd_ne (ne_of_none e hq)]; exact e
  · rw [upd_ne nq.symm, upd_same]
def cuOf (n : Int) : Cu := ⟨n, false, .non⟩
theorem Part0.hide {A : Adr} {H : Hp} {D p : Addr} {ys : List V} (h : Part0 A H p) (hD : H D = some (.lst ys)) : Part0 A (hide H D) p := by
  obtain ⟨dx, d1, d2, a, b, c⟩ := h
  exact ⟨dx, d1, d2, by rw [hide_ne (ne_of a hD (by intro z; cases z))]; exact a, by rw [hide_ne (ne_of b hD (by intro z; cases z))]; exact b, by rw [hide_ne (ne_of c hD (by intro z; cases z))]; exact c⟩
theorem Cue1.hide {A : Adr} {H : Hp} {D c L : Addr} {n : Int} {st : Bool} {fo : V} {ys : List V} (h : Cue1 A H c L n st fo) (hD : H D = some (.lst ys)) (nL : L ≠ D) : Cue0 A (hide H D) c n st fo := by
  obtain ⟨dx, ps, a, b, l, d⟩ := h
  exact ⟨dx, L, ps, by rw [hide_ne (ne_of a hD (by intro z; cases z))]; exact a, by rw [hide_ne nL]; exact b, l, fun p hp => (d p hp).hide hD⟩
theorem made_sm {H H' : Hp} {x dx C : Addr} {fs : List (Str × V)} (nx : H x = none) (ndx : H dx = none) (k : ∀ b o, b ≠ x → (upd (upd H dx (.own x)) x (.ins C dx fs)) b = some o → H' b = some o) : Same H H' := fun b o e =>
  k b o (ne_of_none e nx) (by rw [upd_ne (ne_of_none e nx), upd_ne (ne_of_none e ndx)]; exact e)
theorem refs_of {A : Adr} {H : Hp} : ∀ {ys : List V} {us : List Cu}, Paired (fun v (u : Cu) => ∃ c, v = V.ref c ∧ Cue0 A H c u.n u.st u.fo) ys us → ∃ cs : List Addr, ys = cs.map V.ref ∧ Cues0 A H cs us
  | _, _, .nil => ⟨[], rfl, .nil⟩
  | _, _, .cons ⟨c, e, h⟩ t => by
    obtain ⟨cs, e2, h2⟩ := refs_of t
    exact ⟨c :: cs, by rw [e, e2]; rfl, .cons h h2⟩
def cuesOf (ms : List Int) : List Cu := ms.map cuOf
theorem cues_rise {ms : List Int} (h : ms.Pairwise (· < ·)) : Rising (cuesOf ms) := by unfold Rising cuesOf; rw [List.pairwise_map]; exact h
def Plain (us : List Cu) : Prop := ∀ u ∈ us, u.fo = .non
theorem due_non {us : List Cu} (h : Plain us) {u : Cu} (hu : u ∈ us) (c : Int) : dueO c u.fo = none := by rw [h u hu]; rfl
theorem comes_none {us : List Cu} {k b n n' : Int} {d' : Option Int} {r : List Row} (h : Comes us k b n none r n' d') : r = [] ∧ n' = n ∧ d' = none := by
  cases h with
  | rest _ => exact ⟨rfl, rfl, rfl⟩
def spLaw (K : PySem.W.Frag) : Sp := fun vs H Q _ => ∃ (a : Addr) (ns : List Int), vs = [.ref a] ∧ SqL K H a (ns.map V.int) ∧ ns.length ≤ 63 ∧ ∀ H', Q (.bl true) H'
def spPut0 : Sp := fun vs H Q _ => ∃ l d, vs = [.ref l, .ref d] ∧ H d = some (.dT []) ∧ ∀ H', Same H H' → Q .non H'
theorem ok_put_in {P : Program} {w : World} {K : PySem.W.Frag} {mg : Str → Option Value} {base : Heap} {A : Adr} (T : Txt K mg A) : FnOk P w K mg base (CXE P w) 1 A.f_put_in A.d_put_in ["look", "told"] (spPut0) := by
  refine T.F_put_in.okN sc_put_in (fun vs H Q E h => ?_) (fun cdv Ar outer s H vs Q E hr h => ?_)
  · obtain ⟨l, d, rfl, hd, k⟩ := h
    rfl
  · obtain ⟨l, d, rfl, hd, k⟩ := h
    refine ⟨_, (pss_one (ps_hold (ps_for PassesOwn.never rfl (pi_items (pe_items (pv 1))) (pg_tupK (n := 2) K rfl (pgs_cons (pg_name (i := 2) sc_put_in.nd rfl (Or.inl rfl)) (pgs_cons (pg_name (i := 3) sc_put_in.nd rfl (Or.inl rfl)) pgs_nil))) pss_never))), ?_⟩
    refine ⟨d, [], hd, fun o xs es ep D kt => ?_⟩
    have hk := keys_vals D
    rw [kt0 kt] at hk
    have hv := vals_vals D kt
    refine ⟨_, rfl, d, o, es, ep, rfl, upd_same, D.sys, D.ex, D.data, fun p hp => ?_⟩
    have pd : d ≠ p := by rintro rfl; rw [upd_same] at hp; cases hp
    refine ⟨p, d, o, [], [], es, ep, rfl, upd_same, by rw [upd_ne pd, upd_same], D.ex, D.data, hk, hv, for_no ⟨by rw [upd_ne pd, upd_same], Nat.le_refl _⟩ ?_⟩
    exact ⟨by rw [upd_ne pd, upd_same], ts_hold hd (Same.new hp), k _ (sm_hold hd (Same.new hp))⟩
def spLook0 (A : Adr) : Sp := fun vs H Q _ => ∃ (l : Addr) (n : Int) (cs : List Addr) (us : List Cu), vs = [.ref l, .int n] ∧ 0 ≤ n ∧ H l = some (.lst (cs.map V.ref)) ∧ cs.length ≤ 900 ∧ Cues0 A H cs us ∧ Rising us ∧ ∀ d H', H d = none → H' d = some (.dT []) → Same H H' → Q (.ref d) H'
theorem ok_carried {P : Program} {w : World} {K : PySem.W.Frag} {mg : Str → Option Value} {base : Heap} {A : Adr} (T : Txt K mg A) : FnOk P w K mg base (CXE P w) 3 A.f_carried A.d_carried ["cues", "number"] (spLook0 A) := by
  have G_checked := ok_checked (P := P) (w := w) (base := base) T
  have G_put_in := ok_put_in (P := P) (w := w) (base := base) T
  refine T.F_carried.okN sc_carried (fun vs H Q E h => ?_) (fun cdv Ar outer s H vs Q E hr h => ?_)
  · obtain ⟨l, n, cs, us, rfl, hn, hl, hz, hc, hri, k⟩ := h
    rfl
  · obtain ⟨l, n, cs, us, rfl, hn, hl, hz, hc, hri, k⟩ := h
    refine ⟨_, (pss_cons (ps_set (i := 2) sc_carried.nd rfl (Or.inl rfl) pe_dnewT)
      (pss_cons (ps_for PassesOwn.never rfl (pi_listK K (pe_call G_checked (hr.mono (by decide)) (by rfl) T.m_checked T.F_checked.kp T.bb_checked .nil passE0 (pa_cons (pv 0) (pa_cons (pv 1) pa_nil)))) (pg_name (i := 3) sc_carried.nd rfl (Or.inl rfl)) (pss_cons (ps_if (pt_cmpR op_gt (pe_fldK K (pv 3)) (pv 1) (nomark _)) (pss_one ps_break) pss_nil)
      (pss_cons (ps_if (pt_val (pe_fldK K (pv 3))) (pss_one (ps_set (i := 2) sc_carried.nd rfl (Or.inl rfl) pe_dnewT)) pss_nil)
      (pss_one (ps_for PassesOwn.never rfl (pi_listK K (pe_fldK K (pv 3))) (pg_name (i := 4) sc_carried.nd rfl (Or.inl rfl)) (pss_one (ps_expr (pe_call G_put_in (hr.mono (by decide)) (by rfl) T.m_put_in T.F_put_in.kp T.bb_put_in .nil passE0 (pa_cons (pv 2) (pa_cons (pe_fldK K (pv 4)) pa_nil))))))))))
      (pss_one (ps_ret (pv 2))))), ?_⟩
    refine seq_cut (fun σ' H' => ∃ d, σ' = [some (.ref l), some (.int n), some (.ref d), none, none] ∧ H d = none ∧ H' d = some (.dT []) ∧ Same H H') (fun N hN => ?_) ?_
    · exact fun p hp => hN _ _ ⟨p, rfl, hp, upd_same, Same.new hp⟩
    rintro σ' H1 ⟨d0, rfl, nd0, hd0, s1⟩
    refine seq_cut (fun σ' H' => ∃ d v1 v2, σ' = [some (.ref l), some (.int n), some (.ref d), v1, v2] ∧ H d = none ∧ H' d = some (.dT []) ∧ Same H H') (fun N hN => ?_) ?_
    · refine ⟨_, rfl, _, rfl, l, n, cs, us, rfl, hn, s1 _ _ hl, hz, hc.keep s1, hri, fun m H2 nm hm s2 => ?_⟩
      refine ⟨m, rfl, ⟨_, SqL.of hm⟩, for_list (xs := cs.map V.ref) (fun i σ' H' => ∃ d v1 v2, σ' = [some (.ref l), some (.int n), some (.ref d), v1, v2] ∧ H d = none ∧ H' d = some (.dT []) ∧ Same H H' ∧ Same H2 H') ⟨d0, none, none, rfl, nd0, s2 _ _ hd0, s1.trans s2, Same.refl _⟩ ?_ ?_ ?_⟩
      · rintro i σ' H' _ ⟨_, _, _, _, _, _, _, sm⟩
        exact SqL.of (sm _ _ hm)
      · rintro i v σ' H3 hv ⟨d, v1, v2, rfl, nd, hd, s3, t3⟩
        rw [List.getElem?_map] at hv
        cases hci : cs[i]? with
        | none => rw [hci] at hv; cases hv
        | some c =>
          rw [hci] at hv
          obtain rfl : V.ref c = v := by simpa using hv
          obtain ⟨u, hu, dx, L, ps, e, eL, hp1, hp⟩ := paired_at (hc.keep s3) hci
          refine seq_cut (fun σ' H' => σ' = [some (.ref l), some (.int n), some (.ref d), some (.ref c), v2] ∧ H' = H3) (fun N2 hN2 => ?_) ?_
          · refine ⟨_, rfl, c, A.C_Cue, dx, _, _, rfl, e, T.cl_Cue, T.na_Cue_number, rfl, _, rfl, _, _, rfl, rfl, _, rfl, ?_⟩
            refine ite2 (fun _ => hN _ _ ⟨d, _, _, rfl, nd, hd, s3⟩) (fun _ => hN2 _ _ ⟨rfl, rfl⟩)
          rintro σ' H4 ⟨rfl, rfl⟩
          refine seq_cut (fun σ' H' => ∃ d, σ' = [some (.ref l), some (.int n), some (.ref d), some (.ref c), v2] ∧ H d = none ∧ H' d = some (.dT []) ∧ Same H H' ∧ Same H4 H') (fun N2 hN2 => ?_) ?_
          · refine ⟨_, rfl, c, A.C_Cue, dx, _, _, rfl, e, T.cl_Cue, T.na_Cue_stops, rfl, _, rfl, ?_⟩
            refine ite2 (fun _ => ?_) (fun _ => hN2 _ _ ⟨d, rfl, nd, hd, s3, Same.refl _⟩)
            exact fun p hp => hN2 _ _ ⟨p, rfl, s3.free hp, upd_same, s3.trans (Same.new hp), Same.new hp⟩
          rintro σ' H5 ⟨d', rfl, nd', hd', s5, t5⟩
          refine ⟨_, rfl, c, A.C_Cue, dx, _, _, rfl, t5 _ _ e, T.cl_Cue, T.na_Cue_parts, rfl, L, rfl, ⟨_, SqL.of (t5 _ _ eL)⟩, ?_⟩
          refine for_list (K := K) (a := L) (xs := ps.map V.ref) (fun j σ' H' => ∃ v2, σ' = [some (.ref l), some (.int n), some (.ref d'), some (.ref c), v2] ∧ Same H5 H') ⟨_, rfl, Same.refl _⟩ ?_ ?_ ?_
          · rintro j σ' H' _ ⟨_, _, sm⟩
            exact SqL.of (sm _ _ (t5 _ _ eL))
          · rintro j v σ' H6 hv ⟨v3, rfl, sm⟩
            rw [List.getElem?_map] at hv
            cases hpj : ps[j]? with
            | none => rw [hpj] at hv; cases hv
            | some p =>
              rw [hpj] at hv
              obtain rfl : V.ref p = v := by simpa using hv
              obtain ⟨dp, e1, e2, hp', g1, g2⟩ := (hp p (List.mem_of_getElem? hpj)).keep (t5.trans sm)
              exact ⟨_, rfl, _, rfl, p, A.C_Part, dp, _, _, rfl, hp', T.cl_Part, T.na_Part_tells, rfl, d', e1, rfl, g1, fun H7 s7 => ⟨_, rfl, sm.trans s7⟩⟩
          · rintro σ' H6 ⟨v3, rfl, sm⟩
            exact ⟨d', _, _, rfl, nd', sm _ _ hd', s5.trans sm, t3.trans (t5.trans sm)⟩
      · rintro σ' H3 ⟨d, v1, v2, rfl, nd, hd, s3, _⟩
        exact hN _ _ ⟨d, _, _, rfl, nd, hd, s3⟩
    rintro σ' H2 ⟨d, v1, v2, rfl, nd, hd, s2⟩
    exact ⟨_, rfl, k d H2 nd hd s2⟩
theorem ok_shown {P : Program} {w : World} {K : PySem.W.Frag} {mg : Str → Option Value} {base : Heap} {A : Adr} (T : Txt K mg A) : FnOk P w K mg base (CXE P w) 4 A.f_shown A.d_shown ["cues", "number"] (spLook0 A) := by
  have G_carried := ok_carried (P := P) (w := w) (base := base) T
  have G_cue_at := ok_cue_at (P := P) (w := w) (base := base) T
  have G_put_in := ok_put_in (P := P) (w := w) (base := base) T
  refine T.F_shown.okN sc_shown (fun vs H Q E h => ?_) (fun cdv Ar outer s H vs Q E hr h => ?_)
  · obtain ⟨l, n, cs, us, rfl, hn, hl, hz, hc, hri, k⟩ := h
    rfl
  · obtain ⟨l, n, cs, us, rfl, hn, hl, hz, hc, hri, k⟩ := h
    refine ⟨_, (pss_cons (ps_set (i := 2) sc_shown.nd rfl (Or.inl rfl) (pe_call G_carried (hr.mono (by decide)) (by rfl) T.m_carried T.F_carried.kp T.bb_carried .nil passE0 (pa_cons (pv 0) (pa_cons (pv 1) pa_nil))))
      (pss_cons (ps_set (i := 3) sc_shown.nd rfl (Or.inl rfl) (pe_call G_cue_at (hr.mono (by decide)) (by rfl) T.m_cue_at T.F_cue_at.kp T.bb_cue_at .nil passE0 (pa_cons (pv 0) (pa_cons (pv 1) pa_nil))))
      (pss_cons (ps_if (pt_cmp (pc_notN (pv 3))) (pss_one (ps_for PassesOwn.never rfl (pi_listK K (pe_fldK K (pv 3))) (pg_name (i := 4) sc_shown.nd rfl (Or.inl rfl)) (pss_one (ps_expr (pe_call G_put_in (hr.mono (by decide)) (by rfl) T.m_put_in T.F_put_in.kp T.bb_put_in .nil passE0 (pa_cons (pv 2) (pa_cons (pe_fldK K (pv 4)) pa_nil))))))) pss_nil)
      (pss_one (ps_ret (pv 2)))))), ?_⟩
    refine seq_cut (fun σ' H' => ∃ d, σ' = [some (.ref l), some (.int n), some (.ref d), none, none] ∧ H d = none ∧ H' d = some (.dT []) ∧ Same H H') (fun N hN => ?_) ?_
    · exact ⟨_, rfl, _, rfl, l, n, cs, us, rfl, hn, hl, hz, hc, hri, fun d H' nd hd s' => hN _ _ ⟨d, rfl, nd, hd, s'⟩⟩
    rintro σ' H1 ⟨d, rfl, nd, hd, s1⟩
    refine seq_cut (fun σ' H' => ∃ v, σ' = [some (.ref l), some (.int n), some (.ref d), some v, none] ∧ CueAt0 A cs us n v ∧ Same H1 H') (fun N hN => ?_) ?_
    · exact ⟨_, rfl, _, rfl, l, n, cs, us, rfl, hn, s1 _ _ hl, hz, hc.keep s1, hri, fun v H' hv s' => hN _ _ ⟨v, rfl, hv, s'⟩⟩
    rintro σ' H2 ⟨v, rfl, hv, s2⟩
    refine seq_cut (fun σ' H' => ∃ v1, σ' = [some (.ref l), some (.int n), some (.ref d), some v, v1] ∧ Same H2 H') (fun N hN => ?_) ?_
    · refine ⟨_, rfl, _, rfl, ?_⟩
      rcases hv with ⟨rfl, _⟩ | ⟨i, c, u, rfl, h1, h2, h3⟩
      · rw [decide_eq_true rfl]
        exact iteF (hN _ _ ⟨_, rfl, Same.refl _⟩)
      · rw [decide_eq_false (show ¬ V.ref c = V.non from fun z => by cases z)]
        obtain ⟨u', hu', dx, L, ps, e, eL, hp1, hp⟩ := paired_at (hc.keep (s1.trans s2)) h1
        refine iteT ⟨_, rfl, c, A.C_Cue, dx, _, _, rfl, e, T.cl_Cue, T.na_Cue_parts, rfl, L, rfl, ⟨_, SqL.of eL⟩, ?_⟩
        refine for_list (K := K) (a := L) (xs := ps.map V.ref) (fun j σ' H' => ∃ v1, σ' = [some (.ref l), some (.int n), some (.ref d), some (.ref c), v1] ∧ Same H2 H') ⟨_, rfl, Same.refl _⟩ ?_ ?_ ?_
        · rintro j σ' H' _ ⟨_, _, sm⟩
          exact SqL.of (sm _ _ eL)
        · rintro j v σ' H6 hv ⟨v3, rfl, sm⟩
          rw [List.getElem?_map] at hv
          cases hpj : ps[j]? with
          | none => rw [hpj] at hv; cases hv
          | some p =>
            rw [hpj] at hv
            obtain rfl : V.ref p = v := by simpa using hv
            obtain ⟨dp, e1, e2, hp', g1, g2⟩ := (hp p (List.mem_of_getElem? hpj)).keep sm
            exact ⟨_, rfl, _, rfl, p, A.C_Part, dp, _, _, rfl, hp', T.cl_Part, T.na_Part_alone, rfl, d, e2, rfl, g2, fun H7 s7 => ⟨_, rfl, sm.trans s7⟩⟩
        · rintro σ' H6 ⟨v3, rfl, sm⟩
          exact hN _ _ ⟨_, rfl, sm⟩
    rintro σ' H3 ⟨v1, rfl, s3⟩
    exact ⟨_, rfl, k d H3 nd ((s2.trans s3) _ _ hd) (s1.trans (s2.trans s3))⟩
def stepF (t : Rw) (d : Addr) (v : V) : List (Str × V) := [("clock", .int t.c), ("look", .ref d), ("cue", v), ("word", .str t.w)]
def spStep (A : Adr) : Sp := fun vs H Q _ => ∃ (Hb : Hp) (x dx d : Addr) (t : Rw) (cs : List Addr) (us : List Cu), vs = [.ref x, .ref t.r, .ref d] ∧ H x = some (.ins A.C_Step dx []) ∧ Same Hb H ∧ Hb x = none ∧ RowAt Hb cs t ∧ 0 ≤ t.n ∧ cs.length ≤ 900 ∧ Cues0 A Hb cs us ∧ Rising us ∧
  ∀ v H', H' x = some (.ins A.C_Step dx (stepF t d v)) → (∀ b o, b ≠ x → H b = some o → H' b = some o) → Q .non H'
theorem ok_Step_init {P : Program} {w : World} {K : PySem.W.Frag} {mg : Str → Option Value} {base : Heap} {A : Adr} (T : Txt K mg A) : FnOk P w K mg base (CXE P w) 4 A.f_Step_init A.d_Step_init ["self", "row", "look"] (spStep A) := by
  have G_cue_at := ok_cue_at (P := P) (w := w) (base := base) T
  refine T.F_Step_init.okN sc_Step_init (fun vs H Q E h => ?_) (fun cdv Ar outer s H vs Q E hr h => ?_)
  · obtain ⟨Hb, x, dx, d, t, cs, us, rfl, hx, sb, nx, hR, hn, hz, hc, hri, k⟩ := h
    rfl
  · obtain ⟨Hb, x, dx, d, t, cs, us, rfl, hx, sb, nx, hR, hn, hz, hc, hri, k⟩ := h
    refine ⟨_, (pss_cons (ps_fld (pv 0) (pe_ix (ix_tupK K) (pv 1) pe_int (fun _ _ => rfl)) rfl)
      (pss_cons (ps_fld (pv 0) (pv 2) rfl)
      (pss_cons (ps_fld (pv 0) (pe_call G_cue_at (hr.mono (by decide)) (by rfl) T.m_cue_at T.F_cue_at.kp T.bb_cue_at .nil passE0 (pa_cons (pe_ix (ix_tupK K) (pv 1) pe_int (fun _ _ => rfl)) (pa_cons (pe_ix (ix_tupK K) (pv 1) pe_int (fun _ _ => rfl)) pa_nil))) rfl)
      (pss_one (ps_fld (pv 0) (pe_ix (ix_tupK K) (pv 1) pe_int (fun _ _ => rfl)) rfl))))), ?_⟩
    refine ⟨_, rfl, t.r, _, _, _, rfl, rfl, SqT.of (sb _ _ hR.1), atI_0 _ _, _, rfl, x, A.C_Step, dx, _, rfl, hx, T.cl_Step, T.na_Step_clock, (by show 0 < 1000; decide), ?_⟩
    refine ⟨_, rfl, _, rfl, x, A.C_Step, dx, _, rfl, upd_same, T.cl_Step, T.na_Step_look, (by show 1 < 1000; decide), ?_⟩
    have s2 := (sb.upd (o := HO.ins A.C_Step dx [("clock", V.int t.c)]) nx).upd (o := HO.ins A.C_Step dx [("clock", V.int t.c), ("look", V.ref d)]) nx
    refine ⟨_, rfl, t.r, _, _, _, rfl, rfl, SqT.of (s2 _ _ hR.1), atI_1 _ _ _, _, rfl, t.r, _, _, _, rfl, rfl, SqT.of (s2 _ _ hR.1), atI_2 _ _ _ _, t.l, t.n, cs, us, rfl, hn, s2 _ _ hR.2, hz, hc.keep s2, hri, fun v H3 hv s3 => ?_⟩
    refine ⟨_, rfl, x, A.C_Step, dx, _, rfl, s3 _ _ upd_same, T.cl_Step, T.na_Step_cue, (by show 2 < 1000; decide), ?_⟩
    have s4 := (s2.trans s3).upd (o := HO.ins A.C_Step dx [("clock", V.int t.c), ("look", V.ref d), ("cue", v)]) nx
    refine ⟨_, rfl, t.r, _, _, _, rfl, rfl, SqT.of (s4 _ _ hR.1), atI_3 _ _ _ _ _, _, rfl, x, A.C_Step, dx, _, rfl, upd_same, T.cl_Step, T.na_Step_word, (by show 3 < 1000; decide), ?_⟩
    refine k v _ upd_same fun b o hb e => ?_
    rw [upd_ne hb, upd_ne hb]
    exact s3 _ _ (by rw [upd_ne hb, upd_ne hb]; exact e)
def StepOk (A : Adr) (H : Hp) (s : Addr) : Prop := ∃ dx t d v, H s = some (.ins A.C_Step dx (stepF t d v)) ∧ H d = some (.dT [])
theorem op_neAE {X : Cx} (K : PySem.W.Frag) (hu : X.A.units + 64 < cLine) (hK : X.K = K := by rfl) : OpR X (compareOp .NotEq) (fun x y H Q => (∃ n a b xs ys, n ≤ 60 ∧ x = .ref a ∧ y = .ref b ∧ SqL K H a xs ∧ SqL K H b ys ∧ Als K H n xs ys ∧ Q (.bl false) H) ∨ ∃ (a b : Addr) (xs : List V), x = .ref a ∧ y = .ref b ∧ SqL K H a xs ∧ SqL K H b [] ∧ Q (.bl (!xs.isEmpty)) H) := by
  intro pins s σ H x y v u Q I rx ry h
  rcases h with h | h
  · exact op_neA K hu hK pins s σ H x y v u Q I rx ry h
  · exact op_neE K hu hK pins s σ H x y v u Q I rx ry h
inductive NoL (K : PySem.W.Frag) (A : Adr) (H : Hp) : V → Prop
  | other (x : V) (t : String) (ty : TyOf K H x (.type t)) (h : PySem.W.kitOne K (.type t) (.type "list") = some false) : NoL K A H x
  | item (l : Addr) (cs : List Addr) (us : List Cu) (hl : H l = some (.lst (cs.map V.ref ++ [.non]))) (hz : cs.length ≤ 800) (hc : Cues0 A H cs us) : NoL K A H (.ref l)
  | fall (l : Addr) (cs : List Addr) (us : List Cu) (hl : H l = some (.lst (cs.map V.ref))) (hz : cs.length ≤ 800) (hc : Cues0 A H cs us) (hn : ¬ Rising us) : NoL K A H (.ref l)
theorem tyStay {K : PySem.W.Frag} {H H' : Hp} {x : V} {t : Value} (h : TyOf K H x t) (s : Same H H') : TyOf K H' x t := by
  cases h with
  | non => exact .non
  | bl b => exact .bl b
  | int i => exact .int i
  | str z => exact .str z
  | flt z => exact .flt z
  | lst e => exact .lst (s _ _ e)
  | frz e => exact .frz (s _ _ e)
  | tup e => exact .tup (s _ _ e)
  | dK e => exact .dK (s _ _ e)
  | dT e => exact .dT (s _ _ e)
  | ins e a1 a2 a3 a4 a5 => exact .ins (s _ _ e) a1 a2 a3 a4 a5
theorem NoL.keep {K : PySem.W.Frag} {A : Adr} {H H' : Hp} {x : V} (h : NoL K A H x) (s : Same H H') : NoL K A H' x := by
  cases h with
  | other _ t ty h => exact .other x t (tyStay ty s) h
  | item l cs us hl hz hc => exact .item l cs us (s _ _ hl) hz (hc.keep s)
  | fall l cs us hl hz hc hn => exact .fall l cs us (s _ _ hl) hz (hc.keep s) hn
theorem rise_of {us : List Cu} (h : ∀ i, (hi : i + 1 < us.length) → us[i].n < us[i + 1].n) : Rising us := by
  unfold Rising
  rw [List.pairwise_iff_getElem]
  intro i j hi hj hij
  induction j with
  | zero => omega
  | succ j ih =>
    by_cases c : i = j
    · subst c; exact h i hj
    · exact Int.lt_trans (ih (by omega) (by omega)) (h j hj)
def isRef : V → V
  | .ref _ => .bl true
  | _ => .bl false
def spNoL (K : PySem.W.Frag) (A : Adr) : Sp := fun vs H _ E => ∃ x, vs = [x] ∧ NoL K A H x ∧ ∀ H', Same H H' → E (.ref A.C_NoList) none H'
theorem okB_cue_list {P : Program} {w : World} {K : PySem.W.Frag} {mg : Str → Option Value} {base : Heap} {A : Adr} (T : Txt K mg A) : FnOk P w K mg base (CXE P w) 1 A.f_cue_list A.d_cue_list ["cues"] (spNoL K A) := by
  refine T.F_cue_list.okE sc_cue_list (fun vs H Q E h => ?_) (fun cdv Ar outer s H vs Q E hr h => ?_)
  · obtain ⟨x, rfl, hx, e⟩ := h
    rfl
  · obtain ⟨x, rfl, hx, e⟩ := h
    refine ⟨_, (pss_cons (ps_if (PW.pt (pw_or (pt_not (pt_val (pe_callB (call_isiT K) (by rfl) T.b_isinstance boot_isinstance (pa_cons (pv 0) (pa_cons (pe_ty (by rfl) T.b_list boot_list) pa_nil))))) (pw_or1 (pt_not (pt_val (pe_callB (call_allB K rfl) (by rfl) T.b_all boot_all (pa_cons (pe_comp ["cue"] [none] rfl (pi_listK K (pv 0)) (fun _ _ _ => (pg_name (i := 0) ndc_cue_list_0 rfl (Or.inl rfl))) (fun _ _ _ => (pe_callB (call_isiC K) (by rfl) T.b_isinstance boot_isinstance (pa_cons (pv 0) (pa_cons (pe_glob (v := V.ref _) (by rfl) T.c_Cue rfl) pa_nil))))) pa_nil))))))) (pss_one (ps_raise T.x_NoList (by rfl) T.c_NoList (pa_cons pe_str pa_nil))) pss_nil)
      (pss_cons (ps_for PassesOwn.leaving rfl (pi_range2 (by rfl) T.b_range (pa_cons pe_int (pa_cons (pe_callB (call_lenK K) (by rfl) T.b_len PySem.boot_len (pa_cons (pv 0) pa_nil)) pa_nil))) (pg_name (i := 1) sc_cue_list.nd rfl (Or.inl rfl)) (pss_one (ps_if (pt_cmpR op_le (pe_fldK K (pe_ix (ix_listK K) (pv 0) (pv 1) (fun _ _ => rfl))) (pe_fldK K (pe_ix (ix_listK K) (pv 0) (pe_op op_sub (pv 1) pe_int) (fun _ _ => rfl))) (nomark _)) (pss_one (ps_raise T.x_NoList (by rfl) T.c_NoList (pa_cons pe_str pa_nil))) pss_nil)))
      (pss_one (ps_ret (pe_callTy (call_listK K) (by rfl) T.b_list boot_list (pa_cons (pv 0) pa_nil)))))), ?_⟩
    cases hx with
    | other _ t ty h => exact ⟨_, rfl, _, _, _, _, rfl, ty, h, _, rfl, iteT ⟨by decide, e _ (Same.refl _)⟩⟩
    | item l cs us hl hz hc =>
      refine ⟨_, rfl, _, _, _, true, rfl, .lst hl, kit_ll, true, rfl, iteF ?_⟩
      refine ⟨_, rfl, l, rfl, ⟨_, SqL.of hl⟩, fun D hD => ?_⟩
      refine comp_mp isRef (fun σ => σ.length = 1) (SqL.of hl) hD (by rw [List.length_append, List.length_map]; simp; omega) rfl (fun v σ' G N hv ho sm q => ?_) fun G sm hDl => ?_
      · rcases List.mem_append.mp hv with hv | hv
        · obtain ⟨c, hcm, rfl⟩ := List.mem_map.mp hv
          obtain ⟨u, _, dx, L, ps, e, _⟩ := paired_mem (hc.keep sm) hcm
          match σ', ho with
          | [_], _ => exact ⟨_, rfl, _, _, _, true, rfl, T.ty_Cue _ _ _ _ e, T.kt_Cue, q _ _ (Same.refl _) rfl⟩
        · obtain rfl : v = V.non := by simpa using hv
          match σ', ho with
          | [_], _ => exact ⟨_, rfl, _, _, _, false, rfl, .non, T.kn_Cue, q _ _ (Same.refl _) rfl⟩
      refine ⟨D, cs.map (fun _ => true) ++ [false], rfl, SqL.of (by rw [hDl, List.map_append, List.map_append, List.map_map, List.map_map]; rfl), _, rfl, ?_⟩
      rw [show (cs.map (fun _ => true) ++ [false]).all id = false by simp]
      exact iteT ⟨by decide, e _ sm⟩
    | fall l cs us hl hz hc hn =>
      refine ⟨_, rfl, _, _, _, true, rfl, .lst hl, kit_ll, true, rfl, iteF ?_⟩
      refine ⟨_, rfl, l, rfl, ⟨_, SqL.of hl⟩, fun D hD => ?_⟩
      refine comp_mp (fun _ => .bl true) (fun σ => σ.length = 1) (SqL.of hl) hD (by rw [List.length_map]; omega) rfl (fun v σ' G N hv ho sm q => ?_) fun G sm hDl => ?_
      · obtain ⟨c, hcm, rfl⟩ := List.mem_map.mp hv
        obtain ⟨u, _, dx, L, ps, e, _⟩ := paired_mem (hc.keep sm) hcm
        match σ', ho with
        | [_], _ => exact ⟨_, rfl, _, _, _, true, rfl, T.ty_Cue _ _ _ _ e, T.kt_Cue, q _ _ (Same.refl _) rfl⟩
      refine ⟨D, cs.map (fun _ => true), rfl, SqL.of (by rw [hDl, List.map_map, List.map_map]; rfl), _, rfl, ?_⟩
      rw [show (cs.map fun _ => true).all id = true by simp]
      refine iteF ?_
      have lG := sm _ _ hl
      have ln : (cs.map V.ref).length = cs.length := List.length_map _
      have hcl : cs.length = us.length := Paired.length hc
      refine ⟨_, rfl, l, _, rfl, .inl (SqL.of lG), 1, _, rfl, ⟨by decide, by decide, by rw [ln]; omega, by rw [ln]; omega⟩, ?_⟩
      refine for_range (fun i σ' G' => (∃ z : Option V, σ' = [some (.ref l), z] ∧ G' = G) ∧ ∀ j, (hj : j < i) → (hj2 : j + 1 < us.length) → us[j].n < us[j + 1].n) ⟨⟨none, rfl, rfl⟩, fun j hj => absurd hj (Nat.not_lt_zero _)⟩ (fun i σ' G' hi hq => ?_) fun σ' G' hq => ?_
      · obtain ⟨⟨z, rfl, rfl⟩, so⟩ := hq
        rw [ln] at hi
        have i1 : i + 1 < cs.length := by omega
        have g1 : cs[i + 1]? = some cs[i + 1] := List.getElem?_eq_getElem i1
        have g0 : cs[i]? = some cs[i] := List.getElem?_eq_getElem (by omega)
        obtain ⟨u1, v1, dx1, L1, ps1, e1, _⟩ := paired_at (hc.keep sm) g1
        obtain ⟨u0, v0, dx0, L0, ps0, e0, _⟩ := paired_at (hc.keep sm) g0
        have a1 : atI (cs.map V.ref) (1 + (i : Int)) = some (.ref cs[i + 1]) := by
          rw [show (1 + (i : Int)) = ((i + 1 : Nat) : Int) from by omega]
          exact atI_nat (by rw [List.getElem?_map, g1]; rfl)
        have a0 : atI (cs.map V.ref) (1 + (i : Int) - 1) = some (.ref cs[i]) := by
          rw [show (1 + (i : Int) - 1) = ((i : Nat) : Int) from by omega]
          exact atI_nat (by rw [List.getElem?_map, g0]; rfl)
        refine ⟨_, rfl, _, rfl, l, _, _, _, rfl, rfl, SqL.of lG, a1, cs[i + 1], A.C_Cue, dx1, _, _, rfl, e1, T.cl_Cue, T.na_Cue_number, rfl, ?_⟩
        refine ⟨_, rfl, _, rfl, _, _, rfl, rfl, l, _, _, _, rfl, rfl, SqL.of lG, a0, cs[i], A.C_Cue, dx0, _, _, rfl, e0, T.cl_Cue, T.na_Cue_number, rfl, ?_⟩
        refine ⟨_, _, rfl, rfl, _, rfl, ite2 (fun _ => ⟨by decide, e _ sm⟩) (fun c => ⟨⟨_, rfl, rfl⟩, fun j hj hj2 => ?_⟩)⟩
        by_cases cj : j < i
        · exact so j cj hj2
        · obtain rfl : j = i := by omega
          have c : ¬ u1.n ≤ u0.n := fun z => c (decide_eq_true z)
          rw [(List.getElem?_eq_some_iff.mp v0).2, (List.getElem?_eq_some_iff.mp v1).2]
          omega
      obtain ⟨_, so⟩ := hq
      rw [ln] at so
      exact absurd (rise_of fun i hi => so i (by omega) hi) hn
def spNoW (K : PySem.W.Frag) (A : Adr) : Sp := fun vs H _ E => ∃ x dx y, vs = [.ref x, y] ∧ H x = some (.ins A.C_Walk dx []) ∧ NoL K A H y ∧ ∀ H', Same H H' → E (.ref A.C_NoList) none H'
theorem okB_Walk_init {P : Program} {w : World} {K : PySem.W.Frag} {mg : Str → Option Value} {base : Heap} {A : Adr} (T : Txt K mg A) : FnOk P w K mg base (CXE P w) 2 A.f_Walk_init A.d_Walk_init ["self", "cues"] (spNoW K A) := by
  have G_cue_list := okB_cue_list (P := P) (w := w) (base := base) T
  refine T.F_Walk_init.okE sc_Walk_init (fun vs H Q E h => ?_) (fun cdv Ar outer s H vs Q E hr h => ?_)
  · obtain ⟨x, dx, y, rfl, hx, hy, e⟩ := h
    rfl
  · obtain ⟨x, dx, y, rfl, hx, hy, e⟩ := h
    refine ⟨_, (pss_cons (ps_fld (pv 0) (pe_call G_cue_list (hr.mono (by decide)) (by rfl) T.m_cue_list T.F_cue_list.kp T.bb_cue_list .nil passE (pa_cons (pv 1) pa_nil)) rfl)
      (pss_cons (ps_fld (pv 0) pe_int rfl)
      (pss_cons (ps_fld (pv 0) pe_int rfl)
      (pss_cons (ps_fld (pv 0) pe_non rfl)
      (pss_cons (ps_fld (pv 0) pe_non rfl)
      (pss_one (ps_fld (pv 0) (pe_lstS pa_nil) rfl))))))), ?_⟩
    exact ⟨_, rfl, y, rfl, hy, e⟩
theorem slow_of {ds : List Dd} (h : ∀ i, (hi : i + 1 < ds.length) → ds[i].tick ≤ ds[i + 1].tick) : Slow ds := by
  unfold Slow
  rw [List.pairwise_iff_getElem]
  intro i j hi hj hij
  induction j with
  | zero => omega
  | succ j ih =>
    by_cases c : i = j
    · subst c; exact h i hj
    · exact Int.le_trans (ih (by omega) (by omega)) (h j hj)
def spLate (A : Adr) : Sp := fun vs H _ E => ∃ (L : Addr) (ds : List Dd), vs = [.ref L] ∧ DeedsAt H L ds ∧ ds.length ≤ 900 ∧ ¬ Slow ds ∧ E (.ref A.C_Late) none H
theorem okB_refuse_falling {P : Program} {w : World} {K : PySem.W.Frag} {mg : Str → Option Value} {base : Heap} {A : Adr} (T : Txt K mg A) : FnOk P w K mg base (CXE P w) 1 A.f_refuse_falling A.d_refuse_falling ["deeds"] (spLate A) := by
  refine T.F_refuse_falling.okE sc_refuse_falling (fun vs H Q E h => ?_) (fun cdv Ar outer s H vs Q E hr h => ?_)
  · obtain ⟨L, ds, rfl, hL, hz, hs, e⟩ := h
    rfl
  · obtain ⟨L, ds, rfl, hL, hz, hs, e⟩ := h
    refine ⟨_, (pss_one (ps_for PassesOwn.leaving rfl (pi_range2 (by rfl) T.b_range (pa_cons pe_int (pa_cons (pe_callB (call_lenK K) (by rfl) T.b_len PySem.boot_len (pa_cons (pv 0) pa_nil)) pa_nil))) (pg_name (i := 1) sc_refuse_falling.nd rfl (Or.inl rfl)) (pss_one (ps_if (pt_cmpR op_lt (pe_ix (ix_tupK K) (pe_ix (ix_listK K) (pv 0) (pv 1) (fun _ _ => rfl)) pe_int (fun _ _ => rfl)) (pe_ix (ix_tupK K) (pe_ix (ix_listK K) (pv 0) (pe_op op_sub (pv 1) pe_int) (fun _ _ => rfl)) pe_int (fun _ _ => rfl)) (nomark _)) (pss_one (ps_raise T.x_Late (by rfl) T.c_Late (pa_cons pe_str pa_nil))) pss_nil)))), ?_⟩
    obtain ⟨as, hl, hp⟩ := hL
    have hlen := Paired.length hp
    have ln : (as.map V.ref).length = as.length := List.length_map _
    refine ⟨_, rfl, L, _, rfl, .inl (SqL.of hl), 1, _, rfl, ⟨by decide, by decide, by rw [ln]; omega, by rw [ln]; omega⟩, ?_⟩
    refine for_range (fun i σ' G' => (∃ z : Option V, σ' = [some (.ref L), z] ∧ G' = H) ∧ ∀ j, (hj : j < i) → (hj2 : j + 1 < ds.length) → ds[j].tick ≤ ds[j + 1].tick) ⟨⟨none, rfl, rfl⟩, fun j hj => absurd hj (Nat.not_lt_zero _)⟩ (fun i σ' G' hi hq => ?_) fun σ' G' hq => ?_
    · obtain ⟨⟨z, rfl, rfl⟩, so⟩ := hq
      rw [ln] at hi
      have i1 : i + 1 < as.length := by omega
      have g1 : as[i + 1]? = some as[i + 1] := List.getElem?_eq_getElem i1
      have g0 : as[i]? = some as[i] := List.getElem?_eq_getElem (by omega)
      obtain ⟨u1, v1, e1⟩ := paired_at hp g1
      obtain ⟨u0, v0, e0⟩ := paired_at hp g0
      have a1 : atI (as.map V.ref) (1 + (i : Int)) = some (.ref as[i + 1]) := by
        rw [show (1 + (i : Int)) = ((i + 1 : Nat) : Int) from by omega]
        exact atI_nat (by rw [List.getElem?_map, g1]; rfl)
      have a0 : atI (as.map V.ref) (1 + (i : Int) - 1) = some (.ref as[i]) := by
        rw [show (1 + (i : Int) - 1) = ((i : Nat) : Int) from by omega]
        exact atI_nat (by rw [List.getElem?_map, g0]; rfl)
      refine ⟨_, rfl, _, rfl, L, _, _, _, rfl, rfl, SqL.of hl, a1, as[i + 1], _, _, _, rfl, rfl, SqT.of e1, atI_0 _ _, ?_⟩
      refine ⟨_, rfl, _, rfl, _, _, rfl, rfl, L, _, _, _, rfl, rfl, SqL.of hl, a0, as[i], _, _, _, rfl, rfl, SqT.of e0, atI_0 _ _, ?_⟩
      refine ⟨_, _, rfl, rfl, _, rfl, ite2 (fun _ => ⟨by decide, e⟩) (fun c => ⟨⟨_, rfl, rfl⟩, fun j hj hj2 => ?_⟩)⟩
      by_cases cj : j < i
      · exact so j cj hj2
      · obtain rfl : j = i := by omega
        have c : ¬ u1.tick < u0.tick := fun z => c (decide_eq_true z)
        rw [(List.getElem?_eq_some_iff.mp v0).2, (List.getElem?_eq_some_iff.mp v1).2]
        omega
    obtain ⟨_, so⟩ := hq
    rw [ln] at so
    exact absurd (slow_of fun i hi => so i (by omega) hi) hs
def spNoR (K : PySem.W.Frag) (A : Adr) : Sp := fun vs H _ E => ∃ (x y t b : V), vs = [x, y, t, b] ∧ NoL K A H x ∧ ∀ H', Same H H' → E (.ref A.C_NoList) none H'
theorem okL_rows_of {P : Program} {w : World} {K : PySem.W.Frag} {mg : Str → Option Value} {base : Heap} {A : Adr} (T : Txt K mg A) : FnOk P w K mg base (CXE P w) 8 A.f_rows_of A.d_rows_of ["cues", "deeds", "top", "bottom"] (spNoR K A) := by
  have G_Walk_clock_top := ok_Walk_clock_top (P := P) (w := w) (base := base) T
  have G_Walk_come_to := ok_Walk_come_to (P := P) (w := w) (base := base) T
  have G_Walk_init := okB_Walk_init (P := P) (w := w) (base := base) T
  have G_Walk_note := ok_Walk_note (P := P) (w := w) (base := base) T
  have G_do_deed := ok_do_deed (P := P) (w := w) (base := base) T
  have G_refuse_falling := ok_refuse_falling (P := P) (w := w) (base := base) T
  refine T.F_rows_of.okE sc_rows_of (fun vs H Q E h => ?_) (fun cdv Ar outer s H vs Q E hr h => ?_)
  · obtain ⟨x, y, t, b, rfl, hx, e⟩ := h
    rfl
  · obtain ⟨x, y, t, b, rfl, hx, e⟩ := h
    refine ⟨_, (pss_cons (ps_set (i := 4) sc_rows_of.nd rfl (Or.inl rfl) (pe_make T.M_Walk G_Walk_init (hr.mono (by decide)) (by rfl) T.c_Walk T.bb_Walk_init .nil passE (pa_cons (pv 0) pa_nil)))
      (pss_cons (ps_expr (pe_call G_refuse_falling (hr.mono (by decide)) (by rfl) T.m_refuse_falling T.F_refuse_falling.kp T.bb_refuse_falling .nil passE (pa_cons (pv 1) pa_nil)))
      (pss_cons (ps_expr (pe_meth (pv 4) T.cl_Walk T.me_Walk_note G_Walk_note (hr.mono (by decide)) T.bb_Walk_note .nil passE0 (pa_cons pe_int (pa_cons pe_str pa_nil))))
      (pss_cons (ps_for PassesOwn.leaving rfl (pi_listK K (pv 1)) (pg_name (i := 5) sc_rows_of.nd rfl (Or.inl rfl)) (pss_cons (ps_if (pt_cmpR op_gt (pe_op op_mul (pe_ix (ix_tupK K) (pv 5) pe_int (fun _ _ => rfl)) (pv 3)) (pv 2) (nomark _)) (pss_one ps_break) pss_nil)
      (pss_one (ps_expr (pe_call G_do_deed (hr.mono (by decide)) (by rfl) T.m_do_deed T.F_do_deed.kp T.bb_do_deed .nil passE0 (pa_cons (pv 4) (pa_cons (pv 5) pa_nil)))))))
      (pss_cons (ps_expr (pe_meth (pv 4) T.cl_Walk T.me_Walk_come_to G_Walk_come_to (hr.mono (by decide)) T.bb_Walk_come_to .nil passE0 (pa_cons (pv 2) (pa_cons (pv 3) pa_nil))))
      (pss_one (ps_ret (pe_tupS (pa_cons (pe_fldK K (pv 4)) (pa_cons (pe_meth (pv 4) T.cl_Walk T.me_Walk_clock_top G_Walk_clock_top (hr.mono (by decide)) T.bb_Walk_clock_top .nil passE0 (pa_cons (pv 2) (pa_cons (pv 3) pa_nil))) (pa_cons (pv 3) pa_nil))))))))))), ?_⟩
    refine seq_cut (fun _ _ => False) (fun N hN => ?_) (fun _ _ z => z.elim)
    refine ⟨_, rfl, fun w dw nw ndw nex => ⟨w, dw, x, rfl, upd_same, ?_⟩⟩
    have s0 : Same H (upd (upd H dw (.own w)) w (.ins A.C_Walk dw [])) := (Same.new ndw).upd nw
    exact ⟨hx.keep s0, fun H' s => e H' (s0.trans s)⟩
def spLateR (A : Adr) : Sp := fun vs H _ E => ∃ (l L : Addr) (t b : V) (cs : List Addr) (us : List Cu) (ds : List Dd), vs = [.ref l, .ref L, t, b] ∧ H l = some (.lst (cs.map V.ref)) ∧ Cues0 A H cs us ∧ Rising us ∧ cs.length ≤ 100 ∧ DeedsAt H L ds ∧ ds.length ≤ 900 ∧ ¬ Slow ds ∧ ∀ H', Same H H' → E (.ref A.C_Late) none H'
theorem okT_rows_of {P : Program} {w : World} {K : PySem.W.Frag} {mg : Str → Option Value} {base : Heap} {A : Adr} (T : Txt K mg A) : FnOk P w K mg base (CXE P w) 8 A.f_rows_of A.d_rows_of ["cues", "deeds", "top", "bottom"] (spLateR A) := by
  have G_Walk_clock_top := ok_Walk_clock_top (P := P) (w := w) (base := base) T
  have G_Walk_come_to := ok_Walk_come_to (P := P) (w := w) (base := base) T
  have G_Walk_init := ok_Walk_init (P := P) (w := w) (base := base) T
  have G_Walk_note := ok_Walk_note (P := P) (w := w) (base := base) T
  have G_do_deed := ok_do_deed (P := P) (w := w) (base := base) T
  have G_refuse_falling := okB_refuse_falling (P := P) (w := w) (base := base) T
  refine T.F_rows_of.okE sc_rows_of (fun vs H Q E h => ?_) (fun cdv Ar outer s H vs Q E hr h => ?_)
  · obtain ⟨l, L, t, b, cs, us, ds, rfl, hl, hc, hri, hz, hL, hdz, hsl, e⟩ := h
    rfl
  · obtain ⟨l, L, t, b, cs, us, ds, rfl, hl, hc, hri, hz, hL, hdz, hsl, e⟩ := h
    refine ⟨_, (pss_cons (ps_set (i := 4) sc_rows_of.nd rfl (Or.inl rfl) (pe_make T.M_Walk G_Walk_init (hr.mono (by decide)) (by rfl) T.c_Walk T.bb_Walk_init .nil passE (pa_cons (pv 0) pa_nil)))
      (pss_cons (ps_expr (pe_call G_refuse_falling (hr.mono (by decide)) (by rfl) T.m_refuse_falling T.F_refuse_falling.kp T.bb_refuse_falling .nil passE (pa_cons (pv 1) pa_nil)))
      (pss_cons (ps_expr (pe_meth (pv 4) T.cl_Walk T.me_Walk_note G_Walk_note (hr.mono (by decide)) T.bb_Walk_note .nil passE0 (pa_cons pe_int (pa_cons pe_str pa_nil))))
      (pss_cons (ps_for PassesOwn.leaving rfl (pi_listK K (pv 1)) (pg_name (i := 5) sc_rows_of.nd rfl (Or.inl rfl)) (pss_cons (ps_if (pt_cmpR op_gt (pe_op op_mul (pe_ix (ix_tupK K) (pv 5) pe_int (fun _ _ => rfl)) (pv 3)) (pv 2) (nomark _)) (pss_one ps_break) pss_nil)
      (pss_one (ps_expr (pe_call G_do_deed (hr.mono (by decide)) (by rfl) T.m_do_deed T.F_do_deed.kp T.bb_do_deed .nil passE0 (pa_cons (pv 4) (pa_cons (pv 5) pa_nil)))))))
      (pss_cons (ps_expr (pe_meth (pv 4) T.cl_Walk T.me_Walk_come_to G_Walk_come_to (hr.mono (by decide)) T.bb_Walk_come_to .nil passE0 (pa_cons (pv 2) (pa_cons (pv 3) pa_nil))))
      (pss_one (ps_ret (pe_tupS (pa_cons (pe_fldK K (pv 4)) (pa_cons (pe_meth (pv 4) T.cl_Walk T.me_Walk_clock_top G_Walk_clock_top (hr.mono (by decide)) T.bb_Walk_clock_top .nil passE0 (pa_cons (pv 2) (pa_cons (pv 3) pa_nil))) (pa_cons (pv 3) pa_nil))))))))))), ?_⟩
    refine seq_cut (fun σ' H' => ∃ x, σ' = [some (.ref l), some (.ref L), some t, some b, some (.ref x), none] ∧ Same H H') (fun N hN => ?_) ?_
    · refine ⟨_, rfl, fun x dx nx ndx nex => ⟨x, dx, l, cs, us, rfl, upd_same, ?_⟩⟩
      have s0 : Same H (upd (upd H dx (.own x)) x (.ins A.C_Walk dx [])) := (Same.new ndx).upd nx
      refine ⟨s0 _ _ hl, by omega, hc.keep s0, hri, fun Lc Lt H' h1 h2 h3 h4 h5 h6 h7 => ⟨rfl, hN _ _ ⟨x, rfl, fun b o e => h7 b o (ne_of_none e nx) (s0 _ _ e)⟩⟩⟩
    rintro σ' H1 ⟨x, rfl, s1⟩
    refine seq_cut (fun _ _ => False) (fun N hN => ?_) (fun _ _ z => z.elim)
    exact ⟨_, rfl, L, ds, rfl, hL.keep s1, hdz, hsl, e _ s1⟩
theorem fnOr {P : Program} {w : World} {K : PySem.W.Frag} {mg : Str → Option Value} {base : Heap} {CX : CXT} {k : Nat} {f : Addr} {fd : FuncData} {ps : List Str} {sp sp' : Sp} (F : FnOk P w K mg base CX k f fd ps sp) (G : FnOk P w K mg base CX k f fd ps sp') :
    FnOk P w K mg base CX k f fd ps (fun vs H Q E => sp vs H Q E ∨ sp' vs H Q E) :=
  ⟨fun vs H Q E h => h.elim (F.len vs H Q E) (G.len vs H Q E), fun Ar outer s H args us vs Q E hr he hb hv hs => hs.elim (F.run Ar outer s H args us vs Q E hr he hb hv) (G.run Ar outer s H args us vs Q E hr he hb hv)⟩
theorem okU_rows_of {P : Program} {w : World} {K : PySem.W.Frag} {mg : Str → Option Value} {base : Heap} {A : Adr} (T : Txt K mg A) : FnOk P w K mg base (CXE P w) 8 A.f_rows_of A.d_rows_of ["cues", "deeds", "top", "bottom"] (fun vs H Q E => spRows A vs H Q E ∨ spNoR K A vs H Q E ∨ spLateR A vs H Q E) := fnOr (ok_rows_of T) (fnOr (okL_rows_of T) (okT_rows_of T))
theorem doF_plain {us : List Cu} (hp : Plain us) (h1 : ∀ u ∈ us, FoOk u.fo ∧ 1 ≤ u.n) {w : Wk} (hw : w.due = none) (d : Dd) : (doF us w d).1.due = none ∧ (doF us w d).2.length ≤ 1 ∧ ∀ x ∈ (doF us w d).2, 0 ≤ x.2.1 := by
  have gt : ∀ o : Option Cu, (∀ u, o = some u → u ∈ us) → (gotoF w d.tick o).1.due = none ∧ (gotoF w d.tick o).2.1.length ≤ 1 ∧ ∀ x ∈ (gotoF w d.tick o).2.1, 0 ≤ x.2.1 := fun o ho => by
    cases o with
    | none => exact ⟨hw, Nat.zero_le _, fun x hx => by simp [gotoF] at hx⟩
    | some u =>
      have hu := ho u rfl
      refine ⟨due_non hp hu _, Nat.le_refl _, fun x hx => ?_⟩
      have : x = (clk w d.tick 1, u.n, ("go" : Str)) := by simpa [gotoF] using hx
      subst this
      have := (h1 u hu).2
      show 0 ≤ u.n
      omega
  unfold doF
  cases d.wd with
  | go => exact gt _ fun u e => (next_mem e).1
  | goto n => exact gt _ fun u e => (has_mem e).1
  | back =>
    show (backF us w d.tick).1.due = none ∧ (backF us w d.tick).2.1.length ≤ 1 ∧ ∀ x ∈ (backF us w d.tick).2.1, 0 ≤ x.2.1
    unfold backF
    by_cases c : w.num = 0
    · rw [if_pos c]
      exact ⟨hw, Nat.zero_le _, fun x hx => by simp at hx⟩
    · rw [if_neg c]
      refine ⟨rfl, Nat.le_refl _, fun x hx => ?_⟩
      have : x = (clk w d.tick 1, prevN us w.num, ("back" : Str)) := by simpa using hx
      subst this
      exact prev_ge h1 _
  | stop => exact ⟨hw, Nat.zero_le _, fun x hx => by simp at hx⟩
  | on => exact ⟨hw, Nat.zero_le _, fun x hx => by simp at hx⟩
theorem runs_plain {us : List Cu} (hp : Plain us) (h1 : ∀ u ∈ us, FoOk u.fo ∧ 1 ≤ u.n) {w0 w : Wk} {ds : List Dd} {r : List Row} (h : Runs us w0 ds r w) (hd : w0.due = none) : w.due = none ∧ r.length ≤ ds.length ∧ ∀ x ∈ r, 0 ≤ x.2.1 := by
  induction h with
  | nil => exact ⟨hd, Nat.le_refl _, by simp⟩
  | @snoc ds r w1 d r1 n1 d1 hr hc ih =>
    obtain ⟨c1, c2, c3⟩ := ih
    rw [c1] at hc
    obtain ⟨rfl, rfl, rfl⟩ := comes_none hc
    obtain ⟨e1, e2, e3⟩ := doF_plain hp h1 (w := { w1 with num := w1.num, due := none }) rfl d
    refine ⟨e1, ?_, fun x hx => ?_⟩
    · rw [List.length_append, List.length_append, List.length_nil, List.length_append]
      simp only [List.length_singleton]
      omega
    · rcases List.mem_append.mp hx with hx | hx
      · exact c3 x hx
      · rw [List.nil_append] at hx
        exact e3 x hx
theorem put_len (kvs : List (Key × V)) (k : Key) (v : V) (i : Nat) (h : kvs.length ≤ i) : (putK kvs k v).length ≤ i + 1 := by
  unfold putK
  split
  · rw [List.length_map]; omega
  · rw [List.length_append]; simp; omega
theorem val_put (kvs : List (Key × V)) (k : Key) (v : V) : valV (putK kvs k v) k = some v := by rw [valV_put, if_pos rfl]
theorem val_put_or {kvs : List (Key × V)} {k j : Key} {v u : V} (e : valV (putK kvs k v) j = some u) : u = v ∨ valV kvs j = some u := by
  rw [valV_put] at e
  split at e
  · exact .inl (Option.some.inj e).symm
  · exact .inr e
theorem small60 {n : Nat} (h : n < 1000) : n < sizeLine := Nat.lt_of_lt_of_le h (by decide)
def LookOk (H : Hp) (kvs : List (Key × V)) : Prop := ∀ k v, valV kvs k = some v → ∃ d, v = .ref d ∧ H d = some (.dT [])
theorem LookOk.keep {H H' : Hp} {kvs : List (Key × V)} (h : LookOk H kvs) (s : ∀ b, H b = some (.dT []) → H' b = some (.dT [])) : LookOk H' kvs := fun k v e => by
  obtain ⟨d, h1, h2⟩ := h k v e
  exact ⟨d, h1, s _ h2⟩
theorem StepOk.keep {A : Adr} {H H' : Hp} {s : Addr} (h : StepOk A H s) (sm : Same H H') : StepOk A H' s := by
  obtain ⟨dx, t, d, v, a, b⟩ := h
  exact ⟨dx, t, d, v, sm _ _ a, sm _ _ b⟩
def spStepsM (A : Adr) : Sp := fun vs H Q _ => ∃ (L : Addr) (cs : List Addr) (us : List Cu) (ts : List Rw), vs = [.ref L] ∧ H L = some (.lst (ts.map fun t => V.ref t.r)) ∧ ts.length ≤ 900 ∧ (∀ t ∈ ts, RowAt H cs t ∧ 0 ≤ t.n) ∧ cs ≠ [] ∧ cs.length ≤ 900 ∧ Cues0 A H cs us ∧ Rising us ∧
  ∀ (S : Addr) (sts : List Addr) (H' : Hp), H' S = some (.lst (sts.map V.ref)) → (∀ s ∈ sts, StepOk A H' s) → Same H H' → Q (.ref S) H'
theorem ok_steps_of {P : Program} {w : World} {K : PySem.W.Frag} {mg : Str → Option Value} {base : Heap} {A : Adr} (T : Txt K mg A) : FnOk P w K mg base (CXE P w) 6 A.f_steps_of A.d_steps_of ["rows"] (spStepsM A) := by
  have G_Step_init := ok_Step_init (P := P) (w := w) (base := base) T
  have G_shown := ok_shown (P := P) (w := w) (base := base) T
  refine T.F_steps_of.okN sc_steps_of (fun vs H Q E h => ?_) (fun cdv Ar outer s H vs Q E hr h => ?_)
  · obtain ⟨L, cs, us, ts, rfl, hL, hl1, hts, hne, hz, hc, hri, k⟩ := h
    rfl
  · obtain ⟨L, cs, us, ts, rfl, hL, hl1, hts, hne, hz, hc, hri, k⟩ := h
    refine ⟨_, (pss_cons (ps_set (i := 1) sc_steps_of.nd rfl (Or.inl rfl) (pe_lstS pa_nil))
      (pss_cons (ps_set (i := 2) sc_steps_of.nd rfl (Or.inl rfl) (pe_lstS pa_nil))
      (pss_cons (ps_set (i := 3) sc_steps_of.nd rfl (Or.inl rfl) pe_dnewK)
      (pss_cons (ps_for PassesOwn.never rfl (pi_listK K (pv 0)) (pg_name (i := 4) sc_steps_of.nd rfl (Or.inl rfl)) (pss_cons (ps_if (pt_cmpR (op_neAE K hr.units) (pe_ix (ix_tupK K) (pv 4) pe_int (fun _ _ => rfl)) (pv 2) (nomark _)) (pss_cons (ps_set (i := 2) sc_steps_of.nd rfl (Or.inl rfl) (pe_ix (ix_tupK K) (pv 4) pe_int (fun _ _ => rfl)))
      (pss_one (ps_set (i := 3) sc_steps_of.nd rfl (Or.inl rfl) pe_dnewK))) pss_nil)
      (pss_cons (ps_if (pt_cmp (pc_dnotin (hu1 hr) (pe_ix (ix_tupK K) (pv 4) pe_int (fun _ _ => rfl)) (pv 3))) (pss_one (ps_dput (hu1 hr) (pv 3) (pe_ix (ix_tupK K) (pv 4) pe_int (fun _ _ => rfl)) (pe_call G_shown (hr.mono (by decide)) (by rfl) T.m_shown T.F_shown.kp T.bb_shown .nil passE0 (pa_cons (pv 2) (pa_cons (pe_ix (ix_tupK K) (pv 4) pe_int (fun _ _ => rfl)) pa_nil))) rfl)) pss_nil)
      (pss_one (ps_expr (pe_bmK K PySem.F.plainAttrs_list PySem.F.slot_list_append PySem.F.type_list_append mt_append (pv 1) (pa_cons (pe_make T.M_Step G_Step_init (hr.mono (by decide)) (by rfl) T.c_Step T.bb_Step_init .nil passE0 (pa_cons (pv 4) (pa_cons (pe_dget (hu1 hr) (pv 3) (pe_ix (ix_tupK K) (pv 4) pe_int (fun _ _ => rfl)) (fun _ _ => rfl)) pa_nil))) pa_nil)))))))
      (pss_one (ps_ret (pv 1))))))), ?_⟩
    refine seq_cut3 (fun σ' H' => ∃ S Lu D, σ' = [some (.ref L), some (.ref S), some (.ref Lu), some (.ref D), none] ∧ Same H H' ∧ H S = none ∧ H' S = some (.lst []) ∧ H' Lu = some (.lst []) ∧ H D = none ∧ H' D = some (.dK [])) (fun N hN => ?_) ?_
    · refine ⟨by decide, fun S hS => ⟨by decide, fun Lu hLu => fun D hD => ?_⟩⟩
      have s1 := Same.new (o := HO.lst []) hS
      have s2 := Same.new (o := HO.lst []) hLu
      have s3 := Same.new (o := HO.dK []) hD
      exact hN _ _ ⟨S, Lu, D, rfl, s1.trans (s2.trans s3), hS, s3 _ _ (s2 _ _ upd_same), s3 _ _ upd_same, (s1.trans s2).free hD, upd_same⟩
    rintro σ' H1 ⟨S, Lu, D, rfl, s1, nS, hS, hLu, nD, hD⟩
    refine seq_cut (fun σ' H' => ∃ (sts : List Addr) (v1 v2 v3 : Option V), σ' = [some (.ref L), some (.ref S), v1, v2, v3] ∧ H' S = some (.lst (sts.map V.ref)) ∧ (∀ s ∈ sts, StepOk A H' s) ∧ Same H H') (fun N hN => ?_) ?_
    · refine ⟨_, rfl, L, rfl, ⟨_, SqL.of (s1 _ _ hL)⟩, for_list (xs := ts.map fun t => V.ref t.r) (fun i σ' H' => ∃ (sts : List Addr) (M D : Addr) (kvs : List (Key × V)) (v3 : Option V), σ' = [some (.ref L), some (.ref S), some (.ref M), some (.ref D), v3] ∧ H' S = some (.lst (sts.map V.ref)) ∧ sts.length = i ∧ (∀ s ∈ sts, StepOk A H' s) ∧ Same H H' ∧ H D = none ∧ H' D = some (.dK kvs) ∧ kvs.length ≤ i ∧ LookOk H' kvs ∧ ((i = 0 ∧ H' M = some (.lst [])) ∨ H M = some (.lst (cs.map V.ref)))) ⟨[], Lu, D, [], _, rfl, hS, rfl, by simp, s1, nD, hD, Nat.le_refl _, fun k v e => by simp [valV] at e, .inl ⟨rfl, hLu⟩⟩ ?_ ?_ ?_⟩
      · rintro i σ' H' _ ⟨_, _, _, _, _, _, _, _, _, sm, _⟩
        exact SqL.of (sm _ _ hL)
      · rintro i v σ' H2 hv ⟨sts, M0, D0, kvs0, v3, rfl, hS2, hsl, hok, sm, nD0, hD0, hk0, hlk0, hM0⟩
        have hit : i < ts.length := by
          have := (List.getElem?_eq_some_iff.mp hv).1
          rwa [List.length_map] at this
        rw [List.getElem?_map] at hv
        cases hti : ts[i]? with
        | none => rw [hti] at hv; cases hv
        | some t =>
          rw [hti] at hv
          obtain rfl : V.ref t.r = v := by simpa using hv
          obtain ⟨hR, hn⟩ := hts t (List.mem_of_getElem? hti)
          refine seq_cut (fun σ' H' => ∃ (M D2 : Addr) (kvs : List (Key × V)), σ' = [some (.ref L), some (.ref S), some (.ref M), some (.ref D2), some (.ref t.r)] ∧ H M = some (.lst (cs.map V.ref)) ∧ H D2 = none ∧ H' D2 = some (.dK kvs) ∧ kvs.length ≤ i ∧ LookOk H' kvs ∧ Same H H' ∧ Same H2 H') (fun N2 hN2 => ?_) ?_
          · refine ⟨_, rfl, t.r, _, _, _, rfl, rfl, SqT.of (sm _ _ hR.1), atI_1 _ _ _, _, rfl, ?_⟩
            rcases hM0 with ⟨rfl, hM0⟩ | hM0
            · refine .inr ⟨t.l, M0, _, rfl, rfl, SqL.of (sm _ _ hR.2), SqL.of hM0, _, rfl, ?_⟩
              cases hcs : cs with
              | nil => exact absurd hcs hne
              | cons c r =>
                refine iteT ?_
                refine ⟨_, rfl, t.r, _, _, _, rfl, rfl, SqT.of (sm _ _ hR.1), atI_1 _ _ _, fun D2 hD2 => ?_⟩
                have s2 := Same.new (o := HO.dK []) hD2
                exact hN2 _ _ ⟨t.l, D2, [], rfl, hR.2, sm.free hD2, upd_same, Nat.zero_le _, fun k v e => by simp [valV] at e, sm.trans s2, s2⟩
            · exact .inl ⟨0, t.l, M0, _, _, by decide, rfl, rfl, SqL.of (sm _ _ hR.2), SqL.of (sm _ _ hM0), Als.refs cs, _, rfl, iteF (hN2 _ _ ⟨M0, D0, kvs0, rfl, hM0, nD0, hD0, hk0, hlk0, sm, Same.refl _⟩)⟩
          rintro σ' H3 ⟨M, D2, kvs, rfl, hM, nD2, hD2, hkl, hlk, s3, s23⟩
          have hS3 := s23 _ _ hS2
          have hok3 : ∀ s ∈ sts, StepOk A H3 s := fun s hs => (hok s hs).keep s23
          refine seq_cut (fun σ' H' => ∃ (kvs2 : List (Key × V)) (d : Addr), σ' = [some (.ref L), some (.ref S), some (.ref M), some (.ref D2), some (.ref t.r)] ∧ H' D2 = some (.dK kvs2) ∧ kvs2.length ≤ i + 1 ∧ LookOk H' kvs2 ∧ valV kvs2 (Sum.inl t.n) = some (.ref d) ∧ H' d = some (.dT []) ∧ Same H H' ∧ H' S = some (.lst (sts.map V.ref)) ∧ ∀ s ∈ sts, StepOk A H' s) (fun N2 hN2 => ?_) ?_
          · refine ⟨_, rfl, t.r, _, _, _, rfl, rfl, SqT.of (s3 _ _ hR.1), atI_2 _ _ _ _, _, rfl, D2, _, rfl, DGet.k (k := Sum.inl t.n) hD2, _, rfl, ?_⟩
            cases hval : valV kvs (Sum.inl t.n) with
            | some v =>
              obtain ⟨d, rfl, hd⟩ := hlk _ _ hval
              exact iteF (hN2 _ _ ⟨kvs, d, rfl, hD2, by omega, hlk, hval, hd, s3, hS3, hok3⟩)
            | none =>
              refine iteT ?_
              refine ⟨_, rfl, _, rfl, t.r, _, _, _, rfl, rfl, SqT.of (s3 _ _ hR.1), atI_2 _ _ _ _, M, t.n, cs, us, rfl, hn, s3 _ _ hM, hz, hc.keep s3, hri, fun d H4 nd hd s4 => ?_⟩
              have s34 := s3.trans s4
              refine ⟨_, rfl, _, rfl, t.r, _, _, _, rfl, rfl, SqT.of (s34 _ _ hR.1), atI_2 _ _ _ _, D2, _, rfl, DPut.k (k := Sum.inl t.n) (s4 _ _ hD2) (small60 (by omega)), ?_⟩
              have kp : ∀ {b o}, H4 b = some o → o ≠ .dK kvs → (upd H4 D2 (.dK (putK kvs (Sum.inl t.n) (.ref d)))) b = some o := fun {b o} e ne => by rw [upd_ne (ne_of e (s4 _ _ hD2) ne)]; exact e
              refine hN2 _ _ ⟨_, d, rfl, upd_same, (put_len kvs _ _ i hkl), fun k v e => ?_, val_put kvs _ _, kp hd (by intro z; cases z), s34.upd nD2, kp (s4 _ _ hS3) (by intro z; cases z), fun s hs => ?_⟩
              · rcases val_put_or e with z | z
                · exact ⟨d, z, kp hd (by intro z; cases z)⟩
                · obtain ⟨d', h1, h2⟩ := hlk k v z
                  exact ⟨d', h1, kp (s4 _ _ h2) (by intro z; cases z)⟩
              · obtain ⟨dx, t', d', v, h1, h2⟩ := (hok3 s hs).keep s4
                exact ⟨dx, t', d', v, kp h1 (by intro z; cases z), kp h2 (by intro z; cases z)⟩
          rintro σ' H4 ⟨kvs2, d, rfl, hD4, hkl4, hlk4, hv4, hd4, s4, hS4, hok4⟩
          refine ⟨_, rfl, .inl ⟨rfl, _, SqL.of hS4⟩, _, rfl, _, rfl, _, rfl, t.r, _, _, _, rfl, rfl, SqT.of (s4 _ _ hR.1), atI_2 _ _ _ _, D2, .ref d, rfl, ?_, ?_⟩
          · have := DGet.k (k := Sum.inl t.n) hD4
            rw [hv4] at this
            exact this
          intro x dx nx ndx nex
          have s5 : Same H4 (upd (upd H4 dx (.own x)) x (.ins A.C_Step dx [])) := (Same.new ndx).upd nx
          refine ⟨H, x, dx, d, t, cs, us, rfl, upd_same, s4.trans s5, s4.free nx, hR, hn, hz, hc, hri, fun v H6 h6 kp => ⟨rfl, ?_⟩⟩
          have s6 : Same H4 H6 := fun b o e => kp b o (ne_of_none e nx) (s5 _ _ e)
          have nSx : x ≠ S := ne_of h6 (s6 _ _ hS4) (by intro z; cases z)
          have kq : ∀ {b o}, H6 b = some o → o ≠ .lst (sts.map V.ref) → (upd H6 S (.lst (sts.map V.ref ++ [V.ref x]))) b = some o := fun {b o} e ne => by rw [upd_ne (ne_of e (s6 _ _ hS4) ne)]; exact e
          refine ⟨S, _, V.ref x, rfl, rfl, s6 _ _ hS4, small60 (by rw [List.length_map]; omega), ⟨sts ++ [x], M, D2, kvs2, _, rfl, by rw [upd_same, List.map_append]; rfl, by rw [List.length_append, hsl]; rfl, fun s hs => ?_, (s4.trans s6).upd nS, nD2, kq (s6 _ _ hD4) (by intro z; cases z), hkl4, hlk4.keep fun b e => kq (s6 _ _ e) (by intro z; cases z), .inr hM⟩⟩
          · rcases List.mem_append.mp hs with hs | hs
            · obtain ⟨dx', t', d', v', h1, h2⟩ := (hok4 s hs).keep s6
              exact ⟨dx', t', d', v', kq h1 (by intro z; cases z), kq h2 (by intro z; cases z)⟩
            · obtain rfl : s = x := by simpa using hs
              exact ⟨dx, t, d, v, kq h6 (by intro z; cases z), kq (s6 _ _ hd4) (by intro z; cases z)⟩
      · rintro σ' H2 ⟨sts, _, _, _, v3, rfl, hS2, _, hok, sm, _⟩
        exact hN _ _ ⟨sts, _, _, v3, rfl, hS2, hok, sm⟩
    rintro σ' H2 ⟨sts, v1, v2, v3, rfl, hS2, hok, s2⟩
    exact ⟨_, rfl, k S sts H2 hS2 hok s2⟩
def spTellM (A : Adr) : Sp := fun vs H Q _ => ∃ (d L : Addr) (cs : List Addr) (us : List Cu) (ts : List Rw), vs = [.ref d, .ref L] ∧ H d = some (.dT []) ∧ H L = some (.lst (ts.map fun t => V.ref t.r)) ∧ ts.length ≤ 900 ∧ (∀ t ∈ ts, RowAt H cs t ∧ 0 ≤ t.n) ∧ cs ≠ [] ∧ cs.length ≤ 900 ∧ Cues0 A H cs us ∧ Rising us ∧
  ∀ H', Same H H' → Q .non H'
theorem ok_tell_rows {P : Program} {w : World} {K : PySem.W.Frag} {mg : Str → Option Value} {base : Heap} {A : Adr} (T : Txt K mg A) : FnOk P w K mg base (CXE P w) 7 A.f_tell_rows A.d_tell_rows ["courses", "rows"] (spTellM A) := by
  have G_steps_of := ok_steps_of (P := P) (w := w) (base := base) T
  refine T.F_tell_rows.okN sc_tell_rows (fun vs H Q E h => ?_) (fun cdv Ar outer s H vs Q E hr h => ?_)
  · obtain ⟨d, L, cs, us, ts, rfl, hd, hL, hl1, hts, hne, hz, hc, hri, k⟩ := h
    rfl
  · obtain ⟨d, L, cs, us, ts, rfl, hd, hL, hl1, hts, hne, hz, hc, hri, k⟩ := h
    refine ⟨_, (pss_one (ps_for PassesOwn.never rfl (pi_listK K (pe_call G_steps_of (hr.mono (by decide)) (by rfl) T.m_steps_of T.F_steps_of.kp T.bb_steps_of .nil passE0 (pa_cons (pv 1) pa_nil))) (pg_name (i := 2) sc_tell_rows.nd rfl (Or.inl rfl)) (pss_cons (ps_hold (ps_for PassesOwn.never rfl (pi_key (pe_fldK K (pv 2))) (pg_name (i := 3) sc_tell_rows.nd rfl (Or.inl rfl)) pss_never))
      (pss_one (ps_hold (ps_for PassesOwn.never rfl (pi_items (pe_items (pv 0))) (pg_tupK (n := 2) K rfl (pgs_cons (pg_name (i := 3) sc_tell_rows.nd rfl (Or.inl rfl)) (pgs_cons (pg_name (i := 4) sc_tell_rows.nd rfl (Or.inl rfl)) pgs_nil))) pss_never)))))), ?_⟩
    refine ⟨_, rfl, L, cs, us, ts, rfl, hL, hl1, hts, hne, hz, hc, hri, fun S sts H1 hS hok s1 => ?_⟩
    refine ⟨S, rfl, ⟨_, SqL.of hS⟩, for_list (xs := sts.map V.ref) (fun i σ' H' => ∃ v1, σ' = [some (.ref d), some (.ref L), v1, none, none] ∧ Same H1 H') ⟨_, rfl, Same.refl _⟩ ?_ ?_ ?_⟩
    · rintro i σ' H' _ ⟨_, _, sm⟩
      exact SqL.of (sm _ _ hS)
    · rintro i v σ' H2 hv ⟨v1, rfl, sm⟩
      rw [List.getElem?_map] at hv
      cases hsi : sts[i]? with
      | none => rw [hsi] at hv; cases hv
      | some s =>
        rw [hsi] at hv
        obtain rfl : V.ref s = v := by simpa using hv
        obtain ⟨dx, t, e, v, hs, he⟩ := (hok s (List.mem_of_getElem? hsi)).keep sm
        refine seq_cut (fun σ' H' => σ' = [some (.ref d), some (.ref L), some (.ref s), none, none] ∧ Same H2 H') (fun N hN => ?_) ?_
        · refine ⟨e, [], he, fun o xs es ep D kt => ?_⟩
          have hk := keys_vals D
          rw [kt0 kt] at hk
          refine ⟨_, rfl, s, A.C_Step, dx, _, _, rfl, by rw [upd_ne (ne_of hs he (by intro z; cases z))]; exact hs, T.cl_Step, T.na_Step_look, rfl, e, o, [], es, ep, rfl, upd_same, D.sys, D.ex, D.data, hk, for_no ⟨upd_same, Nat.le_refl _⟩ ?_⟩
          exact ⟨upd_same, ts_hold he (Same.refl _), hN _ _ ⟨rfl, sm_hold he (Same.refl _)⟩⟩
        rintro σ' H3 ⟨rfl, s3⟩
        have hd3 := s3 _ _ (sm _ _ (s1 _ _ hd))
        refine ⟨d, [], hd3, fun o xs es ep D kt => ?_⟩
        have hk := keys_vals D
        rw [kt0 kt] at hk
        have hv := vals_vals D kt
        refine ⟨_, rfl, d, o, es, ep, rfl, upd_same, D.sys, D.ex, D.data, fun p hp => ?_⟩
        have pd : d ≠ p := by rintro rfl; rw [upd_same] at hp; cases hp
        refine ⟨p, d, o, [], [], es, ep, rfl, upd_same, by rw [upd_ne pd, upd_same], D.ex, D.data, hk, hv, for_no ⟨by rw [upd_ne pd, upd_same], Nat.le_refl _⟩ ?_⟩
        exact ⟨by rw [upd_ne pd, upd_same], ts_hold hd3 (Same.new hp), ⟨_, rfl, sm.trans (s3.trans (sm_hold hd3 (Same.new hp)))⟩⟩
    · rintro σ' H2 ⟨v1, rfl, sm⟩
      exact k _ (s1.trans sm)
def spLookAt : Sp := fun vs H Q _ => ∃ (d : Addr) (t b : V), vs = [.ref d, t, b] ∧ H d = some (.dT []) ∧ ∀ v H', Same H H' → Q v H'
theorem ok_look_at {P : Program} {w : World} {K : PySem.W.Frag} {mg : Str → Option Value} {base : Heap} {A : Adr} (T : Txt K mg A) : FnOk P w K mg base (CXE P w) 1 A.f_look_at A.d_look_at ["courses", "top", "bottom"] (spLookAt) := by
  refine T.F_look_at.okN sc_look_at (fun vs H Q E h => ?_) (fun cdv Ar outer s H vs Q E hr h => ?_)
  · obtain ⟨d, t, b, rfl, hd, k⟩ := h
    rfl
  · obtain ⟨d, t, b, rfl, hd, k⟩ := h
    refine ⟨_, (pss_cons (ps_set (i := 3) sc_look_at.nd rfl (Or.inl rfl) pe_dnewT)
      (pss_cons (ps_hold (ps_for PassesOwn.never rfl (pi_items (pe_items (pv 0))) (pg_tupK (n := 2) K rfl (pgs_cons (pg_name (i := 4) sc_look_at.nd rfl (Or.inl rfl)) (pgs_cons (pg_name (i := 5) sc_look_at.nd rfl (Or.inl rfl)) pgs_nil))) pss_never))
      (pss_one (ps_ret (pv 3))))), ?_⟩
    refine seq_cut (fun σ' H' => ∃ L, σ' = [some (.ref d), some t, some b, some (.ref L), none, none, none] ∧ Same H H') (fun N hN => ?_) ?_
    · exact fun L hL => hN _ _ ⟨L, rfl, Same.new hL⟩
    rintro σ' H1 ⟨L, rfl, s1⟩
    have hd1 := s1 _ _ hd
    refine seq_cut (fun σ' H' => ∃ v1 v2 v3, σ' = [some (.ref d), some t, some b, some (.ref L), v1, v2, v3] ∧ Same H1 H') (fun N hN => ?_) ?_
    · refine ⟨d, [], hd1, fun o xs es ep D kt => ?_⟩
      have hk := keys_vals D
      rw [kt0 kt] at hk
      have hv := vals_vals D kt
      refine ⟨_, rfl, d, o, es, ep, rfl, upd_same, D.sys, D.ex, D.data, fun p hp => ?_⟩
      have pd : d ≠ p := by rintro rfl; rw [upd_same] at hp; cases hp
      refine ⟨p, d, o, [], [], es, ep, rfl, upd_same, by rw [upd_ne pd, upd_same], D.ex, D.data, hk, hv, for_no ⟨by rw [upd_ne pd, upd_same], Nat.le_refl _⟩ ?_⟩
      exact ⟨by rw [upd_ne pd, upd_same], ts_hold hd1 (Same.new hp), hN _ _ ⟨_, _, _, rfl, sm_hold hd1 (Same.new hp)⟩⟩
    rintro σ' H2 ⟨v1, v2, v3, rfl, s2⟩
    exact ⟨_, rfl, k _ _ (s1.trans s2)⟩
def spTold (A : Adr) : Sp := fun vs H Q _ => ∃ (l L : Addr) (top b : Int) (cs : List Addr) (us : List Cu) (ds : List Dd), vs = [.ref l, .ref L, .int top, .int b] ∧ H l = some (.lst (cs.map V.ref)) ∧ Cues0 A H cs us ∧ Rising us ∧ cs ≠ [] ∧ cs.length ≤ 100 ∧ (∀ u ∈ us, FoOk u.fo ∧ 1 ≤ u.n) ∧ Plain us ∧ DeedsAt H L ds ∧ ds.length ≤ 100 ∧ Slow ds ∧ Sm64 b ∧ ∀ v H', Same H H' → Q v H'
theorem ok_told {P : Program} {w : World} {K : PySem.W.Frag} {mg : Str → Option Value} {base : Heap} {A : Adr} (T : Txt K mg A) : FnOk P w K mg base (CXE P w) 9 A.f_told A.d_told ["cues", "deeds", "top", "bottom"] (spTold A) := by
  have G_look_at := ok_look_at (P := P) (w := w) (base := base) T
  have G_rows_of := ok_rows_of (P := P) (w := w) (base := base) T
  have G_tell_rows := ok_tell_rows (P := P) (w := w) (base := base) T
  refine T.F_told.okE sc_told (fun vs H Q E h => ?_) (fun cdv Ar outer s H vs Q E hr h => ?_)
  · obtain ⟨l, L, top, b, cs, us, ds, rfl, hl, hc, hri, hne, hz, hfo, hpl, hL, hdz, hsl, hb, k⟩ := h
    rfl
  · obtain ⟨l, L, top, b, cs, us, ds, rfl, hl, hc, hri, hne, hz, hfo, hpl, hL, hdz, hsl, hb, k⟩ := h
    refine ⟨_, (pss_cons (ps_set (i := 4) sc_told.nd rfl (Or.inl rfl) (pe_call G_rows_of (hr.mono (by decide)) (by rfl) T.m_rows_of T.F_rows_of.kp T.bb_rows_of .nil passE (pa_cons (pv 0) (pa_cons (pv 1) (pa_cons (pv 2) (pa_cons (pv 3) pa_nil))))))
      (pss_cons (ps_set (i := 5) sc_told.nd rfl (Or.inl rfl) pe_dnewT)
      (pss_cons (ps_expr (pe_call G_tell_rows (hr.mono (by decide)) (by rfl) T.m_tell_rows T.F_tell_rows.kp T.bb_tell_rows .nil passE0 (pa_cons (pv 5) (pa_cons (pe_ix (ix_tupK K) (pv 4) pe_int (fun _ _ => rfl)) pa_nil))))
      (pss_one (ps_ret (pe_call G_look_at (hr.mono (by decide)) (by rfl) T.m_look_at T.F_look_at.kp T.bb_look_at .nil passE0 (pa_cons (pv 5) (pa_cons (pe_ix (ix_tupK K) (pv 4) pe_int (fun _ _ => rfl)) (pa_cons (pe_ix (ix_tupK K) (pv 4) pe_int (fun _ _ => rfl)) pa_nil))))))))), ?_⟩
    refine seq_cut (fun σ' H' => ∃ (p Lt : Addr) (u v : V) (ts : List Rw), σ' = [some (.ref l), some (.ref L), some (.int top), some (.int b), some (.ref p), none] ∧ Same H H' ∧ H' p = some (.tup [.ref Lt, u, v]) ∧ H' Lt = some (.lst (ts.map fun t => V.ref t.r)) ∧ ts.length ≤ 900 ∧ (∀ t ∈ ts, RowAt H' cs t ∧ 0 ≤ t.n)) (fun N hN => ?_) ?_
    · refine ⟨_, rfl, _, rfl, _, rfl, _, rfl, l, L, top, b, cs, us, ds, rfl, hl, hc, hri, hz, hfo, hL, hdz, hsl, hb, fun p H' x Lc Lt j w r rl n' d' ts hj h1 h2 hR hC hW hts hp hpn => ?_⟩
      obtain ⟨c1, c2, c3⟩ := runs_plain hpl hfo hR rfl
      rw [c1] at hC
      obtain ⟨rfl, rfl, rfl⟩ := comes_none hC
      rw [List.append_nil] at hts
      have hlen : ts.length = 1 + r.length := by
        have := congrArg List.length hts
        rw [List.length_map, List.length_cons] at this
        omega
      have htk : (ds.take j).length ≤ 100 := by rw [List.length_take]; omega
      refine hN _ _ ⟨p, Lt, _, _, ts, rfl, hW.sm, hp, hW.tr, by omega, fun t ht => ⟨(hW.rs t ht).1, ?_⟩⟩
      have hm : t.d ∈ (0, 0, ("list" : Str)) :: r := by rw [← hts]; exact List.mem_map.mpr ⟨t, ht, rfl⟩
      rcases List.mem_cons.mp hm with e | e
      · have : t.n = 0 := congrArg (fun z : Row => z.2.1) e
        omega
      · exact c3 _ e
    rintro σ' H1 ⟨p, Lt, u, v, ts, rfl, s1, hp, hLt, hl9, hts⟩
    intro d hd
    have s2 : Same H1 (upd H1 d (.dT [])) := Same.new hd
    have d2 : (upd H1 d (.dT [])) d = some (.dT []) := upd_same
    generalize upd H1 d (.dT []) = H2 at s2 d2 ⊢
    refine ⟨_, rfl, _, rfl, p, _, _, _, rfl, rfl, SqT.of (s2 _ _ hp), atI_0 _ _, d, Lt, cs, us, ts, rfl, d2, s2 _ _ hLt, hl9, fun t ht => ⟨⟨s2 _ _ (hts t ht).1.1, s2 _ _ (hts t ht).1.2⟩, (hts t ht).2⟩, hne, by omega, hc.keep (s1.trans s2), hri, fun H3 s3 => ?_⟩
    refine ⟨_, rfl, _, rfl, p, _, _, _, rfl, rfl, SqT.of (s3 _ _ (s2 _ _ hp)), atI_1 _ _ _, _, rfl, p, _, _, _, rfl, rfl, SqT.of (s3 _ _ (s2 _ _ hp)), atI_2 _ _ _ _, d, _, _, rfl, s3 _ _ d2, fun v H4 s4 => k v H4 (((s1.trans s2).trans s3).trans s4)⟩
def spNoT (K : PySem.W.Frag) (A : Adr) : Sp := fun vs H Q E => spNoR K A vs H Q E ∨ spLateR A vs H Q E
theorem okB_told {P : Program} {w : World} {K : PySem.W.Frag} {mg : Str → Option Value} {base : Heap} {A : Adr} (T : Txt K mg A) : FnOk P w K mg base (CXE P w) 9 A.f_told A.d_told ["cues", "deeds", "top", "bottom"] ((fun vs H Q E => (∃ x y t b, vs = [x, y, t, b]) ∧ spNoT K A vs H Q E)) := by
  have G_look_at := ok_look_at (P := P) (w := w) (base := base) T
  have G_rows_of := okU_rows_of (P := P) (w := w) (base := base) T
  have G_tell_rows := ok_tell_rows (P := P) (w := w) (base := base) T
  refine T.F_told.okE sc_told (fun vs H Q E h => ?_) (fun cdv Ar outer s H vs Q E hr h => ?_)
  · obtain ⟨⟨x, y, t, b, rfl⟩, h⟩ := h
    rfl
  · obtain ⟨⟨x, y, t, b, rfl⟩, h⟩ := h
    refine ⟨_, (pss_cons (ps_set (i := 4) sc_told.nd rfl (Or.inl rfl) (pe_call G_rows_of (hr.mono (by decide)) (by rfl) T.m_rows_of T.F_rows_of.kp T.bb_rows_of .nil passE (pa_cons (pv 0) (pa_cons (pv 1) (pa_cons (pv 2) (pa_cons (pv 3) pa_nil))))))
      (pss_cons (ps_set (i := 5) sc_told.nd rfl (Or.inl rfl) pe_dnewT)
      (pss_cons (ps_expr (pe_call G_tell_rows (hr.mono (by decide)) (by rfl) T.m_tell_rows T.F_tell_rows.kp T.bb_tell_rows .nil passE0 (pa_cons (pv 5) (pa_cons (pe_ix (ix_tupK K) (pv 4) pe_int (fun _ _ => rfl)) pa_nil))))
      (pss_one (ps_ret (pe_call G_look_at (hr.mono (by decide)) (by rfl) T.m_look_at T.F_look_at.kp T.bb_look_at .nil passE0 (pa_cons (pv 5) (pa_cons (pe_ix (ix_tupK K) (pv 4) pe_int (fun _ _ => rfl)) (pa_cons (pe_ix (ix_tupK K) (pv 4) pe_int (fun _ _ => rfl)) pa_nil))))))))), ?_⟩
    refine seq_cut (fun _ _ => False) (fun N hN => ?_) (fun _ _ z => z.elim)
    refine ⟨_, rfl, _, rfl, _, rfl, _, rfl, .inr ?_⟩
    rcases h with ⟨x', y', t', b', e0, hx, e⟩ | ⟨l, L, t', b', cs, us, ds, e0, hl, hc, hri, hz, hL, hdz, hsl, e⟩
    · exact .inl ⟨x', y', t', b', e0, hx, e⟩
    · exact .inr ⟨l, L, t', b', cs, us, ds, e0, hl, hc, hri, hz, hL, hdz, hsl, e⟩
def spNums4 : Sp := fun vs H Q _ => ∃ m : Int, vs = [.int m] ∧ ∀ (D : Addr) (ms : List Int) (H' : Hp), H D = none → Same H H' → H' D = some (.lst (ms.map V.int)) → ms.Pairwise (· < ·) → (∀ x ∈ ms, 1 ≤ x ∧ x ≤ 1000000000) → ms.length ≤ 9 → ms ≠ [] → Q (.ref D) H'
theorem ok_law_numbers {P : Program} {w : World} {K : PySem.W.Frag} {mg : Str → Option Value} {base : Heap} {A : Adr} (T : Txt K mg A) : FnOk P w K mg base (CXE P w) 1 A.f_law_numbers A.d_law_numbers ["_law_mixed_here"] (spNums4) := by
  refine T.F_law_numbers.okN sc_law_numbers (fun vs H Q E h => ?_) (fun cdv Ar outer s H vs Q E hr h => ?_)
  · obtain ⟨m, rfl, k⟩ := h
    rfl
  · obtain ⟨m, rfl, k⟩ := h
    refine ⟨_, (pss_cons (ps_set (i := 1) sc_law_numbers.nd rfl (Or.inl rfl) (pe_lstS pa_nil))
      (pss_cons (ps_set (i := 2) sc_law_numbers.nd rfl (Or.inl rfl) pe_int)
      (pss_cons (ps_for PassesOwn.never rfl (pi_range1 (by rfl) T.b_range (pa_cons (pe_op op_add pe_int (pe_op op_mod (pv 0) pe_int)) pa_nil)) (pg_name (i := 3) sc_law_numbers.nd rfl (Or.inl rfl)) (pss_cons (ps_set (i := 2) sc_law_numbers.nd rfl (Or.inl rfl) (pe_op op_add (pe_op op_add (pv 2) pe_int) (pe_op op_mod (pe_op op_fdivL (pv 0) (pe_op op_add (pv 3) pe_int)) pe_int)))
      (pss_one (ps_expr (pe_bmK K PySem.F.plainAttrs_list PySem.F.slot_list_append PySem.F.type_list_append mt_append (pv 1) (pa_cons (pv 2) pa_nil))))))
      (pss_one (ps_ret (pv 1)))))), ?_⟩
    refine ⟨by decide, fun D hD => ?_⟩
    have s0 : Same H (upd H D (.lst [])) := Same.new hD
    have m0 := Int.emod_nonneg m (show (9 : Int) ≠ 0 by decide)
    have m9 := Int.emod_lt_of_pos m (show (0 : Int) < 9 by decide)
    refine ⟨_, rfl, _, _, rfl, rfl, (by show (0 : Int) < 9; decide), _, _, rfl, rfl, _, rfl, by omega, by omega, ?_⟩
    refine for_range (n := (1 + m % 9).toNat) (fun i σ' H' => ∃ (last : Int) (v : Option V) (ms : List Int), σ' = [some (.int m), some (.ref D), some (.int last), v] ∧ Same H H' ∧ H' D = some (.lst (ms.map V.int)) ∧ ms.length = i ∧ ms.Pairwise (· < ·) ∧ (∀ x ∈ ms, 1 ≤ x ∧ x ≤ last) ∧ 0 ≤ last ∧ last ≤ i * 3) ?_ ?_ ?_
    · exact ⟨0, none, [], rfl, s0, upd_same, rfl, .nil, by simp, by decide, by simp⟩
    · rintro i σ' H' hi ⟨last, v, ms, rfl, sm, hD', hml, hpw, hms, hl0, hl1⟩
      have hi9 : i < 9 := by omega
      have e0 := Int.emod_nonneg (m / (0 + (i : Int) + 9)) (show (3 : Int) ≠ 0 by decide)
      have e3 := Int.emod_lt_of_pos (m / (0 + (i : Int) + 9)) (show (0 : Int) < 3 by decide)
      have p9 : (0 : Int) < 0 + (i : Int) + 9 := by omega
      have q9 : (0 : Int) + (i : Int) + 9 < 2 ^ 250 := Int.lt_of_lt_of_le (show (0 : Int) + (i : Int) + 9 < 100 by omega) (by decide)
      refine ⟨_, rfl, _, _, rfl, rfl, _, rfl, _, rfl, _, _, rfl, rfl, _, _, rfl, rfl, ⟨p9, q9⟩, _, _, rfl, rfl, (by show (0 : Int) < 3; decide), _, _, rfl, rfl, ?_⟩
      refine ⟨_, rfl, .inl ⟨rfl, _, SqL.of hD'⟩, _, rfl, D, _, _, rfl, rfl, hD', small60 (by rw [List.length_map]; omega), ?_⟩
      refine ⟨last + 1 + m / (0 + (i : Int) + 9) % 3, _, ms ++ [last + 1 + m / (0 + (i : Int) + 9) % 3], rfl, sm.upd hD, by rw [upd_same, List.map_append]; rfl, by rw [List.length_append]; simp [hml], List.pairwise_append.mpr ⟨hpw, by simp, fun x hx y hy => ?_⟩, fun x hx => ?_, by omega, by omega⟩
      · rw [List.mem_singleton] at hy; have := (hms x hx).2; omega
      · rcases List.mem_append.mp hx with hx | hx
        · have := hms x hx; omega
        · rw [List.mem_singleton] at hx; omega
    · rintro σ' H' ⟨last, v, ms, rfl, sm, hD', hml, hpw, hms, hl0, hl1⟩
      refine ⟨_, rfl, k D ms H' hD sm hD' hpw (fun x hx => ?_) (by omega) fun e => ?_⟩
      · have := hms x hx; omega
      · subst e; simp at hml; omega
theorem deeds_put {H : Hp} {D q : Addr} {ds : List Dd} {d : Dd} (h : DeedsAt H D ds) (hq : DeedAt H q d) : ∃ as : List Addr, H D = some (.lst (as.map V.ref)) ∧ as.length = ds.length ∧ DeedsAt (upd H D (.lst (as.map V.ref ++ [V.ref q]))) D (ds ++ [d]) := by
  obtain ⟨as, h1, h2⟩ := h
  have kp : ∀ {b xs}, H b = some (.tup xs) → (upd H D (.lst (as.map V.ref ++ [V.ref q]))) b = some (.tup xs) := fun {b xs} e => by rw [upd_ne (ne_of e h1 (by intro z; cases z))]; exact e
  exact ⟨as, h1, Paired.length h2, as ++ [q], by rw [upd_same, List.map_append]; rfl, paired_app (Paired.mapP h2 fun a d e => kp e) (.cons (kp hq) .nil)⟩
def word5 : Nat → Str
  | 0 => "go"
  | 1 => "back"
  | 2 => "goto"
  | 3 => "stop"
  | _ => "on"
theorem menu5 {i : Int} (h0 : 0 ≤ i) (h1 : i < 5) : ∃ j : Nat, j < 5 ∧ atI [V.str "go", V.str "back", V.str "goto", V.str "stop", V.str "on"] i = some (.str (word5 j)) := by
  have : i = 0 ∨ i = 1 ∨ i = 2 ∨ i = 3 ∨ i = 4 := by omega
  rcases this with rfl | rfl | rfl | rfl | rfl
  · exact ⟨0, by decide, atI_nat (j := 0) rfl⟩
  · exact ⟨1, by decide, atI_nat (j := 1) rfl⟩
  · exact ⟨2, by decide, atI_nat (j := 2) rfl⟩
  · exact ⟨3, by decide, atI_nat (j := 3) rfl⟩
  · exact ⟨4, by decide, atI_nat (j := 4) rfl⟩
def spDeeds4 (K : PySem.W.Frag) : Sp := fun vs H Q _ => ∃ (a : Addr) (ns : List Int), vs = [.ref a] ∧ SqL K H a (ns.map V.int) ∧ ns.length ≤ 63 ∧
  ∀ (D : Addr) (ds : List Dd) (H' : Hp), H D = none → Same H H' → DeedsAt H' D ds → Slow ds → (∀ d ∈ ds, 0 ≤ d.tick) → 2 ≤ ds.length → ds.length ≤ 63 → Q (.ref D) H'
theorem ok_law_deeds {P : Program} {w : World} {K : PySem.W.Frag} {mg : Str → Option Value} {base : Heap} {A : Adr} (T : Txt K mg A) : FnOk P w K mg base (CXE P w) 2 A.f_law_deeds A.d_law_deeds ["_law_script"] (spDeeds4 K) := by
  have G_law_mixed := ok_law_mixed (P := P) (w := w) (base := base) T
  have G_law_time := ok_law_time (P := P) (w := w) (base := base) T
  refine T.F_law_deeds.okN sc_law_deeds (fun vs H Q E h => ?_) (fun cdv Ar outer s H vs Q E hr h => ?_)
  · obtain ⟨a, ns, rfl, hS, hlen, k⟩ := h
    rfl
  · obtain ⟨a, ns, rfl, hS, hlen, k⟩ := h
    refine ⟨_, (pss_cons (ps_set (i := 1) sc_law_deeds.nd rfl (Or.inl rfl) (pe_lstS pa_nil))
      (pss_cons (ps_set (i := 2) sc_law_deeds.nd rfl (Or.inl rfl) pe_int)
      (pss_cons (ps_for PassesOwn.never rfl (pi_range2 (by rfl) T.b_range (pa_cons pe_int (pa_cons (pe_callB (call_min2 rfl) (by rfl) T.b_min boot_min (pa_cons (pe_callB (call_lenK K) (by rfl) T.b_len PySem.boot_len (pa_cons (pv 0) pa_nil)) (pa_cons pe_int pa_nil))) pa_nil))) (pg_name (i := 3) sc_law_deeds.nd rfl (Or.inl rfl)) (pss_cons (ps_set (i := 4) sc_law_deeds.nd rfl (Or.inl rfl) (pe_call G_law_mixed (hr.mono (by decide)) (by rfl) T.m_law_mixed T.F_law_mixed.kp T.bb_law_mixed .nil passE0 (pa_cons (pe_ix (ix_listK K) (pv 0) (pv 3) (fun _ _ => rfl)) (pa_cons (pv 3) pa_nil))))
      (pss_cons (ps_set (i := 2) sc_law_deeds.nd rfl (Or.inl rfl) (pe_op op_add (pv 2) (pe_call G_law_time (hr.mono (by decide)) (by rfl) T.m_law_time T.F_law_time.kp T.bb_law_time .nil passE0 (pa_cons (pv 4) pa_nil))))
      (pss_cons (ps_set (i := 5) sc_law_deeds.nd rfl (Or.inl rfl) (pe_ix (ix_listK K) (pe_lstS (pa_cons pe_str (pa_cons pe_str (pa_cons pe_str (pa_cons pe_str (pa_cons pe_str pa_nil)))))) (pe_op op_mod (pe_ix (ix_listK K) (pv 0) (pv 3) (fun _ _ => rfl)) pe_int) (fun _ _ => rfl)))
      (pss_cons (ps_set (i := 6) sc_law_deeds.nd rfl (Or.inl rfl) (pe_tupS (pa_cons (pv 2) (pa_cons (pv 5) pa_nil))))
      (pss_cons (ps_if (pt_cmpR op_eq (pv 5) pe_str (nomark _)) (pss_one (ps_set (i := 6) sc_law_deeds.nd rfl (Or.inl rfl) (pe_tupS (pa_cons (pv 2) (pa_cons (pv 5) (pa_cons (pe_op op_mod (pv 4) pe_int) pa_nil)))))) pss_nil)
      (pss_one (ps_expr (pe_bmK K PySem.F.plainAttrs_list PySem.F.slot_list_append PySem.F.type_list_append mt_append (pv 1) (pa_cons (pv 6) pa_nil))))))))))
      (pss_cons (ps_if (pt_cmpR op_lt (pe_callB (call_lenK K) (by rfl) T.b_len PySem.boot_len (pa_cons (pv 1) pa_nil)) pe_int (nomark _)) (pss_one (ps_ret (pe_lstS (pa_cons (pe_tupS (pa_cons pe_int (pa_cons pe_str pa_nil))) (pa_cons (pe_tupS (pa_cons pe_int (pa_cons pe_str pa_nil))) (pa_cons (pe_tupS (pa_cons pe_int (pa_cons pe_str pa_nil))) pa_nil)))))) pss_nil)
      (pss_one (ps_ret (pv 1))))))), ?_⟩
    have ln : (ns.map V.int).length = ns.length := List.length_map _
    refine seq_cut3 (fun σ' H' => ∃ (D : Addr) (tick : Int) (v1 v2 v3 v4 : Option V) (ds : List Dd), σ' = [some (.ref a), some (.ref D), some (.int tick), v1, v2, v3, v4] ∧ H D = none ∧ Same H H' ∧ DeedsAt H' D ds ∧ ds.length ≤ 63 ∧ Slow ds ∧ (∀ d ∈ ds, 0 ≤ d.tick)) (fun N hN => ?_) ?_
    · refine ⟨by decide, fun D hD => ?_⟩
      have s0 : Same H (upd H D (.lst [])) := Same.new hD
      refine ⟨_, rfl, a, _, rfl, .inl (s0.seq hS), _, _, rfl, 3, _, rfl, ⟨by decide, by decide, by split <;> omega, by split <;> omega⟩, ?_⟩
      have em : (if (84 : Int) < ((ns.map V.int).length : Int) then (84 : Int) else ((ns.map V.int).length : Int)) = (ns.length : Int) := by rw [if_neg (by rw [ln]; omega), ln]
      rw [em]
      refine for_range (n := ((ns.length : Int) - 3).toNat) (fun i σ' H' => ∃ (tick : Int) (v1 v2 v3 v4 : Option V) (ds : List Dd), σ' = [some (.ref a), some (.ref D), some (.int tick), v1, v2, v3, v4] ∧ Same H H' ∧ DeedsAt H' D ds ∧ ds.length = i ∧ Slow ds ∧ (∀ d ∈ ds, 0 ≤ d.tick ∧ d.tick ≤ tick) ∧ 0 ≤ tick) ?_ ?_ ?_
      · exact ⟨0, none, none, none, none, [], rfl, s0, ⟨[], upd_same, .nil⟩, rfl, .nil, by simp, by decide⟩
      · rintro i σ' H' hi ⟨tick, v1, v2, v3, v4, ds, rfl, sm, hDs, hml, hsl, hds, ht0⟩
        have hi2 : 3 + i < ns.length := by omega
        have hcell : atI (ns.map V.int) (3 + (i : Int)) = some (V.int ns[3 + i]) := by
          rw [show (3 : Int) + (i : Int) = ((3 + i : Nat) : Int) by omega]; exact cell_at (K := K) hi2
        generalize ns[3 + i] = c at hcell
        refine seq_cut3 (fun σ' H2 => ∃ (t mx : Int) (j : Nat), j < 5 ∧ tick ≤ t ∧ σ' = [some (.ref a), some (.ref D), some (.int t), some (.int (3 + (i : Int))), some (.int mx), some (.str (word5 j)), v4] ∧ Same H' H2) (fun N2 hN2 => ?_) ?_
        · refine ⟨_, rfl, _, rfl, a, _, _, _, rfl, rfl, sm.seq hS, hcell, _, rfl, c, _, rfl, by omega, by omega, fun mx mx0 _ => ?_⟩
          refine ⟨_, rfl, _, rfl, mx, rfl, fun t t0 _ => ⟨_, _, rfl, rfl, ?_⟩⟩
          refine ⟨(by show 5 ≤ 1000; decide), fun Lw hLw => ?_⟩
          have s1 := Same.new (o := HO.lst [V.str "go", V.str "back", V.str "goto", V.str "stop", V.str "on"]) hLw
          obtain ⟨j, hj, hat⟩ := menu5 (Int.emod_nonneg c (show (5 : Int) ≠ 0 by decide)) (Int.emod_lt_of_pos c (show (0 : Int) < 5 by decide))
          exact ⟨_, rfl, _, rfl, a, _, _, _, rfl, rfl, s1.seq (sm.seq hS), hcell, _, _, rfl, rfl, (by show (0 : Int) < 5; decide), Lw, _, _, _, rfl, rfl, SqL.of upd_same, hat, hN2 _ _ ⟨tick + t, mx, j, hj, by omega, rfl, s1⟩⟩
        rintro σ' H2 ⟨t, mx, j, hj, ht, rfl, s2⟩
        refine seq_cut2 (fun σ' H3 => ∃ (q : Addr) (wd : Wd), σ' = [some (.ref a), some (.ref D), some (.int t), some (.int (3 + (i : Int))), some (.int mx), some (.str (word5 j)), some (.ref q)] ∧ Same H2 H3 ∧ DeedAt H3 q ⟨t, wd⟩) (fun N2 hN2 => ?_) ?_
        · refine ⟨_, rfl, _, rfl, (by show 2 ≤ 1000; decide), fun q hq => ?_⟩
          have sq := Same.new (o := HO.tup [V.int t, V.str (word5 j)]) hq
          have eq : (upd H2 q (HO.tup [V.int t, V.str (word5 j)])) q = some (HO.tup [V.int t, V.str (word5 j)]) := upd_same
          generalize upd H2 q (HO.tup [V.int t, V.str (word5 j)]) = H3 at sq eq ⊢
          refine ⟨_, rfl, rfl, _, rfl, ?_⟩
          match j, hj with
          | 0, _ =>
            rw [show decide (V.str (word5 0) = V.str "goto") = false by decide +kernel]
            exact iteF (hN2 _ _ ⟨q, .go, rfl, sq, eq⟩)
          | 1, _ =>
            rw [show decide (V.str (word5 1) = V.str "goto") = false by decide +kernel]
            exact iteF (hN2 _ _ ⟨q, .back, rfl, sq, eq⟩)
          | 2, _ =>
            rw [show decide (V.str (word5 2) = V.str "goto") = true by decide +kernel]
            refine iteT ⟨_, rfl, _, rfl, _, rfl, _, _, rfl, rfl, (by show (0 : Int) < 21; decide), (by show 3 ≤ 1000; decide), fun q2 hq2 => ?_⟩
            exact hN2 _ _ ⟨q2, .goto (mx % 21), rfl, sq.trans (Same.new hq2), upd_same⟩
          | 3, _ =>
            rw [show decide (V.str (word5 3) = V.str "goto") = false by decide +kernel]
            exact iteF (hN2 _ _ ⟨q, .stop, rfl, sq, eq⟩)
          | 4, _ =>
            rw [show decide (V.str (word5 4) = V.str "goto") = false by decide +kernel]
            exact iteF (hN2 _ _ ⟨q, .on, rfl, sq, eq⟩)
        rintro σ' H3 ⟨q, wd, rfl, s3, hq⟩
        obtain ⟨as, e1, e2, e3⟩ := deeds_put (hDs.keep (s2.trans s3)) hq
        refine ⟨_, rfl, .inl ⟨rfl, _, SqL.of e1⟩, _, rfl, D, _, _, rfl, rfl, e1, small60 (by rw [List.length_map]; omega), ?_⟩
        refine ⟨t, _, _, _, _, ds ++ [⟨t, wd⟩], rfl, ((sm.trans s2).trans s3).upd hD, e3, by rw [List.length_append]; simp [hml], List.pairwise_append.mpr ⟨hsl, by simp, fun x hx y hy => ?_⟩, fun d hd => ?_, by omega⟩
        · rw [List.mem_singleton] at hy; subst hy; have := (hds x hx).2; show x.tick ≤ t; omega
        · rcases List.mem_append.mp hd with hd | hd
          · have := hds d hd; omega
          · rw [List.mem_singleton] at hd; subst hd; show 0 ≤ t ∧ t ≤ t; omega
      · rintro σ' H' ⟨tick, v1, v2, v3, v4, ds, rfl, sm, hDs, hml, hsl, hds, ht0⟩
        exact hN _ _ ⟨D, tick, v1, v2, v3, v4, ds, rfl, hD, sm, hDs, by omega, hsl, fun d hd => (hds d hd).1⟩
    rintro σ' H1 ⟨D, tick, v1, v2, v3, v4, ds, rfl, hD, s1, hDs, h63, hsl, hds⟩
    obtain ⟨as, hl, hp⟩ := id hDs
    have hal := Paired.length hp
    refine seq_cut (fun σ' H' => σ' = [some (.ref a), some (.ref D), some (.int tick), v1, v2, v3, v4] ∧ H' = H1 ∧ 2 ≤ ds.length) (fun N hN => ?_) ?_
    · refine ⟨_, rfl, D, _, rfl, .inl (SqL.of hl), _, _, rfl, rfl, _, rfl, ite2 (fun _ => ?_) (fun c => hN _ _ ⟨rfl, rfl, ?_⟩)⟩
      · refine ⟨(by show 2 ≤ 1000; decide), fun q1 h1 => ?_⟩
        have t1 := Same.new (o := HO.tup [V.int 3, V.str "go"]) h1
        have u1 : (upd H1 q1 (HO.tup [V.int 3, V.str "go"])) q1 = some (HO.tup [V.int 3, V.str "go"]) := upd_same
        generalize upd H1 q1 (HO.tup [V.int 3, V.str "go"]) = G1 at t1 u1 ⊢
        refine ⟨(by show 2 ≤ 1000; decide), fun q2 h2 => ?_⟩
        have t2 := Same.new (o := HO.tup [V.int 7, V.str "back"]) h2
        have u2 : (upd G1 q2 (HO.tup [V.int 7, V.str "back"])) q2 = some (HO.tup [V.int 7, V.str "back"]) := upd_same
        generalize upd G1 q2 (HO.tup [V.int 7, V.str "back"]) = G2 at t2 u2 ⊢
        refine ⟨(by show 2 ≤ 1000; decide), fun q3 h3 => ?_⟩
        have t3 := Same.new (o := HO.tup [V.int 7, V.str "go"]) h3
        have u3 : (upd G2 q3 (HO.tup [V.int 7, V.str "go"])) q3 = some (HO.tup [V.int 7, V.str "go"]) := upd_same
        generalize upd G2 q3 (HO.tup [V.int 7, V.str "go"]) = G3 at t3 u3 ⊢
        refine ⟨(by show 3 ≤ 1000; decide), fun q hq => ?_⟩
        have t4 := Same.new (o := HO.lst [V.ref q1, V.ref q2, V.ref q3]) hq
        have s14 := ((s1.trans t1).trans t2).trans t3
        refine k q [⟨3, .go⟩, ⟨7, .back⟩, ⟨7, .go⟩] _ (s14.none hq) (s14.trans t4) ⟨[q1, q2, q3], upd_same, .cons (t4 _ _ (t3 _ _ (t2 _ _ u1))) (.cons (t4 _ _ (t3 _ _ u2)) (.cons (t4 _ _ u3) .nil))⟩ ?_ ?_ (by decide) (by decide)
        · unfold Slow; simp
        · intro d hd; simp at hd; rcases hd with rfl | rfl | rfl <;> decide
      · rw [List.length_map] at c
        have : ¬ (as.length : Int) < 2 := fun z => c (decide_eq_true z)
        omega
    rintro σ' H2 ⟨rfl, rfl, h2⟩
    exact ⟨_, rfl, k D ds _ hD s1 hDs hsl hds h2 h63⟩
theorem paired_take {α β : Type} {F : α → β → Prop} : ∀ {l : List α} {m : List β} (n : Nat), Paired F l m → Paired F (l.take n) (m.take n)
  | _, _, 0, _ => by rw [List.take_zero, List.take_zero]; exact .nil
  | _, _, n + 1, .nil => by simp; exact .nil
  | _, _, n + 1, .cons r t => by rw [List.take_succ_cons, List.take_succ_cons]; exact .cons r (paired_take n t)
theorem paired_drop {α β : Type} {F : α → β → Prop} : ∀ {l : List α} {m : List β} (n : Nat), Paired F l m → Paired F (l.drop n) (m.drop n)
  | _, _, 0, h => h
  | _, _, n + 1, .nil => by simp; exact .nil
  | _, _, n + 1, .cons r t => by rw [List.drop_succ_cons, List.drop_succ_cons]; exact paired_drop n t
theorem cut_to (xs : List V) (k : Nat) (h : k ≤ xs.length) : cutV xs none (some (k : Int)) = xs.take k := by
  unfold cutV
  rw [HT.sIx_none, HT.sIx_nat, Nat.min_eq_left h, List.drop_zero, Nat.sub_zero]
theorem cut_from (xs : List V) (k : Nat) (h : k ≤ xs.length) : cutV xs (some (k : Int)) none = xs.drop k := by
  unfold cutV
  rw [HT.sIx_none, HT.sIx_nat, Nat.min_eq_left h, List.take_of_length_le (by rw [List.length_drop]; omega)]
theorem cut_one (x : V) (xs : List V) : cutV (x :: xs) (some 1) none = xs := by
  have := cut_from (x :: xs) 1 (by simp)
  rw [List.drop_succ_cons, List.drop_zero] at this
  exact this
theorem wd_ne (w : Wd) : wdV w ≠ [] := by cases w <;> simp [wdV]
theorem wd_len (w : Wd) : (wdV w).length ≤ 2 := by cases w <;> simp [wdV]
theorem not_slow {es : List Dd} {i : Nat} {x y : Dd} (h1 : es[i]? = some x) (h2 : es[i + 1]? = some y) (h : y.tick < x.tick) : ¬ Slow es := fun s => by
  obtain ⟨a1, a2⟩ := List.getElem?_eq_some_iff.mp h1
  obtain ⟨b1, b2⟩ := List.getElem?_eq_some_iff.mp h2
  have := List.pairwise_iff_getElem.mp s i (i + 1) a1 b1 (by omega)
  rw [a2, b2] at this
  omega
def spFallen (K : PySem.W.Frag) : Sp := fun vs H Q _ => ∃ (D : Addr) (m : Int) (ds : List Dd), vs = [.ref D, .int m] ∧ DeedsAt H D ds ∧ (∀ d ∈ ds, 0 ≤ d.tick) ∧ 2 ≤ ds.length ∧ ds.length ≤ 63 ∧ 0 ≤ m ∧
  ∀ (F : Addr) (es : List Dd) (H' : Hp), H F = none → Same H H' → DeedsAt H' F es → ¬ Slow es → es ≠ [] → es.length ≤ 70 → Q (.ref F) H'
theorem ok_law_fallen {P : Program} {w : World} {K : PySem.W.Frag} {mg : Str → Option Value} {base : Heap} {A : Adr} (T : Txt K mg A) : FnOk P w K mg base (CXE P w) 1 A.f_law_fallen A.d_law_fallen ["_law_deeds_here", "_law_mixed_here"] (spFallen K) := by
  refine T.F_law_fallen.okN sc_law_fallen (fun vs H Q E h => ?_) (fun cdv Ar outer s H vs Q E hr h => ?_)
  · obtain ⟨D, m, ds, rfl, hDs, hds, h2, h63, hm, k⟩ := h
    rfl
  · obtain ⟨D, m, ds, rfl, hDs, hds, h2, h63, hm, k⟩ := h
    refine ⟨_, (pss_cons (ps_setCompIf ["_law_k", "_law_deeds_here"] [none, some 0] (i := 2) sc_law_fallen.nd rfl (Or.inl rfl) rfl (pi_range2 (by rfl) T.b_range (pa_cons pe_int (pa_cons (pe_callB (call_lenK K) (by rfl) T.b_len PySem.boot_len (pa_cons (pv 0) pa_nil)) pa_nil))) (fun _ _ _ => (pg_name (i := 0) ndc_law_fallen_0 rfl (Or.inl rfl))) (fun _ _ _ => (pt_cmpR op_gt (pe_ix (ix_tupK K) (pe_ix (ix_listK K) (pv 1) (pe_op op_sub (pv 0) pe_int) (fun _ _ => rfl)) pe_int (fun _ _ => rfl)) pe_int (nomark _))) (fun _ _ _ => (pv 0)))
      (pss_cons (ps_if (pt_cmpR (op_eqE K hr.units) (pv 2) (pe_lstS pa_nil) (nomark _)) (pss_one (ps_ret (pe_op op_cat (pv 0) (pe_lstS (pa_cons (pe_tupS (pa_cons (pe_op op_add pe_int (pe_op op_mod (pv 1) pe_int)) (pa_cons pe_str pa_nil))) (pa_cons (pe_tupS (pa_cons (pe_op op_mod (pv 1) (pe_op op_add pe_int (pe_op op_mod (pv 1) pe_int))) (pa_cons pe_str pa_nil))) pa_nil)))))) pss_nil)
      (pss_cons (ps_set (i := 3) sc_law_fallen.nd rfl (Or.inl rfl) (pe_ix (ix_listK K) (pv 2) (pe_op op_mod (pv 1) (pe_callB (call_lenK K) (by rfl) T.b_len PySem.boot_len (pa_cons (pv 2) pa_nil))) (fun _ _ => rfl)))
      (pss_cons (ps_set (i := 4) sc_law_fallen.nd rfl (Or.inl rfl) (pe_op op_mod (pe_op op_fdivL (pv 1) pe_int) (pe_ix (ix_tupK K) (pe_ix (ix_listK K) (pv 0) (pe_op op_sub (pv 3) pe_int) (fun _ _ => rfl)) pe_int (fun _ _ => rfl))))
      (pss_one (ps_ret (pe_op op_cat (pe_op op_cat (pe_slice (sl_listK K) (pv 0) po_none (po_some (pv 3))) (pe_lstS (pa_cons (pe_op op_catT (pe_tupS (pa_cons (pv 4) pa_nil)) (pe_slice (sl_tupK K) (pe_ix (ix_listK K) (pv 0) (pv 3) (fun _ _ => rfl)) (po_some pe_int) po_none)) pa_nil))) (pe_slice (sl_listK K) (pv 0) (po_some (pe_op op_add (pv 3) pe_int)) po_none)))))))), ?_⟩
    obtain ⟨as, hl, hp⟩ := id hDs
    have hal : as.length = ds.length := Paired.length hp
    have ln : (as.map V.ref).length = as.length := List.length_map _
    have hat : ∀ {H' : Hp} (j : Nat) (hj : j < as.length), Same H H' → ∃ d, ds[j]? = some d ∧ H' as[j] = some (.tup (.int d.tick :: wdV d.wd)) := fun {H'} j hj s => by
      obtain ⟨d, h1, h2⟩ := paired_at hp (List.getElem?_eq_getElem hj)
      exact ⟨d, h1, s _ _ h2⟩
    have ix : ∀ (j : Nat) (hj : j < as.length), atI (as.map V.ref) (j : Int) = some (V.ref as[j]) := fun j hj => atI_nat (by rw [List.getElem?_map, List.getElem?_eq_getElem hj]; rfl)
    have tk : ∀ j : Nat, j < as.length → ∃ t : Int, (ds[j]?.map Dd.tick) = some t := fun j hj => ⟨_, by rw [List.getElem?_eq_getElem (by omega)]; rfl⟩
    refine seq_cut (fun σ' H' => ∃ (P : Addr) (is : List Nat), σ' = [some (.ref D), some (.int m), some (.ref P), none, none] ∧ Same H H' ∧ H' P = some (.lst (is.map fun i : Nat => V.int (1 + (i : Int)))) ∧ ∀ i ∈ is, i + 1 < as.length ∧ ∃ d, ds[i]? = some d ∧ 0 < d.tick) (fun N hN => ?_) ?_
    · refine ⟨_, rfl, D, _, rfl, .inl (SqL.of hl), 1, _, rfl, ⟨by decide, by decide, by rw [ln]; omega, by rw [ln]; omega⟩, fun P hP => ?_⟩
      refine compIf_rng (lo := 1) (n := (((as.map V.ref).length : Int) - 1).toNat) (fun i => decide (0 < ((ds[i]?.map Dd.tick).getD 0))) (fun i => V.int (1 + (i : Int))) (fun σ => ∃ z, σ = [z, some (.ref D)]) hP (by rw [ln]; omega) ⟨none, rfl⟩ (fun i σ' G N hi ho sm q => ?_) fun G sm hPl => ?_
      · obtain ⟨z, rfl⟩ := ho
        rw [ln] at hi
        have hi1 : i < as.length := by omega
        obtain ⟨d, hd, hG⟩ := hat i hi1 sm
        have a0 : atI (as.map V.ref) (1 + (i : Int) - 1) = some (.ref as[i]) := by
          rw [show (1 + (i : Int) - 1) = ((i : Nat) : Int) from by omega]; exact ix i hi1
        have q' := q [some (.int (1 + (i : Int))), some (.ref D)] G (Same.refl _) ⟨_, rfl⟩
        rw [hd] at q'
        refine ⟨_, rfl, _, rfl, _, _, rfl, rfl, D, _, _, _, rfl, rfl, SqL.of (sm _ _ hl), a0, as[i], _, _, _, rfl, rfl, SqT.of hG, atI_0 _ _, _, _, rfl, rfl, _, rfl, ?_⟩
        by_cases c : 0 < d.tick
        · rw [show decide (0 < ((some d).map Dd.tick).getD 0) = true from decide_eq_true c] at q'
          rw [decide_eq_true c]
          exact iteT ⟨_, rfl, q'⟩
        · rw [show decide (0 < ((some d).map Dd.tick).getD 0) = false from decide_eq_false c] at q'
          rw [decide_eq_false c]
          exact iteF q'
      · refine hN _ _ ⟨P, _, rfl, sm, hPl, fun i hi => ?_⟩
        obtain ⟨h1, h2⟩ := List.mem_filter.mp hi
        have hi1 := List.mem_range.mp h1
        rw [ln] at hi1
        have hi2 : i < as.length := by omega
        obtain ⟨d, hd, _⟩ := hat i hi2 (Same.refl H)
        rw [hd] at h2
        exact ⟨by omega, d, hd, of_decide_eq_true h2⟩
    rintro σ' H1 ⟨P, is, rfl, s1, hP, his⟩
    refine seq_cut (fun σ' H' => σ' = [some (.ref D), some (.int m), some (.ref P), none, none] ∧ Same H1 H' ∧ is ≠ []) (fun N hN => ?_) ?_
    · refine ⟨_, rfl, by decide, fun E hE => ?_⟩
      have sE := Same.new (o := HO.lst []) hE
      have eE : (upd H1 E (HO.lst [])) E = some (HO.lst []) := upd_same
      generalize upd H1 E (HO.lst []) = H2 at sE eE ⊢
      refine ⟨P, E, _, rfl, rfl, SqL.of (sE _ _ hP), SqL.of eE, _, rfl, ite2 (fun _ => ?_) (fun c => hN _ _ ⟨rfl, sE, fun z => c (by rw [z]; rfl)⟩)⟩
      have s2 := s1.trans sE
      have r0 := Int.emod_nonneg m (show (5000 : Int) ≠ 0 by decide)
      have w0 : (0 : Int) < 1 + m % 5000 := by omega
      have w1 := Int.emod_nonneg m (show (1 + m % 5000 : Int) ≠ 0 by omega)
      have w2 := Int.emod_lt_of_pos m w0
      refine ⟨_, rfl, _, rfl, _, _, rfl, rfl, (by show (0 : Int) < 5000; decide), _, _, rfl, rfl, (by show 2 ≤ 1000; decide), fun q1 h1 => ?_⟩
      have t1 := Same.new (o := HO.tup [V.int (1 + m % 5000), V.str "go"]) h1
      have u1 : (upd H2 q1 (HO.tup [V.int (1 + m % 5000), V.str "go"])) q1 = some (HO.tup [V.int (1 + m % 5000), V.str "go"]) := upd_same
      generalize upd H2 q1 (HO.tup [V.int (1 + m % 5000), V.str "go"]) = G1 at t1 u1 ⊢
      refine ⟨_, rfl, _, rfl, _, _, rfl, rfl, (by show (0 : Int) < 5000; decide), _, _, rfl, rfl, _, _, rfl, rfl, w0, (by show 2 ≤ 1000; decide), fun q2 h2' => ?_⟩
      have t2 := Same.new (o := HO.tup [V.int (m % (1 + m % 5000)), V.str "on"]) h2'
      have u2 : (upd G1 q2 (HO.tup [V.int (m % (1 + m % 5000)), V.str "on"])) q2 = some (HO.tup [V.int (m % (1 + m % 5000)), V.str "on"]) := upd_same
      generalize upd G1 q2 (HO.tup [V.int (m % (1 + m % 5000)), V.str "on"]) = G2 at t2 u2 ⊢
      refine ⟨(by show 2 ≤ 1000; decide), fun B hB => ?_⟩
      have t3 := Same.new (o := HO.lst [V.ref q1, V.ref q2]) hB
      have u3 : (upd G2 B (HO.lst [V.ref q1, V.ref q2])) B = some (HO.lst [V.ref q1, V.ref q2]) := upd_same
      generalize upd G2 B (HO.lst [V.ref q1, V.ref q2]) = G3 at t3 u3 ⊢
      have s3 := ((s2.trans t1).trans t2).trans t3
      refine ⟨D, B, _, _, rfl, rfl, s3 _ _ hl, u3, le_line (by show (as.map V.ref).length + 2 ≤ 1000; rw [ln]; omega), fun F hF => ?_⟩
      have t4 := Same.new (o := HO.lst (as.map V.ref ++ [V.ref q1, V.ref q2])) hF
      refine k F (ds ++ [⟨1 + m % 5000, .go⟩, ⟨m % (1 + m % 5000), .on⟩]) _ (s3.none hF) (s3.trans t4) ⟨as ++ [q1, q2], by rw [upd_same, List.map_append]; rfl, paired_app (Paired.mapP hp fun a d e => t4 _ _ (s3 _ _ e)) (.cons (t4 _ _ (t3 _ _ (t2 _ _ u1))) (.cons (t4 _ _ (t3 _ _ u2)) .nil))⟩ ?_ (by simp) (by rw [List.length_append]; simp; omega)
      exact not_slow (i := ds.length) (x := ⟨1 + m % 5000, .go⟩) (y := ⟨m % (1 + m % 5000), .on⟩) (by rw [List.getElem?_append_right (Nat.le_refl _)]; simp) (by rw [List.getElem?_append_right (by omega)]; simp) w2
    rintro σ' H2 ⟨rfl, s12, hne⟩
    have s2 := s1.trans s12
    have hP2 := s12 _ _ hP
    have lp : 0 < is.length := List.length_pos_iff.mpr hne
    have pl : (is.map fun i : Nat => V.int (1 + (i : Int))).length = is.length := List.length_map _
    have r1 := Int.emod_nonneg m (show (is.length : Int) ≠ 0 by omega)
    have r2 := Int.emod_lt_of_pos m (show 0 < (is.length : Int) by omega)
    have r3 : (m % (is.length : Int)).toNat < is.length := by omega
    have atP : atI (is.map fun i : Nat => V.int (1 + (i : Int))) (m % ((is.map fun i : Nat => V.int (1 + (i : Int))).length : Int)) = some (V.int (1 + (is[(m % (is.length : Int)).toNat] : Int))) := by
      rw [pl]
      have := atI_nat (xs := is.map fun i : Nat => V.int (1 + (i : Int))) (j := (m % (is.length : Int)).toNat) (v := V.int (1 + (is[(m % (is.length : Int)).toNat] : Int))) (by rw [List.getElem?_map, List.getElem?_eq_getElem r3]; rfl)
      rwa [Int.toNat_of_nonneg r1] at this
    obtain ⟨hi1, d0, hd0, hpos⟩ := his _ (List.getElem_mem r3)
    generalize is[(m % (is.length : Int)).toNat] = i at atP hi1 hd0
    obtain ⟨d0', hd0', hT0⟩ := hat i (by omega) s2
    rw [hd0] at hd0'
    cases hd0'
    obtain ⟨d1, hd1, hT1⟩ := hat (i + 1) hi1 s2
    have a0 : atI (as.map V.ref) (1 + (i : Int) - 1) = some (.ref as[i]) := by
      rw [show (1 + (i : Int) - 1) = ((i : Nat) : Int) from by omega]; exact ix i (by omega)
    have a1 : atI (as.map V.ref) (1 + (i : Int)) = some (.ref as[i + 1]) := by
      rw [show (1 + (i : Int)) = ((i + 1 : Nat) : Int) from by omega]; exact ix (i + 1) hi1
    have z0 := Int.emod_nonneg (m / 90) (show d0.tick ≠ 0 by omega)
    have z1 := Int.emod_lt_of_pos (m / 90) hpos
    refine ⟨_, rfl, _, rfl, _, rfl, P, _, rfl, .inl (SqL.of hP2), _, _, rfl, rfl, by rw [pl]; omega, P, _, _, _, rfl, rfl, SqL.of hP2, atP, ?_⟩
    refine ⟨_, rfl, _, _, rfl, rfl, ⟨by decide, by decide⟩, _, rfl, _, rfl, _, _, rfl, rfl, D, _, _, _, rfl, rfl, SqL.of (s2 _ _ hl), a0, as[i], _, _, _, rfl, rfl, SqT.of hT0, atI_0 _ _, _, _, rfl, rfl, hpos, ?_⟩
    -- deeds[:at]
    refine ⟨_, rfl, _, rfl, _, rfl, D, _, rfl, SqL.of (s2 _ _ hl), fun S1 hS1 => ?_⟩
    rw [show (1 + (i : Int)) = ((i + 1 : Nat) : Int) from by omega] at a1 ⊢
    rw [cut_to _ _ (by rw [ln]; omega)]
    have t1 := Same.new (o := HO.lst ((as.map V.ref).take (i + 1))) hS1
    have u1 : (upd H2 S1 (HO.lst ((as.map V.ref).take (i + 1)))) S1 = some (HO.lst ((as.map V.ref).take (i + 1))) := upd_same
    generalize upd H2 S1 (HO.lst ((as.map V.ref).take (i + 1))) = G1 at t1 u1 ⊢
    refine ⟨_, rfl, (by show 1 ≤ 1000; decide), fun T1 hT1n => ?_⟩
    have t2 := Same.new (o := HO.tup [V.int (m / 90 % d0.tick)]) hT1n
    have u2 : (upd G1 T1 (HO.tup [V.int (m / 90 % d0.tick)])) T1 = some (HO.tup [V.int (m / 90 % d0.tick)]) := upd_same
    generalize upd G1 T1 (HO.tup [V.int (m / 90 % d0.tick)]) = G2 at t2 u2 ⊢
    have s22 := (s2.trans t1).trans t2
    refine ⟨_, rfl, _, rfl, D, _, _, _, rfl, rfl, SqL.of (s22 _ _ hl), a1, _, rfl, as[i + 1], _, rfl, SqT.of (t2 _ _ (t1 _ _ hT1)), ?_, fun T2 hT2n => ?_⟩
    · rintro ⟨z, _⟩
      have : HT.sIx (V.int d1.tick :: wdV d1.wd).length 0 (some ((1 : Nat) : Int)) = 1 := by rw [HT.sIx_nat]; simp
      rw [show (some (1 : Int)) = some ((1 : Nat) : Int) from rfl, this] at z
      exact absurd z (by decide)
    rw [cut_one]
    have t3 := Same.new (o := HO.tup (wdV d1.wd)) hT2n
    have u3 : (upd G2 T2 (HO.tup (wdV d1.wd))) T2 = some (HO.tup (wdV d1.wd)) := upd_same
    generalize upd G2 T2 (HO.tup (wdV d1.wd)) = G3 at t3 u3 ⊢
    refine ⟨T1, T2, _, _, rfl, rfl, SqT.of (t3 _ _ u2), SqT.of u3, by simp, le_line (by have := wd_len d1.wd; simp; omega), fun z => absurd z (wd_ne _), fun _ T3 hT3n => ?_⟩
    have t4 := Same.new (o := HO.tup ([V.int (m / 90 % d0.tick)] ++ wdV d1.wd)) hT3n
    have u4 : (upd G3 T3 (HO.tup ([V.int (m / 90 % d0.tick)] ++ wdV d1.wd))) T3 = some (HO.tup ([V.int (m / 90 % d0.tick)] ++ wdV d1.wd)) := upd_same
    generalize upd G3 T3 (HO.tup ([V.int (m / 90 % d0.tick)] ++ wdV d1.wd)) = G4 at t4 u4 ⊢
    refine ⟨(by show 1 ≤ 1000; decide), fun B hB => ?_⟩
    have t5 := Same.new (o := HO.lst [V.ref T3]) hB
    have u5 : (upd G4 B (HO.lst [V.ref T3])) B = some (HO.lst [V.ref T3]) := upd_same
    generalize upd G4 B (HO.lst [V.ref T3]) = G5 at t5 u5 ⊢
    refine ⟨S1, B, _, _, rfl, rfl, t5 _ _ (t4 _ _ (t3 _ _ (t2 _ _ u1))), u5, le_line (by rw [List.length_take, ln]; simp; omega), fun C1 hC1 => ?_⟩
    have t6 := Same.new (o := HO.lst ((as.map V.ref).take (i + 1) ++ [V.ref T3])) hC1
    have u6 : (upd G5 C1 (HO.lst ((as.map V.ref).take (i + 1) ++ [V.ref T3]))) C1 = some (HO.lst ((as.map V.ref).take (i + 1) ++ [V.ref T3])) := upd_same
    generalize upd G5 C1 (HO.lst ((as.map V.ref).take (i + 1) ++ [V.ref T3])) = G6 at t6 u6 ⊢
    have s26 := (((s22.trans t3).trans t4).trans t5).trans t6
    refine ⟨_, rfl, _, rfl, _, _, rfl, rfl, _, rfl, D, _, rfl, SqL.of (s26 _ _ hl), fun S2 hS2 => ?_⟩
    rw [show (((i + 1 : Nat) : Int) + 1) = ((i + 2 : Nat) : Int) from by omega, cut_from _ _ (by rw [ln]; omega)]
    have t7 := Same.new (o := HO.lst ((as.map V.ref).drop (i + 2))) hS2
    have u7 : (upd G6 S2 (HO.lst ((as.map V.ref).drop (i + 2)))) S2 = some (HO.lst ((as.map V.ref).drop (i + 2))) := upd_same
    generalize upd G6 S2 (HO.lst ((as.map V.ref).drop (i + 2))) = G7 at t7 u7 ⊢
    refine ⟨C1, S2, _, _, rfl, rfl, t7 _ _ u6, u7, le_line (by rw [List.length_append, List.length_take, List.length_drop, ln]; simp; omega), fun F hF => ?_⟩
    have s27 := s26.trans t7
    have t8 := Same.new (o := HO.lst ((as.map V.ref).take (i + 1) ++ [V.ref T3] ++ (as.map V.ref).drop (i + 2))) hF
    refine k F (ds.take (i + 1) ++ [⟨m / 90 % d0.tick, d1.wd⟩] ++ ds.drop (i + 2)) _ (s27.none hF) (s27.trans t8) ⟨as.take (i + 1) ++ [T3] ++ as.drop (i + 2), by rw [upd_same, List.map_append, List.map_append, List.map_take, List.map_drop]; rfl, paired_app (paired_app (paired_take _ (Paired.mapP hp fun a d e => t8 _ _ (s27 _ _ e))) (.cons (show DeedAt _ T3 (⟨m / 90 % d0.tick, d1.wd⟩ : Dd) from t8 _ _ (t7 _ _ (t6 _ _ (t5 _ _ u4)))) .nil)) (paired_drop _ (Paired.mapP hp fun a d e => t8 _ _ (s27 _ _ e)))⟩ ?_ (by simp) (by rw [List.length_append, List.length_append, List.length_take, List.length_drop]; simp; omega)
    refine not_slow (i := i) (x := d0) (y := ⟨m / 90 % d0.tick, d1.wd⟩) ?_ ?_ z1
    · rw [List.append_assoc, List.getElem?_append_left (by rw [List.length_take]; omega), List.getElem?_take_of_lt (by omega)]; exact hd0
    · rw [List.append_assoc, List.getElem?_append_right (by rw [List.length_take]; omega), List.length_take, show i + 1 - min (i + 1) ds.length = 0 by omega]; rfl
theorem okU_told {P : Program} {w : World} {K : PySem.W.Frag} {mg : Str → Option Value} {base : Heap} {A : Adr} (T : Txt K mg A) : FnOk P w K mg base (CXE P w) 9 A.f_told A.d_told ["cues", "deeds", "top", "bottom"] (fun vs H Q E => spTold A vs H Q E ∨ ((∃ x y t b, vs = [x, y, t, b]) ∧ spNoT K A vs H Q E)) := fnOr (ok_told T) (okB_told T)
inductive Outc (K : PySem.W.Frag) (A : Adr) (H : Hp) : V → Addr → List V → Prop
  | good (l L : Addr) (cs : List Addr) (us : List Cu) (ds : List Dd) (hl : H l = some (.lst (cs.map V.ref))) (hc : Cues0 A H cs us) (hri : Rising us) (hne : cs ≠ []) (hz : cs.length ≤ 100) (hfo : ∀ u ∈ us, FoOk u.fo ∧ 1 ≤ u.n) (hpl : Plain us) (hL : DeedsAt H L ds) (hdz : ds.length ≤ 100) (hsl : Slow ds) : Outc K A H (.ref l) L []
  | nol (x : V) (L : Addr) (h : NoL K A H x) : Outc K A H x L [.bl true, .bl false, .bl true, .bl false]
  | late (l L : Addr) (cs : List Addr) (us : List Cu) (ds : List Dd) (hl : H l = some (.lst (cs.map V.ref))) (hc : Cues0 A H cs us) (hri : Rising us) (hz : cs.length ≤ 100) (hL : DeedsAt H L ds) (hdz : ds.length ≤ 900) (hsl : ¬ Slow ds) : Outc K A H (.ref l) L [.bl true, .bl true, .bl false, .bl false]
theorem Outc.keep {K : PySem.W.Frag} {A : Adr} {H H' : Hp} {x : V} {L : Addr} {out : List V} (h : Outc K A H x L out) (s : Same H H') : Outc K A H' x L out := by
  cases h with
  | good l _ cs us ds hl hc hri hne hz hfo hpl hL hdz hsl => exact .good l L cs us ds (s _ _ hl) (hc.keep s) hri hne hz hfo hpl (hL.keep s) hdz hsl
  | nol _ _ h => exact .nol x L (h.keep s)
  | late l _ cs us ds hl hc hri hz hL hdz hsl => exact .late l L cs us ds (s _ _ hl) (hc.keep s) hri hz (hL.keep s) hdz hsl
def spTruths (K : PySem.W.Frag) (A : Adr) : Sp := fun vs H Q _ => ∃ (way : Int) (x : V) (L : Addr) (top : Int) (out : List V), vs = [.int way, x, .ref L, .int top] ∧ Outc K A H x L out ∧ ∀ (M : Addr) (H' : Hp), Same H H' → H' M = some (.lst out) → Q (.ref M) H'
theorem ok_law_truths {P : Program} {w : World} {K : PySem.W.Frag} {mg : Str → Option Value} {base : Heap} {A : Adr} (T : Txt K mg A) : FnOk P w K mg base (CXE P w) 10 A.f_law_truths A.d_law_truths ["_law_way", "_law_cues", "_law_deeds_here", "_law_top"] (spTruths K A) := by
  have G_rows_of := okU_rows_of (P := P) (w := w) (base := base) T
  have G_told := okU_told (P := P) (w := w) (base := base) T
  refine T.F_law_truths.okN sc_law_truths (fun vs H Q E h => ?_) (fun cdv Ar outer s H vs Q E hr h => ?_)
  · obtain ⟨way, x, L, top, out, rfl, ho, k⟩ := h
    rfl
  · obtain ⟨way, x, L, top, out, rfl, ho, k⟩ := h
    refine ⟨_, (pss_cons (ps_set (i := 4) sc_law_truths.nd rfl (Or.inl rfl) (pe_lstS pa_nil))
      (pss_cons (ps_try (i := 5) K rfl rfl rfl (pb_if (pt_cmpR op_eq (pv 0) pe_int (nomark _)) (pb_expr (px_call rfl G_rows_of (hr.mono (by decide)) (by rfl) T.m_rows_of T.F_rows_of.kp T.bd_rows_of T.dv_rows_of (fun _ => (pa_cons (pv 1) (pa_cons (pv 2) (pa_cons (pv 3) pa_nil)))))) (pb_expr (px_call rfl G_told (hr.mono (by decide)) (by rfl) T.m_told T.F_told.kp T.bd_told T.dv_told (fun _ => (pa_cons (pv 1) (pa_cons (pv 2) (pa_cons (pv 3) pa_nil))))))) (by rfl) T.c_LampError sc_law_truths.nd rfl rfl (fun _ => (pss_cons (ps_set (i := 4) sc_law_truths.nd rfl (Or.inl rfl) (pe_lstS (pa_cons (pe_callB (call_isx K) (by rfl) T.b_isinstance boot_isinstance (pa_cons (pv 5) (pa_cons (pe_ty (by rfl) T.b_ValueError boot_ValueError) pa_nil))) (pa_cons (pe_callB (call_isx K) (by rfl) T.b_isinstance boot_isinstance (pa_cons (pv 5) (pa_cons (pe_glob (v := V.ref _) (by rfl) T.c_Late rfl) pa_nil))) pa_nil))))
      (pss_one (ps_set (i := 4) sc_law_truths.nd rfl (Or.inl rfl) (pe_op op_cat (pv 4) (pe_lstS (pa_cons (pe_callB (call_isx K) (by rfl) T.b_isinstance boot_isinstance (pa_cons (pv 5) (pa_cons (pe_glob (v := V.ref _) (by rfl) T.c_NoList rfl) pa_nil))) (pa_cons (pe_callB (call_isx K) (by rfl) T.b_isinstance boot_isinstance (pa_cons (pv 5) (pa_cons (pe_glob (v := V.ref _) (by rfl) T.c_NoCue rfl) pa_nil))) pa_nil)))))))))
      (pss_one (ps_ret (pv 4))))), ?_⟩
    refine seq_cut (fun σ' H' => ∃ M0, σ' = [some (.int way), some x, some (.ref L), some (.int top), some (.ref M0), none] ∧ Same H H' ∧ H' M0 = some (.lst [])) (fun N hN => ?_) ?_
    · exact ⟨by decide, fun M0 hM0 => hN _ _ ⟨M0, rfl, Same.new hM0, upd_same⟩⟩
    rintro σ' H1 ⟨M0, rfl, s1, hM0⟩
    refine seq_cut (fun σ' H' => ∃ M, σ' = [some (.int way), some x, some (.ref L), some (.int top), some (.ref M), none] ∧ Same H H' ∧ H' M = some (.lst out)) (fun N hN => ?_) ?_
    · replace ho := ho.keep s1
      cases ho with
      | good l _ cs us ds hl hc hri hne hz hfo hpl hL hdz hsl =>
        refine ⟨_, rfl, rfl, _, rfl, ?_⟩
        refine ite2 (fun _ => ?_) (fun _ => ?_)
        · exact ⟨_, rfl, _, rfl, _, rfl, .inl ⟨l, L, top, 1, cs, us, ds, rfl, hl, hc, hri, hz, hfo, hL, hdz, hsl, ⟨by decide, by decide⟩, fun p H' y Lc Lt j w r rl n' d' ts _ _ _ _ _ hW _ _ _ => hN _ _ ⟨M0, rfl, s1.trans hW.sm, hW.sm _ _ hM0⟩⟩⟩
        · exact ⟨_, rfl, _, rfl, _, rfl, .inl ⟨l, L, top, 1, cs, us, ds, rfl, hl, hc, hri, hne, hz, hfo, hpl, hL, hdz, hsl, ⟨by decide, by decide⟩, fun v H' s => hN _ _ ⟨M0, rfl, s1.trans s, s _ _ hM0⟩⟩⟩
      | nol _ _ h =>
        refine ⟨_, rfl, rfl, _, rfl, ?_⟩
        refine ite2 (fun _ => ?_) (fun _ => ?_)
        · refine ⟨_, rfl, _, rfl, _, rfl, .inr (.inl ⟨x, .ref L, .int top, .int 1, rfl, h, fun G sG => ⟨T.xm_NoList, fun ea hea => ?_⟩⟩)⟩
          have fe : (upd G ea (excAt ea (.ref A.C_NoList) none)) ea = some (excAt ea (.ref A.C_NoList) none) := upd_same
          have sg := Same.new (o := excAt ea (.ref A.C_NoList) none) hea
          generalize upd G ea (excAt ea (.ref A.C_NoList) none) = G1 at fe sg ⊢
          refine ⟨_, rfl, _, _, _, _, _, rfl, fe, T.xc_NoList, rfl, (fun _ z => z), T.xv_NoList, _, rfl, _, _, _, _, _, rfl, fe, T.xc_NoList, rfl, (fun _ z => z), T.xk_NoList_Late, (by show 2 ≤ 1000; decide), fun M1 hM1 => ?_⟩
          have sm1 := Same.new (o := HO.lst [V.bl true, V.bl false]) hM1
          have em1 : (upd G1 M1 (HO.lst [V.bl true, V.bl false])) M1 = some (HO.lst [V.bl true, V.bl false]) := upd_same
          generalize upd G1 M1 (HO.lst [V.bl true, V.bl false]) = G2 at sm1 em1 ⊢
          have fe2 := sm1 _ _ fe
          refine ⟨_, rfl, _, rfl, _, _, _, _, _, rfl, fe2, T.xc_NoList, rfl, (fun _ z => z), T.xk_NoList_NoList, _, rfl, _, _, _, _, _, rfl, fe2, T.xc_NoList, rfl, (fun _ z => z), T.xk_NoList_NoCue, (by show 2 ≤ 1000; decide), fun M2 hM2 => ?_⟩
          have sm2 := Same.new (o := HO.lst [V.bl true, V.bl false]) hM2
          have em2 : (upd G2 M2 (HO.lst [V.bl true, V.bl false])) M2 = some (HO.lst [V.bl true, V.bl false]) := upd_same
          generalize upd G2 M2 (HO.lst [V.bl true, V.bl false]) = G3 at sm2 em2 ⊢
          refine ⟨M1, M2, _, _, rfl, rfl, sm2 _ _ em1, em2, le_line (by decide), fun M3 hM3 => ?_⟩
          exact hN _ _ ⟨M3, rfl, ((((s1.trans sG).trans sg).trans sm1).trans sm2).trans (Same.new hM3), upd_same⟩
        · refine ⟨_, rfl, _, rfl, _, rfl, .inr ⟨⟨_, _, _, _, rfl⟩, .inl ⟨x, .ref L, .int top, .int 1, rfl, h, fun G sG => ⟨T.xm_NoList, fun ea hea => ?_⟩⟩⟩⟩
          have fe : (upd G ea (excAt ea (.ref A.C_NoList) none)) ea = some (excAt ea (.ref A.C_NoList) none) := upd_same
          have sg := Same.new (o := excAt ea (.ref A.C_NoList) none) hea
          generalize upd G ea (excAt ea (.ref A.C_NoList) none) = G1 at fe sg ⊢
          refine ⟨_, rfl, _, _, _, _, _, rfl, fe, T.xc_NoList, rfl, (fun _ z => z), T.xv_NoList, _, rfl, _, _, _, _, _, rfl, fe, T.xc_NoList, rfl, (fun _ z => z), T.xk_NoList_Late, (by show 2 ≤ 1000; decide), fun M1 hM1 => ?_⟩
          have sm1 := Same.new (o := HO.lst [V.bl true, V.bl false]) hM1
          have em1 : (upd G1 M1 (HO.lst [V.bl true, V.bl false])) M1 = some (HO.lst [V.bl true, V.bl false]) := upd_same
          generalize upd G1 M1 (HO.lst [V.bl true, V.bl false]) = G2 at sm1 em1 ⊢
          have fe2 := sm1 _ _ fe
          refine ⟨_, rfl, _, rfl, _, _, _, _, _, rfl, fe2, T.xc_NoList, rfl, (fun _ z => z), T.xk_NoList_NoList, _, rfl, _, _, _, _, _, rfl, fe2, T.xc_NoList, rfl, (fun _ z => z), T.xk_NoList_NoCue, (by show 2 ≤ 1000; decide), fun M2 hM2 => ?_⟩
          have sm2 := Same.new (o := HO.lst [V.bl true, V.bl false]) hM2
          have em2 : (upd G2 M2 (HO.lst [V.bl true, V.bl false])) M2 = some (HO.lst [V.bl true, V.bl false]) := upd_same
          generalize upd G2 M2 (HO.lst [V.bl true, V.bl false]) = G3 at sm2 em2 ⊢
          refine ⟨M1, M2, _, _, rfl, rfl, sm2 _ _ em1, em2, le_line (by decide), fun M3 hM3 => ?_⟩
          exact hN _ _ ⟨M3, rfl, ((((s1.trans sG).trans sg).trans sm1).trans sm2).trans (Same.new hM3), upd_same⟩
      | late l _ cs us ds hl hc hri hz hL hdz hsl =>
        refine ⟨_, rfl, rfl, _, rfl, ?_⟩
        refine ite2 (fun _ => ?_) (fun _ => ?_)
        · refine ⟨_, rfl, _, rfl, _, rfl, .inr (.inr ⟨l, L, .int top, .int 1, cs, us, ds, rfl, hl, hc, hri, hz, hL, hdz, hsl, fun G sG => ⟨T.xm_Late, fun ea hea => ?_⟩⟩)⟩
          have fe : (upd G ea (excAt ea (.ref A.C_Late) none)) ea = some (excAt ea (.ref A.C_Late) none) := upd_same
          have sg := Same.new (o := excAt ea (.ref A.C_Late) none) hea
          generalize upd G ea (excAt ea (.ref A.C_Late) none) = G1 at fe sg ⊢
          refine ⟨_, rfl, _, _, _, _, _, rfl, fe, T.xc_Late, rfl, (fun _ z => z), T.xv_Late, _, rfl, _, _, _, _, _, rfl, fe, T.xc_Late, rfl, (fun _ z => z), T.xk_Late_Late, (by show 2 ≤ 1000; decide), fun M1 hM1 => ?_⟩
          have sm1 := Same.new (o := HO.lst [V.bl true, V.bl true]) hM1
          have em1 : (upd G1 M1 (HO.lst [V.bl true, V.bl true])) M1 = some (HO.lst [V.bl true, V.bl true]) := upd_same
          generalize upd G1 M1 (HO.lst [V.bl true, V.bl true]) = G2 at sm1 em1 ⊢
          have fe2 := sm1 _ _ fe
          refine ⟨_, rfl, _, rfl, _, _, _, _, _, rfl, fe2, T.xc_Late, rfl, (fun _ z => z), T.xk_Late_NoList, _, rfl, _, _, _, _, _, rfl, fe2, T.xc_Late, rfl, (fun _ z => z), T.xk_Late_NoCue, (by show 2 ≤ 1000; decide), fun M2 hM2 => ?_⟩
          have sm2 := Same.new (o := HO.lst [V.bl false, V.bl false]) hM2
          have em2 : (upd G2 M2 (HO.lst [V.bl false, V.bl false])) M2 = some (HO.lst [V.bl false, V.bl false]) := upd_same
          generalize upd G2 M2 (HO.lst [V.bl false, V.bl false]) = G3 at sm2 em2 ⊢
          refine ⟨M1, M2, _, _, rfl, rfl, sm2 _ _ em1, em2, le_line (by decide), fun M3 hM3 => ?_⟩
          exact hN _ _ ⟨M3, rfl, ((((s1.trans sG).trans sg).trans sm1).trans sm2).trans (Same.new hM3), upd_same⟩
        · refine ⟨_, rfl, _, rfl, _, rfl, .inr ⟨⟨_, _, _, _, rfl⟩, .inr ⟨l, L, .int top, .int 1, cs, us, ds, rfl, hl, hc, hri, hz, hL, hdz, hsl, fun G sG => ⟨T.xm_Late, fun ea hea => ?_⟩⟩⟩⟩
          have fe : (upd G ea (excAt ea (.ref A.C_Late) none)) ea = some (excAt ea (.ref A.C_Late) none) := upd_same
          have sg := Same.new (o := excAt ea (.ref A.C_Late) none) hea
          generalize upd G ea (excAt ea (.ref A.C_Late) none) = G1 at fe sg ⊢
          refine ⟨_, rfl, _, _, _, _, _, rfl, fe, T.xc_Late, rfl, (fun _ z => z), T.xv_Late, _, rfl, _, _, _, _, _, rfl, fe, T.xc_Late, rfl, (fun _ z => z), T.xk_Late_Late, (by show 2 ≤ 1000; decide), fun M1 hM1 => ?_⟩
          have sm1 := Same.new (o := HO.lst [V.bl true, V.bl true]) hM1
          have em1 : (upd G1 M1 (HO.lst [V.bl true, V.bl true])) M1 = some (HO.lst [V.bl true, V.bl true]) := upd_same
          generalize upd G1 M1 (HO.lst [V.bl true, V.bl true]) = G2 at sm1 em1 ⊢
          have fe2 := sm1 _ _ fe
          refine ⟨_, rfl, _, rfl, _, _, _, _, _, rfl, fe2, T.xc_Late, rfl, (fun _ z => z), T.xk_Late_NoList, _, rfl, _, _, _, _, _, rfl, fe2, T.xc_Late, rfl, (fun _ z => z), T.xk_Late_NoCue, (by show 2 ≤ 1000; decide), fun M2 hM2 => ?_⟩
          have sm2 := Same.new (o := HO.lst [V.bl false, V.bl false]) hM2
          have em2 : (upd G2 M2 (HO.lst [V.bl false, V.bl false])) M2 = some (HO.lst [V.bl false, V.bl false]) := upd_same
          generalize upd G2 M2 (HO.lst [V.bl false, V.bl false]) = G3 at sm2 em2 ⊢
          refine ⟨M1, M2, _, _, rfl, rfl, sm2 _ _ em1, em2, le_line (by decide), fun M3 hM3 => ?_⟩
          exact hN _ _ ⟨M3, rfl, ((((s1.trans sG).trans sg).trans sm1).trans sm2).trans (Same.new hM3), upd_same⟩
    rintro σ' H2 ⟨M, rfl, s2, hM⟩
    exact ⟨_, rfl, k M H2 s2 hM⟩
theorem paired_rev {α β : Type} {F : α → β → Prop} : ∀ {l : List α} {m : List β}, Paired F l m → Paired F l.reverse m.reverse
  | _, _, .nil => .nil
  | _, _, .cons r t => by rw [List.reverse_cons, List.reverse_cons]; exact paired_app (paired_rev t) (.cons r .nil)
theorem twice_no {us : List Cu} (h : us ≠ []) : ¬ Rising (us ++ us) ∧ ¬ Rising (us ++ us).reverse := by
  obtain ⟨u, hu⟩ : ∃ u, u ∈ us := by
    cases us with
    | nil => exact absurd rfl h
    | cons u r => exact ⟨u, by simp⟩
  constructor
  · intro r
    have := (List.pairwise_append.mp r).2.2 u hu u hu
    omega
  · intro r
    have r' := List.pairwise_reverse.mp r
    have := (List.pairwise_append.mp r').2.2 u hu u hu
    omega
theorem kit_nl {K : PySem.W.Frag} : PySem.W.kitOne K (.type "NoneType") (.type "list") = some false := by kernel_rfl
theorem kit_tl {K : PySem.W.Frag} : PySem.W.kitOne K (.type "tuple") (.type "list") = some false := by kernel_rfl
theorem kit_dl {K : PySem.W.Frag} : PySem.W.kitOne K (.type "dict") (.type "list") = some false := by kernel_rfl
theorem menu6 {x0 x1 x2 x3 x4 x5 : V} {P : V → Prop} {i : Int} (h0 : 0 ≤ i) (h1 : i < 6) (p0 : P x0) (p1 : P x1) (p2 : P x2) (p3 : P x3) (p4 : P x4) (p5 : P x5) : ∃ x, P x ∧ atI [x0, x1, x2, x3, x4, x5] i = some x := by
  have : i = 0 ∨ i = 1 ∨ i = 2 ∨ i = 3 ∨ i = 4 ∨ i = 5 := by omega
  rcases this with rfl | rfl | rfl | rfl | rfl | rfl
  · exact ⟨_, p0, atI_nat (j := 0) rfl⟩
  · exact ⟨_, p1, atI_nat (j := 1) rfl⟩
  · exact ⟨_, p2, atI_nat (j := 2) rfl⟩
  · exact ⟨_, p3, atI_nat (j := 3) rfl⟩
  · exact ⟨_, p4, atI_nat (j := 4) rfl⟩
  · exact ⟨_, p5, atI_nat (j := 5) rfl⟩
theorem menu4 {x0 x1 x2 x3 : Int} {i : Int} (h0 : 0 ≤ i) (h1 : i < 4) : ∃ x : Int, atI [V.int x0, V.int x1, V.int x2, V.int x3] i = some (V.int x) := by
  have : i = 0 ∨ i = 1 ∨ i = 2 ∨ i = 3 := by omega
  rcases this with rfl | rfl | rfl | rfl
  · exact ⟨_, atI_nat (j := 0) rfl⟩
  · exact ⟨_, atI_nat (j := 1) rfl⟩
  · exact ⟨_, atI_nat (j := 2) rfl⟩
  · exact ⟨_, atI_nat (j := 3) rfl⟩
def b4 (a b c d : Bool) : List PyData := [.bool a, .bool b, .bool c, .bool d]
theorem eqv4 (a b c d : Bool) : PyData.eqv (.list (b4 a b c d)) (.list (b4 a b c d)) = true := by simp [PyData.eqv, PyData.eqvAll, b4]
theorem eqv0 : PyData.eqv (.list []) (.list []) = true := by simp [PyData.eqv, PyData.eqvAll]
theorem sh4 (a b c d : Bool) : PySem.SeqAt.shaped (.list (b4 a b c d)) = true := by rfl
theorem are4 {K : PySem.W.Frag} {H : Hp} (a b c d : Bool) : AreD8 K H [V.bl a, V.bl b, V.bl c, V.bl d] (b4 a b c d) := .cons (.bl a) (.cons (.bl b) (.cons (.bl c) (.cons (.bl d) .nil)))
theorem ok_law {P : Program} {w : World} {K : PySem.W.Frag} {mg : Str → Option Value} {base : Heap} {A : Adr} (T : Txt K mg A) : FnOk P w K mg base (CXE P w) 12 A.f_law A.d_law ["_law_script"] (spLaw K) := by
  have G_Cue_init := ok_Cue_init (P := P) (w := w) (base := base) T
  have G_Part_init := ok_Part_init (P := P) (w := w) (base := base) T
  have G_law_cell_at := ok_law_cell_at (P := P) (w := w) (base := base) T
  have G_law_deeds := ok_law_deeds (P := P) (w := w) (base := base) T
  have G_law_fallen := ok_law_fallen (P := P) (w := w) (base := base) T
  have G_law_mixed := ok_law_mixed (P := P) (w := w) (base := base) T
  have G_law_numbers := ok_law_numbers (P := P) (w := w) (base := base) T
  have G_law_truths := ok_law_truths (P := P) (w := w) (base := base) T
  refine T.F_law.okN sc_law (fun vs H Q E h => ?_) (fun cdv Ar outer s H vs Q E hr h => ?_)
  · obtain ⟨a, ns, rfl, hS, hlen, k⟩ := h
    rfl
  · obtain ⟨a, ns, rfl, hS, hlen, k⟩ := h
    refine ⟨_, (pss_cons (ps_set (i := 1) sc_law.nd rfl (Or.inl rfl) (pe_call G_law_mixed (hr.mono (by decide)) (by rfl) T.m_law_mixed T.F_law_mixed.kp T.bb_law_mixed .nil passE0 (pa_cons (pe_call G_law_cell_at (hr.mono (by decide)) (by rfl) T.m_law_cell_at T.F_law_cell_at.kp T.bb_law_cell_at .nil passE0 (pa_cons (pv 0) (pa_cons pe_int pa_nil))) (pa_cons pe_int pa_nil))))
      (pss_cons (ps_set (i := 2) sc_law.nd rfl (Or.inl rfl) (pe_call G_law_numbers (hr.mono (by decide)) (by rfl) T.m_law_numbers T.F_law_numbers.kp T.bb_law_numbers .nil passE0 (pa_cons (pv 1) pa_nil)))
      (pss_cons (ps_setComp ["_law_number"] [none] (i := 3) sc_law.nd rfl (Or.inl rfl) rfl (pi_listK K (pv 2)) (fun _ _ _ => (pg_name (i := 0) ndc_law_1 rfl (Or.inl rfl))) (fun _ _ _ => (pe_make T.M_Cue G_Cue_init (hr.mono (by decide)) (by rfl) T.c_Cue T.bd_Cue_init T.dv_Cue_init passE0 (pa_cons (pv 0) (pa_cons (pe_lstS (pa_cons (pe_make T.M_Part G_Part_init (hr.mono (by decide)) (by rfl) T.c_Part T.bd_Part_init T.dv_Part_init passE0 (pa_cons pe_dnewT (pa_cons pe_dnewT pa_nil))) pa_nil)) pa_nil)))))
      (pss_cons (ps_set (i := 4) sc_law.nd rfl (Or.inl rfl) (pe_ix (ix_listK K) (pe_lstS (pa_cons pe_non (pa_cons (pe_callTy call_tuple_of (by rfl) T.b_tuple boot_tuple (pa_cons (pv 3) pa_nil)) (pa_cons pe_dnewT (pa_cons (pe_op op_cat (pv 3) (pv 3)) (pa_cons (pe_op op_cat (pv 3) (pe_lstS (pa_cons pe_non pa_nil))) (pa_cons (pe_listRev K rfl (by rfl) T.b_list (by rfl) T.b_reversed (pe_op op_cat (pv 3) (pv 3))) pa_nil))))))) (pe_op op_mod (pe_op op_fdivL (pv 1) pe_int) pe_int) (fun _ _ => rfl)))
      (pss_cons (ps_set (i := 5) sc_law.nd rfl (Or.inl rfl) (pe_call G_law_deeds (hr.mono (by decide)) (by rfl) T.m_law_deeds T.F_law_deeds.kp T.bb_law_deeds .nil passE0 (pa_cons (pv 0) pa_nil)))
      (pss_cons (ps_set (i := 6) sc_law.nd rfl (Or.inl rfl) (pe_call G_law_fallen (hr.mono (by decide)) (by rfl) T.m_law_fallen T.F_law_fallen.kp T.bb_law_fallen .nil passE0 (pa_cons (pv 5) (pa_cons (pe_call G_law_mixed (hr.mono (by decide)) (by rfl) T.m_law_mixed T.F_law_mixed.kp T.bb_law_mixed .nil passE0 (pa_cons (pe_call G_law_cell_at (hr.mono (by decide)) (by rfl) T.m_law_cell_at T.F_law_cell_at.kp T.bb_law_cell_at .nil passE0 (pa_cons (pv 0) (pa_cons pe_int pa_nil))) (pa_cons pe_int pa_nil))) pa_nil))))
      (pss_cons (ps_setComp ["_law_deed"] [none] (i := 7) sc_law.nd rfl (Or.inl rfl) rfl (pi_listK K (pv 6)) (fun _ _ _ => (pg_name (i := 0) ndc_law_0 rfl (Or.inl rfl))) (fun _ _ _ => (pe_ix (ix_tupK K) (pv 0) pe_int (fun _ _ => rfl))))
      (pss_cons (ps_set (i := 8) sc_law.nd rfl (Or.inl rfl) (pe_lstS (pa_cons pe_int (pa_cons (pe_callB (call_minL K rfl) (by rfl) T.b_min boot_min (pa_cons (pv 7) pa_nil)) (pa_cons (pe_callB (call_maxL K rfl) (by rfl) T.b_max boot_max (pa_cons (pv 7) pa_nil)) (pa_cons (pe_op op_add (pe_op op_add (pe_callB (call_maxL K rfl) (by rfl) T.b_max boot_max (pa_cons (pv 7) pa_nil)) pe_int) (pe_op op_mod (pv 1) pe_int)) pa_nil))))))
      (pss_cons (ps_set (i := 9) sc_law.nd rfl (Or.inl rfl) (pe_ix (ix_listK K) (pv 8) (pe_op op_mod (pe_call G_law_cell_at (hr.mono (by decide)) (by rfl) T.m_law_cell_at T.F_law_cell_at.kp T.bb_law_cell_at .nil passE0 (pa_cons (pv 0) (pa_cons pe_int pa_nil))) pe_int) (fun _ _ => rfl)))
      (pss_cons (ps_set (i := 10) sc_law.nd rfl (Or.inl rfl) (pe_lstS (pa_cons (pe_callTy (call_listK K) (by rfl) T.b_list boot_list (pa_cons (pv 3) pa_nil)) (pa_cons (pe_callTy (call_listK K) (by rfl) T.b_list boot_list (pa_cons (pv 6) pa_nil)) pa_nil))))
      (pss_cons (ps_for PassesOwn.never rfl (pi_range1 (by rfl) T.b_range (pa_cons pe_int pa_nil)) (pg_name (i := 11) sc_law.nd rfl (Or.inl rfl)) (pss_cons (ps_if (pt_cmpR (op_neD K hr.units) (pe_call G_law_truths (hr.mono (by decide)) (by rfl) T.m_law_truths T.F_law_truths.kp T.bb_law_truths .nil passE0 (pa_cons (pv 11) (pa_cons (pv 3) (pa_cons (pv 6) (pa_cons (pv 9) pa_nil))))) (pe_lstS (pa_cons pe_bl (pa_cons pe_bl (pa_cons pe_bl (pa_cons pe_bl pa_nil))))) (nomark _)) (pss_one (ps_ret pe_bl)) pss_nil)
      (pss_cons (ps_if (pt_cmpR (op_neD K hr.units) (pe_call G_law_truths (hr.mono (by decide)) (by rfl) T.m_law_truths T.F_law_truths.kp T.bb_law_truths .nil passE0 (pa_cons (pv 11) (pa_cons (pv 4) (pa_cons (pv 6) (pa_cons (pv 9) pa_nil))))) (pe_lstS (pa_cons pe_bl (pa_cons pe_bl (pa_cons pe_bl (pa_cons pe_bl pa_nil))))) (nomark _)) (pss_one (ps_ret pe_bl)) pss_nil)
      (pss_cons (ps_if (pt_cmpR (op_neD K hr.units) (pe_call G_law_truths (hr.mono (by decide)) (by rfl) T.m_law_truths T.F_law_truths.kp T.bb_law_truths .nil passE0 (pa_cons (pv 11) (pa_cons (pv 4) (pa_cons (pv 5) (pa_cons (pv 9) pa_nil))))) (pe_lstS (pa_cons pe_bl (pa_cons pe_bl (pa_cons pe_bl (pa_cons pe_bl pa_nil))))) (nomark _)) (pss_one (ps_ret pe_bl)) pss_nil)
      (pss_one (ps_if (pt_cmpR (op_neD K hr.units) (pe_call G_law_truths (hr.mono (by decide)) (by rfl) T.m_law_truths T.F_law_truths.kp T.bb_law_truths .nil passE0 (pa_cons (pv 11) (pa_cons (pv 3) (pa_cons (pv 5) (pa_cons (pv 9) pa_nil))))) (pe_lstS pa_nil) (nomark _)) (pss_one (ps_ret pe_bl)) pss_nil))))))
      (pss_one (ps_ret (pe_cmpR (op_eqA K hr.units) (pe_lstS (pa_cons (pv 3) (pa_cons (pv 6) pa_nil))) (pv 10) (nomark _))))))))))))))), ?_⟩
    refine seq_cut2 (fun σ' H' => ∃ (mx : Int) (B : Addr) (ms : List Int), σ' = [some (.ref a), some (.int mx), some (.ref B), none, none, none, none, none, none, none, none, none] ∧ 0 ≤ mx ∧ SqL K H' a (ns.map V.int) ∧ H' B = some (.lst (ms.map V.int)) ∧ ms.Pairwise (· < ·) ∧ (∀ m ∈ ms, 1 ≤ m ∧ m ≤ 1000000000) ∧ ms.length ≤ 9 ∧ ms ≠ []) (fun N hN => ?_) ?_
    · refine ⟨_, rfl, a, ns, 0, rfl, hS, by decide, fun c => ⟨c, 1, rfl, by decide, by decide, fun mx mx0 _ => ?_⟩⟩
      exact ⟨_, rfl, mx, rfl, fun D ms H' h1 h2 h3 h4 h5 h6 h7 => hN _ _ ⟨mx, D, ms, rfl, mx0, h2.seq hS, h3, h4, h5, h6, h7⟩⟩
    clear hS
    rintro σ' H1 ⟨mx, B, ms, rfl, mx0, hS, hB, hpw, hms, hml, hne⟩
    have hri := cues_rise hpw
    have hul : (cuesOf ms).length = ms.length := List.length_map _
    have hune : cuesOf ms ≠ [] := fun z => hne (by unfold cuesOf at z; simpa using z)
    have hfo : ∀ u ∈ cuesOf ms, FoOk u.fo ∧ 1 ≤ u.n := fun u hu => by
      obtain ⟨m, hm, rfl⟩ := List.mem_map.mp hu
      exact ⟨.inl rfl, (hms m hm).1⟩
    have hpl : Plain (cuesOf ms) := fun u hu => by
      obtain ⟨m, hm, rfl⟩ := List.mem_map.mp hu
      rfl
    refine seq_cut (fun σ' H' => ∃ (C : Addr) (cs : List Addr), σ' = [some (.ref a), some (.int mx), some (.ref B), some (.ref C), none, none, none, none, none, none, none, none] ∧ Same H1 H' ∧ H' C = some (.lst (cs.map V.ref)) ∧ Cues0 A H' cs (cuesOf ms)) (fun N hN => ?_) ?_
    · refine ⟨_, rfl, B, rfl, ⟨_, SqL.of hB⟩, fun D hD => ?_⟩
      refine comp_ob (us := cuesOf ms) (fun u v H => ∃ c, v = V.ref c ∧ Cue0 A H c u.n u.st u.fo) (fun σ => ∃ z, σ = [z]) (fun H H' u v s ⟨c, e, h⟩ => ⟨c, e, h.keep s⟩) (SqL.of hB) hD (by rw [List.length_map]; omega) (by rw [List.length_map, hul]) ⟨none, rfl⟩ (fun i v u σ' G N2 hv hu ho sm ⟨ys, hy⟩ q => ?_) fun ys G sm hDl hp => ?_
      · obtain ⟨z, rfl⟩ := ho
        rw [List.getElem?_map] at hv
        unfold cuesOf at hu
        rw [List.getElem?_map] at hu
        cases hmi : ms[i]? with
        | none => rw [hmi] at hv; cases hv
        | some m =>
          rw [hmi] at hv hu
          obtain rfl : V.int m = v := by simpa using hv
          obtain rfl : cuOf m = u := by simpa using hu
          have hmm := hms m (List.mem_of_getElem? hmi)
          refine ⟨_, rfl, fun d1 h1 d2 h2 x dx nx ndx nex => ?_⟩
          have n12 : d1 ≠ d2 := by rintro rfl; rw [upd_same] at h2; cases h2
          have g1 : (upd (upd G d1 (.dT [])) d2 (.dT [])) d1 = some (.dT []) := by rw [upd_ne n12, upd_same]
          have g2 : (upd (upd G d1 (.dT [])) d2 (.dT [])) d2 = some (.dT []) := upd_same
          have sA : Same G (upd (upd G d1 (.dT [])) d2 (.dT [])) := (Same.new h1).trans (Same.new h2)
          generalize upd (upd G d1 (.dT [])) d2 (.dT []) = G2 at nx ndx g1 g2 sA ⊢
          have e1 : (upd (upd G2 dx (.own x)) x (.ins A.C_Part dx [])) d1 = some (.dT []) := by rw [upd_ne (ne_of_none g1 nx), upd_ne (ne_of_none g1 ndx)]; exact g1
          have e2 : (upd (upd G2 dx (.own x)) x (.ins A.C_Part dx [])) d2 = some (.dT []) := by rw [upd_ne (ne_of_none g2 nx), upd_ne (ne_of_none g2 ndx)]; exact g2
          refine ⟨x, dx, d1, d2, rfl, upd_same, e1, e2, fun H5 hP hk5 => ⟨rfl, (by show 1 ≤ 1000; decide), fun l hl c dc nc ndc nec => ?_⟩⟩
          have sB : Same G H5 := sA.trans (made_sm nx ndx hk5)
          have sC : Same H5 (upd H5 l (.lst [.ref x])) := Same.new hl
          have gl : (upd H5 l (.lst [.ref x])) l = some (.lst [.ref x]) := upd_same
          generalize upd H5 l (.lst [.ref x]) = G6 at nc ndc sC gl ⊢
          have sD : Same G6 (upd (upd G6 dc (.own c)) c (.ins A.C_Cue dc [])) := (Same.new ndc).upd nc
          refine ⟨c, dc, l, m, false, .non, [x], rfl, upd_same, hmm.1, hmm.2, .inl rfl, sD _ _ gl, (by show 1 ≤ 1; decide), (by show 1 ≤ 9; decide), fun p hp => ?_, fun H8 L hL hC8 hk8 => ⟨rfl, ?_⟩⟩
          · rw [List.mem_singleton] at hp; subst hp; exact hP.keep (sC.trans sD)
          · have sE : Same G H8 := (sB.trans sC).trans (made_sm nc ndc hk8)
            exact q _ _ _ ⟨c, rfl, hC8.hide (sE _ _ hy) (Ne.symm (ne_of_none (((sB.trans sC).trans sD) _ _ hy) hL))⟩ sE ⟨_, rfl⟩
      · obtain ⟨cs, rfl, hcs⟩ := refs_of hp
        exact hN _ _ ⟨D, cs, rfl, sm, hDl, hcs⟩
    rintro σ' H2 ⟨C, cs, rfl, sm2, hC, hcs⟩
    have hcl : cs.length = ms.length := by rw [Paired.length hcs, hul]
    have hcne : cs ≠ [] := fun z => by rw [z] at hcl; exact hne (List.length_eq_zero_iff.mp hcl.symm)
    have lc : (cs.map V.ref).length = cs.length := List.length_map _
    have hS2 := sm2.seq hS
    -- what is no list
    refine seq_cut (fun σ' H' => ∃ x : V, σ' = [some (.ref a), some (.int mx), some (.ref B), some (.ref C), some x, none, none, none, none, none, none, none] ∧ Same H2 H' ∧ NoL K A H' x) (fun N hN => ?_) ?_
    · refine ⟨_, rfl, C, _, rfl, .inl ⟨SqL.of hC, fun T1 hT1 => ?_⟩⟩
      have t1 := Same.new (o := HO.tup (cs.map V.ref)) hT1
      have u1 : (upd H2 T1 (HO.tup (cs.map V.ref))) T1 = some (HO.tup (cs.map V.ref)) := upd_same
      generalize upd H2 T1 (HO.tup (cs.map V.ref)) = G1 at t1 u1 ⊢
      intro d0 hd0
      have t2 := Same.new (o := HO.dT []) hd0
      have u2 : (upd G1 d0 (HO.dT [])) d0 = some (HO.dT []) := upd_same
      generalize upd G1 d0 (HO.dT []) = G2 at t2 u2 ⊢
      refine ⟨_, rfl, _, rfl, C, C, _, _, rfl, rfl, t2 _ _ (t1 _ _ hC), t2 _ _ (t1 _ _ hC), le_line (by rw [lc]; omega), fun CC hCC => ?_⟩
      have t3 := Same.new (o := HO.lst (cs.map V.ref ++ cs.map V.ref)) hCC
      have u3 : (upd G2 CC (HO.lst (cs.map V.ref ++ cs.map V.ref))) CC = some (HO.lst (cs.map V.ref ++ cs.map V.ref)) := upd_same
      generalize upd G2 CC (HO.lst (cs.map V.ref ++ cs.map V.ref)) = G3 at t3 u3 ⊢
      refine ⟨_, rfl, (by show 1 ≤ 1000; decide), fun N1 hN1 => ?_⟩
      have t4 := Same.new (o := HO.lst [V.non]) hN1
      have u4 : (upd G3 N1 (HO.lst [V.non])) N1 = some (HO.lst [V.non]) := upd_same
      generalize upd G3 N1 (HO.lst [V.non]) = G4 at t4 u4 ⊢
      have s4 := ((t1.trans t2).trans t3).trans t4
      refine ⟨C, N1, _, _, rfl, rfl, s4 _ _ hC, u4, le_line (by rw [lc]; simp; omega), fun CN hCN => ?_⟩
      have t5 := Same.new (o := HO.lst (cs.map V.ref ++ [V.non])) hCN
      have u5 : (upd G4 CN (HO.lst (cs.map V.ref ++ [V.non]))) CN = some (HO.lst (cs.map V.ref ++ [V.non])) := upd_same
      generalize upd G4 CN (HO.lst (cs.map V.ref ++ [V.non])) = G5 at t5 u5 ⊢
      have s5 := s4.trans t5
      refine ⟨_, rfl, _, rfl, C, C, _, _, rfl, rfl, s5 _ _ hC, s5 _ _ hC, le_line (by rw [lc]; omega), fun W hW => ?_⟩
      have t6 := Same.new (o := HO.lst (cs.map V.ref ++ cs.map V.ref)) hW
      have u6 : (upd G5 W (HO.lst (cs.map V.ref ++ cs.map V.ref))) W = some (HO.lst (cs.map V.ref ++ cs.map V.ref)) := upd_same
      generalize upd G5 W (HO.lst (cs.map V.ref ++ cs.map V.ref)) = G6 at t6 u6 ⊢
      refine ⟨W, _, rfl, SqL.of u6, fun RR hRR => ?_⟩
      have t7 := Same.new (o := HO.lst (cs.map V.ref ++ cs.map V.ref).reverse) hRR
      have u7 : (upd G6 RR (HO.lst (cs.map V.ref ++ cs.map V.ref).reverse)) RR = some (HO.lst (cs.map V.ref ++ cs.map V.ref).reverse) := upd_same
      generalize upd G6 RR (HO.lst (cs.map V.ref ++ cs.map V.ref).reverse) = G7 at t7 u7 ⊢
      refine ⟨(by show 6 ≤ 1000; decide), fun Ls hLs => ?_⟩
      generalize hys : [V.non, V.ref T1, V.ref d0, V.ref CC, V.ref CN, V.ref RR] = ys
      have t8 := Same.new (o := HO.lst ys) hLs
      have u8 : (upd G7 Ls (HO.lst ys)) Ls = some (HO.lst ys) := upd_same
      generalize upd G7 Ls (HO.lst ys) = G8 at t8 u8 ⊢
      have s67 := (t6.trans t7).trans t8
      have s8 := s5.trans s67
      have c8 := hcs.keep s8
      have tw := twice_no hune
      obtain ⟨x, hx, hat⟩ := menu6 (P := NoL K A G8) (x0 := V.non) (x1 := V.ref T1) (x2 := V.ref d0) (x3 := V.ref CC) (x4 := V.ref CN) (x5 := V.ref RR) (Int.emod_nonneg (mx / 9) (show (6 : Int) ≠ 0 by decide)) (Int.emod_lt_of_pos (mx / 9) (show (0 : Int) < 6 by decide))
        (.other _ "NoneType" .non kit_nl) (.other _ "tuple" (.tup (s67 _ _ (t5 _ _ (t4 _ _ (t3 _ _ (t2 _ _ u1)))))) kit_tl) (.other _ "dict" (.dT (s67 _ _ (t5 _ _ (t4 _ _ (t3 _ _ u2))))) kit_dl)
        (.fall CC (cs ++ cs) _ (by rw [List.map_append]; exact s67 _ _ (t5 _ _ (t4 _ _ u3))) (by rw [List.length_append]; omega) (paired_app c8 c8) tw.1)
        (.item CN cs _ (s67 _ _ u5) (by omega) c8)
        (.fall RR (cs ++ cs).reverse _ (by rw [List.map_reverse, List.map_append]; exact t8 _ _ u7) (by rw [List.length_reverse, List.length_append]; omega) (paired_rev (paired_app c8 c8)) tw.2)
      rw [hys] at hat
      exact ⟨_, rfl, _, _, rfl, rfl, ⟨by decide, by decide⟩, _, _, rfl, rfl, (by show (0 : Int) < 6; decide), Ls, _, _, _, rfl, rfl, SqL.of u8, hat, hN _ _ ⟨x, rfl, s8, hx⟩⟩
    rintro σ' H3 ⟨x, rfl, s3, hx⟩
    -- the deeds
    refine seq_cut2 (fun σ' H' => ∃ (D F : Addr) (ds es : List Dd), σ' = [some (.ref a), some (.int mx), some (.ref B), some (.ref C), some x, some (.ref D), some (.ref F), none, none, none, none, none] ∧ Same H3 H' ∧ DeedsAt H' D ds ∧ Slow ds ∧ ds.length ≤ 63 ∧ DeedsAt H' F es ∧ ¬ Slow es ∧ es ≠ [] ∧ es.length ≤ 70) (fun N hN => ?_) ?_
    · refine ⟨_, rfl, a, ns, rfl, s3.seq hS2, hlen, fun D ds H4 h1 h2 h3 h4 h5 h6 h7 => ?_⟩
      refine ⟨_, rfl, _, rfl, a, ns, 1, rfl, h2.seq (s3.seq hS2), by decide, fun c => ⟨c, 2, rfl, by decide, by decide, fun v v0 _ => ?_⟩⟩
      exact ⟨D, v, ds, rfl, h3, h5, h6, h7, v0, fun F es H5 e1 e2 e3 e4 e5 e6 => hN _ _ ⟨D, F, ds, es, rfl, h2.trans e2, h3.keep e2, h4, h7, e3, e4, e5, e6⟩⟩
    rintro σ' H4 ⟨D, F, ds, es, rfl, s4, hD, hsl, hd63, hF, hns, hen, he70⟩
    obtain ⟨bs, hFl, hFp⟩ := id hF
    have hbl : bs.length = es.length := Paired.length hFp
    have lb : (bs.map V.ref).length = bs.length := List.length_map _
    have hS4 := s4.seq (s3.seq hS2)
    -- the ticks, the moment
    refine seq_cut (fun σ' H' => ∃ Tk : Addr, σ' = [some (.ref a), some (.int mx), some (.ref B), some (.ref C), some x, some (.ref D), some (.ref F), some (.ref Tk), none, none, none, none] ∧ Same H4 H' ∧ H' Tk = some (.lst (es.map fun d => V.int d.tick))) (fun N hN => ?_) ?_
    · refine ⟨_, rfl, F, rfl, ⟨_, SqL.of hFl⟩, fun E hE => ?_⟩
      refine comp_pr (us := es) (fun d : Dd => V.int d.tick) (fun σ => ∃ z, σ = [z]) (SqL.of hFl) hE (by rw [lb]; omega) (by rw [lb]; exact hbl.symm) ⟨none, rfl⟩ (fun i v u σ' G N2 hv hu ho sm q => ?_) fun G sm hDl => hN _ _ ⟨E, rfl, sm, hDl⟩
      obtain ⟨z, rfl⟩ := ho
      rw [List.getElem?_map] at hv
      cases hbi : bs[i]? with
      | none => rw [hbi] at hv; cases hv
      | some b =>
        rw [hbi] at hv
        obtain rfl : V.ref b = v := by simpa using hv
        obtain ⟨d, hd, hb⟩ := paired_at hFp hbi
        rw [hu] at hd
        cases hd
        exact ⟨_, rfl, b, _, _, _, rfl, rfl, SqT.of (sm _ _ hb), atI_0 _ _, q _ _ (Same.refl _) ⟨_, rfl⟩⟩
    rintro σ' H5 ⟨Tk, rfl, s5, hTk⟩
    have hTk' : H5 Tk = some (.lst ((es.map Dd.tick).map V.int)) := by rw [hTk, List.map_map]; rfl
    have htn : es.map Dd.tick ≠ [] := fun z => hen (by simpa using z)
    refine seq_cut2 (fun σ' H' => ∃ (Tp : Addr) (top : Int), σ' = [some (.ref a), some (.int mx), some (.ref B), some (.ref C), some x, some (.ref D), some (.ref F), some (.ref Tk), some (.ref Tp), some (.int top), none, none] ∧ Same H5 H') (fun N hN => ?_) ?_
    · refine ⟨_, rfl, Tk, _, rfl, SqL.of hTk', htn, fun mn _ _ => ?_⟩
      refine ⟨_, rfl, Tk, _, rfl, SqL.of hTk', htn, fun m1 _ _ => ?_⟩
      refine ⟨_, rfl, Tk, _, rfl, SqL.of hTk', htn, fun m2 _ _ => ?_⟩
      refine ⟨_, _, rfl, rfl, _, rfl, _, _, rfl, rfl, (by show (0 : Int) < 5000; decide), _, _, rfl, rfl, (by show 4 ≤ 1000; decide), fun Tp hTp => ?_⟩
      have t1 := Same.new (o := HO.lst [V.int 0, V.int mn, V.int m1, V.int (m2 + 1 + mx % 5000)]) hTp
      refine ⟨_, rfl, _, rfl, a, ns, 2, rfl, t1.seq (s5.seq hS4), by decide, fun c => ?_⟩
      obtain ⟨tp, hat⟩ := menu4 (x0 := 0) (x1 := mn) (x2 := m1) (x3 := m2 + 1 + mx % 5000) (Int.emod_nonneg c (show (4 : Int) ≠ 0 by decide)) (Int.emod_lt_of_pos c (show (0 : Int) < 4 by decide))
      exact ⟨_, _, rfl, rfl, (by show (0 : Int) < 4; decide), Tp, _, _, _, rfl, rfl, SqL.of upd_same, hat, hN _ _ ⟨Tp, tp, rfl, t1⟩⟩
    rintro σ' H6 ⟨Tp, top, rfl, s6⟩
    have s26 := ((s3.trans s4).trans s5).trans s6
    have s46 := s5.trans s6
    refine seq_cut (fun σ' H' => ∃ (E C2 F2 : Addr), σ' = [some (.ref a), some (.int mx), some (.ref B), some (.ref C), some x, some (.ref D), some (.ref F), some (.ref Tk), some (.ref Tp), some (.int top), some (.ref E), none] ∧ Same H6 H' ∧ H' E = some (.lst [.ref C2, .ref F2]) ∧ H' C2 = some (.lst (cs.map V.ref)) ∧ H' F2 = some (.lst (bs.map V.ref))) (fun N hN => ?_) ?_
    · refine ⟨_, rfl, C, _, rfl, SqL.of (s26 _ _ hC), fun C2 hC2 => ?_⟩
      have t1 := Same.new (o := HO.lst (cs.map V.ref)) hC2
      refine ⟨_, rfl, F, _, rfl, SqL.of (t1 _ _ (s46 _ _ hFl)), fun F2 hF2 => ⟨(by show 2 ≤ 1000; decide), fun E hE => ?_⟩⟩
      have t2 := Same.new (o := HO.lst (bs.map V.ref)) hF2
      have t3 := Same.new (o := HO.lst [.ref C2, .ref F2]) hE
      exact hN _ _ ⟨E, C2, F2, rfl, (t1.trans t2).trans t3, upd_same, t3 _ _ (t2 _ _ upd_same), t3 _ _ upd_same⟩
    rintro σ' H7 ⟨E, C2, F2, rfl, s7, hE, hC2, hF2⟩
    have s27 := s26.trans s7
    have s47 := s46.trans s7
    have s37 := ((s4.trans s5).trans s6).trans s7
    have oL : Outc K A H7 (.ref C) F [.bl true, .bl true, .bl false, .bl false] := .late C F cs _ es (s27 _ _ hC) (hcs.keep s27) hri (by omega) (hF.keep s47) (by omega) hns
    have oN : ∀ L, Outc K A H7 x L [.bl true, .bl false, .bl true, .bl false] := fun L => .nol x L (hx.keep s37)
    have oG : Outc K A H7 (.ref C) D [] := .good C D cs _ ds (s27 _ _ hC) (hcs.keep s27) hri hcne (by omega) hfo hpl (hD.keep s47) (by omega) hsl
    refine seq_cut (fun σ' H' => ∃ v, σ' = [some (.ref a), some (.int mx), some (.ref B), some (.ref C), some x, some (.ref D), some (.ref F), some (.ref Tk), some (.ref Tp), some (.int top), some (.ref E), v] ∧ Same H7 H') (fun N hN => ?_) ?_
    · refine ⟨2, rfl, by decide, by decide, ?_⟩
      refine for_range (n := (2 : Int).toNat) (fun i σ' H' => ∃ v, σ' = [some (.ref a), some (.int mx), some (.ref B), some (.ref C), some x, some (.ref D), some (.ref F), some (.ref Tk), some (.ref Tp), some (.int top), some (.ref E), v] ∧ Same H7 H') ⟨_, rfl, Same.refl _⟩ ?_ ?_
      · rintro i σ' H8 hi ⟨v, rfl, sm⟩
        refine seq_cut (fun σ' H' => σ' = [some (.ref a), some (.int mx), some (.ref B), some (.ref C), some x, some (.ref D), some (.ref F), some (.ref Tk), some (.ref Tp), some (.int top), some (.ref E), some (.int (0 + (i : Int)))] ∧ Same H8 H') (fun N2 hN2 => ?_) ?_
        · refine ⟨_, rfl, _, rfl, _, rfl, _, rfl, _, _, F, top, _, rfl, oL.keep sm, fun M G sG hM => ⟨(by show 4 ≤ 1000; decide), fun R hR => ?_⟩⟩
          have tR := Same.new (o := HO.lst [V.bl true, V.bl true, V.bl false, V.bl false]) hR
          refine ⟨_, _, .lst (SqL.of (tR _ _ hM)) (are4 true true false false), .lst (SqL.of upd_same) (are4 true true false false), sh4 _ _ _ _, sh4 _ _ _ _, _, rfl, ?_⟩
          rw [eqv4]
          exact iteF (hN2 _ _ ⟨rfl, sG.trans tR⟩)
        rintro σ' H9 ⟨rfl, s9⟩
        refine seq_cut (fun σ' H' => σ' = [some (.ref a), some (.int mx), some (.ref B), some (.ref C), some x, some (.ref D), some (.ref F), some (.ref Tk), some (.ref Tp), some (.int top), some (.ref E), some (.int (0 + (i : Int)))] ∧ Same H9 H') (fun N2 hN2 => ?_) ?_
        · refine ⟨_, rfl, _, rfl, _, rfl, _, rfl, _, _, F, top, _, rfl, (oN F).keep (sm.trans s9), fun M G sG hM => ⟨(by show 4 ≤ 1000; decide), fun R hR => ?_⟩⟩
          have tR := Same.new (o := HO.lst [V.bl true, V.bl false, V.bl true, V.bl false]) hR
          refine ⟨_, _, .lst (SqL.of (tR _ _ hM)) (are4 true false true false), .lst (SqL.of upd_same) (are4 true false true false), sh4 _ _ _ _, sh4 _ _ _ _, _, rfl, ?_⟩
          rw [eqv4]
          exact iteF (hN2 _ _ ⟨rfl, sG.trans tR⟩)
        rintro σ' H10 ⟨rfl, s10⟩
        refine seq_cut (fun σ' H' => σ' = [some (.ref a), some (.int mx), some (.ref B), some (.ref C), some x, some (.ref D), some (.ref F), some (.ref Tk), some (.ref Tp), some (.int top), some (.ref E), some (.int (0 + (i : Int)))] ∧ Same H10 H') (fun N2 hN2 => ?_) ?_
        · refine ⟨_, rfl, _, rfl, _, rfl, _, rfl, _, _, D, top, _, rfl, (oN D).keep ((sm.trans s9).trans s10), fun M G sG hM => ⟨(by show 4 ≤ 1000; decide), fun R hR => ?_⟩⟩
          have tR := Same.new (o := HO.lst [V.bl true, V.bl false, V.bl true, V.bl false]) hR
          refine ⟨_, _, .lst (SqL.of (tR _ _ hM)) (are4 true false true false), .lst (SqL.of upd_same) (are4 true false true false), sh4 _ _ _ _, sh4 _ _ _ _, _, rfl, ?_⟩
          rw [eqv4]
          exact iteF (hN2 _ _ ⟨rfl, sG.trans tR⟩)
        rintro σ' H11 ⟨rfl, s11⟩
        have s711 := ((sm.trans s9).trans s10).trans s11
        refine ⟨_, rfl, _, rfl, _, rfl, _, rfl, _, _, D, top, _, rfl, oG.keep s711, fun M G sG hM => ⟨by decide, fun R hR => ?_⟩⟩
        have tR := Same.new (o := HO.lst []) hR
        refine ⟨_, _, .lst (SqL.of (tR _ _ hM)) .nil, .lst (SqL.of upd_same) .nil, rfl, rfl, _, rfl, ?_⟩
        rw [eqv0]
        exact iteF ⟨_, rfl, (s711.trans sG).trans tR⟩
      · rintro σ' H8 ⟨v, rfl, sm⟩
        exact hN _ _ ⟨v, rfl, sm⟩
    rintro σ' H8 ⟨v, rfl, s8⟩
    refine ⟨_, rfl, _, rfl, (by show 2 ≤ 1000; decide), fun q hq => ?_⟩
    have t1 := Same.new (o := HO.lst [V.ref C, V.ref F]) hq
    have s81 := s8.trans t1
    exact ⟨_, rfl, 1, q, E, _, _, by decide, rfl, rfl, SqL.of upd_same, SqL.of (s81 _ _ hE), .cons (.lst (SqL.of (s81 _ _ (s27 _ _ hC))) (SqL.of (s81 _ _ hC2)) (Als.refs cs)) (.cons (.lst (SqL.of (s81 _ _ (s47 _ _ hFl))) (SqL.of (s81 _ _ hF2)) (Als.refs bs)) .nil), k _⟩
theorem all_mk {l : PySem.W.OpenLaw} {w : World} {K : PySem.W.Frag} {h : Heap} {mg : Str → Option Value} (X : K.In h) (G : h.Ns mainGlobals mg) {C_NoCue : Addr} {C_Late : Addr} {C_NoList : Addr} {C_LampError : Addr} {C_Step : Addr} {C_Walk : Addr} {C_Cue : Addr} {C_Part : Addr} {fa : Addr} {f0 : Addr} {od0 an0 : Option Addr} {sl0 : Array (Option Value)} {oc0 kV0 dc0 pm0 cd0 ct0 : Value} {f1 : Addr} {od1 an1 : Option Addr} {sl1 : Array (Option Value)} {oc1 kV1 dc1 pm1 cd1 ct1 : Value} {f2 : Addr} {od2 an2 : Option Addr} {sl2 : Array (Option Value)} {oc2 kV2 dc2 pm2 cd2 ct2 : Value} {f3 : Addr} {od3 an3 : Option Addr} {sl3 : Array (Option Value)} {oc3 kV3 dc3 pm3 cd3 ct3 : Value} {f4 : Addr} {od4 an4 : Option Addr} {sl4 : Array (Option Value)} {oc4 kV4 dc4 pm4 cd4 ct4 : Value} {T4 : Addr} {tc4 : Value} {td4 : Option Addr} {tn4 : Nat} {tsl4 : Array (Option Value)} {tk4_0 tk4_1 tk4_2 : Tok} {f5 : Addr} {od5 an5 : Option Addr} {sl5 : Array (Option Value)} {oc5 kV5 dc5 pm5 cd5 ct5 : Value} {f6 : Addr} {od6 an6 : Option Addr} {sl6 : Array (Option Value)} {oc6 kV6 dc6 pm6 cd6 ct6 : Value} {f7 : Addr} {od7 an7 : Option Addr} {sl7 : Array (Option Value)} {oc7 kV7 dc7 pm7 cd7 ct7 : Value} {T7 : Addr} {tc7 : Value} {td7 : Option Addr} {tn7 : Nat} {tsl7 : Array (Option Value)} {f8 : Addr} {od8 an8 : Option Addr} {sl8 : Array (Option Value)} {oc8 kV8 dc8 pm8 cd8 ct8 : Value} {f9 : Addr} {od9 an9 : Option Addr} {sl9 : Array (Option Value)} {oc9 kV9 dc9 pm9 cd9 ct9 : Value} {f10 : Addr} {od10 an10 : Option Addr} {sl10 : Array (Option Value)} {oc10 kV10 dc10 pm10 cd10 ct10 : Value} {f11 : Addr} {od11 an11 : Option Addr} {sl11 : Array (Option Value)} {oc11 kV11 dc11 pm11 cd11 ct11 : Value} {f12 : Addr} {od12 an12 : Option Addr} {sl12 : Array (Option Value)} {oc12 kV12 dc12 pm12 cd12 ct12 : Value} {f13 : Addr} {od13 an13 : Option Addr} {sl13 : Array (Option Value)} {oc13 kV13 dc13 pm13 cd13 ct13 : Value} {f14 : Addr} {od14 an14 : Option Addr} {sl14 : Array (Option Value)} {oc14 kV14 dc14 pm14 cd14 ct14 : Value} {T14 : Addr} {tc14 : Value} {td14 : Option Addr} {tn14 : Nat} {tsl14 : Array (Option Value)} {tk14_0 : Tok} {f15 : Addr} {od15 an15 : Option Addr} {sl15 : Array (Option Value)} {oc15 kV15 dc15 pm15 cd15 ct15 : Value} {f16 : Addr} {od16 an16 : Option Addr} {sl16 : Array (Option Value)} {oc16 kV16 dc16 pm16 cd16 ct16 : Value} {f17 : Addr} {od17 an17 : Option Addr} {sl17 : Array (Option Value)} {oc17 kV17 dc17 pm17 cd17 ct17 : Value} {T17 : Addr} {tc17 : Value} {td17 : Option Addr} {tn17 : Nat} {tsl17 : Array (Option Value)} {tk17_0 : Tok} {f18 : Addr} {od18 an18 : Option Addr} {sl18 : Array (Option Value)} {oc18 kV18 dc18 pm18 cd18 ct18 : Value} {f19 : Addr} {od19 an19 : Option Addr} {sl19 : Array (Option Value)} {oc19 kV19 dc19 pm19 cd19 ct19 : Value} {f20 : Addr} {od20 an20 : Option Addr} {sl20 : Array (Option Value)} {oc20 kV20 dc20 pm20 cd20 ct20 : Value} {f21 : Addr} {od21 an21 : Option Addr} {sl21 : Array (Option Value)} {oc21 kV21 dc21 pm21 cd21 ct21 : Value} {f22 : Addr} {od22 an22 : Option Addr} {sl22 : Array (Option Value)} {oc22 kV22 dc22 pm22 cd22 ct22 : Value} {f23 : Addr} {od23 an23 : Option Addr} {sl23 : Array (Option Value)} {oc23 kV23 dc23 pm23 cd23 ct23 : Value} {f24 : Addr} {od24 an24 : Option Addr} {sl24 : Array (Option Value)} {oc24 kV24 dc24 pm24 cd24 ct24 : Value} {f25 : Addr} {od25 an25 : Option Addr} {sl25 : Array (Option Value)} {oc25 kV25 dc25 pm25 cd25 ct25 : Value} {f26 : Addr} {od26 an26 : Option Addr} {sl26 : Array (Option Value)} {oc26 kV26 dc26 pm26 cd26 ct26 : Value} {T26 : Addr} {tc26 : Value} {td26 : Option Addr} {tn26 : Nat} {tsl26 : Array (Option Value)} {tk26_0 : Tok} {f27 : Addr} {od27 an27 : Option Addr} {sl27 : Array (Option Value)} {oc27 kV27 dc27 pm27 cd27 ct27 : Value} {f28 : Addr} {od28 an28 : Option Addr} {sl28 : Array (Option Value)} {oc28 kV28 dc28 pm28 cd28 ct28 : Value} {f29 : Addr} {od29 an29 : Option Addr} {sl29 : Array (Option Value)} {oc29 kV29 dc29 pm29 cd29 ct29 : Value} {f30 : Addr} {od30 an30 : Option Addr} {sl30 : Array (Option Value)} {oc30 kV30 dc30 pm30 cd30 ct30 : Value} {f31 : Addr} {od31 an31 : Option Addr} {sl31 : Array (Option Value)} {oc31 kV31 dc31 pm31 cd31 ct31 : Value} {f32 : Addr} {od32 an32 : Option Addr} {sl32 : Array (Option Value)} {oc32 kV32 dc32 pm32 cd32 ct32 : Value} {f33 : Addr} {od33 an33 : Option Addr} {sl33 : Array (Option Value)} {oc33 kV33 dc33 pm33 cd33 ct33 : Value} {f34 : Addr} {od34 an34 : Option Addr} {sl34 : Array (Option Value)} {oc34 kV34 dc34 pm34 cd34 ct34 : Value} {T34 : Addr} {tc34 : Value} {td34 : Option Addr} {tn34 : Nat} {tsl34 : Array (Option Value)} {tk34_0 : Tok} {f35 : Addr} {od35 an35 : Option Addr} {sl35 : Array (Option Value)} {oc35 kV35 dc35 pm35 cd35 ct35 : Value} {f36 : Addr} {od36 an36 : Option Addr} {sl36 : Array (Option Value)} {oc36 kV36 dc36 pm36 cd36 ct36 : Value} {f37 : Addr} {od37 an37 : Option Addr} {sl37 : Array (Option Value)} {oc37 kV37 dc37 pm37 cd37 ct37 : Value} {f38 : Addr} {od38 an38 : Option Addr} {sl38 : Array (Option Value)} {oc38 kV38 dc38 pm38 cd38 ct38 : Value} {f39 : Addr} {od39 an39 : Option Addr} {sl39 : Array (Option Value)} {oc39 kV39 dc39 pm39 cd39 ct39 : Value} {f40 : Addr} {od40 an40 : Option Addr} {sl40 : Array (Option Value)} {oc40 kV40 dc40 pm40 cd40 ct40 : Value} {f41 : Addr} {od41 an41 : Option Addr} {sl41 : Array (Option Value)} {oc41 kV41 dc41 pm41 cd41 ct41 : Value} {f42 : Addr} {od42 an42 : Option Addr} {sl42 : Array (Option Value)} {oc42 kV42 dc42 pm42 cd42 ct42 : Value} {tkc_MOST_TICKS : Tok} {tkc_MOST_NUMBER : Tok} {tkc_MOST_PARTS : Tok} (hfa : mg "law" = some (.ref fa))
    (aC_LampError : PySem.W.nsIn K mainGlobals "LampError" = some (some (.ref C_LampError)))
    (aC_NoList : PySem.W.nsIn K mainGlobals "NoList" = some (some (.ref C_NoList)))
    (aC_Late : PySem.W.nsIn K mainGlobals "Late" = some (some (.ref C_Late)))
    (aC_NoCue : PySem.W.nsIn K mainGlobals "NoCue" = some (some (.ref C_NoCue)))
    (aC_Part : PySem.W.nsIn K mainGlobals "Part" = some (some (.ref C_Part)))
    (aC_Cue : PySem.W.nsIn K mainGlobals "Cue" = some (some (.ref C_Cue)))
    (aC_Walk : PySem.W.nsIn K mainGlobals "Walk" = some (some (.ref C_Walk)))
    (aC_Step : PySem.W.nsIn K mainGlobals "Step" = some (some (.ref C_Step)))
    (a0 : PySem.W.nsIn K mainGlobals "is_whole" = some (some (.ref f0)))
    (l0 : K.lookup f0 = some ⟨oc0, od0, .func (PySem.W.fnOf "is_whole" "is_whole" (defArgs s_is_whole) (defBody s_is_whole) (defScope s_is_whole) .none kV0 dc0 pm0 an0 cd0 ct0), sl0⟩)
    (c0 : PySem.W.codeIn K cd0 "is_whole" = true)
    (k0 : PySem.W.keepIn K (.ref f0) = true)
    (a1 : PySem.W.nsIn K mainGlobals "is_time" = some (some (.ref f1)))
    (l1 : K.lookup f1 = some ⟨oc1, od1, .func (PySem.W.fnOf "is_time" "is_time" (defArgs s_is_time) (defBody s_is_time) (defScope s_is_time) .none kV1 dc1 pm1 an1 cd1 ct1), sl1⟩)
    (c1 : PySem.W.codeIn K cd1 "is_time" = true)
    (k1 : PySem.W.keepIn K (.ref f1) = true)
    (a2 : PySem.W.nsIn K mainGlobals "is_cue_number" = some (some (.ref f2)))
    (l2 : K.lookup f2 = some ⟨oc2, od2, .func (PySem.W.fnOf "is_cue_number" "is_cue_number" (defArgs s_is_cue_number) (defBody s_is_cue_number) (defScope s_is_cue_number) .none kV2 dc2 pm2 an2 cd2 ct2), sl2⟩)
    (c2 : PySem.W.codeIn K cd2 "is_cue_number" = true)
    (k2 : PySem.W.keepIn K (.ref f2) = true)
    (a3 : PySem.W.nsIn K mainGlobals "has_slots_as_keys" = some (some (.ref f3)))
    (l3 : K.lookup f3 = some ⟨oc3, od3, .func (PySem.W.fnOf "has_slots_as_keys" "has_slots_as_keys" (defArgs s_has_slots_as_keys) (defBody s_has_slots_as_keys) (defScope s_has_slots_as_keys) .none kV3 dc3 pm3 an3 cd3 ct3), sl3⟩)
    (c3 : PySem.W.codeIn K cd3 "has_slots_as_keys" = true)
    (k3 : PySem.W.keepIn K (.ref f3) = true)
    (a4 : PySem.W.findIn K (.ref C_Part) "__init__" = some (some (.ref f4)))
    (i4 : PySem.W.isFn K (.ref f4) = true)
    (l4 : K.lookup f4 = some ⟨oc4, od4, .func (PySem.W.fnOf "__init__" "Part.__init__" (defArgs s_Part_init) (defBody s_Part_init) (defScope s_Part_init) (.ref T4) kV4 dc4 pm4 an4 cd4 ct4), sl4⟩)
    (c4 : PySem.W.codeIn K cd4 "Part.__init__" = true)
    (k4 : PySem.W.keepIn K (.ref f4) = true)
    (t4 : K.lookup T4 = some ⟨tc4, td4, .seq ([.int 0 tk4_0, .int 0 tk4_1, .int 0 tk4_2] : List Value).toArray tn4, tsl4⟩)
    (a5 : PySem.W.findIn K (.ref C_Part) "told_slots" = some (some (.ref f5)))
    (i5 : PySem.W.isFn K (.ref f5) = true)
    (l5 : K.lookup f5 = some ⟨oc5, od5, .func (PySem.W.fnOf "told_slots" "Part.told_slots" (defArgs s_Part_told_slots) (defBody s_Part_told_slots) (defScope s_Part_told_slots) .none kV5 dc5 pm5 an5 cd5 ct5), sl5⟩)
    (c5 : PySem.W.codeIn K cd5 "Part.told_slots" = true)
    (k5 : PySem.W.keepIn K (.ref f5) = true)
    (a6 : PySem.W.nsIn K mainGlobals "is_part_list" = some (some (.ref f6)))
    (l6 : K.lookup f6 = some ⟨oc6, od6, .func (PySem.W.fnOf "is_part_list" "is_part_list" (defArgs s_is_part_list) (defBody s_is_part_list) (defScope s_is_part_list) .none kV6 dc6 pm6 an6 cd6 ct6), sl6⟩)
    (c6 : PySem.W.codeIn K cd6 "is_part_list" = true)
    (k6 : PySem.W.keepIn K (.ref f6) = true)
    (a7 : PySem.W.findIn K (.ref C_Cue) "__init__" = some (some (.ref f7)))
    (i7 : PySem.W.isFn K (.ref f7) = true)
    (l7 : K.lookup f7 = some ⟨oc7, od7, .func (PySem.W.fnOf "__init__" "Cue.__init__" (defArgs s_Cue_init) (defBody s_Cue_init) (defScope s_Cue_init) (.ref T7) kV7 dc7 pm7 an7 cd7 ct7), sl7⟩)
    (c7 : PySem.W.codeIn K cd7 "Cue.__init__" = true)
    (k7 : PySem.W.keepIn K (.ref f7) = true)
    (t7 : K.lookup T7 = some ⟨tc7, td7, .seq ([.bool false, .none] : List Value).toArray tn7, tsl7⟩)
    (a8 : PySem.W.nsIn K mainGlobals "cue_list" = some (some (.ref f8)))
    (l8 : K.lookup f8 = some ⟨oc8, od8, .func (PySem.W.fnOf "cue_list" "cue_list" (defArgs s_cue_list) (defBody s_cue_list) (defScope s_cue_list) .none kV8 dc8 pm8 an8 cd8 ct8), sl8⟩)
    (c8 : PySem.W.codeIn K cd8 "cue_list" = true)
    (k8 : PySem.W.keepIn K (.ref f8) = true)
    (a9 : PySem.W.nsIn K mainGlobals "checked" = some (some (.ref f9)))
    (l9 : K.lookup f9 = some ⟨oc9, od9, .func (PySem.W.fnOf "checked" "checked" (defArgs s_checked) (defBody s_checked) (defScope s_checked) .none kV9 dc9 pm9 an9 cd9 ct9), sl9⟩)
    (c9 : PySem.W.codeIn K cd9 "checked" = true)
    (k9 : PySem.W.keepIn K (.ref f9) = true)
    (a10 : PySem.W.nsIn K mainGlobals "above" = some (some (.ref f10)))
    (l10 : K.lookup f10 = some ⟨oc10, od10, .func (PySem.W.fnOf "above" "above" (defArgs s_above) (defBody s_above) (defScope s_above) .none kV10 dc10 pm10 an10 cd10 ct10), sl10⟩)
    (c10 : PySem.W.codeIn K cd10 "above" = true)
    (k10 : PySem.W.keepIn K (.ref f10) = true)
    (a11 : PySem.W.nsIn K mainGlobals "below" = some (some (.ref f11)))
    (l11 : K.lookup f11 = some ⟨oc11, od11, .func (PySem.W.fnOf "below" "below" (defArgs s_below) (defBody s_below) (defScope s_below) .none kV11 dc11 pm11 an11 cd11 ct11), sl11⟩)
    (c11 : PySem.W.codeIn K cd11 "below" = true)
    (k11 : PySem.W.keepIn K (.ref f11) = true)
    (a12 : PySem.W.nsIn K mainGlobals "cue_at" = some (some (.ref f12)))
    (l12 : K.lookup f12 = some ⟨oc12, od12, .func (PySem.W.fnOf "cue_at" "cue_at" (defArgs s_cue_at) (defBody s_cue_at) (defScope s_cue_at) .none kV12 dc12 pm12 an12 cd12 ct12), sl12⟩)
    (c12 : PySem.W.codeIn K cd12 "cue_at" = true)
    (k12 : PySem.W.keepIn K (.ref f12) = true)
    (a13 : PySem.W.findIn K (.ref C_Walk) "__init__" = some (some (.ref f13)))
    (i13 : PySem.W.isFn K (.ref f13) = true)
    (l13 : K.lookup f13 = some ⟨oc13, od13, .func (PySem.W.fnOf "__init__" "Walk.__init__" (defArgs s_Walk_init) (defBody s_Walk_init) (defScope s_Walk_init) .none kV13 dc13 pm13 an13 cd13 ct13), sl13⟩)
    (c13 : PySem.W.codeIn K cd13 "Walk.__init__" = true)
    (k13 : PySem.W.keepIn K (.ref f13) = true)
    (a14 : PySem.W.findIn K (.ref C_Walk) "clock_top" = some (some (.ref f14)))
    (i14 : PySem.W.isFn K (.ref f14) = true)
    (l14 : K.lookup f14 = some ⟨oc14, od14, .func (PySem.W.fnOf "clock_top" "Walk.clock_top" (defArgs s_Walk_clock_top) (defBody s_Walk_clock_top) (defScope s_Walk_clock_top) (.ref T14) kV14 dc14 pm14 an14 cd14 ct14), sl14⟩)
    (c14 : PySem.W.codeIn K cd14 "Walk.clock_top" = true)
    (k14 : PySem.W.keepIn K (.ref f14) = true)
    (t14 : K.lookup T14 = some ⟨tc14, td14, .seq ([.int 1 tk14_0] : List Value).toArray tn14, tsl14⟩)
    (a15 : PySem.W.findIn K (.ref C_Walk) "note" = some (some (.ref f15)))
    (i15 : PySem.W.isFn K (.ref f15) = true)
    (l15 : K.lookup f15 = some ⟨oc15, od15, .func (PySem.W.fnOf "note" "Walk.note" (defArgs s_Walk_note) (defBody s_Walk_note) (defScope s_Walk_note) .none kV15 dc15 pm15 an15 cd15 ct15), sl15⟩)
    (c15 : PySem.W.codeIn K cd15 "Walk.note" = true)
    (k15 : PySem.W.keepIn K (.ref f15) = true)
    (a16 : PySem.W.findIn K (.ref C_Walk) "arrive" = some (some (.ref f16)))
    (i16 : PySem.W.isFn K (.ref f16) = true)
    (l16 : K.lookup f16 = some ⟨oc16, od16, .func (PySem.W.fnOf "arrive" "Walk.arrive" (defArgs s_Walk_arrive) (defBody s_Walk_arrive) (defScope s_Walk_arrive) .none kV16 dc16 pm16 an16 cd16 ct16), sl16⟩)
    (c16 : PySem.W.codeIn K cd16 "Walk.arrive" = true)
    (k16 : PySem.W.keepIn K (.ref f16) = true)
    (a17 : PySem.W.findIn K (.ref C_Walk) "come_to" = some (some (.ref f17)))
    (i17 : PySem.W.isFn K (.ref f17) = true)
    (l17 : K.lookup f17 = some ⟨oc17, od17, .func (PySem.W.fnOf "come_to" "Walk.come_to" (defArgs s_Walk_come_to) (defBody s_Walk_come_to) (defScope s_Walk_come_to) (.ref T17) kV17 dc17 pm17 an17 cd17 ct17), sl17⟩)
    (c17 : PySem.W.codeIn K cd17 "Walk.come_to" = true)
    (k17 : PySem.W.keepIn K (.ref f17) = true)
    (t17 : K.lookup T17 = some ⟨tc17, td17, .seq ([.int 1 tk17_0] : List Value).toArray tn17, tsl17⟩)
    (a18 : PySem.W.findIn K (.ref C_Walk) "on" = some (some (.ref f18)))
    (i18 : PySem.W.isFn K (.ref f18) = true)
    (l18 : K.lookup f18 = some ⟨oc18, od18, .func (PySem.W.fnOf "on" "Walk.on" (defArgs s_Walk_on) (defBody s_Walk_on) (defScope s_Walk_on) .none kV18 dc18 pm18 an18 cd18 ct18), sl18⟩)
    (c18 : PySem.W.codeIn K cd18 "Walk.on" = true)
    (k18 : PySem.W.keepIn K (.ref f18) = true)
    (a19 : PySem.W.findIn K (.ref C_Walk) "stop" = some (some (.ref f19)))
    (i19 : PySem.W.isFn K (.ref f19) = true)
    (l19 : K.lookup f19 = some ⟨oc19, od19, .func (PySem.W.fnOf "stop" "Walk.stop" (defArgs s_Walk_stop) (defBody s_Walk_stop) (defScope s_Walk_stop) .none kV19 dc19 pm19 an19 cd19 ct19), sl19⟩)
    (c19 : PySem.W.codeIn K cd19 "Walk.stop" = true)
    (k19 : PySem.W.keepIn K (.ref f19) = true)
    (a20 : PySem.W.nsIn K mainGlobals "has_cue" = some (some (.ref f20)))
    (l20 : K.lookup f20 = some ⟨oc20, od20, .func (PySem.W.fnOf "has_cue" "has_cue" (defArgs s_has_cue) (defBody s_has_cue) (defScope s_has_cue) .none kV20 dc20 pm20 an20 cd20 ct20), sl20⟩)
    (c20 : PySem.W.codeIn K cd20 "has_cue" = true)
    (k20 : PySem.W.keepIn K (.ref f20) = true)
    (a21 : PySem.W.findIn K (.ref C_Walk) "goto" = some (some (.ref f21)))
    (i21 : PySem.W.isFn K (.ref f21) = true)
    (l21 : K.lookup f21 = some ⟨oc21, od21, .func (PySem.W.fnOf "goto" "Walk.goto" (defArgs s_Walk_goto) (defBody s_Walk_goto) (defScope s_Walk_goto) .none kV21 dc21 pm21 an21 cd21 ct21), sl21⟩)
    (c21 : PySem.W.codeIn K cd21 "Walk.goto" = true)
    (k21 : PySem.W.keepIn K (.ref f21) = true)
    (a22 : PySem.W.findIn K (.ref C_Walk) "go" = some (some (.ref f22)))
    (i22 : PySem.W.isFn K (.ref f22) = true)
    (l22 : K.lookup f22 = some ⟨oc22, od22, .func (PySem.W.fnOf "go" "Walk.go" (defArgs s_Walk_go) (defBody s_Walk_go) (defScope s_Walk_go) .none kV22 dc22 pm22 an22 cd22 ct22), sl22⟩)
    (c22 : PySem.W.codeIn K cd22 "Walk.go" = true)
    (k22 : PySem.W.keepIn K (.ref f22) = true)
    (a23 : PySem.W.findIn K (.ref C_Walk) "back" = some (some (.ref f23)))
    (i23 : PySem.W.isFn K (.ref f23) = true)
    (l23 : K.lookup f23 = some ⟨oc23, od23, .func (PySem.W.fnOf "back" "Walk.back" (defArgs s_Walk_back) (defBody s_Walk_back) (defScope s_Walk_back) .none kV23 dc23 pm23 an23 cd23 ct23), sl23⟩)
    (c23 : PySem.W.codeIn K cd23 "Walk.back" = true)
    (k23 : PySem.W.keepIn K (.ref f23) = true)
    (a24 : PySem.W.nsIn K mainGlobals "do_deed" = some (some (.ref f24)))
    (l24 : K.lookup f24 = some ⟨oc24, od24, .func (PySem.W.fnOf "do_deed" "do_deed" (defArgs s_do_deed) (defBody s_do_deed) (defScope s_do_deed) .none kV24 dc24 pm24 an24 cd24 ct24), sl24⟩)
    (c24 : PySem.W.codeIn K cd24 "do_deed" = true)
    (k24 : PySem.W.keepIn K (.ref f24) = true)
    (a25 : PySem.W.nsIn K mainGlobals "refuse_falling" = some (some (.ref f25)))
    (l25 : K.lookup f25 = some ⟨oc25, od25, .func (PySem.W.fnOf "refuse_falling" "refuse_falling" (defArgs s_refuse_falling) (defBody s_refuse_falling) (defScope s_refuse_falling) .none kV25 dc25 pm25 an25 cd25 ct25), sl25⟩)
    (c25 : PySem.W.codeIn K cd25 "refuse_falling" = true)
    (k25 : PySem.W.keepIn K (.ref f25) = true)
    (a26 : PySem.W.nsIn K mainGlobals "rows_of" = some (some (.ref f26)))
    (l26 : K.lookup f26 = some ⟨oc26, od26, .func (PySem.W.fnOf "rows_of" "rows_of" (defArgs s_rows_of) (defBody s_rows_of) (defScope s_rows_of) (.ref T26) kV26 dc26 pm26 an26 cd26 ct26), sl26⟩)
    (c26 : PySem.W.codeIn K cd26 "rows_of" = true)
    (k26 : PySem.W.keepIn K (.ref f26) = true)
    (t26 : K.lookup T26 = some ⟨tc26, td26, .seq ([.int 1 tk26_0] : List Value).toArray tn26, tsl26⟩)
    (a27 : PySem.W.nsIn K mainGlobals "put_in" = some (some (.ref f27)))
    (l27 : K.lookup f27 = some ⟨oc27, od27, .func (PySem.W.fnOf "put_in" "put_in" (defArgs s_put_in) (defBody s_put_in) (defScope s_put_in) .none kV27 dc27 pm27 an27 cd27 ct27), sl27⟩)
    (c27 : PySem.W.codeIn K cd27 "put_in" = true)
    (k27 : PySem.W.keepIn K (.ref f27) = true)
    (a28 : PySem.W.nsIn K mainGlobals "carried" = some (some (.ref f28)))
    (l28 : K.lookup f28 = some ⟨oc28, od28, .func (PySem.W.fnOf "carried" "carried" (defArgs s_carried) (defBody s_carried) (defScope s_carried) .none kV28 dc28 pm28 an28 cd28 ct28), sl28⟩)
    (c28 : PySem.W.codeIn K cd28 "carried" = true)
    (k28 : PySem.W.keepIn K (.ref f28) = true)
    (a29 : PySem.W.nsIn K mainGlobals "shown" = some (some (.ref f29)))
    (l29 : K.lookup f29 = some ⟨oc29, od29, .func (PySem.W.fnOf "shown" "shown" (defArgs s_shown) (defBody s_shown) (defScope s_shown) .none kV29 dc29 pm29 an29 cd29 ct29), sl29⟩)
    (c29 : PySem.W.codeIn K cd29 "shown" = true)
    (k29 : PySem.W.keepIn K (.ref f29) = true)
    (a30 : PySem.W.findIn K (.ref C_Step) "__init__" = some (some (.ref f30)))
    (i30 : PySem.W.isFn K (.ref f30) = true)
    (l30 : K.lookup f30 = some ⟨oc30, od30, .func (PySem.W.fnOf "__init__" "Step.__init__" (defArgs s_Step_init) (defBody s_Step_init) (defScope s_Step_init) .none kV30 dc30 pm30 an30 cd30 ct30), sl30⟩)
    (c30 : PySem.W.codeIn K cd30 "Step.__init__" = true)
    (k30 : PySem.W.keepIn K (.ref f30) = true)
    (a31 : PySem.W.nsIn K mainGlobals "steps_of" = some (some (.ref f31)))
    (l31 : K.lookup f31 = some ⟨oc31, od31, .func (PySem.W.fnOf "steps_of" "steps_of" (defArgs s_steps_of) (defBody s_steps_of) (defScope s_steps_of) .none kV31 dc31 pm31 an31 cd31 ct31), sl31⟩)
    (c31 : PySem.W.codeIn K cd31 "steps_of" = true)
    (k31 : PySem.W.keepIn K (.ref f31) = true)
    (a32 : PySem.W.nsIn K mainGlobals "tell_rows" = some (some (.ref f32)))
    (l32 : K.lookup f32 = some ⟨oc32, od32, .func (PySem.W.fnOf "tell_rows" "tell_rows" (defArgs s_tell_rows) (defBody s_tell_rows) (defScope s_tell_rows) .none kV32 dc32 pm32 an32 cd32 ct32), sl32⟩)
    (c32 : PySem.W.codeIn K cd32 "tell_rows" = true)
    (k32 : PySem.W.keepIn K (.ref f32) = true)
    (a33 : PySem.W.nsIn K mainGlobals "look_at" = some (some (.ref f33)))
    (l33 : K.lookup f33 = some ⟨oc33, od33, .func (PySem.W.fnOf "look_at" "look_at" (defArgs s_look_at) (defBody s_look_at) (defScope s_look_at) .none kV33 dc33 pm33 an33 cd33 ct33), sl33⟩)
    (c33 : PySem.W.codeIn K cd33 "look_at" = true)
    (k33 : PySem.W.keepIn K (.ref f33) = true)
    (a34 : PySem.W.nsIn K mainGlobals "told" = some (some (.ref f34)))
    (l34 : K.lookup f34 = some ⟨oc34, od34, .func (PySem.W.fnOf "told" "told" (defArgs s_told) (defBody s_told) (defScope s_told) (.ref T34) kV34 dc34 pm34 an34 cd34 ct34), sl34⟩)
    (c34 : PySem.W.codeIn K cd34 "told" = true)
    (k34 : PySem.W.keepIn K (.ref f34) = true)
    (t34 : K.lookup T34 = some ⟨tc34, td34, .seq ([.int 1 tk34_0] : List Value).toArray tn34, tsl34⟩)
    (a35 : PySem.W.nsIn K mainGlobals "_law_cell_at" = some (some (.ref f35)))
    (l35 : K.lookup f35 = some ⟨oc35, od35, .func (PySem.W.fnOf "_law_cell_at" "_law_cell_at" (defArgs s_law_cell_at) (defBody s_law_cell_at) (defScope s_law_cell_at) .none kV35 dc35 pm35 an35 cd35 ct35), sl35⟩)
    (c35 : PySem.W.codeIn K cd35 "_law_cell_at" = true)
    (k35 : PySem.W.keepIn K (.ref f35) = true)
    (a36 : PySem.W.nsIn K mainGlobals "_law_mixed" = some (some (.ref f36)))
    (l36 : K.lookup f36 = some ⟨oc36, od36, .func (PySem.W.fnOf "_law_mixed" "_law_mixed" (defArgs s_law_mixed) (defBody s_law_mixed) (defScope s_law_mixed) .none kV36 dc36 pm36 an36 cd36 ct36), sl36⟩)
    (c36 : PySem.W.codeIn K cd36 "_law_mixed" = true)
    (k36 : PySem.W.keepIn K (.ref f36) = true)
    (a37 : PySem.W.nsIn K mainGlobals "_law_time" = some (some (.ref f37)))
    (l37 : K.lookup f37 = some ⟨oc37, od37, .func (PySem.W.fnOf "_law_time" "_law_time" (defArgs s_law_time) (defBody s_law_time) (defScope s_law_time) .none kV37 dc37 pm37 an37 cd37 ct37), sl37⟩)
    (c37 : PySem.W.codeIn K cd37 "_law_time" = true)
    (k37 : PySem.W.keepIn K (.ref f37) = true)
    (a38 : PySem.W.nsIn K mainGlobals "_law_numbers" = some (some (.ref f38)))
    (l38 : K.lookup f38 = some ⟨oc38, od38, .func (PySem.W.fnOf "_law_numbers" "_law_numbers" (defArgs s_law_numbers) (defBody s_law_numbers) (defScope s_law_numbers) .none kV38 dc38 pm38 an38 cd38 ct38), sl38⟩)
    (c38 : PySem.W.codeIn K cd38 "_law_numbers" = true)
    (k38 : PySem.W.keepIn K (.ref f38) = true)
    (a39 : PySem.W.nsIn K mainGlobals "_law_deeds" = some (some (.ref f39)))
    (l39 : K.lookup f39 = some ⟨oc39, od39, .func (PySem.W.fnOf "_law_deeds" "_law_deeds" (defArgs s_law_deeds) (defBody s_law_deeds) (defScope s_law_deeds) .none kV39 dc39 pm39 an39 cd39 ct39), sl39⟩)
    (c39 : PySem.W.codeIn K cd39 "_law_deeds" = true)
    (k39 : PySem.W.keepIn K (.ref f39) = true)
    (a40 : PySem.W.nsIn K mainGlobals "_law_fallen" = some (some (.ref f40)))
    (l40 : K.lookup f40 = some ⟨oc40, od40, .func (PySem.W.fnOf "_law_fallen" "_law_fallen" (defArgs s_law_fallen) (defBody s_law_fallen) (defScope s_law_fallen) .none kV40 dc40 pm40 an40 cd40 ct40), sl40⟩)
    (c40 : PySem.W.codeIn K cd40 "_law_fallen" = true)
    (k40 : PySem.W.keepIn K (.ref f40) = true)
    (a41 : PySem.W.nsIn K mainGlobals "_law_truths" = some (some (.ref f41)))
    (l41 : K.lookup f41 = some ⟨oc41, od41, .func (PySem.W.fnOf "_law_truths" "_law_truths" (defArgs s_law_truths) (defBody s_law_truths) (defScope s_law_truths) .none kV41 dc41 pm41 an41 cd41 ct41), sl41⟩)
    (c41 : PySem.W.codeIn K cd41 "_law_truths" = true)
    (k41 : PySem.W.keepIn K (.ref f41) = true)
    (a42 : PySem.W.nsIn K mainGlobals "law" = some (some (.ref f42)))
    (l42 : K.lookup f42 = some ⟨oc42, od42, .func (PySem.W.fnOf "law" "law" (defArgs s_law) (defBody s_law) (defScope s_law) .none kV42 dc42 pm42 an42 cd42 ct42), sl42⟩)
    (c42 : PySem.W.codeIn K cd42 "law" = true)
    (k42 : PySem.W.keepIn K (.ref f42) = true)
    (pg_Part : PySem.W.plainGet K C_Part Str.empty = true)
    (hd_Part : PySem.W.hasDictIn K C_Part = true)
    (po_Part : PySem.W.plainOver K C_Part = true)
    (sa_Part : PySem.W.findIn K (.ref C_Part) "__setattr__" = some (some (.builtin "object.__setattr__")))
    (mk_Part : PySem.W.makesIn K C_Part = true)
    (kc_Part : PySem.W.keepIn K (.ref C_Part) = true)
    (na_Part_tells : PySem.W.findIn K (.ref C_Part) "tells" = some none)
    (na_Part_alone : PySem.W.findIn K (.ref C_Part) "alone" = some none)
    (na_Part_rise : PySem.W.findIn K (.ref C_Part) "rise" = some none)
    (na_Part_fall : PySem.W.findIn K (.ref C_Part) "fall" = some none)
    (na_Part_wait : PySem.W.findIn K (.ref C_Part) "wait" = some none)
    (yc_Part : PySem.W.findIn K (.ref C_Part) "__class__" = some (some (.builtin "object.__class__")))
    (ym_Part : PySem.W.mroIn K C_Part (.type "object") = some true)
    (xk_own_Part : PySem.W.kitOne K (.ref C_Part) (.ref C_Part) = some true)
    (pg_Cue : PySem.W.plainGet K C_Cue Str.empty = true)
    (hd_Cue : PySem.W.hasDictIn K C_Cue = true)
    (po_Cue : PySem.W.plainOver K C_Cue = true)
    (sa_Cue : PySem.W.findIn K (.ref C_Cue) "__setattr__" = some (some (.builtin "object.__setattr__")))
    (mk_Cue : PySem.W.makesIn K C_Cue = true)
    (kc_Cue : PySem.W.keepIn K (.ref C_Cue) = true)
    (na_Cue_number : PySem.W.findIn K (.ref C_Cue) "number" = some none)
    (na_Cue_parts : PySem.W.findIn K (.ref C_Cue) "parts" = some none)
    (na_Cue_stops : PySem.W.findIn K (.ref C_Cue) "stops" = some none)
    (na_Cue_follow : PySem.W.findIn K (.ref C_Cue) "follow" = some none)
    (yc_Cue : PySem.W.findIn K (.ref C_Cue) "__class__" = some (some (.builtin "object.__class__")))
    (ym_Cue : PySem.W.mroIn K C_Cue (.type "object") = some true)
    (xk_own_Cue : PySem.W.kitOne K (.ref C_Cue) (.ref C_Cue) = some true)
    (xk_non_Cue : PySem.W.kitOne K (.type "NoneType") (.ref C_Cue) = some false)
    (pg_Walk : PySem.W.plainGet K C_Walk Str.empty = true)
    (hd_Walk : PySem.W.hasDictIn K C_Walk = true)
    (po_Walk : PySem.W.plainOver K C_Walk = true)
    (sa_Walk : PySem.W.findIn K (.ref C_Walk) "__setattr__" = some (some (.builtin "object.__setattr__")))
    (mk_Walk : PySem.W.makesIn K C_Walk = true)
    (kc_Walk : PySem.W.keepIn K (.ref C_Walk) = true)
    (na_Walk_cues : PySem.W.findIn K (.ref C_Walk) "cues" = some none)
    (na_Walk_number : PySem.W.findIn K (.ref C_Walk) "number" = some none)
    (na_Walk_lag : PySem.W.findIn K (.ref C_Walk) "lag" = some none)
    (na_Walk_held : PySem.W.findIn K (.ref C_Walk) "held" = some none)
    (na_Walk_due : PySem.W.findIn K (.ref C_Walk) "due" = some none)
    (na_Walk_trail : PySem.W.findIn K (.ref C_Walk) "trail" = some none)
    (pg_Step : PySem.W.plainGet K C_Step Str.empty = true)
    (hd_Step : PySem.W.hasDictIn K C_Step = true)
    (po_Step : PySem.W.plainOver K C_Step = true)
    (sa_Step : PySem.W.findIn K (.ref C_Step) "__setattr__" = some (some (.builtin "object.__setattr__")))
    (mk_Step : PySem.W.makesIn K C_Step = true)
    (kc_Step : PySem.W.keepIn K (.ref C_Step) = true)
    (na_Step_clock : PySem.W.findIn K (.ref C_Step) "clock" = some none)
    (na_Step_look : PySem.W.findIn K (.ref C_Step) "look" = some none)
    (na_Step_cue : PySem.W.findIn K (.ref C_Step) "cue" = some none)
    (na_Step_word : PySem.W.findIn K (.ref C_Step) "word" = some none)
    (x_NoList : PySem.W.excIn K C_NoList veMro "ValueError.__new__" = true)
    (xc0_NoList : PySem.W.findIn K (.ref C_NoList) "__getattribute__" = some (some (.builtin "BaseException.__getattribute__")))
    (xc1_NoList : PySem.W.findIn K (.ref C_NoList) "__getattr__" = some none)
    (xc2_NoList : PySem.W.findIn K (.ref C_NoList) "__class__" = some (some (.builtin "object.__class__")))
    (xc3_NoList : PySem.W.mroIn K C_NoList (.type "object") = some true)
    (xc4_NoList : PySem.W.mroIn K C_NoList (.type "BaseException") = some true)
    (xm_NoList : PySem.W.exmOne K (.ref C_NoList) (.ref C_LampError) = some true)
    (xv_NoList : PySem.W.kitOne K (.ref C_NoList) (.type "ValueError") = some true)
    (xk_NoList_LampError : PySem.W.kitOne K (.ref C_NoList) (.ref C_LampError) = some true)
    (xk_NoList_NoList : PySem.W.kitOne K (.ref C_NoList) (.ref C_NoList) = some true)
    (xk_NoList_Late : PySem.W.kitOne K (.ref C_NoList) (.ref C_Late) = some false)
    (xk_NoList_NoCue : PySem.W.kitOne K (.ref C_NoList) (.ref C_NoCue) = some false)
    (x_Late : PySem.W.excIn K C_Late veMro "ValueError.__new__" = true)
    (xc0_Late : PySem.W.findIn K (.ref C_Late) "__getattribute__" = some (some (.builtin "BaseException.__getattribute__")))
    (xc1_Late : PySem.W.findIn K (.ref C_Late) "__getattr__" = some none)
    (xc2_Late : PySem.W.findIn K (.ref C_Late) "__class__" = some (some (.builtin "object.__class__")))
    (xc3_Late : PySem.W.mroIn K C_Late (.type "object") = some true)
    (xc4_Late : PySem.W.mroIn K C_Late (.type "BaseException") = some true)
    (xm_Late : PySem.W.exmOne K (.ref C_Late) (.ref C_LampError) = some true)
    (xv_Late : PySem.W.kitOne K (.ref C_Late) (.type "ValueError") = some true)
    (xk_Late_LampError : PySem.W.kitOne K (.ref C_Late) (.ref C_LampError) = some true)
    (xk_Late_NoList : PySem.W.kitOne K (.ref C_Late) (.ref C_NoList) = some false)
    (xk_Late_Late : PySem.W.kitOne K (.ref C_Late) (.ref C_Late) = some true)
    (xk_Late_NoCue : PySem.W.kitOne K (.ref C_Late) (.ref C_NoCue) = some false)
    (xg_get : PySem.W.specialIn K (.builtin "object.__class__") "__get__" = some (some (.builtin "getset_descriptor.__get__")))
    (xg_set : PySem.W.takesIn K (.builtin "object.__class__") = some true)
    (z_isinstance : PySem.W.nsIn K mainGlobals "isinstance" = some none)
    (z_int : PySem.W.nsIn K mainGlobals "int" = some none)
    (z_bool : PySem.W.nsIn K mainGlobals "bool" = some none)
    (z_str : PySem.W.nsIn K mainGlobals "str" = some none)
    (z_tuple : PySem.W.nsIn K mainGlobals "tuple" = some none)
    (z_list : PySem.W.nsIn K mainGlobals "list" = some none)
    (z_dict : PySem.W.nsIn K mainGlobals "dict" = some none)
    (z_set : PySem.W.nsIn K mainGlobals "set" = some none)
    (z_sorted : PySem.W.nsIn K mainGlobals "sorted" = some none)
    (z_len : PySem.W.nsIn K mainGlobals "len" = some none)
    (z_all : PySem.W.nsIn K mainGlobals "all" = some none)
    (z_any : PySem.W.nsIn K mainGlobals "any" = some none)
    (z_min : PySem.W.nsIn K mainGlobals "min" = some none)
    (z_max : PySem.W.nsIn K mainGlobals "max" = some none)
    (z_range : PySem.W.nsIn K mainGlobals "range" = some none)
    (z_reversed : PySem.W.nsIn K mainGlobals "reversed" = some none)
    (z_ValueError : PySem.W.nsIn K mainGlobals "ValueError" = some none)
    (gc_MOST_TICKS : PySem.W.nsIn K mainGlobals "MOST_TICKS" = some (some (.int 1000000000 tkc_MOST_TICKS)))
    (gc_MOST_NUMBER : PySem.W.nsIn K mainGlobals "MOST_NUMBER" = some (some (.int 1000000000 tkc_MOST_NUMBER)))
    (gc_MOST_PARTS : PySem.W.nsIn K mainGlobals "MOST_PARTS" = some (some (.int 9 tkc_MOST_PARTS))) :
    ∃ fd : FuncData, (∀ (s : Shared) (v : Value), BindsTo s fd ⟨[v], []⟩ [("_law_script", v)]) ∧ ∀ base : Heap, K.In base → base.Ns mainGlobals mg → FnOk l.prog w K mg base (CXE l.prog w) 12 fa fd ["_law_script"] (spLaw K) := by
  have e := hfa.symm.trans (PySem.W.mg_of X G a42)
  cases e
  have F0 := fun_mk (st := s_is_whole) l0 c0 k0
  have bb0 := F0.binds (ps := ["thing"]) fun _ _ _ _ _ _ us hl => match us, hl with | [_], _ => rfl
  have F1 := fun_mk (st := s_is_time) l1 c1 k1
  have bb1 := F1.binds (ps := ["thing"]) fun _ _ _ _ _ _ us hl => match us, hl with | [_], _ => rfl
  have F2 := fun_mk (st := s_is_cue_number) l2 c2 k2
  have bb2 := F2.binds (ps := ["thing"]) fun _ _ _ _ _ _ us hl => match us, hl with | [_], _ => rfl
  have F3 := fun_mk (st := s_has_slots_as_keys) l3 c3 k3
  have bb3 := F3.binds (ps := ["thing"]) fun _ _ _ _ _ _ us hl => match us, hl with | [_], _ => rfl
  have F4 := fund_mk (st := s_Part_init) l4 c4 k4
  have bb4 : Binds K _ ["self", "tells", "alone", "rise", "fall", "wait"] [] := FunD.binds (ds := []) 6 rfl F4 t4 fun _ _ _ _ _ _ us hl => match us, hl with | [_, _, _, _, _, _], _ => ⟨_, rfl, rfl⟩
  have bd4 : Binds K _ ["self", "tells", "alone", "rise", "fall", "wait"] [.int 0 tk4_0, .int 0 tk4_1, .int 0 tk4_2] := FunD.binds 3 rfl F4 t4 fun _ _ _ _ _ _ us hl => match us, hl with | [_, _, _], _ => ⟨_, rfl, rfl⟩
  have kb4 : KBinds K _ ["self", "tells", "alone", "rise", "fall", "wait"] ["rise", "fall", "wait"] (gAB 3 3) (gAB 3 3) := FunD.kbinds 3 3 (by decide) F4 t4 (fun _ _ _ _ _ _ us ws h1 h2 => match us, h1, ws, h2 with | [_, _, _], _, [_, _, _], _ => ⟨_, rfl, rfl⟩)
  have F5 := fun_mk (st := s_Part_told_slots) l5 c5 k5
  have bb5 := F5.binds (ps := ["self"]) fun _ _ _ _ _ _ us hl => match us, hl with | [_], _ => rfl
  have F6 := fun_mk (st := s_is_part_list) l6 c6 k6
  have bb6 := F6.binds (ps := ["thing"]) fun _ _ _ _ _ _ us hl => match us, hl with | [_], _ => rfl
  have F7 := fund_mk (st := s_Cue_init) l7 c7 k7
  have bb7 : Binds K _ ["self", "number", "parts", "stops", "follow"] [] := FunD.binds (ds := []) 5 rfl F7 t7 fun _ _ _ _ _ _ us hl => match us, hl with | [_, _, _, _, _], _ => ⟨_, rfl, rfl⟩
  have bd7 : Binds K _ ["self", "number", "parts", "stops", "follow"] [.bool false, .none] := FunD.binds 3 rfl F7 t7 fun _ _ _ _ _ _ us hl => match us, hl with | [_, _, _], _ => ⟨_, rfl, rfl⟩
  have kb7 : KBinds K _ ["self", "number", "parts", "stops", "follow"] ["stops", "follow"] (gAB 3 2) (gAB 3 2) := FunD.kbinds 3 2 (by decide) F7 t7 (fun _ _ _ _ _ _ us ws h1 h2 => match us, h1, ws, h2 with | [_, _, _], _, [_, _], _ => ⟨_, rfl, rfl⟩)
  have F8 := fun_mk (st := s_cue_list) l8 c8 k8
  have bb8 := F8.binds (ps := ["cues"]) fun _ _ _ _ _ _ us hl => match us, hl with | [_], _ => rfl
  have F9 := fun_mk (st := s_checked) l9 c9 k9
  have bb9 := F9.binds (ps := ["cues", "number"]) fun _ _ _ _ _ _ us hl => match us, hl with | [_, _], _ => rfl
  have F10 := fun_mk (st := s_above) l10 c10 k10
  have bb10 := F10.binds (ps := ["cues", "number"]) fun _ _ _ _ _ _ us hl => match us, hl with | [_, _], _ => rfl
  have F11 := fun_mk (st := s_below) l11 c11 k11
  have bb11 := F11.binds (ps := ["cues", "number"]) fun _ _ _ _ _ _ us hl => match us, hl with | [_, _], _ => rfl
  have F12 := fun_mk (st := s_cue_at) l12 c12 k12
  have bb12 := F12.binds (ps := ["cues", "number"]) fun _ _ _ _ _ _ us hl => match us, hl with | [_, _], _ => rfl
  have F13 := fun_mk (st := s_Walk_init) l13 c13 k13
  have bb13 := F13.binds (ps := ["self", "cues"]) fun _ _ _ _ _ _ us hl => match us, hl with | [_, _], _ => rfl
  have F14 := fund_mk (st := s_Walk_clock_top) l14 c14 k14
  have bb14 : Binds K _ ["self", "top", "bottom"] [] := FunD.binds (ds := []) 3 rfl F14 t14 fun _ _ _ _ _ _ us hl => match us, hl with | [_, _, _], _ => ⟨_, rfl, rfl⟩
  have bd14 : Binds K _ ["self", "top", "bottom"] [.int 1 tk14_0] := FunD.binds 2 rfl F14 t14 fun _ _ _ _ _ _ us hl => match us, hl with | [_, _], _ => ⟨_, rfl, rfl⟩
  have kb14 : KBinds K _ ["self", "top", "bottom"] ["bottom"] (gAB 2 1) (gAB 2 1) := FunD.kbinds 2 1 (by decide) F14 t14 (fun _ _ _ _ _ _ us ws h1 h2 => match us, h1, ws, h2 with | [_, _], _, [_], _ => ⟨_, rfl, rfl⟩)
  have F15 := fun_mk (st := s_Walk_note) l15 c15 k15
  have bb15 := F15.binds (ps := ["self", "clock", "word"]) fun _ _ _ _ _ _ us hl => match us, hl with | [_, _, _], _ => rfl
  have F16 := fun_mk (st := s_Walk_arrive) l16 c16 k16
  have bb16 := F16.binds (ps := ["self", "clock", "number"]) fun _ _ _ _ _ _ us hl => match us, hl with | [_, _, _], _ => rfl
  have F17 := fund_mk (st := s_Walk_come_to) l17 c17 k17
  have bb17 : Binds K _ ["self", "top", "bottom"] [] := FunD.binds (ds := []) 3 rfl F17 t17 fun _ _ _ _ _ _ us hl => match us, hl with | [_, _, _], _ => ⟨_, rfl, rfl⟩
  have bd17 : Binds K _ ["self", "top", "bottom"] [.int 1 tk17_0] := FunD.binds 2 rfl F17 t17 fun _ _ _ _ _ _ us hl => match us, hl with | [_, _], _ => ⟨_, rfl, rfl⟩
  have kb17 : KBinds K _ ["self", "top", "bottom"] ["bottom"] (gAB 2 1) (gAB 2 1) := FunD.kbinds 2 1 (by decide) F17 t17 (fun _ _ _ _ _ _ us ws h1 h2 => match us, h1, ws, h2 with | [_, _], _, [_], _ => ⟨_, rfl, rfl⟩)
  have F18 := fun_mk (st := s_Walk_on) l18 c18 k18
  have bb18 := F18.binds (ps := ["self", "tick"]) fun _ _ _ _ _ _ us hl => match us, hl with | [_, _], _ => rfl
  have F19 := fun_mk (st := s_Walk_stop) l19 c19 k19
  have bb19 := F19.binds (ps := ["self", "tick"]) fun _ _ _ _ _ _ us hl => match us, hl with | [_, _], _ => rfl
  have F20 := fun_mk (st := s_has_cue) l20 c20 k20
  have bb20 := F20.binds (ps := ["cues", "number"]) fun _ _ _ _ _ _ us hl => match us, hl with | [_, _], _ => rfl
  have F21 := fun_mk (st := s_Walk_goto) l21 c21 k21
  have bb21 := F21.binds (ps := ["self", "tick", "number"]) fun _ _ _ _ _ _ us hl => match us, hl with | [_, _, _], _ => rfl
  have F22 := fun_mk (st := s_Walk_go) l22 c22 k22
  have bb22 := F22.binds (ps := ["self", "tick"]) fun _ _ _ _ _ _ us hl => match us, hl with | [_, _], _ => rfl
  have F23 := fun_mk (st := s_Walk_back) l23 c23 k23
  have bb23 := F23.binds (ps := ["self", "tick"]) fun _ _ _ _ _ _ us hl => match us, hl with | [_, _], _ => rfl
  have F24 := fun_mk (st := s_do_deed) l24 c24 k24
  have bb24 := F24.binds (ps := ["walk", "deed"]) fun _ _ _ _ _ _ us hl => match us, hl with | [_, _], _ => rfl
  have F25 := fun_mk (st := s_refuse_falling) l25 c25 k25
  have bb25 := F25.binds (ps := ["deeds"]) fun _ _ _ _ _ _ us hl => match us, hl with | [_], _ => rfl
  have F26 := fund_mk (st := s_rows_of) l26 c26 k26
  have bb26 : Binds K _ ["cues", "deeds", "top", "bottom"] [] := FunD.binds (ds := []) 4 rfl F26 t26 fun _ _ _ _ _ _ us hl => match us, hl with | [_, _, _, _], _ => ⟨_, rfl, rfl⟩
  have bd26 : Binds K _ ["cues", "deeds", "top", "bottom"] [.int 1 tk26_0] := FunD.binds 3 rfl F26 t26 fun _ _ _ _ _ _ us hl => match us, hl with | [_, _, _], _ => ⟨_, rfl, rfl⟩
  have kb26 : KBinds K _ ["cues", "deeds", "top", "bottom"] ["bottom"] (gAB 3 1) (gAB 3 1) := FunD.kbinds 3 1 (by decide) F26 t26 (fun _ _ _ _ _ _ us ws h1 h2 => match us, h1, ws, h2 with | [_, _, _], _, [_], _ => ⟨_, rfl, rfl⟩)
  have F27 := fun_mk (st := s_put_in) l27 c27 k27
  have bb27 := F27.binds (ps := ["look", "told"]) fun _ _ _ _ _ _ us hl => match us, hl with | [_, _], _ => rfl
  have F28 := fun_mk (st := s_carried) l28 c28 k28
  have bb28 := F28.binds (ps := ["cues", "number"]) fun _ _ _ _ _ _ us hl => match us, hl with | [_, _], _ => rfl
  have F29 := fun_mk (st := s_shown) l29 c29 k29
  have bb29 := F29.binds (ps := ["cues", "number"]) fun _ _ _ _ _ _ us hl => match us, hl with | [_, _], _ => rfl
  have F30 := fun_mk (st := s_Step_init) l30 c30 k30
  have bb30 := F30.binds (ps := ["self", "row", "look"]) fun _ _ _ _ _ _ us hl => match us, hl with | [_, _, _], _ => rfl
  have F31 := fun_mk (st := s_steps_of) l31 c31 k31
  have bb31 := F31.binds (ps := ["rows"]) fun _ _ _ _ _ _ us hl => match us, hl with | [_], _ => rfl
  have F32 := fun_mk (st := s_tell_rows) l32 c32 k32
  have bb32 := F32.binds (ps := ["courses", "rows"]) fun _ _ _ _ _ _ us hl => match us, hl with | [_, _], _ => rfl
  have F33 := fun_mk (st := s_look_at) l33 c33 k33
  have bb33 := F33.binds (ps := ["courses", "top", "bottom"]) fun _ _ _ _ _ _ us hl => match us, hl with | [_, _, _], _ => rfl
  have F34 := fund_mk (st := s_told) l34 c34 k34
  have bb34 : Binds K _ ["cues", "deeds", "top", "bottom"] [] := FunD.binds (ds := []) 4 rfl F34 t34 fun _ _ _ _ _ _ us hl => match us, hl with | [_, _, _, _], _ => ⟨_, rfl, rfl⟩
  have bd34 : Binds K _ ["cues", "deeds", "top", "bottom"] [.int 1 tk34_0] := FunD.binds 3 rfl F34 t34 fun _ _ _ _ _ _ us hl => match us, hl with | [_, _, _], _ => ⟨_, rfl, rfl⟩
  have kb34 : KBinds K _ ["cues", "deeds", "top", "bottom"] ["bottom"] (gAB 3 1) (gAB 3 1) := FunD.kbinds 3 1 (by decide) F34 t34 (fun _ _ _ _ _ _ us ws h1 h2 => match us, h1, ws, h2 with | [_, _, _], _, [_], _ => ⟨_, rfl, rfl⟩)
  have F35 := fun_mk (st := s_law_cell_at) l35 c35 k35
  have bb35 := F35.binds (ps := ["_law_script", "_law_k"]) fun _ _ _ _ _ _ us hl => match us, hl with | [_, _], _ => rfl
  have F36 := fun_mk (st := s_law_mixed) l36 c36 k36
  have bb36 := F36.binds (ps := ["_law_cell", "_law_k"]) fun _ _ _ _ _ _ us hl => match us, hl with | [_, _], _ => rfl
  have F37 := fun_mk (st := s_law_time) l37 c37 k37
  have bb37 := F37.binds (ps := ["_law_mixed_here"]) fun _ _ _ _ _ _ us hl => match us, hl with | [_], _ => rfl
  have F38 := fun_mk (st := s_law_numbers) l38 c38 k38
  have bb38 := F38.binds (ps := ["_law_mixed_here"]) fun _ _ _ _ _ _ us hl => match us, hl with | [_], _ => rfl
  have F39 := fun_mk (st := s_law_deeds) l39 c39 k39
  have bb39 := F39.binds (ps := ["_law_script"]) fun _ _ _ _ _ _ us hl => match us, hl with | [_], _ => rfl
  have F40 := fun_mk (st := s_law_fallen) l40 c40 k40
  have bb40 := F40.binds (ps := ["_law_deeds_here", "_law_mixed_here"]) fun _ _ _ _ _ _ us hl => match us, hl with | [_, _], _ => rfl
  have F41 := fun_mk (st := s_law_truths) l41 c41 k41
  have bb41 := F41.binds (ps := ["_law_way", "_law_cues", "_law_deeds_here", "_law_top"]) fun _ _ _ _ _ _ us hl => match us, hl with | [_, _, _, _], _ => rfl
  have F42 := fun_mk (st := s_law) l42 c42 k42
  have bb42 := F42.binds (ps := ["_law_script"]) fun _ _ _ _ _ _ us hl => match us, hl with | [_], _ => rfl
  have T : Txt K mg ⟨f0, _, f1, _, f2, _, f3, _, f4, _, T4, [.int 0 tk4_0, .int 0 tk4_1, .int 0 tk4_2], f5, _, f6, _, f7, _, T7, [.bool false, .none], f8, _, f9, _, f10, _, f11, _, f12, _, f13, _, f14, _, T14, [.int 1 tk14_0], f15, _, f16, _, f17, _, T17, [.int 1 tk17_0], f18, _, f19, _, f20, _, f21, _, f22, _, f23, _, f24, _, f25, _, f26, _, T26, [.int 1 tk26_0], f27, _, f28, _, f29, _, f30, _, f31, _, f32, _, f33, _, f34, _, T34, [.int 1 tk34_0], f35, _, f36, _, f37, _, f38, _, f39, _, f40, _, f41, _, fa, _, C_Part, C_Cue, C_Walk, C_Step, C_LampError, C_NoList, C_Late, C_NoCue, ()⟩ := ⟨F0, bb0, PySem.W.mg_of X G a0, F1, bb1, PySem.W.mg_of X G a1, F2, bb2, PySem.W.mg_of X G a2, F3, bb3, PySem.W.mg_of X G a3, F4, bb4, bd4, (.cons ⟨_, rfl⟩ (.cons ⟨_, rfl⟩ (.cons ⟨_, rfl⟩ (.nil)))), kb4, ⟨mk_Part, a4, i4, kc_Part⟩, F5, bb5, ⟨a5, i5, k5⟩, F6, bb6, PySem.W.mg_of X G a6, F7, bb7, bd7, (.cons rfl (.cons rfl (.nil))), kb7, ⟨mk_Cue, a7, i7, kc_Cue⟩, F8, bb8, PySem.W.mg_of X G a8, F9, bb9, PySem.W.mg_of X G a9, F10, bb10, PySem.W.mg_of X G a10, F11, bb11, PySem.W.mg_of X G a11, F12, bb12, PySem.W.mg_of X G a12, F13, bb13, ⟨mk_Walk, a13, i13, kc_Walk⟩, F14, bb14, bd14, (.cons ⟨_, rfl⟩ (.nil)), kb14, ⟨a14, i14, k14⟩, F15, bb15, ⟨a15, i15, k15⟩, F16, bb16, ⟨a16, i16, k16⟩, F17, bb17, bd17, (.cons ⟨_, rfl⟩ (.nil)), kb17, ⟨a17, i17, k17⟩, F18, bb18, ⟨a18, i18, k18⟩, F19, bb19, ⟨a19, i19, k19⟩, F20, bb20, PySem.W.mg_of X G a20, F21, bb21, ⟨a21, i21, k21⟩, F22, bb22, ⟨a22, i22, k22⟩, F23, bb23, ⟨a23, i23, k23⟩, F24, bb24, PySem.W.mg_of X G a24, F25, bb25, PySem.W.mg_of X G a25, F26, bb26, bd26, (.cons ⟨_, rfl⟩ (.nil)), kb26, PySem.W.mg_of X G a26, F27, bb27, PySem.W.mg_of X G a27, F28, bb28, PySem.W.mg_of X G a28, F29, bb29, PySem.W.mg_of X G a29, F30, bb30, ⟨mk_Step, a30, i30, kc_Step⟩, F31, bb31, PySem.W.mg_of X G a31, F32, bb32, PySem.W.mg_of X G a32, F33, bb33, PySem.W.mg_of X G a33, F34, bb34, bd34, (.cons ⟨_, rfl⟩ (.nil)), kb34, PySem.W.mg_of X G a34, F35, bb35, PySem.W.mg_of X G a35, F36, bb36, PySem.W.mg_of X G a36, F37, bb37, PySem.W.mg_of X G a37, F38, bb38, PySem.W.mg_of X G a38, F39, bb39, PySem.W.mg_of X G a39, F40, bb40, PySem.W.mg_of X G a40, F41, bb41, PySem.W.mg_of X G a41, F42, bb42, PySem.W.mg_of X G a42, ⟨pg_Part, hd_Part, po_Part, sa_Part⟩, PySem.W.mg_of X G aC_Part, na_Part_tells, na_Part_alone, na_Part_rise, na_Part_fall, na_Part_wait, (fun H a dx fs e => .ins e ⟨pg_Part, hd_Part, po_Part, sa_Part⟩ yc_Part xg_get xg_set ym_Part), xk_own_Part, ⟨pg_Cue, hd_Cue, po_Cue, sa_Cue⟩, PySem.W.mg_of X G aC_Cue, na_Cue_number, na_Cue_parts, na_Cue_stops, na_Cue_follow, (fun H a dx fs e => .ins e ⟨pg_Cue, hd_Cue, po_Cue, sa_Cue⟩ yc_Cue xg_get xg_set ym_Cue), xk_own_Cue, xk_non_Cue, ⟨pg_Walk, hd_Walk, po_Walk, sa_Walk⟩, PySem.W.mg_of X G aC_Walk, na_Walk_cues, na_Walk_number, na_Walk_lag, na_Walk_held, na_Walk_due, na_Walk_trail, ⟨pg_Step, hd_Step, po_Step, sa_Step⟩, PySem.W.mg_of X G aC_Step, na_Step_clock, na_Step_look, na_Step_cue, na_Step_word, PySem.W.mg_of X G aC_LampError, PySem.W.mg_of X G aC_NoList, PySem.W.mg_of X G aC_Late, PySem.W.mg_of X G aC_NoCue, x_NoList, ⟨xc0_NoList, xc1_NoList, ic_of xc3_NoList, xc2_NoList, xg_get, xg_set, xc3_NoList, xc4_NoList⟩, xm_NoList, xv_NoList, xk_NoList_LampError, xk_NoList_NoList, xk_NoList_Late, xk_NoList_NoCue, x_Late, ⟨xc0_Late, xc1_Late, ic_of xc3_Late, xc2_Late, xg_get, xg_set, xc3_Late, xc4_Late⟩, xm_Late, xv_Late, xk_Late_LampError, xk_Late_NoList, xk_Late_Late, xk_Late_NoCue, PySem.W.mg_none_of X G z_isinstance, PySem.W.mg_none_of X G z_int, PySem.W.mg_none_of X G z_bool, PySem.W.mg_none_of X G z_str, PySem.W.mg_none_of X G z_tuple, PySem.W.mg_none_of X G z_list, PySem.W.mg_none_of X G z_dict, PySem.W.mg_none_of X G z_set, PySem.W.mg_none_of X G z_sorted, PySem.W.mg_none_of X G z_len, PySem.W.mg_none_of X G z_all, PySem.W.mg_none_of X G z_any, PySem.W.mg_none_of X G z_min, PySem.W.mg_none_of X G z_max, PySem.W.mg_none_of X G z_range, PySem.W.mg_none_of X G z_reversed, PySem.W.mg_none_of X G z_ValueError, ⟨_, PySem.W.mg_of X G gc_MOST_TICKS⟩, ⟨_, PySem.W.mg_of X G gc_MOST_NUMBER⟩, ⟨_, PySem.W.mg_of X G gc_MOST_PARTS⟩⟩
  refine ⟨_, fun s v => ?_, fun base _ _ => ok_law T⟩
  exact .of_eq rfl
theorem walk {l : PySem.W.OpenLaw} {q : Program} {loose : List Str} {XP : (Str → Option Value) → Heap → Prop} {YP : World → Heap → Prop} {d : DefRec} {K : Params → PySem.W.Frag} (hn : l.most = some 63) (hdf : d.params.defaults = [])
    (hY : ∀ (w : World) (h : Heap), YP w h → (K w.params).In h)
    (F : ∀ (w : World) (mg : Str → Option Value) (fa : Addr) (h : Heap), (K w.params).In h → h.Ns mainGlobals mg → mg d.name = some (.ref fa) →
      ∃ fd : FuncData, (∀ (s : Shared) (u : Value), BindsTo s fd ⟨[u], []⟩ [("_law_script", u)]) ∧ ∀ base : Heap, (K w.params).In base → base.Ns mainGlobals mg → FnOk l.prog w (K w.params) mg base (CXE l.prog w) 12 fa fd ["_law_script"] (spLaw (K w.params))) :
    PySem.W.WalkO q loose XP YP l.row.toRowW d [] (fun f vs => PySem.call f vs) :=
  L2.walk_of (n := 63) (k := 12) (x := "_law_script") (CX := fun w => CXE l.prog w) (sp := fun w => spLaw (K w.params)) hn (by decide) hdf ⟨rfl, by decide, by decide⟩ hY F (fun _ _ a ns hl _ hS => ⟨a, ns, rfl, hS, hl, fun _ => rfl⟩) fun _ _ _ _ _ ⟨_, _, _, _, _, _, _, _, _, _, _, _, _, _, _, z⟩ => z
end My
namespace PySem.W.Fast
abbrev tw90343872475197607 : Type := PySem.Params
theorem te90343872475197607 : PySem.Params = tw90343872475197607 := rfl
end PySem.W.Fast
open PySem PySem.W PyProof.Rows
set_option maxRecDepth 100000 in
set_option maxHeartbeats 0 in
theorem PySem.Challenge.cw_lampcues_k40_refused_deeds_holds : PySem.Challenge.rw_lampcues_k40_refused_deeds.Holds := by
  w_on; o_law; k_head; (case hw => w_witness2)
  k_fill
  refine My.walk (l := PySem.Challenge.rw_lampcues_k40_refused_deeds) rfl rfl (fun w h Y => PySem.W.kIn_of Y) ?F
  case F =>
    intro w mg fa h KX G hmg
    refine' My.all_mk KX G hmg ?aC_LampError ?aC_NoList ?aC_Late ?aC_NoCue ?aC_Part ?aC_Cue ?aC_Walk ?aC_Step ?a0 ?l0 ?c0 ?k0 ?a1 ?l1 ?c1 ?k1 ?a2 ?l2 ?c2 ?k2 ?a3 ?l3 ?c3 ?k3 ?a4 ?i4 ?l4 ?c4 ?k4 ?t4 ?a5 ?i5 ?l5 ?c5 ?k5 ?a6 ?l6 ?c6 ?k6 ?a7 ?i7 ?l7 ?c7 ?k7 ?t7 ?a8 ?l8 ?c8 ?k8 ?a9 ?l9 ?c9 ?k9 ?a10 ?l10 ?c10 ?k10 ?a11 ?l11 ?c11 ?k11 ?a12 ?l12 ?c12 ?k12 ?a13 ?i13 ?l13 ?c13 ?k13 ?a14 ?i14 ?l14 ?c14 ?k14 ?t14 ?a15 ?i15 ?l15 ?c15 ?k15 ?a16 ?i16 ?l16 ?c16 ?k16 ?a17 ?i17 ?l17 ?c17 ?k17 ?t17 ?a18 ?i18 ?l18 ?c18 ?k18 ?a19 ?i19 ?l19 ?c19 ?k19 ?a20 ?l20 ?c20 ?k20 ?a21 ?i21 ?l21 ?c21 ?k21 ?a22 ?i22 ?l22 ?c22 ?k22 ?a23 ?i23 ?l23 ?c23 ?k23 ?a24 ?l24 ?c24 ?k24 ?a25 ?l25 ?c25 ?k25 ?a26 ?l26 ?c26 ?k26 ?t26 ?a27 ?l27 ?c27 ?k27 ?a28 ?l28 ?c28 ?k28 ?a29 ?l29 ?c29 ?k29 ?a30 ?i30 ?l30 ?c30 ?k30 ?a31 ?l31 ?c31 ?k31 ?a32 ?l32 ?c32 ?k32 ?a33 ?l33 ?c33 ?k33 ?a34 ?l34 ?c34 ?k34 ?t34 ?a35 ?l35 ?c35 ?k35 ?a36 ?l36 ?c36 ?k36 ?a37 ?l37 ?c37 ?k37 ?a38 ?l38 ?c38 ?k38 ?a39 ?l39 ?c39 ?k39 ?a40 ?l40 ?c40 ?k40 ?a41 ?l41 ?c41 ?k41 ?a42 ?l42 ?c42 ?k42 ?pg_Part ?hd_Part ?po_Part ?sa_Part ?mk_Part ?kc_Part ?na_Part_tells ?na_Part_alone ?na_Part_rise ?na_Part_fall ?na_Part_wait ?yc_Part ?ym_Part ?xk_own_Part ?pg_Cue ?hd_Cue ?po_Cue ?sa_Cue ?mk_Cue ?kc_Cue ?na_Cue_number ?na_Cue_parts ?na_Cue_stops ?na_Cue_follow ?yc_Cue ?ym_Cue ?xk_own_Cue ?xk_non_Cue ?pg_Walk ?hd_Walk ?po_Walk ?sa_Walk ?mk_Walk ?kc_Walk ?na_Walk_cues ?na_Walk_number ?na_Walk_lag ?na_Walk_held ?na_Walk_due ?na_Walk_trail ?pg_Step ?hd_Step ?po_Step ?sa_Step ?mk_Step ?kc_Step ?na_Step_clock ?na_Step_look ?na_Step_cue ?na_Step_word ?x_NoList ?xc0_NoList ?xc1_NoList ?xc2_NoList ?xc3_NoList ?xc4_NoList ?xm_NoList ?xv_NoList ?xk_NoList_LampError ?xk_NoList_NoList ?xk_NoList_Late ?xk_NoList_NoCue ?x_Late ?xc0_Late ?xc1_Late ?xc2_Late ?xc3_Late ?xc4_Late ?xm_Late ?xv_Late ?xk_Late_LampError ?xk_Late_NoList ?xk_Late_Late ?xk_Late_NoCue ?xg_get ?xg_set ?z_isinstance ?z_int ?z_bool ?z_str ?z_tuple ?z_list ?z_dict ?z_set ?z_sorted ?z_len ?z_all ?z_any ?z_min ?z_max ?z_range ?z_reversed ?z_ValueError ?gc_MOST_TICKS ?gc_MOST_NUMBER ?gc_MOST_PARTS
    (case aC_LampError => k_is)
    (case aC_NoList => k_is)
    (case aC_Late => k_is)
    (case aC_NoCue => k_is)
    (case aC_Part => k_is)
    (case aC_Cue => k_is)
    (case aC_Walk => k_is)
    (case aC_Step => k_is)
    (case a0 => k_is)
    (case l0 => k_is)
    (case c0 => k_is)
    (case k0 => k_is)
    (case a1 => k_is)
    (case l1 => k_is)
    (case c1 => k_is)
    (case k1 => k_is)
    (case a2 => k_is)
    (case l2 => k_is)
    (case c2 => k_is)
    (case k2 => k_is)
    (case a3 => k_is)
    (case l3 => k_is)
    (case c3 => k_is)
    (case k3 => k_is)
    (case a4 => k_is)
    (case i4 => k_is)
    (case l4 => k_is)
    (case c4 => k_is)
    (case k4 => k_is)
    (case t4 => k_is)
    (case a5 => k_is)
    (case i5 => k_is)
    (case l5 => k_is)
    (case c5 => k_is)
    (case k5 => k_is)
    (case a6 => k_is)
    (case l6 => k_is)
    (case c6 => k_is)
    (case k6 => k_is)
    (case a7 => k_is)
    (case i7 => k_is)
    (case l7 => k_is)
    (case c7 => k_is)
    (case k7 => k_is)
    (case t7 => k_is)
    (case a8 => k_is)
    (case l8 => k_is)
    (case c8 => k_is)
    (case k8 => k_is)
    (case a9 => k_is)
    (case l9 => k_is)
    (case c9 => k_is)
    (case k9 => k_is)
    (case a10 => k_is)
    (case l10 => k_is)
    (case c10 => k_is)
    (case k10 => k_is)
    (case a11 => k_is)
    (case l11 => k_is)
    (case c11 => k_is)
    (case k11 => k_is)
    (case a12 => k_is)
    (case l12 => k_is)
    (case c12 => k_is)
    (case k12 => k_is)
    (case a13 => k_is)
    (case i13 => k_is)
    (case l13 => k_is)
    (case c13 => k_is)
    (case k13 => k_is)
    (case a14 => k_is)
    (case i14 => k_is)
    (case l14 => k_is)
    (case c14 => k_is)
    (case k14 => k_is)
    (case t14 => k_is)
    (case a15 => k_is)
    (case i15 => k_is)
    (case l15 => k_is)
    (case c15 => k_is)
    (case k15 => k_is)
    (case a16 => k_is)
    (case i16 => k_is)
    (case l16 => k_is)
    (case c16 => k_is)
    (case k16 => k_is)
    (case a17 => k_is)
    (case i17 => k_is)
    (case l17 => k_is)
    (case c17 => k_is)
    (case k17 => k_is)
    (case t17 => k_is)
    (case a18 => k_is)
    (case i18 => k_is)
    (case l18 => k_is)
    (case c18 => k_is)
    (case k18 => k_is)
    (case a19 => k_is)
    (case i19 => k_is)
    (case l19 => k_is)
    (case c19 => k_is)
    (case k19 => k_is)
    (case a20 => k_is)
    (case l20 => k_is)
    (case c20 => k_is)
    (case k20 => k_is)
    (case a21 => k_is)
    (case i21 => k_is)
    (case l21 => k_is)
    (case c21 => k_is)
    (case k21 => k_is)
    (case a22 => k_is)
    (case i22 => k_is)
    (case l22 => k_is)
    (case c22 => k_is)
    (case k22 => k_is)
    (case a23 => k_is)
    (case i23 => k_is)
    (case l23 => k_is)
    (case c23 => k_is)
    (case k23 => k_is)
    (case a24 => k_is)
    (case l24 => k_is)
    (case c24 => k_is)
    (case k24 => k_is)
    (case a25 => k_is)
    (case l25 => k_is)
    (case c25 => k_is)
    (case k25 => k_is)
    (case a26 => k_is)
    (case l26 => k_is)
    (case c26 => k_is)
    (case k26 => k_is)
    (case t26 => k_is)
    (case a27 => k_is)
    (case l27 => k_is)
    (case c27 => k_is)
    (case k27 => k_is)
    (case a28 => k_is)
    (case l28 => k_is)
    (case c28 => k_is)
    (case k28 => k_is)
    (case a29 => k_is)
    (case l29 => k_is)
    (case c29 => k_is)
    (case k29 => k_is)
    (case a30 => k_is)
    (case i30 => k_is)
    (case l30 => k_is)
    (case c30 => k_is)
    (case k30 => k_is)
    (case a31 => k_is)
    (case l31 => k_is)
    (case c31 => k_is)
    (case k31 => k_is)
    (case a32 => k_is)
    (case l32 => k_is)
    (case c32 => k_is)
    (case k32 => k_is)
    (case a33 => k_is)
    (case l33 => k_is)
    (case c33 => k_is)
    (case k33 => k_is)
    (case a34 => k_is)
    (case l34 => k_is)
    (case c34 => k_is)
    (case k34 => k_is)
    (case t34 => k_is)
    (case a35 => k_is)
    (case l35 => k_is)
    (case c35 => k_is)
    (case k35 => k_is)
    (case a36 => k_is)
    (case l36 => k_is)
    (case c36 => k_is)
    (case k36 => k_is)
    (case a37 => k_is)
    (case l37 => k_is)
    (case c37 => k_is)
    (case k37 => k_is)
    (case a38 => k_is)
    (case l38 => k_is)
    (case c38 => k_is)
    (case k38 => k_is)
    (case a39 => k_is)
    (case l39 => k_is)
    (case c39 => k_is)
    (case k39 => k_is)
    (case a40 => k_is)
    (case l40 => k_is)
    (case c40 => k_is)
    (case k40 => k_is)
    (case a41 => k_is)
    (case l41 => k_is)
    (case c41 => k_is)
    (case k41 => k_is)
    (case a42 => k_is)
    (case l42 => k_is)
    (case c42 => k_is)
    (case k42 => k_is)
    (case pg_Part => k_is)
    (case hd_Part => k_is)
    (case po_Part => k_is)
    (case sa_Part => k_is)
    (case mk_Part => k_is)
    (case kc_Part => k_is)
    (case na_Part_tells => k_is)
    (case na_Part_alone => k_is)
    (case na_Part_rise => k_is)
    (case na_Part_fall => k_is)
    (case na_Part_wait => k_is)
    (case yc_Part => k_is)
    (case ym_Part => k_is)
    (case xk_own_Part => kit_is)
    (case pg_Cue => k_is)
    (case hd_Cue => k_is)
    (case po_Cue => k_is)
    (case sa_Cue => k_is)
    (case mk_Cue => k_is)
    (case kc_Cue => k_is)
    (case na_Cue_number => k_is)
    (case na_Cue_parts => k_is)
    (case na_Cue_stops => k_is)
    (case na_Cue_follow => k_is)
    (case yc_Cue => k_is)
    (case ym_Cue => k_is)
    (case xk_own_Cue => kit_is)
    (case xk_non_Cue => kit_is)
    (case pg_Walk => k_is)
    (case hd_Walk => k_is)
    (case po_Walk => k_is)
    (case sa_Walk => k_is)
    (case mk_Walk => k_is)
    (case kc_Walk => k_is)
    (case na_Walk_cues => k_is)
    (case na_Walk_number => k_is)
    (case na_Walk_lag => k_is)
    (case na_Walk_held => k_is)
    (case na_Walk_due => k_is)
    (case na_Walk_trail => k_is)
    (case pg_Step => k_is)
    (case hd_Step => k_is)
    (case po_Step => k_is)
    (case sa_Step => k_is)
    (case mk_Step => k_is)
    (case kc_Step => k_is)
    (case na_Step_clock => k_is)
    (case na_Step_look => k_is)
    (case na_Step_cue => k_is)
    (case na_Step_word => k_is)
    (case x_NoList => k_exc)
    (case xc0_NoList => k_is)
    (case xc1_NoList => k_is)
    (case xc2_NoList => k_is)
    (case xc3_NoList => k_is)
    (case xc4_NoList => k_is)
    (case xm_NoList => kts_exm)
    (case xv_NoList => kit_is)
    (case xk_NoList_LampError => kit_is)
    (case xk_NoList_NoList => kit_is)
    (case xk_NoList_Late => kit_is)
    (case xk_NoList_NoCue => kit_is)
    (case x_Late => k_exc)
    (case xc0_Late => k_is)
    (case xc1_Late => k_is)
    (case xc2_Late => k_is)
    (case xc3_Late => k_is)
    (case xc4_Late => k_is)
    (case xm_Late => kts_exm)
    (case xv_Late => kit_is)
    (case xk_Late_LampError => kit_is)
    (case xk_Late_NoList => kit_is)
    (case xk_Late_Late => kit_is)
    (case xk_Late_NoCue => kit_is)
    (case xg_get => k_is)
    (case xg_set => k_is)
    (case z_isinstance => k_is)
    (case z_int => k_is)
    (case z_bool => k_is)
    (case z_str => k_is)
    (case z_tuple => k_is)
    (case z_list => k_is)
    (case z_dict => k_is)
    (case z_set => k_is)
    (case z_sorted => k_is)
    (case z_len => k_is)
    (case z_all => k_is)
    (case z_any => k_is)
    (case z_min => k_is)
    (case z_max => k_is)
    (case z_range => k_is)
    (case z_reversed => k_is)
    (case z_ValueError => k_is)
    (case gc_MOST_TICKS => k_is)
    (case gc_MOST_NUMBER => k_is)
    (case gc_MOST_PARTS => k_is)
