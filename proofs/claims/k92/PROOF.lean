import PyProof.Rows.All
import Wide.All
import OpenK.AllK
import Wide.FinOn
import Lean
import PyProof.EqAt
import PyProof.EqKinds
import PyProof.TupleCall
import PySem.SetTable
import PyProof.SetKind
import PyProof.SetNew
import PyProof.SetRoads
import PyProof.TupleKey
import PyProof.IsRules
import PyProof.Rows.SetFrom
import PyProof.CollectWalk
import PyProof.CollectIter
import KE.KSortTup
import PyProof.DictWalks
import PyProof.DictItems
import KE.KDictOf
import KE.KMinKey
import PyProof.Rows.CallKwBuiltin
import PyProof.Rows.Range3
import PyProof.ZipIter
import KE.KEqSeq
import PyProof.NeKinds
import KE.KRevIter
import PyProof.Rows.SortStr
import PyProof.Rows.SortWalk
import PyProof.EnumFor
import PyProof.EnumMake
import PyProof.AutoListH
import PyProof.Rows.StrSplitAre
import PyProof.Rows.StrJoin2
import PyProof.Rows.StrNews
import PyProof.StrCalls
import PyProof.StrLawsTight
import PyProof.Rows.StrItems
import PyProof.StrLawsFirst
import PyProof.StrLawsLast
import PyProof.StrLawsChain
import PyProof.StrCalls6
import PyProof.MeetsStr3
import PyProof.Rows.CatFin
import KE.KRevSl
import PySem.Challenge.RW_lampcues_k92_rows_in_order
set_option Elab.async false
set_option linter.all false
-- CHANGE: your row's module here, as the last of these rows
set_option maxRecDepth 100000
namespace L2
open PySem PySem.Spec PyProof.Rows
abbrev Key := Sum Int Str
def keyIs : Key → Value → Bool
  | .inl k, v => Value.isInt k v
  | .inr x, v => Value.isStrOf x v
def keyH (w : World) : Key → Int
  | .inl k => hashInt k
  | .inr x => hashStr w x
theorem keyIs_shape : ∀ {k : Key} {v : Value}, keyIs k v = true → (∃ i t, k = Sum.inl i ∧ v = Value.int i t) ∨ (∃ x t, k = Sum.inr x ∧ v = Value.str x t)
  | .inl i, v, h => by
    obtain ⟨t, e⟩ := Value.isInt_shape (k := i) (v := v) h
    exact .inl ⟨i, t, rfl, e⟩
  | .inr x, v, h => by
    obtain ⟨t, e⟩ := Value.isStrOf_shape (x := x) (v := v) h
    exact .inr ⟨x, t, rfl, e⟩
theorem keyIs_int (i : Int) (t : Tok) : keyIs (.inl i) (.int i t) = true := by simp [keyIs, Value.isInt]
theorem keyIs_str (x : Str) (t : Tok) : keyIs (.inr x) (.str x t) = true := by simp [keyIs, Value.isStrOf]
theorem key_ll (a b : Int) : decide ((Sum.inl a : Key) = Sum.inl b) = (a == b) := by
  by_cases e : a = b
  · subst e; simp
  · have h : ¬ (Sum.inl a : Key) = Sum.inl b := fun q => e (Sum.inl.inj q)
    rw [decide_eq_false h]
    exact (beq_eq_false_iff_ne.mpr e).symm
theorem key_rr (a b : Str) : decide ((Sum.inr a : Key) = Sum.inr b) = decide (a = b) := by
  by_cases e : a = b
  · subst e; simp
  · have h : ¬ (Sum.inr a : Key) = Sum.inr b := fun q => e (Sum.inr.inj q)
    rw [decide_eq_false h, decide_eq_false e]
theorem key_lr (a : Int) (b : Str) : decide ((Sum.inl a : Key) = Sum.inr b) = false := decide_eq_false (fun q => nomatch q)
theorem key_rl (a : Str) (b : Int) : decide ((Sum.inr a : Key) = Sum.inl b) = false := decide_eq_false (fun q => nomatch q)
def mixKind (prog : Program) (w : World) : PySem.KeyKind prog w Key where
  is := keyIs
  hash := keyH w
  inj := fun v a b ha hb => by
    rcases keyIs_shape ha with ⟨i, t, rfl, rfl⟩ | ⟨x, t, rfl, rfl⟩
    · rcases keyIs_shape hb with ⟨j, u, rfl, e⟩ | ⟨y, u, rfl, e⟩
      · injection e with e1 _; rw [e1]
      · exact nomatch e
    · rcases keyIs_shape hb with ⟨j, u, rfl, e⟩ | ⟨y, u, rfl, e⟩
      · exact nomatch e
      · injection e with e1 _; rw [e1]
  byValue := fun k v h => by
    rcases keyIs_shape h with ⟨i, t, rfl, rfl⟩ | ⟨x, t, rfl, rfl⟩ <;> rfl
  pyHash := fun hv h => by
    rcases keyIs_shape hv with ⟨i, t, rfl, rfl⟩ | ⟨x, t, rfl, rfl⟩
    · exact wpAny_pyHash_int h
    · exact wpAny_pyHash_str h
  eqBool := fun hu hv h => by
    rcases keyIs_shape hu with ⟨i, t, rfl, rfl⟩ | ⟨x, t, rfl, rfl⟩
    · rcases keyIs_shape hv with ⟨j, u, rfl, rfl⟩ | ⟨y, u, rfl, rfl⟩
      · rw [key_ll] at h; exact wpAny_eqBool_int h
      · rw [key_lr] at h; exact SeqAt.EqAt.int_str i t y u _ _ _ _ h
    · rcases keyIs_shape hv with ⟨j, u, rfl, rfl⟩ | ⟨y, u, rfl, rfl⟩
      · rw [key_rl] at h; exact SeqAt.EqAt.str_int x t j u _ _ _ _ h
      · rw [key_rr] at h; exact wpAny_eqBool_str h
  «strs» := fun k x t v h => by
    rcases keyIs_shape h with ⟨i, u, rfl, e⟩ | ⟨y, u, rfl, e⟩
    · exact nomatch e
    · injection e with e1 _
      subst e1
      cases v <;> rfl
theorem mixKind_int (prog : Program) (w : World) (i : Int) (t : Tok) : (mixKind prog w).is (.inl i) (.int i t) = true := keyIs_int i t
theorem mixKind_str (prog : Program) (w : World) (x : Str) (t : Tok) : (mixKind prog w).is (.inr x) (.str x t) = true := keyIs_str x t
end L2
namespace L2
open PySem PySem.Spec PyProof.Rows
inductive V where
  | non | bl (b : Bool) | int (i : Int) | str (x : Str) | byt (b : Array UInt8) | flt (b : UInt64) | ref (a : Addr) | ty (n : String)
  deriving DecidableEq
def RelV : V → Value → Prop
  | .non, u => u = Value.none
  | .bl b, u => u = Value.bool b
  | .int i, u => ∃ t, u = Value.int i t
  | .str x, u => ∃ t, u = Value.str x t
  | .byt b, u => ∃ t, u = Value.bytes b t
  | .flt b, u => ∃ t, u = Value.float b t
  | .ref a, u => u = Value.ref a
  | .ty n, u => u = Value.type n
abbrev Vals : List V → List Value → Prop := Paired RelV
theorem Vals.length {xs : List V} {us : List Value} (r : Vals xs us) : xs.length = us.length := Paired.length r
theorem Vals.get : ∀ {xs : List V} {us : List Value} {i : Nat} {x : V}, Vals xs us → xs[i]? = some x → ∃ u, us[i]? = some u ∧ RelV x u
  | _, _, _, _, .nil, e => by simp at e
  | _, _, 0, _, .cons r _, e => by simp at e; subst e; exact ⟨_, rfl, r⟩
  | _, _, i + 1, x, .cons _ t, e => by
    obtain ⟨u, h1, h2⟩ := Vals.get (i := i) (x := x) t (by simpa using e)
    exact ⟨u, by simpa using h1, h2⟩
theorem Vals.append : ∀ {xs ys : List V} {us ws : List Value}, Vals xs us → Vals ys ws → Vals (xs ++ ys) (us ++ ws)
  | _, _, _, _, .nil, s => s
  | _, _, _, _, .cons r t, s => .cons r (Vals.append t s)
theorem Vals.take : ∀ {xs : List V} {us : List Value} (n : Nat), Vals xs us → Vals (xs.take n) (us.take n)
  | _, _, 0, _ => .nil
  | _, _, _ + 1, .nil => .nil
  | _, _, n + 1, .cons r t => .cons r (Vals.take n t)
theorem Vals.drop : ∀ {xs : List V} {us : List Value} (n : Nat), Vals xs us → Vals (xs.drop n) (us.drop n)
  | _, _, 0, r => r
  | _, _, _ + 1, .nil => .nil
  | _, _, n + 1, .cons _ t => Vals.drop n t
def RelO : Option V → Option Value → Prop
  | some v, some u => RelV v u
  | none, none => True
  | _, _ => False
def KV {κ : Type} : List (κ × V) → List (κ × Value) → Prop := Paired fun (p : κ × V) (q : κ × Value) => p.1 = q.1 ∧ RelV p.2 q.2
def kV : Key → V
  | .inl i => .int i
  | .inr x => .str x
inductive HO where
  | lst (xs : List V)
  | tup (xs : List V)
  | dK (kvs : List (Key × V)) | dT (kvs : List (List Key × V))
  | set (S : Int → Bool) (n : Nat)
  | ins (C dx : Addr) (fs : List (Str × V))
  | own (x : Addr)
  | xd (fs : List (Str × V))
  | met (f x : Addr)
  | rng (lo hi : Int)
  | frz (o : Obj) (u : HO)
  | tbl (ps : Array Value)
  | ext (φ : Heap → Prop)
abbrev Hp := Addr → Option HO
def upd (H : Hp) (a : Addr) (o : HO) : Hp := fun b => if b = a then some o else H b
theorem upd_same {H : Hp} {a : Addr} {o : HO} : upd H a o a = some o := by unfold upd; rw [if_pos rfl]
theorem upd_ne {H : Hp} {a b : Addr} {o : HO} (h : b ≠ a) : upd H a o b = H b := by unfold upd; rw [if_neg h]
theorem ne_of {H : Hp} {a b : Addr} {o u : HO} (h : H a = some o) (h' : H b = some u) (d : o ≠ u) : a ≠ b := by
  intro e; subst e; rw [h] at h'; exact d (Option.some.inj h')
theorem ne_of_none {H : Hp} {a b : Addr} {o : HO} (h : H a = some o) (h' : H b = none) : a ≠ b := by
  intro e; subst e; rw [h] at h'; cases h'
section
variable (P : Program) (w : World)
def ObjOk (H : Hp) (h : Heap) (a : Addr) : HO → Prop
  | .lst xs => xs.length ≤ sizeLine ∧ ∃ (its : List Value) (n : Nat), Vals xs its ∧ h.get? a = some { cls := .type "list", data := .seq its.toArray n }
  | .tup xs => xs.length ≤ sizeLine ∧ ∃ its : List Value, Vals xs its ∧ IsTup h a its.toArray
  | .dK kvs => kvs.length ≤ sizeLine ∧ (a == sysModules) = false ∧ ∃ vs, KV kvs vs ∧ h.DictOf (mixKind P w) a vs
  | .dT kvs => kvs.length ≤ sizeLine ∧ (a == sysModules) = false ∧ ∃ xs : List (List Key × Addr × Value),
      Paired (fun (p : List Key × V) (q : List Key × Addr × Value) => p.1 = q.1 ∧ H q.2.1 = some (.tup (p.1.map kV)) ∧ RelV p.2 q.2.2) kvs xs ∧
      ∃ o es ep, h.get? a = some o ∧ o.ExactDict ∧ o.data = .dict es ep ∧ es.toList = xs.map (entryOfKey (tupleKind (mixKind P w))) ∧ (xs.map (·.1)).Nodup
  | .set S n => h.SetOf (intKind P w) a S n
  | .ins C dx fs => H dx = some (.own a) ∧ fs.length ≤ 1000 ∧ dx ≠ a ∧ h.get? a = some (PySem.W.instObj C dx) ∧
      ∃ mA, h.Ns1 dx mA ∧ (∀ f, RelO (fs.lookup f) (mA f)) ∧ PySem.Within mA (fs.map (·.1))
  | .own _ => ∃ o, h.get? a = some o
  | .xd fs => ∃ mA, h.Ns1 a mA ∧ ∀ f, RelO (fs.lookup f) (mA f)
  | .rng lo hi => ∃ t u v, h.get? a = some { cls := .type "range", data := .fields #[.int lo t, .int hi u, .int 1 v] }
  | .frz o u => h.get? a = some o ∧ ObjOk H h a u
  | .tbl ps => h.get? a = some { cls := .none, data := .fields ps }
  | .met f x => h.get? a = some (PySem.W.methodObj (.ref f) (.ref x))
  | .ext φ => φ h ∧ (∃ o, h.get? a = some o) ∧ ∀ h1 h2 : Heap, φ h1 → (∀ o, h1.get? a = some o → h2.get? a = some o) → φ h2
def HOk (H : Hp) (h : Heap) : Prop := ∀ a o, H a = some o → ObjOk P w H h a o
end
section
variable {P : Program} {w : World} {H H' : Hp} {h h' : Heap} {a : Addr} {o : HO}
theorem ObjOk.lt (x : ObjOk P w H h a o) : a < h.objs.size := by
  cases o with
  | lst xs => obtain ⟨_, _, _, _, e⟩ := x; exact Heap.lt_size e
  | tup xs => obtain ⟨_, _, _, p⟩ := x; exact p.lt
  | dK kvs => obtain ⟨_, _, _, _, o, _, _, e, _⟩ := x; exact Heap.lt_size e
  | dT kvs => obtain ⟨_, _, _, _, o, _, _, e, _⟩ := x; exact Heap.lt_size e
  | set S n => obtain ⟨o, _, _, _, e, _⟩ := x; exact Heap.lt_size e
  | ins C dx fs => obtain ⟨_, _, _, e, _⟩ := x; exact Heap.lt_size e
  | own y => obtain ⟨_, e⟩ := x; exact Heap.lt_size e
  | xd fs => obtain ⟨_, ⟨_, _, _, e, _⟩, _⟩ := x; exact Heap.lt_size e
  | rng lo hi => obtain ⟨_, _, _, e⟩ := x; exact Heap.lt_size e
  | frz ob u => obtain ⟨e, _⟩ := x; exact Heap.lt_size e
  | tbl ps => exact Heap.lt_size (show h.get? a = some _ from x)
  | met f y => exact Heap.lt_size (show h.get? a = some _ from x)
  | ext φ => obtain ⟨_, ⟨_, e⟩, _⟩ := x; exact Heap.lt_size e
theorem Paired.mapP {α β : Type} {F G : α → β → Prop} : ∀ {l₁ : List α} {l₂ : List β}, Paired F l₁ l₂ → (∀ a b, F a b → G a b) → Paired G l₁ l₂
  | _, _, .nil, _ => .nil
  | _, _, .cons r t, f => .cons (f _ _ r) (Paired.mapP t f)
theorem ObjOk.stay (x : ObjOk P w H h a o) (k : ∀ b u, (b = a ∨ H b = some (.own a)) → h.get? b = some u → h'.get? b = some u)
    (ho : ∀ b, H b = some (.own a) → H' b = some (.own a)) (ht : ∀ b xs, H b = some (.tup xs) → H' b = some (.tup xs)) : ObjOk P w H' h' a o := by
  induction o with
  | lst xs => obtain ⟨z, its, n, r, e⟩ := x; exact ⟨z, its, n, r, k _ _ (.inl rfl) e⟩
  | tup xs => obtain ⟨z, its, r, ob, e, c⟩ := x; exact ⟨z, its, r, ob, k _ _ (.inl rfl) e, c⟩
  | dK kvs => obtain ⟨z, y, vs, r, ob, es, ep, e, c⟩ := x; exact ⟨z, y, vs, r, ob, es, ep, k _ _ (.inl rfl) e, c⟩
  | dT kvs =>
    obtain ⟨z, y, xs, r, ob, es, ep, e, c⟩ := x
    exact ⟨z, y, xs, Paired.mapP r fun p q z => ⟨z.1, ht _ _ z.2.1, z.2.2⟩, ob, es, ep, k _ _ (.inl rfl) e, c⟩
  | set S n => obtain ⟨ob, es, ep, t, e, c⟩ := x; exact ⟨ob, es, ep, t, k _ _ (.inl rfl) e, c⟩
  | ins C dx fs =>
    obtain ⟨d, z, ne, e, mA, ⟨od, es, ep, e2, c⟩, r⟩ := x
    exact ⟨ho _ d, z, ne, k _ _ (.inl rfl) e, mA, ⟨od, es, ep, k _ _ (.inr d) e2, c⟩, r⟩
  | own y => obtain ⟨ob, e⟩ := x; exact ⟨ob, k _ _ (.inl rfl) e⟩
  | xd fs => obtain ⟨mA, ⟨od, es, ep, e, c⟩, r⟩ := x; exact ⟨mA, ⟨od, es, ep, k _ _ (.inl rfl) e, c⟩, r⟩
  | rng lo hi => obtain ⟨t, u, v, e⟩ := x; exact ⟨t, u, v, k _ _ (.inl rfl) e⟩
  | frz ob u ih => obtain ⟨e, q⟩ := x; exact ⟨k _ _ (.inl rfl) e, ih q⟩
  | tbl ps =>
    have e : h.get? a = some { cls := .none, data := .fields ps } := x
    show h'.get? a = some { cls := .none, data := .fields ps }
    exact k a _ (.inl rfl) e
  | met f y =>
    have e : h.get? a = some (PySem.W.methodObj (.ref f) (.ref y)) := x
    show h'.get? a = some (PySem.W.methodObj (.ref f) (.ref y))
    exact k a _ (.inl rfl) e
  | ext φ => obtain ⟨p, ⟨o, e⟩, st⟩ := x; exact ⟨st _ _ p fun o q => k _ _ (.inl rfl) q, ⟨o, k _ _ (.inl rfl) e⟩, st⟩
theorem HOk.lt (x : HOk P w H h) (e : H a = some o) : a < h.objs.size := (x a o e).lt
theorem HOk.fresh (x : HOk P w H h) (e : h.objs.size ≤ a) : H a = none := by
  cases q : H a with
  | none => rfl
  | some u => exact absurd (Nat.lt_of_lt_of_le (x.lt q) e) (Nat.lt_irrefl _)
theorem HOk.kept (x : HOk P w H h) (k : ∀ b u, h.get? b = some u → h'.get? b = some u) : HOk P w H h' := fun a o e =>
  (x a o e).stay (fun b u _ q => k b u q) (fun _ q => q) fun _ _ q => q
theorem HOk.laid (x : HOk P w H h) (k : ∀ b u, h.get? b = some u → h'.get? b = some u) (hp : h.objs.size ≤ a) (new : ObjOk P w (upd H a o) h' a o) : HOk P w (upd H a o) h' := fun b u e => by
  have hn := x.fresh hp
  by_cases hb : b = a
  · subst hb; rw [upd_same] at e; cases e; exact new
  · rw [upd_ne hb] at e
    exact (x b u e).stay (fun c v _ q => k c v q) (fun c q => by rw [upd_ne (ne_of_none q hn)]; exact q) fun c xs q => by rw [upd_ne (ne_of_none q hn)]; exact q
end
def Rd (H : Hp) (a : Addr) (u : HO) : Prop := H a = some u ∨ ∃ o, H a = some (.frz o u)
theorem Rd.ok {P : Program} {w : World} {H : Hp} {h : Heap} {a : Addr} {u : HO} (r : Rd H a u) (x : HOk P w H h) : ObjOk P w H h a u := by
  rcases r with r | ⟨o, r⟩
  · exact x a u r
  · obtain ⟨_, q⟩ := x a _ r
    exact q
def Mut : Option HO → Prop
  | some (.lst _) => True
  | some (.dK _) => True
  | some (.dT _) => True
  | some (.set _ _) => True
  | some (.ins _ _ _) => True
  | some (.ext _) => True
  | _ => False
section
variable {P : Program} {w : World} {H : Hp} {h h' : Heap} {x e : Addr} {o' : HO}
theorem HOk.write (ok : HOk P w H h) (mu : Mut (H x)) (he : e = x ∨ H e = some (.own x)) (k : ∀ b u, b ≠ e → h.get? b = some u → h'.get? b = some u) (heo : ∃ u, h'.get? e = some u)
    (new : ObjOk P w (upd H x o') h' x o') : HOk P w (upd H x o') h' := fun b u q => by
  have nown : ∀ c y, H c = some (.own y) → c ≠ x := fun c y r z => by subst z; rw [r] at mu; exact mu
  have ntup : ∀ c xs, H c = some (.tup xs) → c ≠ x := fun c xs r z => by subst z; rw [r] at mu; exact mu
  by_cases hb : b = x
  · subst hb; rw [upd_same] at q; cases q; exact new
  · rw [upd_ne hb] at q
    by_cases hbe : b = e
    · have q' : H b = some (.own x) := by
        rcases he with z | z
        · exact absurd (hbe.trans z) hb
        · rw [hbe]; exact z
      rw [q] at q'; cases q'
      obtain ⟨v, hv⟩ := heo
      exact ⟨v, by rw [hbe]; exact hv⟩
    · refine (ok b u q).stay (fun c v hc r => k c v ?_ r) (fun c r => by rw [upd_ne (nown c b r)]; exact r) fun c xs r => by rw [upd_ne (ntup c xs r)]; exact r
      rcases hc with rfl | hc
      · exact hbe
      · rintro rfl
        rcases he with z | z
        · exact nown c b hc z
        · rw [hc] at z; cases z; exact hb rfl
end
structure Un (fs ex : List Addr) (H H' : Hp) (h h' : Heap) : Prop where
  keep : ∀ b o, h.get? b = some o → H b = none → b ∉ fs → b ∉ ex → h'.get? b = some o
  slot : ∀ b o, h.get? b = some o → H b = none → b ∈ fs → b ∉ ex → ∃ sl, h'.get? b = some { o with slots := sl }
  free : ∀ b o, h.get? b = some o → H b = none → b ∉ ex → H' b = none
  there : ∀ b o, h.get? b = some o → b ∉ ex → ∃ o', h'.get? b = some o'
  tups : ∀ b xs, H b = some (.tup xs) → H' b = some (.tup xs)
  frzs : ∀ b o u, H b = some (.frz o u) → H' b = some (.frz o u)
  tbls : ∀ b ps, H b = some (.tbl ps) → ∃ more, H' b = some (.tbl (ps ++ more))
section
variable {fs fs' ex ex' : List Addr} {H H1 H2 : Hp} {h h1 h2 h' : Heap} {a x e : Addr} {o : HO}
theorem Un.any (u : Un fs ex H H1 h h1) {b : Addr} {ob : Obj} (q : h.get? b = some ob) (n : H b = none) (hx : b ∉ ex) : ∃ sl, h1.get? b = some { ob with slots := sl } := by
  by_cases hb : b ∈ fs
  · exact u.slot b ob q n hb hx
  · exact ⟨ob.slots, u.keep b ob q n hb hx⟩
theorem Un.kept (k : ∀ b u, h.get? b = some u → h'.get? b = some u) : Un fs ex H H h h' :=
  ⟨fun b ob q _ _ _ => k b ob q, fun b ob q _ _ _ => ⟨ob.slots, k b ob q⟩, fun _ _ _ n _ => n, fun b ob q _ => ⟨ob, k b ob q⟩, fun _ _ q => q, fun _ _ _ q => q, fun _ ps q => ⟨#[], by rw [q]; simp⟩⟩
theorem Un.refl : Un fs ex H H h h := Un.kept fun _ _ q => q
theorem Un.laid (k : ∀ b u, h.get? b = some u → h'.get? b = some u) (hp : h.objs.size ≤ a) (hn : H a = none) : Un fs ex H (upd H a o) h h' where
  keep := fun b u q _ _ _ => k b u q
  slot := fun b u q _ _ _ => ⟨u.slots, k b u q⟩
  free := fun b u q n _ => by rw [upd_ne (Nat.ne_of_lt (Nat.lt_of_lt_of_le (Heap.lt_size q) hp))]; exact n
  there := fun b u q _ => ⟨u, k b u q⟩
  tups := fun b xs q => by rw [upd_ne (ne_of_none q hn)]; exact q
  frzs := fun b u xs q => by rw [upd_ne (ne_of_none q hn)]; exact q
  tbls := fun b ps q => ⟨#[], by rw [upd_ne (ne_of_none q hn), q]; simp⟩
theorem Un.write (mu : Mut (H x)) (he : e = x ∨ H e = some (.own x)) (k : ∀ b u, b ≠ e → h.get? b = some u → h'.get? b = some u) (heo : ∃ u, h'.get? e = some u) : Un fs ex H (upd H x o) h h' := by
  have hx : ∀ b, H b = none → b ≠ x := fun b n z => by subst z; rw [n] at mu; exact mu
  have hb : ∀ b, H b = none → b ≠ e := fun b n z => by
    subst z
    rcases he with r | r
    · exact hx b n r
    · rw [n] at r; cases r
  have hm : ∀ b u, H b = some u → ¬ Mut (some u) → b ≠ x := fun b u q nm z => by subst z; rw [q] at mu; exact nm mu
  refine ⟨fun b u q n _ _ => k b u (hb b n) q, fun b u q n _ _ => ⟨u.slots, k b u (hb b n) q⟩, fun b u q n _ => by rw [upd_ne (hx b n)]; exact n, fun b u q _ => ?_,
    fun b xs q => by rw [upd_ne (hm b _ q fun z => z)]; exact q, fun b u xs q => by rw [upd_ne (hm b _ q fun z => z)]; exact q, fun b ps q => ⟨#[], by rw [upd_ne (hm b _ q fun z => z), q]; simp⟩⟩
  by_cases hbe : b = e
  · subst hbe; exact heo
  · exact ⟨u, k b u hbe q⟩
end
def trk (h : Heap) (H : Hp) : List Addr := (List.range h.objs.size).filter fun a => (H a).isSome
def hidT (h : Heap) (H : Hp) : Heap := PySem.W.hideAll h (trk h H)
theorem hidT_size (h : Heap) (H : Hp) : (hidT h H).objs.size = h.objs.size := PySem.W.hideAll_size _ _
theorem hidT_get {h : Heap} {H : Hp} {b : Addr} {o : Obj} (e : h.get? b = some o) (n : H b = none) : (hidT h H).get? b = some o :=
  PySem.W.hideAll_get _ e fun hm => by
    have q : (H b).isSome = true := (List.mem_filter.mp hm).2
    rw [n] at q; simp at q
theorem of_hidT {h : Heap} {H : Hp} {b : Addr} {o : Obj} (e : (hidT h H).get? b = some o) : h.get? b = some o ∧ H b = none := by
  have e' : h.get? b = some o := PySem.W.of_hideAll (trk h H) e
  refine ⟨e', ?_⟩
  cases q : H b with
  | none => rfl
  | some x =>
    have hm : b ∈ trk h H := List.mem_filter.mpr ⟨List.mem_range.mpr (Heap.lt_size e'), by simp [q]⟩
    have z : (hidT h H).get? b = none := PySem.W.hideAll_none (trk h H) hm
    rw [z] at e; cases e
end L2
namespace L2
open PySem PySem.Spec PyProof.Rows
structure Mod (K : PySem.W.Frag) (mg : Str → Option Value) (base : Heap) : Prop where
  kin : K.In base
  glob : base.Ns mainGlobals mg
  blt : ∃ mb, base.Ns builtinsNs mb ∧ ∀ x : Str, x ≠ "__name__" → mb x = bootBuiltins x
  nolimit : base.NoLimit
structure Cx where
  prog : Program
  w : World
  K : PySem.W.Frag
  mg : Str → Option Value
  base : Heap
  A : Around
  N : List Str
  s₀ : Shared
  H₀ : Hp
  env : Env
  outer : List Env
  stack : List Env
  ex : List Addr
  fn : Str → Bool
  calm : Bool
  pn : List (Addr × Obj)
  xe : Value → Shared → Prop
def frs (l : List Env) : List Addr := l.filterMap (·.frame)
abbrev Cx.fs (X : Cx) : List Addr := frs X.outer
def Vis (sc : Scope) (x : Str) : Prop := sc.names.lookup x = some .local ∨ sc.names.lookup x = some .cell ∨ sc.names.lookup x = some .free
def Loc (sc : Scope) (x : Str) : Prop := sc.names.lookup x = some .local ∨ sc.names.lookup x = some .cell
def Look (env : Env) (h : Heap) (m : Str → Option Value) (x : Str) (u : Value) : Prop :=
  (env.kindOf x = some .local ∧ m x = some u) ∨ ((env.kindOf x = some .cell ∨ env.kindOf x = some .free) ∧ ∃ c, env.cells.lookup x = some c ∧ h.IsCell c (some u))
structure Cx.Ok (X : Cx) : Prop where
  mod : Mod X.K X.mg X.base
  kind : X.env.scope.kind = .function
  glob : X.env.globals = mainGlobals
  blt : X.env.builtins = builtinsNs
  above : X.s₀.heap.objs.size ≤ X.env.locals
  inj : ∀ x y c, X.env.cells.lookup x = some c → X.env.cells.lookup y = some c → x = y
  has : ∀ x, (X.env.kindOf x = some .cell ∨ X.env.kindOf x = some .free) → ∃ c, X.env.cells.lookup x = some c
  cab : ∀ x c, X.fn x = true → X.env.cells.lookup x = some c → X.s₀.heap.objs.size ≤ c
  hd : X.calm = true → X.A.handled = none
  frames : X.A.frames = some X.stack
  stk : X.stack = X.outer ∨ (X.stack = X.env :: X.outer ∧ X.env.frame = some X.env.locals)
  exf : ∀ b ∈ X.ex, b ≠ X.env.locals ∧ ∀ x c, X.env.cells.lookup x = some c → c ≠ b
  bs : ∀ b o, X.base.get? b = some o → X.s₀.heap.get? b = some o ∧ X.H₀ b = none
  bsz : X.base.objs.size ≤ X.s₀.heap.objs.size
  noex : ∀ b o, X.base.get? b = some o → b ∉ X.ex
  exfs : ∀ b ∈ X.ex, b ∉ X.fs
  funs : X.s₀.heap.FunFrames X.base X.outer
  frf : ∀ b ∈ X.fs, X.H₀ b = none
structure Inv (X : Cx) (pins : List (Addr × Obj)) (σ : List (Option V)) (H : Hp) (s : Shared) : Prop where
  ok : X.Ok
  os : s.os = X.s₀.os
  bare : AllBare s.gens
  base : Un X.fs X.ex X.H₀ H X.s₀.heap s.heap
  loc : ∃ m, s.heap.Ns X.env.locals m ∧ ∀ (i : Nat) (x : Str) (v : V), X.N[i]? = some x → σ[i]? = some (some v) → Vis X.env.scope x → ∃ u, RelV v u ∧ Look X.env s.heap m x u
  cell : ∀ x c, X.env.cells.lookup x = some c → ∃ v, s.heap.IsCell c v
  free : H X.env.locals = none
  freeC : ∀ x c, X.env.cells.lookup x = some c → H c = none
  pin : ∀ p ∈ X.pn ++ pins, s.heap.get? p.1 = some p.2 ∧ H p.1 = none ∧ p.1 ≠ X.env.locals ∧ p.1 ∉ X.fs ∧ ∀ v, p.2.data ≠ .cell v
  hok : HOk X.prog X.w H s.heap
  len : σ.length = X.N.length
section
variable {X : Cx} {pins : List (Addr × Obj)} {σ : List (Option V)} {H H' : Hp} {s : Shared} {h' : Heap}
theorem Cx.Ok.nofr (ok : X.Ok) {b : Addr} {o : Obj} (e : X.base.get? b = some o) : b ∉ X.fs := fun hb => by
  have := (ok.funs.mem hb).1
  rw [e] at this; cases this
theorem Inv.bs (I : Inv X pins σ H s) : ∀ b o, X.base.get? b = some o → s.heap.get? b = some o ∧ H b = none := fun b o e =>
  ⟨I.base.keep b o (I.ok.bs b o e).1 (I.ok.bs b o e).2 (I.ok.nofr e) (I.ok.noex b o e), I.base.free b o (I.ok.bs b o e).1 (I.ok.bs b o e).2 (I.ok.noex b o e)⟩
theorem Inv.bk (I : Inv X pins σ H s) : ∀ b o, X.base.get? b = some o → s.heap.get? b = some o := fun b o e => (I.bs b o e).1
theorem Inv.mod (I : Inv X pins σ H s) : Mod X.K X.mg X.base := I.ok.mod
theorem Inv.kIn (I : Inv X pins σ H s) : X.K.In s.heap := I.ok.mod.kin.keeps I.bk
theorem Inv.lt (I : Inv X pins σ H s) : X.env.locals < s.heap.objs.size := let ⟨_, hn, _⟩ := I.loc; hn.lt
theorem Inv.sz (I : Inv X pins σ H s) : X.s₀.heap.objs.size ≤ s.heap.objs.size := Nat.le_trans I.ok.above (Nat.le_of_lt I.lt)
theorem Inv.nofs (I : Inv X pins σ H s) {a : Addr} (h : s.heap.objs.size ≤ a) : a ∉ X.fs := fun hb => by
  obtain ⟨_, o, ho, _⟩ := I.ok.funs.mem hb
  exact absurd (Nat.lt_of_lt_of_le (Heap.lt_size ho) (Nat.le_trans I.sz h)) (Nat.lt_irrefl _)
theorem Inv.cne (I : Inv X pins σ H s) : ∀ x c, X.env.cells.lookup x = some c → c ≠ X.env.locals := fun x c e z => by
  obtain ⟨v, o, ho, hd⟩ := I.cell x c e
  obtain ⟨m, ⟨o', es, ep, ho', hd', _⟩, _⟩ := I.loc
  rw [z, ho'] at ho; cases ho; rw [hd'] at hd; cases hd
theorem Inv.funs (I : Inv X pins σ H s) : s.heap.FunFrames X.base X.outer := by
  have all : ∀ (l : List Env), (∀ b ∈ frs l, b ∈ X.fs) → X.s₀.heap.FunFrames X.base l → s.heap.FunFrames X.base l := by
    intro l
    induction l with
    | nil => intro _ _; trivial
    | cons env r ih =>
      intro hs hl
      obtain ⟨hk, ⟨L, o, hf, hn, ho, hd⟩, hr⟩ := hl
      have hL : L ∈ X.fs := hs L (by unfold frs; rw [List.filterMap_cons, hf]; exact List.mem_cons_self)
      obtain ⟨sl, e⟩ := I.base.slot L o ho (I.ok.frf L hL) hL fun z => I.ok.exfs L z hL
      exact ⟨hk, ⟨L, _, hf, hn, e, hd⟩, ih (fun b hb => hs b (by unfold frs; rw [List.filterMap_cons, hf]; exact List.mem_cons_of_mem _ hb)) hr⟩
  exact all X.outer (fun _ hb => hb) I.ok.funs
theorem Inv.stack (I : Inv X pins σ H s) : s.heap.FunFrames X.base X.stack := by
  rcases I.ok.stk with e | ⟨e, hf⟩
  · rw [e]; exact I.funs
  · rw [e]
    obtain ⟨m, hn, _⟩ := I.loc
    refine .cons (by rw [I.ok.kind]; decide) hf hn ?_ I.funs
    exact Heap.get?_none_of_le (Nat.le_trans I.ok.bsz I.ok.above)
theorem Inv.stkSub (I : Inv X pins σ H s) : ∀ b ∈ frs X.stack, b ∈ X.env.locals :: X.fs := fun b hb => by
  rcases I.ok.stk with e | ⟨e, hf⟩
  · rw [e] at hb; exact List.mem_cons_of_mem _ hb
  · rw [e] at hb
    unfold frs at hb
    rw [List.filterMap_cons, hf] at hb
    exact hb
theorem Inv.stkFree (I : Inv X pins σ H s) : ∀ b ∈ frs X.stack, H b = none := fun b hb => by
  rcases List.mem_cons.mp (I.stkSub b hb) with e | hb
  · rw [e]; exact I.free
  · obtain ⟨_, o, ho, _⟩ := I.ok.funs.mem hb
    exact I.base.free b o ho (I.ok.frf b hb) fun z => I.ok.exfs b z hb
theorem Inv.step {g' : Array GenState} {t' : Nat} {d' : Drawn} {ch : List Addr} (I : Inv X pins σ H s)
    (hch : ∀ b ∈ ch, (b ∈ X.ex ∨ X.s₀.heap.objs.size ≤ b) ∧ b ≠ X.env.locals ∧ (∀ x c, X.env.cells.lookup x = some c → c ≠ b) ∧ ∀ p ∈ X.pn ++ pins, p.1 ≠ b)
    (keep : ∀ b o, b ≠ X.env.locals → b ∉ X.fs → b ∉ ch → s.heap.get? b = some o → H b = none → h'.get? b = some o)
    (slot : ∀ b o, b ≠ X.env.locals → b ∈ X.fs → b ∉ ch → s.heap.get? b = some o → H b = none → ∃ sl, h'.get? b = some { o with slots := sl }) (free : ∀ b o, b ∉ ch → s.heap.get? b = some o → H b = none → H' b = none)
    (there : ∀ b o, b ∉ ch → s.heap.get? b = some o → ∃ o', h'.get? b = some o')
    (tups : ∀ b xs, H b = some (.tup xs) → H' b = some (.tup xs)) (frzs : ∀ b o u, H b = some (.frz o u) → H' b = some (.frz o u)) (tbls : ∀ b ps, H b = some (.tbl ps) → ∃ more, H' b = some (.tbl (ps ++ more)))
    (ns : ∀ m, s.heap.Ns X.env.locals m → h'.Ns X.env.locals m) (hok : HOk X.prog X.w H' h') (hg : AllBare g') :
    Inv X pins σ H' { s with heap := h', gens := g', drawn := d', toks := t' } := by
  have neL : ∀ b o, X.s₀.heap.get? b = some o → b ≠ X.env.locals := fun b o e => Nat.ne_of_lt (Nat.lt_of_lt_of_le (Heap.lt_size e) I.ok.above)
  have neC : ∀ b o, X.s₀.heap.get? b = some o → b ∉ X.ex → b ∉ ch := fun b o e hx hb => by
    rcases (hch b hb).1 with z | z
    · exact hx z
    · exact absurd (Nat.lt_of_lt_of_le (Heap.lt_size e) z) (Nat.lt_irrefl _)
  have cellK : ∀ x c, X.env.cells.lookup x = some c → ∀ v, s.heap.IsCell c v → h'.IsCell c v := fun x c e v ⟨o, ho, hd⟩ => by
    have nch : c ∉ ch := fun z => (hch c z).2.2.1 x c e rfl
    by_cases hc : c ∈ X.fs
    · obtain ⟨sl, q⟩ := slot c o (I.cne x c e) hc nch ho (I.freeC x c e)
      exact ⟨_, q, hd⟩
    · exact ⟨o, keep c o (I.cne x c e) hc nch ho (I.freeC x c e), hd⟩
  refine ⟨I.ok, I.os, hg, ⟨fun b o e n hb hx => ?_, fun b o e n hb hx => ?_, fun b o e n hx => ?_, fun b o e hx => ?_, fun b xs e => tups b xs (I.base.tups b xs e), fun b o xs e => frzs b o xs (I.base.frzs b o xs e), fun b ps e => ?_⟩, ?_, fun x c e => ?_, ?_, fun x c e => ?_, fun p hp => ?_, hok, I.len⟩
  · exact keep b o (neL b o e) hb (neC b o e hx) (I.base.keep b o e n hb hx) (I.base.free b o e n hx)
  · obtain ⟨sl, e1⟩ := I.base.slot b o e n hb hx
    obtain ⟨sl', e2⟩ := slot b _ (neL b o e) hb (neC b o e hx) e1 (I.base.free b o e n hx)
    exact ⟨sl', e2⟩
  · obtain ⟨o', e1⟩ := I.base.there b o e hx
    exact free b o' (neC b o e hx) e1 (I.base.free b o e n hx)
  · obtain ⟨o', e1⟩ := I.base.there b o e hx
    exact there b o' (neC b o e hx) e1
  · obtain ⟨m1, e1⟩ := I.base.tbls b ps e
    obtain ⟨m2, e2⟩ := tbls b _ e1
    exact ⟨m1 ++ m2, by rw [e2, Array.append_assoc]⟩
  · obtain ⟨m, hn, hl⟩ := I.loc
    refine ⟨m, ns m hn, fun i x v e1 e2 e3 => ?_⟩
    obtain ⟨u, r, l⟩ := hl i x v e1 e2 e3
    refine ⟨u, r, ?_⟩
    rcases l with l | ⟨k, c, e, z⟩
    · exact .inl l
    · exact .inr ⟨k, c, e, cellK x c e _ z⟩
  · obtain ⟨v, z⟩ := I.cell x c e
    exact ⟨v, cellK x c e v z⟩
  · obtain ⟨m, ⟨o, _, _, ho, _⟩, _⟩ := I.loc
    exact free _ o (fun z => (hch _ z).2.1 rfl) ho I.free
  · obtain ⟨v, o, ho, hd⟩ := I.cell x c e
    exact free c o (fun z => (hch c z).2.2.1 x c e rfl) ho (I.freeC x c e)
  · obtain ⟨e, n, ne, nf, d⟩ := I.pin p hp
    have nch : p.1 ∉ ch := fun z => (hch p.1 z).2.2.2 p hp rfl
    exact ⟨keep p.1 p.2 ne nf nch e n, free p.1 p.2 nch e n, ne, nf, d⟩
theorem Inv.un {t' : Nat} (I : Inv X pins σ H s) (u : Un X.fs [] H H' s.heap h') (hok : HOk X.prog X.w H' h') : Inv X pins σ H' { s with heap := h', toks := t' } := by
  obtain ⟨m, ⟨o, es, ep, ho, r⟩, _⟩ := id I.loc
  obtain ⟨sl, hL⟩ := u.any ho I.free (by simp)
  exact I.step (g' := s.gens) (d' := s.drawn) (ch := []) (fun _ z => nomatch z) (fun b o _ hb _ e n => u.keep b o e n hb (by simp)) (fun b o _ hb _ e n => u.slot b o e n hb (by simp)) (fun b o _ e n => u.free b o e n (by simp)) (fun b o _ e => u.there b o e (by simp)) u.tups u.frzs u.tbls (fun m' hm => by
    obtain ⟨o', es', ep', ho', r'⟩ := hm
    rw [ho] at ho'; cases ho'
    exact ⟨_, es', ep', hL, r'⟩) hok I.bare
theorem Inv.call {g' : Array GenState} {t' : Nat} {d' : Drawn} {ch : List Addr} (I : Inv X pins σ H s) (u : Un (frs X.stack) ch H H' s.heap h') (hok : HOk X.prog X.w H' h') (hg : AllBare g')
    (hch : ∀ b ∈ ch, (b ∈ X.ex ∨ X.s₀.heap.objs.size ≤ b) ∧ b ≠ X.env.locals ∧ (∀ x c, X.env.cells.lookup x = some c → c ≠ b) ∧ ∀ p ∈ X.pn ++ pins, p.1 ≠ b) :
    Inv X pins σ H' { s with heap := h', gens := g', drawn := d', toks := t' } := by
  obtain ⟨m, ⟨o, es, ep, ho, r⟩, _⟩ := id I.loc
  obtain ⟨sl, hL⟩ := u.any ho I.free fun z => (hch _ z).2.1 rfl
  exact I.step (ch := ch) hch (fun b o hL hb hc e n => u.keep b o e n (fun z => (List.mem_cons.mp (I.stkSub b z)).elim hL hb) hc) (fun b o _ _ hc e n => u.any e n hc) (fun b o hc e n => u.free b o e n hc) (fun b o hc e => u.there b o e hc) u.tups u.frzs u.tbls (fun m' hm => by
    obtain ⟨o', es', ep', ho', r'⟩ := hm
    rw [ho] at ho'; cases ho'
    exact ⟨_, es', ep', hL, r'⟩) hok hg
theorem Inv.turned {t' : Nat} {it : Addr} (I : Inv X pins σ H s) (k : ∀ b o, b ≠ it → s.heap.get? b = some o → h'.get? b = some o) (hn : H it = none) (hL : it ≠ X.env.locals)
    (h1 : it ∈ X.ex ∨ X.s₀.heap.objs.size ≤ it) (h2 : ∀ x c, X.env.cells.lookup x = some c → c ≠ it) (h3 : ∀ p ∈ X.pn ++ pins, p.1 ≠ it) : Inv X pins σ H { s with heap := h', toks := t' } := by
  have nit : ∀ b u, H b = some u → b ≠ it := fun b u e z => by rw [z, hn] at e; cases e
  refine I.step (g' := s.gens) (d' := s.drawn) (ch := [it]) (fun b hb => ?_) (fun b o _ _ hc e _ => k b o (fun z => hc (by simp [z])) e) (fun b o _ _ hc e _ => ⟨o.slots, k b o (fun z => hc (by simp [z])) e⟩) (fun _ _ _ _ n => n)
    (fun b o hc e => ⟨o, k b o (fun z => hc (by simp [z])) e⟩) (fun _ _ e => e) (fun _ _ _ e => e) (fun b ps e => ⟨#[], by rw [e]; simp⟩) (fun m hm => ?_) (fun b u e => ?_) I.bare
  · have e : b = it := by simpa using hb
    subst e
    exact ⟨h1, hL, h2, h3⟩
  · obtain ⟨o, es, ep, ho, r⟩ := hm
    exact ⟨o, es, ep, k _ o (Ne.symm hL) ho, r⟩
  · refine (I.hok b u e).stay (fun c v hc q => k c v ?_ q) (fun _ q => q) fun _ _ q => q
    rcases hc with z | z
    · rw [z]; exact nit b u e
    · exact nit c _ z
theorem Inv.tok (I : Inv X pins σ H s) (t : Nat) : Inv X pins σ H { s with toks := t } := I.un (h' := s.heap) (t' := t) Un.refl I.hok
theorem Inv.kept {t' : Nat} (I : Inv X pins σ H s) (k : ∀ b u, s.heap.get? b = some u → h'.get? b = some u) : Inv X pins σ H { s with heap := h', toks := t' } := I.un (Un.kept k) (I.hok.kept k)
theorem Inv.laid {a : Addr} {o : HO} {t' : Nat} (I : Inv X pins σ H s) (k : ∀ b u, s.heap.get? b = some u → h'.get? b = some u) (hp : s.heap.objs.size ≤ a) (new : ObjOk X.prog X.w (upd H a o) h' a o) :
    Inv X pins σ (upd H a o) { s with heap := h', toks := t' } := I.un (Un.laid k hp (I.hok.fresh hp)) (I.hok.laid k hp new)
theorem Inv.write {x e : Addr} {o : HO} {t' : Nat} (I : Inv X pins σ H s) (mu : Mut (H x)) (he : e = x ∨ H e = some (.own x)) (k : ∀ b u, b ≠ e → s.heap.get? b = some u → h'.get? b = some u) (heo : ∃ u, h'.get? e = some u)
    (new : ObjOk X.prog X.w (upd H x o) h' x o) : Inv X pins σ (upd H x o) { s with heap := h', toks := t' } := I.un (Un.write mu he k heo) (I.hok.write mu he k heo new)
theorem Inv.pins_of {pins' : List (Addr × Obj)} (I : Inv X pins σ H s) (h : ∀ p ∈ pins', s.heap.get? p.1 = some p.2 ∧ H p.1 = none ∧ p.1 ≠ X.env.locals ∧ p.1 ∉ X.fs ∧ ∀ v, p.2.data ≠ .cell v) : Inv X pins' σ H s :=
  ⟨I.ok, I.os, I.bare, I.base, I.loc, I.cell, I.free, I.freeC, fun p hp => (List.mem_append.mp hp).elim (fun z => I.pin p (List.mem_append_left _ z)) (h p), I.hok, I.len⟩
theorem nodup_ix {N : List Str} (hN : N.Nodup) {i j : Nat} {x : Str} (a : N[i]? = some x) (b : N[j]? = some x) : i = j := by
  obtain ⟨h1, e1⟩ := List.getElem?_eq_some_iff.mp a
  obtain ⟨h2, e2⟩ := List.getElem?_eq_some_iff.mp b
  exact (List.getElem_inj hN).mp (e1.trans e2.symm)
theorem store_ok2 {M : Model} {A : Around} {E : Value → Shared → Prop} {i : Nat} {x : Str} {v : V} {u : Value} {Q : Unit → Shared → Prop} (I : Inv X pins σ H s) (hN : X.N.Nodup) (hi : X.N[i]? = some x) (hx : Loc X.env.scope x) (r : RelV v u)
    (h : ∀ s', Inv X pins (σ.set i (some v)) H s' → (∃ a, Heap.SameBut a s.heap s'.heap ∧ (a = X.env.locals ∨ X.env.cells.lookup x = some a)) → Q () s') (hf : X.fn x = true ∨ X.env.scope.names.lookup x = some .local := by first | exact .inl rfl | exact .inr rfl | assumption) : wpAny M A (storeName X.env x u) Q E s := by
  obtain ⟨m, hn, hl⟩ := id I.loc
  have hcls : (X.env.scope.kind == .class || (X.env.scope.kind == .module && X.env.locals != X.env.globals)) = false := by rw [I.ok.kind]; rfl
  have hiσ : i < σ.length := by rw [I.len]; exact (List.getElem?_eq_some_iff.mp hi).1
  have cne := I.cne
  have tracked : ∀ {a : Addr} {h' : Heap}, (∃ o, s.heap.get? a = some o ∧ H a = none) → Heap.SameBut a s.heap h' → HOk X.prog X.w H h' := fun {a h'} ha hs b ob e => by
    obtain ⟨_, _, hfree⟩ := ha
    refine (I.hok b ob e).stay (fun c w' hc q => (hs.2 c ?_).trans q) (fun _ q => q) fun _ _ q => q
    rintro rfl
    rcases hc with rfl | hc
    · rw [hfree] at e; cases e
    · rw [hfree] at hc; cases hc
  rcases hx with hk | hk
  · refine wpAny_storeName_local hk hn (fun h' hn' hs => ?_) hcls
    obtain ⟨oL, _, _, hoL, _⟩ := id hn
    refine h _ ⟨I.ok, I.os, I.bare, ⟨fun b o e n hb hx => ?_, fun b o e n hb hx => ?_, I.base.free, fun b o e hx => ?_, I.base.tups, I.base.frzs, I.base.tbls⟩, ⟨_, hn', fun j y v' e1 e2 e3 => ?_⟩, fun y c e => ?_, I.free, I.freeC, fun p hp => ?_, tracked ⟨oL, hoL, I.free⟩ hs, by simpa using I.len⟩ ⟨_, hs, .inl rfl⟩
    · exact (hs.2 b (Nat.ne_of_lt (Nat.lt_of_lt_of_le (Heap.lt_size e) I.ok.above))).trans (I.base.keep b o e n hb hx)
    · obtain ⟨sl, e1⟩ := I.base.slot b o e n hb hx
      exact ⟨sl, (hs.2 b (Nat.ne_of_lt (Nat.lt_of_lt_of_le (Heap.lt_size e) I.ok.above))).trans e1⟩
    · obtain ⟨o', e1⟩ := I.base.there b o e hx
      exact ⟨o', (hs.2 b (Nat.ne_of_lt (Nat.lt_of_lt_of_le (Heap.lt_size e) I.ok.above))).trans e1⟩
    · by_cases hj : j = i
      · subst hj
        rw [hi] at e1; cases e1
        rw [List.getElem?_set_self hiσ] at e2
        cases e2
        exact ⟨u, r, .inl ⟨hk, by simp⟩⟩
      · rw [List.getElem?_set_ne (Ne.symm hj)] at e2
        obtain ⟨u', r', q⟩ := hl j y v' e1 e2 e3
        refine ⟨u', r', ?_⟩
        rcases q with ⟨k, e⟩ | ⟨k, c, e, z⟩
        · refine .inl ⟨k, ?_⟩
          have : y ≠ x := fun e => hj (nodup_ix hN e1 (e ▸ hi))
          simp [this, e]
        · exact .inr ⟨k, c, e, z.sameBut hs (cne y c e)⟩
    · obtain ⟨w', z⟩ := I.cell y c e
      exact ⟨w', z.sameBut hs (cne y c e)⟩
    · obtain ⟨e, n, ne, nf, d⟩ := I.pin p hp
      exact ⟨(hs.2 p.1 ne).trans e, n, ne, nf, d⟩
  · have hfn : X.fn x = true := by
      rcases hf with z | z
      · exact z
      · rw [z] at hk; cases hk
    obtain ⟨c, hc⟩ := I.ok.has x (.inl hk)
    obtain ⟨w', z⟩ := I.cell x c hc
    refine wpAny_storeName_cell I.ok.kind hk hc z (fun h' hc' hs => ?_)
    obtain ⟨oc, hoc, hocd⟩ := id z
    refine h { s with heap := h' } ⟨I.ok, I.os, I.bare, ⟨fun b o e n hb hx => ?_, fun b o e n hb hx => ?_, I.base.free, fun b o e hx => ?_, I.base.tups, I.base.frzs, I.base.tbls⟩, ⟨m, hn.sameBut hs (Ne.symm (cne x c hc)), fun j y v' e1 e2 e3 => ?_⟩, fun y c' e => ?_, I.free, I.freeC, fun p hp => ?_, tracked ⟨oc, hoc, I.freeC x c hc⟩ hs, by simpa using I.len⟩ ⟨c, hs, .inr hc⟩
    · exact (hs.2 b (Nat.ne_of_lt (Nat.lt_of_lt_of_le (Heap.lt_size e) (I.ok.cab x c hfn hc)))).trans (I.base.keep b o e n hb hx)
    · obtain ⟨sl, e1⟩ := I.base.slot b o e n hb hx
      exact ⟨sl, (hs.2 b (Nat.ne_of_lt (Nat.lt_of_lt_of_le (Heap.lt_size e) (I.ok.cab x c hfn hc)))).trans e1⟩
    · obtain ⟨o', e1⟩ := I.base.there b o e hx
      exact ⟨o', (hs.2 b (Nat.ne_of_lt (Nat.lt_of_lt_of_le (Heap.lt_size e) (I.ok.cab x c hfn hc)))).trans e1⟩
    · by_cases hj : j = i
      · subst hj
        rw [hi] at e1; cases e1
        rw [List.getElem?_set_self hiσ] at e2
        cases e2
        exact ⟨u, r, .inr ⟨.inl hk, c, hc, hc'⟩⟩
      · rw [List.getElem?_set_ne (Ne.symm hj)] at e2
        obtain ⟨u', r', q⟩ := hl j y v' e1 e2 e3
        refine ⟨u', r', ?_⟩
        rcases q with q | ⟨k, c', e, z'⟩
        · exact .inl q
        · refine .inr ⟨k, c', e, z'.sameBut hs ?_⟩
          rintro rfl
          exact hj (nodup_ix hN e1 (I.ok.inj _ _ _ e hc ▸ hi))
    · by_cases hcc : c' = c
      · subst hcc; exact ⟨_, hc'⟩
      · obtain ⟨w2, z2⟩ := I.cell y c' e
        exact ⟨w2, z2.sameBut hs hcc⟩
    · obtain ⟨e, n, ne, nf, d⟩ := I.pin p hp
      refine ⟨(hs.2 p.1 ?_).trans e, n, ne, nf, d⟩
      intro q
      rw [q, hoc] at e
      have q' : oc = p.2 := Option.some.inj e
      exact d w' (by rw [← q']; exact hocd)
theorem store_ok {M : Model} {A : Around} {E : Value → Shared → Prop} {i : Nat} {x : Str} {v : V} {u : Value} {Q : Unit → Shared → Prop} (I : Inv X pins σ H s) (hN : X.N.Nodup) (hi : X.N[i]? = some x) (hx : Loc X.env.scope x) (r : RelV v u)
    (h : ∀ s', Inv X pins (σ.set i (some v)) H s' → Q () s') (hf : X.fn x = true ∨ X.env.scope.names.lookup x = some .local := by first | exact .inl rfl | exact .inr rfl | assumption) : wpAny M A (storeName X.env x u) Q E s :=
  store_ok2 I hN hi hx r (fun s' I' _ => h s' I') hf
theorem Inv.call' {s' : Shared} {ch : List Addr} (I : Inv X pins σ H s) (ho : s'.os = s.os) (u : Un (frs X.stack) ch H H' s.heap s'.heap) (hok : HOk X.prog X.w H' s'.heap) (hg : AllBare s'.gens)
    (hch : ∀ b ∈ ch, (b ∈ X.ex ∨ X.s₀.heap.objs.size ≤ b) ∧ b ≠ X.env.locals ∧ (∀ x c, X.env.cells.lookup x = some c → c ≠ b) ∧ ∀ p ∈ X.pn ++ pins, p.1 ≠ b) : Inv X pins σ H' s' := by
  obtain ⟨h', g', d', t', o'⟩ := s'
  have e : o' = s.os := ho
  subst e
  exact I.call (g' := g') (t' := t') (d' := d') u hok hg hch
end
abbrev XK := Value → Option Addr → Hp → Prop
abbrev St := List (Option V)
abbrev VK := V → Hp → Prop
abbrev TE := St → Hp → VK → Prop
abbrev TT := St → Hp → (Bool → Hp → Prop) → Prop
abbrev TA := St → Hp → (List V → Hp → Prop) → Prop
structure Ends where
  nx : St → Hp → Prop
  rt : VK
  bk : St → Hp → Prop := fun _ _ => False
  ct : St → Hp → Prop := fun _ _ => False
abbrev TS := Ends → St → Hp → Prop
def EP (X : Cx) (pins : List (Addr × Obj)) (σ : St) (Q : VK) (u : Value) (s' : Shared) : Prop := ∃ v H', Inv X pins σ H' s' ∧ RelV v u ∧ Q v H'
def TP (X : Cx) (pins : List (Addr × Obj)) (σ : St) (Q : Bool → Hp → Prop) (b : Bool) (s' : Shared) : Prop := ∃ H', Inv X pins σ H' s' ∧ Q b H'
def AP (X : Cx) (pins : List (Addr × Obj)) (σ : St) (Q : List V → Hp → Prop) (us : List Value) (s' : Shared) : Prop := ∃ vs H', Inv X pins σ H' s' ∧ Vals vs us ∧ Q vs H'
def SP (X : Cx) (pins : List (Addr × Obj)) (D : Ends) (f : Flow) (s' : Shared) : Prop :=
  match f with
  | .next => ∃ σ' H', Inv X pins σ' H' s' ∧ D.nx σ' H'
  | .brk => ∃ σ' H', Inv X pins σ' H' s' ∧ D.bk σ' H'
  | .cont => ∃ σ' H', Inv X pins σ' H' s' ∧ D.ct σ' H'
  | .ret u => ∃ v σ' H', Inv X pins σ' H' s' ∧ RelV v u ∧ D.rt v H'
def PE (X : Cx) (e : Expr) (t : TE) : Prop :=
  ∀ (pins : List (Addr × Obj)) (s : Shared) (σ : St) (H : Hp) (Q : VK), Inv X pins σ H s → t σ H Q → wpAny (model X.prog X.w) X.A (eval e X.env) (EP X pins σ Q) X.xe s
def PT (X : Cx) (e : Expr) (t : TT) : Prop :=
  ∀ (pins : List (Addr × Obj)) (s : Shared) (σ : St) (H : Hp) (Q : Bool → Hp → Prop), Inv X pins σ H s → t σ H Q → wpAny (model X.prog X.w) X.A (isTrue e X.env (eval e X.env)) (TP X pins σ Q) X.xe s
def PW (X : Cx) (e : Expr) (t : TT) : Prop :=
  ∀ (whole : Sem Value) (pins : List (Addr × Obj)) (s : Shared) (σ : St) (H : Hp) (Q : Bool → Hp → Prop), Inv X pins σ H s → t σ H Q → wpAny (model X.prog X.w) X.A (isTrue e X.env whole) (TP X pins σ Q) X.xe s
theorem PW.pt {X : Cx} {e : Expr} {t : TT} (h : PW X e t) : PT X e t := h _
def PA (X : Cx) (es : List Expr) (t : TA) : Prop :=
  ∀ (pos : Pos) (pins : List (Addr × Obj)) (s : Shared) (σ : St) (H : Hp) (Q : List V → Hp → Prop), Inv X pins σ H s → t σ H Q → wpAny (model X.prog X.w) X.A (spliced (backTo pos (starEach es X.env))) (AP X pins σ Q) X.xe s
def PS (X : Cx) (st : Stmt) (t : TS) : Prop :=
  ∀ (pins : List (Addr × Obj)) (s : Shared) (σ : St) (H : Hp) (D : Ends), Inv X pins σ H s → t D σ H → wpAny (model X.prog X.w) X.A (exec st X.env) (SP X pins D) X.xe s
def PSs (X : Cx) (st : List Stmt) (t : TS) : Prop :=
  ∀ (pins : List (Addr × Obj)) (s : Shared) (σ : St) (H : Hp) (D : Ends), Inv X pins σ H s → t D σ H → wpAny (model X.prog X.w) X.A (execs st X.env) (SP X pins D) X.xe s
theorem thn {α : Type} {t : Sem α} {Q Q' : α → Shared → Prop} {M : Model} {A : Around} {E : Value → Shared → Prop} {s : Shared} (h : wpAny M A t Q E s) (hQ : ∀ a s, Q a s → Q' a s) : wpAny M A t Q' E s := wpAny_mono h hQ fun _ _ x => x
end L2
namespace L2
open PySem PySem.Spec PyProof.Rows
section
variable {X : Cx}
def tVar (i : Nat) : TE := fun σ H Q => ∃ v, σ[i]? = some (some v) ∧ Q v H
def tC (v : V) : TE := fun _ H Q => Q v H
theorem pe_var {i : Nat} {x : Str} {pos : Pos} (hN : X.N[i]? = some x) (hv : Vis X.env.scope x) (hd : (x == ("__debug__" : Str)) = false := by decide) (hcd : (x == ("__classdict__" : Str)) = false := by decide) : PE X (.Name x pos) (tVar i) := by
  intro pins s σ H Q I h
  obtain ⟨v, e, h⟩ := h
  obtain ⟨m, hn, hl⟩ := I.loc
  obtain ⟨u, r, l⟩ := hl i x v hN e hv
  have fin : EP X pins σ Q u s := ⟨v, H, I, r, h⟩
  rcases l with ⟨hk, hm⟩ | ⟨hk, c, hc, hcell⟩
  · exact wpAny_Name (wpAny_loadName_local I.ok.kind hk hn hm fin) hd
  · rcases hk with hk | hk
    · exact wpAny_Name (wpAny_loadName_cell I.ok.kind hk hc hcell fin) hd
    · exact wpAny_Name (wpAny_loadName_free I.ok.kind hk hc hcell fin hcd) hd
theorem pe_int {i j pos} : PE X (.Constant (.int i) j pos) (tC (.int i)) := fun _ _ _ H _ I h => wpAny_Constant_int ⟨.int i, H, I.tok _, ⟨_, rfl⟩, h⟩
theorem pe_bl {b j pos} : PE X (.Constant (.bool b) j pos) (tC (.bl b)) := fun _ _ _ H _ I h => Constant_bool ⟨.bl b, H, I, rfl, h⟩
theorem pe_non {j pos} : PE X (.Constant .none j pos) (tC .non) := fun _ _ _ H _ I h => Constant_none ⟨.non, H, I, rfl, h⟩
theorem pe_str {x j pos} : PE X (.Constant (.str x) j pos) (tC (.str x)) := fun _ _ _ H _ I h => Calls.Constant_str ⟨.str x, H, I.tok _, ⟨_, rfl⟩, h⟩
def Gl (X : Cx) (x : Str) : Prop := X.env.kindOf x = some .globalImplicit
theorem ld_glob {E : Value → Shared → Prop} {pins : List (Addr × Obj)} {s : Shared} {σ : St} {H : Hp} {x : Str} {u : Value} {pos : Pos} {Q : Value → Shared → Prop} (I : Inv X pins σ H s) (hg : Gl X x) (hm : X.mg x = some u) (h : Q u s)
    (hd : (x == ("__debug__" : Str)) = false := by decide) : wpAny (model X.prog X.w) X.A (eval (.Name x pos) X.env) Q E s :=
  Calls.Name_function_global I.ok.kind hg (Calls.loadGlobal_global (by rw [I.ok.glob]; exact I.mod.glob.keeps I.bk) hm h) hd
theorem ld_blt {E : Value → Shared → Prop} {pins : List (Addr × Obj)} {s : Shared} {σ : St} {H : Hp} {x : Str} {u : Value} {pos : Pos} {Q : Value → Shared → Prop} (I : Inv X pins σ H s) (hg : Gl X x) (hm : X.mg x = none) (hv : bootBuiltins x = some u) (h : Q u s)
    (hn : x ≠ "__name__" := by decide) (hd : (x == ("__debug__" : Str)) = false := by decide) : wpAny (model X.prog X.w) X.A (eval (.Name x pos) X.env) Q E s := by
  obtain ⟨mb, h1, h2⟩ := I.mod.blt
  exact Calls.Name_function_global I.ok.kind hg (Calls.loadGlobal_builtin (by rw [I.ok.glob]; exact I.mod.glob.keeps I.bk) hm (by rw [I.ok.blt]; exact h1.keeps I.bk) ((h2 x hn).trans hv) h) hd
theorem pe_glob {x : Str} {v : V} {u : Value} {pos : Pos} (hg : Gl X x) (hm : X.mg x = some u) (r : RelV v u) (hd : (x == ("__debug__" : Str)) = false := by decide) : PE X (.Name x pos) (tC v) :=
  fun _ _ _ H _ I h => ld_glob I hg hm ⟨v, H, I, r, h⟩ hd
theorem pe_bltn {x : Str} {v : V} {u : Value} {pos : Pos} (hg : Gl X x) (hm : X.mg x = none) (hv : bootBuiltins x = some u) (r : RelV v u) (hn : x ≠ "__name__" := by decide) (hd : (x == ("__debug__" : Str)) = false := by decide) : PE X (.Name x pos) (tC v) :=
  fun _ _ _ H _ I h => ld_blt I hg hm hv ⟨v, H, I, r, h⟩ hn hd
variable {a b : Expr} {ta tb : TE} {pos : Pos}
def PC (X : Cx) (op : CmpOp) (a b : Expr) (t : TE) : Prop :=
  ∀ (pins : List (Addr × Obj)) (s : Shared) (σ : St) (H : Hp) (Q : VK), Inv X pins σ H s → t σ H Q →
    wpAny (model X.prog X.w) X.A (eval a X.env) (fun v s₁ => wpAny (model X.prog X.w) X.A (eval b X.env) (fun u s₂ => wpAny (model X.prog X.w) X.A (compareOp op v u) (EP X pins σ Q) X.xe s₂) X.xe s₁) X.xe s
theorem nobehind (b : Expr) {op : CmpOp} (h : op ≠ .In) (h2 : op ≠ .NotIn) : behindInMarks op b = false := by
  have e1 : (op == CmpOp.In) = false := by cases op <;> first | rfl | exact absurd rfl h
  have e2 : (op == CmpOp.NotIn) = false := by cases op <;> first | rfl | exact absurd rfl h2
  cases b <;> simp [behindInMarks, e1, e2]
def tIsN (ta : TE) : TE := fun σ H Q => ta σ H fun x H1 => Q (.bl (decide (x = .non))) H1
def tNotN (ta : TE) : TE := fun σ H Q => ta σ H fun x H1 => Q (.bl (!decide (x = .non))) H1
theorem RelV.none_iff {x : V} {v : Value} (r : RelV x v) : (v == Value.none) = decide (x = .non) := by
  cases x with
  | non => cases r; rfl
  | bl _ => cases r; rfl
  | int _ => obtain ⟨t, rfl⟩ := r; rfl
  | str _ => obtain ⟨t, rfl⟩ := r; rfl
  | byt _ => obtain ⟨t, rfl⟩ := r; rfl
  | flt _ => obtain ⟨t, rfl⟩ := r; rfl
  | ref _ => cases r; rfl
  | ty _ => cases r; rfl
theorem pc_isN {j pos'} (ha : PE X a ta) : PC X .Is a (.Constant .none j pos') (tIsN ta) := by
  intro pins s σ H Q I h
  refine thn (ha pins s σ H _ I h) fun v s1 ⟨x, H1, I1, r1, q1⟩ => ?_
  exact Constant_none (is_none_gen ⟨.bl _, H1, I1, by rw [r1.none_iff]; rfl, q1⟩)
theorem pc_notN {j pos'} (ha : PE X a ta) : PC X .IsNot a (.Constant .none j pos') (tNotN ta) := by
  intro pins s σ H Q I h
  refine thn (ha pins s σ H _ I h) fun v s1 ⟨x, H1, I1, r1, q1⟩ => ?_
  exact Constant_none (isnot_none_gen ⟨.bl _, H1, I1, by rw [r1.none_iff]; rfl, q1⟩)
def tB (t : TE) : TT := fun σ H Q => t σ H fun x H1 => ∃ c, x = .bl c ∧ Q c H1
theorem pt_cmp {op : CmpOp} {t : TE} (h : PC X op a b t) (h1 : behindInMarks op b = false := by first | exact nobehind _ (by decide) (by decide) | rfl) : PT X (.Compare a [op] [b] pos) (tB t) := by
  intro pins s σ H Q I hw
  refine wpAny_isTrue_Compare1 (thn (h pins s σ H _ I hw) fun v s1 h1 => thn h1 fun u s2 h2 => thn h2 fun c s3 ⟨x, H1, I1, r1, q1⟩ => ?_) h1
  obtain ⟨d, rfl, q⟩ := q1
  cases r1
  exact wpAny_truthy_bool ⟨H1, I1, q⟩
theorem pt_val {e : Expr} {t : TE} (h : PE X e t) (he : ∀ whole, isTrue e X.env whole = (do let v ← whole; standAt e.pos; holding [v] (truthy v)) := by intro _; rfl) : PT X e (tB t) := by
  intro pins s σ H Q I hw
  refine isTrue_plain (thn (h pins s σ H _ I hw) fun v s1 ⟨x, H1, I1, r1, q1⟩ => ?_) (he _)
  obtain ⟨d, rfl, q⟩ := q1
  cases r1
  exact wpAny_truthy_bool ⟨H1, I1, q⟩
variable {tA tB' : TT} {rest : List Expr}
def tAnd (t u : TT) : TT := fun σ H Q => t σ H fun c H1 => if c = true then u σ H1 Q else Q false H1
def tOr (t u : TT) : TT := fun σ H Q => t σ H fun c H1 => if c = true then Q true H1 else u σ H1 Q
def tNot (t : TT) : TT := fun σ H Q => t σ H fun c H1 => Q (!c) H1
theorem pw_and1 (ha : PT X a tA) : PW X (.BoolOp .And [a] pos) tA := by
  intro wh pins s σ H Q I h
  refine isTrue_and (thn (ha pins s σ H Q I h) fun c s1 e => ?_)
  cases c with
  | true => exact isTrue_and_nil e
  | false => exact e
theorem pw_or1 (ha : PT X a tA) : PW X (.BoolOp .Or [a] pos) tA := by
  intro wh pins s σ H Q I h
  refine isTrue_or (thn (ha pins s σ H Q I h) fun c s1 e => ?_)
  cases c with
  | false => exact isTrue_or_nil e
  | true => exact e
theorem pw_and (ha : PT X a tA) (hb : PW X (.BoolOp .And (b :: rest) pos) tB') : PW X (.BoolOp .And (a :: b :: rest) pos) (tAnd tA tB') := by
  intro wh pins s σ H Q I h
  refine isTrue_and (thn (ha pins s σ H _ I h) fun c s1 ⟨H1, I1, q1⟩ => ?_)
  cases c with
  | true => exact hb wh pins s1 σ H1 Q I1 q1
  | false => exact ⟨H1, I1, q1⟩
theorem pw_or (ha : PT X a tA) (hb : PW X (.BoolOp .Or (b :: rest) pos) tB') : PW X (.BoolOp .Or (a :: b :: rest) pos) (tOr tA tB') := by
  intro wh pins s σ H Q I h
  refine isTrue_or (thn (ha pins s σ H _ I h) fun c s1 ⟨H1, I1, q1⟩ => ?_)
  cases c with
  | true => exact ⟨H1, I1, q1⟩
  | false => exact hb wh pins s1 σ H1 Q I1 q1
theorem pt_not (ha : PT X a tA) : PT X (.UnaryOp .Not a pos) (tNot tA) := by
  intro pins s σ H Q I h
  exact isTrue_not (ha pins s σ H (fun c H1 => Q (!c) H1) I h)
def tAndV (ta tb : TE) : TE := fun σ H Q => ta σ H fun x H1 => ∃ c, x = .bl c ∧ if c = true then tb σ H1 Q else Q (.bl false) H1
def tNotV (ta : TE) : TE := fun σ H Q => ta σ H fun x H1 => ∃ c, x = .bl c ∧ Q (.bl (!c)) H1
theorem pe_one {op} {t : TE} (h : PE X a t) : PE X (.BoolOp op [a] pos) t := fun pins s σ H Q I hw => BoolOp_one (h pins s σ H Q I hw)
theorem pe_and (ha : PE X a ta) (hb : PE X (.BoolOp .And (b :: rest) pos) tb) : PE X (.BoolOp .And (a :: b :: rest) pos) (tAndV ta tb) := by
  intro pins s σ H Q I h
  refine BoolOp_and (thn (ha pins s σ H _ I h) fun v s1 ⟨x, H1, I1, r1, q1⟩ => ?_)
  obtain ⟨c, rfl, q1⟩ := q1
  cases r1
  refine wpAny_truthy_bool ?_
  cases c with
  | true => exact hb pins s1 σ H1 Q I1 q1
  | false => exact ⟨.bl false, H1, I1, rfl, q1⟩
theorem pe_not (ha : PE X a ta) : PE X (.UnaryOp .Not a pos) (tNotV ta) := by
  intro pins s σ H Q I h
  refine UnaryOp_ (thn (ha pins s σ H _ I h) fun v s1 ⟨x, H1, I1, r1, q1⟩ => ?_)
  obtain ⟨c, rfl, q1⟩ := q1
  cases r1
  exact not_of (wpAny_truthy_bool ⟨.bl (!c), H1, I1, rfl, q1⟩)
def tIf (t : TT) (ta tb : TE) : TE := fun σ H Q => t σ H fun c H1 => if c = true then ta σ H1 Q else tb σ H1 Q
theorem pe_ifExp {c : Expr} (hc : PT X c tA) (ha : PE X a ta) (hb : PE X b tb) : PE X (.IfExp c a b pos) (tIf tA ta tb) := by
  intro pins s σ H Q I h
  refine wpAny_IfExp (thn (hc pins s σ H _ I h) fun d s1 ⟨H1, I1, q1⟩ => ?_)
  cases d with
  | true => exact ha pins s1 σ H1 Q I1 q1
  | false => exact hb pins s1 σ H1 Q I1 q1
end
end L2
namespace L2
open PySem PySem.Spec PyProof.Rows
def SqL (K : PySem.W.Frag) (H : Hp) (a : Addr) (xs : List V) : Prop :=
  Rd H a (.lst xs) ∨
    ∃ (o : Obj) (its : Array Value) (n : Nat), K.lookup a = some o ∧ o.cls = .type "list" ∧ o.dict = none ∧ o.data = .seq its n ∧ its.size ≤ sizeLine ∧ Vals xs its.toList
def SqT (K : PySem.W.Frag) (H : Hp) (a : Addr) (xs : List V) : Prop :=
  Rd H a (.tup xs) ∨
    ∃ (o : Obj) (its : Array Value) (n : Nat), K.lookup a = some o ∧ o.cls = .type "tuple" ∧ o.data = .seq its n ∧ its.size ≤ sizeLine ∧ Vals xs its.toList
def absV : Value → Option V
  | .none => some .non
  | .bool b => some (.bl b)
  | .int i _ => some (.int i)
  | .str x _ => some (.str x)
  | .bytes b _ => some (.byt b)
  | .float b _ => some (.flt b)
  | .ref a => some (.ref a)
  | .type n => some (.ty n)
  | _ => none
theorem RelV.abs {x : V} {u : Value} (r : RelV x u) : absV u = some x := by
  cases x with
  | non => cases r; rfl
  | bl _ => cases r; rfl
  | int _ => obtain ⟨t, rfl⟩ := r; rfl
  | str _ => obtain ⟨t, rfl⟩ := r; rfl
  | byt _ => obtain ⟨t, rfl⟩ := r; rfl
  | flt _ => obtain ⟨t, rfl⟩ := r; rfl
  | ref _ => cases r; rfl
  | ty _ => cases r; rfl
theorem RelV.inj {x y : V} {u : Value} (r : RelV x u) (q : RelV y u) : x = y := Option.some.inj (r.abs.symm.trans q.abs)
theorem Vals.inj : ∀ {xs ys : List V} {us : List Value}, Vals xs us → Vals ys us → xs = ys
  | _, _, _, .nil, .nil => rfl
  | _, _, _, .cons r t, .cons r' t' => by rw [r.inj r', Vals.inj t t']
section
variable {X : Cx} {pins : List (Addr × Obj)} {σ : St} {H : Hp} {s : Shared} {a : Addr} {xs ys : List V}
theorem SqL.of {K : PySem.W.Frag} (h : H a = some (.lst xs)) : SqL K H a xs := .inl (.inl h)
theorem SqT.of {K : PySem.W.Frag} (h : H a = some (.tup xs)) : SqT K H a xs := .inl (.inl h)
theorem Inv.list (I : Inv X pins σ H s) (h : SqL X.K H a xs) : ∃ its : List Value, Vals xs its ∧ PlainL s.heap a its.toArray ∧ xs.length ≤ sizeLine := by
  rcases h with h | ⟨o, its, n, hk, hc, hd, hs, hz, r⟩
  · obtain ⟨z, its, n, r, e⟩ := h.ok I.hok
    exact ⟨its, r, ⟨_, n, e, rfl, rfl, rfl⟩, z⟩
  · refine ⟨its.toList, r, ⟨o, n, I.kIn a o hk, hc, hd, by simpa using hs⟩, ?_⟩
    have e := r.length
    simp only [Array.length_toList] at e
    omega
theorem Inv.tuple (I : Inv X pins σ H s) (h : SqT X.K H a xs) : ∃ its : List Value, Vals xs its ∧ IsTup s.heap a its.toArray ∧ xs.length ≤ sizeLine := by
  rcases h with h | ⟨o, its, n, hk, hc, hs, hz, r⟩
  · obtain ⟨z, its, r, p⟩ := h.ok I.hok
    exact ⟨its, r, p, z⟩
  · refine ⟨its.toList, r, ⟨o, I.kIn a o hk, hc, n, by simpa using hs⟩, ?_⟩
    have e := r.length
    simp only [Array.length_toList] at e
    omega
theorem Inv.list_inj (I : Inv X pins σ H s) (h : SqL X.K H a xs) (h' : SqL X.K H a ys) : xs = ys := by
  obtain ⟨its, r, ⟨o, n, e, _, _, d⟩, _⟩ := I.list h
  obtain ⟨its', r', ⟨o', n', e', _, _, d'⟩, _⟩ := I.list h'
  rw [e] at e'; cases e'
  rw [d] at d'
  injection d' with d1 _
  have : its = its' := by simpa using congrArg Array.toList d1
  subst this
  exact r.inj r'
theorem Inv.tuple_inj (I : Inv X pins σ H s) (h : SqT X.K H a xs) (h' : SqT X.K H a ys) : xs = ys := by
  obtain ⟨its, r, ⟨o, e, _, n, d⟩, _⟩ := I.tuple h
  obtain ⟨its', r', ⟨o', e', _, n', d'⟩, _⟩ := I.tuple h'
  rw [e] at e'; cases e'
  rw [d] at d'
  injection d' with d1 _
  have : its = its' := by simpa using congrArg Array.toList d1
  subst this
  exact r.inj r'
end
abbrev Cx.wish (X : Cx) (E : Value → Shared → Prop) : Cx := { X with xe := E }
abbrev Cx.nox (X : Cx) : Cx := X.wish fun _ _ => False
theorem Cx.Ok.wish {X : Cx} (ok : X.Ok) (E : Value → Shared → Prop) : (X.wish E).Ok :=
  ⟨ok.mod, ok.kind, ok.glob, ok.blt, ok.above, ok.inj, ok.has, ok.cab, ok.hd, ok.frames, ok.stk, ok.exf, ok.bs, ok.bsz, ok.noex, ok.exfs, ok.funs, ok.frf⟩
theorem Cx.Ok.unwish {X : Cx} {E : Value → Shared → Prop} (ok : (X.wish E).Ok) : X.Ok :=
  ⟨ok.mod, ok.kind, ok.glob, ok.blt, ok.above, ok.inj, ok.has, ok.cab, ok.hd, ok.frames, ok.stk, ok.exf, ok.bs, ok.bsz, ok.noex, ok.exfs, ok.funs, ok.frf⟩
section
variable {X : Cx} {pins : List (Addr × Obj)} {σ : St} {H : Hp} {s : Shared} {E : Value → Shared → Prop}
theorem Inv.wish (I : Inv X pins σ H s) (E : Value → Shared → Prop) : Inv (X.wish E) pins σ H s := ⟨I.ok.wish E, I.os, I.bare, I.base, I.loc, I.cell, I.free, I.freeC, I.pin, I.hok, I.len⟩
theorem Inv.unwish (I : Inv (X.wish E) pins σ H s) : Inv X pins σ H s := ⟨I.ok.unwish, I.os, I.bare, I.base, I.loc, I.cell, I.free, I.freeC, I.pin, I.hok, I.len⟩
theorem SP.unwish {D : Ends} {f : Flow} {s' : Shared} (h : SP (X.wish E) pins D f s') : SP X pins D f s' := by
  cases f with
  | next => obtain ⟨σ', H', I, q⟩ := h; exact ⟨σ', H', I.unwish, q⟩
  | brk => obtain ⟨σ', H', I, q⟩ := h; exact ⟨σ', H', I.unwish, q⟩
  | cont => obtain ⟨σ', H', I, q⟩ := h; exact ⟨σ', H', I.unwish, q⟩
  | ret u => obtain ⟨v, σ', H', I, r, q⟩ := h; exact ⟨v, σ', H', I.unwish, r, q⟩
theorem PSs.nox {st : List Stmt} {t : TS} (h : PSs X.nox st t) : PSs X st t := fun pins s σ H D I hw =>
  wpAny_mono (h pins s σ H D (I.wish _) hw) (fun _ _ q => q.unwish) fun _ _ z => False.elim z
end
section
variable {X : Cx} {st : Stmt} {rest : List Stmt} {t u : TS} {e : Expr} {te : TE} {pos : Pos}
def tNext : TS := fun D σ H => D.nx σ H
def tSeq (t u : TS) : TS := fun D σ H => t { D with nx := u D } σ H
theorem pss_nil : PSs X [] tNext := fun _ _ σ H _ I h => wpAny_execs_nil ⟨σ, H, I, h⟩
theorem pss_cons (h1 : PS X st t) (h2 : PSs X rest u) : PSs X (st :: rest) (tSeq t u) := by
  intro pins s σ H D I h
  refine wpAny_execs_cons (thn (h1 pins s σ H { D with nx := u D } I h) fun f s1 q => ?_)
  cases f with
  | next =>
    obtain ⟨σ', H', I', q⟩ := q
    exact h2 pins s1 σ' H' D I' q
  | ret v => exact q
  | brk => exact q
  | cont => exact q
theorem pss_one (h1 : PS X st t) : PSs X [st] t := by
  intro pins s σ H D I h
  refine wpAny_execs_cons (thn (h1 pins s σ H D I h) fun f s1 q => ?_)
  cases f with
  | next => exact wpAny_execs_nil q
  | ret v => exact q
  | brk => exact q
  | cont => exact q
theorem Inv.quiet {pins : List (Addr × Obj)} {σ : St} {H : Hp} {s : Shared} (I : Inv X pins σ H s) : interactive X.env = false := by simp [interactive, I.ok.kind]
def tDrop (te : TE) : TS := fun D σ H => te σ H fun _ H1 => D.nx σ H1
theorem ps_expr (he : PE X e te) (hs : swapsWith e none pos.line X.env = pure false := by rfl) : PS X (.Expr e pos) (tDrop te) := by
  intro pins s σ H D I h
  exact wpAny_Expr_any (thn (he pins s σ H _ I h) fun v s1 ⟨x, H1, I1, r1, q1⟩ => ⟨σ, H1, I1, q1⟩) I.quiet hs
def tRet (te : TE) : TS := fun D σ H => te σ H D.rt
theorem ps_ret (he : PE X e te) : PS X (.Return (some e) pos) (tRet te) := by
  intro pins s σ H D I h
  exact wpAny_Return_some (thn (he pins s σ H _ I h) fun v s1 ⟨x, H1, I1, r1, q1⟩ => ⟨x, σ, H1, I1, r1, q1⟩)
def tIfS (c : TT) (t u : TS) : TS := fun D σ H => c σ H fun b H1 => if b = true then t D σ H1 else u D σ H1
theorem ps_if {c : Expr} {a b : List Stmt} {tc : TT} (hc : PT X c tc) (ha : PSs X a t) (hb : PSs X b u) : PS X (.If c a b pos) (tIfS tc t u) := by
  intro pins s σ H D I h
  refine wpAny_If (thn (hc pins s σ H _ I h) fun d s1 ⟨H1, I1, q1⟩ => ?_)
  cases d with
  | true => exact ha pins s1 σ H1 D I1 q1
  | false => exact hb pins s1 σ H1 D I1 q1
def tNever : TS := fun _ _ _ => False
theorem pss_never {sts : List Stmt} : PSs X sts tNever := fun _ _ _ _ _ _ h => h.elim
end
abbrev TG := V → St → Hp → (St → Hp → Prop) → Prop
abbrev TGs := List V → St → Hp → (St → Hp → Prop) → Prop
def PG (X : Cx) (target : Expr) (t : TG) : Prop :=
  ∀ (pins : List (Addr × Obj)) (s : Shared) (σ : St) (H : Hp) (v : V) (u : Value) (Q : St → Hp → Prop), Inv X pins σ H s → RelV v u → t v σ H Q →
    wpAny (model X.prog X.w) X.A (assign target X.env u) (fun _ s' => ∃ σ' H', Inv X pins σ' H' s' ∧ Q σ' H') X.xe s
def PGs (X : Cx) (ts : List Expr) (t : TGs) : Prop :=
  ∀ (pins : List (Addr × Obj)) (s : Shared) (σ : St) (H : Hp) (vs : List V) (us : List Value) (Q : St → Hp → Prop), Inv X pins σ H s → Vals vs us → t vs σ H Q →
    wpAny (model X.prog X.w) X.A (assignInOrder ((assignEach ts X.env).map (·.2)) us) (fun _ s' => ∃ σ' H', Inv X pins σ' H' s' ∧ Q σ' H') X.xe s
section
variable {X : Cx} {pos : Pos}
def gName (i : Nat) : TG := fun v σ H Q => Q (σ.set i (some v)) H
theorem pg_name {i : Nat} {x : Str} (hN : X.N.Nodup) (hi : X.N[i]? = some x) (hx : Loc X.env.scope x) (hf : X.fn x = true ∨ X.env.scope.names.lookup x = some .local := by first | exact .inl rfl | exact .inr rfl | assumption) : PG X (.Name x pos) (gName i) := by
  intro pins s σ H v u Q I r h
  exact wpAny_assign_Name (store_ok I hN hi hx r (fun s' I' => ⟨_, H, I', h⟩) hf)
def gNil : TGs := fun vs σ H Q => vs = [] ∧ Q σ H
def gCons (t : TG) (u : TGs) : TGs := fun vs σ H Q => ∃ v r, vs = v :: r ∧ t v σ H fun σ' H' => u r σ' H' Q
theorem pgs_nil : PGs X [] gNil := by
  intro pins s σ H vs us Q I r h
  obtain ⟨e, h⟩ := h
  subst e
  cases r
  exact assignInOrder_nil ⟨σ, H, I, h⟩
theorem pgs_cons {e : Expr} {es : List Expr} {t : TG} {u : TGs} (h1 : PG X e t) (h2 : PGs X es u)
    (hs : (assignEach (e :: es) X.env).map (·.2) = assign e X.env :: (assignEach es X.env).map (·.2) := by rfl) : PGs X (e :: es) (gCons t u) := by
  intro pins s σ H vs us Q I r h
  obtain ⟨v, vr, e1, h⟩ := h
  subst e1
  cases r with
  | cons r rr =>
    rw [hs]
    refine assignInOrder_cons (thn (h1 pins s σ H _ _ _ I r h) fun _ s1 ⟨σ1, H1, I1, q1⟩ => ?_)
    exact h2 pins s1 σ1 H1 _ _ Q I1 rr q1
def gTup (K : PySem.W.Frag) (n : Nat) (t : TGs) : TG := fun v σ H Q => ∃ a xs, v = .ref a ∧ SqT K H a xs ∧ xs.length = n ∧ t xs σ H Q
theorem pg_tup {es : List Expr} {k : Nat} {t : TGs} {n : Nat} (hc : X.calm = true) (h : PGs X es t)
    (hn : (assignEach es X.env).length = n := by rfl) (hst : (assignEach es X.env).findIdx? (·.1) = none := by rfl) : PG X (.Tuple es k pos) (gTup X.K n t) := by
  intro pins s σ H v u Q I r hw
  obtain ⟨a, xs, e1, hq, hl, hw⟩ := hw
  subst e1
  cases r
  obtain ⟨its, rv, ht, hz⟩ := I.tuple hq
  refine assign_Tuple_tuple (I.ok.hd hc) ht (by simp [hn, ← hl, rv.length]) hst fun h' hx => ?_
  have I1 : Inv X pins σ H { s with heap := h' } := I.kept (t' := s.toks) fun b o e => hx b o (Nat.ne_of_lt (Heap.lt_size e)) e
  exact h pins _ σ H xs _ Q I1 (by simpa using rv) hw
def tAsg (te : TE) (g : TG) : TS := fun D σ H => te σ H fun x H1 => g x σ H1 D.nx
theorem ps_asg {tg e : Expr} {te : TE} {g : TG} (he : PE X e te) (hg : PG X tg g) (hs : swapsWithSole [tg] e pos.line X.env = pure false := by rfl) (hw : swappedStores [tg] e X.env = pure none := by rfl)
    (h1 : (assignEach [tg] X.env).map (·.2) = [assign tg X.env] := by rfl) : PS X (.Assign [tg] e pos) (tAsg te g) := by
  intro pins s σ H D I h
  refine wpAny_Assign_stores (thn (he pins s σ H _ I h) fun v s1 ⟨x, H1, I1, r1, q1⟩ => ?_) hs hw
  rw [h1]
  exact thn (hg pins s1 σ H1 x v _ I1 r1 q1) fun _ s2 q => q
theorem ps_set {i : Nat} {x : Str} {e : Expr} {te : TE} {pos' : Pos} (hN : X.N.Nodup) (hi : X.N[i]? = some x) (hx : Loc X.env.scope x) (he : PE X e te) (hs : swapsWith e (some (.Name x pos')) pos.line X.env = pure false := by rfl) (hf : X.fn x = true ∨ X.env.scope.names.lookup x = some .local := by first | exact .inl rfl | exact .inr rfl | assumption) :
    PS X (.Assign [.Name x pos'] e pos) (tAsg te (gName i)) := by
  intro pins s σ H D I h
  refine wpAny_Assign_Name (thn (he pins s σ H _ I h) fun v s1 ⟨y, H1, I1, r1, q1⟩ => ?_) hs
  exact store_ok I1 hN hi hx r1 (fun s2 I2 => ⟨_, H1, I2, q1⟩) hf
end
section
variable {X : Cx} {pos : Pos}
def tWhile (c : TT) (tb : TS) : TS := fun D σ H => ∃ W : Nat → St → Hp → Prop, (∃ m, W m σ H) ∧ ∀ m σ H, W m σ H →
  c σ H fun b H1 => if b = true then ∃ N : St → Hp → Prop, (∀ σ' H', N σ' H' → ∃ m', m' < m ∧ W m' σ' H') ∧ tb { D with nx := N, ct := N, bk := D.nx } σ H1 else D.nx σ H1
theorem ps_while {c : Expr} {body : List Stmt} {tc : TT} {tb : TS} (hp : PassesOwn (model X.prog X.w) X.A X.env X.xe) (hc : PT X c tc) (hb : PSs X body tb) : PS X (.While c body [] pos) (tWhile tc tb) := by
  intro pins s σ H D I h
  obtain ⟨W, ⟨m0, w0⟩, turn⟩ := h
  refine wpAny_While (codeAny_whileLoop (fun n s' => ∃ σ' H', Inv X pins σ' H' s' ∧ W n σ' H') ?_ m0 ⟨σ, H, I, w0⟩)
  rintro n s1 ⟨σ1, H1, I1, w1⟩
  refine wpAny_passesOwn hp (thn (hc pins s1 σ1 H1 _ I1 (turn n σ1 H1 w1)) fun b s2 ⟨H2, I2, q2⟩ => ?_)
  cases b with
  | true =>
    obtain ⟨N, hN, q2⟩ := q2
    rw [if_pos rfl]
    refine wpAny_passesOwn hp (thn (hb pins s2 σ1 H2 _ I2 q2) fun f s3 q3 => ?_)
    cases f with
    | next =>
      obtain ⟨σ3, H3, I3, n3⟩ := q3
      obtain ⟨m', hm, w3⟩ := hN σ3 H3 n3
      exact ⟨m', hm, σ3, H3, I3, w3⟩
    | cont =>
      obtain ⟨σ3, H3, I3, n3⟩ := q3
      obtain ⟨m', hm, w3⟩ := hN σ3 H3 n3
      exact ⟨m', hm, σ3, H3, I3, w3⟩
    | brk => exact q3
    | ret v => exact q3
  | false =>
    rw [if_neg Bool.false_ne_true]
    exact wpAny_execs_nil ⟨σ1, H2, I2, q2⟩
end
structure It where
  go : Nat → Hp → Prop
  yld : Nat → Hp → V → Hp → Prop
  stop : Nat → Hp → Prop
def FpOk (X : Cx) (pins : List (Addr × Obj)) (H : Hp) (b : Addr) : Prop :=
  H b = none ∧ b ≠ X.env.locals ∧ b ∉ X.fs ∧ (b ∈ X.ex ∨ X.s₀.heap.objs.size ≤ b) ∧ (∀ x c, X.env.cells.lookup x = some c → c ≠ b) ∧ ∀ p ∈ X.pn ++ pins, p.1 ≠ b
theorem Inv.fpOk {X : Cx} {pins : List (Addr × Obj)} {σ : St} {H H' : Hp} {s : Shared} {b : Addr} (I : Inv X pins σ H s) (hb : s.heap.objs.size ≤ b) (hn : H' b = none) : FpOk X pins H' b := by
  refine ⟨hn, Nat.ne_of_gt (Nat.lt_of_lt_of_le I.lt hb), I.nofs hb, .inr (Nat.le_trans I.sz hb), fun x c e z => ?_, fun p hp z => ?_⟩
  · obtain ⟨v, q⟩ := I.cell x c e
    exact absurd (Nat.lt_of_lt_of_le q.lt (by rw [z]; exact hb)) (Nat.lt_irrefl _)
  · exact absurd (Nat.lt_of_lt_of_le (Heap.lt_size (I.pin p hp).1) (by rw [z]; exact hb)) (Nat.lt_irrefl _)
structure Turn (P : Program) (w : World) (K : PySem.W.Frag) (tg : Expr) (J : It) (fp : List Addr) (it : Addr) (tn : Nat → Heap → Prop) : Prop where
  mem : it ∈ fp
  obj : ∀ i h, tn i h → ∀ b ∈ fp, ∃ o, h.get? b = some o ∧ ∀ v, o.data ≠ .cell v
  keep : ∀ i h h', tn i h → (∀ b ∈ fp, ∀ o, h.get? b = some o → h'.get? b = some o) → tn i h'
  item : ∀ (X : Cx), X.prog = P → X.w = w → X.K = K → X.calm = true → ∀ (i : Nat) (pins : List (Addr × Obj)) (s : Shared) (σ : St) (H : Hp) (E : Value → Shared → Prop), Inv X pins σ H s → (∀ b ∈ fp, FpOk X pins H b) → tn i s.heap → J.go i H →
    wpAny (model P w) X.A (pyNext (.ref it)) (fun r s1 => ∃ u, r = some u ∧
      wpAny (model P w) X.A (letOwnedTupleGo tg (.ref it) u) (fun _ s2 => ∃ x H', Inv X pins σ H' s2 ∧ RelV x u ∧ J.yld i H x H' ∧ tn (i + 1) s2.heap ∧ ∀ b ∈ fp, H' b = none) E s1) E s
  done : ∀ (X : Cx), X.prog = P → X.w = w → X.K = K → X.calm = true → ∀ (i : Nat) (pins : List (Addr × Obj)) (s : Shared) (σ : St) (H : Hp) (E : Value → Shared → Prop), Inv X pins σ H s → (∀ b ∈ fp, FpOk X pins H b) → tn i s.heap → J.stop i H →
    wpAny (model P w) X.A (pyNext (.ref it)) (fun r s1 => r = none ∧ Inv X pins σ H s1) E s
  self : ∀ (A : Around) (i : Nat) (s : Shared) (Q : Value → Shared → Prop) (E : Value → Shared → Prop), tn i s.heap → Q (.ref it) s → wpAny (model P w) A (pyIter (.ref it)) Q E s
abbrev TI := St → Hp → (It → Hp → Prop) → Prop
def PIE (X : Cx) (pins : List (Addr × Obj)) (σ : St) (tg : Expr) (R : It → Hp → Prop) (itv : Value) (s2 : Shared) : Prop :=
  ∃ (it : Addr) (fp : List Addr) (tn : Nat → Heap → Prop) (J : It) (H' : Hp), itv = .ref it ∧ Inv X pins σ H' s2 ∧ Turn X.prog X.w X.K tg J fp it tn ∧ tn 0 s2.heap ∧ (∀ b ∈ fp, FpOk X pins H' b) ∧ R J H'
def PI (X : Cx) (tg iter : Expr) (wi : TI) : Prop :=
  ∀ (pins : List (Addr × Obj)) (s : Shared) (σ : St) (H : Hp) (R : It → Hp → Prop), Inv X pins σ H s → wi σ H R →
    wpAny (model X.prog X.w) X.A (eval iter X.env) (fun v s1 => wpAny (model X.prog X.w) X.A (pyIter v) (PIE X pins σ tg R) X.xe s1) X.xe s
theorem go_of {M : Model} {A : Around} {E : Value → Shared → Prop} {s : Shared} {tg : Expr} {it : Addr} {u : Value} {o : Obj} {n : String} {vs : Array Value} {Q : Unit → Shared → Prop} (ho : s.heap.get? it = some o) (hc : o.cls = .type n) (hd : o.data = .fields vs)
    (hn : ["enumerate", "zip", "dict_itemiterator", "dict_reverseitemiterator", "odict_iterator", "itertools.zip_longest", "itertools.pairwise"].contains n = false) (hQ : Q () s) : wpAny M A (letOwnedTupleGo tg (.ref it) u) Q E s := by
  unfold letOwnedTupleGo
  cases tg <;> first
    | exact wpAny_pure hQ
    | (cases u <;> first
        | exact wpAny_pure hQ
        | (refine wpAny_bind (wpAny_load ho ?_)
           rw [hc, hd]
           show wpAny M A (if (["enumerate", "zip", "dict_itemiterator", "dict_reverseitemiterator", "odict_iterator", "itertools.zip_longest", "itertools.pairwise"].contains n && vs[0]? == some (rawInt _)) = true then _ else _) Q E s
           rw [if_neg (by intro h; rw [hn, Bool.false_and] at h; cases h)]
           exact wpAny_pure hQ))
def Itl (K : PySem.W.Frag) (a : Addr) : It :=
  ⟨fun i H => ∃ xs x, SqL K H a xs ∧ xs[i]? = some x, fun i H x H' => H' = H ∧ ∀ xs, SqL K H a xs → xs[i]? = some x, fun i H => ∃ xs, SqL K H a xs ∧ xs.length ≤ i⟩
def Itt (K : PySem.W.Frag) (a : Addr) : It :=
  ⟨fun i H => ∃ xs x, SqT K H a xs ∧ xs[i]? = some x, fun i H x H' => H' = H ∧ ∀ xs, SqT K H a xs → xs[i]? = some x, fun i H => ∃ xs, SqT K H a xs ∧ xs.length ≤ i⟩
def Itr (lo : Int) (n : Nat) : It := ⟨fun i _ => i < n, fun i H x H' => H' = H ∧ x = .int (lo + i), fun i _ => n ≤ i⟩
theorem turn_list {P : Program} {w : World} {K : PySem.W.Frag} {tg : Expr} (a it : Addr) : Turn P w K tg (Itl K a) [it] it (fun i h => h.IsListIter it a i) where
  mem := by simp
  obj := fun i h st b hb => by
    have e : b = it := by simpa using hb
    subst e
    obtain ⟨o, e, c, d⟩ := st
    exact ⟨o, e, fun v z => by rw [d] at z; cases z⟩
  keep := fun i h h' st k => st.at fun o e => k it (by simp) o e
  item := by
    intro X hP hw hK hc i pins s σ H E I hf st hg
    subst hP hw hK
    obtain ⟨xs, x, hq, hx⟩ := hg
    obtain ⟨its, rv, p, hz⟩ := I.list hq
    obtain ⟨u, hu, ru⟩ := rv.get hx
    obtain ⟨f0, f1, f2, f3, f4, f5⟩ := hf it (by simp)
    refine wpAny_pyNext_list_item st p.isList (x := u) (by simpa using hu) fun h' st' sb => ?_
    have I1 : Inv X pins σ H { s with heap := h' } := I.turned (t' := s.toks) (fun b o hb e => (sb.2 b hb).trans e) f0 f1 f3 f4 f5
    obtain ⟨o, e, c, d⟩ := id st'
    exact ⟨u, rfl, go_of (s := { s with heap := h' }) e c d (by decide) ⟨x, H, I1, ru, ⟨rfl, fun ys hy => by rw [I.list_inj hy hq]; exact hx⟩, st', fun b hb => (hf b hb).1⟩⟩
  done := by
    intro X hP hw hK hc i pins s σ H E I hf st hg
    subst hP hw hK
    obtain ⟨xs, hq, hx⟩ := hg
    obtain ⟨its, rv, p, hz⟩ := I.list hq
    obtain ⟨f0, f1, f2, f3, f4, f5⟩ := hf it (by simp)
    have hl := rv.length
    exact wpAny_pyNext_list_end (I.ok.hd hc) st p.isList (by simp; omega) fun h' eb => ⟨rfl, I.turned (t' := s.toks) (fun b o hb e => eb b o hb e) f0 f1 f3 f4 f5⟩
  self := fun _ _ _ _ _ st h => wpAny_pyIter_listiter st h
theorem turn_tuple {P : Program} {w : World} {K : PySem.W.Frag} {tg : Expr} (a it : Addr) : Turn P w K tg (Itt K a) [it] it (fun i h => h.IsTupleIter it a i) where
  mem := by simp
  obj := fun i h st b hb => by
    have e : b = it := by simpa using hb
    subst e
    obtain ⟨o, e, c, d⟩ := st
    exact ⟨o, e, fun v z => by rw [d] at z; cases z⟩
  keep := fun i h h' st k => st.at fun o e => k it (by simp) o e
  item := by
    intro X hP hw hK hc i pins s σ H E I hf st hg
    subst hP hw hK
    obtain ⟨xs, x, hq, hx⟩ := hg
    obtain ⟨its, rv, p, hz⟩ := I.tuple hq
    obtain ⟨u, hu, ru⟩ := rv.get hx
    obtain ⟨f0, f1, f2, f3, f4, f5⟩ := hf it (by simp)
    refine wpAny_pyNext_tuple_item st (show s.heap.IsTuple a its.toArray from p) (x := u) (by simpa using hu) fun h' st' sb => ?_
    have I1 : Inv X pins σ H { s with heap := h' } := I.turned (t' := s.toks) (fun b o hb e => (sb.2 b hb).trans e) f0 f1 f3 f4 f5
    obtain ⟨o, e, c, d⟩ := id st'
    exact ⟨u, rfl, go_of (s := { s with heap := h' }) e c d (by decide) ⟨x, H, I1, ru, ⟨rfl, fun ys hy => by rw [I.tuple_inj hy hq]; exact hx⟩, st', fun b hb => (hf b hb).1⟩⟩
  done := by
    intro X hP hw hK hc i pins s σ H E I hf st hg
    subst hP hw hK
    obtain ⟨xs, hq, hx⟩ := hg
    obtain ⟨its, rv, p, hz⟩ := I.tuple hq
    obtain ⟨f0, f1, f2, f3, f4, f5⟩ := hf it (by simp)
    have hl := rv.length
    exact wpAny_pyNext_tuple_end (I.ok.hd hc) st (show s.heap.IsTuple a its.toArray from p) (by simp; omega) fun h' eb => ⟨rfl, I.turned (t' := s.toks) (fun b o hb e => eb b o hb e) f0 f1 f3 f4 f5⟩
  self := fun _ _ _ _ _ st h => wpAny_pyIter_tupleiter st h
theorem turn_range {P : Program} {w : World} {K : PySem.W.Frag} {tg : Expr} (it : Addr) (lo : Int) (n : Nat) : Turn P w K tg (Itr lo n) [it] it (fun i h => IsRangeIter h it (lo + (i : Nat) * 1) ((n : Int) - (i : Nat)) 1) where
  mem := by simp
  obj := fun i h st b hb => by
    have e : b = it := by simpa using hb
    subst e
    exact ⟨_, st, fun v z => by
      have z' : Data.fields _ = Data.cell v := z
      cases z'⟩
  keep := fun i h h' st k => k it (by simp) _ st
  item := by
    intro X hP hw hK hc i pins s σ H E I hf st hg
    subst hP hw hK
    obtain ⟨f0, f1, f2, f3, f4, f5⟩ := hf it (by simp)
    have W := Walks.range (prog := X.prog) (w := X.w) (I.ok.hd hc) it lo 1 n
    refine W.item i s _ _ hg st fun v h' tk hv st' kk => ?_
    obtain ⟨t, rfl⟩ := hv
    have I1 : Inv X pins σ H { s with heap := h', toks := tk } := I.turned (fun b o hb e => kk b o (by simpa using hb) e) f0 f1 f3 f4 f5
    refine ⟨_, rfl, go_of (s := { s with heap := h', toks := tk }) (n := "range_iterator") st' rfl rfl (by decide) ⟨.int (lo + i), H, I1, ⟨t, ?_⟩, ⟨rfl, rfl⟩, st', fun b hb => (hf b hb).1⟩⟩
    rw [Int.mul_one]
  done := by
    intro X hP hw hK hc i pins s σ H E I hf st hg
    subst hP hw hK
    obtain ⟨f0, f1, f2, f3, f4, f5⟩ := hf it (by simp)
    exact wpAny_pyNext_range_end (I.ok.hd hc) st (by have : n ≤ i := hg; omega) fun h' eb => ⟨rfl, I.turned (t' := s.toks) (fun b o hb e => eb b o hb e) f0 f1 f3 f4 f5⟩
  self := fun _ _ _ _ _ st h => wpAny_pyIter_rangeiter st h
end L2
namespace L2
open PySem PySem.Spec PyProof.Rows
section
variable {X : Cx} {tg : Expr}
def iList (K : PySem.W.Frag) (tl : TE) : TI := fun σ H R => tl σ H fun x H1 => ∃ a, x = .ref a ∧ (∃ xs, SqL K H1 a xs) ∧ R (Itl K a) H1
def iTup (K : PySem.W.Frag) (tl : TE) : TI := fun σ H R => tl σ H fun x H1 => ∃ a, x = .ref a ∧ (∃ xs, SqT K H1 a xs) ∧ R (Itt K a) H1
theorem pi_list {l : Expr} {tl : TE} (hl : PE X l tl) : PI X tg l (iList X.K tl) := by
  intro pins s σ H R I h
  refine thn (hl pins s σ H _ I h) fun v s1 ⟨x, H1, I1, r1, q1⟩ => ?_
  obtain ⟨a, e, ⟨xs, hq⟩, q⟩ := q1
  subst e
  cases r1
  obtain ⟨its, rv, p, hz⟩ := I1.list hq
  refine wpAny_pyIter_list p.isList ?_
  refine ⟨s1.heap.objs.size, [s1.heap.objs.size], _, _, H1, rfl, I1.kept (t' := s1.toks) fun b o e => Heap.get?_push_of_some _ e, turn_list a _, ⟨_, Heap.get?_push_size _ rfl, rfl, rfl⟩, fun b hb => ?_, q⟩
  have e : b = s1.heap.objs.size := by simpa using hb
  subst e
  exact I1.fpOk (Nat.le_refl _) (I1.hok.fresh (Nat.le_refl _))
theorem pi_tup {l : Expr} {tl : TE} (hl : PE X l tl) : PI X tg l (iTup X.K tl) := by
  intro pins s σ H R I h
  refine thn (hl pins s σ H _ I h) fun v s1 ⟨x, H1, I1, r1, q1⟩ => ?_
  obtain ⟨a, e, ⟨xs, hq⟩, q⟩ := q1
  subst e
  cases r1
  obtain ⟨its, rv, p, hz⟩ := I1.tuple hq
  refine wpAny_pyIter_tuple (show s1.heap.IsTuple a its.toArray from p) ?_
  refine ⟨s1.heap.objs.size, [s1.heap.objs.size], _, _, H1, rfl, I1.kept (t' := s1.toks) fun b o e => Heap.get?_push_of_some _ e, turn_tuple a _, ⟨_, Heap.get?_push_size _ rfl, rfl, rfl⟩, fun b hb => ?_, q⟩
  have e : b = s1.heap.objs.size := by simpa using hb
  subst e
  exact I1.fpOk (Nat.le_refl _) (I1.hok.fresh (Nat.le_refl _))
theorem range_it {pins : List (Addr × Obj)} {σ : St} {H : Hp} {s : Shared} {R : It → Hp → Prop} {E : Value → Shared → Prop} {lo hi : Int} {t u v : Tok} {tk : Nat} (I : Inv X pins σ H s) (h1 : -(2 ^ 62) ≤ lo) (h2 : lo < 2 ^ 62) (h3 : -(2 ^ 62) ≤ hi) (h4 : hi < 2 ^ 62)
    (q : R (Itr lo (hi - lo).toNat) H) : wpAny (model X.prog X.w) X.A (pyIter (.ref s.heap.objs.size)) (PIE X pins σ tg R) E { s with heap := s.heap.push { cls := .type "range", data := .fields #[.int lo t, .int hi u, .int 1 v] }, toks := tk } := by
  refine wpAny_pyIter_range (IsRange.new ..) (small_one h1 h2 h3 h4) ?_
  have I1 : Inv X pins σ H { s with heap := s.heap.push { cls := .type "range", data := .fields #[.int lo t, .int hi u, .int 1 v] }, toks := tk } := I.kept fun b o e => Heap.get?_push_of_some _ e
  refine ⟨(s.heap.push { cls := .type "range", data := .fields #[.int lo t, .int hi u, .int 1 v] }).objs.size, [(s.heap.push { cls := .type "range", data := .fields #[.int lo t, .int hi u, .int 1 v] }).objs.size], _, _, H, rfl,
    I1.kept (t' := tk) fun b o e => Heap.get?_push_of_some _ e, turn_range _ lo (hi - lo).toNat, ?_, fun b hb => ?_, q⟩
  · have e1 : lo + ((0 : Nat) : Int) * 1 = lo := by simp
    have e2 : (((hi - lo).toNat : Nat) : Int) - ((0 : Nat) : Int) = Builtin.Range.rangeSize lo hi 1 := by rw [rangeSize_one]; split <;> omega
    show IsRangeIter _ _ (lo + ((0 : Nat) : Int) * 1) ((((hi - lo).toNat : Nat) : Int) - ((0 : Nat) : Int)) 1
    rw [e1, e2]
    exact Heap.get?_push_size _ rfl
  · have e : b = (s.heap.push { cls := .type "range", data := .fields #[.int lo t, .int hi u, .int 1 v] }).objs.size := by simpa using hb
    subst e
    exact I1.fpOk (Nat.le_refl _) (I1.hok.fresh (Nat.le_refl _))
def iRng1 (ta : TA) : TI := fun σ H R => ta σ H fun vs H1 => ∃ j : Int, vs = [.int j] ∧ -(2 ^ 62) ≤ j ∧ j < 2 ^ 62 ∧ R (Itr 0 j.toNat) H1
theorem pi_range1 {a : Expr} {ta : TA} {p pos : Pos} (hg : Gl X "range") (hm : X.mg "range" = none) (ha : PA X [a] ta) (hs : starEach [a] X.env = [(false, eval a X.env)] := by rfl) : PI X tg (.Call (.Name "range" p) [a] [] pos) (iRng1 ta) := by
  intro pins s σ H R I h
  refine Call_ (ld_blt I hg hm boot_range (PyProof.Rows.callWith_type1 (thn (ha pos pins s σ H _ I h) fun us s1 ⟨vs, H1, I1, r1, q1⟩ => ?_) hs rfl))
  obtain ⟨j, e, q1, q2, q⟩ := q1
  subst e
  cases r1 with
  | cons r rr =>
    cases rr
    obtain ⟨t, rfl⟩ := r
    exact call_range_1 (range_it I1 (by omega) (by omega) q1 q2 (by simpa using q))
def tFor (wi : TI) (g : TG) (tb : TS) : TS := fun D σ H => wi σ H fun J H1 => ∃ W : Nat → Nat → St → Hp → Prop, (∃ m, W 0 m σ H1) ∧ ∀ i m σ H, W i m σ H →
  (J.stop i H ∧ D.nx σ H) ∨ (J.go i H ∧ ∃ N : St → Hp → Prop, (∀ σ' H', N σ' H' → ∃ m', m' < m ∧ W (i + 1) m' σ' H') ∧ ∀ x H', J.yld i H x H' → g x σ H' fun σ2 H2 => tb { D with nx := N, ct := N, bk := D.nx } σ2 H2)
def pinsAt (fp : List Addr) (h : Heap) : List (Addr × Obj) := fp.filterMap fun b => (h.get? b).map fun o => (b, o)
theorem mem_pinsAt {fp : List Addr} {h : Heap} {b : Addr} {o : Obj} (hb : b ∈ fp) (e : h.get? b = some o) : (b, o) ∈ pinsAt fp h := List.mem_filterMap.mpr ⟨b, hb, by rw [e]; rfl⟩
theorem of_pinsAt {fp : List Addr} {h : Heap} {p : Addr × Obj} (hp : p ∈ pinsAt fp h) : p.1 ∈ fp ∧ h.get? p.1 = some p.2 := by
  obtain ⟨b, hb, e⟩ := List.mem_filterMap.mp hp
  cases q : h.get? b with
  | none => rw [q] at e; cases e
  | some o =>
    rw [q] at e
    have e' : (b, o) = p := Option.some.inj e
    subst e'
    exact ⟨hb, q⟩
theorem Inv.pinned {pins : List (Addr × Obj)} {σ : St} {H : Hp} {s : Shared} {fp : List Addr} (I : Inv X pins σ H s) (hf : ∀ b ∈ fp, FpOk X pins H b) (ho : ∀ b ∈ fp, ∃ o, s.heap.get? b = some o ∧ ∀ v, o.data ≠ .cell v) : Inv X (pins ++ pinsAt fp s.heap) σ H s :=
  I.pins_of fun p hp => (List.mem_append.mp hp).elim (fun z => I.pin p (List.mem_append_right _ z)) fun z => by
    obtain ⟨hb, e⟩ := of_pinsAt z
    obtain ⟨f0, f1, f2, _⟩ := hf p.1 hb
    obtain ⟨o, e', d⟩ := ho p.1 hb
    rw [e] at e'; cases e'
    exact ⟨e, f0, f1, f2, d⟩
theorem Inv.unpinned {pins pl : List (Addr × Obj)} {σ : St} {H : Hp} {s : Shared} (I : Inv X (pins ++ pl) σ H s) : Inv X pins σ H s := I.pins_of fun p hp => I.pin p (List.mem_append_right _ (List.mem_append_left _ hp))
theorem ps_for {iter : Expr} {body : List Stmt} {wi : TI} {g : TG} {tb : TS} {pos : Pos} (hp : PassesOwn (model X.prog X.w) X.A X.env X.xe) (hc : X.calm = true) (hi : PI X tg iter wi) (hg : PG X tg g) (hb : PSs X body tb)
    (hs : ∀ x, foldedSetIterable iter X.env x = pure x := by intro _; rfl) : PS X (.For tg iter body [] pos) (tFor wi g tb) := by
  intro pins s σ H D I h
  refine wpAny_For (thn (hi pins s σ H _ I h) fun v s1 h1 => thn h1 fun itv s2 h2 => ?_) hs
  obtain ⟨it, fp, tn, J, H2, e, I2, T, st2, f2, W, ⟨m0, w0⟩, turn⟩ := h2
  subst e
  -- what stays true of the iterator's objects through the loop
  have stat : ∀ {H' : Hp}, (∀ b ∈ fp, H' b = none) → ∀ b ∈ fp, FpOk X pins H' b := fun hn b hb => ⟨hn b hb, (f2 b hb).2⟩
  refine codeAny_forLoop_any (fun n s' => ∃ i σ' H', Inv X pins σ' H' s' ∧ tn i s'.heap ∧ (∀ b ∈ fp, H' b = none) ∧ W i n σ' H') ?_ m0 ⟨0, σ, H2, I2, st2, fun b hb => (f2 b hb).1, w0⟩
  rintro n s3 ⟨i, σ3, H3, I3, st3, fr3, w3⟩
  rcases turn i n σ3 H3 w3 with ⟨stop, qn⟩ | ⟨go, N, hN, step⟩
  · refine wpAny_passesOwn hp (thn (T.done X rfl rfl rfl hc i pins s3 σ3 H3 X.xe I3 (stat fr3) st3 stop) fun r s4 ⟨hr, I4⟩ => ?_)
    subst hr
    exact wpAny_execs_nil ⟨σ3, H3, I4, qn⟩
  · refine wpAny_passesOwn hp (thn (T.item X rfl rfl rfl hc i pins s3 σ3 H3 X.xe I3 (stat fr3) st3 go) fun r s4 ⟨u, hr, h4⟩ => ?_)
    subst hr
    refine wpAny_passesOwn hp (thn h4 fun _ s5 ⟨x, H5, I5, r5, y5, st5, fr5⟩ => ?_)
    have I5' := I5.pinned (stat fr5) (T.obj _ _ st5)
    refine wpAny_passesOwn hp (thn (hg _ s5 σ3 H5 x u _ I5' r5 (step x H5 y5)) fun _ s6 ⟨σ6, H6, I6, q6⟩ => ?_)
    refine wpAny_passesOwn hp (thn (hb _ s6 σ6 H6 _ I6 q6) fun f s7 q7 => ?_)
    have again : ∀ {σ7 : St} {H7 : Hp}, Inv X (pins ++ pinsAt fp s5.heap) σ7 H7 s7 → N σ7 H7 → ∃ m, m < n ∧ ∃ i σ' H', Inv X pins σ' H' s7 ∧ tn i s7.heap ∧ (∀ b ∈ fp, H' b = none) ∧ W i m σ' H' := fun {σ7 H7} I7 n7 => by
      obtain ⟨m', hm, w7⟩ := hN σ7 H7 n7
      refine ⟨m', hm, i + 1, σ7, H7, I7.unpinned, T.keep _ _ _ st5 fun b hb o e => (I7.pin (b, o) (List.mem_append_right _ (List.mem_append_right _ (mem_pinsAt hb e)))).1, fun b hb => ?_, w7⟩
      obtain ⟨o, e, d⟩ := T.obj _ _ st5 b hb
      exact (I7.pin (b, o) (List.mem_append_right _ (List.mem_append_right _ (mem_pinsAt hb e)))).2.1
    cases f with
    | next => obtain ⟨σ7, H7, I7, n7⟩ := q7; exact again I7 n7
    | cont => obtain ⟨σ7, H7, I7, n7⟩ := q7; exact again I7 n7
    | brk => obtain ⟨σ7, H7, I7, q7⟩ := q7; exact ⟨σ7, H7, I7.unpinned, q7⟩
    | ret v => obtain ⟨x7, σ7, H7, I7, r7, q7⟩ := q7; exact ⟨x7, σ7, H7, I7.unpinned, r7, q7⟩
end
theorem for_list {K : PySem.W.Frag} {a : Addr} {xs : List V} {g : TG} {tb : TS} {D : Ends} {σ : St} {H : Hp} (Pv : Nat → St → Hp → Prop) (h0 : Pv 0 σ H) (hl : ∀ i σ H, i ≤ xs.length → Pv i σ H → SqL K H a xs)
    (hs : ∀ i x σ H, xs[i]? = some x → Pv i σ H → g x σ H fun σ2 H2 => tb { D with nx := Pv (i + 1), ct := Pv (i + 1), bk := D.nx } σ2 H2) (hd : ∀ σ H, Pv xs.length σ H → D.nx σ H) :
    ∃ W : Nat → Nat → St → Hp → Prop, (∃ m, W 0 m σ H) ∧ ∀ i m σ H, W i m σ H →
      ((Itl K a).stop i H ∧ D.nx σ H) ∨ ((Itl K a).go i H ∧ ∃ N : St → Hp → Prop, (∀ σ' H', N σ' H' → ∃ m', m' < m ∧ W (i + 1) m' σ' H') ∧ ∀ x H', (Itl K a).yld i H x H' → g x σ H' fun σ2 H2 => tb { D with nx := N, ct := N, bk := D.nx } σ2 H2) := by
  refine ⟨fun i m σ H => m = xs.length - i ∧ i ≤ xs.length ∧ Pv i σ H, ⟨xs.length, by simp, Nat.zero_le _, h0⟩, ?_⟩
  rintro i m σ H ⟨rfl, hi, p⟩
  have q := hl i σ H hi p
  by_cases hlt : i < xs.length
  · refine .inr ⟨⟨xs, xs[i], q, by simp [hlt]⟩, Pv (i + 1), fun σ' H' p' => ⟨xs.length - (i + 1), by omega, rfl, hlt, p'⟩, fun x H' y => ?_⟩
    obtain ⟨e, y⟩ := y
    subst e
    exact hs i x σ _ (y xs q) p
  · have e : i = xs.length := by omega
    subst e
    exact .inl ⟨⟨xs, q, Nat.le_refl _⟩, hd σ H p⟩
theorem for_tup {K : PySem.W.Frag} {a : Addr} {xs : List V} {g : TG} {tb : TS} {D : Ends} {σ : St} {H : Hp} (Pv : Nat → St → Hp → Prop) (h0 : Pv 0 σ H) (hl : ∀ i σ H, i ≤ xs.length → Pv i σ H → SqT K H a xs)
    (hs : ∀ i x σ H, xs[i]? = some x → Pv i σ H → g x σ H fun σ2 H2 => tb { D with nx := Pv (i + 1), ct := Pv (i + 1), bk := D.nx } σ2 H2) (hd : ∀ σ H, Pv xs.length σ H → D.nx σ H) :
    ∃ W : Nat → Nat → St → Hp → Prop, (∃ m, W 0 m σ H) ∧ ∀ i m σ H, W i m σ H →
      ((Itt K a).stop i H ∧ D.nx σ H) ∨ ((Itt K a).go i H ∧ ∃ N : St → Hp → Prop, (∀ σ' H', N σ' H' → ∃ m', m' < m ∧ W (i + 1) m' σ' H') ∧ ∀ x H', (Itt K a).yld i H x H' → g x σ H' fun σ2 H2 => tb { D with nx := N, ct := N, bk := D.nx } σ2 H2) := by
  refine ⟨fun i m σ H => m = xs.length - i ∧ i ≤ xs.length ∧ Pv i σ H, ⟨xs.length, by simp, Nat.zero_le _, h0⟩, ?_⟩
  rintro i m σ H ⟨rfl, hi, p⟩
  have q := hl i σ H hi p
  by_cases hlt : i < xs.length
  · refine .inr ⟨⟨xs, xs[i], q, by simp [hlt]⟩, Pv (i + 1), fun σ' H' p' => ⟨xs.length - (i + 1), by omega, rfl, hlt, p'⟩, fun x H' y => ?_⟩
    obtain ⟨e, y⟩ := y
    subst e
    exact hs i x σ _ (y xs q) p
  · have e : i = xs.length := by omega
    subst e
    exact .inl ⟨⟨xs, q, Nat.le_refl _⟩, hd σ H p⟩
theorem for_range {lo : Int} {n : Nat} {g : TG} {tb : TS} {D : Ends} {σ : St} {H : Hp} (Pv : Nat → St → Hp → Prop) (h0 : Pv 0 σ H)
    (hs : ∀ i σ H, i < n → Pv i σ H → g (.int (lo + i)) σ H fun σ2 H2 => tb { D with nx := Pv (i + 1), ct := Pv (i + 1), bk := D.nx } σ2 H2) (hd : ∀ σ H, Pv n σ H → D.nx σ H) :
    ∃ W : Nat → Nat → St → Hp → Prop, (∃ m, W 0 m σ H) ∧ ∀ i m σ H, W i m σ H →
      ((Itr lo n).stop i H ∧ D.nx σ H) ∨ ((Itr lo n).go i H ∧ ∃ N : St → Hp → Prop, (∀ σ' H', N σ' H' → ∃ m', m' < m ∧ W (i + 1) m' σ' H') ∧ ∀ x H', (Itr lo n).yld i H x H' → g x σ H' fun σ2 H2 => tb { D with nx := N, ct := N, bk := D.nx } σ2 H2) := by
  refine ⟨fun i m σ H => m = n - i ∧ i ≤ n ∧ Pv i σ H, ⟨n, by simp, Nat.zero_le _, h0⟩, ?_⟩
  rintro i m σ H ⟨rfl, hi, p⟩
  by_cases hlt : i < n
  · refine .inr ⟨hlt, Pv (i + 1), fun σ' H' p' => ⟨n - (i + 1), by omega, rfl, hlt, p'⟩, fun x H' y => ?_⟩
    obtain ⟨e, y⟩ := y
    subst e y
    exact hs i σ _ hlt p
  · have e : i = n := by omega
    subst e
    exact .inl ⟨Nat.le_refl _, hd σ H p⟩
end L2
namespace L2
open PySem PySem.Spec PyProof.Rows
abbrev R2 := V → V → Hp → VK → Prop
def OpR (X : Cx) (f : Value → Value → Sem Value) (r : R2) : Prop :=
  ∀ (pins : List (Addr × Obj)) (s : Shared) (σ : St) (H : Hp) (x y : V) (v u : Value) (Q : VK), Inv X pins σ H s → RelV x v → RelV y u → r x y H Q →
    wpAny (model X.prog X.w) X.A (f v u) (EP X pins σ Q) X.xe s
def UnR (X : Cx) (f : Value → Sem Value) (r : V → Hp → VK → Prop) : Prop :=
  ∀ (pins : List (Addr × Obj)) (s : Shared) (σ : St) (H : Hp) (x : V) (v : Value) (Q : VK), Inv X pins σ H s → RelV x v → r x H Q →
    wpAny (model X.prog X.w) X.A (f v) (EP X pins σ Q) X.xe s
def CallR (X : Cx) (f : Value) (r : List V → Hp → VK → Prop) : Prop :=
  ∀ (pins : List (Addr × Obj)) (s : Shared) (σ : St) (H : Hp) (xs : List V) (us : List Value) (Q : VK), Inv X pins σ H s → Vals xs us → r xs H Q →
    wpAny (model X.prog X.w) X.A (call f us) (EP X pins σ Q) X.xe s
def tOp (r : R2) (ta tb : TE) : TE := fun σ H Q => ta σ H fun x H1 => tb σ H1 fun y H2 => r x y H2 Q
def tUn (r : V → Hp → VK → Prop) (ta : TE) : TE := fun σ H Q => ta σ H fun x H1 => r x H1 Q
def rI (C : Int → Int → Prop) (g : Int → Int → V) : R2 := fun x y H Q => ∃ i j, x = .int i ∧ y = .int j ∧ C i j ∧ Q (g i j) H
def rI0 (g : Int → Int → V) : R2 := fun x y H Q => ∃ i j, x = .int i ∧ y = .int j ∧ Q (g i j) H
def rU (g : Int → V) : V → Hp → VK → Prop := fun x H Q => ∃ i, x = .int i ∧ Q (g i) H
section
variable {X : Cx} {a b c : Expr} {ta tb tc : TE} {pos : Pos}
theorem binT (ha : PE X a ta) (hb : PE X b tb) {pins : List (Addr × Obj)} {s : Shared} {σ : St} {H : Hp} {R : V → V → Hp → Prop} (I : Inv X pins σ H s)
    (h : ta σ H fun x H1 => tb σ H1 fun y H2 => R x y H2) {Q : Value → Shared → Prop} {f : Value → Value → Sem Value}
    (hf : ∀ v u s2 x y H2, Inv X pins σ H2 s2 → RelV x v → RelV y u → R x y H2 → wpAny (model X.prog X.w) X.A (f v u) Q X.xe s2) :
    wpAny (model X.prog X.w) X.A (eval a X.env) (fun v s₁ => wpAny (model X.prog X.w) X.A (eval b X.env) (fun u s₂ => wpAny (model X.prog X.w) X.A (f v u) Q X.xe s₂) X.xe s₁) X.xe s := by
  refine thn (ha pins s σ H _ I h) fun v s1 ⟨x, H1, I1, r1, q1⟩ => ?_
  refine thn (hb pins s1 σ H1 _ I1 q1) fun u s2 ⟨y, H2, I2, r2, q2⟩ => ?_
  exact hf v u s2 x y H2 I2 r1 r2 q2
theorem pe_op {op : Operator} {r : R2} (ho : OpR X (binaryOp op) r) (ha : PE X a ta) (hb : PE X b tb) : PE X (.BinOp a op b pos) (tOp r ta tb) := by
  intro pins s σ H Q I h
  exact wpAny_BinOp (binT ha hb I h fun v u s2 x y H2 I2 rx ry q => ho pins s2 σ H2 x y v u Q I2 rx ry q)
theorem pe_un {op : UnaryOp} {r : V → Hp → VK → Prop} (ho : UnR X (unaryOp op) r) (ha : PE X a ta) : PE X (.UnaryOp op a pos) (tUn r ta) := by
  intro pins s σ H Q I h
  exact UnaryOp_ (thn (ha pins s σ H _ I h) fun v s1 ⟨x, H1, I1, r1, q1⟩ => ho pins s1 σ H1 x v Q I1 r1 q1)
theorem opI {f : Value → Value → Sem Value} {C : Int → Int → Prop} {g : Int → Int → Int}
    (rule : ∀ (i j : Int) (t u : Tok) (s : Shared) (Q : Value → Shared → Prop) (E : Value → Shared → Prop), C i j → Q (.int (g i j) s.toks) { s with toks := s.toks + 1 } → wpAny (model X.prog X.w) X.A (f (.int i t) (.int j u)) Q E s) :
    OpR X f (rI C fun i j => .int (g i j)) := by
  intro pins s σ H x y v u Q I rx ry h
  obtain ⟨i, j, rfl, rfl, hc, q⟩ := h
  obtain ⟨t, rfl⟩ := rx
  obtain ⟨t', rfl⟩ := ry
  exact rule i j t t' s _ _ hc ⟨.int (g i j), H, I.tok _, ⟨_, rfl⟩, q⟩
theorem opI0 {f : Value → Value → Sem Value} {g : Int → Int → Int}
    (rule : ∀ (i j : Int) (t u : Tok) (s : Shared) (Q : Value → Shared → Prop) (E : Value → Shared → Prop), Q (.int (g i j) s.toks) { s with toks := s.toks + 1 } → wpAny (model X.prog X.w) X.A (f (.int i t) (.int j u)) Q E s) :
    OpR X f (rI0 fun i j => .int (g i j)) := by
  intro pins s σ H x y v u Q I rx ry h
  obtain ⟨i, j, rfl, rfl, q⟩ := h
  obtain ⟨t, rfl⟩ := rx
  obtain ⟨t', rfl⟩ := ry
  exact rule i j t t' s _ _ ⟨.int (g i j), H, I.tok _, ⟨_, rfl⟩, q⟩
theorem opB0 {f : Value → Value → Sem Value} {g : Int → Int → Bool}
    (rule : ∀ (i j : Int) (t u : Tok) (s : Shared) (Q : Value → Shared → Prop) (E : Value → Shared → Prop), Q (.bool (g i j)) s → wpAny (model X.prog X.w) X.A (f (.int i t) (.int j u)) Q E s) :
    OpR X f (rI0 fun i j => .bl (g i j)) := by
  intro pins s σ H x y v u Q I rx ry h
  obtain ⟨i, j, rfl, rfl, q⟩ := h
  obtain ⟨t, rfl⟩ := rx
  obtain ⟨t', rfl⟩ := ry
  exact rule i j t t' s _ _ ⟨.bl (g i j), H, I, rfl, q⟩
def CMul (i j : Int) : Prop := (-(2 ^ 64) < i ∧ i < 2 ^ 64) ∨ (-(2 ^ 64) < j ∧ j < 2 ^ 64)
theorem CMul.ok {i j : Int} (h : CMul i j) : IntMulOk i j := by
  rcases h with ⟨h1, h2⟩ | ⟨h1, h2⟩
  · exact .of_left (intBits_le_64 h1 h2)
  · exact .of_right (intBits_le_64 h1 h2)
theorem op_add : OpR X (binaryOp .Add) (rI0 fun i j => .int (i + j)) := opI0 fun _ _ _ _ _ _ _ q => add_int q
theorem op_sub : OpR X (binaryOp .Sub) (rI0 fun i j => .int (i - j)) := opI0 fun _ _ _ _ _ _ _ q => sub_int q
theorem op_mul : OpR X (binaryOp .Mult) (rI CMul fun i j => .int (i * j)) := opI fun _ _ _ _ _ _ _ hc q => mul_int q hc.ok
theorem op_mod : OpR X (binaryOp .Mod) (rI (fun _ j => 0 < j) fun i j => .int (i % j)) := opI fun i j _ _ _ _ _ hc q => by
  have h1 : (0 : Int) < j := hc
  exact mod_int' (by omega) (by rw [Int.fmod_eq_emod_of_nonneg i (by omega)]; exact q)
theorem unI {f : Value → Sem Value} {g : Int → Int}
    (rule : ∀ (i : Int) (t : Tok) (s : Shared) (Q : Value → Shared → Prop) (E : Value → Shared → Prop), Q (.int (g i) s.toks) { s with toks := s.toks + 1 } → wpAny (model X.prog X.w) X.A (f (.int i t)) Q E s) :
    UnR X f (rU fun i => .int (g i)) := by
  intro pins s σ H x v Q I rx h
  obtain ⟨i, rfl, q⟩ := h
  obtain ⟨t, rfl⟩ := rx
  exact rule i t s _ _ ⟨.int (g i), H, I.tok _, ⟨_, rfl⟩, q⟩
theorem un_neg : UnR X (unaryOp .USub) (rU fun i => .int (-i)) := unI fun _ _ _ _ _ q => neg_int q
end
def scal : V → V → Bool
  | .non, .non => true | .non, .int _ => true | .int _, .non => true | .non, .bl _ => true | .bl _, .non => true | .non, .str _ => true | .str _, .non => true
  | .int _, .int _ => true | .bl _, .bl _ => true | .str _, .str _ => true | .byt _, .byt _ => true
  | .int _, .str _ => true | .str _, .int _ => true | .bl _, .str _ => true | .str _, .bl _ => true
  | _, _ => false
def rEq : R2 := fun x y H Q => scal x y = true ∧ Q (.bl (decide (x = y))) H
def rNe : R2 := fun x y H Q => scal x y = true ∧ Q (.bl (!decide (x = y))) H
theorem dec_int {i j : Int} : decide (V.int i = V.int j) = (i == j) := by
  rw [Bool.eq_iff_iff]
  simp
theorem dec_bl {i j : Bool} : decide (V.bl i = V.bl j) = (i == j) := by
  rw [Bool.eq_iff_iff]
  simp
theorem dec_str {i j : Str} : decide (V.str i = V.str j) = (i == j) := by
  rw [Bool.eq_iff_iff]
  simp
theorem dec_byt {i j : Array UInt8} : decide (V.byt i = V.byt j) = (i.toList == j.toList) := by
  rw [Bool.eq_iff_iff]
  cases i
  cases j
  simp
section
variable {X : Cx} {a b c : Expr} {ta tb tc : TE} {pos : Pos}
theorem fin_bl {pins : List (Addr × Obj)} {σ : St} {H : Hp} {s : Shared} {Q : VK} {k k' : Bool} (I : Inv X pins σ H s) (q : Q (.bl k) H) (e : k = k') : EP X pins σ Q (.bool k') s := by
  subst e
  exact ⟨.bl k, H, I, rfl, q⟩
theorem op_eq : OpR X (compareOp .Eq) rEq := by
  intro pins s σ H x y v u Q I rx ry h
  obtain ⟨hs, q⟩ := h
  cases x with
  | non =>
    cases rx
    cases y with
    | non => cases ry; exact PySem.EqNone.eq_none_none (fin_bl I q (by simp))
    | bl j => cases ry; exact PySem.EqNone.eq_none_bool (fin_bl I q (by simp))
    | int j => obtain ⟨t', rfl⟩ := ry; exact PySem.EqNone.eq_none_int (fin_bl I q (by simp))
    | str j => obtain ⟨t', rfl⟩ := ry; exact PySem.EqNone.eq_none_str (fin_bl I q (by simp))
    | _ => exact absurd (show false = true from hs) Bool.false_ne_true
  | bl i =>
    cases rx
    cases y with
    | non => cases ry; exact PySem.EqNone.eq_bool_none (fin_bl I q (by simp))
    | bl j => cases ry; exact eq_bool (fin_bl I q dec_bl)
    | str j => obtain ⟨t', rfl⟩ := ry; exact PySem.EqMixed.eq_bool_str (fin_bl I q (by simp))
    | _ => exact absurd (show false = true from hs) Bool.false_ne_true
  | int i =>
    obtain ⟨t, rfl⟩ := rx
    cases y with
    | non => cases ry; exact PySem.EqNone.eq_int_none (fin_bl I q (by simp))
    | int j => obtain ⟨t', rfl⟩ := ry; exact eq_int (fin_bl I q dec_int)
    | str j => obtain ⟨t', rfl⟩ := ry; exact PySem.EqMixed.eq_int_str (fin_bl I q (by simp))
    | _ => exact absurd (show false = true from hs) Bool.false_ne_true
  | str i =>
    obtain ⟨t, rfl⟩ := rx
    cases y with
    | non => cases ry; exact PySem.EqNone.eq_str_none (fin_bl I q (by simp))
    | bl j => cases ry; exact PySem.EqMixed.eq_str_bool (fin_bl I q (by simp))
    | int j => obtain ⟨t', rfl⟩ := ry; exact PySem.EqMixed.eq_str_int (fin_bl I q (by simp))
    | str j => obtain ⟨t', rfl⟩ := ry; exact eq_str (fin_bl I q dec_str)
    | _ => exact absurd (show false = true from hs) Bool.false_ne_true
  | byt i =>
    obtain ⟨t, rfl⟩ := rx
    cases y with
    | byt j => obtain ⟨t', rfl⟩ := ry; exact PySem.W.eq_bytes (fin_bl I q dec_byt)
    | _ => exact absurd (show false = true from hs) Bool.false_ne_true
  | _ => cases y <;> exact absurd (show false = true from hs) Bool.false_ne_true
theorem op_ne : OpR X (compareOp .NotEq) rNe := by
  intro pins s σ H x y v u Q I rx ry h
  obtain ⟨hs, q⟩ := h
  cases x with
  | non =>
    cases rx
    cases y with
    | non => cases ry; exact PySem.EqNone.ne_none_none (fin_bl I q (by simp))
    | bl j => cases ry; exact PySem.EqNone.ne_none_bool (fin_bl I q (by simp))
    | int j => obtain ⟨t', rfl⟩ := ry; exact PySem.EqNone.ne_none_int (fin_bl I q (by simp))
    | str j => obtain ⟨t', rfl⟩ := ry; exact PySem.EqNone.ne_none_str (fin_bl I q (by simp))
    | _ => exact absurd (show false = true from hs) Bool.false_ne_true
  | bl i =>
    cases rx
    cases y with
    | non => cases ry; exact PySem.EqNone.ne_bool_none (fin_bl I q (by simp))
    | bl j => cases ry; exact ne_bool (fin_bl I q (congrArg not dec_bl))
    | str j => obtain ⟨t', rfl⟩ := ry; exact PySem.EqMixed.ne_bool_str (fin_bl I q (by simp))
    | _ => exact absurd (show false = true from hs) Bool.false_ne_true
  | int i =>
    obtain ⟨t, rfl⟩ := rx
    cases y with
    | non => cases ry; exact PySem.EqNone.ne_int_none (fin_bl I q (by simp))
    | int j => obtain ⟨t', rfl⟩ := ry; exact ne_int (fin_bl I q (congrArg not dec_int))
    | str j => obtain ⟨t', rfl⟩ := ry; exact PySem.EqMixed.ne_int_str (fin_bl I q (by simp))
    | _ => exact absurd (show false = true from hs) Bool.false_ne_true
  | str i =>
    obtain ⟨t, rfl⟩ := rx
    cases y with
    | non => cases ry; exact PySem.EqNone.ne_str_none (fin_bl I q (by simp))
    | bl j => cases ry; exact PySem.EqMixed.ne_str_bool (fin_bl I q (by simp))
    | int j => obtain ⟨t', rfl⟩ := ry; exact PySem.EqMixed.ne_str_int (fin_bl I q (by simp))
    | str j => obtain ⟨t', rfl⟩ := ry; exact ne_str (fin_bl I q (congrArg not dec_str))
    | _ => exact absurd (show false = true from hs) Bool.false_ne_true
  | byt i =>
    obtain ⟨t, rfl⟩ := rx
    cases y with
    | byt j => obtain ⟨t', rfl⟩ := ry; exact PySem.W.ne_bytes (fin_bl I q (congrArg not dec_byt))
    | _ => exact absurd (show false = true from hs) Bool.false_ne_true
  | _ => cases y <;> exact absurd (show false = true from hs) Bool.false_ne_true
theorem op_lt : OpR X (compareOp .Lt) (rI0 fun i j => .bl (decide (i < j))) := opB0 fun _ _ _ _ _ _ _ q => lt_int q
theorem op_le : OpR X (compareOp .LtE) (rI0 fun i j => .bl (decide (i ≤ j))) := opB0 fun _ _ _ _ _ _ _ q => le_int q
theorem op_gt : OpR X (compareOp .Gt) (rI0 fun i j => .bl (decide (j < i))) := opB0 fun _ _ _ _ _ _ _ q => gt_int q
theorem op_lt_str : OpR X (compareOp .Lt) (fun x y H Q => ∃ i j, x = .str i ∧ y = .str j ∧ Q (.bl (decide (i.cps.toList < j.cps.toList))) H) := by
  intro pins s σ H x y v u Q I rx ry h
  obtain ⟨i, j, rfl, rfl, q⟩ := h
  obtain ⟨t, rfl⟩ := rx
  obtain ⟨t', rfl⟩ := ry
  exact lt_str (fin_bl I q rfl)
theorem op_in_str : OpR X (compareOp .In) (fun x y H Q => ∃ i j, x = .str i ∧ y = .str j ∧ Q (.bl (!(Builtin.Str.occurrences j i 0 j.length 1).isEmpty)) H) := by
  intro pins s σ H x y v u Q I rx ry h
  obtain ⟨i, j, rfl, rfl, q⟩ := h
  obtain ⟨t, rfl⟩ := rx
  obtain ⟨t', rfl⟩ := ry
  exact in_str (fin_bl I q rfl)
theorem op_notin_str : OpR X (compareOp .NotIn) (fun x y H Q => ∃ i j, x = .str i ∧ y = .str j ∧ Q (.bl (!(!(Builtin.Str.occurrences j i 0 j.length 1).isEmpty))) H) := by
  intro pins s σ H x y v u Q I rx ry h
  obtain ⟨i, j, rfl, rfl, q⟩ := h
  obtain ⟨t, rfl⟩ := rx
  obtain ⟨t', rfl⟩ := ry
  exact notIn_str (fin_bl I q rfl)
theorem nomark (b : Expr) {op : CmpOp} (h : op ≠ .In := by decide) (h2 : op ≠ .NotIn := by decide) : behindInMarks op b = false := by
  have e1 : (op == CmpOp.In) = false := by cases op <;> first | rfl | exact absurd rfl h
  have e2 : (op == CmpOp.NotIn) = false := by cases op <;> first | rfl | exact absurd rfl h2
  cases b <;> simp [behindInMarks, e1, e2]
theorem pe_cmpR {op : CmpOp} {r : R2} (ho : OpR X (compareOp op) r) (ha : PE X a ta) (hb : PE X b tb) (hm : behindInMarks op b = false) : PE X (.Compare a [op] [b] pos) (tOp r ta tb) := by
  intro pins s σ H Q I h
  exact wpAny_Compare1 (binT ha hb I h fun v u s2 x y H2 I2 rx ry q => ho pins s2 σ H2 x y v u Q I2 rx ry q) hm
def tTest (t : TE) : TT := fun σ H Q => t σ H fun x H' => ∃ k, x = .bl k ∧ Q k H'
theorem pt_cmpR {op : CmpOp} {r : R2} (ho : OpR X (compareOp op) r) (ha : PE X a ta) (hb : PE X b tb) (hm : behindInMarks op b = false) : PT X (.Compare a [op] [b] pos) (tTest (tOp r ta tb)) := by
  intro pins s σ H Q I h
  refine wpAny_isTrue_Compare1 (thn (ha pins s σ H _ I h) fun v s1 ⟨x, H1, I1, r1, q1⟩ => thn (hb pins s1 σ H1 _ I1 q1) fun u s2 ⟨y, H2, I2, r2, q2⟩ =>
    thn (ho pins s2 σ H2 x y v u _ I2 r1 r2 q2) fun c s3 ⟨z, H3, I3, r3, k, e, q3⟩ => ?_) hm
  subst e
  cases r3
  exact wpAny_truthy_bool ⟨H3, I3, q3⟩
def tChain (r r' : R2) (ta tb tc : TE) : TE := fun σ H Q => ta σ H fun x H1 => tb σ H1 fun y H2 => r x y H2 fun z H3 => ∃ k, z = .bl k ∧
  (if k = true then tc σ H3 fun w' H4 => r' y w' H4 Q else Q (.bl false) H3)
theorem pe_chain {op op' : CmpOp} {r r' : R2} (ho : OpR X (compareOp op) r) (ho' : OpR X (compareOp op') r') (ha : PE X a ta) (hb : PE X b tb) (hc : PE X c tc)
    (hm : lastMarks [op, op'] [b, c] = false := by with_unfolding_all rfl) : PE X (.Compare a [op, op'] [b, c] pos) (tChain r r' ta tb tc) := by
  intro pins s σ H Q I h
  refine Compare_chain (thn (ha pins s σ H _ I h) fun v s1 ⟨x, H1, I1, r1, q1⟩ => chain_link (thn (hb pins s1 σ H1 _ I1 q1) fun u s2 ⟨y, H2, I2, r2, q2⟩ =>
    thn (ho pins s2 σ H2 x y v u _ I2 r1 r2 q2) fun d s3 ⟨z, H3, I3, r3, k, e, q3⟩ => ?_)) hm
  subst e
  cases r3
  refine wpAny_truthy_bool ?_
  cases k with
  | false => exact ite_ff ⟨.bl false, H3, I3, rfl, q3⟩
  | true => exact ite_tt (chain_last (thn (hc pins s3 σ H3 _ I3 q3) fun w' s4 ⟨z', H4, I4, r4, q4⟩ => ho' pins s4 σ H4 y z' u w' Q I4 r2 r4 q4))
theorem line63 : (sizeLine : Nat) < 2 ^ 63 := by rw [sizeLine_eq]; decide
theorem op_add_str : OpR X (binaryOp .Add) (fun x y H Q => ∃ i j, x = .str i ∧ y = .str j ∧ i.length + j.length ≤ sizeLine ∧ Q (.str (i ++ j)) H) := by
  intro pins s σ H x y v u Q I rx ry h
  obtain ⟨i, j, rfl, rfl, hz, q⟩ := h
  obtain ⟨t, rfl⟩ := rx
  obtain ⟨t', rfl⟩ := ry
  exact add_str (fun t' tk => ⟨.str (i ++ j), H, I.tok _, ⟨_, rfl⟩, q⟩) hz
theorem vals1 {x : V} {us : List Value} (r : Vals [x] us) : ∃ u, us = [u] ∧ RelV x u := by
  cases r with
  | cons r1 r2 => cases r2; exact ⟨_, rfl, r1⟩
theorem vals2 {x y : V} {us : List Value} (r : Vals [x, y] us) : ∃ u w', us = [u, w'] ∧ RelV x u ∧ RelV y w' := by
  cases r with
  | cons r1 r2 =>
    cases r2 with
    | cons r3 r4 => cases r4; exact ⟨_, _, rfl, r1, r3⟩
theorem call_max2 (hc : X.calm = true) : CallR X (.builtin "max") (fun xs H Q => ∃ i j, xs = [.int i, .int j] ∧ Q (.int (if j > i then j else i)) H) := by
  intro pins s σ H xs us Q I r h
  obtain ⟨i, j, rfl, q⟩ := h
  obtain ⟨u, w', rfl, ⟨t, rfl⟩, ⟨t', rfl⟩⟩ := vals2 r
  refine max_two_ints (I.ok.hd hc) fun h' tk k => ⟨_, H, I.kept k, ?_, q⟩
  by_cases hj : j > i
  · rw [if_pos hj, if_pos hj]; exact ⟨_, rfl⟩
  · rw [if_neg hj, if_neg hj]; exact ⟨_, rfl⟩
theorem call_int1 : CallR X (.type "int") (fun xs H Q => (∃ i, xs = [.int i] ∧ Q (.int i) H) ∨ ∃ k, xs = [.bl k] ∧ Q (.int (if k then 1 else 0)) H) := by
  intro pins s σ H xs us Q I r h
  rcases h with ⟨i, rfl, q⟩ | ⟨k, rfl, q⟩
  · obtain ⟨u, rfl, t, rfl⟩ := vals1 r
    exact call_int_int ⟨.int i, H, I, ⟨_, rfl⟩, q⟩
  · obtain ⟨u, rfl, r1⟩ := vals1 r
    cases r1
    exact call_int_bool ⟨.int (if k then 1 else 0), H, I.tok _, ⟨_, rfl⟩, q⟩
theorem call_str_int : CallR X (.type "str") (fun xs H Q => ∃ i, xs = [.int i] ∧ i.natAbs.log2 < 1920 ∧ Q (.str (toString i)) H) := by
  intro pins s σ H xs us Q I r h
  obtain ⟨i, rfl, hz, q⟩ := h
  obtain ⟨u, rfl, t, rfl⟩ := vals1 r
  exact PySem.P.str_of_int hz ⟨.str _, H, I.tok _, ⟨_, rfl⟩, q⟩
end
end L2
namespace L2
open PySem PySem.Spec PyProof.Rows
structure ObjM (h : Heap) (x dx C : Addr) (mA : Str → Option Value) : Prop where
  obj : h.get? x = some (PySem.W.instObj C dx)
  ns : h.Ns1 dx mA
  ne : dx ≠ x
theorem lookIn_ns {h : Heap} {dx : Addr} {mA : Str → Option Value} (n : h.Ns1 dx mA) : ∃ od, h.get? dx = some od ∧ ∀ name, PySem.W.lookIn name od = some (mA name) := by
  obtain ⟨o, es, ep, ho, hd, hk, _, hm⟩ := n
  refine ⟨o, ho, fun name => ?_⟩
  have e := hm name
  unfold nsFind findBy at e
  rw [← Array.find?_toList] at e
  unfold PySem.W.lookIn
  rw [hd]
  dsimp only
  split
  · rename_i y q
    rw [q] at e
    exact congrArg some e
  · rename_i q
    rw [q] at e
    have a : es.toList.any (·.refKey) = false := by
      rw [List.any_eq_false]
      intro y hy
      obtain ⟨z, t, hkey⟩ := hk y (Array.mem_toList_iff.mp hy)
      simp [DictEntry.refKey, hkey]
    have a' : ¬ es.toList.any (·.refKey) = true := by rw [a]; exact Bool.false_ne_true
    rw [if_neg a']
    exact congrArg some e
theorem ObjM.look {h : Heap} {x dx C : Addr} {mA : Str → Option Value} (I : ObjM h x dx C mA) : ∃ od, PySem.W.InstAt h x (PySem.W.instObj C dx) C (some od) ∧ ∀ name, PySem.W.lookIn name od = some (mA name) :=
  let ⟨od, ho, hl⟩ := lookIn_ns I.ns
  ⟨od, ⟨I.obj, rfl, rfl, ho⟩, hl⟩
section
variable {prog : Program} {w : World} {A : Around} {E : Value → Shared → Prop} {s : Shared} {K : PySem.W.Frag} {x dx C f : Addr} {mA : Str → Option Value} {name : Str} {v : Value}
theorem get_map {expr : Bool} {Q : Value → Shared → Prop} (X : K.In s.heap) (I : ObjM s.heap x dx C mA) (hg : PySem.W.plainGet K C name = true) (hh : PySem.W.hasDictIn K C = true)
    (ha : PySem.W.findIn K (.ref C) name = some none) (hv : mA name = some v) (hv' : PySem.W.handedIn v = true) (h : Q v { s with toks := s.toks + 1 }) :
    wpAny (model prog w) A (getAttr (.ref x) name expr) Q E s := by
  obtain ⟨od, J, hl⟩ := I.look
  exact PySem.W.get_value X J (PySem.W.plainGet_of hg).1 (PySem.W.findObj_own hh ha rfl (by rw [hl, hv])) hv' h
theorem get_meth {pl : Sem Bool} {Q : Value × List Value → Shared → Prop} (X : K.In s.heap) (I : ObjM s.heap x dx C mA) (hg : PySem.W.plainGet K C name = true)
    (hf : PySem.W.findIn K (.ref C) name = some (some (.ref f))) (ht : PySem.W.isFn K (.ref f) = true) (hv : mA name = none) (h : Q (.ref f, [.ref x]) s) :
    wpAny (model prog w) A (getMethod (.ref x) name pl) Q E s := by
  obtain ⟨od, J, hl⟩ := I.look
  exact PySem.W.method_fn X J (PySem.W.plainGet_of hg).1 (PySem.W.plainGet_of hg).2 hf (beq_iff_eq.mp ht) (by show (PySem.W.lookIn name od).map (·.isSome) = some false; rw [hl, hv]; rfl) h
theorem set_map {ns : List Str} {Q : Unit → Shared → Prop} (X : K.In s.heap) (I : ObjM s.heap x dx C mA)
    (hs : PySem.W.findIn K (.ref C) "__setattr__" = some (some (.builtin "object.__setattr__"))) (hp : PySem.W.plainOver K C = true) (ht : PySem.W.takerIn K C name = some none) (hh : PySem.W.hasDictIn K C = true)
    (hw : PySem.Within mA ns) (hsz : ns.length ≤ sizeLine)
    (h : ∀ h', ObjM h' x dx C (fun y => if y = name then some v else mA y) → Heap.SameBut dx s.heap h' → Q () { s with heap := h', toks := s.toks + 2 }) :
    wpAny (model prog w) A (setAttr (.ref x) name v) Q E s := by
  obtain ⟨od, J, hl⟩ := I.look
  refine PySem.W.set_plain X J hs (PySem.W.osa_open (s := { s with toks := s.toks + 1 }) (r := none) X J hp ht fun b => ?_)
  obtain ⟨cd, hc, hd'⟩ := PySem.W.any_some hh
  have hx : s.heap.get? x = some ⟨.ref C, some dx, .plain, #[]⟩ := I.obj
  refine wpAny_bind (wpAny_pure (wpAny_bind (wpAny_bind (wpAny_loadPart hx (wpAny_bind (PySem.W.Looks.here (s := { s with toks := s.toks + 1 }) (PySem.W.looks_clsIn X hc) ?_))))))
  rw [hd']
  refine wpAny_pure (a := some dx) (wpAny_bind (wpAny_pure (wpAny_bind ?_)))
  refine wpAny_nsSet1 (s := { s with toks := s.toks + 1 }) I.ns fun h' hn2 hs2 => ?_
  obtain ⟨oD, esD, epD, hoD, hdD, hcD⟩ := hn2.count (PySem.Within.cons name v hw)
  refine wpAny_bind (wpAny_lookBehind hoD (by rw [hdD]; exact pastItsLine_dict (Nat.le_trans hcD (by rw [List.length_cons]; omega))) ?_)
  exact wpAny_pure (h _ ⟨(hs2.2 _ (Ne.symm I.ne)).trans I.obj, hn2, I.ne⟩ hs2)
theorem make_map {R : Result → Shared → Prop} {vs : List Value} {kw : List (Str × Value)} (X : K.In s.heap) (hm : PySem.W.makesIn K C = true)
    (hi : PySem.W.findIn K (.ref C) "__init__" = some (some (.ref f))) (hf : PySem.W.typeIn K (.ref f) = some (.type "function"))
    (h : codeAny (model prog w) (A.under (.builtin "type.__call__" ⟨.ref C :: vs, kw⟩)) (.call (.ref f) ⟨.ref (s.heap.objs.size + 1) :: vs, kw⟩) (PySem.W.InitBack (s.heap.objs.size + 1) R)
      { s with heap := (s.heap.push PySem.W.emptyDict).push (PySem.W.instObj C s.heap.objs.size) }) :
    codeAny (model prog w) A (.call (.ref C) ⟨vs, kw⟩) R s := by
  obtain ⟨hh, g, d, t, os⟩ := s
  exact PySem.W.make_core (PySem.W.makes_of X hm) (PySem.W.looks_findIn X hi) (fun self => PySem.W.bind_fn X self hf) (.inl rfl) h
end
def putF (f : Str) (v : V) : List (Str × V) → List (Str × V)
  | [] => [(f, v)]
  | (g, x) :: r => if g = f then (g, v) :: r else (g, x) :: putF f v r
theorem lookup_putF (f g : Str) (v : V) : ∀ fs : List (Str × V), (putF f v fs).lookup g = if g = f then some v else fs.lookup g
  | [] => by
    show List.lookup g [(f, v)] = _
    by_cases h : g = f
    · have hb : (g == f) = true := beq_iff_eq.mpr h
      simp only [List.lookup, hb, if_pos h]
    · have hb : (g == f) = false := beq_eq_false_iff_ne.mpr h
      simp only [List.lookup, hb, if_neg h]
  | (k, x) :: r => by
    have ih := lookup_putF f g v r
    rw [show putF f v ((k, x) :: r) = (if k = f then (k, v) :: r else (k, x) :: putF f v r) from rfl]
    by_cases hk : k = f
    · rw [if_pos hk]
      by_cases h : g = k
      · have hb : (g == k) = true := beq_iff_eq.mpr h
        simp only [List.lookup, hb, if_pos (h.trans hk)]
      · have hb : (g == k) = false := beq_eq_false_iff_ne.mpr h
        simp only [List.lookup, hb, if_neg (fun e : g = f => h (e.trans hk.symm))]
    · rw [if_neg hk]
      by_cases h : g = k
      · have hb : (g == k) = true := beq_iff_eq.mpr h
        simp only [List.lookup, hb, if_neg (fun e : g = f => hk (h.symm.trans e))]
      · have hb : (g == k) = false := beq_eq_false_iff_ne.mpr h
        simp only [List.lookup, hb]
        exact ih
theorem keys_putF (f : Str) (v : V) : ∀ fs : List (Str × V), f ∈ (putF f v fs).map (·.1) ∧ ∀ g, g ∈ fs.map (·.1) → g ∈ (putF f v fs).map (·.1)
  | [] => ⟨by simp [putF], fun g h => by simp at h⟩
  | (k, x) :: r => by
    obtain ⟨i1, i2⟩ := keys_putF f v r
    rw [show putF f v ((k, x) :: r) = (if k = f then (k, v) :: r else (k, x) :: putF f v r) from rfl]
    by_cases hk : k = f
    · rw [if_pos hk]
      subst hk
      exact ⟨by simp, fun g h => by simpa using h⟩
    · rw [if_neg hk]
      refine ⟨?_, fun g h => ?_⟩
      · rw [List.map_cons]
        exact List.mem_cons_of_mem _ i1
      · rw [List.map_cons] at h ⊢
        rcases List.mem_cons.mp h with e | e
        · exact List.mem_cons.mpr (.inl e)
        · exact List.mem_cons_of_mem _ (i2 g e)
theorem length_putF (f : Str) (v : V) : ∀ fs : List (Str × V), (putF f v fs).length ≤ fs.length + 1
  | [] => by simp [putF]
  | (k, x) :: r => by
    have ih := length_putF f v r
    rw [show putF f v ((k, x) :: r) = (if k = f then (k, v) :: r else (k, x) :: putF f v r) from rfl]
    by_cases hk : k = f
    · rw [if_pos hk, List.length_cons, List.length_cons]; omega
    · rw [if_neg hk, List.length_cons, List.length_cons]; omega
theorem RelO.some_of {v : V} {o : Option Value} (r : RelO (some v) o) : ∃ u, o = some u ∧ RelV v u := by
  cases o with
  | none => exact (show False from r).elim
  | some u => exact ⟨u, rfl, r⟩
theorem RelO.none_of {o : Option Value} (r : RelO none o) : o = none := by
  cases o with
  | none => rfl
  | some u => exact (show False from r).elim
theorem handed_of {v : V} {u : Value} (r : RelV v u) : PySem.W.handedIn u = true := by
  cases v with
  | non => cases (show u = Value.none from r); rfl
  | bl b => cases (show u = Value.bool b from r); rfl
  | int i => obtain ⟨t, e⟩ := (show ∃ t, u = Value.int i t from r); cases e; rfl
  | str x => obtain ⟨t, e⟩ := (show ∃ t, u = Value.str x t from r); cases e; rfl
  | byt b => obtain ⟨t, e⟩ := (show ∃ t, u = Value.bytes b t from r); cases e; rfl
  | flt b => obtain ⟨t, e⟩ := (show ∃ t, u = Value.float b t from r); cases e; rfl
  | ref a => cases (show u = Value.ref a from r); rfl
  | ty n => cases (show u = Value.type n from r); rfl
section
variable {P : Program} {w : World} {H H' : Hp} {h h' : Heap} {a C dx : Addr} {fs fs' : List (Str × V)}
theorem ins_get (hok : HOk P w H h) (e : H a = some (.ins C dx fs)) : ∃ mA, ObjM h a dx C mA ∧ (∀ f, RelO (fs.lookup f) (mA f)) ∧ PySem.Within mA (fs.map (·.1)) ∧ fs.length ≤ 1000 ∧ H dx = some (.own a) := by
  obtain ⟨d, z, ne, ob, mA, n, r, q⟩ := (show ObjOk P w H h a (.ins C dx fs) from hok a _ e)
  exact ⟨mA, ⟨ob, n, ne⟩, r, q, z, d⟩
end
structure Cls (K : PySem.W.Frag) (C : Addr) : Prop where
  pg : PySem.W.plainGet K C Str.empty = true
  hd : PySem.W.hasDictIn K C = true
  po : PySem.W.plainOver K C = true
  sa : PySem.W.findIn K (.ref C) "__setattr__" = some (some (.builtin "object.__setattr__"))
theorem Cls.get {K : PySem.W.Frag} {C : Addr} (c : Cls K C) (f : Str) : PySem.W.plainGet K C f = true := c.pg
def NoAttr (K : PySem.W.Frag) (C : Addr) (f : Str) : Prop := PySem.W.findIn K (.ref C) f = some none
theorem NoAttr.taker {K : PySem.W.Frag} {C : Addr} {f : Str} (n : NoAttr K C f) : PySem.W.takerIn K C f = some none := by
  unfold PySem.W.takerIn
  rw [show PySem.W.findIn K (.ref C) f = some none from n]
  rfl
structure Meth (K : PySem.W.Frag) (C : Addr) (m : Str) (f : Addr) : Prop where
  at_ : PySem.W.findIn K (.ref C) m = some (some (.ref f))
  fn : PySem.W.isFn K (.ref f) = true
  kp : PySem.W.keepIn K (.ref f) = true
section
variable {X : Cx} {pins : List (Addr × Obj)} {σ : St} {H : Hp} {s : Shared} {a C dx : Addr} {fs : List (Str × V)} {f : Str} {v : V} {A : Around} {E : Value → Shared → Prop}
theorem getattr_ok {b : Bool} {Q : Value → Shared → Prop} (I : Inv X pins σ H s) (e : H a = some (.ins C dx fs)) (c : Cls X.K C) (n : NoAttr X.K C f) (l : fs.lookup f = some v)
    (h : ∀ u s', Inv X pins σ H s' → RelV v u → Q u s') : wpAny (model X.prog X.w) A (getAttr (.ref a) f b) Q E s := by
  obtain ⟨mA, O, r, _, _, _⟩ := ins_get I.hok e
  obtain ⟨u, hu, ru⟩ := RelO.some_of (v := v) (o := mA f) (by rw [← l]; exact r f)
  exact get_map I.kIn O (c.get f) c.hd n hu (handed_of ru) (h u _ (I.tok _) ru)
theorem getmeth_ok {m : Str} {g : Addr} {pl : Sem Bool} {Q : Value × List Value → Shared → Prop} (I : Inv X pins σ H s) (e : H a = some (.ins C dx fs)) (c : Cls X.K C) (k : Meth X.K C m g) (l : fs.lookup m = none)
    (h : Q (.ref g, [.ref a]) s) : wpAny (model X.prog X.w) A (getMethod (.ref a) m pl) Q E s := by
  obtain ⟨mA, O, r, _, _, _⟩ := ins_get I.hok e
  have hn : mA m = none := RelO.none_of (by rw [← l]; exact r m)
  exact get_meth I.kIn O (c.get m) k.at_ k.fn hn h
theorem setattr_ok {y : V} {u : Value} {Q : Unit → Shared → Prop} (I : Inv X pins σ H s) (e : H a = some (.ins C dx fs)) (c : Cls X.K C) (n : NoAttr X.K C f) (hl : fs.length < 1000) (ry : RelV y u)
    (h : ∀ s', Inv X pins σ (upd H a (.ins C dx (putF f y fs))) s' → Q () s') : wpAny (model X.prog X.w) A (setAttr (.ref a) f u) Q E s := by
  obtain ⟨mA, O, r, wi, _, ho⟩ := ins_get I.hok e
  have hz : (fs.map (·.1)).length ≤ sizeLine := by rw [List.length_map, sizeLine_eq]; omega
  refine set_map I.kIn O c.sa c.po n.taker c.hd wi hz fun h' O' sb => h _ ?_
  have hd : ∃ o, h'.get? dx = some o := let ⟨o, _, _, e', _⟩ := O'.ns; ⟨o, e'⟩
  refine I.write (x := a) (e := dx) (by rw [e]; exact True.intro) (.inr ho) (fun b q hb z => (sb.2 b hb).trans z) hd ?_
  refine ⟨by rw [upd_ne O.ne]; exact ho, ?_, O.ne, O'.obj, _, O'.ns, fun g => ?_, fun g hg => ?_⟩
  · have := length_putF f y fs; omega
  · show RelO ((putF f y fs).lookup g) (if g = f then some u else mA g)
    rw [lookup_putF]
    by_cases q : g = f
    · rw [if_pos q, if_pos q]; exact ry
    · rw [if_neg q, if_neg q]; exact r g
  · by_cases q : g = f
    · rw [q]; exact (keys_putF f y fs).1
    · refine (keys_putF f y fs).2 g (wi g fun z => hg ?_)
      show (if g = f then some u else mA g) = none
      rw [if_neg q]; exact z
theorem Inv.made (I : Inv X pins σ H s) : Inv X pins σ (upd (upd H s.heap.objs.size (.own (s.heap.objs.size + 1))) (s.heap.objs.size + 1) (.ins C s.heap.objs.size []))
    { s with heap := (s.heap.push PySem.W.emptyDict).push (PySem.W.instObj C s.heap.objs.size) } := by
  have e1 : (s.heap.push PySem.W.emptyDict).get? s.heap.objs.size = some PySem.W.emptyDict := Heap.get?_push_size s.heap rfl
  have e2 : ((s.heap.push PySem.W.emptyDict).push (PySem.W.instObj C s.heap.objs.size)).get? (s.heap.objs.size + 1) = some (PySem.W.instObj C s.heap.objs.size) := by
    have := Heap.get?_push_size (s.heap.push PySem.W.emptyDict) (o := PySem.W.instObj C s.heap.objs.size) rfl
    rwa [Heap.size_push] at this
  have e3 : (s.heap.push PySem.W.emptyDict).Ns s.heap.objs.size (fun _ => none) := ⟨PySem.W.emptyDict, #[], _, e1, rfl, (fun e he => absurd he (by simp)), fun _ => rfl⟩
  have I1 := I.laid (a := s.heap.objs.size) (o := .own (s.heap.objs.size + 1)) (h' := s.heap.push PySem.W.emptyDict) (t' := s.toks) (fun b u q => Heap.get?_push_of_some _ q) (Nat.le_refl _) ⟨_, e1⟩
  refine I1.laid (a := s.heap.objs.size + 1) (o := .ins C s.heap.objs.size []) (t' := s.toks) (fun b u q => Heap.get?_push_of_some _ q) (Nat.le_of_eq (Heap.size_push _ _)) ?_
  have ne : s.heap.objs.size ≠ s.heap.objs.size + 1 := Nat.ne_of_lt (Nat.lt_succ_self _)
  refine ⟨by rw [upd_ne ne, upd_same], Nat.zero_le _, ne, e2, fun _ => none, (Heap.Ns1.of_empty e3).at fun o q => Heap.get?_push_of_some _ q, fun _ => True.intro, fun y hy => absurd rfl hy⟩
theorem attr_of {prog : Program} {w : World} {env : Env} {e : Expr} {f : Str} {pos : Pos} {s : Shared} {Q : Value → Shared → Prop} (hb : attributeBase e f env (eval e env) = eval e env)
    (h : wpAny (model prog w) A (eval e env) (fun o s₁ => wpAny (model prog w) A (getAttr o f true) Q E s₁) E s) : wpAny (model prog w) A (eval (.Attribute e f pos) env) Q E s :=
  Attribute_any_ h (by rw [arm_eval_Attribute, hb])
end
def tFld (K : PySem.W.Frag) (ta : TE) (f : Str) : TE := fun σ H Q => ta σ H fun x H1 => ∃ a C dx fs v, x = .ref a ∧ H1 a = some (.ins C dx fs) ∧ Cls K C ∧ NoAttr K C f ∧ fs.lookup f = some v ∧ Q v H1
def sFld (K : PySem.W.Frag) (ta tv : TE) (f : Str) : TS := fun D σ H => tv σ H fun y H1 => ta σ H1 fun x H2 => ∃ a C dx fs, x = .ref a ∧ H2 a = some (.ins C dx fs) ∧ Cls K C ∧ NoAttr K C f ∧ fs.length < 1000 ∧
  D.nx σ (upd H2 a (.ins C dx (putF f y fs)))
section
variable {X : Cx} {o e value : Expr} {f : Str} {pos pos' tpos : Pos} {ta tv : TE}
theorem pe_fld (he : PE X e ta) (hb : attributeBase e f X.env (eval e X.env) = eval e X.env) : PE X (.Attribute e f pos) (tFld X.K ta f) := by
  intro pins s σ H Q I h
  refine attr_of hb (thn (he pins s σ H _ I h) fun u s1 ⟨x, H1, I1, rx, a, C, dx, fs, v, ex, ea, c, n, l, q⟩ => ?_)
  subst ex
  obtain rfl : u = Value.ref a := rx
  exact getattr_ok I1 ea c n l fun u' s2 I2 ru => ⟨v, H1, I2, ru, q⟩
theorem ps_fld (ha : PE X o ta) (hv : PE X value tv) (hs : swapsWith value (some (.Attribute o f pos')) pos.line X.env = pure false) : PS X (.Assign [.Attribute o f pos'] value pos) (sFld X.K ta tv f) := by
  intro pins s σ H D I h
  refine plainObj_wpAny_Assign_Attribute (thn (hv pins s σ H _ I h) fun u s1 ⟨y, H1, I1, ry, q⟩ => thn (ha pins s1 σ H1 _ I1 q) fun ov s2 ⟨x, H2, I2, rx, a, C, dx, fs, ex, ea, c, n, l, q2⟩ => ?_) hs
  subst ex
  obtain rfl : ov = Value.ref a := rx
  exact setattr_ok I2 ea c n l ry fun s3 I3 => ⟨σ, _, I3, q2⟩
end
section
variable {X : Cx} {pins : List (Addr × Obj)} {σ : St} {H : Hp} {s : Shared} {A : Around} {E : Value → Shared → Prop} {Q : Value → Shared → Prop} {c : Value} {b : Bool}
inductive TyOf (K : PySem.W.Frag) (H : Hp) : V → Value → Prop where
  | non : TyOf K H .non (.type "NoneType")
  | bl (x : Bool) : TyOf K H (.bl x) (.type "bool")
  | int (i : Int) : TyOf K H (.int i) (.type "int")
  | str (x : Str) : TyOf K H (.str x) (.type "str")
  | flt (x : UInt64) : TyOf K H (.flt x) (.type "float")
  | lst {a : Addr} {xs : List V} (e : H a = some (.lst xs)) : TyOf K H (.ref a) (.type "list")
  | frz {a : Addr} {o : Obj} {xs : List V} (e : H a = some (.frz o (.lst xs))) : TyOf K H (.ref a) (.type "list")
  | tup {a : Addr} {xs : List V} (e : H a = some (.tup xs)) : TyOf K H (.ref a) (.type "tuple")
  | dK {a : Addr} {kvs : List (Key × V)} (e : H a = some (.dK kvs)) : TyOf K H (.ref a) (.type "dict")
  | dT {a : Addr} {kvs : List (List Key × V)} (e : H a = some (.dT kvs)) : TyOf K H (.ref a) (.type "dict")
  | ins {a C dx : Addr} {fs : List (Str × V)} (e : H a = some (.ins C dx fs)) (cl : Cls K C) (ha : PySem.W.findIn K (.ref C) "__class__" = some (some (.builtin "object.__class__")))
      (hn : PySem.W.specialIn K (.builtin "object.__class__") "__get__" = some (some (.builtin "getset_descriptor.__get__"))) (htk : PySem.W.takesIn K (.builtin "object.__class__") = some true)
      (hm : PySem.W.mroIn K C (.type "object") = some true) : TyOf K H (.ref a) (.ref C)
theorem isinst_ok {x : V} {u t : Value} (I : Inv X pins σ H s) (rx : RelV x u) (ty : TyOf X.K H x t) (e : PySem.W.kitOne X.K t c = some b) (h : ∀ tk, Q (.bool b) { s with toks := tk }) :
    wpAny (model X.prog X.w) A (call (.builtin "isinstance") [u, c]) Q E s := by
  cases ty with
  | non => cases (show u = Value.none from rx); exact PySem.W.kia_one PySem.W.kitx_none I.kIn True.intro e (fun z => nomatch z) h
  | bl y => cases (show u = Value.bool y from rx); exact PySem.W.kia_one PySem.W.kitx_bool I.kIn True.intro e (fun z => nomatch z) h
  | int i => obtain ⟨t, q⟩ := (show ∃ t, u = Value.int i t from rx); cases q; exact PySem.W.kia_one PySem.W.kitx_int I.kIn True.intro e (fun z => nomatch z) h
  | str y => obtain ⟨t, q⟩ := (show ∃ t, u = Value.str y t from rx); cases q; exact PySem.W.kia_one PySem.W.kitx_str I.kIn True.intro e (fun z => nomatch z) h
  | flt y => obtain ⟨t, q⟩ := (show ∃ t, u = Value.float y t from rx); cases q; exact PySem.W.kia_one PySem.W.kitx_float I.kIn True.intro e (fun z => nomatch z) h
  | @lst a xs ea =>
    cases (show u = Value.ref a from rx)
    obtain ⟨_, _, n, _, h1⟩ := (show ObjOk X.prog X.w H s.heap a (.lst xs) from I.hok a _ ea)
    exact PySem.W.kia_one PySem.W.kitx_list I.kIn ⟨_, h1, rfl⟩ e (fun z => nomatch z) h
  | @frz a ob xs ea =>
    cases (show u = Value.ref a from rx)
    obtain ⟨_, _, _, n, _, h1⟩ := (show ObjOk X.prog X.w H s.heap a (.frz ob (.lst xs)) from I.hok a _ ea)
    exact PySem.W.kia_one PySem.W.kitx_list I.kIn ⟨_, h1, rfl⟩ e (fun z => nomatch z) h
  | @tup a xs ea =>
    cases (show u = Value.ref a from rx)
    obtain ⟨_, _, _, p⟩ := (show ObjOk X.prog X.w H s.heap a (.tup xs) from I.hok a _ ea)
    obtain ⟨o, h1, h2, _⟩ := p
    exact PySem.W.kia_one PySem.W.kitx_tuple I.kIn ⟨o, h1, h2⟩ e (fun z => nomatch z) h
  | @dK a kvs ea =>
    cases (show u = Value.ref a from rx)
    obtain ⟨_, _, vs, _, p⟩ := (show ObjOk X.prog X.w H s.heap a (.dK kvs) from I.hok a _ ea)
    obtain ⟨o, es, ep, h1, h2, _⟩ := p
    exact PySem.W.kia_one PySem.W.kitx_dict I.kIn ⟨o, h1, h2.1⟩ e (fun z => nomatch z) h
  | @dT a kvs ea =>
    cases (show u = Value.ref a from rx)
    obtain ⟨_, _, xs, _, o, es, ep, h1, h2, _⟩ := (show ObjOk X.prog X.w H s.heap a (.dT kvs) from I.hok a _ ea)
    exact PySem.W.kia_one PySem.W.kitx_dict I.kIn ⟨o, h1, h2.1⟩ e (fun z => nomatch z) h
  | @ins a C dx fs ea cl ha hn htk hm =>
    cases (show u = Value.ref a from rx)
    obtain ⟨mA, O, _⟩ := ins_get I.hok ea
    obtain ⟨od, J, _⟩ := O.look
    exact PySem.W.kia_one (PySem.W.kitx_own (cl.get _) cl.hd ha hn htk hm) I.kIn J e (fun z => nomatch z) h
end
end L2
namespace L2
open PySem PySem.Spec PyProof.Rows
structure Room (k : Nat) (A : Around) : Prop where
  hd : A.handled = none
  dp : A.depth + 3 * k + 5 < recursionLimit
  un : A.units + 16 * k + 200 < cLine
theorem Room.mono {j k : Nat} {A : Around} (r : Room k A) (h : j ≤ k) : Room j A := ⟨r.hd, by have := r.dp; omega, by have := r.un; omega⟩
theorem Room.deeper {k : Nat} {A : Around} (r : Room (k + 1) A) (env : Env) : Room k (A.deeper env) :=
  ⟨r.hd, by have := r.dp; show A.depth + 1 + 3 * k + 5 < _; omega, by have := r.un; show A.units + 3 + 16 * k + 200 < _; omega⟩
theorem Room.in1 {k : Nat} {A : Around} (r : Room (k + 1) A) : Room k A.in1 :=
  ⟨r.hd, by have := r.dp; show A.depth + 3 * k + 5 < _; omega, by have := r.un; show A.units + 1 + 16 * k + 200 < _; omega⟩
theorem make_depth {A : Around} {C : Addr} {us : List Value} {kw : List (Str × Value)} : (A.under (.builtin "type.__call__" ⟨.ref C :: us, kw⟩)).depth = A.depth + 1 := by
  first | rfl | simp [Around.under, Code.weight, Code.isCreation, Code.isGuard, Code.isCaller, Code.frames, Code.isFrame, guardIds]
theorem make_units {A : Around} {C : Addr} {us : List Value} {kw : List (Str × Value)} : (A.under (.builtin "type.__call__" ⟨.ref C :: us, kw⟩)).units = A.units + 1 := by
  first | rfl | simp [Around.under, Code.cUnits, Code.frames, Code.isFrame]
theorem Room.make {k : Nat} {A : Around} (r : Room (k + 1) A) (C : Addr) (us : List Value) (kw : List (Str × Value)) : Room k (A.under (.builtin "type.__call__" ⟨.ref C :: us, kw⟩)) :=
  ⟨r.hd, by have := r.dp; rw [make_depth]; omega, by have := r.un; rw [make_units]; omega⟩
theorem Room.depth {k : Nat} {A : Around} (r : Room k A) : A.depth < recursionLimit := by have := r.dp; omega
theorem Room.units {k : Nat} {A : Around} (r : Room k A) : A.units + 64 < cLine := by have := r.un; omega
def tNil : TA := fun _ H Q => Q [] H
def tCons (ta : TE) (tr : TA) : TA := fun σ H Q => ta σ H fun x H1 => tr σ H1 fun xs H2 => Q (x :: xs) H2
section
variable {X : Cx} {e : Expr} {es : List Expr} {te : TE} {t : TA} {pos : Pos}
theorem pa_nil : PA X [] tNil := fun _ _ _ _ H Q I h => Calls.spliced_nil ⟨[], H, I, .nil, h⟩
theorem pa_cons (ha : PE X e te) (hr : PA X es t) (hs : starEach (e :: es) X.env = (false, eval e X.env) :: starEach es X.env := by rfl) : PA X (e :: es) (tCons te t) := by
  intro pos pins s σ H Q I h
  rw [hs]
  show wpAny _ _ (spliced ((false, eval e X.env) :: backTo pos (starEach es X.env))) _ _ s
  refine Calls.spliced_cons (thn (ha pins s σ H _ I h) fun u s1 ⟨x, H1, I1, r1, q1⟩ => ?_)
  exact thn (hr pos pins s1 σ H1 _ I1 q1) fun us s2 ⟨xs, H2, I2, r2, q2⟩ => ⟨x :: xs, H2, I2, .cons r1 r2, q2⟩
end
abbrev Sp := List V → Hp → VK → XK → Prop
abbrev CXT := List Env → Hp → Shared → XK → Value → Shared → Prop
structure Env0 (P : Program) (w : World) (K : PySem.W.Frag) (mg : Str → Option Value) (base : Heap) (A : Around) (outer : List Env) (s : Shared) (H : Hp) : Prop where
  frames : A.frames = some outer
  mod : Mod K mg base
  bs : ∀ b o, base.get? b = some o → s.heap.get? b = some o ∧ H b = none
  bsz : base.objs.size ≤ s.heap.objs.size
  funs : s.heap.FunFrames base outer
  frf : ∀ b ∈ frs outer, H b = none
  hok : HOk P w H s.heap
  bare : AllBare s.gens
def CE (outer : List Env) (P : Program) (w : World) (H : Hp) (s : Shared) (Q : VK) (u : Value) (s' : Shared) : Prop :=
  ∃ v H', s'.os = s.os ∧ AllBare s'.gens ∧ Un (frs outer) [] H H' s.heap s'.heap ∧ HOk P w H' s'.heap ∧ RelV v u ∧ Q v H'
def CR (CX : CXT) (outer : List Env) (P : Program) (w : World) (H : Hp) (s : Shared) (Q : VK) (E : XK) (r : Result) (s' : Shared) : Prop :=
  match r with
  | .ok (.ret u) => CE outer P w H s Q u s'
  | .ok _ => False
  | .error e => CX outer H s E e s'
structure FnOk (P : Program) (w : World) (K : PySem.W.Frag) (mg : Str → Option Value) (base : Heap) (CX : CXT) (k : Nat) (f : Addr) (fd : FuncData) (ps : List Str) (sp : Sp) : Prop where
  len : ∀ vs H Q E, sp vs H Q E → vs.length = ps.length
  run : ∀ (A : Around) (outer : List Env) (s : Shared) (H : Hp) (args : Args) (us : List Value) (vs : List V) (Q : VK) (E : XK), Room k A → Env0 P w K mg base A outer s H → BindsTo s fd args (ps.zip us) → Vals vs us → sp vs H Q E →
    codeAny (model P w) A (.call (.ref f) args) (CR CX outer P w H s Q E) s
theorem Env0.make {P : Program} {w : World} {K : PySem.W.Frag} {mg : Str → Option Value} {base : Heap} {A : Around} {outer : List Env} {s : Shared} {H : Hp} (e : Env0 P w K mg base A outer s H) (C : Addr) (us : List Value) (kw : List (Str × Value)) :
    Env0 P w K mg base (A.under (.builtin "type.__call__" ⟨.ref C :: us, kw⟩)) outer s H := ⟨by first | exact e.frames | (simpa [Around.under, Code.envs, Code.isFrame, pushEnvs] using e.frames), e.mod, e.bs, e.bsz, e.funs, e.frf, e.hok, e.bare⟩
theorem Env0.in1 {P : Program} {w : World} {K : PySem.W.Frag} {mg : Str → Option Value} {base : Heap} {A : Around} {outer : List Env} {s : Shared} {H : Hp} (e : Env0 P w K mg base A outer s H) :
    Env0 P w K mg base A.in1 outer s H := ⟨e.frames, e.mod, e.bs, e.bsz, e.funs, e.frf, e.hok, e.bare⟩
section
variable {X : Cx} {pins : List (Addr × Obj)} {σ : St} {H : Hp} {s s' : Shared}
theorem Inv.env0 (I : Inv X pins σ H s) : Env0 X.prog X.w X.K X.mg X.base X.A X.stack s H :=
  ⟨I.ok.frames, I.ok.mod, I.bs, Nat.le_trans I.ok.bsz I.sz, I.stack, I.stkFree, I.hok, I.bare⟩
theorem Inv.after {Q : VK} {u : Value} (I : Inv X pins σ H s) (h : CE X.stack X.prog X.w H s Q u s') : EP X pins σ Q u s' := by
  obtain ⟨v, H', os, bare, un, hok, r, q⟩ := h
  obtain ⟨hh, g, d, t, os'⟩ := s'
  obtain rfl : os' = s.os := os
  exact ⟨v, H', I.call (h' := hh) (g' := g) (d' := d) (t' := t) (ch := []) un hok bare (fun b z => absurd z (by simp)), r, q⟩
end
def tCall (sp : Sp) (dvs : List V) (E : XK) (t : TA) : TE := fun σ H Q => t σ H fun vs H1 => sp (vs ++ dvs) H1 Q E
def tMeth (C : Addr) (m : Str) (sp : Sp) (dvs : List V) (E : XK) (ta : TE) (t : TA) : TE := fun σ H Q => ta σ H fun x H1 => ∃ a dx fs, x = .ref a ∧ H1 a = some (.ins C dx fs) ∧ fs.lookup m = none ∧
  t σ H1 fun vs H2 => sp (x :: (vs ++ dvs)) H2 Q E
def tMake (C : Addr) (sp : Sp) (dvs : List V) (E : XK) (t : TA) : TE := fun σ H Q => t σ H fun vs H1 => ∀ x dx, H1 x = none → H1 dx = none → dx ≠ x →
  sp (.ref x :: (vs ++ dvs)) (upd (upd H1 dx (.own x)) x (.ins C dx [])) (fun v H2 => v = .non ∧ Q (.ref x) H2) E
def Binds (K : PySem.W.Frag) (fd : FuncData) (ps : List Str) (ds : List Value) : Prop :=
  ∀ (s : Shared) (us : List Value), K.In s.heap → (us ++ ds).length = ps.length → BindsTo s fd ⟨us, []⟩ (ps.zip (us ++ ds))
theorem Binds.all {K : PySem.W.Frag} {fd : FuncData} {ps : List Str} (h : ∀ us : List Value, us.length = ps.length → bindArgs fd ⟨us, []⟩ = pure (ps.zip us)) : Binds K fd ps [] := fun s us _ hl => by
  rw [List.append_nil] at hl ⊢
  exact .of_eq (h us hl)
def Passes (CX : CXT) (X : Cx) (E : XK) : Prop := ∀ (pins : List (Addr × Obj)) (σ : St) (H : Hp) (s : Shared) (e : Value) (s' : Shared), Inv X pins σ H s → CX X.stack H s E e s' → X.xe e s'
section
variable {X : Cx} {CX : CXT} {k : Nat} {f C : Addr} {fd : FuncData} {ps : List Str} {sp : Sp} {dvs : List V} {ds : List Value} {E : XK} {x m : Str} {p pos apos : Pos} {e o : Expr} {es : List Expr} {ta : TE} {t : TA}
theorem run_fn {pins : List (Addr × Obj)} {σ : St} {H : Hp} {s : Shared} {Q : VK} {us : List Value} {vs : List V} (F : FnOk X.prog X.w X.K X.mg X.base CX k f fd ps sp) (hr : Room k X.A) (hb : Binds X.K fd ps ds) (hd : Vals dvs ds) (hx : Passes CX X E)
    (I : Inv X pins σ H s) (r : Vals vs us) (h : sp (vs ++ dvs) H Q E) : wpAny (model X.prog X.w) X.A (call (.ref f) us) (EP X pins σ Q) X.xe s := by
  have r2 : Vals (vs ++ dvs) (us ++ ds) := r.append hd
  have hl : (us ++ ds).length = ps.length := by rw [← r2.length]; exact F.len _ _ _ _ h
  refine wpAny_call (codeAny_mono (F.run X.A X.stack s H ⟨us, []⟩ (us ++ ds) (vs ++ dvs) Q E hr I.env0 (hb s us I.kIn hl) r2 h) fun r s' hq => ?_)
  cases r with
  | error e => exact hx pins σ H s e s' I hq
  | ok fl =>
    cases fl with
    | ret u => exact I.after hq
    | next => exact False.elim hq
    | brk => exact False.elim hq
    | cont => exact False.elim hq
theorem pe_call (F : FnOk X.prog X.w X.K X.mg X.base CX k f fd ps sp) (hr : Room k X.A) (hg : Gl X x) (hm : X.mg x = some (.ref f)) (hk : PySem.W.keepIn X.K (.ref f) = true) (hb : Binds X.K fd ps ds) (hd : Vals dvs ds) (hx : Passes CX X E)
    (ha : PA X (e :: es) t) (hdb : (x == ("__debug__" : Str)) = false := by decide) (he : starEach (e :: es) X.env = (false, eval e X.env) :: starEach es X.env := by rfl) (hpl : (backTo pos (starEach es X.env)).any (·.1) = false := by rfl) :
    PE X (.Call (.Name x p) (e :: es) [] pos) (tCall sp dvs E t) := by
  intro pins s σ H Q I h
  refine wpAny_Call_Name_kw (ld_glob I hg hm ?_ hdb)
  refine PySem.W.callWith_K (h₀ := X.base) I.ok.mod.kin hk (thn (ha pos pins s σ H _ I h) fun us s1 ⟨vs, H1, I1, r, q⟩ => ⟨I1.kIn, ?_⟩) he hpl
  exact run_fn F hr hb hd hx I1 r q
theorem pe_meth {pl : Sem Bool} (he : PE X o ta) (c : Cls X.K C) (hm : Meth X.K C m f) (F : FnOk X.prog X.w X.K X.mg X.base CX k f fd ps sp) (hr : Room k X.A) (hb : Binds X.K fd ps ds) (hd : Vals dvs ds) (hx : Passes CX X E) (ha : PA X (e :: es) t)
    (hst : starEach (e :: es) X.env = (false, eval e X.env) :: starEach es X.env := by rfl) (hpl : (backTo pos (starEach es X.env)).any (·.1) = false := by rfl)
    (ht : eval (.Call (.Attribute o m apos) (e :: es) [] pos) X.env = (do
      let ov ← eval o X.env
      standAt apos.atName
      let (f, first) ← holding [ov] (getMethod ov m pl)
      callWith pos f first (backTo pos (starEach (e :: es) X.env)) (backToKw pos (keywordEach [] X.env))) := by rfl) :
    PE X (.Call (.Attribute o m apos) (e :: es) [] pos) (tMeth C m sp dvs E ta t) := by
  intro pins s σ H Q I h
  refine PySem.W.methodCall_KW (pl := pl) (thn (he pins s σ H _ I h) fun u s1 ⟨x, H1, I1, rx, a, dx, fs, ex, ea, l, q⟩ => ?_) ht
  subst ex
  obtain rfl : u = Value.ref a := rx
  refine getmeth_ok I1 ea c hm l ?_
  refine PySem.W.callWith_K (first := [.ref a]) (h₀ := X.base) I.ok.mod.kin hm.kp (thn (ha pos pins s1 σ H1 _ I1 q) fun us s2 ⟨vs, H2, I2, r, q2⟩ => ⟨I2.kIn, ?_⟩) hst hpl
  exact run_fn (us := .ref a :: us) (vs := .ref a :: vs) F hr hb hd hx I2 (.cons rfl r) q2
theorem pe_meth0 {pl : Sem Bool} (he : PE X o ta) (c : Cls X.K C) (hm : Meth X.K C m f) (F : FnOk X.prog X.w X.K X.mg X.base CX k f fd ps sp) (hr : Room k X.A) (hb : Binds X.K fd ps ds) (hd : Vals dvs ds) (hx : Passes CX X E)
    (ht : eval (.Call (.Attribute o m apos) [] [] pos) X.env = (do
      let ov ← eval o X.env
      standAt apos.atName
      let (f, first) ← holding [ov] (getMethod ov m pl)
      callWith pos f first (backTo pos (starEach [] X.env)) (backToKw pos (keywordEach [] X.env))) := by rfl) :
    PE X (.Call (.Attribute o m apos) [] [] pos) (tMeth C m sp dvs E ta tNil) := by
  intro pins s σ H Q I h
  refine PySem.W.methodCall_KW (pl := pl) (thn (he pins s σ H _ I h) fun u s1 ⟨x, H1, I1, rx, a, dx, fs, ex, ea, l, q⟩ => ?_) ht
  subst ex
  obtain rfl : u = Value.ref a := rx
  refine getmeth_ok I1 ea c hm l ?_
  exact PySem.W.callWith_K0 (first := [.ref a]) I1.kIn hm.kp (run_fn (us := [.ref a]) (vs := [.ref a]) F hr hb hd hx I1 (.cons rfl .nil) q)
structure Mk (K : PySem.W.Frag) (C f : Addr) : Prop where
  makes : PySem.W.makesIn K C = true
  init : PySem.W.findIn K (.ref C) "__init__" = some (some (.ref f))
  fn : PySem.W.isFn K (.ref f) = true
  kp : PySem.W.keepIn K (.ref C) = true
theorem run_make {pins : List (Addr × Obj)} {σ : St} {H : Hp} {s : Shared} {Q : VK} {us : List Value} {vs : List V} (M : Mk X.K C f) (F : FnOk X.prog X.w X.K X.mg X.base CX k f fd ps sp) (hr : Room (k + 1) X.A) (hb : Binds X.K fd ps ds) (hd : Vals dvs ds)
    (hx : Passes CX X E) (I : Inv X pins σ H s) (r : Vals vs us)
    (h : ∀ x dx, H x = none → H dx = none → dx ≠ x → sp (.ref x :: (vs ++ dvs)) (upd (upd H dx (.own x)) x (.ins C dx [])) (fun v H2 => v = .non ∧ Q (.ref x) H2) E) :
    wpAny (model X.prog X.w) X.A (call (.ref C) us) (EP X pins σ Q) X.xe s := by
  have hq := h (s.heap.objs.size + 1) s.heap.objs.size (I.hok.fresh (Nat.le_succ _)) (I.hok.fresh (Nat.le_refl _)) (Nat.ne_of_lt (Nat.lt_succ_self _))
  have I2 := Inv.made (C := C) I
  have r2 : Vals (V.ref (s.heap.objs.size + 1) :: (vs ++ dvs)) (Value.ref (s.heap.objs.size + 1) :: (us ++ ds)) := .cons rfl (r.append hd)
  have hl : (Value.ref (s.heap.objs.size + 1) :: us ++ ds).length = ps.length := by
    have e := r2.length
    rw [F.len _ _ _ _ hq] at e
    exact e.symm
  refine wpAny_call (make_map (f := f) I.kIn M.makes M.init (beq_iff_eq.mp M.fn) (codeAny_mono (F.run _ X.stack _ _ ⟨Value.ref (s.heap.objs.size + 1) :: us, []⟩ (Value.ref (s.heap.objs.size + 1) :: (us ++ ds)) _ _ E (hr.make C us [])
    (I2.env0.make C us []) (hb _ (Value.ref (s.heap.objs.size + 1) :: us) I2.kIn hl) r2 hq) fun r s' hq' => ?_))
  cases r with
  | error e => exact hx pins σ _ _ e s' I2 hq'
  | ok fl =>
    cases fl with
    | ret u =>
      obtain ⟨v, H', I3, rv, ev, q3⟩ := I2.after hq'
      subst ev
      exact ⟨rv, ⟨V.ref (s.heap.objs.size + 1), H', I3, rfl, q3⟩⟩
    | next => exact False.elim hq'
    | brk => exact False.elim hq'
    | cont => exact False.elim hq'
theorem pe_make (M : Mk X.K C f) (F : FnOk X.prog X.w X.K X.mg X.base CX k f fd ps sp) (hr : Room (k + 1) X.A) (hg : Gl X x) (hm : X.mg x = some (.ref C)) (hb : Binds X.K fd ps ds) (hd : Vals dvs ds) (hx : Passes CX X E)
    (ha : PA X (e :: es) t) (hdb : (x == ("__debug__" : Str)) = false := by decide) (he : starEach (e :: es) X.env = (false, eval e X.env) :: starEach es X.env := by rfl) (hpl : (backTo pos (starEach es X.env)).any (·.1) = false := by rfl) :
    PE X (.Call (.Name x p) (e :: es) [] pos) (tMake C sp dvs E t) := by
  intro pins s σ H Q I h
  refine wpAny_Call_Name_kw (ld_glob I hg hm ?_ hdb)
  refine PySem.W.callWith_K (h₀ := X.base) I.ok.mod.kin M.kp (thn (ha pos pins s σ H _ I h) fun us s1 ⟨vs, H1, I1, r, q⟩ => ⟨I1.kIn, ?_⟩) he hpl
  exact run_make M F hr hb hd hx I1 r q
theorem pe_make0 (M : Mk X.K C f) (F : FnOk X.prog X.w X.K X.mg X.base CX k f fd ps sp) (hr : Room (k + 1) X.A) (hg : Gl X x) (hm : X.mg x = some (.ref C)) (hb : Binds X.K fd ps ds) (hd : Vals dvs ds) (hx : Passes CX X E)
    (hdb : (x == ("__debug__" : Str)) = false := by decide) : PE X (.Call (.Name x p) [] [] pos) (tMake C sp dvs E tNil) := by
  intro pins s σ H Q I h
  refine wpAny_Call_Name_kw (ld_glob I hg hm ?_ hdb)
  exact PySem.W.callWith_K0 I.kIn M.kp (run_make (us := []) M F hr hb hd hx I .nil h)
end
def PK (X : Cx) (kws : List Keyword) (t : TA) : Prop :=
  ∀ (pos : Pos) (pins : List (Addr × Obj)) (s : Shared) (σ : St) (H : Hp) (Q : List V → Hp → Prop), Inv X pins σ H s → t σ H Q → wpAny (model X.prog X.w) X.A (evalAll ((backToKw pos (keywordEach kws X.env)).map (·.2))) (AP X pins σ Q) X.xe s
section
variable {X : Cx} {CX : CXT} {k : Nat} {f C : Addr} {fd : FuncData} {ps ks : List Str} {sp : Sp} {E : XK} {x m : Str} {p pos apos kpos : Pos} {e o : Expr} {es : List Expr} {kws : List Keyword} {te ta : TE} {t tk : TA} {nm : Option Str}
theorem pk_nil : PK X [] tNil := fun _ _ _ _ H Q I h => wpAny_evalAll_nil ⟨[], H, I, .nil, h⟩
theorem pk_cons (ha : PE X e te) (hr : PK X kws t) : PK X (⟨nm, e, kpos⟩ :: kws) (tCons te t) := by
  intro pos pins s σ H Q I h
  show wpAny _ _ (evalAll ((do let v ← eval e X.env; standAt pos; pure v) :: (backToKw pos (keywordEach kws X.env)).map (·.2))) _ _ s
  refine wpAny_evalAll_cons (wpAny_bind (thn (ha pins s σ H _ I h) fun u s1 ⟨x, H1, I1, r1, q1⟩ => wpAny_bind (wpAny_standAt (wpAny_pure ?_))))
  exact thn (hr pos pins s1 σ H1 _ I1 q1) fun us s2 ⟨xs, H2, I2, r2, q2⟩ => ⟨x :: xs, H2, I2, .cons r1 r2, q2⟩
structure KBinds (K : PySem.W.Frag) (fd : FuncData) (ps ks : List Str) (g : List Value → List Value → List Value) (gV : List V → List V → List V) : Prop where
  to : ∀ (s : Shared) (us ws : List Value), K.In s.heap → (g us ws).length = ps.length → BindsTo s fd ⟨us, ks.zip ws⟩ (ps.zip (g us ws))
  rel : ∀ {vs : List V} {us : List Value} {zs : List V} {ws : List Value}, Vals vs us → Vals zs ws → Vals (gV vs zs) (g us ws)
variable {g : List Value → List Value → List Value} {gV : List V → List V → List V}
end
structure FnScope (N P : List Str) (sc : Scope) : Prop where
  kind : sc.kind = .function
  co : sc.isCoroutine = false
  gen : sc.isGenerator = false
  nd : N.Nodup
  pre : N.take P.length = P
  par : ∀ x ∈ P, sc.names.lookup x = some .local ∨ sc.names.lookup x = some .cell
  nofree : ∀ y ∈ sc.names, y.2 ≠ .free
theorem bindL_out {kindOf : Str → Option NameKind} {x : Str} : ∀ {binds : List (Str × Value)} {m : Str → Option Value}, (∀ v, (x, v) ∉ binds) → bindL kindOf binds m x = m x
  | [], _, _ => rfl
  | (n, v) :: r, m, h => by
    unfold bindL
    rw [bindL_out fun w hw => h w (List.mem_cons_of_mem _ hw)]
    split
    · have : x ≠ n := by rintro rfl; exact h v List.mem_cons_self
      simp [this]
    · rfl
theorem bindC_out {kindOf : Str → Option NameKind} {x : Str} : ∀ {binds : List (Str × Value)} {m : Str → Option Value}, (∀ v, (x, v) ∉ binds) → bindC kindOf binds m x = m x
  | [], _, _ => rfl
  | (n, v) :: r, m, h => by
    unfold bindC
    rw [bindC_out fun w hw => h w (List.mem_cons_of_mem _ hw)]
    split
    · rfl
    · have : x ≠ n := by rintro rfl; exact h v List.mem_cons_self
      simp [this]
theorem bindL_get {kindOf : Str → Option NameKind} {x : Str} {v : Value} : ∀ {P : List Str} {vs : List Value} {i : Nat} {m : Str → Option Value}, P.Nodup → P[i]? = some x → vs[i]? = some v → kindOf x = some .local →
    bindL kindOf (P.zip vs) m x = some v
  | [], _, _, _, _, h, _, _ => by simp at h
  | _ :: _, [], _, _, _, _, h, _ => by simp at h
  | p :: P, w :: vs, 0, m, nd, h1, h2, hk => by
    simp at h1 h2; subst h1; subst h2
    show bindL kindOf ((p, w) :: P.zip vs) m p = _
    unfold bindL
    rw [bindL_out fun v hv => (List.nodup_cons.mp nd).1 (List.of_mem_zip hv).1, if_pos hk]
    simp
  | p :: P, w :: vs, i + 1, m, nd, h1, h2, hk => by
    show bindL kindOf ((p, w) :: P.zip vs) m x = _
    unfold bindL
    exact bindL_get (i := i) (List.nodup_cons.mp nd).2 (by simpa using h1) (by simpa using h2) hk
theorem bindC_get {kindOf : Str → Option NameKind} {x : Str} {v : Value} : ∀ {P : List Str} {vs : List Value} {i : Nat} {m : Str → Option Value}, P.Nodup → P[i]? = some x → vs[i]? = some v → kindOf x ≠ some .local →
    bindC kindOf (P.zip vs) m x = some v
  | [], _, _, _, _, h, _, _ => by simp at h
  | _ :: _, [], _, _, _, _, h, _ => by simp at h
  | p :: P, w :: vs, 0, m, nd, h1, h2, hk => by
    simp at h1 h2; subst h1; subst h2
    show bindC kindOf ((p, w) :: P.zip vs) m p = _
    unfold bindC
    rw [bindC_out fun v hv => (List.nodup_cons.mp nd).1 (List.of_mem_zip hv).1, if_neg hk]
    simp
  | p :: P, w :: vs, i + 1, m, nd, h1, h2, hk => by
    show bindC kindOf ((p, w) :: P.zip vs) m x = _
    unfold bindC
    exact bindC_get (i := i) (List.nodup_cons.mp nd).2 (by simpa using h1) (by simpa using h2) hk
def start (N : List Str) (vs : List V) : St := vs.map some ++ List.replicate (N.length - vs.length) none
def cxOf (CX : CXT) (P : Program) (w : World) (K : PySem.W.Frag) (mg : Str → Option Value) (base : Heap) (N : List Str) (qual : Str) (scope : Scope) (f : Addr) (cd : Value) (A : Around) (outer : List Env) (s : Shared) (H : Hp) (E : XK) : Cx where
  prog := P
  w := w
  K := K
  mg := mg
  base := base
  A := A.deeper (envOfC qual scope s.heap.objs.size f cd)
  N := N
  s₀ := s
  H₀ := H
  env := envOfC qual scope s.heap.objs.size f cd
  outer := outer
  stack := envOfC qual scope s.heap.objs.size f cd :: outer
  ex := []
  calm := true
  fn := fun _ => true
  pn := []
  xe := fun e s' => wpAny (model P w) (A.deeper (envOfC qual scope s.heap.objs.size f cd)) (leaving (envOfC qual scope s.heap.objs.size f cd) e) (fun _ s'' => CX outer H s E e s'') (fun e' s'' => CX outer H s E e' s'') s'
theorem cell_has {sc : Scope} {n : Nat} {x : Str} (h : sc.names.lookup x = some .cell) : ∃ c, (cellsFrom n sc.names []).lookup x = some c := by
  have q := PySem.W.cellsFrom_some sc.names n [] (.inl h)
  exact Option.isSome_iff_exists.mp q
theorem inv_start {CX : CXT} {P : Program} {w : World} {K : PySem.W.Frag} {mg : Str → Option Value} {base : Heap} {N ps : List Str} {qual : Str} {scope : Scope} {f : Addr} {cd : Value} {A : Around} {outer : List Env} {s s1 : Shared} {H : Hp} {E : XK} {us : List Value} {vs : List V}
    (S : FnScope N ps scope) (hd : A.handled = none) (e0 : Env0 P w K mg base A outer s H) (hl : vs.length = ps.length) (r : Vals vs us)
    (x : InCallC s s.heap.objs.size (bindL (envOfC qual scope s.heap.objs.size f cd).kindOf (ps.zip us) fun _ => none) (cellsFrom (s.heap.objs.size + 1) scope.names []) (bindC (envOfC qual scope s.heap.objs.size f cd).kindOf (ps.zip us) fun _ => none) s1) :
    Inv (cxOf CX P w K mg base N qual scope f cd A outer s H E) [] (start N vs) H s1 := by
  have hpl : ps.length ≤ N.length := by have := congrArg List.length S.pre; rw [List.length_take] at this; omega
  obtain ⟨h1, tk, rfl, hk⟩ := x.done
  have noA : ∀ b : Addr, b ∉ (cxOf CX P w K mg base N qual scope f cd A outer s H E).ex := fun b z => absurd (show b ∈ ([] : List Addr) from z) (by simp)
  refine ⟨⟨e0.mod, S.kind, rfl, rfl, Nat.le_refl _, fun y z c h1 h2 => ?_, fun y hy => ?_, fun y c _ h => ?_, fun _ => hd, Around.frames_deeper e0.frames, .inr ⟨rfl, rfl⟩, fun b z => absurd z (noA b), e0.bs, e0.bsz, fun b _ _ => noA b, fun b z => absurd z (noA b), e0.funs, e0.frf⟩,
    rfl, e0.bare, Un.kept hk, ⟨_, x.toInCall.ns, fun i y v h1 h2 h3 => ?_⟩, fun y c h => ⟨_, x.cell y c h⟩, e0.hok.fresh (Nat.le_refl _), fun y c h => ?_, fun p hp => absurd (show p ∈ ([] : List (Addr × Obj)) from hp) (by simp), e0.hok.kept hk, ?_⟩
  · exact name_of_addr x.apart (PySem.mem_of_lookup h1) (PySem.mem_of_lookup h2)
  · have hy : scope.names.lookup y = some .cell ∨ scope.names.lookup y = some .free := hy
    rcases hy with hy | hy
    · exact cell_has hy
    · exact absurd rfl (S.nofree _ (PySem.mem_of_lookup hy))
  · exact Nat.le_of_lt (x.above y c (PySem.mem_of_lookup h))
  · have hi : i < vs.length := by
      unfold start at h2
      by_cases hi : i < vs.length
      · exact hi
      · rw [List.getElem?_append_right (by simpa using hi)] at h2
        rw [List.getElem?_replicate] at h2
        split at h2 <;> cases h2
    have ha : vs[i]? = some v := by
      unfold start at h2
      rw [List.getElem?_append_left (by simpa using hi), List.getElem?_map] at h2
      cases e : vs[i]? with
      | none => rw [e] at h2; cases h2
      | some a => rw [e] at h2; cases h2; rfl
    obtain ⟨u, hu, rv⟩ := r.get ha
    have hp : ps[i]? = some y := by
      rw [← S.pre, List.getElem?_take_of_lt (by omega)]; exact h1
    have ndP : ps.Nodup := by rw [← S.pre]; exact S.nd.sublist (List.take_sublist _ _)
    refine ⟨u, rv, ?_⟩
    rcases S.par y (List.mem_of_getElem? hp) with k | k
    · exact .inl ⟨k, bindL_get ndP hp hu k⟩
    · obtain ⟨c, e⟩ := cell_has (n := s.heap.objs.size + 1) k
      refine .inr ⟨.inl k, c, e, ?_⟩
      have q := x.cell y c e
      rw [bindC_get ndP hp hu (by show scope.names.lookup y ≠ _; rw [k]; decide)] at q
      exact q
  · exact e0.hok.fresh (Nat.le_of_lt (x.above y c (PySem.mem_of_lookup h)))
  · unfold start
    show _ = N.length
    rw [List.length_append, List.length_map, List.length_replicate]
    omega
theorem fn_of {CX : CXT} {P : Program} {w : World} {K : PySem.W.Frag} {mg : Str → Option Value} {base : Heap} {k : Nat} {f : Addr} {name qual : Str} {params : Arguments} {body : List Stmt} {scope : Scope} {dV kV doc pm cdv ct oc : Value} {an od : Option Addr}
    {osl : Array (Option Value)} {N ps : List Str} {sp : Sp} (lk : K.lookup f = some ⟨oc, od, .func (PySem.W.fnOf name qual params body scope dV kV doc pm an cdv ct), osl⟩) (hcd : PySem.W.codeIn K cdv qual = true) (S : FnScope N ps scope)
    (len : ∀ vs H Q E, sp vs H Q E → vs.length = ps.length)
    (hbody : ∀ (A : Around) (outer : List Env) (s : Shared) (H : Hp) (vs : List V) (Q : VK) (E : XK), Room k (A.deeper (envOfC qual scope s.heap.objs.size f cdv)) → sp vs H Q E →
      ∃ t, PSs (cxOf CX P w K mg base N qual scope f cdv A outer s H E) body t ∧ t { nx := fun _ H' => Q .non H', rt := Q } (start N vs) H) :
    FnOk P w K mg base CX (k + 1) f (PySem.W.fnOf name qual params body scope dV kV doc pm an cdv ct) ps sp := by
  refine ⟨len, fun A outer s H args us vs Q E hr e0 hb r hsp => ?_⟩
  have hl := len _ _ _ _ hsp
  have KX : K.In s.heap := e0.mod.kin.keeps fun b o e => (e0.bs b o e).1
  have lim : s.heap.NoLimit := e0.mod.nolimit.keeps fun b o e => (e0.bs b o e).1
  have hkind : ∀ y ∈ ps.zip us, scope.names.lookup y.1 = some .local ∨ (scope.names.lookup y.1 = some .cell ∧ ((cellsFrom (s.heap.objs.size + 1) scope.names []).lookup y.1).isSome = true) := fun ⟨n, v⟩ hy => by
    rcases S.par n (List.of_mem_zip hy).1 with q | q
    · exact .inl q
    · exact .inr ⟨q, PySem.W.cellsFrom_some _ _ _ (.inl q)⟩
  refine codeAny_call_function hr.depth (KX _ _ lk) rfl S.co S.gen rfl (PySem.W.codeRec_of KX hcd) (hb _ _ _ _ ?_)
  refine wpAny_newFunctionEnv_cells S.kind hkind fun env he s1 x => ?_
  subst he
  refine ⟨lim.keeps x.toInCall.keep, codeAny_func ?_⟩
  obtain ⟨t, ht, hq⟩ := hbody A outer s H vs Q E (hr.deeper _) hsp
  have I : Inv (cxOf CX P w K mg base N qual scope f cdv A outer s H E) [] (start N vs) H s1 := inv_start S hr.hd e0 hl r x
  refine wpAny_mono (ht [] s1 (start N vs) H _ I hq) (fun fl s' hs => ?_) fun e s' hs => hs
  have fin : ∀ {σ' : St} {H' : Hp} {v : V} {u : Value}, Inv (cxOf CX P w K mg base N qual scope f cdv A outer s H E) [] σ' H' s' → RelV v u → Q v H' → CE outer P w H s Q u s' :=
    fun {σ' H' v u} J rv q => ⟨v, H', J.os, J.bare, J.base, J.hok, rv, q⟩
  cases fl with
  | ret u =>
    obtain ⟨v, σ', H', J, rv, q⟩ := hs
    exact fin J rv q
  | next =>
    obtain ⟨σ', H', J, q⟩ := hs
    exact fin (v := V.non) (u := Value.none) J rfl q
  | brk =>
    obtain ⟨_, _, _, q⟩ := hs
    exact False.elim q
  | cont =>
    obtain ⟨_, _, _, q⟩ := hs
    exact False.elim q
end L2
namespace L2
open PySem PySem.Spec PyProof.Rows
section
variable {X : Cx} {x : Str} {p pos : Pos} {e : Expr} {es : List Expr} {t : TA} {id T : String} {r : List V → Hp → VK → Prop}
def tCB (r : List V → Hp → VK → Prop) (t : TA) : TE := fun σ H Q => t σ H fun vs H1 => r vs H1 Q
theorem pe_callB (hc : CallR X (.builtin id) r) (hg : Gl X x) (hm : X.mg x = none) (hv : bootBuiltins x = some (.builtin id)) (ha : PA X (e :: es) t) (hn : x ≠ "__name__" := by decide) (hdb : (x == ("__debug__" : Str)) = false := by decide)
    (he : starEach (e :: es) X.env = (false, eval e X.env) :: starEach es X.env := by rfl) (hpl : (backTo pos (starEach es X.env)).any (·.1) = false := by rfl) : PE X (.Call (.Name x p) (e :: es) [] pos) (tCB r t) := by
  intro pins s σ H Q I h
  refine wpAny_Call_Name_kw (ld_blt I hg hm hv ?_ hn hdb)
  exact PyProof.Rows.callWith_builtin1 (thn (ha pos pins s σ H _ I h) fun us s1 ⟨vs, H1, I1, r1, q1⟩ => hc pins s1 σ H1 vs us Q I1 r1 q1) he hpl
theorem pe_callTy (hc : CallR X (.type T) r) (hg : Gl X x) (hm : X.mg x = none) (hv : bootBuiltins x = some (.type T)) (ha : PA X (e :: es) t) (hn : x ≠ "__name__" := by decide) (hdb : (x == ("__debug__" : Str)) = false := by decide)
    (he : starEach (e :: es) X.env = (false, eval e X.env) :: starEach es X.env := by rfl) (hpl : (backTo pos (starEach es X.env)).any (·.1) = false := by rfl) : PE X (.Call (.Name x p) (e :: es) [] pos) (tCB r t) := by
  intro pins s σ H Q I h
  refine wpAny_Call_Name_kw (ld_blt I hg hm hv ?_ hn hdb)
  exact PyProof.Rows.callWith_type1 (thn (ha pos pins s σ H _ I h) fun us s1 ⟨vs, H1, I1, r1, q1⟩ => hc pins s1 σ H1 vs us Q I1 r1 q1) he hpl
end
end L2
namespace HT
open PySem PyProof.Rows
section
open PySem.SeqAt
open PySem.AutoSeq1 (wpAny_loadPart')
open PySem.MeetsSeq PySem.MeetsSeq2 PySem.MeetsSeq3
end
section
variable {prog : Program} {w : World} {A : Around} {E : Value → Shared → Prop} {s : Shared}
def sIx (n d : Nat) : Option Int → Nat
  | none => d
  | some v => if v < 0 then (v + (n : Int)).toNat else min v.toNat n
theorem sIx_none (n d : Nat) : sIx n d none = d := rfl
theorem sIx_nat (n d k : Nat) : sIx n d (some (k : Int)) = min k n := by
  show (if (k : Int) < 0 then ((k : Int) + (n : Int)).toNat else min (k : Int).toNat n) = min k n
  rw [if_neg (by omega), Int.toNat_natCast]
end
end HT
namespace L2
open PySem PySem.Spec PyProof.Rows
abbrev TO := St → Hp → (Option Int → Hp → Prop) → Prop
def PO (X : Cx) (e : Option Expr) (t : TO) : Prop :=
  ∀ (pins : List (Addr × Obj)) (s : Shared) (σ : St) (H : Hp) (Q : Option Int → Hp → Prop), Inv X pins σ H s → t σ H Q →
    wpAny (model X.prog X.w) X.A (evalPart e X.env) (fun u s' => ∃ o H', Inv X pins σ H' s' ∧ IsPart u o ∧ Q o H') X.xe s
def tNoPart : TO := fun _ H Q => Q none H
def tPart (t : TE) : TO := fun σ H Q => t σ H fun x H1 => ∃ i, x = .int i ∧ Q (some i) H1
section
variable {X : Cx} {e : Expr} {te : TE} {lo hi : Option Expr} {tl th : TO} {pos p2 : Pos}
theorem po_none : PO X none tNoPart := by
  intro pins s σ H Q I h
  rw [evalPart_none]
  exact wpAny_pure ⟨none, H, I, .none, h⟩
theorem po_some (h : PE X e te) : PO X (some e) (tPart te) := by
  intro pins s σ H Q I hw
  rw [evalPart_some]
  refine thn (h pins s σ H _ I hw) fun u s1 ⟨x, H1, I1, r1, q1⟩ => ?_
  obtain ⟨i, rfl, q⟩ := q1
  obtain ⟨t, rfl⟩ := r1
  exact ⟨some i, H1, I1, .int i t, q⟩
def SlR (X : Cx) (r : V → Option Int → Option Int → Hp → VK → Prop) : Prop :=
  ∀ (pins : List (Addr × Obj)) (s : Shared) (σ : St) (H : Hp) (x : V) (v vl vu : Value) (lo hi : Option Int) (sl : Addr) (Q : VK), Inv X pins σ H s → RelV x v → s.heap.IsSliceOf sl vl vu .none → IsPart vl lo → IsPart vu hi → r x lo hi H Q →
    ∃ T id, typeLookup (.type T) "__getitem__" = pure (some (.builtin id)) ∧ s.TypeIs v T ∧ wpAny (model X.prog X.w) X.A (getItem v (.ref sl)) (EP X pins σ Q) X.xe s
def tSl (r : V → Option Int → Option Int → Hp → VK → Prop) (te : TE) (tl th : TO) : TE := fun σ H Q => te σ H fun x H1 => tl σ H1 fun l H2 => th σ H2 fun u H3 => r x l u H3 Q
theorem pe_slice {r : V → Option Int → Option Int → Hp → VK → Prop} (hr : SlR X r) (he : PE X e te) (hl : PO X lo tl) (hu : PO X hi th) : PE X (.Subscript e (.Slice lo hi none p2) pos) (tSl r te tl th) := by
  intro pins s σ H Q I h
  refine Subscript_ (thn (he pins s σ H _ I h) fun v s1 ⟨x, H1, I1, r1, q1⟩ => ?_)
  refine wpAny_Slice (thn (hl pins s1 σ H1 _ I1 q1) fun vl s2 ⟨l, H2, I2, pl, q2⟩ => thn (hu pins s2 σ H2 _ I2 q2) fun vu s3 ⟨u, H3, I3, pu, q3⟩ => ?_)
  rw [evalPart_none]
  refine wpAny_pure ?_
  have I4 : Inv X pins σ H3 { s3 with heap := s3.heap.push { cls := .type "slice", data := .fields #[vl, vu, .none] } } := I3.kept (t' := s3.toks) fun b ob q => Heap.get?_push_of_some _ q
  obtain ⟨T, id, hT, ht, hg⟩ := hr pins { s3 with heap := s3.heap.push { cls := .type "slice", data := .fields #[vl, vu, .none] } } σ H3 x v vl vu l u s3.heap.objs.size Q I4 r1 (Heap.IsSliceOf.new ..) pl pu q3
  show wpAny (model X.prog X.w) X.A (subscriptTail e (.Slice lo hi none p2) v (.ref s3.heap.objs.size)) (EP X pins σ Q) X.xe { s3 with heap := s3.heap.push { cls := .type "slice", data := .fields #[vl, vu, .none] } }
  exact tail_any (ops := [.ref s3.heap.objs.size, v]) ht hT hg (by with_unfolding_all rfl)
def cutV (xs : List V) (lo hi : Option Int) : List V := (xs.drop (HT.sIx xs.length 0 lo)).take (HT.sIx xs.length xs.length hi - HT.sIx xs.length 0 lo)
theorem cutV_length (xs : List V) (lo hi : Option Int) : (cutV xs lo hi).length ≤ xs.length := by
  unfold cutV
  rw [List.length_take, List.length_drop]
  omega
end
end L2
namespace L2
open PySem PySem.Spec PyProof.Rows
def ixN (n : Nat) (i : Int) : Option Nat := if 0 ≤ i then (if i < n then some i.toNat else none) else if -(n : Int) ≤ i then some (i + n).toNat else none
def atI {α : Type} (xs : List α) (i : Int) : Option α := (ixN xs.length i).bind fun j => xs[j]?
theorem ixN_seq {n : Nat} {i : Int} {j : Nat} (h : ixN n i = some j) : seqIndex? i n = some j ∧ j < n ∧ -(n : Int) ≤ i ∧ i < n := by
  unfold ixN at h
  by_cases h0 : 0 ≤ i
  · rw [if_pos h0] at h
    by_cases h1 : i < n
    · rw [if_pos h1] at h
      have e : i.toNat = j := Option.some.inj h
      exact ⟨by rw [seqIndex_of h0 h1, e], by omega, by omega, h1⟩
    · rw [if_neg h1] at h; cases h
  · rw [if_neg h0] at h
    by_cases h1 : -(n : Int) ≤ i
    · rw [if_pos h1] at h
      have e : (i + n).toNat = j := Option.some.inj h
      exact ⟨by rw [seqIndex_neg (by omega) h1, e], by omega, h1, by omega⟩
    · rw [if_neg h1] at h; cases h
theorem atI_get {α : Type} {xs : List α} {i : Int} {v : α} (h : atI xs i = some v) : ∃ j, seqIndex? i xs.length = some j ∧ xs[j]? = some v ∧ j < xs.length ∧ -(xs.length : Int) ≤ i ∧ i < xs.length := by
  unfold atI at h
  cases e : ixN xs.length i with
  | none => rw [e] at h; cases h
  | some j =>
    rw [e] at h
    obtain ⟨h1, h2, h3, h4⟩ := ixN_seq e
    exact ⟨j, h1, h, h2, h3, h4⟩
theorem atI_nat {α : Type} {xs : List α} {j : Nat} {v : α} (h : xs[j]? = some v) : atI xs (j : Int) = some v := by
  have hj : j < xs.length := (List.getElem?_eq_some_iff.mp h).1
  have e : ixN xs.length (j : Int) = some j := by
    unfold ixN
    rw [if_pos (by omega), if_pos (by omega)]; simp
  unfold atI; rw [e]; exact h
def PlainIx (b : Expr) : Prop := ∀ o i, subscripted b false o i = operate [o, i] (getItem o i)
def IxR (X : Cx) (r : R2) : Prop :=
  ∀ (value slice : Expr) (pins : List (Addr × Obj)) (s : Shared) (σ : St) (H : Hp) (x y : V) (v u : Value) (Q : VK), Inv X pins σ H s → RelV x v → RelV y u → r x y H Q →
    subscripted slice false v u = operate [v, u] (getItem v u) → wpAny (model X.prog X.w) X.A (subscriptTail value slice v u) (EP X pins σ Q) X.xe s
def MtR (X : Cx) (id : String) (r : V → List V → Hp → VK → Prop) : Prop :=
  ∀ (pins : List (Addr × Obj)) (s : Shared) (σ : St) (H : Hp) (x : V) (xs : List V) (v : Value) (us : List Value) (Q : VK), Inv X pins σ H s → RelV x v → Vals xs us → r x xs H Q →
    wpAny (model X.prog X.w) X.A (call (.builtin id) (v :: us)) (EP X pins σ Q) X.xe s
section
variable {X : Cx} {a b : Expr} {ta tb : TE} {pos : Pos}
theorem pe_ix {r : R2} (hr : IxR X r) (ha : PE X a ta) (hb : PE X b tb) (hs : PlainIx b) : PE X (.Subscript a b pos) (tOp r ta tb) := by
  intro pins s σ H Q I h
  exact Subscript_ (binT ha hb I h fun v u s2 x y H2 I2 rx ry q => hr a b pins s2 σ H2 x y v u Q I2 rx ry q (hs _ _))
def rIxL (K : PySem.W.Frag) : R2 := fun x y H Q => ∃ p xs i v, x = .ref p ∧ y = .int i ∧ SqL K H p xs ∧ atI xs i = some v ∧ Q v H
def rIxT (K : PySem.W.Frag) : R2 := fun x y H Q => ∃ p xs i v, x = .ref p ∧ y = .int i ∧ SqT K H p xs ∧ atI xs i = some v ∧ Q v H
def rIxS : R2 := fun x y H Q => ∃ z i c, x = .str z ∧ y = .int i ∧ z.length ≤ sizeLine ∧ atI z.cps.toList i = some c ∧ Q (.str ⟨#[c]⟩) H
theorem ix_list : IxR X (rIxL X.K) := by
  intro value slice pins s σ H x y v u Q I rx ry h hs
  obtain ⟨p, xs, i, z, rfl, rfl, hq, he, q⟩ := h
  cases rx
  obtain ⟨t, rfl⟩ := ry
  obtain ⟨its, r, pl, hz⟩ := I.list hq
  obtain ⟨j, h1, h2, h3, h4, h5⟩ := atI_get he
  obtain ⟨w, ew, rw'⟩ := r.get h2
  have hl := r.length
  have hn := line63
  have fin : EP X pins σ Q w s := ⟨z, H, I, rw', q⟩
  by_cases h0 : 0 ≤ i
  · have hj : i.toNat = j := by
      rw [seqIndex_of h0 h5] at h1
      exact Option.some.inj h1
    exact item_listR pl.isList h0 (by omega) (by rw [hj]; simpa using ew) fin hs
  · have hj : (i + (its.toArray.size : Int)).toNat = j := by
      rw [seqIndex_neg (by omega) h4] at h1
      rw [List.size_toArray, ← hl]
      exact Option.some.inj h1
    exact subscriptTail_builtinR (x := w) pl.isList.typeIs slot_list_getitem.lookup
      (wpAny_getItem_list_neg (Q := fun r s' => r = w ∧ EP X pins σ Q r s') pl.isList (by omega) (by rw [List.size_toArray] <;> omega) (by omega) (by rw [hj]; simpa using ew) ⟨rfl, fin⟩) hs
theorem ix_tup : IxR X (rIxT X.K) := by
  intro value slice pins s σ H x y v u Q I rx ry h hs
  obtain ⟨p, xs, i, z, rfl, rfl, hq, he, q⟩ := h
  cases rx
  obtain ⟨t, rfl⟩ := ry
  obtain ⟨its, r, pl, hz⟩ := I.tuple hq
  obtain ⟨j, h1, h2, h3, h4, h5⟩ := atI_get he
  obtain ⟨w, ew, rw'⟩ := r.get h2
  have hl := r.length
  have hn := line63
  have fin : EP X pins σ Q w s := ⟨z, H, I, rw', q⟩
  exact subscriptTail_builtinR (x := w) pl.typeIs slot_tuple_getitem.lookup
    (getItem_tuple (j := j) (Q := fun r s' => r = w ∧ EP X pins σ Q r s') pl (by omega) (by omega) (by rw [List.size_toArray, ← hl]; exact h1) (by simpa using ew) ⟨rfl, fin⟩) hs
theorem ix_str : IxR X rIxS := by
  intro value slice pins s σ H x y v u Q I rx ry h hs
  obtain ⟨z, i, c, rfl, rfl, hz, he, q⟩ := h
  obtain ⟨t, rfl⟩ := rx
  obtain ⟨t', rfl⟩ := ry
  obtain ⟨j, h1, h2, h3, h4, h5⟩ := atI_get he
  have hl : z.cps.toList.length = z.length := by simp [Str.length]
  rw [hl] at h1 h4 h5
  have hn := line63
  exact tail_any (typeIs_str s z t) slot_str_getitem.lookup (getItem_str (c := c) (by
    have e1 : decide (i < -(2 ^ 63 : Int)) = false := decide_eq_false (by omega)
    have e2 : decide (i ≥ 2 ^ 63) = false := decide_eq_false (by omega)
    rw [e1, e2, Bool.or_false]) (by rw [h1]; simpa using h2) ⟨.str ⟨#[c]⟩, H, I.tok _, ⟨_, rfl⟩, q⟩) hs
theorem slice_bounds (lo hi : Option Int) (n : Nat) : (sliceBounds lo hi none n).1 = ((HT.sIx n 0 lo : Nat) : Int) ∧ (sliceBounds lo hi none n).2.1 = ((HT.sIx n n hi : Nat) : Int) ∧ (sliceBounds lo hi none n).2.2 = 1 := by
  refine ⟨?_, ?_, rfl⟩
  · cases lo with
    | none => simp [sliceBounds, HT.sIx]
    | some i =>
      simp only [sliceBounds, HT.sIx, Option.getD_none, show (1 : Int) > 0 by decide, if_true]
      by_cases h : i < 0
      · simp only [h, if_true] <;> omega
      · simp only [h, if_false] <;> omega
  · cases hi with
    | none => simp [sliceBounds, HT.sIx]
    | some i =>
      simp only [sliceBounds, HT.sIx, Option.getD_none, show (1 : Int) > 0 by decide, if_true]
      by_cases h : i < 0
      · simp only [h, if_true] <;> omega
      · simp only [h, if_false] <;> omega
theorem slicePick_cut (its : List Value) (lo hi : Option Int) : slicePick its.toArray lo hi none = ((its.drop (HT.sIx its.length 0 lo)).take (HT.sIx its.length its.length hi - HT.sIx its.length 0 lo)).toArray := by
  obtain ⟨h1, h2, h3⟩ := slice_bounds lo hi its.toArray.size
  unfold slicePick
  rw [h1, h2, h3]
  simp only [sliceRange_one, pick_run, List.size_toArray] <;> rfl
def rSlL (K : PySem.W.Frag) : V → Option Int → Option Int → Hp → VK → Prop := fun x lo hi H Q => ∃ a xs, x = .ref a ∧ SqL K H a xs ∧ ∀ p, H p = none → Q (.ref p) (upd H p (.lst (cutV xs lo hi)))
theorem sl_list : SlR X (rSlL X.K) := by
  intro pins s σ H x v vl vu lo hi sl Q I rx hs pl pu h
  obtain ⟨a, xs, rfl, hx, q⟩ := h
  cases rx
  obtain ⟨its, r, ht, hz⟩ := I.list hx
  have hlen := r.length
  refine ⟨"list", _, slot_list_getitem.lookup, ht.isList.typeIs, ?_⟩
  refine wpAny_getItem_list_slice ht.isList hs pl pu .none (by simp) ?_ (by rw [List.size_toArray] <;> omega)
  rw [slicePick_cut, ← hlen]
  refine ⟨.ref s.heap.objs.size, _, I.laid (t' := s.toks) (o := .lst (cutV xs lo hi)) (fun b ob q => Heap.get?_push_of_some _ q) (Nat.le_refl _) ?_, rfl, q _ (I.hok.fresh (Nat.le_refl _))⟩
  exact ⟨Nat.le_trans (cutV_length xs lo hi) hz, _, 0, (r.drop (HT.sIx xs.length 0 lo)).take (HT.sIx xs.length xs.length hi - HT.sIx xs.length 0 lo), Heap.get?_push_size _ rfl⟩
def flatV : V → Bool
  | .non => true
  | .bl _ => true
  | .int _ => true
  | .str _ => true
  | _ => false
def eqV : V → V → Bool
  | .non, .non => true
  | .bl a, .bl b => a == b
  | .bl a, .int b => (if a then 1 else 0) == b
  | .int a, .bl b => a == (if b then 1 else 0)
  | .int a, .int b => a == b
  | .str a, .str b => a == b
  | _, _ => false
theorem eqAt_V {A : Around} {s : Shared} {y x : V} {u v : Value} (ry : RelV y u) (rx : RelV x v) (fy : flatV y = true) (fx : flatV x = true) : SeqAt.EqAt A s u v (eqV y x) := by
  cases y with
  | non =>
    cases ry
    cases x with
    | non => cases rx; exact SeqAt.EqAt.same _
    | bl b => cases rx; exact SeqAt.EqAt.none_bool b
    | int b => obtain ⟨t, rfl⟩ := rx; exact SeqAt.EqAt.none_int b t
    | str b => obtain ⟨t, rfl⟩ := rx; exact SeqAt.EqAt.none_str b t
    | _ => exact absurd (show false = true from fx) Bool.false_ne_true
  | bl a =>
    cases ry
    cases x with
    | non => cases rx; exact SeqAt.EqAt.bool_none a
    | bl b => cases rx; exact SeqAt.EqAt.bool_bool a b
    | int b => obtain ⟨t, rfl⟩ := rx; exact SeqAt.EqAt.bool_int a b t
    | str b => obtain ⟨t, rfl⟩ := rx; exact SeqAt.EqAt.bool_str a b t
    | _ => exact absurd (show false = true from fx) Bool.false_ne_true
  | int a =>
    obtain ⟨t', rfl⟩ := ry
    cases x with
    | non => cases rx; exact SeqAt.EqAt.int_none a t'
    | bl b => cases rx; exact SeqAt.EqAt.int_bool a t' b
    | int b => obtain ⟨t, rfl⟩ := rx; exact SeqAt.EqAt.int_int a t' b t
    | str b => obtain ⟨t, rfl⟩ := rx; exact SeqAt.EqAt.int_str a t' b t
    | _ => exact absurd (show false = true from fx) Bool.false_ne_true
  | str a =>
    obtain ⟨t', rfl⟩ := ry
    cases x with
    | non => cases rx; exact SeqAt.EqAt.str_none a t'
    | bl b => cases rx; exact SeqAt.EqAt.str_bool a t' b
    | int b => obtain ⟨t, rfl⟩ := rx; exact SeqAt.EqAt.str_int a t' b t
    | str b => obtain ⟨t, rfl⟩ := rx; exact SeqAt.EqAt.str_str a t' b t
    | _ => exact absurd (show false = true from fx) Bool.false_ne_true
  | _ => exact absurd (show false = true from fy) Bool.false_ne_true
def eqU (x : V) (u : Value) : Bool := match u with
  | .none => eqV .non x
  | .bool b => eqV (.bl b) x
  | .int i _ => eqV (.int i) x
  | .str z _ => eqV (.str z) x
  | _ => false
theorem eqU_of {x y : V} {u : Value} (r : RelV y u) (f : flatV y = true) : eqU x u = eqV y x := by
  cases y with
  | non => cases r; rfl
  | bl b => cases r; rfl
  | int i => obtain ⟨t, rfl⟩ := r; rfl
  | str z => obtain ⟨t, rfl⟩ := r; rfl
  | _ => exact absurd (show false = true from f) Bool.false_ne_true
theorem any_eqU {x : V} : ∀ {xs : List V} {us : List Value}, Vals xs us → xs.all flatV = true → us.any (eqU x) = xs.any fun y => eqV y x
  | _, _, .nil, _ => rfl
  | y :: xs, u :: us, .cons r t, f => by
    rw [List.all_cons, Bool.and_eq_true] at f
    rw [List.any_cons, List.any_cons, eqU_of r f.1, any_eqU t f.2]
theorem mem_eqAt {A : Around} {s : Shared} {x : V} {v : Value} (rx : RelV x v) (fx : flatV x = true) : ∀ {xs : List V} {us : List Value}, Vals xs us → xs.all flatV = true → ∀ u ∈ us, SeqAt.EqAt A s u v (eqU x u)
  | _, _, .nil, _ => fun u hu => by cases hu
  | y :: xs, u :: us, .cons r t, f => fun u' hu => by
    rw [List.all_cons, Bool.and_eq_true] at f
    rcases List.mem_cons.mp hu with rfl | hu
    · rw [eqU_of r f.1]; exact eqAt_V r rx f.1 fx
    · exact mem_eqAt rx fx t f.2 u' hu
def inV (x : V) (xs : List V) : Bool := xs.any fun y => eqV y x
def rIn (K : PySem.W.Frag) (neg : Bool) : R2 := fun x y H Q => ∃ p xs, y = .ref p ∧ (SqL K H p xs ∨ SqT K H p xs) ∧ flatV x = true ∧ xs.all flatV = true ∧ Q (.bl (if neg then !inV x xs else inV x xs)) H
theorem op_in_seq : OpR X (compareOp .In) (rIn X.K false) := by
  intro pins s σ H x y v u Q I rx ry h
  obtain ⟨p, xs, rfl, hq, fx, fs, q⟩ := h
  cases ry
  rcases hq with hq | hq
  · obtain ⟨its, r, pl, hz⟩ := I.list hq
    refine SeqAt.in_listAt (eqU x) pl.isList (fun w hw => mem_eqAt rx fx r fs w (by simpa using hw)) ⟨.bl _, H, I, rfl, ?_⟩
    rw [show its.toArray.any (eqU x) = its.any (eqU x) by simp, any_eqU r fs]
    exact q
  · obtain ⟨its, r, pl, hz⟩ := I.tuple hq
    refine SeqAt.in_tupleAt (eqU x) pl (fun w hw => mem_eqAt rx fx r fs w (by simpa using hw)) ⟨.bl _, H, I, rfl, ?_⟩
    rw [show its.toArray.any (eqU x) = its.any (eqU x) by simp, any_eqU r fs]
    exact q
theorem call_len_seq : CallR X (.builtin "len") (fun xs H Q => ∃ p ys, xs = [.ref p] ∧ (SqL X.K H p ys ∨ SqT X.K H p ys) ∧ Q (.int ys.length) H) := by
  intro pins s σ H xs us Q I r h
  obtain ⟨p, ys, rfl, hq, q⟩ := h
  obtain ⟨u, rfl, rx⟩ := vals1 r
  cases rx
  have hn := line63
  rcases hq with hq | hq
  · obtain ⟨its, r', pl, hz⟩ := I.list hq
    have hlen := r'.length
    exact Calls.call_len_list pl.isList (by simp only [List.size_toArray] <;> omega) ⟨.int ys.length, H, I.tok _, ⟨s.toks + 1, by rw [List.size_toArray, hlen]⟩, q⟩
  · obtain ⟨its, r', pl, hz⟩ := I.tuple hq
    have hlen := r'.length
    exact len_tuple pl (by simp only [List.size_toArray] <;> omega) ⟨.int ys.length, H, I.tok _, ⟨s.toks + 1, by rw [List.size_toArray, hlen]⟩, q⟩
theorem call_len_str : CallR X (.builtin "len") (fun xs H Q => ∃ z, xs = [.str z] ∧ z.length ≤ sizeLine ∧ Q (.int z.length) H) := by
  intro pins s σ H xs us Q I r h
  obtain ⟨z, rfl, hz, q⟩ := h
  obtain ⟨u, rfl, t, rfl⟩ := vals1 r
  have hn := line63
  exact len_str (by omega) ⟨.int z.length, H, I.tok _, ⟨_, rfl⟩, q⟩
theorem call_list_of : CallR X (.type "list") (fun xs H Q => ∃ p ys, xs = [.ref p] ∧ (SqL X.K H p ys ∨ SqT X.K H p ys) ∧ ∀ l, H l = none → Q (.ref l) (upd H l (.lst ys))) := by
  intro pins s σ H xs us Q I r h
  obtain ⟨p, ys, rfl, hq, q⟩ := h
  obtain ⟨u, rfl, rx⟩ := vals1 r
  cases rx
  have fin : ∀ (its : List Value), Vals ys its → ys.length ≤ sizeLine → ∀ (h' : Heap) (c' : Nat), (∀ b o', s.heap.get? b = some o' → h'.get? b = some o') →
      h'.get? s.heap.objs.size = some { cls := .type "list", dict := none, data := .seq its.toArray c', slots := #[] } → EP X pins σ Q (.ref s.heap.objs.size) { s with heap := h' } := fun its r' hz h' c' kp e =>
    ⟨.ref s.heap.objs.size, _, I.laid (t' := s.toks) kp (Nat.le_refl _) (show ObjOk X.prog X.w _ h' _ (.lst ys) from ⟨hz, its, c', r', e⟩), rfl, q _ (I.hok.fresh (Nat.le_refl _))⟩
  rcases hq with hq | hq
  · obtain ⟨its, r', pl, hz⟩ := I.list hq
    have hlen := r'.length
    obtain ⟨o, ho, hc, n, hd⟩ := pl.isList
    exact call_list_seq p (.inl rfl) ho hc hd (fun h' c' kp e => fin its r' hz h' c' kp e) (by simp only [List.size_toArray] <;> omega)
  · obtain ⟨its, r', pl, hz⟩ := I.tuple hq
    have hlen := r'.length
    obtain ⟨o, ho, hc, n, hd⟩ := pl
    exact call_list_seq p (.inr rfl) ho hc hd (fun h' c' kp e => fin its r' hz h' c' kp e) (by simp only [List.size_toArray] <;> omega)
def tyV (K : PySem.W.Frag) (T : String) (x : V) (H : Hp) : Prop := match x with
  | .str _ => T = "str"
  | .int _ => T = "int"
  | .ref p => (T = "list" ∧ ∃ xs, SqL K H p xs) ∨ (T = "tuple" ∧ ∃ o, K.lookup p = some o ∧ o.cls = .type "tuple" ∧ o.dict = none) ∨
      (T = "dict" ∧ ((∃ kvs, H p = some (.dK kvs)) ∨ ∃ kvs, H p = some (.dT kvs))) ∨ (T = "set" ∧ ∃ S n, H p = some (.set S n))
  | _ => False
theorem tyV_is {pins : List (Addr × Obj)} {σ : St} {H : Hp} {s : Shared} {T : String} {x : V} {v : Value} (I : Inv X pins σ H s) (r : RelV x v) (ty : tyV X.K T x H) :
    s.TypeIs v T ∧ ∀ a, v = .ref a → ∃ ob, s.heap.get? a = some ob ∧ ob.dict = none := by
  cases x with
  | str z =>
    obtain ⟨t, rfl⟩ := r
    cases (show T = "str" from ty)
    exact ⟨typeIs_str s z t, fun _ e => nomatch e⟩
  | int i =>
    obtain ⟨t, rfl⟩ := r
    cases (show T = "int" from ty)
    exact ⟨typeIs_int s i t, fun _ e => nomatch e⟩
  | ref p =>
    cases r
    rcases ty with ⟨rfl, xs, hq⟩ | ⟨rfl, o, hk, hc, hd⟩ | ⟨rfl, hk⟩ | ⟨rfl, S, n, hk⟩
    · obtain ⟨its, _, pl, _⟩ := I.list hq
      refine ⟨pl.isList.typeIs, fun a e => ?_⟩
      cases e
      obtain ⟨o, n, e, c, hd, _⟩ := pl
      exact ⟨o, e, hd⟩
    · refine ⟨⟨o, I.kIn p o hk, hc⟩, fun a e => ?_⟩
      cases e
      exact ⟨o, I.kIn _ o hk, hd⟩
    · have z : ∃ o, s.heap.get? p = some o ∧ o.ExactDict := by
        rcases hk with ⟨kvs, hk⟩ | ⟨kvs, hk⟩
        · obtain ⟨_, _, _, _, o, _, _, e, ex, _⟩ := I.hok p _ hk
          exact ⟨o, e, ex⟩
        · obtain ⟨_, _, _, _, o, _, _, e, ex, _⟩ := I.hok p _ hk
          exact ⟨o, e, ex⟩
      obtain ⟨o, e, ex⟩ := z
      refine ⟨⟨o, e, ex.1⟩, fun a e2 => ?_⟩
      cases e2
      exact ⟨o, e, ex.2.1⟩
    · obtain ⟨o, _, _, _, e, ex, _⟩ := I.hok p _ hk
      refine ⟨⟨o, e, ex.1⟩, fun a e2 => ?_⟩
      cases e2
      exact ⟨o, e, ex.2.1⟩
  | _ => exact False.elim ty
def tBM0 (K : PySem.W.Frag) (T : String) (r : V → List V → Hp → VK → Prop) (to : TE) : TE := fun σ H Q => to σ H fun x H1 => tyV K T x H1 ∧ r x [] H1 Q
def tBM (K : PySem.W.Frag) (T : String) (r : V → List V → Hp → VK → Prop) (to : TE) (t : TA) : TE := fun σ H Q => to σ H fun x H1 => tyV K T x H1 ∧ t σ H1 fun xs H2 => r x xs H2 Q
variable {o e : Expr} {es : List Expr} {to : TE} {t : TA} {name : Str} {apos cpos : Pos} {T id : String} {r : V → List V → Hp → VK → Prop}
theorem pe_bm0 (pa : PlainAttrs T) (slot : Slot T name id) (hty : typeOf (.builtin id) = pure (.type "method_descriptor")) (hm : MtR X id r) (ho : PE X o to)
    (hbase : attributeBase o name X.env (eval o X.env) = eval o X.env := by rfl) (hline : (apos.endLine == cpos.line) = true := by rfl) : PE X (.Call (.Attribute o name apos) [] [] cpos) (tBM0 X.K T r to) := by
  intro pins s σ H Q I h
  refine wpAny_Call_method0_late hbase hline (thn (ho pins s σ H _ I h) fun v s1 ⟨x, H1, I1, r1, ty, q1⟩ => ?_)
  obtain ⟨h1, h2⟩ := tyV_is I1 r1 ty
  exact ⟨T, id, pa, slot, hty, h1, h2, Calls.callWith_builtin rfl (PySem.evalArgs_none (hm pins s1 σ H1 x [] v [] Q I1 r1 .nil q1))⟩
theorem pe_bm (pa : PlainAttrs T) (slot : Slot T name id) (hty : typeOf (.builtin id) = pure (.type "method_descriptor")) (hm : MtR X id r) (ho : PE X o to) (ha : PA X (e :: es) t)
    (hbase : attributeBase o name X.env (eval o X.env) = eval o X.env := by rfl)
    (hfew : ((backTo cpos (starEach (e :: es) X.env)).all (fun x => !x.1) && (backToKw cpos (keywordEach [] X.env)).all (fun x => x.1.isSome)
      && decide ((e :: es).length + ([] : List Keyword).length + (if ([] : List Keyword).isEmpty then 0 else 1) < 30)) = true := by rfl)
    (hline : (apos.endLine == cpos.line) = true := by rfl) (hs : starEach (e :: es) X.env = (false, eval e X.env) :: starEach es X.env := by rfl) (hplain : (backTo cpos (starEach es X.env)).any (·.1) = false := by rfl) :
    PE X (.Call (.Attribute o name apos) (e :: es) [] cpos) (tBM X.K T r to t) := by
  intro pins s σ H Q I h
  refine wpAny_Call_method_late hbase hfew hline rfl (thn (ho pins s σ H _ I h) fun v s1 ⟨x, H1, I1, r1, ty, q1⟩ => ?_)
  obtain ⟨h1, h2⟩ := tyV_is I1 r1 ty
  refine ⟨T, id, pa, slot, hty, h1, h2, ?_⟩
  have hA := ha cpos pins s1 σ H1 _ I1 q1
  rw [hs] at hA ⊢
  refine Calls.callWith_builtin (by show (false || (backTo cpos (starEach es X.env)).any (·.1)) = false; rw [hplain] <;> rfl) (Calls.evalArgs_plain ?_)
  exact thn hA fun us s2 ⟨vs, H2, I2, r2, q2⟩ => hm pins s2 σ H2 x vs v us Q I2 r1 r2 q2
end
end L2
namespace L2
open PySem PySem.Spec PyProof.Rows
def MtM (X : Cx) (id : String) (r : V → List V → Hp → VK → Prop) : Prop :=
  ∀ (pins : List (Addr × Obj)) (s : Shared) (σ : St) (H : Hp) (x : V) (xs : List V) (v : Value) (us : List Value) (Q : VK), Inv X pins σ H s → RelV x v → Vals xs us → r x xs H Q →
    wpAny (model X.prog X.w) X.A (call (.builtin id) (v :: us)) (EP X pins σ Q) X.xe s
theorem Vals.one : ∀ {x : V} {us : List Value}, Vals [x] us → ∃ u, us = [u] ∧ RelV x u
  | _, _, .cons r .nil => ⟨_, rfl, r⟩
theorem Vals.zero : ∀ {us : List Value}, Vals [] us → us = []
  | _, .nil => rfl
section
variable {X : Cx} {pins : List (Addr × Obj)} {σ : St} {H : Hp} {s : Shared} {l b : Addr} {xs ys zs : List V}
theorem Inv.lset {its its' : List Value} {n : Nat} {f : Array Value → Array Value} {t' : Nat} (I : Inv X pins σ H s) (hH : H l = some (.lst xs))
    (e : s.heap.get? l = some { cls := .type "list", data := .seq its.toArray n }) (hf : f its.toArray = its'.toArray) (hv : Vals ys its') (hz : ys.length ≤ sizeLine) :
    Inv X pins σ (upd H l (.lst ys)) { s with heap := s.heap.update l (Obj.mapSeq f), toks := t' } := by
  have q := PySem.IsL.update e f
  rw [hf] at q
  refine I.write (x := l) (e := l) (by rw [hH]; exact trivial) (.inl rfl) (fun b' u hb hu => (Heap.get?_update_other s.heap (Obj.mapSeq f) (Ne.symm hb)).trans hu) ⟨_, q⟩ ?_
  exact ⟨hz, its', _, hv, q⟩
theorem Inv.lstM (I : Inv X pins σ H s) (hH : H l = some (.lst xs)) : xs.length ≤ sizeLine ∧ ∃ (its : List Value) (n : Nat), Vals xs its ∧ xs.length = its.length ∧ s.heap.get? l = some { cls := .type "list", data := .seq its.toArray n } := by
  obtain ⟨z, its, n, r, e⟩ := I.hok l _ hH
  exact ⟨z, its, n, r, r.length, e⟩
end
section
variable {X : Cx}
def rAppend : V → List V → Hp → VK → Prop := fun x vs H Q => ∃ l xs y, x = .ref l ∧ vs = [y] ∧ H l = some (.lst xs) ∧ xs.length < sizeLine ∧ Q .non (upd H l (.lst (xs ++ [y])))
theorem mt_append : MtM X "list.append" rAppend := by
  intro pins s σ H x vs v us Q I rx rv h
  obtain ⟨l, xs, y, rfl, rfl, hH, hz, q⟩ := h
  cases rx
  obtain ⟨u, rfl, ru⟩ := rv.one
  obtain ⟨z, its, n, r, hl, e⟩ := I.lstM hH
  refine call_meets F.slot_list_append ⟨_, e, rfl⟩ F.entry_list_append (F.args_list_append_2 _ _) (PySem.list_append l its.toArray n u (by rw [List.size_toArray]; omega)) ⟨e, ?_⟩
  refine ⟨.non, _, I.lset (its' := its ++ [u]) hH e (by simp) (r.append (.cons ru .nil)) ?_, rfl, q⟩
  rw [List.length_append, List.length_singleton]
  omega
def rClear : V → List V → Hp → VK → Prop := fun x vs H Q => ∃ l xs, x = .ref l ∧ vs = [] ∧ H l = some (.lst xs) ∧ Q .non (upd H l (.lst []))
theorem mt_clear : MtM X "list.clear" rClear := by
  intro pins s σ H x vs v us Q I rx rv h
  obtain ⟨l, xs, rfl, rfl, hH, q⟩ := h
  cases rx
  have hus := rv.zero
  subst hus
  obtain ⟨z, its, n, r, hl, e⟩ := I.lstM hH
  refine call_meets F.slot_list_clear ⟨_, e, rfl⟩ F.entry_list_clear (F.args_list_clear_1 _) (AutoSeq1.list_clear_list_0 l its.toArray n (by rw [List.size_toArray]; omega)) ⟨e, ?_⟩
  exact ⟨.non, _, I.lset (its' := []) (ys := []) hH e rfl .nil (Nat.zero_le _), rfl, q⟩
end
section
variable {prog : Program} {w : World} {A : Around} {E : Value → Shared → Prop} {s : Shared}
end
section
variable {X : Cx}
end
end L2
namespace Att
open PySem PySem.W PySem.Calls PyProof.Rows
theorem ints_of_wellAll {P : Params} {h : Heap} : ∀ (ns : List Int) (vs : List Value), WellAll P h vs (ns.map WData.int) → IntsAre vs ns := by
  intro ns
  induction ns with
  | nil =>
    intro vs w
    rw [List.map_nil] at w
    cases w
    exact .nil
  | cons n ns ih =>
    intro vs w
    rw [List.map_cons] at w
    cases w with
    | cons a b =>
      cases a
      exact .cons _ _ (ih _ b)
theorem script_of {l : OpenLaw} {n : Nat} (hn : l.most = some n) {P : Params} {h : Heap} {args : List WData} {vals : List Value}
    (hpre : l.row.toRowW.claim.pre args = true) (hwl : WellAll P h vals args) :
    ∃ a vs ns, vals = [Value.ref a] ∧ args = [WData.list (ns.map WData.int)] ∧ h.get? a = some { cls := .type "list", data := .seq vs.toArray } ∧ IntsAre vs ns ∧ ns.length ≤ n := by
  have hsh : WShape.hasAll [] args [.list .int] = true := (pre_splitW hpre).1
  have hc : l.pre.holds [] { args := args } = true := (pre_splitW hpre).2
  obtain ⟨d, r, rfl, h1, h2⟩ := hasAllW_cons hsh
  obtain rfl := hasAllW_nil h2
  obtain ⟨xs, rfl, h3⟩ := hasW_list h1
  obtain ⟨ns, rfl⟩ := items_int h3
  have hlen : ns.length ≤ n := by
    unfold OpenLaw.pre at hc
    have h4 : (WTm.not (.lt (.lit (.int (n : Int))) (.len (.arg 0)))).holds [] { args := [.list (ns.map .int)] } = true := by
      have h4 := (holds_andW hc).1
      rw [hn] at h4
      exact h4
    have h5 := condW_of h4 (w_not (w_lt w_lit (w_len_list (w_arg rfl))))
    rw [List.length_map] at h5
    refine Nat.le_of_not_lt fun q => ?_
    have q' : (n : Int) < ((ns.length : Nat) : Int) := by omega
    first
      | (rw [decide_eq_true q'] at h5; exact absurd h5 (by decide))
      | (simp at h5; omega)
  cases hwl with
  | cons w1 w2 =>
    cases w2
    cases w1 with
    | list ho hall => exact ⟨_, _, ns, rfl, rfl, ho, ints_of_wellAll ns _ hall, hlen⟩
theorem post_true (l : OpenLaw) (args : List WData) : l.row.toRowW.claim.post args (.bool true) args = true :=
  postW_of (r := l.row.toRowW) (X := (true == true))
    (show WShape.has [] (.bool true) .bool = true by first | rfl | decide | simp [WShape.has, WShape.arms, WShape.armsAll])
    (show (WTm.eq .res (.lit (.bool true))).value [] { args := args, res := some (.bool true), after := args } = some (.bool (true == true)) from w_eq_bool (w_res rfl) w_lit) rfl
theorem attach_call {l : OpenLaw} {n : Nat} {q : Program} {loose : List Str} {XP : (Str → Option Value) → Heap → Prop} {YP : World → Heap → Prop} {d : DefRec}
    (hn : l.most = some n) (hdf : d.params.defaults = [])
    (call : ∀ (w : World) (s₀ s₁ : Shared) (mg mb : Str → Option Value) (fa : Addr) (o : Obj) (pm cd doc : Value) (a : Addr) (vs : List Value) (ns : List Int),
      Ground q loose [] XP w s₀ mg mb s₁.heap → YP w s₁.heap →
      s₁.heap.get? fa = some o → o.data = .func (docDef d.name d.params d.body d.scope pm cd doc) → s₁.heap.CodeRec cd d.name → mg d.name = some (.ref fa) →
      s₁.heap.get? a = some { cls := .type "list", data := .seq vs.toArray } → IntsAre vs ns → ns.length ≤ n → s₁.gens = #[] →
      codeAny (model l.prog w) callerA (.call (.ref fa) ⟨[.ref a], []⟩) (fun r s' => r = .ok (.ret (.bool true)) ∧ OldK s₁.heap s'.heap ∧ s'.os = s₁.os ∧ AllBare s'.gens) s₁) :
    WalkO q loose XP YP l.row.toRowW d [] (fun f vs => PySem.call f vs) := by
  intro w s₀ s₁ mg mb G Y fa o pm cd doc dV kV ho hd hcd hD hmg hg args vals as hpre hlay hrd hwl hlo
  obtain rfl : dV = .none := Dflts.none hD hdf
  obtain rfl : kV = .none := Dflts.noKw hD
  obtain ⟨a, vs, ns, rfl, rfl, hobj, hints, hlen⟩ := script_of hn hpre hwl
  refine enter_call (codeAny_mono (call w s₀ s₁ mg mb fa o pm cd doc a vs ns G Y ho (fd_plain hd) hcd hmg hobj hints hlen hg) fun r s' hq => ?_)
  obtain ⟨rfl, h2, h3, h4⟩ := hq
  exact ⟨.inl ⟨.bool true, .bool true, [], rfl, fun _ => rfl, .bool true, post_true l _, fun _ => ⟨List.Pairwise.nil, fun _ hm => (nomatch hm)⟩⟩, h2, h3, h4⟩
section
variable {prog : Program} {w : World} {A : Around} {E : Value → Shared → Prop} {s : Shared} {K : Frag}
end
end Att
namespace L2
open PySem PySem.Spec PyProof.Rows
theorem vals_ints : ∀ {vs : List Value} {ns : List Int}, IntsAre vs ns → Vals (ns.map V.int) vs
  | _, _, .nil => .nil
  | _, _, .cons n t h => .cons ⟨t, rfl⟩ (vals_ints h)
def Only (H : Hp) : Prop := ∀ b, H b = none ∨ ∃ o xs, H b = some (.frz o (.lst xs))
theorem law_call {P : Program} {w : World} {K : PySem.W.Frag} {mg mb : Str → Option Value} {CX : CXT} {k : Nat} {fa a : Addr} {fd : FuncData} {x : Str} {sp : Sp} {s₁ : Shared} {vs : List Value} {ns : List Int}
    (KX : K.In s₁.heap) (hns : s₁.heap.Ns mainGlobals mg) (hb : s₁.heap.Ns builtinsNs mb) (hbb : ∀ x : Str, x ≠ "__name__" → mb x = bootBuiltins x) (hlim : s₁.heap.NoLimit) (hg : s₁.gens = #[])
    (ha : s₁.heap.get? a = some { cls := .type "list", data := .seq vs.toArray }) (hi : IntsAre vs ns) (hl : ns.length ≤ sizeLine) (hr : Room k callerA)
    (F : ∀ base : Heap, K.In base → base.Ns mainGlobals mg → FnOk P w K mg base CX k fa fd [x] sp) (hbind : ∀ (s : Shared) (u : Value), BindsTo s fd ⟨[u], []⟩ [(x, u)])
    (hsp : ∀ H : Hp, Only H → SqL K H a (ns.map V.int) → sp [.ref a] H (fun v _ => v = .bl true) fun _ _ _ => False)
    (hCX : ∀ H e s', CX [] H s₁ (fun _ _ _ => False) e s' → False) :
    codeAny (model P w) callerA (.call (.ref fa) ⟨[.ref a], []⟩) (fun r s' => r = .ok (.ret (.bool true)) ∧ OldK s₁.heap s'.heap ∧ s'.os = s₁.os ∧ AllBare s'.gens) s₁ := by
  have rv := vals_ints hi
  have lenV := hi.length
  -- from an abstract heap in which nothing but the script may be tracked
  have core : ∀ H : Hp, Only H → SqL K H a (ns.map V.int) → HOk P w H s₁.heap → (∀ b, H b ≠ none → b = a) → (H a ≠ none → K.lookup a = none) →
      codeAny (model P w) callerA (.call (.ref fa) ⟨[.ref a], []⟩) (fun r s' => r = .ok (.ret (.bool true)) ∧ OldK s₁.heap s'.heap ∧ s'.os = s₁.os ∧ AllBare s'.gens) s₁ := by
    intro H hO hS hok hA hK
    have base_of : ∀ {b : Addr} {o : Obj}, s₁.heap.get? b = some o → H b = none → (hidT s₁.heap H).get? b = some o := fun e n => hidT_get e n
    have noA : ∀ {b : Addr} {o : Obj} {es : Array DictEntry} {ep : Nat}, s₁.heap.get? b = some o → o.data = .dict es ep → H b = none := fun {b o es ep} e d => by
      cases q : H b with
      | none => rfl
      | some u =>
        have e' : b = a := hA b (by rw [q]; simp)
        subst e'
        rw [ha] at e; cases e
        have d' : Data.seq vs.toArray _ = Data.dict es ep := d
        cases d'
    have nsK : ∀ {b : Addr} {m : Str → Option Value}, s₁.heap.Ns b m → (hidT s₁.heap H).Ns b m := fun {b m} ⟨o, es, ep, e, d, r⟩ => ⟨o, es, ep, base_of e (noA e d), d, r⟩
    have hKb : K.In (hidT s₁.heap H) := fun b o e => base_of (KX b o e) (by
      cases q : H b with
      | none => rfl
      | some u =>
        have e' : b = a := hA b (by rw [q]; simp)
        subst e'
        rw [hK (by rw [q]; simp)] at e; cases e)
    have hM : Mod K mg (hidT s₁.heap H) := ⟨hKb, nsK hns, ⟨mb, nsK hb, hbb⟩, let ⟨mc, h1, h2⟩ := hlim; ⟨mc, nsK h1, h2⟩⟩
    have e0 : Env0 P w K mg (hidT s₁.heap H) callerA [] s₁ H := ⟨rfl, hM, fun b o e => of_hidT e, Nat.le_of_eq (hidT_size _ _), trivial, fun b hb => absurd (show b ∈ ([] : List Addr) from hb) (by simp), hok, .of_eq hg⟩
    refine codeAny_mono ((F _ hKb (nsK hns)).run callerA [] s₁ H ⟨[.ref a], []⟩ [.ref a] [.ref a] _ _ hr e0 (hbind s₁ (.ref a)) (.cons rfl .nil) (hsp H hO hS)) fun r s' h => ?_
    cases r with
    | error e => exact (hCX H e s' h).elim
    | ok fl =>
      cases fl with
      | next => exact False.elim h
      | brk => exact False.elim h
      | cont => exact False.elim h
      | ret u =>
        obtain ⟨v, H', os, bare, un, hok', r', q⟩ := h
        have q' : v = .bl true := q
        subst q'
        obtain rfl : u = Value.bool true := r'
        refine ⟨rfl, OldK.of_keep fun b o e => ?_, os, bare⟩
        cases q : H b with
        | none => exact un.keep b o e q (by intro z; exact absurd (show b ∈ ([] : List Addr) from z) (by simp)) (by simp)
        | some u =>
          rcases hO b with z | ⟨ob, xs, z⟩
          · rw [q] at z; cases z
          · have z2 := un.frzs b ob _ z
            obtain ⟨e1, _⟩ := hok b _ z
            obtain ⟨e2, _⟩ := hok' b _ z2
            rw [e] at e1; cases e1
            exact e2
  cases hk : K.lookup a with
  | some o =>
    -- the script is one of the module's own objects
    have e := KX a o hk
    rw [ha] at e
    cases e
    refine core (fun _ => none) (fun _ => .inl rfl) (.inr ⟨_, vs.toArray, _, hk, rfl, rfl, rfl, by rw [List.size_toArray, lenV]; exact hl, by simpa using rv⟩) (fun b u z => by have z' : (none : Option HO) = some u := z; cases z') (fun b z => absurd rfl z) fun z => absurd rfl z
  | none =>
    refine core (fun b => if b = a then some (.frz { cls := .type "list", data := .seq vs.toArray } (.lst (ns.map V.int))) else none) (fun b => ?_) (.inl (.inr ⟨{ cls := .type "list", data := .seq vs.toArray }, if_pos rfl⟩)) (fun b u z => ?_) (fun b z => ?_) fun _ => hk
    · by_cases hb : b = a
      · exact .inr ⟨_, _, if_pos hb⟩
      · exact .inl (if_neg hb)
    · by_cases hb : b = a
      · have z' := (if_pos hb).symm.trans z
        cases z'
        subst hb
        exact ⟨ha, by rw [List.length_map]; exact hl, vs, _, rv, ha⟩
      · have z' := (if_neg hb).symm.trans z
        cases z'
    · by_cases hb : b = a
      · exact hb
      · exact absurd (if_neg hb) z
end L2
namespace L2
open PySem PySem.Spec PyProof.Rows
theorem walk_of {l : PySem.W.OpenLaw} {n k : Nat} {q : Program} {loose : List Str} {XP : (Str → Option Value) → Heap → Prop} {YP : World → Heap → Prop} {d : DefRec} {K : Params → PySem.W.Frag} {CX : World → CXT} {sp : World → Sp} {x : Str}
    (hn : l.most = some n) (hn2 : n ≤ sizeLine) (hdf : d.params.defaults = []) (hr : Room k callerA)
    (hY : ∀ (w : World) (h : Heap), YP w h → (K w.params).In h)
    (F : ∀ (w : World) (mg : Str → Option Value) (fa : Addr) (h : Heap), (K w.params).In h → h.Ns mainGlobals mg → mg d.name = some (.ref fa) →
      ∃ fd : FuncData, (∀ (s : Shared) (u : Value), BindsTo s fd ⟨[u], []⟩ [(x, u)]) ∧
        ∀ base : Heap, (K w.params).In base → base.Ns mainGlobals mg → FnOk l.prog w (K w.params) mg base (CX w) k fa fd [x] (sp w))
    (hsp : ∀ (w : World) (H : Hp) (a : Addr) (ns : List Int), ns.length ≤ n → Only H → SqL (K w.params) H a (ns.map V.int) → sp w [.ref a] H (fun v _ => v = .bl true) fun _ _ _ => False)
    (hCX : ∀ (w : World) (H : Hp) (s : Shared) (e : Value) (s' : Shared), CX w [] H s (fun _ _ _ => False) e s' → False) :
    PySem.W.WalkO q loose XP YP l.row.toRowW d [] (fun f vs => PySem.call f vs) := by
  refine Att.attach_call hn hdf fun w s₀ s₁ mg mb fa o pm cd doc a vs ns G Y ho hd hcd hmg hobj hints hlen hg => ?_
  have KX := hY w _ Y
  obtain ⟨fd, hb, hF⟩ := F w mg fa _ KX G.T.g hmg
  exact law_call KX G.T.g G.T.b G.T.builtins G.T.nolimit hg hobj hints (Nat.le_trans hlen hn2) hr hF hb (fun H hO hS => hsp w H a ns hlen hO hS) fun H e s' => hCX w H s₁ e s'
end L2
namespace L2
open PySem PySem.Spec PyProof.Rows
def inClass (s : Stmt) (j : Nat) : Stmt := match s with
  | .ClassDef _ _ _ body _ _ _ _ _ _ _ => body.getD j (.Pass ⟨0, 0, 0, 0⟩)
  | _ => .Pass ⟨0, 0, 0, 0⟩
def defArgs (s : Stmt) : Arguments := match s with
  | .FunctionDef _ a _ _ _ _ _ _ _ _ => a
  | _ => { posonlyargs := [], args := [], vararg := none, kwonlyargs := [], kw_defaults := [], kwarg := none, defaults := [] }
def defBody (s : Stmt) : List Stmt := match s with
  | .FunctionDef _ _ b _ _ _ _ _ _ _ => b
  | _ => []
def defScope (s : Stmt) : Scope := match s with
  | .FunctionDef _ _ _ _ _ _ sc _ _ _ => sc
  | _ => { kind := .function, names := [], isGenerator := false, isCoroutine := false }
abbrev E0 : XK := fun _ _ _ => False
structure Fun (K : PySem.W.Frag) (x qual : Str) (st : Stmt) (f : Addr) (fd : FuncData) : Prop where
  ex : ∃ (oc : Value) (od : Option Addr) (kV doc pm : Value) (an : Option Addr) (cdv ct : Value) (osl : Array (Option Value)),
    fd = PySem.W.fnOf x qual (defArgs st) (defBody st) (defScope st) .none kV doc pm an cdv ct ∧ K.lookup f = some ⟨oc, od, .func fd, osl⟩ ∧ PySem.W.codeIn K cdv qual = true
  kp : PySem.W.keepIn K (.ref f) = true
section
variable {P : Program} {w : World} {K : PySem.W.Frag} {mg : Str → Option Value} {base : Heap}
theorem Fun.binds {x qual : Str} {st : Stmt} {f : Addr} {fd : FuncData} {ps : List Str} (F : Fun K x qual st f fd)
    (h : ∀ (kV doc pm : Value) (an : Option Addr) (cdv ct : Value) (us : List Value), us.length = ps.length → bindArgs (PySem.W.fnOf x qual (defArgs st) (defBody st) (defScope st) .none kV doc pm an cdv ct) ⟨us, []⟩ = pure (ps.zip us)) : Binds K fd ps [] := by
  obtain ⟨oc, od, kV, doc, pm, an, cdv, ct, osl, rfl, lk, hcd⟩ := F.ex
  exact .all (h kV doc pm an cdv ct)
theorem fun_mk {x qual : Str} {st : Stmt} {f : Addr} {oc : Value} {od an : Option Addr} {osl : Array (Option Value)} {kV doc pm cdv ct : Value} (l : K.lookup f = some ⟨oc, od, .func (PySem.W.fnOf x qual (defArgs st) (defBody st) (defScope st) .none kV doc pm an cdv ct), osl⟩)
    (c : PySem.W.codeIn K cdv qual = true) (k : PySem.W.keepIn K (.ref f) = true) : Fun K x qual st f (PySem.W.fnOf x qual (defArgs st) (defBody st) (defScope st) .none kV doc pm an cdv ct) := ⟨⟨oc, od, kV, doc, pm, an, cdv, ct, osl, rfl, l, c⟩, k⟩
end
theorem small1000 {n : Nat} (h : n ≤ 1000) : n < sizeLine := Nat.lt_of_le_of_lt h (by decide)
section
variable {X : Cx}
theorem pv (i : Nat) {x : Str} {pos : Pos} (hN : X.N[i]? = some x := by rfl) (hv : Vis X.env.scope x := by first | exact Or.inl rfl | exact Or.inr (Or.inl rfl) | exact Or.inr (Or.inr rfl)) (hd : (x == ("__debug__" : Str)) = false := by decide)
    (hcd : (x == ("__classdict__" : Str)) = false := by decide) : PE X (.Name x pos) (tVar i) := pe_var hN hv hd hcd
end
theorem iteF {A B : Prop} (h : B) : if false = true then A else B := by
  rw [if_neg Bool.false_ne_true]
  exact h
theorem iteT {A B : Prop} (h : A) : if true = true then A else B := by
  rw [if_pos rfl]
  exact h
theorem ite2 {c A B : Prop} [Decidable c] (h1 : c → A) (h2 : ¬ c → B) : if c then A else B := by
  by_cases h : c
  · rw [if_pos h]
    exact h1 h
  · rw [if_neg h]
    exact h2 h
def Same (H H' : Hp) : Prop := ∀ b o, H b = some o → H' b = some o
theorem Same.refl (H : Hp) : Same H H := fun _ _ h => h
theorem Same.trans {H H1 H2 : Hp} (a : Same H H1) (b : Same H1 H2) : Same H H2 := fun c o h => b c o (a c o h)
theorem Same.free {H H' : Hp} (e : Same H H') {l : Addr} (h : H' l = Option.none) : H l = Option.none := by
  cases q : H l with
  | none => rfl
  | some o =>
    rw [e l o q] at h
    cases h
theorem Same.seq {K : PySem.W.Frag} {H H' : Hp} {a : Addr} {xs : List V} (e : Same H H') (h : SqL K H a xs) : SqL K H' a xs := by
  rcases h with (h | ⟨o, h⟩) | h
  · exact .inl (.inl (e _ _ h))
  · exact .inl (.inr ⟨o, e _ _ h⟩)
  · exact .inr h
end L2
set_option maxRecDepth 100000
namespace L2
open PySem PySem.Spec PyProof.Rows
def closG (env : Env) : List (Str × NameKind) → List (Str × Addr) → List (Str × Addr)
  | [], cs => cs
  | (n, k) :: r, cs => closG env r (if k == .free then (n, (env.cells.lookup n).getD 0) :: cs else cs)
theorem closG_for {env : Env} : ∀ (names : List (Str × NameKind)) (cs : List (Str × Addr)), (∀ p ∈ names, p.2 = .free → ∃ c, env.cells.lookup p.1 = some c) →
    (forIn names cs (fun (x : Str × NameKind) (r : List (Str × Addr)) => (do if x.2 == .free then pure (.yield ((x.1, ← cellOf env x.1) :: r)) else pure (.yield r) : Sem (ForInStep (List (Str × Addr)))))) = (pure (closG env names cs) : Sem _)
  | [], cs, _ => rfl
  | (n, k) :: r, cs, h => by
    rw [List.forIn_cons]
    by_cases hk : (k == NameKind.free) = true
    · obtain ⟨c, e⟩ := h (n, k) List.mem_cons_self (by simpa using hk)
      have ec : cellOf env n = pure c := by unfold cellOf; rw [show env.cells.lookup n = some c from e]
      simp only [hk, if_true, ec, pure_bind]
      rw [closG_for r _ fun p hp => h p (List.mem_cons_of_mem _ hp)]
      simp only [closG, hk, if_true, show env.cells.lookup n = some c from e, Option.getD_some]
    · simp only [hk, if_false, pure_bind, Bool.false_eq_true]
      rw [closG_for r _ fun p hp => h p (List.mem_cons_of_mem _ hp)]
      simp only [closG, hk, if_false, Bool.false_eq_true]
theorem closureFor_G {scope : Scope} {env : Env} (h : ∀ p ∈ scope.names, p.2 = .free → ∃ c, env.cells.lookup p.1 = some c) : closureFor scope env = pure (closG env scope.names []) := by
  rw [← closG_for scope.names [] h]
  simp only [closureFor]
  rw [bind_pure]
theorem closG_look {env : Env} {x : Str} {c : Addr} : ∀ (names : List (Str × NameKind)) (cs : List (Str × Addr)), (∀ p ∈ names, p.2 = .free → ∃ c, env.cells.lookup p.1 = some c) →
    (closG env names cs).lookup x = some c → cs.lookup x = some c ∨ env.cells.lookup x = some c
  | [], cs, _, h => .inl h
  | (n, k) :: r, cs, hf, h => by
    have hf' : ∀ p ∈ r, p.2 = .free → ∃ c, env.cells.lookup p.1 = some c := fun p hp => hf p (List.mem_cons_of_mem _ hp)
    unfold closG at h
    rcases closG_look r _ hf' h with q | q
    · by_cases hk : (k == NameKind.free) = true
      · rw [if_pos hk] at q
        obtain ⟨c', e⟩ := hf (n, k) List.mem_cons_self (by simpa using hk)
        have e : env.cells.lookup n = some c' := e
        rw [e, Option.getD_some, List.lookup_cons] at q
        cases hx : (x == n) with
        | true =>
          rw [hx] at q
          have : x = n := by simpa using hx
          subst this
          cases q
          exact .inr e
        | false => rw [hx] at q; exact .inl q
      · rw [if_neg hk] at q; exact .inl q
    · exact .inr q
theorem closG_has {env : Env} {x : Str} : ∀ (names : List (Str × NameKind)) (cs : List (Str × Addr)), ((x, NameKind.free) ∈ names ∨ ∃ c, cs.lookup x = some c) → ∃ c, (closG env names cs).lookup x = some c
  | [], cs, h => by
    rcases h with h | h
    · cases h
    · exact h
  | (n, k) :: r, cs, h => by
    unfold closG
    refine closG_has r _ ?_
    rcases h with h | ⟨c, h⟩
    · rcases List.mem_cons.mp h with e | h
      · cases e
        right
        rw [if_pos (by rfl), List.lookup_cons]
        simp
      · exact .inl h
    · right
      split
      · rw [List.lookup_cons]
        cases (x == n) with
        | true => exact ⟨_, rfl⟩
        | false => exact ⟨c, h⟩
      · exact ⟨c, h⟩
theorem relabel_free {env : Env} : ∀ {names : List (Str × NameKind)} {x : Str}, names.lookup x = some .free →
    ((names.map fun (n, k) => if (k == NameKind.free && env.scope.kind == .function && env.kindOf n == some .cell) then (n, NameKind.cell) else (n, k)).lookup x = some .cell ∨
     (names.map fun (n, k) => if (k == NameKind.free && env.scope.kind == .function && env.kindOf n == some .cell) then (n, NameKind.cell) else (n, k)).lookup x = some .free)
  | [], _, h => by simp at h
  | (n, k) :: r, x, h => by
    have ih := @relabel_free env r x
    rw [List.map_cons]
    cases hx : x == n with
    | true =>
      simp only [List.lookup_cons, hx] at h
      cases h
      dsimp only
      split
      · left; rw [List.lookup_cons, hx]
      · right; rw [List.lookup_cons, hx]
    | false =>
      simp only [List.lookup_cons, hx] at h
      dsimp only
      split
      · simp only [List.lookup_cons, hx]; exact ih h
      · simp only [List.lookup_cons, hx]; exact ih h
theorem relabel_inv {env : Env} : ∀ {names : List (Str × NameKind)} {x : Str} {k : NameKind}, k = .cell ∨ k = .free →
    (names.map fun (n, k) => if (k == NameKind.free && env.scope.kind == .function && env.kindOf n == some .cell) then (n, NameKind.cell) else (n, k)).lookup x = some k → ∃ k', (k' = .cell ∨ k' = .free) ∧ (x, k') ∈ names
  | [], _, _, _, h => by simp at h
  | (n, k) :: r, x, k', hk, h => by
    have ih := @relabel_inv env r x k' hk
    rw [List.map_cons] at h
    cases hx : x == n with
    | true =>
      have : x = n := by simpa using hx
      subst this
      dsimp only at h
      split at h
      · rename_i hc
        rw [List.lookup_cons, hx] at h
        refine ⟨k, .inr ?_, List.mem_cons_self⟩
        simp only [Bool.and_eq_true] at hc
        simpa using hc.1.1
      · rw [List.lookup_cons, hx] at h
        cases h
        exact ⟨_, hk, List.mem_cons_self⟩
    | false =>
      dsimp only at h
      have h' : (r.map fun (n, k) => if (k == NameKind.free && env.scope.kind == .function && env.kindOf n == some .cell) then (n, NameKind.cell) else (n, k)).lookup x = some k' := by
        split at h
        · simpa only [List.lookup_cons, hx] using h
        · simpa only [List.lookup_cons, hx] using h
      obtain ⟨k2, a, b⟩ := ih h'
      exact ⟨k2, a, List.mem_cons_of_mem _ b⟩
def cxComp (X : Cx) (scope : Scope) (N : List Str) (fp : List Addr) (s : Shared) (H : Hp) : Cx :=
  { X with N := N, s₀ := s, H₀ := H, env := compEnvC scope (closG X.env scope.names []) s.heap.objs.size X.env, outer := X.stack, stack := X.stack, ex := fp, fn := fun _ => false, pn := [], xe := fun _ _ => False }
def seen (js : List (Option Nat)) (σ : St) : St := js.map fun o => o.bind fun j => (σ[j]?).join
def compChk (X : Cx) (scope : Scope) (N : List Str) (js : List (Option Nat)) : Bool :=
  (scope.names.all fun p => p.2 != .cell && (p.2 != .free || X.env.kindOf p.1 == some .cell) && (p.2 != .local || scope.names.lookup p.1 == some .local)) &&
  (js.length == N.length) && ((N.zip js).all fun p => match p.2 with | none => true | some j => X.N[j]? == some p.1 && scope.names.lookup p.1 == some .free && X.env.kindOf p.1 == some .cell)
section
variable {X : Cx} {tg iter elt : Expr} {scope : Scope} {N : List Str} {js : List (Option Nat)} {pos : Pos}
theorem comp_start {pins : List (Addr × Obj)} {σ : St} {H : Hp} {s : Shared} {h' : Heap} {fp : List Addr} {t' : Nat} (I : Inv X pins σ H s) (hk : scope.kind = .function) (hck : compChk X scope N js = true)
    (hf : ∀ b ∈ fp, FpOk X pins H b) (hfl : ∀ b ∈ fp, b < s.heap.objs.size) (hns : h'.Ns s.heap.objs.size (fun _ => none)) (kp : ∀ b o, s.heap.get? b = some o → h'.get? b = some o) :
    Inv (cxComp X scope N fp s H) [] (seen js σ) H { s with heap := h', toks := t' } := by
  unfold compChk at hck
  simp only [Bool.and_eq_true] at hck
  obtain ⟨⟨h1, h2⟩, h3⟩ := hck
  have hlen : js.length = N.length := by simpa using h2
  have g1 : ∀ p ∈ scope.names, p.2 ≠ .cell ∧ (p.2 = .free → X.env.kindOf p.1 = some .cell) := fun p hp => by
    have q := List.all_eq_true.mp h1 p hp
    simp only [Bool.and_eq_true, bne_iff_ne, ne_eq, Bool.or_eq_true, beq_iff_eq] at q
    exact ⟨q.1.1, fun e => q.1.2.resolve_left fun z => z e⟩
  have hcl : ∀ p ∈ scope.names, p.2 = .free → ∃ c, X.env.cells.lookup p.1 = some c := fun p hp e => I.ok.has _ (.inl ((g1 p hp).2 e))
  have back : ∀ x c, (closG X.env scope.names []).lookup x = some c → X.env.cells.lookup x = some c := fun x c e => by
    rcases closG_look _ _ hcl e with q | q
    · cases q
    · exact q
  refine ⟨⟨I.ok.mod, ?_, I.ok.glob, I.ok.blt, Nat.le_refl _, fun x y c h1 h2 => I.ok.inj x y c (back _ _ h1) (back _ _ h2), fun x hx => ?_, fun _ _ z => (by cases z), I.ok.hd, I.ok.frames, .inl rfl, fun b hb => ⟨?_, fun x c e => ?_⟩, I.bs, Nat.le_trans I.ok.bsz I.sz, fun b o e hb => ?_, fun b hb => ?_, I.stack, I.stkFree⟩,
    rfl, I.bare, Un.kept kp, ⟨_, hns, fun i x v e1 e2 e3 => ?_⟩, fun x c e => ?_, I.hok.fresh (Nat.le_refl _), fun x c e => I.freeC x c (back _ _ e), fun p hp => (by cases hp), I.hok.kept kp, ?_⟩
  · show (relabel scope X.env).kind = _
    exact hk
  · have hx' : ∃ k, (k = .cell ∨ k = .free) ∧ (relabel scope X.env).names.lookup x = some k := by
      rcases hx with q | q
      · exact ⟨_, .inl rfl, q⟩
      · exact ⟨_, .inr rfl, q⟩
    obtain ⟨k, hk2, q⟩ := hx'
    obtain ⟨k', a, b⟩ := relabel_inv (env := X.env) hk2 q
    rcases a with a | a
    · exact absurd a (g1 _ b).1
    · subst a
      exact closG_has _ _ (.inl b)
  · exact Nat.ne_of_lt (hfl b hb)
  · exact (hf b hb).2.2.2.2.1 x c (back _ _ e)
  · rcases (hf b hb).2.2.2.1 with z | z
    · exact I.ok.noex b o e z
    · exact absurd (Nat.lt_of_lt_of_le (Heap.lt_size e) (Nat.le_trans I.ok.bsz z)) (Nat.lt_irrefl _)
  · intro hb2
    obtain ⟨_, q1, q2, _⟩ := hf b hb
    rcases List.mem_cons.mp (I.stkSub b hb2) with z | z
    · exact q1 z
    · exact q2 z
  · have e1 : N[i]? = some x := e1
    unfold seen at e2
    rw [List.getElem?_map] at e2
    cases ej : js[i]? with
    | none => rw [ej] at e2; cases e2
    | some o =>
      rw [ej] at e2
      cases o with
      | none => cases e2
      | some j =>
        have e2 : (σ[j]?).join = some v := by simpa using e2
        have e4 : σ[j]? = some (some v) := by
          cases q : σ[j]? with
          | none => rw [q] at e2; cases e2
          | some w => rw [q] at e2; cases e2; rfl
        have hz : (N.zip js)[i]? = some (x, some j) := by
          rw [List.getElem?_zip_eq_some]; exact ⟨e1, ej⟩
        have q := List.all_eq_true.mp h3 _ (List.mem_of_getElem? hz)
        simp only [Bool.and_eq_true, beq_iff_eq] at q
        obtain ⟨⟨q1, q2⟩, q3⟩ := q
        obtain ⟨m, hn, hl⟩ := I.loc
        obtain ⟨u, r, l⟩ := hl j x v q1 e4 (.inr (.inl q3))
        refine ⟨u, r, ?_⟩
        rcases l with ⟨l, _⟩ | ⟨_, c, l2, l3⟩
        · rw [q3] at l; cases l
        · obtain ⟨c', hc'⟩ := closG_has (env := X.env) (x := x) scope.names [] (.inl (PySem.mem_of_lookup q2))
          have e5 := back _ _ hc'
          rw [l2] at e5
          cases e5
          refine .inr ⟨?_, c, hc', ?_⟩
          · exact relabel_free q2
          · obtain ⟨o, ho, hd⟩ := l3
            exact ⟨o, kp _ _ ho, hd⟩
  · obtain ⟨v, o, ho, hd⟩ := I.cell x c (back _ _ e)
    exact ⟨v, o, kp _ _ ho, hd⟩
  · show (seen js σ).length = N.length
    unfold seen
    rw [List.length_map, hlen]
theorem compLoop_any {prog : Program} {w : World} {A : Around} {R : Result → Shared → Prop} {s : Shared} {it acc : Value} {env : Env} (I : Nat → Shared → Prop)
    (turn : ∀ n s, I n s → wpAny (model prog w) A (pyNext it) (fun r s₁ => match r with
      | none => R (.ok .next) s₁
      | some v => wpAny (model prog w) A (letOwnedTupleGo tg it v) (fun _ s₁' => wpAny (model prog w) A (assign tg env v) (fun _ s₂ =>
          wpAny (model prog w) A (eval elt env) (fun x s₄ =>
              wpAny (model prog w) A (call (.builtin "list.append") [acc, x]) (fun _ s₅ => ∃ m, m < n ∧ I m s₅) (fun _ _ => False) s₄) (fun _ _ => False) s₂) (fun _ _ => False) s₁') (fun _ _ => False) s₁) (fun _ _ => False) s)
    (n : Nat) (h : I n s) :
    codeAny (model prog w) A (.compLoop (.ListComp elt [⟨tg, iter, [], 0⟩] scope pos) 0 it acc env) R s := by
  refine codeAny_loop rfl I (fun n s hI => ?_) n h
  show wpAny _ A ((compTurn (.ListComp elt [⟨tg, iter, [], 0⟩] scope pos) 0 it acc env).onRaise (fun x => do noteFrame x env; theTreesLotGoes x)) _ _ s
  refine wpAny_noted ?_
  rw [compTurn_list1]
  refine wpAny_bind (wpAny_standAt (wpAny_bind (wpAny_mono (turn n s hI) (fun r s₁ h₁ => ?_) fun _ _ h' => h'.elim)))
  cases r with
  | none => exact wpAny_pure h₁
  | some v =>
    refine wpAny_bind (wpAny_mono h₁ (fun _ s₁' h₁' => ?_) fun _ _ h' => h'.elim)
    refine wpAny_bind (wpAny_mono h₁' (fun _ s₂ h₂ => ?_) fun _ _ h' => h'.elim)
    exact wpAny_bind (wpAny_bind (wpAny_mono h₂ (fun x s₄ h₄ => wpAny_bind (wpAny_mono h₄ (fun _ s₅ h₅ => wpAny_pure (wpAny_pure ⟨rfl, h₅⟩)) fun _ _ h' => h'.elim)) fun _ _ h' => h'.elim))
def tComp (js : List (Option Nat)) (wi : TI) (g : TG) (te : TE) : TE := fun σ H Q => wi σ H fun J H1 => ∀ D, H1 D = none → ∃ W : Nat → Nat → St → Hp → Prop, (∃ m, W 0 m (seen js σ) (upd H1 D (.lst []))) ∧
  ∀ i m σ' H', W i m σ' H' → (J.stop i H' ∧ Q (.ref D) H') ∨ (J.go i H' ∧ ∀ x H2, J.yld i H' x H2 → g x σ' H2 fun σ3 H3 => te σ3 H3 fun v H4 => ∃ xs, H4 D = some (.lst xs) ∧ xs.length < sizeLine ∧ ∃ m', m' < m ∧ W (i + 1) m' σ3 (upd H4 D (.lst (xs ++ [v]))))
theorem comp_core {wi : TI} {g : TG} {te : TE} {use : Option (Value → Sem Unit)} {Qv : Value → Shared → Prop} (hc : X.calm = true) (hi : PI X tg iter wi) (hk : scope.kind = .function) (hck : compChk X scope N js = true)
    (hg : ∀ fp s H, PG (cxComp X scope N fp s H) tg g) (he : ∀ fp s H, PE (cxComp X scope N fp s H) elt te)
    (hs : ∀ x, foldedSetIterable iter X.env x = pure x)
    {pins : List (Addr × Obj)} {σ : St} {H : Hp} {s : Shared} {Q : VK} (I : Inv X pins σ H s) (h : tComp js wi g te σ H Q)
    (hend : ∀ (D C : Addr) (H' : Hp) (s' : Shared), Inv X pins σ H' s' → (∃ m, s'.heap.Ns C m) → FpOk X pins H' C → Q (.ref D) H' → compPost (model X.prog X.w) X.A X.xe use Qv (.ref D) C (.ok .next) s') :
    wpAny (model X.prog X.w) X.A (comprehension (.ListComp elt [⟨tg, iter, [], 0⟩] scope pos) scope X.env (firstIterPos [⟨tg, iter, [], 0⟩] pos) (newList []) false (eval iter X.env) use) Qv X.xe s := by
  have hck' := hck
  unfold compChk at hck'
  simp only [Bool.and_eq_true] at hck'
  obtain ⟨⟨h1, _⟩, _⟩ := hck'
  have g1 : ∀ p ∈ scope.names, p.2 ≠ .cell ∧ (p.2 = .free → X.env.kindOf p.1 = some .cell) ∧ (p.2 = .local → scope.names.lookup p.1 = some .local) := fun p hp => by
    have q := List.all_eq_true.mp h1 p hp
    simp only [Bool.and_eq_true, bne_iff_ne, ne_eq, Bool.or_eq_true, beq_iff_eq] at q
    exact ⟨q.1.1, fun e => q.1.2.resolve_left fun z => z e, fun e => q.2.resolve_left fun z => z e⟩
  have hcl : ∀ p ∈ scope.names, p.2 = .free → ∃ c, X.env.cells.lookup p.1 = some c := fun p hp e => I.ok.has _ (.inl ((g1 p hp).2.1 e))
  refine wpAny_comprehension_free (use := use) (g := ⟨tg, iter, [], 0⟩) (gs := []) rfl hs (closureFor_G hcl) hk (fun p hp e => (g1 p hp).2.2 e) ?_
  refine thn (hi pins s σ H _ I h) fun v s1 h1 => thn h1 fun itv s2 h2 => ?_
  obtain ⟨it, fp, tn, J, H2, e, I2, T, st2, f2, hW⟩ := h2
  subst e
  have hfl : ∀ b ∈ fp, b < s2.heap.objs.size := fun b hb => by
    obtain ⟨o, ho, _⟩ := T.obj _ _ st2 b hb
    exact Heap.lt_size ho
  have hD : H2 s2.heap.objs.size = none := I2.hok.fresh (Nat.le_refl _)
  obtain ⟨W, ⟨m0, w0⟩, turn⟩ := hW _ hD
  refine wpAny_newObj_type (wpAny_newFunctionEnv (fun x hx => (g1 x hx).1) (by intro y hy; simp at hy) (fun h₁ hns₁ hsb₁ => ?_) hk)
  dsimp only at hns₁ hsb₁ ⊢
  have I3 : Inv X pins σ (upd H2 s2.heap.objs.size (.lst [])) { s2 with heap := s2.heap.push { cls := .type "list", dict := none, data := .seq ([] : List Value).toArray }, toks := s2.toks } :=
    I2.laid (t' := s2.toks) (fun b u e => Heap.get?_push_of_some _ e) (Nat.le_refl _) ⟨Nat.zero_le _, [], 0, .nil, Heap.get?_push_size _ rfl⟩
  generalize hs3 : ({ s2 with heap := s2.heap.push { cls := .type "list", dict := none, data := .seq ([] : List Value).toArray }, toks := s2.toks } : Shared) = s3 at I3
  have hh3 : s3.heap = s2.heap.push { cls := .type "list", dict := none, data := .seq ([] : List Value).toArray } := by rw [← hs3]
  have e3 : ({ s2 with heap := h₁, toks := s2.toks + ([] : List (Str × Value)).length } : Shared) = { s3 with heap := h₁, toks := s3.toks } := by rw [← hs3]; rfl
  rw [e3]
  rw [← hh3] at hns₁ hsb₁ ⊢
  generalize hH3 : upd H2 s2.heap.objs.size (.lst []) = H3 at I3 w0
  generalize hDs : s2.heap.objs.size = D at *
  have f3 : ∀ b ∈ fp, FpOk X pins H3 b := fun b hb => by
    refine ⟨?_, (f2 b hb).2⟩
    rw [← hH3, upd_ne (Nat.ne_of_lt (hfl b hb))]
    exact (f2 b hb).1
  have szD : s3.heap.objs.size = D + 1 := by rw [hh3, Heap.size_push]; rw [← hDs]
  have hfl3 : ∀ b ∈ fp, b < s3.heap.objs.size := fun b hb => Nat.lt_of_lt_of_le (hfl b hb) (by rw [szD]; exact Nat.le_succ _)
  have kp : ∀ b o, s3.heap.get? b = some o → h₁.get? b = some o := fun b o e => by
    rw [hsb₁.2 b (Nat.ne_of_lt (Heap.lt_size e))]
    exact Heap.get?_push_of_some _ e
  have st3 : tn 0 h₁ := T.keep 0 _ _ st2 fun b hb o e => kp b o (by rw [hh3]; exact Heap.get?_push_of_some _ e)
  have J0 : Inv (cxComp X scope N fp s3 H3) [] (seen js σ) H3 { s3 with heap := h₁, toks := s3.toks } := comp_start I3 hk hck f3 hfl3 hns₁ kp
  have fpc : ∀ {H' : Hp}, (∀ b ∈ fp, H' b = none) → ∀ b ∈ fp, FpOk (cxComp X scope N fp s3 H3) [] H' b := fun hn b hb =>
    ⟨hn b hb, (J0.ok.exf b hb).1, J0.ok.exfs b hb, .inl hb, (J0.ok.exf b hb).2, fun p hp => by cases hp⟩
  have lp : codeAny (model X.prog X.w) X.A (.compLoop (.ListComp elt [⟨tg, iter, [], 0⟩] scope pos) 0 (.ref it) (.ref D) (compEnvC scope (closG X.env scope.names []) s3.heap.objs.size X.env))
      (compPost (model X.prog X.w) X.A X.xe use Qv (.ref D) s3.heap.objs.size) { s3 with heap := h₁, toks := s3.toks } := by
    refine compLoop_any (fun n s' => ∃ i σ' H', Inv (cxComp X scope N fp s3 H3) [] σ' H' s' ∧ tn i s'.heap ∧ (∀ b ∈ fp, H' b = none) ∧ W i n σ' H') ?_ m0 ⟨0, _, H3, J0, st3, fun b hb => (f3 b hb).1, w0⟩
    rintro n s4 ⟨i, σ4, H4, I4, st4, fr4, w4⟩
    rcases turn i n σ4 H4 w4 with ⟨stop, qn⟩ | ⟨go, step⟩
    · refine thn (T.done (cxComp X scope N fp s3 H3) rfl rfl rfl hc i [] s4 σ4 H4 (fun _ _ => False) I4 (fpc fr4) st4 stop) fun r s5 ⟨hr, I5⟩ => ?_
      subst hr
      have I6 : Inv X pins σ H4 s5 := I3.call' (ch := fp) I5.os I5.base I5.hok I5.bare fun b hb => ⟨(f3 b hb).2.2.2.1, (f3 b hb).2.1, (f3 b hb).2.2.2.2.1, (f3 b hb).2.2.2.2.2⟩
      have fC : FpOk X pins H4 s3.heap.objs.size := I3.fpOk (Nat.le_refl _) I5.free
      obtain ⟨m, hn, _⟩ := I5.loc
      exact hend D s3.heap.objs.size H4 s5 I6 ⟨m, hn⟩ fC qn
    · refine thn (T.item (cxComp X scope N fp s3 H3) rfl rfl rfl hc i [] s4 σ4 H4 (fun _ _ => False) I4 (fpc fr4) st4 go) fun r s5 ⟨u, hr, h5⟩ => ?_
      subst hr
      refine thn h5 fun _ s6 ⟨x, H6, I6, r6, y6, st6, fr6⟩ => ?_
      have I6' := I6.pinned (fpc fr6) (T.obj _ _ st6)
      refine thn (hg fp s3 H3 _ s6 σ4 H6 x u _ I6' r6 (step x H6 y6)) fun _ s7 ⟨σ7, H7, I7, q7⟩ => ?_
      refine thn (he fp s3 H3 _ s7 σ7 H7 _ I7 q7) fun u8 s8 ⟨v8, H8, I8, r8, xs, e8, l8, m', hm, w8⟩ => ?_
      refine thn (mt_append _ s8 σ7 H8 (.ref D) [v8] (.ref D) [u8] (fun _ H9 => H9 = upd H8 D (.lst (xs ++ [v8]))) I8 rfl (.cons r8 .nil) ⟨D, xs, v8, rfl, rfl, e8, l8, rfl⟩) fun _ s9 ⟨v9, H9, I9, _, e9⟩ => ?_
      subst e9
      refine ⟨m', hm, i + 1, σ7, _, I9.unpinned, T.keep _ _ _ st6 fun b hb o e => (I9.pin (b, o) (List.mem_append_right _ (List.mem_append_right _ (mem_pinsAt hb e)))).1, fun b hb => ?_, w8⟩
      obtain ⟨o, e, d⟩ := T.obj _ _ st6 b hb
      exact (I9.pin (b, o) (List.mem_append_right _ (List.mem_append_right _ (mem_pinsAt hb e)))).2.1
  exact codeAny_compStart_list lp (T.self _ 0 _ _ _ st3 lp)
theorem pe_comp {wi : TI} {g : TG} {te : TE} (N : List Str) (js : List (Option Nat)) (hc : X.calm = true) (hi : PI X tg iter wi)
    (hg : ∀ fp s H, PG (cxComp X scope N fp s H) tg g) (he : ∀ fp s H, PE (cxComp X scope N fp s H) elt te) (hk : scope.kind = .function := by rfl) (hck : compChk X scope N js = true := by rfl)
    (hs : ∀ x, foldedSetIterable iter X.env x = pure x := by intro _; rfl) : PE X (.ListComp elt [⟨tg, iter, [], 0⟩] scope pos) (tComp js wi g te) := by
  intro pins s σ H Q I h
  rw [eval_ListComp]
  refine comp_core (use := none) hc hi hk hck hg he hs I h fun D C H' s' I' hC fC q => ?_
  obtain ⟨m, hn⟩ := hC
  refine ⟨m, hn, fun h' sb => ?_⟩
  obtain ⟨f0, f1, f2, f3, f4, f5⟩ := fC
  exact ⟨.ref D, H', I'.turned (t' := s'.toks) (fun b o hb e => (sb.2 b hb).trans e) f0 f1 f3 f4 f5, rfl, q⟩
end
end L2
set_option maxRecDepth 100000
namespace L2
open PySem PySem.Spec PyProof.Rows
section
variable {X : Cx}
def CDivL (_ j : Int) : Prop := 0 < j ∧ j < 2 ^ 250
theorem log2_small {j : Int} (h0 : 0 < j) (h : j < 2 ^ 250) : j.natAbs.log2 < 9000 := by
  have h1 : j.natAbs < 2 ^ 250 := by
    have e : (j.natAbs : Int) = j := Int.natAbs_of_nonneg (Int.le_of_lt h0)
    have : ((j.natAbs : Nat) : Int) < ((2 ^ 250 : Nat) : Int) := by rw [e]; exact h
    exact Int.ofNat_lt.mp this
  have h2 : j.natAbs ≠ 0 := by omega
  exact Nat.lt_of_lt_of_le ((Nat.log2_lt h2).mpr h1) (by decide)
theorem op_fdivL : OpR X (binaryOp .FloorDiv) (rI CDivL fun i j => .int (i / j)) := opI fun i j _ _ _ _ _ hc q => by
  refine floordiv_int (by have := hc.1; omega) ?_ (.inl (PyProof.noPylong_of_log2 (log2_small hc.1 hc.2)))
  rw [Int.fdiv_eq_ediv_of_nonneg _ (Int.le_of_lt hc.1)]
  exact q
def subTy (a b : String) : Bool := a == b || (a == "bool" && b == "int")
theorem kit_sub {K : PySem.W.Frag} {t n : String} (ht : t = "NoneType" ∨ t = "bool" ∨ t = "int" ∨ t = "str") (hn : n = "int" ∨ n = "bool" ∨ n = "str" ∨ n = "list" ∨ n = "tuple" ∨ n = "dict") : PySem.W.kitOne K (.type t) (.type n) = some (subTy t n) := by
  rcases ht with rfl | rfl | rfl | rfl <;> rcases hn with rfl | rfl | rfl | rfl | rfl | rfl <;> kernel_rfl
theorem pe_ty {x : Str} {n : String} {pos : Pos} (hg : Gl X x) (hm : X.mg x = none) (hv : bootBuiltins x = some (.type n)) (hn : x ≠ "__name__" := by decide) (hd : (x == ("__debug__" : Str)) = false := by decide) : PE X (.Name x pos) (tC (.ty n)) :=
  pe_bltn hg hm hv rfl hn hd
theorem boot_isinstance : bootBuiltins "isinstance" = some (.builtin "isinstance") := by decide +kernel
theorem boot_max : bootBuiltins "max" = some (.builtin "max") := by decide +kernel
theorem boot_int : bootBuiltins "int" = some (.type "int") := by decide +kernel
theorem boot_bool : bootBuiltins "bool" = some (.type "bool") := by decide +kernel
theorem boot_strT : bootBuiltins "str" = some (.type "str") := by decide +kernel
end
structure FunD (K : PySem.W.Frag) (x qual : Str) (st : Stmt) (dV : Value) (f : Addr) (fd : FuncData) : Prop where
  ex : ∃ (oc : Value) (od : Option Addr) (kV doc pm : Value) (an : Option Addr) (cdv ct : Value) (osl : Array (Option Value)),
    fd = PySem.W.fnOf x qual (defArgs st) (defBody st) (defScope st) dV kV doc pm an cdv ct ∧ K.lookup f = some ⟨oc, od, .func fd, osl⟩ ∧ PySem.W.codeIn K cdv qual = true
  kp : PySem.W.keepIn K (.ref f) = true
section
variable {P : Program} {w : World} {K : PySem.W.Frag} {mg : Str → Option Value} {base : Heap}
theorem fund_mk {x qual : Str} {st : Stmt} {f : Addr} {oc dV : Value} {od an : Option Addr} {osl : Array (Option Value)} {kV doc pm cdv ct : Value} (l : K.lookup f = some ⟨oc, od, .func (PySem.W.fnOf x qual (defArgs st) (defBody st) (defScope st) dV kV doc pm an cdv ct), osl⟩)
    (c : PySem.W.codeIn K cdv qual = true) (k : PySem.W.keepIn K (.ref f) = true) : FunD K x qual st dV f (PySem.W.fnOf x qual (defArgs st) (defBody st) (defScope st) dV kV doc pm an cdv ct) := ⟨⟨oc, od, kV, doc, pm, an, cdv, ct, osl, rfl, l, c⟩, k⟩
theorem FunD.binds {x qual : Str} {st : Stmt} {T f : Addr} {fd : FuncData} {ps : List Str} {ds dvs : List Value} {tc : Value} {td : Option Addr} {n : Nat} {tsl : Array (Option Value)} (m : Nat) (hm : m + ds.length = ps.length) (F : FunD K x qual st (.ref T) f fd) (ht : K.lookup T = some ⟨tc, td, .seq dvs.toArray n, tsl⟩)
    (h : ∀ (kV doc pm : Value) (an : Option Addr) (cdv ct : Value) (us : List Value), us.length = m → ∃ k, bindArgs (PySem.W.fnOf x qual (defArgs st) (defBody st) (defScope st) (.ref T) kV doc pm an cdv ct) ⟨us, []⟩ = seqItems? (.ref T) >>= k ∧ k (some dvs.toArray) = pure (ps.zip (us ++ ds))) : Binds K fd ps ds := by
  obtain ⟨oc, od, kV, doc, pm, an, cdv, ct, osl, rfl, lk, hcd⟩ := F.ex
  intro s us X hl
  rw [List.length_append] at hl
  obtain ⟨k, h1, h2⟩ := h kV doc pm an cdv ct us (by omega)
  exact PySem.W.binds_K X rfl ht rfl h1 h2
def gAB {α : Type} (a b : Nat) (us ws : List α) : List α := if us.length = a ∧ ws.length = b then us ++ ws else []
theorem gAB_rel {a b : Nat} {vs : List V} {us : List Value} {zs : List V} {ws : List Value} (r : Vals vs us) (q : Vals zs ws) : Vals (gAB a b vs zs) (gAB a b us ws) := by
  unfold gAB
  rw [r.length, q.length]
  split
  · exact r.append q
  · exact .nil
theorem FunD.kbinds {x qual : Str} {st : Stmt} {T f : Addr} {fd : FuncData} {ps ks : List Str} {dvs : List Value} {tc : Value} {td : Option Addr} {n : Nat} {tsl : Array (Option Value)} (a b : Nat) (hab : 0 < ps.length)
    (F : FunD K x qual st (.ref T) f fd) (ht : K.lookup T = some ⟨tc, td, .seq dvs.toArray n, tsl⟩)
    (h : ∀ (kV doc pm : Value) (an : Option Addr) (cdv ct : Value) (us ws : List Value), us.length = a → ws.length = b → ∃ k, bindArgs (PySem.W.fnOf x qual (defArgs st) (defBody st) (defScope st) (.ref T) kV doc pm an cdv ct) ⟨us, ks.zip ws⟩ = seqItems? (.ref T) >>= k ∧ k (some dvs.toArray) = pure (ps.zip (us ++ ws))) : KBinds K fd ps ks (gAB a b) (gAB a b) := by
  obtain ⟨oc, od, kV, doc, pm, an, cdv, ct, osl, rfl, lk, hcd⟩ := F.ex
  refine ⟨fun s us ws X hl => ?_, gAB_rel⟩
  have hc : us.length = a ∧ ws.length = b := by
    unfold gAB at hl
    split at hl
    · assumption
    · rw [List.length_nil] at hl; omega
  obtain ⟨k, h1, h2⟩ := h kV doc pm an cdv ct us ws hc.1 hc.2
  have e : gAB a b us ws = us ++ ws := by unfold gAB; rw [if_pos hc]
  rw [e]
  exact PySem.W.binds_K X rfl ht rfl h1 h2
end
end L2
set_option maxRecDepth 100000
namespace L2
open PySem PySem.Spec PyProof.Rows
section
variable {X : Cx}
def intsOf : List V → Option (List Int)
  | [] => some []
  | .int i :: r => match intsOf r with
    | some ns => some (i :: ns)
    | none => none
  | _ :: _ => none
theorem intsOf_eq : ∀ {vs : List V} {ns : List Int}, intsOf vs = some ns → vs = ns.map V.int
  | [], ns, h => by cases h; rfl
  | .int i :: r, ns, h => by
    unfold intsOf at h
    cases e : intsOf r with
    | none => rw [e] at h; cases h
    | some ms => rw [e] at h; cases h; rw [intsOf_eq e]; rfl
  | .non :: _, _, h => by cases h
  | .bl _ :: _, _, h => by cases h
  | .str _ :: _, _, h => by cases h
  | .byt _ :: _, _, h => by cases h
  | .flt _ :: _, _, h => by cases h
  | .ref _ :: _, _, h => by cases h
  | .ty _ :: _, _, h => by cases h
def menu (ns : List Int) (k : Int) : Int := ns.getD k.toNat 0
def tMenu (t : TA) (ti : TE) : TE := fun σ H Q => t σ H fun vs H1 => vs.length ≤ 1000 ∧ ti σ H1 fun i H2 => ∃ ns k, intsOf vs = some ns ∧ i = .int k ∧ 0 ≤ k ∧ k < (ns.length : Int) ∧ (ns.length : Int) < 1000 ∧ Q (.int (menu ns k)) H2
theorem menu_all {P : Int → Prop} {ns : List Int} {k : Int} (h : ∀ x ∈ ns, P x) (h0 : 0 ≤ k) (h1 : k < (ns.length : Int)) : P (menu ns k) := by
  have hl : k.toNat < ns.length := by omega
  unfold menu
  rw [List.getD_eq_getElem?_getD, List.getElem?_eq_getElem hl, Option.getD_some]
  exact h _ (List.getElem_mem hl)
theorem le_line {n : Nat} (h : n ≤ 1000) : n ≤ sizeLine := Nat.le_trans h (by decide)
theorem pe_menu {es : List Expr} {idx : Expr} {t : TA} {ti : TE} {p pos : Pos} (h : PA X es t) (hb : PE X idx ti) (hs : PlainIx idx) : PE X (.Subscript (.List es p) idx pos) (tMenu t ti) := by
  intro pins s σ H Q I hq
  refine Subscript_ ?_
  refine wpAny_List_spliced (thn (h p pins s σ H _ I hq) fun us s1 ⟨xs, H1, I1, r, e, q⟩ => ⟨?_, ?_⟩)
  · rw [← r.length]; exact le_line e
  have hf : H1 s1.heap.objs.size = none := I1.hok.fresh (Nat.le_refl _)
  have I2 : Inv X pins σ H1 { s1 with heap := s1.heap.push { cls := .type "list", data := .seq us.toArray }, toks := s1.toks } := I1.kept (t' := s1.toks) fun b u e => Heap.get?_push_of_some _ e
  have hp := I1.fpOk (H' := H1) (Nat.le_refl _) hf
  have I3 : Inv X (pins ++ [(s1.heap.objs.size, ({ cls := .type "list", data := .seq us.toArray } : Obj))]) σ H1 { s1 with heap := s1.heap.push { cls := .type "list", data := .seq us.toArray }, toks := s1.toks } :=
    I2.pins_of fun q hq => (List.mem_append.mp hq).elim (fun z => I2.pin q (List.mem_append_right _ z)) fun z => by
      have e : q = (s1.heap.objs.size, ({ cls := .type "list", data := .seq us.toArray } : Obj)) := by simpa using z
      subst e
      exact ⟨Heap.get?_push_size _ rfl, hf, hp.2.1, hp.2.2.1, fun v => by intro z; cases z⟩
  refine thn (hb _ _ σ H1 _ I3 q) fun u s4 ⟨y, H4, I4, r4, q4⟩ => ?_
  obtain ⟨ns, k, e1, rfl, h0, h1, h2, qq⟩ := q4
  obtain ⟨tk, rfl⟩ := r4
  have e2 := intsOf_eq e1
  subst e2
  have hl : k.toNat < ns.length := by omega
  have hx : (ns.map V.int)[k.toNat]? = some (.int (menu ns k)) := by
    rw [List.getElem?_map, List.getElem?_eq_getElem hl]
    unfold menu
    rw [List.getD_eq_getElem?_getD, List.getElem?_eq_getElem hl]
    rfl
  obtain ⟨w, ew, rw'⟩ := r.get hx
  have hpin := (I4.pin (s1.heap.objs.size, { cls := .type "list", data := .seq us.toArray }) (List.mem_append_right _ (List.mem_append_right _ List.mem_cons_self))).1
  exact item_listR (items := us.toArray) ⟨_, hpin, rfl, 0, rfl⟩ h0 (by omega) (by simpa using ew) ⟨.int (menu ns k), H4, I4.unpinned, rw', qq⟩ (hs _ _)
def CPowS (i j : Int) : Prop := 0 ≤ j ∧ j ≤ 1000000 ∧ -(2 ^ 64) < i ∧ i < 2 ^ 64
theorem op_powS : OpR X (binaryOp .Pow) (rI CPowS fun i j => .int (i ^ j.toNat)) := opI fun i j _ _ _ _ _ hc q => pow_int_small hc.1 hc.2.1 (by have := hc.2.2; omega) q
def tTupS (t : TA) : TE := fun σ H Q => t σ H fun xs H1 => xs.length ≤ 1000 ∧ ∀ p, H1 p = none → Q (.ref p) (upd H1 p (.tup xs))
def tLstS (t : TA) : TE := fun σ H Q => t σ H fun xs H1 => xs.length ≤ 1000 ∧ ∀ p, H1 p = none → Q (.ref p) (upd H1 p (.lst xs))
theorem pe_tupS {es : List Expr} {t : TA} {x1} {pos : Pos} (h : PA X es t) : PE X (.Tuple es x1 pos) (tTupS t) := by
  intro pins s σ H Q I hq
  refine wpAny_Tuple_spliced (thn (h pos pins s σ H _ I hq) fun us s1 ⟨xs, H1, I1, r, z, q⟩ => ⟨by rw [← r.length]; exact le_line z, ?_⟩)
  have hf : H1 s1.heap.objs.size = none := I1.hok.fresh (Nat.le_refl _)
  refine ⟨.ref s1.heap.objs.size, upd H1 s1.heap.objs.size (.tup xs), I1.laid (t' := s1.toks) (fun b u e => Heap.get?_push_of_some _ e) (Nat.le_refl _) ?_, rfl, q _ hf⟩
  exact ⟨le_line z, us, r, ⟨_, Heap.get?_push_size _ rfl, rfl, _, rfl⟩⟩
theorem pe_lstS {es : List Expr} {t : TA} {pos : Pos} (h : PA X es t) : PE X (.List es pos) (tLstS t) := by
  intro pins s σ H Q I hq
  refine wpAny_List_spliced (thn (h pos pins s σ H _ I hq) fun us s1 ⟨xs, H1, I1, r, z, q⟩ => ⟨by rw [← r.length]; exact le_line z, ?_⟩)
  have hf : H1 s1.heap.objs.size = none := I1.hok.fresh (Nat.le_refl _)
  refine ⟨.ref s1.heap.objs.size, upd H1 s1.heap.objs.size (.lst xs), I1.laid (t' := s1.toks) (fun b u e => Heap.get?_push_of_some _ e) (Nat.le_refl _) ?_, rfl, q _ hf⟩
  exact ⟨le_line z, us, 0, r, Heap.get?_push_size _ rfl⟩
end
theorem seq_cut {t u : TS} {D : Ends} {σ : St} {H : Hp} (M : St → Hp → Prop) (h1 : ∀ N : St → Hp → Prop, (∀ σ' H', M σ' H' → N σ' H') → t { D with nx := N } σ H) (h2 : ∀ σ' H', M σ' H' → u D σ' H') : tSeq t u D σ H := h1 (u D) h2
end L2
namespace L2
theorem seq_cut2 {t t2 u : TS} {D : Ends} {σ : St} {H : Hp} (M : St → Hp → Prop) (h1 : ∀ N : St → Hp → Prop, (∀ σ' H', M σ' H' → N σ' H') → tSeq t t2 { D with nx := N } σ H) (h2 : ∀ σ' H', M σ' H' → u D σ' H') : tSeq t (tSeq t2 u) D σ H := h1 (u D) h2
theorem seq_cut3 {t t2 t3 u : TS} {D : Ends} {σ : St} {H : Hp} (M : St → Hp → Prop) (h1 : ∀ N : St → Hp → Prop, (∀ σ' H', M σ' H' → N σ' H') → tSeq t (tSeq t2 t3) { D with nx := N } σ H) (h2 : ∀ σ' H', M σ' H' → u D σ' H') : tSeq t (tSeq t2 (tSeq t3 u)) D σ H := h1 (u D) h2
theorem seq_cut4 {t t2 t3 t4 u : TS} {D : Ends} {σ : St} {H : Hp} (M : St → Hp → Prop) (h1 : ∀ N : St → Hp → Prop, (∀ σ' H', M σ' H' → N σ' H') → tSeq t (tSeq t2 (tSeq t3 t4)) { D with nx := N } σ H) (h2 : ∀ σ' H', M σ' H' → u D σ' H') : tSeq t (tSeq t2 (tSeq t3 (tSeq t4 u))) D σ H := h1 (u D) h2
end L2
set_option maxRecDepth 100000
namespace L2
open PySem PySem.Spec PyProof.Rows
section
variable {X : Cx}
theorem sl_listK (K : PySem.W.Frag) (hK : X.K = K := by rfl) : SlR X (rSlL K) := by subst hK; exact sl_list
theorem ix_listK (K : PySem.W.Frag) (hK : X.K = K := by rfl) : IxR X (rIxL K) := by subst hK; exact ix_list
theorem ix_tupK (K : PySem.W.Frag) (hK : X.K = K := by rfl) : IxR X (rIxT K) := by subst hK; exact ix_tup
theorem call_lenK (K : PySem.W.Frag) (hK : X.K = K := by rfl) : CallR X (.builtin "len") (fun xs H Q => ∃ p ys, xs = [.ref p] ∧ (SqL K H p ys ∨ SqT K H p ys) ∧ Q (.int ys.length) H) := by subst hK; exact call_len_seq
theorem pi_listK {tg l : Expr} {tl : TE} (K : PySem.W.Frag) (hl : PE X l tl) (hK : X.K = K := by rfl) : PI X tg l (iList K tl) := by subst hK; exact pi_list hl
theorem pi_tupK {tg l : Expr} {tl : TE} (K : PySem.W.Frag) (hl : PE X l tl) (hK : X.K = K := by rfl) : PI X tg l (iTup K tl) := by subst hK; exact pi_tup hl
theorem pg_tupK {es : List Expr} {k : Nat} {t : TGs} {n : Nat} {pos : Pos} (K : PySem.W.Frag) (hc : X.calm = true) (h : PGs X es t) (hn : (assignEach es X.env).length = n := by rfl) (hst : (assignEach es X.env).findIdx? (·.1) = none := by rfl) (hK : X.K = K := by rfl) : PG X (.Tuple es k pos) (gTup K n t) := by subst hK; exact pg_tup hc h hn hst
theorem pe_fldK {e : Expr} {ta : TE} {f : Str} {pos : Pos} (K : PySem.W.Frag) (he : PE X e ta) (hb : attributeBase e f X.env (eval e X.env) = eval e X.env := by rfl) (hK : X.K = K := by rfl) : PE X (.Attribute e f pos) (tFld K ta f) := by subst hK; exact pe_fld he hb
end
def TSame (H H' : Hp) : Prop := ∀ b xs, H b = some (.tup xs) → H' b = some (.tup xs)
theorem Same.tup {H H' : Hp} (h : Same H H') : TSame H H' := fun b xs e => h b _ e
theorem TSame.trans {H H1 H2 : Hp} (a : TSame H H1) (b : TSame H1 H2) : TSame H H2 := fun c o h => b c o (a c o h)
theorem Same.upd {H H' : Hp} {p : Addr} {o : HO} (s : Same H H') (h : H p = none) : Same H (upd H' p o) := fun b u e => by
  rw [upd_ne (ne_of_none e h)]; exact s b u e
theorem Same.new {H : Hp} {p : Addr} {o : HO} (h : H p = none) : Same H (L2.upd H p o) := (Same.refl H).upd h
theorem Same.none {H H' : Hp} (s : Same H H') {p : Addr} (h : H' p = none) : H p = none := s.free h
theorem comp_rel {K : PySem.W.Frag} {a D : Addr} {xs : List V} {g : TG} {te : TE} {σ0 : St} {H1 : Hp} {Q : Hp → Prop} (R : V → V → Hp → Prop) (ok : St → Prop) (mono : ∀ H H' x v, TSame H H' → R x v H → R x v H')
    (sq : SqL K H1 a xs) (hD : H1 D = none) (hz : xs.length ≤ 1000) (h0 : ok σ0)
    (hs : ∀ x σ' H (N : St → V → Hp → Prop), x ∈ xs → ok σ' → Same H1 H → (∀ σ3 v H4, R x v H4 → Same H H4 → ok σ3 → N σ3 v H4) → g x σ' H fun σ3 H3 => te σ3 H3 fun v H4 => N σ3 v H4)
    (hd : ∀ ys H', Same H1 H' → H' D = some (.lst ys) → Paired (fun x v => R x v H') xs ys → Q H') :
    ∃ W : Nat → Nat → St → Hp → Prop, (∃ m, W 0 m σ0 (upd H1 D (.lst []))) ∧
      ∀ i m σ' H', W i m σ' H' → ((Itl K a).stop i H' ∧ Q H') ∨ ((Itl K a).go i H' ∧ ∀ x H2, (Itl K a).yld i H' x H2 → g x σ' H2 fun σ3 H3 => te σ3 H3 fun v H4 => ∃ xs, H4 D = some (.lst xs) ∧ xs.length < sizeLine ∧ ∃ m', m' < m ∧ W (i + 1) m' σ3 (upd H4 D (.lst (xs ++ [v])))) := by
  refine ⟨fun i m σ' H' => m = xs.length - i ∧ i ≤ xs.length ∧ ok σ' ∧ Same H1 H' ∧ ∃ ys, H' D = some (.lst ys) ∧ Paired (fun x v => R x v H') (xs.take i) ys, ⟨xs.length, by simp, Nat.zero_le _, h0, Same.new hD, [], upd_same, by rw [List.take_zero]; exact .nil⟩, ?_⟩
  rintro i m σ' H' ⟨rfl, hi, hok, hsm, ys, hy, hp⟩
  have sq' := hsm.seq sq
  have hyl : ys.length = i := by rw [← Paired.length hp, List.length_take, Nat.min_eq_left hi]
  by_cases hlt : i < xs.length
  · refine .inr ⟨⟨xs, xs[i], sq', by simp [hlt]⟩, fun x H2 y => ?_⟩
    obtain ⟨e, y⟩ := y
    subst e
    have hx := y xs sq'
    refine hs x σ' _ (fun σ3 v H4 => ∃ xs', H4 D = some (.lst xs') ∧ xs'.length < sizeLine ∧ ∃ m', m' < xs.length - i ∧ _) (List.mem_of_getElem? hx) hok hsm fun σ3 v H4 r s4 ok3 => ?_
    have tD : TSame H4 (upd H4 D (.lst (ys ++ [v]))) := fun b zs e => by
      rw [upd_ne (ne_of e (s4 _ _ hy) (by intro z; cases z))]; exact e
    refine ⟨ys, s4 _ _ hy, Nat.lt_of_lt_of_le (show ys.length < 1001 by omega) (by decide), xs.length - (i + 1), by omega, rfl, hlt, ok3, (hsm.trans s4).upd hD, ys ++ [v], upd_same, ?_⟩
    have e2 : xs.take (i + 1) = xs.take i ++ [x] := by
      rw [List.take_add_one, hx]; rfl
    rw [e2]
    exact Paired.snoc (Paired.mapP hp fun b w q => mono _ _ _ _ (s4.tup.trans tD) q) (mono _ _ _ _ tD r)
  · have e : i = xs.length := by omega
    subst e
    rw [List.take_length] at hp
    exact .inl ⟨⟨xs, sq', Nat.le_refl _⟩, hd ys H' hsm hy hp⟩
theorem paired_map {α β : Type} {f : α → β} : ∀ {xs : List α} {ys : List β}, Paired (fun x y => y = f x) xs ys → ys = xs.map f
  | _, _, .nil => rfl
  | _, _, .cons h t => by rw [h, paired_map t]; rfl
theorem comp_mp {K : PySem.W.Frag} {a D : Addr} {xs : List V} {g : TG} {te : TE} {σ0 : St} {H1 : Hp} {Q : Hp → Prop} (f : V → V) (ok : St → Prop)
    (sq : SqL K H1 a xs) (hD : H1 D = none) (hz : xs.length ≤ 1000) (h0 : ok σ0)
    (hs : ∀ x σ' H (N : St → V → Hp → Prop), x ∈ xs → ok σ' → Same H1 H → (∀ σ3 H4, Same H H4 → ok σ3 → N σ3 (f x) H4) → g x σ' H fun σ3 H3 => te σ3 H3 fun v H4 => N σ3 v H4)
    (hd : ∀ H', Same H1 H' → H' D = some (.lst (xs.map f)) → Q H') :
    ∃ W : Nat → Nat → St → Hp → Prop, (∃ m, W 0 m σ0 (upd H1 D (.lst []))) ∧
      ∀ i m σ' H', W i m σ' H' → ((Itl K a).stop i H' ∧ Q H') ∨ ((Itl K a).go i H' ∧ ∀ x H2, (Itl K a).yld i H' x H2 → g x σ' H2 fun σ3 H3 => te σ3 H3 fun v H4 => ∃ xs, H4 D = some (.lst xs) ∧ xs.length < sizeLine ∧ ∃ m', m' < m ∧ W (i + 1) m' σ3 (upd H4 D (.lst (xs ++ [v])))) :=
  comp_rel (fun x v _ => v = f x) ok (fun _ _ _ _ _ h => h) sq hD hz h0 (fun x σ' H N hx ho sm q => hs x σ' H N hx ho sm fun σ3 H4 s4 o3 => q σ3 _ H4 rfl s4 o3) fun ys H' sm hy hp => hd H' sm (by rw [← paired_map hp]; exact hy)
end L2
set_option maxRecDepth 100000
namespace L2
open PySem PySem.Spec PyProof.Rows
end L2
set_option maxRecDepth 100000
namespace L2
open PySem PySem.Spec PyProof.Rows
theorem comp_rng {D : Addr} {lo : Int} {n : Nat} {g : TG} {te : TE} {σ0 : St} {H1 : Hp} {Q : Hp → Prop} (R : Nat → V → Hp → Prop) (ok : St → Prop) (mono : ∀ H H' i v, TSame H H' → R i v H → R i v H')
    (hD : H1 D = none) (hz : n ≤ 1000) (h0 : ok σ0)
    (hs : ∀ i σ' H (N : St → V → Hp → Prop), i < n → ok σ' → Same H1 H → (∀ σ3 v H4, R i v H4 → Same H H4 → ok σ3 → N σ3 v H4) → g (.int (lo + i)) σ' H fun σ3 H3 => te σ3 H3 fun v H4 => N σ3 v H4)
    (hd : ∀ ys H', Same H1 H' → H' D = some (.lst ys) → ys.length = n → (∀ i v, ys[i]? = some v → R i v H') → Q H') :
    ∃ W : Nat → Nat → St → Hp → Prop, (∃ m, W 0 m σ0 (upd H1 D (.lst []))) ∧
      ∀ i m σ' H', W i m σ' H' → ((Itr lo n).stop i H' ∧ Q H') ∨ ((Itr lo n).go i H' ∧ ∀ x H2, (Itr lo n).yld i H' x H2 → g x σ' H2 fun σ3 H3 => te σ3 H3 fun v H4 => ∃ xs, H4 D = some (.lst xs) ∧ xs.length < sizeLine ∧ ∃ m', m' < m ∧ W (i + 1) m' σ3 (upd H4 D (.lst (xs ++ [v])))) := by
  refine ⟨fun i m σ' H' => m = n - i ∧ i ≤ n ∧ ok σ' ∧ Same H1 H' ∧ ∃ ys, H' D = some (.lst ys) ∧ ys.length = i ∧ ∀ j v, ys[j]? = some v → R j v H', ⟨n, by simp, Nat.zero_le _, h0, Same.new hD, [], upd_same, rfl, by simp⟩, ?_⟩
  rintro i m σ' H' ⟨rfl, hi, hok, hsm, ys, hy, hyl, hp⟩
  by_cases hlt : i < n
  · refine .inr ⟨hlt, fun x H2 y => ?_⟩
    obtain ⟨e, y⟩ := y
    subst e y
    refine hs i σ' _ (fun σ3 v H4 => ∃ xs', H4 D = some (.lst xs') ∧ xs'.length < sizeLine ∧ ∃ m', m' < n - i ∧ _) hlt hok hsm fun σ3 v H4 r s4 ok3 => ?_
    have tD : TSame H4 (upd H4 D (.lst (ys ++ [v]))) := fun b zs e => by
      rw [upd_ne (ne_of e (s4 _ _ hy) (by intro z; cases z))]; exact e
    refine ⟨ys, s4 _ _ hy, Nat.lt_of_lt_of_le (show ys.length < 1001 by omega) (by decide), n - (i + 1), by omega, rfl, hlt, ok3, (hsm.trans s4).upd hD, ys ++ [v], upd_same, by rw [List.length_append, hyl]; rfl, fun j u e => ?_⟩
    by_cases hj : j < ys.length
    · rw [List.getElem?_append_left hj] at e
      exact mono _ _ _ _ (s4.tup.trans tD) (hp j u e)
    · rw [List.getElem?_append_right (by omega)] at e
      have : j - ys.length = 0 := by
        have := (List.getElem?_eq_some_iff.mp e).1
        simp at this
        omega
      rw [this] at e
      have e : v = u := by simpa using e
      subst e
      have : j = i := by omega
      rw [this]
      exact mono _ _ _ _ tD r
  · have e : i = n := by omega
    subst e
    exact .inl ⟨Nat.le_refl _, hd ys H' hsm hy hyl hp⟩
end L2
namespace L2
open PySem PySem.Spec PyProof.Rows
def rIxH : R2 := fun x y H Q => ∃ p xs i v, x = .ref p ∧ y = .int i ∧ H p = some (.lst xs) ∧ atI xs i = some v ∧ Q v H
theorem ix_lst {X : Cx} : IxR X rIxH := fun value slice pins s σ H x y v u Q I rx ry h hs =>
  ix_list value slice pins s σ H x y v u Q I rx ry (let ⟨p, xs, i, w, e1, e2, e3, e4, q⟩ := h; ⟨p, xs, i, w, e1, e2, SqL.of e3, e4, q⟩) hs
theorem atI_0 {α : Type} (a : α) (l : List α) : atI (a :: l) 0 = some a := by exact atI_nat (j := 0) rfl
theorem atI_1 {α : Type} (a b : α) (l : List α) : atI (a :: b :: l) 1 = some b := by exact atI_nat (j := 1) rfl
theorem atI_2 {α : Type} (a b c : α) (l : List α) : atI (a :: b :: c :: l) 2 = some c := by exact atI_nat (j := 2) rfl
theorem atI_3 {α : Type} (a b c d : α) (l : List α) : atI (a :: b :: c :: d :: l) 3 = some d := by exact atI_nat (j := 3) rfl
end L2
set_option maxRecDepth 100000
namespace L2
open PySem PySem.Spec PyProof.Rows
section
variable {X : Cx}
end
end L2
set_option maxRecDepth 100000
namespace L2
open PySem PySem.Spec PyProof.Rows
def FlyAt (h : Heap) (ea T : Addr) (cls : Value) (dx : Option Addr) (fl : Value) : Prop :=
  ∃ oe vs oT ts a0, h.get? ea = some oe ∧ oe.cls = cls ∧ oe.dict = dx ∧ oe.data = .fields vs ∧ vs[0]? = some a0 ∧ vs[1]? = some (.ref T) ∧ T ≠ ea ∧ h.get? T = some oT ∧ oT.data = .fields ts ∧ ts[3]? = some fl
abbrev Fly (h : Heap) (ea T : Addr) (cls : Value) (dx : Option Addr) : Prop := FlyAt h ea T cls dx .none
def Made (h : Heap) (ea : Addr) (cls : Value) (dx : Option Addr) : Prop := ∃ oe vs a0, h.get? ea = some oe ∧ oe.cls = cls ∧ oe.dict = dx ∧ oe.data = .fields vs ∧ vs[0]? = some a0 ∧ vs[1]? = some .none ∧ vs[2]? = some .none ∧ 4 < vs.size
structure Moved (h h' : Heap) (fs ch : List Addr) : Prop where
  keep : ∀ b o, h.get? b = some o → b ∉ ch → b ∉ fs → h'.get? b = some o
  slot : ∀ b o, h.get? b = some o → b ∉ ch → b ∈ fs → ∃ sl, h'.get? b = some { o with slots := sl }
theorem Moved.one {h h' : Heap} {fs : List Addr} {T : Addr} (k : ∀ b, b ≠ T → h'.get? b = h.get? b) : Moved h h' fs [T] :=
  ⟨fun b o e n _ => by rw [k b (by simpa using n)]; exact e, fun b o e n _ => ⟨o.slots, by rw [k b (by simpa using n)]; exact e⟩⟩
theorem Moved.trans {h h1 h2 : Heap} {fs ch ch' : List Addr} (a : Moved h h1 fs ch) (b : Moved h1 h2 fs ch') : Moved h h2 fs (ch ++ ch') :=
  ⟨fun c o e n m => b.keep c o (a.keep c o e (fun z => n (List.mem_append_left _ z)) m) (fun z => n (List.mem_append_right _ z)) m, fun c o e n m => by
    obtain ⟨sl, e1⟩ := a.slot c o e (fun z => n (List.mem_append_left _ z)) m
    obtain ⟨sl', e2⟩ := b.slot c _ e1 (fun z => n (List.mem_append_right _ z)) m
    exact ⟨sl', e2⟩⟩
theorem Moved.less {h h' : Heap} {fs ch : List Addr} (a : Moved h h' fs ch) {ch' : List Addr} (k : ∀ b ∈ ch, b ∈ ch' ∨ h.get? b = none) : Moved h h' fs ch' :=
  have z : ∀ b o, h.get? b = some o → b ∉ ch' → b ∉ ch := fun b o e n m => (k b m).elim n fun q => by rw [e] at q; cases q
  ⟨fun b o e n m => a.keep b o e (z b o e n) m, fun b o e n m => a.slot b o e (z b o e n) m⟩
theorem dict_map (o : Obj) (g) : (o.mapFields g).dict = o.dict := by
  cases o with
  | mk c d dt sl => cases dt <;> rfl
section
variable {M : Model} {A : Around} {E : Value → Shared → Prop} {s : Shared} {env : Env} {outer : List Env} {base : Heap} {L ea T : Addr} {cls fl : Value} {dx : Option Addr} {Q : Unit → Shared → Prop}
theorem entry_on {head : Value} {had : Bool} {oe : Obj} {vs : Array Value} {a0 : Value} (hfr : A.frames = some (env :: outer)) (hl : s.heap.FunFrames base (env :: outer)) (hf : env.frame = some L)
    (e1 : s.heap.get? ea = some oe) (e2 : oe.cls = cls) (e3 : oe.dict = dx) (e4 : oe.data = .fields vs) (e5 : vs[0]? = some a0) (e6 : 1 < vs.size)
    (h : ∀ h' T', FlyAt h' ea T' cls dx (rawInt L) → s.heap.get? T' = none → Moved s.heap h' (frs (env :: outer)) [ea] → Q () { s with heap := h' }) :
    wpAny M A (do let a ← frameOf env; let pl ← entryPlaceOf L had; let b ← EntryCells.newEntry head a .none (rawInt L) .none pl; setField (.ref ea) 1 b) Q E s := by
  have nfr : ea ∉ frs (env :: outer) := fun m => by
    obtain ⟨_, o', q1, q2⟩ := hl.mem m
    rw [e1] at q1
    cases q1
    exact q2 vs e4
  refine wpAny_bind (wpAny_frameOf_fun hfr hl hf fun g1 so => wpAny_bind (wpAny_entryPlaceOf fun pl isp => ?_))
  unfold EntryCells.newEntry newFields
  refine wpAny_bind (wpAny_newObj_type ?_ (isp.sizeOk5 _ _ _ _ _))
  have at1 : g1.get? ea = some oe := (so.2.1 ea nfr).trans e1
  have neT : g1.objs.size ≠ ea := Nat.ne_of_gt (Heap.lt_size at1)
  have len5 : ∀ (l : List Value), (([head, .ref L, .none, rawInt L, .none] ++ l).toArray)[3]? = some (rawInt L) := fun l => by simp
  generalize ho : ({ cls := .type "traceback", dict := none, data := .fields ([head, .ref L, .none, rawInt L, .none] ++ (if pl.isEmpty then List.replicate 6 Value.none else pl)).toArray } : Obj) = ot
  have hod : ot.data = .fields ([head, .ref L, .none, rawInt L, .none] ++ (if pl.isEmpty then List.replicate 6 Value.none else pl)).toArray := by rw [← ho]
  have hnf : ot.isFreed = false := Obj.isFreed_of_fields hod
  have at2 : (g1.push ot).get? ea = some oe := Heap.get?_push_of_some _ at1
  refine wpAny_setField at2 e4 e6 (h _ g1.objs.size ?_ ?_ ?_)
  · have fd := Obj.data_mapFields e4 (·.setIfInBounds 1 (Value.ref g1.objs.size))
    refine ⟨_, _, ot, _, a0, Heap.get?_update_self _ at2 (Obj.isFreed_of_fields fd), by rw [Obj.cls_mapFields]; exact e2, by rw [dict_map]; exact e3, fd, by rw [Array.getElem?_setIfInBounds_ne (by decide)]; exact e5, by simp [e6], neT, ?_, hod, len5 _⟩
    rw [Heap.get?_update_other _ _ (Ne.symm neT)]
    exact Heap.get?_push_size g1 hnf
  · exact Heap.get?_none_of_le (by rw [so.1]; exact Nat.le_refl _)
  · refine ⟨fun b o q n1 n2 => ?_, fun b o q n1 n2 => ?_⟩
    · rw [Heap.get?_update_other _ _ (fun z => n1 (by simp [z]))]
      exact Heap.get?_push_of_some _ ((so.2.1 b n2).trans q)
    · obtain ⟨sl, q2⟩ := so.2.2 b o q
      refine ⟨sl, ?_⟩
      rw [Heap.get?_update_other _ _ (fun z => n1 (by simp [z]))]
      exact Heap.get?_push_of_some _ q2
theorem note_new (hfr : A.frames = some (env :: outer)) (hl : s.heap.FunFrames base (env :: outer)) (hf : env.frame = some L) (m : Made s.heap ea cls dx)
    (h : ∀ h' T', FlyAt h' ea T' cls dx (rawInt L) → s.heap.get? T' = none → Moved s.heap h' (frs (env :: outer)) [ea] → Q () { s with heap := h' }) : wpAny M A (noteFrame (.ref ea) env) Q E s := by
  obtain ⟨oe, vs, a0, e1, e2, e3, e4, e5, e6, _⟩ := m
  unfold noteFrame
  simp only [hf]
  refine wpAny_bind (wpAny_field e1 e4 e6 ?_)
  rw [if_neg (by decide)]
  exact entry_on hfr hl hf e1 e2 e3 e4 e5 (Array.getElem?_eq_some_iff.mp e6).1 h
theorem note_on (hfr : A.frames = some (env :: outer)) (hl : s.heap.FunFrames base (env :: outer)) (hf : env.frame = some L) (m : Fly s.heap ea T cls dx)
    (h : ∀ h' T', FlyAt h' ea T' cls dx (rawInt L) → s.heap.get? T' = none → Moved s.heap h' (frs (env :: outer)) [T, ea] → Q () { s with heap := h' }) : wpAny M A (noteFrame (.ref ea) env) Q E s := by
  obtain ⟨oe, vs, oT, ts, a0, e1, e2, e3, e4, e5, e6, e7, e8, e9, e10⟩ := m
  unfold noteFrame
  simp only [hf]
  refine wpAny_bind (wpAny_field e1 e4 e6 ?_)
  rw [if_pos (by simp)]
  refine wpAny_bind (wpAny_field e8 e9 e10 ?_)
  rw [if_neg (by simp [rawInt])]
  refine wpAny_bind (wpAny_setField e8 e9 (Array.getElem?_eq_some_iff.mp e10).1 ?_)
  have oth : ∀ b, b ≠ T → (s.heap.update T (Obj.mapFields (·.setIfInBounds 3 Value.none))).get? b = s.heap.get? b := fun b n => Heap.get?_update_other _ _ (Ne.symm n)
  have rec' : ∀ b o, s.heap.get? b = some o → (∀ vs, o.data ≠ .fields vs) → b ≠ T := fun b o q nf z => by
    rw [z, e8] at q
    cases q
    exact nf ts e9
  have mv := Moved.one (fs := frs (env :: outer)) oth
  refine entry_on (s := { s with heap := _ }) hfr (hl.of_keeps fun b o q nf => ⟨o, (oth b (rec' b o q nf)).trans q, rfl⟩) hf ((oth ea (Ne.symm e7)).trans e1) e2 e3 e4 e5 (Array.getElem?_eq_some_iff.mp e6).1 fun h' T' f1 f2 f3 => h h' T' f1 ?_ (mv.trans f3)
  cases q : s.heap.get? T' with
  | none => rfl
  | some o =>
    by_cases z : T' = T
    · rw [z, Heap.get?_update_self _ e8 (Obj.isFreed_of_fields (Obj.data_mapFields e9 _))] at f2; cases f2
    · rw [oth T' z, q] at f2; cases f2
theorem flight_off (m : FlyAt s.heap ea T cls dx fl) (h : ∀ h', Fly h' ea T cls dx → (∀ b, b ≠ T → h'.get? b = s.heap.get? b) → Q () { s with heap := h' }) : wpAny M A (setFlight (.ref ea) none) Q E s := by
  obtain ⟨oe, vs, oT, ts, a0, e1, e2, e3, e4, e5, e6, e7, e8, e9, e10⟩ := m
  have sz : 3 < ts.size := (Array.getElem?_eq_some_iff.mp e10).1
  unfold setFlight
  refine wpAny_bind (wpAny_field e1 e4 e6 ?_)
  rw [if_pos (by simp)]
  have oth : ∀ b, b ≠ T → (s.heap.update T (Obj.mapFields (·.setIfInBounds 3 Value.none))).get? b = s.heap.get? b := fun b n => Heap.get?_update_other _ _ (Ne.symm n)
  refine wpAny_setField e8 e9 sz (h _ ⟨oe, vs, _, _, a0, (oth ea (Ne.symm e7)).trans e1, e2, e3, e4, e5, e6, e7, Heap.get?_update_self _ e8 (Obj.isFreed_of_fields (Obj.data_mapFields e9 _)), Obj.data_mapFields e9 _, by simp [sz]⟩ oth)
theorem leave_first (hfr : A.frames = some (env :: outer)) (hl : s.heap.FunFrames base (env :: outer)) (hf : env.frame = some L) (m : Made s.heap ea cls dx)
    (h : ∀ h' T', Fly h' ea T' cls dx → s.heap.get? T' = none → Moved s.heap h' (frs (env :: outer)) [ea] → Q () { s with heap := h' }) : wpAny M A (leaving env (.ref ea)) Q E s := by
  unfold leaving
  refine wpAny_bind (note_new hfr hl hf m fun h1 T1 f1 f2 f3 => ?_)
  refine flight_off (s := { s with heap := h1 }) f1 fun h2 f4 f5 => h h2 T1 f4 f2 ?_
  exact (f3.trans (Moved.one f5)).less fun b hb => (List.mem_append.mp hb).imp id fun z => by rw [List.mem_singleton] at z; rw [z]; exact f2
theorem look_on (hfr : A.frames = some (env :: outer)) (hl : s.heap.FunFrames base (env :: outer)) (hf : env.frame = some L) (m : Fly s.heap ea T cls dx)
    (h : ∀ h' T', Fly h' ea T' cls dx → s.heap.get? T' = none → Moved s.heap h' (frs (env :: outer)) [ea, T] → Q () { s with heap := h' }) :
    wpAny M A (noteFrame (.ref ea) env) (fun _ s2 => wpAny M A (setFlight (.ref ea) none) Q E s2) E s := by
  refine note_on hfr hl hf m fun h1 T1 f1 f2 f3 => ?_
  refine flight_off (s := { s with heap := h1 }) f1 fun h2 f4 f5 => h h2 T1 f4 f2 ?_
  refine (f3.trans (Moved.one f5)).less fun b hb => ?_
  rcases List.mem_append.mp hb with z | z
  · exact .inl (by simp at z ⊢; exact z.symm)
  · rw [List.mem_singleton] at z; rw [z]; exact .inr f2
theorem leave_on (hfr : A.frames = some (env :: outer)) (hl : s.heap.FunFrames base (env :: outer)) (hf : env.frame = some L) (m : Fly s.heap ea T cls dx)
    (h : ∀ h' T', Fly h' ea T' cls dx → s.heap.get? T' = none → Moved s.heap h' (frs (env :: outer)) [ea, T] → Q () { s with heap := h' }) : wpAny M A (leaving env (.ref ea)) Q E s := by
  unfold leaving
  exact wpAny_bind (look_on hfr hl hf m h)
end
theorem ObjOk.there {P : Program} {w : World} {H : Hp} {h : Heap} {a : Addr} {o : HO} (x : ObjOk P w H h a o) : ∃ u, h.get? a = some u := by
  cases o with
  | lst xs => obtain ⟨_, _, _, _, e⟩ := x; exact ⟨_, e⟩
  | tup xs => obtain ⟨_, _, _, o, e, _⟩ := x; exact ⟨_, e⟩
  | dK kvs => obtain ⟨_, _, _, _, o, _, _, e, _⟩ := x; exact ⟨_, e⟩
  | dT kvs => obtain ⟨_, _, _, _, o, _, _, e, _⟩ := x; exact ⟨_, e⟩
  | set S n => obtain ⟨o, _, _, _, e, _⟩ := x; exact ⟨_, e⟩
  | ins C dx fs => obtain ⟨_, _, _, e, _⟩ := x; exact ⟨_, e⟩
  | own y => exact x
  | xd fs => obtain ⟨_, ⟨_, _, _, e, _⟩, _⟩ := x; exact ⟨_, e⟩
  | rng lo hi => obtain ⟨_, _, _, e⟩ := x; exact ⟨_, e⟩
  | frz ob u => obtain ⟨e, _⟩ := x; exact ⟨_, e⟩
  | tbl ps => exact ⟨_, x⟩
  | met f y => exact ⟨_, x⟩
  | ext φ => exact x.2.1
theorem HOk.none_of {P : Program} {w : World} {H : Hp} {h : Heap} (k : HOk P w H h) {a : Addr} (e : h.get? a = none) : H a = none := by
  cases q : H a with
  | none => rfl
  | some o => obtain ⟨u, e2⟩ := (k a o q).there; rw [e] at e2; cases e2
section
variable {X : Cx} {pins : List (Addr × Obj)} {σ : St} {H : Hp} {s : Shared} {h' : Heap}
theorem Inv.moved {ch : List Addr} (I : Inv X pins σ H s) (m : Moved s.heap h' (frs X.stack) ch) (hn : ∀ b ∈ ch, H b = none) (h0 : ∀ b ∈ ch, X.s₀.heap.get? b = none) (hL : ∀ b ∈ ch, b ≠ X.env.locals)
    (hc : ∀ b ∈ ch, ∀ x c, X.env.cells.lookup x = some c → c ≠ b) (hp : ∀ b ∈ ch, ∀ p ∈ X.pn ++ pins, p.1 ≠ b) : Inv X pins σ H { s with heap := h' } := by
  have any : ∀ b o, b ∉ ch → s.heap.get? b = some o → ∃ sl, h'.get? b = some { o with slots := sl } := fun b o hb e => by
    by_cases m1 : b ∈ frs X.stack
    · exact m.slot b o e hb m1
    · exact ⟨o.slots, m.keep b o e hb m1⟩
  have neC : ∀ b o, X.s₀.heap.get? b = some o → b ∉ ch := fun b o e hb => by rw [h0 b hb] at e; cases e
  have neL : ∀ b o, X.s₀.heap.get? b = some o → b ≠ X.env.locals := fun b o e => Nat.ne_of_lt (Nat.lt_of_lt_of_le (Heap.lt_size e) I.ok.above)
  have nst : ∀ b, b ≠ X.env.locals → b ∉ X.fs → b ∉ frs X.stack := fun b h1 h2 h3 => (List.mem_cons.mp (I.stkSub b h3)).elim h1 h2
  have cellK : ∀ x c, X.env.cells.lookup x = some c → ∀ v, s.heap.IsCell c v → h'.IsCell c v := fun x c e v ⟨o, ho, hd⟩ => by
    obtain ⟨sl, q⟩ := any c o (fun z => hc c z x c e rfl) ho
    exact ⟨_, q, hd⟩
  have trk : ∀ b u, H b = some u → b ∉ ch ∧ b ∉ frs X.stack := fun b u e => ⟨fun z => (by rw [hn b z] at e; cases e), fun z => (by rw [I.stkFree b z] at e; cases e)⟩
  refine ⟨I.ok, I.os, I.bare, ⟨fun b o e n hb hx => ?_, fun b o e n hb hx => ?_, I.base.free, fun b o e hx => ?_, I.base.tups, I.base.frzs, I.base.tbls⟩, ?_, fun x c e => ?_, I.free, I.freeC, fun p hq => ?_, fun b u e => ?_, I.len⟩
  · exact m.keep b o (I.base.keep b o e n hb hx) (neC b o e) (nst b (neL b o e) hb)
  · obtain ⟨sl, e1⟩ := I.base.slot b o e n hb hx
    obtain ⟨sl', e2⟩ := any b _ (neC b o e) e1
    exact ⟨sl', e2⟩
  · obtain ⟨o', e1⟩ := I.base.there b o e hx
    obtain ⟨sl, e2⟩ := any b o' (neC b o e) e1
    exact ⟨_, e2⟩
  · obtain ⟨mm, ⟨o, es, ep, ho, r⟩, hl⟩ := I.loc
    obtain ⟨sl, e2⟩ := any _ o (fun z => hL _ z rfl) ho
    refine ⟨mm, ⟨_, es, ep, e2, r⟩, fun i x v e1 e2 e3 => ?_⟩
    obtain ⟨u, rr, l⟩ := hl i x v e1 e2 e3
    refine ⟨u, rr, ?_⟩
    rcases l with l | ⟨k, c, e, z⟩
    · exact .inl l
    · exact .inr ⟨k, c, e, cellK x c e _ z⟩
  · obtain ⟨v, z⟩ := I.cell x c e
    exact ⟨v, cellK x c e v z⟩
  · obtain ⟨e, n, ne, nf, d⟩ := I.pin p hq
    exact ⟨m.keep p.1 p.2 e (fun z => hp _ z p hq rfl) (nst _ ne nf), n, ne, nf, d⟩
  · refine (I.hok b u e).stay (fun c v hcv q => ?_) (fun _ q => q) fun _ _ q => q
    have z : c ∉ ch ∧ c ∉ frs X.stack := by
      rcases hcv with rfl | hcv
      · exact trk c u e
      · exact trk c _ hcv
    exact m.keep c v q z.1 z.2
structure Apart (X : Cx) (pins : List (Addr × Obj)) (H : Hp) (b : Addr) : Prop where
  trk : H b = none
  old : X.s₀.heap.get? b = none
  loc : b ≠ X.env.locals
  cell : ∀ x c, X.env.cells.lookup x = some c → c ≠ b
  pin : ∀ p ∈ X.pn ++ pins, p.1 ≠ b
theorem Inv.moved' {ch : List Addr} (I : Inv X pins σ H s) (m : Moved s.heap h' (frs X.stack) ch) (ha : ∀ b ∈ ch, Apart X pins H b) : Inv X pins σ H { s with heap := h' } :=
  I.moved m (fun b hb => (ha b hb).trk) (fun b hb => (ha b hb).old) (fun b hb => (ha b hb).loc) (fun b hb => (ha b hb).cell) fun b hb => (ha b hb).pin
theorem Inv.apart (I : Inv X pins σ H s) (hx : X.ex = []) {b : Addr} (e : s.heap.get? b = none) : Apart X pins H b := by
  refine ⟨I.hok.none_of e, ?_, ?_, fun x c hc z => ?_, fun p hp z => ?_⟩
  · cases q : X.s₀.heap.get? b with
    | none => rfl
    | some o =>
      obtain ⟨o', e1⟩ := I.base.there b o q (by rw [hx]; simp)
      rw [e] at e1; cases e1
  · rintro rfl
    obtain ⟨m, ⟨o, _, _, ho, _⟩, _⟩ := I.loc
    rw [e] at ho; cases ho
  · obtain ⟨v, o, ho, _⟩ := I.cell x c hc
    rw [z, e] at ho; cases ho
  · have := (I.pin p hp).1
    rw [z, e] at this; cases this
end
def CXE (P : Program) (w : World) : CXT := fun outer H s E e s' => ∃ (ea T : Addr) (cls : Value) (dx : Option Addr) (H' : Hp), e = .ref ea ∧ s'.os = s.os ∧ AllBare s'.gens ∧ Un (frs outer) [] H H' s.heap s'.heap ∧ HOk P w H' s'.heap ∧
  H' ea = none ∧ H' T = none ∧ s.heap.get? ea = none ∧ s.heap.get? T = none ∧ Fly s'.heap ea T cls dx ∧ E cls dx H'
theorem passE0 {P : Program} {w : World} {X : Cx} : Passes (CXE P w) X E0 := fun _ _ _ _ _ _ _ ⟨_, _, _, _, _, _, _, _, _, _, _, _, _, _, _, f⟩ => f.elim
section
variable {P : Program} {w : World} {K : PySem.W.Frag} {mg : Str → Option Value} {base : Heap} {N : List Str} {qual : Str} {scope : Scope} {f : Addr} {cd : Value} {A : Around} {outer : List Env} {s₀ : Shared} {H₀ : Hp} {E : XK}
abbrev cxE (P : Program) (w : World) (K : PySem.W.Frag) (mg : Str → Option Value) (base : Heap) (N : List Str) (qual : Str) (scope : Scope) (f : Addr) (cd : Value) (A : Around) (outer : List Env) (s₀ : Shared) (H₀ : Hp) (E : XK) : Cx :=
  cxOf (CXE P w) P w K mg base N qual scope f cd A outer s₀ H₀ E
theorem throw_ok {pins : List (Addr × Obj)} {σ : St} {H : Hp} {s : Shared} {ea : Addr} {cls : Value} {dx : Option Addr} (I : Inv (cxE P w K mg base N qual scope f cd A outer s₀ H₀ E) pins σ H s) (m : Made s.heap ea cls dx) (a : Apart (cxE P w K mg base N qual scope f cd A outer s₀ H₀ E) pins H ea) (e : E cls dx H) :
    (cxE P w K mg base N qual scope f cd A outer s₀ H₀ E).xe (.ref ea) s := by
  refine leave_first (base := base) (outer := outer) I.ok.frames I.stack rfl m fun h' T' fl nT mv => ?_
  have I' := I.moved' mv fun b hb => by
    rcases List.mem_cons.mp hb with rfl | hb
    · exact a
    · cases hb
  have aT := I.apart rfl nT
  exact ⟨ea, T', cls, dx, H, rfl, I'.os, I'.bare, I'.base, I'.hok, a.trk, aT.trk, a.old, aT.old, fl, e⟩
theorem passE : Passes (CXE P w) (cxE P w K mg base N qual scope f cd A outer s₀ H₀ E) E := by
  intro pins σ H s e s' I h
  obtain ⟨ea, T, cls, dx, H', rfl, h1, h2, h3, h4, h5, h6, h7, h8, h9, h10⟩ := h
  have a1 := I.apart rfl h7
  have a2 := I.apart rfl h8
  have I' := I.call' h1 h3 h4 h2 (by intro b hb; cases hb)
  refine leave_on (base := base) (outer := outer) I'.ok.frames I'.stack rfl h9 fun h' T' fl nT mv => ?_
  have I2 := I'.moved' mv fun b hb => by
    rcases List.mem_cons.mp hb with rfl | hb
    · exact ⟨h5, a1.old, a1.loc, a1.cell, a1.pin⟩
    · rcases List.mem_cons.mp hb with rfl | hb
      · exact ⟨h6, a2.old, a2.loc, a2.cell, a2.pin⟩
      · cases hb
  have aT := I'.apart rfl nT
  exact ⟨ea, T', cls, dx, H', rfl, I2.os, I2.bare, I2.base, I2.hok, h5, aT.trk, a1.old, aT.old, fl, h10⟩
end
end L2
set_option maxRecDepth 100000
namespace L2
open PySem PySem.Spec PyProof.Rows
abbrev veMro : List Value := [.type "ValueError", .type "Exception", .type "BaseException", .type "object"]
abbrev ExcC (K : PySem.W.Frag) (C : Addr) : Prop := PySem.W.excIn K C veMro "ValueError.__new__" = true
theorem exc_of {K : PySem.W.Frag} {g : Heap} {C : Addr} (kin : K.In g) (isx : ExcC K C) : ∃ nm qn N bs bm hdct sn sub ab col dd k0 k1 k2 k3 k5 mN, g.get? C = some (excClassObj nm qn C N bs bm hdct sn sub ab col dd k0 k1 k2 k3 k5 "ValueError.__new__") ∧
    g.Ns N mN ∧ mN "__init__" = none ∧ OwnTail g veMro bm := by
  unfold ExcC PySem.W.excIn at isx
  split at isx
  next dct cdat slo look =>
    split at isx
    next C2 tail s0 s1 s2 s3 made s5 mro slots =>
      simp only [Bool.and_eq_true, beq_iff_eq, Bool.not_eq_true'] at isx
      obtain ⟨⟨⟨⟨⟨e1, e2⟩, e3⟩, e4⟩, e5⟩, e6⟩ := isx
      cases cdat with
      | mk z1 z2 z3 z4 z5 z6 z7 z8 z9 z10 z11 =>
        dsimp only at mro e3 e5 e6
        subst e1 e2 mro e3
        cases slo with
        | mk lst =>
          dsimp only at slots
          subst slots
          exact ⟨_, _, _, _, _, _, _, _, _, _, _, _, _, _, _, _, _, kin _ _ look, .of_isNs (PySem.W.isNs_of_in kin e5), PySem.W.nsMap_none_of_in kin e5 e6, PySem.W.tail_of_in kin e4⟩
    next => cases isx
  next => cases isx
def tRaise (E : XK) (C : Addr) (t : TA) : TS := fun _ σ H => t σ H fun vs H1 => vs.length ≤ 1000 ∧ E (.ref C) none H1
section
variable {P : Program} {w : World} {K : PySem.W.Frag} {mg : Str → Option Value} {base : Heap} {N : List Str} {qual : Str} {scope : Scope} {f : Addr} {cd : Value} {A : Around} {outer : List Env} {s₀ : Shared} {H₀ : Hp} {E : XK}
theorem ps_raise {x : Str} {e : Expr} {es : List Expr} {t : TA} {C : Addr} {np cpos pos : Pos} (isx : ExcC K C) (hg : Gl (cxE P w K mg base N qual scope f cd A outer s₀ H₀ E) x) (hm : mg x = some (.ref C)) (ha : PA (cxE P w K mg base N qual scope f cd A outer s₀ H₀ E) (e :: es) t)
    (hdb : (x == ("__debug__" : Str)) = false := by decide) (he : starEach (e :: es) (cxE P w K mg base N qual scope f cd A outer s₀ H₀ E).env = (false, eval e (cxE P w K mg base N qual scope f cd A outer s₀ H₀ E).env) :: starEach es (cxE P w K mg base N qual scope f cd A outer s₀ H₀ E).env := by rfl)
    (hpl : (backTo cpos (starEach (e :: es) (cxE P w K mg base N qual scope f cd A outer s₀ H₀ E).env)).any (·.1) = false := by rfl) :
    PS (cxE P w K mg base N qual scope f cd A outer s₀ H₀ E) (.Raise (some (.Call (.Name x np) (e :: es) [] cpos)) none pos) (tRaise E C t) := by
  intro pins s σ H D I h
  obtain ⟨nm, qn, NN, bs, bm, hdct, sn, sub, ab, col, dd, k0, k1, k2, k3, k5, mN, c1, c2, c3, c4⟩ := exc_of I.mod.kin isx
  refine wpAny_Raise_call_subT (C := C) (nm := nm) (q := qn) (N := NN) (bs := bs) (bm := bm) (hdct := hdct) (sn := sn) (sub := sub) (ab := ab) (col := col) (dd := dd) (k0 := k0) (k1 := k1) (k2 := k2) (k3 := k3) (k5 := k5) PySem.F.excBase_ValueError (c4.hasType PySem.F.excBase_ValueError.hasBase) (I.ok.hd rfl) hpl c3 ?_
  refine ld_glob I hg hm ⟨rfl, ?_⟩ hdb
  have q := ha cpos pins s σ H _ I h
  rw [he] at q ⊢
  refine PySem.Calls.evalArgs_plain (thn q fun us s1 ⟨vs, H1, I1, r, q1⟩ => ?_)
  refine ⟨rfl, by rw [← r.length]; exact le_line q1.1, I1.bk _ _ c1, c2.keeps I1.bk, c4.keeps I1.bk, fun h' ea md => ?_⟩
  have I2 : Inv _ pins σ H1 { s1 with heap := h' } := I1.kept (t' := s1.toks) md.keeps
  obtain ⟨tp, e1, _, _⟩ := md.there
  refine throw_ok (cls := .ref C) (dx := none) I2 ⟨_, _, _, e1, rfl, rfl, rfl, rfl, rfl, rfl, by show 4 < 6; decide⟩ ?_ q1.2
  have a := I1.apart rfl md.new
  exact ⟨a.trk, a.old, a.loc, a.cell, a.pin⟩
theorem Fun.okE {x : Str} {st : Stmt} {fd : FuncData} {N ps : List Str} {k : Nat} {sp : Sp} (F : Fun K x qual st f fd) (S : FnScope N ps (defScope st)) (len : ∀ vs H Q E, sp vs H Q E → vs.length = ps.length)
    (hbody : ∀ (cdv : Value) (A : Around) (outer : List Env) (s : Shared) (H : Hp) (vs : List V) (Q : VK) (E : XK), Room k (A.deeper (envOfC qual (defScope st) s.heap.objs.size f cdv)) → sp vs H Q E →
      ∃ t, PSs (cxE P w K mg base N qual (defScope st) f cdv A outer s H E) (defBody st) t ∧ t { nx := fun _ H' => Q .non H', rt := Q } (start N vs) H) : FnOk P w K mg base (CXE P w) (k + 1) f fd ps sp := by
  obtain ⟨oc, od, kV, doc, pm, an, cdv, ct, osl, rfl, lk, hcd⟩ := F.ex
  exact fn_of lk hcd S len fun A outer s H vs Q E hr hsp => hbody cdv A outer s H vs Q E hr hsp
theorem Fun.okN {x : Str} {st : Stmt} {fd : FuncData} {N ps : List Str} {k : Nat} {sp : Sp} (F : Fun K x qual st f fd) (S : FnScope N ps (defScope st)) (len : ∀ vs H Q E, sp vs H Q E → vs.length = ps.length)
    (hbody : ∀ (cdv : Value) (A : Around) (outer : List Env) (s : Shared) (H : Hp) (vs : List V) (Q : VK) (E : XK), Room k (A.deeper (envOfC qual (defScope st) s.heap.objs.size f cdv)) → sp vs H Q E →
      ∃ t, PSs (cxE P w K mg base N qual (defScope st) f cdv A outer s H E).nox (defBody st) t ∧ t { nx := fun _ H' => Q .non H', rt := Q } (start N vs) H) : FnOk P w K mg base (CXE P w) (k + 1) f fd ps sp :=
  F.okE S len fun cdv A outer s H vs Q E hr hsp => let ⟨t, h, q⟩ := hbody cdv A outer s H vs Q E hr hsp; ⟨t, h.nox, q⟩
theorem FunD.okE {x : Str} {st : Stmt} {dV : Value} {fd : FuncData} {N ps : List Str} {k : Nat} {sp : Sp} (F : FunD K x qual st dV f fd) (S : FnScope N ps (defScope st)) (len : ∀ vs H Q E, sp vs H Q E → vs.length = ps.length)
    (hbody : ∀ (cdv : Value) (A : Around) (outer : List Env) (s : Shared) (H : Hp) (vs : List V) (Q : VK) (E : XK), Room k (A.deeper (envOfC qual (defScope st) s.heap.objs.size f cdv)) → sp vs H Q E →
      ∃ t, PSs (cxE P w K mg base N qual (defScope st) f cdv A outer s H E) (defBody st) t ∧ t { nx := fun _ H' => Q .non H', rt := Q } (start N vs) H) : FnOk P w K mg base (CXE P w) (k + 1) f fd ps sp := by
  obtain ⟨oc, od, kV, doc, pm, an, cdv, ct, osl, rfl, lk, hcd⟩ := F.ex
  exact fn_of lk hcd S len fun A outer s H vs Q E hr hsp => hbody cdv A outer s H vs Q E hr hsp
theorem FunD.okN {x : Str} {st : Stmt} {dV : Value} {fd : FuncData} {N ps : List Str} {k : Nat} {sp : Sp} (F : FunD K x qual st dV f fd) (S : FnScope N ps (defScope st)) (len : ∀ vs H Q E, sp vs H Q E → vs.length = ps.length)
    (hbody : ∀ (cdv : Value) (A : Around) (outer : List Env) (s : Shared) (H : Hp) (vs : List V) (Q : VK) (E : XK), Room k (A.deeper (envOfC qual (defScope st) s.heap.objs.size f cdv)) → sp vs H Q E →
      ∃ t, PSs (cxE P w K mg base N qual (defScope st) f cdv A outer s H E).nox (defBody st) t ∧ t { nx := fun _ H' => Q .non H', rt := Q } (start N vs) H) : FnOk P w K mg base (CXE P w) (k + 1) f fd ps sp :=
  F.okE S len fun cdv A outer s H vs Q E hr hsp => let ⟨t, h, q⟩ := hbody cdv A outer s H vs Q E hr hsp; ⟨t, h.nox, q⟩
end
def XP (X : Cx) (pins : List (Addr × Obj)) (σ : St) (E : XK) (e : Value) (s' : Shared) : Prop := ∃ ea T cls dx H', e = .ref ea ∧ Inv X pins σ H' s' ∧ Apart X pins H' ea ∧ Apart X pins H' T ∧ Fly s'.heap ea T cls dx ∧ E cls dx H'
def PX (X : Cx) (e : Expr) (t : XK → TE) : Prop :=
  ∀ (pins : List (Addr × Obj)) (s : Shared) (σ : St) (H : Hp) (Q : VK) (E : XK), Inv X pins σ H s → t E σ H Q → wpAny (model X.prog X.w) X.A (eval e X.env) (EP X pins σ Q) (XP X pins σ E) s
def PB (X : Cx) (sts : List Stmt) (t : XK → TS) : Prop :=
  ∀ (pins : List (Addr × Obj)) (s : Shared) (σ : St) (H : Hp) (D : Ends) (E : XK), Inv X pins σ H s → t E D σ H → wpAny (model X.prog X.w) X.A (execs sts X.env) (SP X pins D) (XP X pins σ E) s
section
variable {X : Cx} {k : Nat} {f C : Addr} {fd : FuncData} {ps : List Str} {sp : Sp} {dvs : List V} {ds : List Value} {x m : Str} {p pos apos : Pos} {e o : Expr} {es : List Expr} {ta : TE} {t : TA}
theorem xp_of (hx : X.ex = []) {pins : List (Addr × Obj)} {σ : St} {H : Hp} {s s' : Shared} {E : XK} {ev : Value} (I : Inv X pins σ H s) (h : CXE X.prog X.w X.stack H s E ev s') : XP X pins σ E ev s' := by
  obtain ⟨ea, T, cls, dx, H', rfl, h1, h2, h3, h4, h5, h6, h7, h8, h9, h10⟩ := h
  have a1 := I.apart hx h7
  have a2 := I.apart hx h8
  exact ⟨ea, T, cls, dx, H', rfl, I.call' h1 h3 h4 h2 (by intro b hb; cases hb), ⟨h5, a1.old, a1.loc, a1.cell, a1.pin⟩, ⟨h6, a2.old, a2.loc, a2.cell, a2.pin⟩, h9, h10⟩
theorem run_fnX (hx : X.ex = []) {pins : List (Addr × Obj)} {σ : St} {H : Hp} {s : Shared} {Q : VK} {E : XK} {us : List Value} {vs : List V} (F : FnOk X.prog X.w X.K X.mg X.base (CXE X.prog X.w) k f fd ps sp) (hr : Room k X.A) (hb : Binds X.K fd ps ds) (hd : Vals dvs ds)
    (I : Inv X pins σ H s) (r : Vals vs us) (h : sp (vs ++ dvs) H Q E) : wpAny (model X.prog X.w) X.A (call (.ref f) us) (EP X pins σ Q) (XP X pins σ E) s := by
  have r2 : Vals (vs ++ dvs) (us ++ ds) := r.append hd
  have hl : (us ++ ds).length = ps.length := by rw [← r2.length]; exact F.len _ _ _ _ h
  refine wpAny_call (codeAny_mono (F.run X.A X.stack s H ⟨us, []⟩ (us ++ ds) (vs ++ dvs) Q E hr I.env0 (hb s us I.kIn hl) r2 h) fun rr s' hq => ?_)
  cases rr with
  | error ev => exact xp_of hx I hq
  | ok fl =>
    cases fl with
    | ret u => exact I.after hq
    | next => exact False.elim hq
    | brk => exact False.elim hq
    | cont => exact False.elim hq
theorem px_call (hx : X.ex = []) (F : FnOk X.prog X.w X.K X.mg X.base (CXE X.prog X.w) k f fd ps sp) (hr : Room k X.A) (hg : Gl X x) (hm : X.mg x = some (.ref f)) (hk : PySem.W.keepIn X.K (.ref f) = true) (hb : Binds X.K fd ps ds) (hd : Vals dvs ds)
    (ha : ∀ E, PA (X.wish E) (e :: es) t) (hdb : (x == ("__debug__" : Str)) = false := by decide) (he : starEach (e :: es) X.env = (false, eval e X.env) :: starEach es X.env := by rfl) (hpl : (backTo pos (starEach es X.env)).any (·.1) = false := by rfl) :
    PX X (.Call (.Name x p) (e :: es) [] pos) (fun E => tCall sp dvs E t) := by
  intro pins s σ H Q E I h
  refine wpAny_Call_Name_kw (ld_glob I hg hm ?_ hdb)
  refine PySem.W.callWith_K (h₀ := X.base) I.ok.mod.kin hk (thn (ha (XP X pins σ E) pos pins s σ H _ (I.wish _) h) fun us s1 ⟨vs, H1, I1, r, q⟩ => ⟨I1.unwish.kIn, ?_⟩) he hpl
  exact run_fnX hx F hr hb hd I1.unwish r q
theorem pb_expr {te : XK → TE} (h : PX X e te) (hs : swapsWith e none pos.line X.env = pure false := by rfl) : PB X [.Expr e pos] (fun E => tDrop (te E)) := by
  intro pins s σ H D E I hw
  refine wpAny_execs_cons (wpAny_Expr_any (thn (h pins s σ H _ E I hw) fun v s1 ⟨y, H1, I1, r1, q1⟩ => ?_) I.quiet hs)
  exact wpAny_execs_nil ⟨σ, H1, I1, q1⟩
end
abbrev Cx.hand (X : Cx) (ea : Addr) : Cx := { X with A := X.A.mark (some (.ref ea)), calm := false, xe := fun _ _ => False }
theorem Cx.Ok.hand {X : Cx} (ok : X.Ok) (ea : Addr) : (X.hand ea).Ok :=
  ⟨ok.mod, ok.kind, ok.glob, ok.blt, ok.above, ok.inj, ok.has, ok.cab, (fun z => by cases z), ok.frames, ok.stk, ok.exf, ok.bs, ok.bsz, ok.noex, ok.exfs, ok.funs, ok.frf⟩
section
variable {X : Cx} {pins : List (Addr × Obj)} {σ : St} {H : Hp} {s : Shared} {ea : Addr}
theorem Inv.hand (I : Inv X pins σ H s) (ea : Addr) : Inv (X.hand ea) pins σ H s := ⟨I.ok.hand ea, I.os, I.bare, I.base, I.loc, I.cell, I.free, I.freeC, I.pin, I.hok, I.len⟩
theorem Inv.unhand (ok : X.Ok) (I : Inv (X.hand ea) pins σ H s) : Inv X pins σ H s := ⟨ok, I.os, I.bare, I.base, I.loc, I.cell, I.free, I.freeC, I.pin, I.hok, I.len⟩
def excAt (ea : Addr) (cls : Value) (dx : Option Addr) : HO := .ext fun h => ∃ oe vs, h.get? ea = some oe ∧ oe.cls = cls ∧ oe.dict = dx ∧ oe.data = .fields vs
theorem Inv.track {cls : Value} {dx : Option Addr} (I : Inv X pins σ H s) (a : Apart X pins H ea) (hx : ∃ oe vs, s.heap.get? ea = some oe ∧ oe.cls = cls ∧ oe.dict = dx ∧ oe.data = .fields vs) : Inv X pins σ (upd H ea (excAt ea cls dx)) s := by
  have ne : ∀ b o, X.s₀.heap.get? b = some o → b ≠ ea := fun b o e z => by rw [z, a.old] at e; cases e
  have nt : ∀ b o, H b = some o → b ≠ ea := fun b o e => ne_of_none e a.trk
  refine ⟨I.ok, I.os, I.bare, ⟨I.base.keep, I.base.slot, fun b o e n hx => ?_, I.base.there, fun b xs e => ?_, fun b o xs e => ?_, fun b ps e => ?_⟩, I.loc, I.cell, ?_, fun x c e => ?_, fun p hp => ?_, fun b u e => ?_, I.len⟩
  · rw [upd_ne (ne b o e)]; exact I.base.free b o e n hx
  · have q := I.base.tups b xs e
    rw [upd_ne (nt b _ q)]; exact q
  · have q := I.base.frzs b o xs e
    rw [upd_ne (nt b _ q)]; exact q
  · obtain ⟨mm, q⟩ := I.base.tbls b ps e
    exact ⟨mm, by rw [upd_ne (nt b _ q)]; exact q⟩
  · rw [upd_ne (Ne.symm a.loc)]; exact I.free
  · rw [upd_ne (a.cell x c e)]; exact I.freeC x c e
  · obtain ⟨q1, q2, q3⟩ := I.pin p hp
    exact ⟨q1, by rw [upd_ne (a.pin p hp)]; exact q2, q3⟩
  · by_cases hb : b = ea
    · subst hb
      rw [upd_same] at e
      cases e
      obtain ⟨oe, vs, q1, q2, q3⟩ := hx
      exact ⟨⟨oe, vs, q1, q2, q3⟩, ⟨oe, q1⟩, fun h1 h2 ⟨o1, v1, z1, z2⟩ k => ⟨o1, v1, k _ z1, z2⟩⟩
    · rw [upd_ne hb] at e
      exact (I.hok b u e).stay (fun _ _ _ q => q) (fun c q => by rw [upd_ne (nt c _ q)]; exact q) fun c xs q => by rw [upd_ne (nt c _ q)]; exact q
theorem name_goes {M : Model} {A : Around} {E : Value → Shared → Prop} {i : Nat} {n : Str} {pos : Pos} {Q : Unit → Shared → Prop} (I : Inv X pins σ H s) (hN : X.N.Nodup) (hi : X.N[i]? = some n) (hl : X.env.scope.names.lookup n = some .local)
    (h : ∀ s', Inv X pins (σ.set i none) H s' → Q () s') : wpAny M A (do bindName X.env n .none; unbindBehindTheSuite X.env n pos) Q E s := by
  obtain ⟨m, hn, hloc⟩ := I.loc
  refine wpAny_nameGoes_keeps hl hn (by rw [I.ok.kind]; rfl) fun h' v hn' hs => h _ ?_
  have keep : ∀ b o, b ≠ X.env.locals → s.heap.get? b = some o → h'.get? b = some o := fun b o ne e => (hs.2 b ne).trans e
  have neL : ∀ b o, X.s₀.heap.get? b = some o → b ≠ X.env.locals := fun b o e => Nat.ne_of_lt (Nat.lt_of_lt_of_le (Heap.lt_size e) I.ok.above)
  have lL : ∃ o, h'.get? X.env.locals = some o := by obtain ⟨o, _, _, ho, _⟩ := hn'; exact ⟨o, ho⟩
  refine ⟨I.ok, I.os, I.bare, ⟨fun b o e n1 hb hx => keep b o (neL b o e) (I.base.keep b o e n1 hb hx), fun b o e n1 hb hx => ?_, I.base.free, fun b o e hx => ?_, I.base.tups, I.base.frzs, I.base.tbls⟩, ⟨_, hn', fun j y v' e1 e2 e3 => ?_⟩, fun x c e => ?_, I.free, I.freeC, fun p hp => ?_, fun b u e => ?_, by rw [List.length_set]; exact I.len⟩
  · obtain ⟨sl, q⟩ := I.base.slot b o e n1 hb hx
    exact ⟨sl, keep b _ (neL b o e) q⟩
  · obtain ⟨o', q⟩ := I.base.there b o e hx
    exact ⟨o', keep b _ (neL b o e) q⟩
  · have hj : j ≠ i := fun z => by
      subst z
      by_cases hlt : j < σ.length
      · rw [List.getElem?_set_self hlt] at e2; cases e2
      · rw [List.getElem?_eq_none (by rw [List.length_set]; omega)] at e2; cases e2
    rw [List.getElem?_set_ne (Ne.symm hj)] at e2
    obtain ⟨u, r, q⟩ := hloc j y v' e1 e2 e3
    refine ⟨u, r, ?_⟩
    rcases q with ⟨k, e⟩ | ⟨k, c, e, z⟩
    · have ny : y ≠ n := fun z => hj (nodup_ix hN e1 (z ▸ hi))
      exact .inl ⟨k, by simp [ny, e]⟩
    · exact .inr ⟨k, c, e, z.sameBut hs (I.cne y c e)⟩
  · obtain ⟨v', z⟩ := I.cell x c e
    exact ⟨v', z.sameBut hs (I.cne x c e)⟩
  · obtain ⟨q1, q2, q3, q4⟩ := I.pin p hp
    exact ⟨keep _ _ q3 q1, q2, q3, q4⟩
  · have nL : ∀ c v, H c = some v → c ≠ X.env.locals := fun c v q => ne_of_none q I.free
    refine (I.hok b u e).stay (fun c v hc q => keep c v ?_ q) (fun _ q => q) fun _ _ q => q
    rcases hc with rfl | hc
    · exact nL c u e
    · exact nL c _ hc
end
def endsTry (i : Nat) (D : Ends) : Ends := { nx := fun σ H => D.nx (σ.set i none) H, rt := D.rt, bk := fun σ H => D.bk (σ.set i none) H, ct := fun σ H => D.ct (σ.set i none) H }
def tTry (K : PySem.W.Frag) (c : Value) (i : Nat) (tb : XK → TS) (ts : TS) : TS := fun D σ H =>
  tb (fun cls dx H' => PySem.W.exmOne K cls c = some true ∧ ∀ ea, H' ea = none → ts (endsTry i D) (σ.set i (some (.ref ea))) (upd H' ea (excAt ea cls dx))) D σ H
theorem ps_try {X : Cx} {body : List Stmt} {tb : XK → TS} {ts : TS} {cn n : Str} {C : Addr} {i : Nat} {b0 : Stmt} {suite : List Stmt} {np hpos pos : Pos} (K : PySem.W.Frag) (hx : X.ex = []) (hst : X.stack = X.env :: X.outer) (hfr : X.env.frame = some X.env.locals) (hb : PB X body tb)
    (hg : Gl X cn) (hm : X.mg cn = some (.ref C)) (hN : X.N.Nodup) (hi : X.N[i]? = some n) (hl : X.env.scope.names.lookup n = some .local) (hs : ∀ ea, PSs (X.hand ea) (b0 :: suite) ts) (hK : X.K = K := by rfl) (hdb : (cn == ("__debug__" : Str)) = false := by decide) :
    PS X (.Try body [.ExceptHandler (some (.Name cn np)) (some n) (b0 :: suite) hpos] [] [] pos) (tTry K (.ref C) i tb ts) := by
  subst hK
  intro pins s σ H D I h
  refine wpAny_Try_except (wpAny_mono (hb pins s σ H D _ I h) (fun fl s1 q => ?_) fun ev s1 z => ?_)
  · cases fl with
    | next =>
      obtain ⟨σ', H', I', q⟩ := q
      exact wpAny_execs_nil ⟨σ', H', I', q⟩
    | ret v => exact q
    | brk => exact q
    | cont => exact q
  obtain ⟨ea, T, cls, dx, H1, rfl, I1, a1, a2, fly, hcl, hsu⟩ := z
  have stk : ∀ {s : Shared} {σ : St} {H : Hp}, Inv X pins σ H s → s.heap.FunFrames X.base (X.env :: X.outer) := fun {s σ H} I => by have := I.stack; rw [hst] at this; exact this
  have two : ∀ {T : Addr}, Apart X pins H1 T → ∀ b ∈ [ea, T], Apart X pins H1 b := fun {T} aT b hb => by
    rcases List.mem_cons.mp hb with rfl | hb
    · exact a1
    · rcases List.mem_cons.mp hb with rfl | hb
      · exact aT
      · cases hb
  refine look_on (base := X.base) (outer := X.outer) (by rw [I1.ok.frames, hst]) (stk I1) hfr fly fun h2 T2 fly2 nT2 mv2 => ?_
  rw [← hst] at mv2
  have I2 := I1.moved' mv2 (two a2)
  have aT2 : Apart X pins H1 T2 := I1.apart hx nT2
  obtain ⟨oe, vs, oT, tvs, a0, e1, e2, e3, e4, _⟩ := id fly2
  have LT : PySem.W.Looks (model X.prog X.w) ({ s1 with heap := h2 } : Shared).heap (typeOf (.ref ea)) cls := by
    subst e2
    exact (PySem.W.Looks.ld e1).andThen .now
  refine wpAny_handleBy_cons (codeAny_handlers_test ?_) (by intro q; cases q)
  refine ld_glob (X := X.hand ea) (I2.hand ea) hg hm ?_ hdb
  refine (PySem.W.exm_one I2.kIn LT hcl).here ?_
  refine codeAny_handlers_suite_as ?_
  refine flight_off (s := { s1 with heap := h2 }) fly2 fun h3 fly3 same => ?_
  have I3 := I2.moved' (Moved.one same) fun b hb => by rw [List.mem_singleton] at hb; rw [hb]; exact aT2
  obtain ⟨oe3, vs3, _, _, _, f1, f2, f3, f4, _⟩ := id fly3
  have I4 := I3.track a1 ⟨oe3, vs3, f1, f2, f3, f4⟩
  refine store_ok (X := X.hand ea) (v := .ref ea) (I4.hand ea) hN hi (.inl hl) rfl (fun s5 I5 => ?_) (.inr hl)
  refine wpAny_mono (hs ea pins s5 _ _ (endsTry i D) I5 (hsu ea a1.trk)) (fun fl s6 q => ?_) fun _ _ z => z.elim
  have okX := I.ok
  cases fl with
  | next =>
    obtain ⟨σ', H', I', q⟩ := q
    exact name_goes (I'.unhand okX) hN hi hl fun s7 I7 => ⟨_, H', I7, q⟩
  | brk =>
    obtain ⟨σ', H', I', q⟩ := q
    exact name_goes (I'.unhand okX) hN hi hl fun s7 I7 => ⟨_, H', I7, q⟩
  | cont =>
    obtain ⟨σ', H', I', q⟩ := q
    exact name_goes (I'.unhand okX) hN hi hl fun s7 I7 => ⟨_, H', I7, q⟩
  | ret u =>
    obtain ⟨v, σ', H', I', r, q⟩ := q
    exact name_goes (I'.unhand okX) hN hi hl fun s7 I7 => ⟨v, _, H', I7, r, q⟩
end L2
set_option maxRecDepth 100000
set_option maxHeartbeats 1000000
namespace L2
open PySem PySem.Spec PyProof.Rows
structure XCls (K : PySem.W.Frag) (C : Addr) : Prop where
  ga : PySem.W.findIn K (.ref C) "__getattribute__" = some (some (.builtin "BaseException.__getattribute__"))
  gt : PySem.W.findIn K (.ref C) "__getattr__" = some none
  ic : (PySem.W.clsIn K C).isSome = true
  kc : PySem.W.findIn K (.ref C) "__class__" = some (some (.builtin "object.__class__"))
  kg : PySem.W.specialIn K (.builtin "object.__class__") "__get__" = some (some (.builtin "getset_descriptor.__get__"))
  kt : PySem.W.takesIn K (.builtin "object.__class__") = some true
  mo : PySem.W.mroIn K C (.type "object") = some true
  mb : PySem.W.mroIn K C (.type "BaseException") = some true
section
variable {prog : Program} {w : World} {A : Around} {E : Value → Shared → Prop} {s : Shared} {K : PySem.W.Frag} {ea C : Addr} {oe : Obj} {od : Option Obj}
theorem xcheck (kin : K.In s.heap) (c : XCls K C) (I : PySem.W.InstAt s.heap ea oe C od) {nameV : Value} {Q : Unit → Shared → Prop} (h : Q () s) : wpAny (model prog w) A (checkBuiltinCall "BaseException.__getattribute__" ⟨[.ref ea, nameV], []⟩) Q E s := by
  obtain ⟨g, g2, g3, g4, g5⟩ := s
  have kd : builtinKind "BaseException.__getattribute__" = some .slot := by decide +kernel
  have sp : splitId "BaseException.__getattribute__" = some ("BaseException", "__getattribute__") := by decide +kernel
  have L0 := I.type (M := model prog w)
  have L1 := PySem.W.looks_mroIn (M := model prog w) kin c.mb
  have aok := F.args_bexc_ga (.ref ea) nameV
  simp only [checkBuiltinCall, kd, sp]
  refine wpAny_bind ?_
  unfold isInstance
  refine wpAny_bind (L0.at (L1.at ?_))
  repeat (first | exact h | wp_step)
theorem xcall_bind (kin : K.In s.heap) (c : XCls K C) (I : PySem.W.InstAt s.heap ea oe C od) {name : Str} {tk : Tok} {g a : Value} (hf : PySem.W.findObj K C od name = some (.bind g a)) {P : Value → Shared → Prop}
    (h : wpAny (model prog w) A.in1 (call g [a, .ref ea, .ref C]) P E s) : wpAny (model prog w) A (call (.builtin "BaseException.__getattribute__") [.ref ea, .str name tk]) P E s := by
  obtain ⟨h1, h2, h3, h4, h5⟩ := s
  have L0 := I.type (M := model prog w)
  have L1 := PySem.W.looks_find (M := model prog w) kin I hf
  refine wpAny_call (codeAny_call_builtin PySem.F.attr_ValueError.ga.plain F.entry_bexc_ga (xcheck kin c I ?_))
  refine wpAny_bind (wpAny_pure (wpAny_bind (wpAny_pure (wpAny_bind (L0.at (wpAny_bind (L1.at ?_)))))))
  show wpAny _ _ (holding [a] (call g [a, .ref ea, .ref C]) >>= ret) _ _ _
  exact wpAny_bind (wpAny_holding (wpAny_mono h (fun v s' z => wpAny_pure z) fun _ _ z => z))
theorem xcall_value (kin : K.In s.heap) (c : XCls K C) (I : PySem.W.InstAt s.heap ea oe C od) {name : Str} {tk : Tok} {v : Value} (hf : PySem.W.findObj K C od name = some (.value v)) {P : Value → Shared → Prop}
    (h : P v s) : wpAny (model prog w) A (call (.builtin "BaseException.__getattribute__") [.ref ea, .str name tk]) P E s := by
  obtain ⟨h1, h2, h3, h4, h5⟩ := s
  have L0 := I.type (M := model prog w)
  have L1 := PySem.W.looks_find (M := model prog w) kin I hf
  refine wpAny_call (codeAny_call_builtin PySem.F.attr_ValueError.ga.plain F.entry_bexc_ga (xcheck kin c I ?_))
  refine wpAny_bind (wpAny_pure (wpAny_bind (wpAny_pure (wpAny_bind (L0.at (wpAny_bind (L1.at ?_)))))))
  exact wpAny_pure h
theorem xget (kin : K.In s.heap) (c : XCls K C) (I : PySem.W.InstAt s.heap ea oe C od) {nameV : Value} {fill expr : Bool} {Q : Value → Shared → Prop} {P : Value → Shared → Prop}
    (h : wpAny (model prog w) A (call (.builtin "BaseException.__getattribute__") [.ref ea, nameV]) P (fun _ _ => False) s) (hq : ∀ v s', P v s' → wpAny (model prog w) A (handedOut v) Q E s') : wpAny (model prog w) A (getAttrBy (.ref ea) nameV fill expr) Q E s := by
  obtain ⟨h1, h2, h3, h4, h5⟩ := s
  have L0 := I.type (M := model prog w)
  have L1 := PySem.W.looks_findIn (M := model prog w) kin c.ga
  have L2 := PySem.W.looks_findIn (M := model prog w) kin c.gt
  unfold getAttrBy
  refine wpAny_holding (wpAny_bind (L0.at (wpAny_bind (L1.at ?_))))
  dsimp only
  have ne : (Value.builtin "BaseException.__getattribute__" == Value.builtin "object.__getattribute__") = false := by decide +kernel
  rw [ne, Bool.and_false, if_neg Bool.false_ne_true]
  unfold getAttrByItsOwn hookBefore
  refine wpAny_bind ?_
  rw [if_pos (show onTheHeap (.ref C) = true from rfl)]
  refine L2.at (wpAny_bind (wpAny_attempt (wpAny_holding ?_)))
  unfold callGetattribute
  rw [if_neg (by cases expr <;> decide)]
  unfold boundAndCalled
  rw [PySem.F.attr_ValueError.ga.bind (.ref ea)]
  refine wpAny_bind (wpAny_pure ?_)
  exact wpAny_mono h (fun v s' z => hq v s' z) fun _ _ z => z.elim
theorem xclass (kin : K.In s.heap) (c : XCls K C) (I : PySem.W.InstAt s.heap ea oe C od) {Q : Option Value → Shared → Prop} (h : Q (some (.ref C)) { s with toks := s.toks + 1 }) : wpAny (model prog w) A (getAttr? (.ref ea) "__class__") Q E s := by
  obtain ⟨cd, hcd⟩ := Option.isSome_iff_exists.mp c.ic
  have hf : PySem.W.findObj K C od "__class__" = some (.bind (.builtin "getset_descriptor.__get__") (.builtin "object.__class__")) := by
    unfold PySem.W.findObj
    rw [hcd, Option.bind_some, c.kc, Option.bind_some]
    simp [c.kg, c.kt]
  unfold getAttr? getAttrBy?
  refine wpAny_bind (wpAny_mkText (wpAny_bind (wpAny_attempt ?_)))
  refine xget (s := { s with toks := s.toks + 1 }) (P := fun v s' => v = .ref C ∧ s' = { s with toks := s.toks + 1 }) kin c I ?_ ?_
  · refine xcall_bind (s := { s with toks := s.toks + 1 }) kin c I hf (wpAny_call ?_)
    exact PySem.W.class_get (s := { s with toks := s.toks + 1 }) (ox := oe) (od := od) kin I c.mo ⟨rfl, rfl⟩
  · rintro v s' ⟨rfl, rfl⟩
    exact PySem.W.handed_on rfl (wpAny_pure h)
theorem kitx_exc (c : XCls K C) : PySem.W.KitX K (.ref ea) (.ref C) (fun h => PySem.W.InstAt h ea oe C od) where
  ty := fun _ _ _ I => I.type
  it := fun M g kin _ => by
    obtain ⟨cd, hcd⟩ := Option.isSome_iff_exists.mp c.ic
    unfold PySem.W.clsIn at hcd
    split at hcd
    next look =>
      intro A1 Q1 E1 s1 k1 q1
      unfold isType loadHead
      exact wpAny_bind (wpAny_loadPart (k1 _ _ (kin _ _ look)) (wpAny_pure q1))
    next => cases hcd
  ne := fun g tp dd its n sl kin htp => by
    obtain ⟨cd, hcd⟩ := Option.isSome_iff_exists.mp c.ic
    refine Bool.eq_false_iff.mpr fun z => ?_
    obtain rfl : C = tp := Value.ref.inj (beq_iff_eq.mp z)
    unfold PySem.W.clsIn at hcd
    split at hcd
    next look =>
      have z2 := (kin _ _ look).symm.trans htp
      cases z2
    next => cases hcd
  ca := fun kin I q => xclass kin c I q
end
theorem ic_of {K : PySem.W.Frag} {C : Addr} {v : Value} {b : Bool} (h : PySem.W.mroIn K C v = some b) : (PySem.W.clsIn K C).isSome = true := by
  unfold PySem.W.mroIn at h
  cases e : PySem.W.clsIn K C with
  | none => rw [e] at h; cases h
  | some c => rfl
section
variable {X : Cx}
theorem call_isx (K : PySem.W.Frag) (hK : X.K = K := by rfl) : CallR X (.builtin "isinstance") (fun xs H Q => ∃ (ea C : Addr) (c : V) (u : Value) (b : Bool), xs = [.ref ea, c] ∧ H ea = some (excAt ea (.ref C) none) ∧ XCls K C ∧ RelV c u ∧ (∀ u', RelV c u' → u' = u) ∧ PySem.W.kitOne K (.ref C) u = some b ∧ Q (.bl b) H) := by
  subst hK
  intro pins s σ H xs us Q I r h
  obtain ⟨ea, C, c, u, b, rfl, hx, hc, hu, hu2, hk, q⟩ := h
  obtain ⟨u1, u2, rfl, r1, r2⟩ := vals2 r
  cases r1
  cases hu2 _ r2
  obtain ⟨⟨oe, vs, e1, e2, e3, e4⟩, _, _⟩ := I.hok _ _ hx
  refine PySem.W.kia_one (kitx_exc (oe := oe) (od := none) hc) I.kIn ⟨e1, e2, ?_, ?_⟩ hk (fun z => nomatch z) fun tk => ⟨.bl b, H, I.tok tk, rfl, q⟩
  · cases oe with
    | mk a1 a2 a3 a4 => dsimp only at e4; subst e4; rfl
  · rw [e3]; trivial
end
end L2
set_option maxRecDepth 100000
set_option maxHeartbeats 1000000
namespace L2
open PySem PySem.Spec PyProof.Rows
def Its (x : Str) : It := ⟨fun i _ => i < x.cps.size, fun i H v H' => H' = H ∧ ∃ c, x.cps[i]? = some c ∧ v = .str ⟨#[c]⟩, fun i _ => x.cps.size ≤ i⟩
theorem turn_ascii {P : Program} {w : World} {K : PySem.W.Frag} {tg : Expr} (x : Str) (t : Tok) (it : Addr) : Turn P w K tg (Its x) [it] it (fun i h => h.IsStrIter it "str_ascii_iterator" x t i) where
  mem := by simp
  obj := fun i h st b hb => by
    obtain rfl : b = it := by simpa using hb
    obtain ⟨o, e, c, d⟩ := st
    exact ⟨o, e, fun v z => by rw [d] at z; cases z⟩
  keep := fun i h h' st k => by
    obtain ⟨o, e, c, d⟩ := st
    exact ⟨o, k it (by simp) o e, c, d⟩
  item := by
    intro X hP hw hK hc i pins s σ H E I hf st hg
    subst hP hw hK
    have hg : i < x.cps.size := hg
    obtain ⟨f0, f1, f2, f3, f4, f5⟩ := hf it (by simp)
    refine wpAny_pyNext_ascii_item st (c := x.cps[i]) (by simp [hg]) fun h' st' sb => ?_
    have I1 : Inv X pins σ H { s with heap := h', toks := s.toks + 1 } := I.turned (t' := s.toks + 1) (fun b o hb e => (sb.2 b hb).trans e) f0 f1 f3 f4 f5
    obtain ⟨o, e1, c, d⟩ := id st'
    exact ⟨_, rfl, go_of (s := { s with heap := h', toks := s.toks + 1 }) e1 c d (by decide) ⟨.str ⟨#[x.cps[i]]⟩, H, I1, ⟨_, rfl⟩, ⟨rfl, x.cps[i], by simp [hg], rfl⟩, st', fun b hb => (hf b hb).1⟩⟩
  done := by
    intro X hP hw hK hc i pins s σ H E I hf st hg
    subst hP hw hK
    have hg : x.cps.size ≤ i := hg
    obtain ⟨f0, f1, f2, f3, f4, f5⟩ := hf it (by simp)
    exact wpAny_pyNext_ascii_end (I.ok.hd hc) st (by simp [hg]) fun h' eb => ⟨rfl, I.turned (t' := s.toks) (fun b o hb e => eb b o hb e) f0 f1 f3 f4 f5⟩
  self := fun _ _ _ _ _ st h => wpAny_pyIter_striter_ascii st h
theorem turn_wide {P : Program} {w : World} {K : PySem.W.Frag} {tg : Expr} (x : Str) (t : Tok) (it : Addr) : Turn P w K tg (Its x) [it] it (fun i h => h.IsStrIter it "str_iterator" x t i) where
  mem := by simp
  obj := fun i h st b hb => by
    obtain rfl : b = it := by simpa using hb
    obtain ⟨o, e, c, d⟩ := st
    exact ⟨o, e, fun v z => by rw [d] at z; cases z⟩
  keep := fun i h h' st k => by
    obtain ⟨o, e, c, d⟩ := st
    exact ⟨o, k it (by simp) o e, c, d⟩
  item := by
    intro X hP hw hK hc i pins s σ H E I hf st hg
    subst hP hw hK
    have hg : i < x.cps.size := hg
    obtain ⟨f0, f1, f2, f3, f4, f5⟩ := hf it (by simp)
    refine wpAny_pyNext_wide_item st (c := x.cps[i]) (by simp [hg]) fun h' st' sb => ?_
    have I1 : Inv X pins σ H { s with heap := h', toks := s.toks + 1 } := I.turned (t' := s.toks + 1) (fun b o hb e => (sb.2 b hb).trans e) f0 f1 f3 f4 f5
    obtain ⟨o, e1, c, d⟩ := id st'
    exact ⟨_, rfl, go_of (s := { s with heap := h', toks := s.toks + 1 }) e1 c d (by decide) ⟨.str ⟨#[x.cps[i]]⟩, H, I1, ⟨_, rfl⟩, ⟨rfl, x.cps[i], by simp [hg], rfl⟩, st', fun b hb => (hf b hb).1⟩⟩
  done := by
    intro X hP hw hK hc i pins s σ H E I hf st hg
    subst hP hw hK
    have hg : x.cps.size ≤ i := hg
    obtain ⟨f0, f1, f2, f3, f4, f5⟩ := hf it (by simp)
    exact wpAny_pyNext_wide_end (I.ok.hd hc) st (by simp [hg]) fun h' eb => ⟨rfl, I.turned (t' := s.toks) (fun b o hb e => eb b o hb e) f0 f1 f3 f4 f5⟩
  self := fun _ _ _ _ _ st h => wpAny_pyIter_striter_wide st h
def iStr (tl : TE) : TI := fun σ H R => tl σ H fun v H1 => ∃ x, v = .str x ∧ R (Its x) H1
theorem pi_str {X : Cx} {tg l : Expr} {tl : TE} (hl : PE X l tl) : PI X tg l (iStr tl) := by
  intro pins s σ H R I h
  refine thn (hl pins s σ H _ I h) fun v s1 ⟨y, H1, I1, r1, q1⟩ => ?_
  obtain ⟨x, rfl, q⟩ := q1
  obtain ⟨t, rfl⟩ := r1
  have fp : ∀ b ∈ [s1.heap.objs.size], FpOk X pins H1 b := fun b hb => by
    obtain rfl : b = s1.heap.objs.size := by simpa using hb
    exact I1.fpOk (Nat.le_refl _) (I1.hok.fresh (Nat.le_refl _))
  cases ha : x.cps.all (· < 128)
  · exact wpAny_pyIter_wide ha ⟨s1.heap.objs.size, [s1.heap.objs.size], _, _, H1, rfl, I1.kept (t' := s1.toks) fun b o e => Heap.get?_push_of_some _ e, turn_wide x t _, ⟨_, Heap.get?_push_size _ rfl, rfl, rfl⟩, fp, q⟩
  · exact wpAny_pyIter_ascii ha ⟨s1.heap.objs.size, [s1.heap.objs.size], _, _, H1, rfl, I1.kept (t' := s1.toks) fun b o e => Heap.get?_push_of_some _ e, turn_ascii x t _, ⟨_, Heap.get?_push_size _ rfl, rfl, rfl⟩, fp, q⟩
theorem for_str {x : Str} {g : TG} {tb : TS} {D : Ends} {σ : St} {H : Hp} (Pv : Nat → St → Hp → Prop) (h0 : Pv 0 σ H)
    (hs : ∀ i c σ H, x.cps[i]? = some c → Pv i σ H → g (.str ⟨#[c]⟩) σ H fun σ2 H2 => tb { D with nx := Pv (i + 1), ct := Pv (i + 1), bk := D.nx } σ2 H2) (hd : ∀ σ H, Pv x.cps.size σ H → D.nx σ H) :
    ∃ W : Nat → Nat → St → Hp → Prop, (∃ m, W 0 m σ H) ∧ ∀ i m σ H, W i m σ H →
      ((Its x).stop i H ∧ D.nx σ H) ∨ ((Its x).go i H ∧ ∃ N : St → Hp → Prop, (∀ σ' H', N σ' H' → ∃ m', m' < m ∧ W (i + 1) m' σ' H') ∧ ∀ v H', (Its x).yld i H v H' → g v σ H' fun σ2 H2 => tb { D with nx := N, ct := N, bk := D.nx } σ2 H2) := by
  refine ⟨fun i m σ H => m = x.cps.size - i ∧ i ≤ x.cps.size ∧ Pv i σ H, ⟨x.cps.size, by simp, Nat.zero_le _, h0⟩, ?_⟩
  rintro i m σ H ⟨rfl, hi, p⟩
  by_cases hlt : i < x.cps.size
  · refine .inr ⟨hlt, Pv (i + 1), fun σ' H' p' => ⟨x.cps.size - (i + 1), by omega, rfl, hlt, p'⟩, fun v H' y => ?_⟩
    obtain ⟨e, c, e2, e3⟩ := y
    subst e e3
    exact hs i c σ _ e2 p
  · have e : i = x.cps.size := by omega
    subst e
    exact .inl ⟨Nat.le_refl _, hd σ H p⟩
section
variable {X : Cx}
theorem mt_zfill : MtR X "str.zfill" (fun x xs H Q => ∃ z i, x = .str z ∧ xs = [.int i] ∧ PadOk i = true ∧ Q (.str (Txt.zfill z i)) H) := by
  intro pins s σ H x xs v us Q I rx r h
  obtain ⟨z, i, rfl, rfl, hp, q⟩ := h
  obtain ⟨t, rfl⟩ := rx
  obtain ⟨u, rfl, t', rfl⟩ := vals1 r
  exact SC.zfill hp fun t2 k => ⟨.str _, H, I.tok k, ⟨_, rfl⟩, q⟩
theorem mt_rstripC : MtR X "str.rstrip" (fun x xs H Q => ∃ z y, x = .str z ∧ xs = [.str y] ∧ z.length ≤ sizeLine ∧ Q (.str (Txt.rstripChars z y)) H) := by
  intro pins s σ H x xs v us Q I rx r h
  obtain ⟨z, y, rfl, rfl, hp, q⟩ := h
  obtain ⟨t, rfl⟩ := rx
  obtain ⟨u, rfl, t', rfl⟩ := vals1 r
  exact SC.rstripChars (fun t2 k => ⟨.str _, H, I.tok k, ⟨_, rfl⟩, q⟩) hp
theorem mt_find : MtR X "str.find" (fun x xs H Q => ∃ z y, x = .str z ∧ xs = [.str y] ∧ Q (.int (Txt.find z y)) H) := by
  intro pins s σ H x xs v us Q I rx r h
  obtain ⟨z, y, rfl, rfl, q⟩ := h
  obtain ⟨t, rfl⟩ := rx
  obtain ⟨u, rfl, t', rfl⟩ := vals1 r
  exact SC.find ⟨.int _, H, I.tok _, ⟨_, rfl⟩, q⟩
theorem mt_partition : MtR X "str.partition" (fun x xs H Q => ∃ z y, x = .str z ∧ xs = [.str y] ∧ (y.length == 0) = false ∧ z.length ≤ sizeLine ∧ ∀ p, H p = none → Q (.ref p) (upd H p (.tup [.str (Txt.partition z y).1, .str (Txt.partition z y).2.1, .str (Txt.partition z y).2.2]))) := by
  intro pins s σ H x xs v us Q I rx r h
  obtain ⟨z, y, rfl, rfl, hy, hz, q⟩ := h
  obtain ⟨t, rfl⟩ := rx
  obtain ⟨u, rfl, t', rfl⟩ := vals1 r
  refine call_meets F.slot_str_partition (typeIs_str _ _ _) F.entry_str_partition (F.args_str_partition_2 _ _) (meets_str_partition z y t t' hy hz) ?_
  have q' := q
  unfold Txt.partition at q'
  revert q'
  have tupOk : ∀ (H2 : Hp) (a b c : Str) (ta tb tc : Tok), ObjOk X.prog X.w H2 (s.heap.push { cls := .type "tuple", data := .seq [.str a ta, .str b tb, .str c tc].toArray }) s.heap.objs.size (.tup [.str a, .str b, .str c]) := fun H2 a b c ta tb tc =>
    ⟨by show 3 ≤ sizeLine; decide, _, .cons ⟨_, rfl⟩ (.cons ⟨_, rfl⟩ (.cons ⟨_, rfl⟩ .nil)), IsTup.new _ _⟩
  cases Builtin.Str.occurrences z y 0 z.length 1 with
  | nil =>
    intro q'
    exact ⟨.ref s.heap.objs.size, _, I.laid (fun b o e => Heap.get?_push_of_some _ e) (Nat.le_refl _) (tupOk _ _ _ _ _ _ _), rfl, q' _ (I.hok.fresh (Nat.le_refl _))⟩
  | cons i r =>
    intro q'
    exact ⟨.ref s.heap.objs.size, _, I.laid (fun b o e => Heap.get?_push_of_some _ e) (Nat.le_refl _) (tupOk _ _ _ _ _ _ _), rfl, q' _ (I.hok.fresh (Nat.le_refl _))⟩
theorem sl_str : SlR X (fun x lo hi H Q => ∃ z, x = .str z ∧ z.length ≤ sizeLine ∧ Q (.str (Txt.slice z lo hi)) H) := by
  intro pins s σ H x v vl vu lo hi sl Q I rx hs pl pu h
  obtain ⟨z, rfl, hz, q⟩ := h
  obtain ⟨t, rfl⟩ := rx
  refine ⟨"str", _, F.slot_str_getitem.lookup, typeIs_str _ _ _, ?_⟩
  have fin : ∀ lo hi, Q (.str (Txt.slice z lo hi)) H → (Txt.slice z lo hi).length ≤ sizeLine ∧ ∀ t' k, EP X pins σ Q (.str (Txt.slice z lo hi) t') { s with toks := k } := fun lo hi q => ⟨Nat.le_trans (Txt.slice_le z _ _) hz, fun t' k => ⟨.str _, H, I.tok k, ⟨_, rfl⟩, q⟩⟩
  obtain ⟨os, e1, e2, e3⟩ := hs
  cases pl with
  | none =>
    cases pu with
    | none => exact wpAny_getItem_str_slice (l := none) (u := none) (st := none) ⟨os, e1, e2, e3⟩ rfl (post_val_or_str (fin _ _ q))
    | int j u => exact wpAny_getItem_str_slice (l := none) (u := some (j, u)) (st := none) ⟨os, e1, e2, e3⟩ rfl (post_val_or_str (fin _ _ q))
  | int i u =>
    cases pu with
    | none => exact wpAny_getItem_str_slice (l := some (i, u)) (u := none) (st := none) ⟨os, e1, e2, e3⟩ rfl (post_val_or_str (fin _ _ q))
    | int j u2 => exact wpAny_getItem_str_slice (l := some (i, u)) (u := some (j, u2)) (st := none) ⟨os, e1, e2, e3⟩ rfl (post_val_or_str (fin _ _ q))
theorem pe_bm0K {o : Expr} {to : TE} {name : Str} {apos cpos : Pos} {T id : String} {r : V → List V → Hp → VK → Prop} (K : PySem.W.Frag) (pa : PlainAttrs T) (slot : Slot T name id) (hty : typeOf (.builtin id) = pure (.type "method_descriptor")) (hm : MtR X id r) (ho : PE X o to)
    (hbase : attributeBase o name X.env (eval o X.env) = eval o X.env := by rfl) (hline : (apos.endLine == cpos.line) = true := by rfl) (hK : X.K = K := by rfl) : PE X (.Call (.Attribute o name apos) [] [] cpos) (tBM0 K T r to) := by
  subst hK
  exact pe_bm0 pa slot hty hm ho hbase hline
theorem pe_bmK {o e : Expr} {es : List Expr} {to : TE} {t : TA} {name : Str} {apos cpos : Pos} {T id : String} {r : V → List V → Hp → VK → Prop} (K : PySem.W.Frag) (pa : PlainAttrs T) (slot : Slot T name id) (hty : typeOf (.builtin id) = pure (.type "method_descriptor")) (hm : MtR X id r) (ho : PE X o to) (ha : PA X (e :: es) t)
    (hbase : attributeBase o name X.env (eval o X.env) = eval o X.env := by rfl)
    (hfew : ((backTo cpos (starEach (e :: es) X.env)).all (fun x => !x.1) && (backToKw cpos (keywordEach [] X.env)).all (fun x => x.1.isSome)
      && decide ((e :: es).length + ([] : List Keyword).length + (if ([] : List Keyword).isEmpty then 0 else 1) < 30)) = true := by rfl)
    (hline : (apos.endLine == cpos.line) = true := by rfl) (hs : starEach (e :: es) X.env = (false, eval e X.env) :: starEach es X.env := by rfl) (hplain : (backTo cpos (starEach es X.env)).any (·.1) = false := by rfl) (hK : X.K = K := by rfl) :
    PE X (.Call (.Attribute o name apos) (e :: es) [] cpos) (tBM K T r to t) := by
  subst hK
  exact pe_bm pa slot hty hm ho ha hbase hfew hline hs hplain
def eqVs : List V → List V → Bool
  | [], [] => true
  | x :: xs, y :: ys => eqV x y && eqVs xs ys
  | _, _ => false
theorem eqVs_len : ∀ {xs ys : List V}, xs.length ≠ ys.length → eqVs xs ys = false
  | [], [], h => absurd rfl h
  | [], _ :: _, _ => rfl
  | _ :: _, [], _ => rfl
  | x :: xs, y :: ys, h => by
    have : xs.length ≠ ys.length := fun e => h (by simp [e])
    rw [eqVs, eqVs_len this, Bool.and_false]
theorem eqVs_all : ∀ {xs ys : List V}, xs.length = ys.length → ((List.range xs.length).all fun j => eqV (xs.getD j .non) (ys.getD j .non)) = eqVs xs ys
  | [], [], _ => rfl
  | x :: xs, y :: ys, h => by
    have h' : xs.length = ys.length := by simpa using h
    rw [List.length_cons, List.range_succ_eq_map, List.all_cons, eqVs, ← eqVs_all h', List.all_map]
    rfl
theorem op_eqF (K : PySem.W.Frag) (hu : X.A.units + 64 < cLine) (hK : X.K = K := by rfl) : OpR X (compareOp .Eq) (fun x y H Q => ∃ a b xs ys, x = .ref a ∧ y = .ref b ∧ SqL K H a xs ∧ SqL K H b ys ∧ xs.all flatV = true ∧ ys.all flatV = true ∧ Q (.bl (eqVs xs ys)) H) := by
  subst hK
  intro pins s σ H x y v u Q I rx ry h
  obtain ⟨a, b, xs, ys, rfl, rfl, ha, hb, f1, f2, q⟩ := h
  cases rx
  cases ry
  have hu : X.A.units < cLine := Nat.lt_of_le_of_lt (Nat.le_add_right _ _) hu
  obtain ⟨its, r1, p1, _⟩ := I.list ha
  obtain ⟨jts, r2, p2, _⟩ := I.list hb
  have l1 := r1.length
  have l2 := r2.length
  by_cases hl : xs.length = ys.length
  · refine SeqAt.eq_listAt (e := fun j => eqV (xs.getD j .non) (ys.getD j .non)) p1.isList p2.isList (by simp; omega) hu (fun j h1 h2 => ?_) ⟨.bl _, H, I, rfl, ?_⟩
    · have j1 : j < xs.length := by simp at h1; omega
      have j2 : j < ys.length := by simp at h2; omega
      obtain ⟨u1, e1, q1⟩ := r1.get (List.getElem?_eq_getElem j1)
      obtain ⟨u2, e2, q2⟩ := r2.get (List.getElem?_eq_getElem j2)
      have z1 : its.toArray[j] = u1 := by simp; exact (List.getElem?_eq_some_iff.mp e1).2
      have z2 : jts.toArray[j] = u2 := by simp; exact (List.getElem?_eq_some_iff.mp e2).2
      rw [z1, z2, List.getD_eq_getElem?_getD, List.getD_eq_getElem?_getD, List.getElem?_eq_getElem j1, List.getElem?_eq_getElem j2]
      exact eqAt_V q1 q2 (List.all_eq_true.mp f1 _ (List.getElem_mem j1)) (List.all_eq_true.mp f2 _ (List.getElem_mem j2))
    · rw [List.size_toArray, ← l1, eqVs_all hl]; exact q
  · refine SeqAt.eq_list_lengthsAt p1.isList p2.isList (by simp; omega) hu ⟨.bl _, H, I, rfl, ?_⟩
    rw [eqVs_len hl] at q; exact q
theorem call_isiT (K : PySem.W.Frag) (hK : X.K = K := by rfl) : CallR X (.builtin "isinstance") (fun xs H Q => ∃ x n t b, xs = [x, .ty n] ∧ TyOf K H x (.type t) ∧ PySem.W.kitOne K (.type t) (.type n) = some b ∧ Q (.bl b) H) := by
  subst hK
  intro pins s σ H xs us Q I r h
  obtain ⟨x, n, t, b, rfl, ht, hb, q⟩ := h
  obtain ⟨u, w', rfl, r1, r2⟩ := vals2 r
  cases r2
  exact isinst_ok I r1 ht hb fun tk => ⟨.bl b, H, I.tok tk, rfl, q⟩
end
theorem boot_ValueError : bootBuiltins "ValueError" = some (.type "ValueError") := by decide +kernel
theorem pe_gint {X : Cx} {x : Str} {i : Int} {pos : Pos} (hg : Gl X x) (hm : ∃ t, X.mg x = some (.int i t)) (hd : (x == ("__debug__" : Str)) = false := by decide) : PE X (.Name x pos) (tC (.int i)) := by
  obtain ⟨t, h⟩ := hm
  exact pe_glob hg h ⟨_, rfl⟩ hd
theorem pe_gstr {X : Cx} {x z : Str} {pos : Pos} (hg : Gl X x) (hm : ∃ t, X.mg x = some (.str z t)) (hd : (x == ("__debug__" : Str)) = false := by decide) : PE X (.Name x pos) (tC (.str z)) := by
  obtain ⟨t, h⟩ := hm
  exact pe_glob hg h ⟨_, rfl⟩ hd
def tDead : TS := fun _ _ _ => False
theorem ps_dead {X : Cx} {st : Stmt} : PS X st tDead := fun _ _ _ _ _ _ h => h.elim
end L2
set_option maxRecDepth 100000
set_option maxHeartbeats 4000000
namespace L2
open PySem PySem.NumText PyProof.Rows
abbrev cs (x : Str) : List Nat := x.cps.toList
theorem cs_inj {a b : Str} (h : cs a = cs b) : a = b := ext_toList h
theorem cs_app (a b : Str) : cs (a ++ b) = cs a ++ cs b := PySem.W.KT.app_list a b
theorem cs_len (a : Str) : (cs a).length = a.length := by simp [cs, Str.length]
def isDig (c : Nat) : Bool := decide (48 ≤ c) && decide (c ≤ 57)
theorem isDig_iff {c : Nat} : isDig c = true ↔ 48 ≤ c ∧ c ≤ 57 := by unfold isDig; simp
theorem dig_all {l : List Nat} : l.all isDig = true ↔ AllDigits l := by
  rw [List.all_eq_true]
  exact ⟨fun h c hc => isDig_iff.mp (h c hc), fun h c hc => isDig_iff.mpr (h c hc)⟩
def figs : Str := Str.ofString "0123456789"
theorem val_snoc (l : List Nat) (c : Nat) (h : isDig c = true) : ((digitsVal (l ++ [c]) : Nat) : Int) = 10 * (digitsVal l : Int) + ((c : Int) - 48) := by
  rw [digitsVal_snoc]
  have := (isDig_iff.mp h).1
  omega
theorem num_cs (n : Nat) : cs (Str.ofString (toString (n : Int))) = (Nat.toDigits 10 n).map Char.toNat := PySem.W.KIN.signs_num n
theorem num_val (n : Nat) : digitsVal (cs (Str.ofString (toString (n : Int)))) = n := by rw [num_cs]; exact PySem.W.KIN.val_back n
theorem num_dig (n : Nat) : AllDigits (cs (Str.ofString (toString (n : Int)))) := by
  intro c hc
  rw [num_cs] at hc
  obtain ⟨ch, h1, rfl⟩ := List.mem_map.mp hc
  exact digit_range (Nat.isDigit_of_mem_toDigits (by decide) (by decide) h1)
theorem num_ne (n : Nat) : cs (Str.ofString (toString (n : Int))) ≠ [] := by
  rw [num_cs]
  intro h
  have := PySem.toDigits_len_ge 10 n
  rw [List.map_eq_nil_iff] at h
  rw [h] at this
  simp at this
theorem num_head (n : Nat) : cs (Str.ofString (toString (n : Int))) = [48] ∨ (cs (Str.ofString (toString (n : Int)))).head? ≠ some 48 := by
  have h1 := toDigits_all _ (num_dig n)
  rw [num_val] at h1
  have h2 := num_cs n
  generalize cs (Str.ofString (toString (n : Int))) = l at h1 h2
  cases l with
  | nil => right; simp
  | cons c r =>
    by_cases e : c = 48
    · subst e
      left
      rw [List.dropWhile_cons, if_pos (by simp)] at h1
      have hl : (Nat.toDigits 10 n).length = r.length + 1 := by have := congrArg List.length h2; simpa using this.symm
      cases hd : r.dropWhile (· == 48) with
      | nil =>
        rw [hd] at h1
        rw [h1] at h2
        exact h2
      | cons c2 r2 =>
        rw [hd] at h1
        have : (Nat.toDigits 10 n).length ≤ r.length := by
          rw [h1, List.length_map, ← hd]
          exact (List.dropWhile_sublist _).length_le
        omega
    · right; simp [e]
theorem part_none {x : Str} {c : Nat} (h : c ∉ cs x) : Txt.partition x ⟨#[c]⟩ = (x, Str.empty, Str.empty) := by
  rcases partition_whole x ⟨#[c]⟩ with ⟨e, _⟩ | ⟨i, _, at1, _⟩
  · exact e
  · exact absurd (List.mem_of_getElem? ((StrLaws.subAt_one x c i).mp at1)) h
theorem part_at {a b : Str} {c : Nat} (h : c ∉ cs a) {x : Str} (hx : cs x = cs a ++ c :: cs b) : Txt.partition x ⟨#[c]⟩ = (a, ⟨#[c]⟩, b) := by
  have hl : x.length = (cs a).length + 1 + (cs b).length := by rw [← cs_len, hx]; simp; omega
  rcases partition_whole x ⟨#[c]⟩ with ⟨_, no⟩ | ⟨i, e, at1, first⟩
  · exact absurd ((StrLaws.subAt_one x c (cs a).length).mpr (by show (cs x)[_]? = _; rw [hx]; simp)) (no _)
  · have e1 := (StrLaws.subAt_one x c i).mp at1
    have e1 : (cs x)[i]? = some c := e1
    have hi : i = (cs a).length := by
      rcases Nat.lt_trichotomy i (cs a).length with lt | eq | gt
      · rw [hx, List.getElem?_append_left lt] at e1
        exact absurd (List.mem_of_getElem? e1) h
      · exact eq
      · exact absurd ((StrLaws.subAt_one x c (cs a).length).mpr (by show (cs x)[_]? = _; rw [hx]; simp)) (first _ gt)
    rw [e]
    subst hi
    have k1 : Builtin.Str.strSub x 0 (cs a).length = a := cs_inj (by
      show (x.cps.extract 0 (cs a).length).toList = cs a
      rw [Array.toList_extract]
      show ((cs x).drop 0).take ((cs a).length - 0) = cs a
      rw [hx]; simp)
    have k2 : Builtin.Str.strSub x ((cs a).length + (⟨#[c]⟩ : Str).length) x.length = b := cs_inj (by
      show (x.cps.extract ((cs a).length + 1) x.length).toList = cs b
      rw [Array.toList_extract]
      show ((cs x).drop ((cs a).length + 1)).take (x.length - ((cs a).length + 1)) = cs b
      rw [hx, hl, show (cs a).length + 1 + (cs b).length - ((cs a).length + 1) = (cs b).length by omega, List.drop_append, List.drop_of_length_le (by omega), show (cs a).length + 1 - (cs a).length = 1 by omega]
      show (cs b).take (cs b).length = cs b
      exact List.take_length)
    rw [k1, k2]
theorem str_one (s : String) (c : Nat) (h : (Str.ofString s).cps = #[c]) : Str.ofString s = ⟨#[c]⟩ := by
  cases e : Str.ofString s with
  | mk a => rw [e] at h; exact congrArg _ h
end L2
set_option maxRecDepth 100000
set_option maxHeartbeats 1000000
namespace L2
open PySem PySem.Spec PyProof.Rows
structure XInit (K : PySem.W.Frag) (C CL f : Addr) : Prop where
  obj : ∃ nm qn N bs hdct sn sub ab col dd k0 k1 k2 k3 k5, K.lookup C = some (excClassObj nm qn C N bs (.ref CL :: veMro) hdct sn sub ab col dd k0 k1 k2 k3 k5 "ValueError.__new__")
  up : ExcC K CL
  top : ∃ nm qn N bs hdct sn sub ab col dd k0 k1 k2 k3 k5, K.lookup CL = some (excClassObj nm qn CL N bs veMro hdct sn sub ab col dd k0 k1 k2 k3 k5 "ValueError.__new__")
  init : PySem.W.findIn K (.ref C) "__init__" = some (some (.ref f))
  fn : PySem.W.typeIn K (.ref f) = some (.type "function")
  kp : PySem.W.keepIn K (.ref C) = true
  sa : PySem.W.findIn K (.ref C) "__setattr__" = some (some (.builtin "object.__setattr__"))
  hd : PySem.W.hasDictIn K C = true
  xc : XCls K C
theorem XInit.here {K : PySem.W.Frag} {C CL f : Addr} (x : XInit K C CL f) {g : Heap} (kin : K.In g) : ∃ nm qn N bs hdct sn sub ab col dd k0 k1 k2 k3 k5, g.get? C = some (excClassObj nm qn C N bs (.ref CL :: veMro) hdct sn sub ab col dd k0 k1 k2 k3 k5 "ValueError.__new__") ∧ OwnTail g veMro (.ref CL :: veMro) := by
  obtain ⟨nm, qn, N, bs, hdct, sn, sub, ab, col, dd, k0, k1, k2, k3, k5, h⟩ := x.obj
  refine ⟨nm, qn, N, bs, hdct, sn, sub, ab, col, dd, k0, k1, k2, k3, k5, kin _ _ h, ?_⟩
  obtain ⟨nm', qn', N', bs', bm', hdct', sn', sub', ab', col', dd', j0, j1, j2, j3, j5, mN, c1, c2, c3, c4⟩ := exc_of kin x.up
  exact .own c1 c2 c3 .base
section
variable {prog : Program} {w : World} {A : Around} {E : Value → Shared → Prop} {s : Shared} {K : PySem.W.Frag} {ea C CL f : Addr} {oe : Obj} {od : Option Obj}
theorem xosa {R : Result → Shared → Prop} {name : Str} {tk : Tok} {v : Value} (kin : K.In s.heap) (x : XInit K C CL f) (I : PySem.W.InstAt s.heap ea oe C od) (hn : PySem.W.findIn K (.ref C) name = some none)
    (h : wpAny (model prog w) A.in1 (Builtin.ObjectAttr.storeInOwnDict (.ref ea) (.ref C) (.str name tk) name v false)
      (fun fin s' => match fin with | .done f => R (.ok f) s' | .again c' => c'.quiet = true ∧ codeAny (model prog w) A c' R s') (fun e s' => R (.error e) s') s) :
    codeAny (model prog w) A (.call (.builtin "object.__setattr__") ⟨[.ref ea, .str name tk, v], []⟩) R s := by
  have SF := PySem.F.store_ValueError
  obtain ⟨nm, qn, N, bs, hdct, sn, sub, ab, col, dd, k0, k1, k2, k3, k5, hlk⟩ := x.obj
  have hm : PySem.W.Looks (model prog w) s.heap (mroOf (.ref C)) (.ref C :: .ref CL :: veMro) := by
    obtain ⟨cd, hc, hmro⟩ : ∃ cd, PySem.W.clsIn K C = some cd ∧ cd.mro = .ref C :: .ref CL :: veMro := ⟨_, by unfold PySem.W.clsIn; rw [hlk], rfl⟩
    rw [← hmro]
    exact (PySem.W.looks_clsIn kin hc).andThen .now
  have isob : PySem.W.Looks (model prog w) s.heap (isInstance (.ref ea) (.type "object")) true := I.type.andThen (PySem.W.looks_mroIn kin x.xc.mo)
  have LN := PySem.W.looks_findIn (M := model prog w) kin hn
  have LT : PySem.W.Looks (model prog w) s.heap (typeOf (.ref ea)) (.ref C) := I.type
  have pas : Builtin.ObjectAttr.refuseIfOverridden (.ref ea) "__setattr__" = (typeOf (.ref ea) >>= fun tp => mroOf tp >>= fun l => refuseLoop (.ref ea) "__setattr__" l) := refuse_eq _ _
  have pas2 : refuseLoop (.ref ea) "__setattr__" (.ref C :: .ref CL :: veMro) = pure () := by
    rw [refuseLoop_ref, refuseLoop_ref]
    exact SF.passes _
  refine codeAny_call_builtin SF.slot.plain SF.entry (@PySem.W.check_slot (model prog w) _ _ s "object.__setattr__" "object" "__setattr__" (.ref ea) [.str name tk, v] [] _ SF.kind SF.split isob (SF.args (.ref ea) (.str name tk) v) ?_)
  rw [PySem.W.osa_eq, pas]
  refine wpAny_bind (wpAny_bind (LT.here (wpAny_bind (hm.here ?_))))
  rw [pas2]
  refine wpAny_pure (wpAny_bind (LT.here (wpAny_bind (LN.here ?_))))
  exact wpAny_bind (wpAny_pure h)
theorem xset {Q : Unit → Shared → Prop} {name : Str} {v : Value} (kin : K.In s.heap) (x : XInit K C CL f) (e1 : s.heap.get? ea = some oe) (e2 : oe.cls = .ref C) (e3 : oe.dict = none) {vs : Array Value} (e4 : oe.data = .fields vs) (hn : PySem.W.findIn K (.ref C) name = some none)
    (h : ∀ h' tk, h'.get? ea = some { oe with dict := some s.heap.objs.size } → h'.Ns1 s.heap.objs.size (fun y => if y = name then some v else none) → (∀ b o, b ≠ ea → s.heap.get? b = some o → h'.get? b = some o) → Q () { s with heap := h', toks := tk }) :
    wpAny (model prog w) A (setAttr (.ref ea) name v) Q E s := by
  have nc : PySem.W.notCls oe = true := by
    cases oe with
    | mk a1 a2 a3 a4 => dsimp only at e4; subst e4; rfl
  have I : PySem.W.InstAt s.heap ea oe C none := ⟨e1, e2, nc, by rw [e3]; trivial⟩
  refine PySem.W.set_plain kin I x.sa (xosa (s := { s with toks := s.toks + 1 }) kin x I hn ?_)
  obtain ⟨cd, hc, hd⟩ := PySem.W.any_some x.hd
  have LC := PySem.W.looks_clsIn (M := model prog w) kin hc
  have at1 : (s.heap.push { cls := .type "dict", data := .dict #[] }).get? ea = some oe := Heap.get?_push_of_some _ e1
  have ne : ea ≠ s.heap.objs.size := Nat.ne_of_lt (Heap.lt_size e1)
  have nf : ({ oe with dict := some s.heap.objs.size } : Obj).isFreed = false := Obj.isFreed_of_fields (o := { oe with dict := some s.heap.objs.size }) e4
  unfold Builtin.ObjectAttr.storeInOwnDict
  refine wpAny_bind (wpAny_pure (wpAny_bind (wpAny_bind (wpAny_loadPart e1 ?_))))
  rw [e2]
  refine wpAny_bind (PySem.W.Looks.here (s := { s with toks := s.toks + 1 }) LC ?_)
  rw [hd, e3]
  rw [if_neg (by decide)]
  show wpAny _ _ (if (!true || !typeHasDict (Value.ref C)) = true then pure none else _) _ _ _
  rw [if_neg (by simp [typeHasDict]), e4]
  show wpAny _ _ (alloc { cls := .type "dict", data := .dict #[] } >>= _) _ _ _
  refine wpAny_bind (wpAny_alloc (wpAny_bind (wpAny_update (s := { s with heap := s.heap.push { cls := .type "dict", data := .dict #[] }, toks := s.toks + 1 }) at1 ?_)))
  refine wpAny_pure ?_
  show wpAny _ _ (Builtin.ObjectAttr.storeInDict s.heap.objs.size (.str name s.toks) name v) _ _ _
  unfold Builtin.ObjectAttr.storeInDict Builtin.ObjectAttr.newKeyGuard
  generalize hg : (s.heap.push { cls := .type "dict", data := .dict #[] }).update ea (fun o => { cls := o.cls, dict := some s.heap.objs.size, data := o.data, slots := o.slots }) = g2
  have g2e : g2.get? ea = some { oe with dict := some s.heap.objs.size } := by rw [← hg]; exact Heap.get?_update_self _ at1 nf
  have g2d : g2.get? s.heap.objs.size = some { cls := .type "dict", data := .dict #[] } := by
    rw [← hg, Heap.get?_update_other _ _ ne]
    exact Heap.get?_push_at rfl rfl
  have g2o : ∀ b o, b ≠ ea → s.heap.get? b = some o → g2.get? b = some o := fun b o n q => by
    rw [← hg, Heap.get?_update_other _ _ (Ne.symm n)]
    exact Heap.get?_push_of_some _ q
  have empty : g2.Ns s.heap.objs.size (fun _ => none) := ⟨_, #[], _, g2d, rfl, fun q hq => absurd hq (by simp), fun _ => rfl⟩
  refine wpAny_bind (wpAny_pure (wpAny_bind (wpAny_nsSet1 (s := { s with heap := g2, toks := s.toks + 1 }) (Heap.Ns1.of_empty empty) fun h3 n3 same3 => ?_)))
  obtain ⟨oD, esD, epD, d1, d2, d3⟩ := n3.count (PySem.Within.cons name v PySem.Within.nil)
  refine wpAny_bind (wpAny_lookBehind d1 (by rw [d2]; exact pastItsLine_dict (Nat.le_trans d3 (by rw [List.length_cons, List.length_nil, sizeLine_eq]; omega))) ?_)
  refine wpAny_pure (h h3 _ ((same3.2 ea ne).trans g2e) ?_ fun b o n q => (same3.2 b (Nat.ne_of_lt (Heap.lt_size q))).trans (g2o b o n q))
  obtain ⟨o', es, ep, q1, q2, q3, q4, q5⟩ := n3
  exact ⟨o', es, ep, q1, q2, q3, q4, q5⟩
theorem call_vinit {Q : Value → Shared → Prop} {rest : List Value} {dx : Option Addr} (kin : K.In s.heap) (x : XInit K C CL f) (md : Made s.heap ea (.ref C) dx) (hr : rest.length ≤ sizeLine)
    (h : ∀ h', Made h' ea (.ref C) dx → (∀ b o, b ≠ ea → s.heap.get? b = some o → h'.get? b = some o) → Q .none { s with heap := h' }) :
    wpAny (model prog w) A (call (.builtin "ValueError.__init__") (.ref ea :: rest)) Q E s := by
  obtain ⟨g1, g2, g3, g4, g5⟩ := s
  have FV := PySem.F.excBase_ValueError
  obtain ⟨nm, qn, N, bs, hdct, sn, sub, ab, col, dd, k0, k1, k2, k3, k5, hC, tl⟩ := x.here kin
  obtain ⟨oe, vs, a0, e1, e2, e3, e4, e5, e6, e7, e8⟩ := md
  refine wpAny_call (codeAny_call_builtin FV.init.plain FV.initEntry (wpAny_check_init_subT FV tl hC e1 e2 ?_))
  have sz : 0 < vs.size := (Array.getElem?_eq_some_iff.mp e5).1
  have at1 : (g1.push { cls := .type "tuple", data := .seq rest.toArray }).get? ea = some oe := Heap.get?_push_of_some _ e1
  delta Builtin.«BaseException.__init__»
  show wpAny _ _ (newTuple rest >>= _) _ _ _
  unfold newTuple
  refine wpAny_bind (wpAny_newObj_type ?_ (by show rest.toArray.size ≤ sizeLine; rw [List.size_toArray]; exact hr))
  unfold Builtin.BaseException.bexcPut
  refine wpAny_bind (wpAny_bind (wpAny_field at1 e4 e5 (wpAny_bind (wpAny_setField at1 e4 sz ?_))))
  have fin : Q .none ⟨(g1.push { cls := .type "tuple", data := .seq rest.toArray }).update ea (Obj.mapFields (·.setIfInBounds 0 (.ref g1.objs.size))), g2, g3, g4, g5⟩ := by
    refine h _ ⟨_, _, .ref g1.objs.size, Heap.get?_update_self _ at1 (Obj.isFreed_of_fields (Obj.data_mapFields e4 _)), by rw [Obj.cls_mapFields]; exact e2, by rw [dict_map]; exact e3, Obj.data_mapFields e4 _, by simp [sz], by rw [Array.getElem?_setIfInBounds_ne (by decide)]; exact e6, by rw [Array.getElem?_setIfInBounds_ne (by decide)]; exact e7, by rw [Array.size_setIfInBounds]; exact e8⟩ fun b o n q => ?_
    rw [Heap.get?_update_other _ _ (Ne.symm n)]
    exact Heap.get?_push_of_some _ q
  cases a0 <;> first | exact wpAny_letGo (wpAny_pure fin) | exact wpAny_pure (wpAny_pure fin)
abbrev rawExc (C t : Addr) : Obj := { cls := .ref C, data := .fields #[.ref t, .none, .none, .none, .bool false, .none] }
theorem make_exc {R : Result → Shared → Prop} {us : List Value} (kin : K.In s.heap) (x : XInit K C CL f) (hr : us.length ≤ sizeLine)
    (h : codeAny (model prog w) (A.under (.builtin "type.__call__" ⟨.ref C :: us, []⟩)) (.call (.ref f) ⟨.ref (s.heap.objs.size + 1) :: us, []⟩) (PySem.W.InitBack (s.heap.objs.size + 1) R)
      { s with heap := (s.heap.push { cls := .type "tuple", data := .seq us.toArray }).push (rawExc C s.heap.objs.size) }) :
    codeAny (model prog w) A (.call (.ref C) ⟨us, []⟩) R s := by
  obtain ⟨g1, g2, g3, g4, g5⟩ := s
  have FV := PySem.F.excBase_ValueError
  obtain ⟨nm, qn, N, bs, hdct, sn, sub, ab, col, dd, k0, k1, k2, k3, k5, hCl, tl⟩ := x.here kin
  have f1 := tc_lookup
  have f2 := tc_bind (.ref C)
  have tyC : (⟨g1, g2, g3, g4, g5⟩ : Shared).TypeIs (.ref C) "type" := ⟨_, hCl, rfl⟩
  have keeps : ∀ b o, g1.get? b = some o → ((g1.push { cls := .type "tuple", data := .seq us.toArray }).push (rawExc C g1.objs.size)).get? b = some o := fun b o q => Heap.get?_push_of_some _ (Heap.get?_push_of_some _ q)
  have hC1 := keeps _ _ hCl
  have kin1 : K.In ((g1.push { cls := .type "tuple", data := .seq us.toArray }).push (rawExc C g1.objs.size)) := kin.keeps keeps
  have got : ((g1.push { cls := .type "tuple", data := .seq us.toArray }).push (rawExc C g1.objs.size)).get? (g1.objs.size + 1) = some (rawExc C g1.objs.size) := by heap_get
  have LI := PySem.W.looks_findIn (M := model prog w) kin1 x.init
  have LB := PySem.W.bind_fn (M := model prog w) kin1 (.ref (g1.objs.size + 1)) x.fn
  have isC : (Value.ref C :: .ref CL :: veMro).contains (.ref C) = true := by simp
  refine codeAny_of_tree ?_
  show wpAny (model prog w) _ (callAny (.ref C) _) _ _ _
  repeat (any_goals (first | assumption | with_reducible refine wpAny_loadPart_at hCl ?_ | wp_step))
  refine ⟨rfl, ?_⟩
  refine codeAny_call_builtin_at (Code.quiet_builtin _ (by decide +kernel)) entry_typeCall (wpAny_check_type_call_sub hCl ?_)
  repeat (first | with_reducible refine wpAny_loadPart_at hCl ?_ | with_reducible refine wpAny_madeBy_exc hCl ?_ | wp_step)
  refine codeAny_call_builtin_code (Code.quiet_builtin _ FV.quiet) (wpAny_check_new_subT FV tl hCl ?_)
  refine codeAny_exc_new_subT FV tl hCl ?_ hr
  show wpAny _ _ _ _ _ _
  have LT : PySem.W.Looks (model prog w) ((g1.push { cls := .type "tuple", data := .seq us.toArray }).push (rawExc C g1.objs.size)) (typeOf (.ref (g1.objs.size + 1))) (.ref C) := (PySem.W.Looks.ld got).andThen .now
  have LS : PySem.W.Looks (model prog w) ((g1.push { cls := .type "tuple", data := .seq us.toArray }).push (rawExc C g1.objs.size)) (isSubtype (.ref C) (.ref C)) true := by
    intro A1 Q1 E1 s1 k1 q1
    obtain ⟨j1, j2, j3, j4, j5⟩ := s1
    exact wpAny_isSubtype_exc (k1 _ _ hC1) (by rw [isC]; exact q1)
  unfold callSpecial? isInstance specialOf
  refine wpAny_bind (wpAny_bind (LT.at (LS.at ?_)))
  rw [if_neg (by decide)]
  refine wpAny_bind (wpAny_holding (wpAny_bind (wpAny_bind (LT.at (LI.at ?_)))))
  refine wpAny_holding (wpAny_bind (LB.at (wpAny_bind (wpAny_call ?_))))
  refine codeAny_mono h fun r s' z => ?_
  cases r with
  | error ev => exact z
  | ok fl =>
    cases fl with
    | ret v =>
      obtain ⟨rfl, z2⟩ := z
      exact wpAny_pure (wpAny_pure z2)
    | next => exact z.elim
    | brk => exact z.elim
    | cont => exact z.elim
theorem raise_inst {env : Env} {t : Sem Value} {pos : Pos} {Q : Flow → Shared → Prop} (hh : A.handled = none)
    (h : wpAny (model prog w) A t (fun v s1 => ∃ e dx, v = .ref e ∧ K.In s1.heap ∧ (∃ C CL f, XInit K C CL f ∧ Made s1.heap e (.ref C) dx) ∧ E (.ref e) s1) E s) : wpAny (model prog w) A (raiseStmt env (some (do let v ← t; standAt pos; pure v)) none) Q E s := by
  unfold raiseStmt
  refine wpAny_bind (wpAny_bind (wpAny_mono h (fun v s1 z => wpAny_bind (wpAny_standAt (wpAny_pure ?_))) fun _ _ z => z))
  obtain ⟨e, dx, rfl, kin, ⟨C, CL, f, x, md⟩, hE⟩ := z
  obtain ⟨nm, qn, N, bs, hdct, sn, sub, ab, col, dd, k0, k1, k2, k3, k5, hCl, tl⟩ := x.here kin
  obtain ⟨oe, vs, a0, e1, e2, e3, e4, e5, e6, _⟩ := md
  obtain ⟨g1, g2, g3, g4, g5⟩ := s1
  cases oe with
  | mk c1 c2 c3 c4 =>
    dsimp only at e2 e3 e4
    subst e2 e3 e4
    have isB : (Value.ref C :: .ref CL :: veMro).contains (.type "BaseException") = true := by
      rw [List.contains_cons, List.contains_cons]
      rfl
    repeat (first | with_reducible refine wpAny_loadPart_at e1 ?_ | with_reducible refine wpAny_loadPart_at hCl ?_ | (with_reducible refine wpAny_isSubtype_exc hCl ?_; rw [isB]) | wp_step)
    rw [e6]
    refine wpAny_pure ?_
    rw [if_neg (by decide)]
    exact wpAny_pure (wpAny_raiseNew_none hh hE)
end
def newAt (ea : Addr) (cls : Value) (dx : Option Addr) : HO := .ext fun h => Made h ea cls dx
theorem newAt_ok {P : Program} {w : World} {H : Hp} {g : Heap} {ea : Addr} {cls : Value} {dx : Option Addr} (m : Made g ea cls dx) : ObjOk P w H g ea (newAt ea cls dx) := by
  obtain ⟨oe, vs, a0, e1, e2⟩ := id m
  exact ⟨m, ⟨oe, e1⟩, fun h1 h2 ⟨o1, v1, b1, q1, q2⟩ k => ⟨o1, v1, b1, k _ q1, q2⟩⟩
theorem newAt_is {P : Program} {w : World} {H : Hp} {g : Heap} {ea : Addr} {cls : Value} {dx : Option Addr} (k : HOk P w H g) (e : H ea = some (newAt ea cls dx)) : Made g ea cls dx := (k _ _ e).1
def dropH (H : Hp) (a : Addr) : Hp := fun b => if b = a then none else H b
theorem dropH_same {H : Hp} {a : Addr} : dropH H a a = none := by unfold dropH; rw [if_pos rfl]
theorem dropH_ne {H : Hp} {a b : Addr} (h : b ≠ a) : dropH H a b = H b := by unfold dropH; rw [if_neg h]
section
variable {X : Cx} {pins : List (Addr × Obj)} {σ : St} {H : Hp} {s : Shared} {ea C CL f : Addr}
theorem Inv.madeX (I : Inv X pins σ H s) (us : List Value) : Inv X pins σ (upd H (s.heap.objs.size + 1) (newAt (s.heap.objs.size + 1) (.ref C) none)) { s with heap := (s.heap.push { cls := .type "tuple", data := .seq us.toArray }).push (rawExc C s.heap.objs.size) } := by
  have I1 : Inv X pins σ H { s with heap := s.heap.push { cls := .type "tuple", data := .seq us.toArray } } := I.kept (t' := s.toks) fun b o q => Heap.get?_push_of_some _ q
  refine I1.laid (t' := s.toks) (fun b o q => Heap.get?_push_of_some _ q) (by show (s.heap.push _).objs.size ≤ _; rw [Heap.size_push]; exact Nat.le_refl _) (newAt_ok ?_)
  exact ⟨_, _, _, Heap.get?_push_at (by rw [Heap.size_push]) rfl, rfl, rfl, rfl, rfl, rfl, rfl, by show 4 < 6; decide⟩
theorem Inv.untrack {φ : Heap → Prop} (I : Inv X pins σ H s) (e : H ea = some (.ext φ)) (old : X.s₀.heap.get? ea = none) : Inv X pins σ (dropH H ea) s := by
  have nt : ∀ b o, H b = some o → (∀ ψ, o ≠ .ext ψ) → b ≠ ea := fun b o q n z => by rw [z, e] at q; cases q; exact n _ rfl
  refine ⟨I.ok, I.os, I.bare, ⟨I.base.keep, I.base.slot, fun b o q n hx => ?_, I.base.there, fun b xs q => ?_, fun b o xs q => ?_, fun b ps q => ?_⟩, I.loc, I.cell, ?_, fun x c q => ?_, fun p hp => ?_, fun b u q => ?_, I.len⟩
  · rw [dropH_ne (fun z => by rw [z, old] at q; cases q)]; exact I.base.free b o q n hx
  · have q2 := I.base.tups b xs q
    rw [dropH_ne (nt b _ q2 (fun _ z => by cases z))]; exact q2
  · have q2 := I.base.frzs b o xs q
    rw [dropH_ne (nt b _ q2 (fun _ z => by cases z))]; exact q2
  · obtain ⟨mm, q2⟩ := I.base.tbls b ps q
    exact ⟨mm, by rw [dropH_ne (nt b _ q2 (fun _ z => by cases z))]; exact q2⟩
  · rw [dropH_ne (ne_of_none e I.free).symm]; exact I.free
  · rw [dropH_ne (ne_of_none e (I.freeC x c q)).symm]; exact I.freeC x c q
  · obtain ⟨q1, q2, q3⟩ := I.pin p hp
    exact ⟨q1, by rw [dropH_ne (ne_of_none e q2).symm]; exact q2, q3⟩
  · by_cases hb : b = ea
    · rw [hb, dropH_same] at q; cases q
    · rw [dropH_ne hb] at q
      exact (I.hok b u q).stay (fun _ _ _ z => z) (fun c z => by rw [dropH_ne (nt c _ z (fun _ y => by cases y))]; exact z) fun c xs z => by rw [dropH_ne (nt c _ z (fun _ y => by cases y))]; exact z
end
def tRaiseI (E : XK) (C : Addr) (sp : Sp) (dvs : List V) (t : TA) : TS := fun _ σ H => t σ H fun vs H1 => vs.length ≤ 1000 ∧ ∀ ea, H1 ea = none →
  sp (.ref ea :: (vs ++ dvs)) (upd H1 ea (newAt ea (.ref C) none)) (fun v H2 => v = .non ∧ ∃ dx, H2 ea = some (newAt ea (.ref C) dx) ∧ E (.ref C) dx (dropH H2 ea)) E0
section
variable {P : Program} {w : World} {K : PySem.W.Frag} {mg : Str → Option Value} {base : Heap} {N : List Str} {qual : Str} {scope : Scope} {f : Addr} {cd : Value} {A : Around} {outer : List Env} {s₀ : Shared} {H₀ : Hp} {E : XK}
theorem ps_raiseI {x : Str} {e : Expr} {es : List Expr} {t : TA} {C CL fi : Addr} {fd : FuncData} {ps : List Str} {sp : Sp} {dvs : List V} {ds : List Value} {k : Nat} {np cpos pos : Pos} (xi : XInit K C CL fi)
    (G : FnOk P w K mg base (CXE P w) k fi fd ps sp) (hr : Room (k + 1) (cxE P w K mg base N qual scope f cd A outer s₀ H₀ E).A)
    (hg : Gl (cxE P w K mg base N qual scope f cd A outer s₀ H₀ E) x) (hm : mg x = some (.ref C)) (hb : Binds K fd ps ds) (hd : Vals dvs ds) (ha : PA (cxE P w K mg base N qual scope f cd A outer s₀ H₀ E) (e :: es) t)
    (hdb : (x == ("__debug__" : Str)) = false := by decide) (he : starEach (e :: es) (cxE P w K mg base N qual scope f cd A outer s₀ H₀ E).env = (false, eval e (cxE P w K mg base N qual scope f cd A outer s₀ H₀ E).env) :: starEach es (cxE P w K mg base N qual scope f cd A outer s₀ H₀ E).env := by rfl)
    (hpl : (backTo cpos (starEach es (cxE P w K mg base N qual scope f cd A outer s₀ H₀ E).env)).any (·.1) = false := by rfl) :
    PS (cxE P w K mg base N qual scope f cd A outer s₀ H₀ E) (.Raise (some (.Call (.Name x np) (e :: es) [] cpos)) none pos) (tRaiseI E C sp dvs t) := by
  intro pins s σ H D I h
  rw [arm_exec_Raise]
  refine wpAny_bind (wpAny_standAt ?_)
  refine raise_inst (K := K) (I.ok.hd rfl) ?_
  refine wpAny_Call_Name_kw (ld_glob I hg hm ?_ hdb)
  refine PySem.W.callWith_K (h₀ := base) I.ok.mod.kin xi.kp (thn (ha cpos pins s σ H _ I h) fun us s1 ⟨vs, H1, I1, r, hlen, q⟩ => ⟨I1.kIn, ?_⟩) he hpl
  have nw : s1.heap.get? (s1.heap.objs.size + 1) = none := Heap.get?_none_of_le (Nat.le_succ _)
  have hq := q _ (I1.hok.none_of nw)
  have ap := I1.apart rfl nw
  have I2 := I1.madeX (C := C) us
  have r2 : Vals (V.ref (s1.heap.objs.size + 1) :: (vs ++ dvs)) (Value.ref (s1.heap.objs.size + 1) :: (us ++ ds)) := .cons rfl (r.append hd)
  have hl : (Value.ref (s1.heap.objs.size + 1) :: us ++ ds).length = ps.length := by
    have e := r2.length
    rw [G.len _ _ _ _ hq] at e
    exact e.symm
  refine wpAny_call (make_exc I1.kIn xi (by show us.length ≤ sizeLine; rw [← r.length]; exact le_line hlen) (codeAny_mono (G.run _ _ _ _ ⟨Value.ref (s1.heap.objs.size + 1) :: us, []⟩ (Value.ref (s1.heap.objs.size + 1) :: (us ++ ds)) _ _ _ (hr.make C us [])
    (I2.env0.make C us []) (hb _ (Value.ref (s1.heap.objs.size + 1) :: us) I2.kIn hl) r2 hq) fun rr s' hq' => ?_))
  cases rr with
  | error ev =>
    obtain ⟨_, _, _, _, _, _, _, _, _, _, _, _, _, _, _, z⟩ := hq'
    exact z.elim
  | ok fl =>
    cases fl with
    | ret u =>
      obtain ⟨v, H', I3, rv, ev, dx, e3, q3⟩ := I2.after hq'
      subst ev
      have md := newAt_is I3.hok e3
      exact ⟨rv, _, dx, rfl, I3.kIn, ⟨C, CL, fi, xi, md⟩, throw_ok (I3.untrack e3 ap.old) md ⟨dropH_same, ap.old, ap.loc, ap.cell, ap.pin⟩ q3⟩
    | next => exact False.elim hq'
    | brk => exact False.elim hq'
    | cont => exact False.elim hq'
end
end L2
set_option maxRecDepth 100000
set_option maxHeartbeats 1000000
namespace L2
open PySem PySem.Spec PyProof.Rows
section
variable {X : Cx} {pins : List (Addr × Obj)} {σ : St} {H : Hp} {s : Shared} {ea : Addr}
theorem Inv.trackO {u : HO} (I : Inv X pins σ H s) (a : Apart X pins H ea) (hx : ObjOk X.prog X.w (upd H ea u) s.heap ea u) : Inv X pins σ (upd H ea u) s := by
  have ne : ∀ b o, X.s₀.heap.get? b = some o → b ≠ ea := fun b o e z => by rw [z, a.old] at e; cases e
  have nt : ∀ b o, H b = some o → b ≠ ea := fun b o e => ne_of_none e a.trk
  refine ⟨I.ok, I.os, I.bare, ⟨I.base.keep, I.base.slot, fun b o e n hx => ?_, I.base.there, fun b xs e => ?_, fun b o xs e => ?_, fun b ps e => ?_⟩, I.loc, I.cell, ?_, fun x c e => ?_, fun p hp => ?_, fun b v e => ?_, I.len⟩
  · rw [upd_ne (ne b o e)]; exact I.base.free b o e n hx
  · have q := I.base.tups b xs e
    rw [upd_ne (nt b _ q)]; exact q
  · have q := I.base.frzs b o xs e
    rw [upd_ne (nt b _ q)]; exact q
  · obtain ⟨mm, q⟩ := I.base.tbls b ps e
    exact ⟨mm, by rw [upd_ne (nt b _ q)]; exact q⟩
  · rw [upd_ne (Ne.symm a.loc)]; exact I.free
  · rw [upd_ne (a.cell x c e)]; exact I.freeC x c e
  · obtain ⟨q1, q2, q3⟩ := I.pin p hp
    exact ⟨q1, by rw [upd_ne (a.pin p hp)]; exact q2, q3⟩
  · by_cases hb : b = ea
    · subst hb
      rw [upd_same] at e
      cases e
      exact hx
    · rw [upd_ne hb] at e
      exact (I.hok b v e).stay (fun _ _ _ q => q) (fun c q => by rw [upd_ne (nt c _ q)]; exact q) fun c xs q => by rw [upd_ne (nt c _ q)]; exact q
theorem upd_id {a : Addr} {u : HO} (e : H a = some u) : upd H a u = H := by
  funext b
  unfold upd
  split
  · rename_i z; rw [z, e]
  · rfl
end
def sXFld (K : PySem.W.Frag) (ta tv : TE) (f : Str) : TS := fun D σ H => tv σ H fun y H1 => ta σ H1 fun x H2 => ∃ ea C CL fi, x = .ref ea ∧ H2 ea = some (newAt ea (.ref C) none) ∧ XInit K C CL fi ∧ PySem.W.findIn K (.ref C) f = some none ∧
  ∀ dx, H2 dx = none → D.nx σ (upd (upd H2 ea (newAt ea (.ref C) (some dx))) dx (.xd [(f, y)]))
def tUp (K : PySem.W.Frag) (CL : Addr) (t : TA) : TE := fun σ H Q => t σ H fun vs H1 => ∃ ea C fi rest dx, vs = .ref ea :: rest ∧ rest.length ≤ 1000 ∧ H1 ea = some (newAt ea (.ref C) dx) ∧ XInit K C CL fi ∧ Q .non H1
structure UpInit (K : PySem.W.Frag) (CL : Addr) : Prop where
  sp : PySem.W.specialIn K (.ref CL) "__getattribute__" = some (some (.builtin "type.__getattribute__"))
  rd : PySem.W.readsIn K CL (.type "type") = true
  fc : PySem.W.findCls K (.ref CL) (.type "type") "__init__" = some (.val (.builtin "ValueError.__init__"))
def tXFld (K : PySem.W.Frag) (ta : TE) (f : Str) : TE := fun σ H Q => ta σ H fun x H1 => ∃ ea C dx fs v, x = .ref ea ∧ H1 ea = some (excAt ea (.ref C) (some dx)) ∧ H1 dx = some (.xd fs) ∧ XCls K C ∧ PySem.W.hasDictIn K C = true ∧ PySem.W.findIn K (.ref C) f = some none ∧ fs.lookup f = some v ∧ Q v H1
section
variable {X : Cx} {o e value : Expr} {es : List Expr} {f x : Str} {pos pos' apos np : Pos} {ta tv : TE} {t : TA}
theorem ps_xfld (K : PySem.W.Frag) (ha : PE X o ta) (hv : PE X value tv) (hx : X.ex = [] := by rfl) (hK : X.K = K := by rfl) (hs : swapsWith value (some (.Attribute o f pos')) pos.line X.env = pure false := by rfl) : PS X (.Assign [.Attribute o f pos'] value pos) (sXFld K ta tv f) := by
  subst hK
  intro pins s σ H D I h
  refine plainObj_wpAny_Assign_Attribute (thn (hv pins s σ H _ I h) fun u s1 ⟨y, H1, I1, ry, q⟩ => thn (ha pins s1 σ H1 _ I1 q) fun ov s2 ⟨x, H2, I2, rx, ea, C, CL, fi, ex, hea, xi, hn, q2⟩ => ?_) hs
  subst ex
  obtain rfl : ov = Value.ref ea := rx
  obtain ⟨oe, vs, a0, e1, e2, e3, e4, e5, e6⟩ := newAt_is I2.hok hea
  refine xset I2.kIn xi e1 e2 e3 e4 hn fun h' tk g1 g2 g3 => ?_
  have nw : s2.heap.get? s2.heap.objs.size = none := Heap.get?_none_of_le (Nat.le_refl _)
  have ap := I2.apart hx nw
  have ne : s2.heap.objs.size ≠ ea := Ne.symm (Nat.ne_of_lt (Heap.lt_size e1))
  have I3 : Inv X pins σ (upd H2 ea (newAt ea (.ref C) (some s2.heap.objs.size))) { s2 with heap := h', toks := tk } :=
    I2.write (x := ea) (e := ea) (by rw [hea]; exact True.intro) (.inl rfl) (fun b q hb z => g3 b q hb z) ⟨_, g1⟩ (newAt_ok ⟨_, vs, a0, g1, e2, rfl, e4, e5, e6⟩)
  have I4 := I3.trackO (u := .xd [(f, y)]) (ea := s2.heap.objs.size) ⟨by rw [upd_ne ne]; exact ap.trk, ap.old, ap.loc, ap.cell, ap.pin⟩ ⟨_, g2, fun g => by
    by_cases z : g = f
    · subst z
      simp [List.lookup, ry, RelO]
    · simp [List.lookup, z, RelO, beq_false_of_ne z]⟩
  exact ⟨σ, _, I4, q2 _ ap.trk⟩
theorem pe_upinit (K : PySem.W.Frag) {CL : Addr} (U : UpInit K CL) (hg : Gl X x) (hm : X.mg x = some (.ref CL)) (ha : PA X (e :: es) t) {pl : Sem Bool} (hK : X.K = K := by rfl) (hdb : (x == ("__debug__" : Str)) = false := by decide)
    (hst : starEach (e :: es) X.env = (false, eval e X.env) :: starEach es X.env := by rfl) (hpl : (backTo pos (starEach es X.env)).any (·.1) = false := by rfl)
    (ht : eval (.Call (.Attribute (.Name x np) "__init__" apos) (e :: es) [] pos) X.env = (do
      let ov ← eval (.Name x np) X.env
      standAt apos.atName
      let (f, first) ← holding [ov] (getMethod ov "__init__" pl)
      callWith pos f first (backTo pos (starEach (e :: es) X.env)) (backToKw pos (keywordEach [] X.env))) := by rfl) :
    PE X (.Call (.Attribute (.Name x np) "__init__" apos) (e :: es) [] pos) (tUp K CL t) := by
  subst hK
  intro pins s σ H Q I h
  refine PySem.W.methodCall_KW (pl := pl) (ld_glob I hg hm ?_ hdb) ht
  refine PySem.W.method_cls I.kIn U.sp (PySem.W.cls_value I.kIn U.rd U.fc rfl ?_)
  have I0 := I.tok (s.toks + 1)
  refine callWith_builtin1 ?_ hst hpl
  refine thn (ha pos pins _ σ H _ I0 h) fun us s1 ⟨vs, H1, I1, r, ea, C, fi, rest, dx, ev, hl, hea, xi, q⟩ => ?_
  subst ev
  cases r with
  | cons r0 r1 =>
  cases r0
  refine call_vinit I1.kIn xi (newAt_is I1.hok hea) (by rw [← r1.length]; exact le_line hl) fun h' md kp => ?_
  obtain ⟨oe, _, _, e1, _⟩ := id md
  have I2 : Inv X pins σ (upd H1 ea (newAt ea (.ref C) dx)) { s1 with heap := h', toks := s1.toks } := I1.write (x := ea) (e := ea) (by rw [hea]; exact True.intro) (.inl rfl) (fun b q hb z => kp b q hb z) ⟨_, e1⟩ (newAt_ok md)
  rw [upd_id hea] at I2
  exact ⟨.non, H1, I2, rfl, q⟩
theorem pe_xfld (K : PySem.W.Frag) (he : PE X e ta) (hb : attributeBase e f X.env (eval e X.env) = eval e X.env := by rfl) (hK : X.K = K := by rfl) : PE X (.Attribute e f pos) (tXFld K ta f) := by
  subst hK
  intro pins s σ H Q I h
  refine attr_of hb (thn (he pins s σ H _ I h) fun u s1 ⟨x, H1, I1, rx, ea, C, dx, fs, v, ex, hea, hdx, xc, hd, n, l, q⟩ => ?_)
  subst ex
  obtain rfl : u = Value.ref ea := rx
  obtain ⟨⟨oe, vs, e1, e2, e3, e4⟩, _, _⟩ := I1.hok _ _ hea
  obtain ⟨mA, ns, rl⟩ := I1.hok _ _ hdx
  obtain ⟨od, ho, hlk⟩ := lookIn_ns ns
  obtain ⟨uv, hu, ru⟩ := RelO.some_of (v := v) (o := mA f) (by rw [← l]; exact rl f)
  have nc : PySem.W.notCls oe = true := by
    cases oe with
    | mk a1 a2 a3 a4 => dsimp only at e4; subst e4; rfl
  have J : PySem.W.InstAt s1.heap ea oe C (some od) := ⟨e1, e2, nc, by rw [e3]; exact ho⟩
  unfold getAttr
  refine wpAny_bind (wpAny_mkText ?_)
  refine xget (s := { s1 with toks := s1.toks + 1 }) (P := fun w s' => w = uv ∧ s' = { s1 with toks := s1.toks + 1 }) I1.kIn xc J ?_ ?_
  · exact xcall_value (s := { s1 with toks := s1.toks + 1 }) I1.kIn xc J (PySem.W.findObj_own hd n rfl (by rw [hlk, hu])) ⟨rfl, rfl⟩
  · rintro w s' ⟨rfl, rfl⟩
    exact PySem.W.handed_on (handed_of ru) ⟨v, H1, I1.tok _, ru, q⟩
end
structure FnH (P : Program) (w : World) (K : PySem.W.Frag) (mg : Str → Option Value) (base : Heap) (k : Nat) (f : Addr) (fd : FuncData) (ps : List Str) (sp : Sp) : Prop where
  len : ∀ vs H Q E, sp vs H Q E → vs.length = ps.length
  run : ∀ (A : Around) (ea : Addr) (outer : List Env) (s : Shared) (H : Hp) (args : Args) (us : List Value) (vs : List V) (Q : VK), Room k A → Env0 P w K mg base A outer s H → BindsTo s fd args (ps.zip us) → Vals vs us → sp vs H Q E0 →
    codeAny (model P w) (A.mark (some (.ref ea))) (.call (.ref f) args) (fun r s' => match r with | .ok (.ret u) => CE outer P w H s Q u s' | _ => False) s
section
variable {P : Program} {w : World} {K : PySem.W.Frag} {mg : Str → Option Value} {base : Heap} {qual : Str} {f : Addr}
end
end L2
set_option maxRecDepth 100000
set_option maxHeartbeats 1000000
namespace L2
open PySem PySem.Spec PySem.NumText PyProof.Rows
section
variable {X : Cx}
theorem mt_ljustF : MtR X "str.ljust" (fun x xs H Q => ∃ z i f, x = .str z ∧ xs = [.int i, .str f] ∧ PadOk i = true ∧ f.length = 1 ∧ Q (.str (Txt.ljustF z i (f.cps.getD 0 0))) H) := by
  intro pins s σ H x xs v us Q I rx r h
  obtain ⟨z, i, f, rfl, rfl, hp, hf, q⟩ := h
  obtain ⟨t, rfl⟩ := rx
  obtain ⟨u1, u2, rfl, ⟨t1, rfl⟩, ⟨t2, rfl⟩⟩ := vals2 r
  exact ljust_fill hp hf fun t2 k => ⟨.str _, H, I.tok k, ⟨_, rfl⟩, q⟩
theorem call_allB (K : PySem.W.Frag) (hc : X.calm = true) (hK : X.K = K := by rfl) : CallR X (.builtin "all") (fun xs H Q => ∃ (p : Addr) (bs : List Bool), xs = [.ref p] ∧ SqL K H p (bs.map V.bl) ∧ Q (.bl (bs.all id)) H) := by
  subst hK
  intro pins s σ H xs us Q I r h
  obtain ⟨p, bs, rfl, hq, q⟩ := h
  obtain ⟨u, rfl, rfl⟩ := vals1 r
  obtain ⟨its, rv, pl, hz⟩ := I.list hq
  have nth : ∀ (i : Nat) (v : Value), its.toArray[i]? = some v → v = Value.bool (bs.getD i true) := fun i v e => by
    have e : its[i]? = some v := by simpa using e
    have hi : i < bs.length := by
      have := (List.getElem?_eq_some_iff.mp e).1
      have h2 := rv.length
      simp at h2
      omega
    obtain ⟨u, e2, r2⟩ := rv.get (i := i) (x := V.bl bs[i]) (by simp [hi])
    rw [e] at e2
    cases e2
    cases r2
    rw [List.getD_eq_getElem?_getD, List.getElem?_eq_getElem hi]
    rfl
  refine call_all_walk (wpAny_pyIter_list pl.isList ?_)
  have hne : p ≠ s.heap.objs.size := by
    obtain ⟨o, e, _⟩ := pl.isList
    exact Nat.ne_of_lt (Heap.lt_size e)
  refine ⟨s.heap.objs.size, _, _, _, _, _, fun i => bs.getD i true, rfl, Walks.list (A := X.A.in1) (I.ok.hd hc) s.heap.objs.size p hne its.toArray, ⟨?_, ?_⟩, ?_, ?_⟩
  · exact ⟨_, Heap.get?_push_size _ rfl, rfl, rfl⟩
  · obtain ⟨o, e, r⟩ := pl.isList
    exact ⟨o, Heap.get?_push_of_some _ e, r⟩
  · intro i v s1 Q1 E1 hP hQ
    rw [nth i v hP]
    exact wpAny_truthy_bool hQ
  · intro h' tk hk
    refine ⟨.bl _, H, I.kept (t' := tk) (h' := h') fun b o e => hk b o (fun z => ?_) (Heap.get?_push_of_some _ e), rfl, ?_⟩
    · rw [List.mem_singleton] at z
      rw [z] at e
      exact absurd (Heap.lt_size e) (Nat.lt_irrefl _)
    · have hl : its.toArray.size = bs.length := by have := rv.length; simp at this ⊢; omega
      rw [hl]
      have : ((List.range bs.length).all fun i => bs.getD i true) = bs.all id := by
        clear q rv nth hl hq hz
        induction bs with
        | nil => rfl
        | cons b bs ih => rw [List.length_cons, List.range_succ_eq_map, List.all_cons, List.all_map, List.all_cons, ← ih]; rfl
      rw [this]; exact q
theorem call_intT : CallR X (.type "int") (fun xs H Q => ∃ z, xs = [.str z] ∧ AllDigits (cs z) ∧ cs z ≠ [] ∧ z.length ≤ 640 ∧ Q (.int (digitsVal (cs z))) H) := by
  intro pins s σ H xs us Q I r h
  obtain ⟨z, rfl, h1, h2, h3, q⟩ := h
  obtain ⟨u, rfl, t, rfl⟩ := vals1 r
  exact PySem.W.KIN.call_text (intText_digits h1 h2 (Nat.le_trans h3 (by decide))) h3 ⟨.int _, H, I.tok _, ⟨_, rfl⟩, q⟩
end
theorem boot_all : bootBuiltins "all" = some (.builtin "all") := by decide +kernel
theorem comp_str {x : Str} {D : Addr} {g : TG} {te : TE} {σ0 : St} {H1 : Hp} {Q : Hp → Prop} (f : Nat → Bool) (ok : St → Prop) (hD : H1 D = none) (hz : x.length ≤ 1000) (h0 : ok σ0)
    (hs : ∀ c σ' H (N : St → V → Hp → Prop), c ∈ cs x → ok σ' → (∀ σ3, ok σ3 → N σ3 (.bl (f c)) H) → g (.str ⟨#[c]⟩) σ' H fun σ3 H3 => te σ3 H3 fun v H4 => N σ3 v H4)
    (hd : ∀ H', Same H1 H' → H' D = some (.lst (((cs x).map f).map V.bl)) → Q H') :
    ∃ W : Nat → Nat → St → Hp → Prop, (∃ m, W 0 m σ0 (upd H1 D (.lst []))) ∧
      ∀ i m σ' H', W i m σ' H' → ((Its x).stop i H' ∧ Q H') ∨ ((Its x).go i H' ∧ ∀ y H2, (Its x).yld i H' y H2 → g y σ' H2 fun σ3 H3 => te σ3 H3 fun v H4 => ∃ xs, H4 D = some (.lst xs) ∧ xs.length < sizeLine ∧ ∃ m', m' < m ∧ W (i + 1) m' σ3 (upd H4 D (.lst (xs ++ [v])))) := by
  have sz : x.cps.size = (cs x).length := by simp [cs]
  have hz2 : (cs x).length ≤ 1000 := by rw [cs_len]; exact hz
  refine ⟨fun i m σ' H' => m = (cs x).length - i ∧ i ≤ (cs x).length ∧ ok σ' ∧ Same H1 H' ∧ H' D = some (.lst ((((cs x).take i).map f).map V.bl)), ⟨_, rfl, Nat.zero_le _, h0, Same.new hD, upd_same⟩, ?_⟩
  rintro i m σ' H' ⟨rfl, hi, ho, sm, hl⟩
  by_cases hlt : i < (cs x).length
  · refine .inr ⟨by show i < x.cps.size; omega, fun y H2 yl => ?_⟩
    obtain ⟨e1, c, e2, e3⟩ := yl
    subst e1 e3
    have e2' : (cs x)[i]? = some c := by simpa [cs] using e2
    refine hs c σ' _ (fun σ3 v H4 => ∃ xs', H4 D = some (.lst xs') ∧ xs'.length < sizeLine ∧ ∃ m', m' < (cs x).length - i ∧ _) (List.mem_of_getElem? e2') ho fun σ3 ho3 => ?_
    refine ⟨_, hl, Nat.lt_of_lt_of_le (show _ < 1001 by simp; omega) (by decide), (cs x).length - (i + 1), by omega, rfl, hlt, ho3, sm.upd hD, ?_⟩
    rw [upd_same, List.take_add_one, e2', List.map_append, List.map_append]
    rfl
  · have e : i = (cs x).length := by omega
    subst e
    refine .inl ⟨by show x.cps.size ≤ _; omega, hd H' sm ?_⟩
    rw [List.take_length] at hl
    exact hl
theorem in_figs (c : Nat) : (!(Builtin.Str.occurrences figs ⟨#[c]⟩ 0 figs.length 1).isEmpty) = isDig c := by
  rw [StrLaws.found_one, Bool.eq_iff_iff, decide_eq_true_eq, isDig_iff]
  constructor
  · intro h
    exact isDig_iff.mp (List.all_eq_true.mp (show (cs figs).all isDig = true by decide +kernel) c h)
  · rintro ⟨h1, h2⟩
    have : c = 48 ∨ c = 49 ∨ c = 50 ∨ c = 51 ∨ c = 52 ∨ c = 53 ∨ c = 54 ∨ c = 55 ∨ c = 56 ∨ c = 57 := by omega
    rcases this with rfl | rfl | rfl | rfl | rfl | rfl | rfl | rfl | rfl | rfl <;> decide +kernel
theorem num_of {l : List Nat} (hd : AllDigits l) (h : l = [48] ∨ (l ≠ [] ∧ l.head? ≠ some 48)) : cs (Str.ofString (toString ((digitsVal l : Nat) : Int))) = l := by
  rw [num_cs, toDigits_all l hd]
  rcases h with rfl | ⟨h1, h2⟩
  · decide
  · cases l with
    | nil => exact absurd rfl h1
    | cons c r =>
      have ne : ¬ (c == 48) = true := fun z => h2 (by rw [eq_of_beq z]; rfl)
      rw [List.dropWhile_cons, if_neg ne]
      show ((c :: r).map Char.ofNat).map Char.toNat = _
      rw [List.map_map]
      have key : ∀ l : List Nat, AllDigits l → l.map (Char.toNat ∘ Char.ofNat) = l := by
        intro l
        induction l with
        | nil => intro _; rfl
        | cons a t ih =>
          intro hl
          have ha := hl a (by simp)
          rw [List.map_cons, ih fun c hc => hl c (by simp [hc])]
          have : a = 48 ∨ a = 49 ∨ a = 50 ∨ a = 51 ∨ a = 52 ∨ a = 53 ∨ a = 54 ∨ a = 55 ∨ a = 56 ∨ a = 57 := by omega
          rcases this with rfl | rfl | rfl | rfl | rfl | rfl | rfl | rfl | rfl | rfl <;> rfl
      exact key _ hd
theorem slice_to {z : Str} {j : Int} (h0 : 0 ≤ j) (h1 : j ≤ z.length) : cs (Txt.slice z none (some j)) = (cs z).take j.toNat := by
  have := eq_of_beq (slice_closes_toL h0 h1)
  rw [this]
  show (((cs z).drop 0).take (j - 0).toNat).toArray.toList = _
  simp
end L2
set_option maxRecDepth 100000
set_option maxHeartbeats 1000000
namespace L2
open PySem PySem.Spec PySem.NumText PyProof.Rows
section
variable {X : Cx}
theorem boot_list : bootBuiltins "list" = some (.type "list") := by decide +kernel
theorem op_in_seqK (K : PySem.W.Frag) (hK : X.K = K := by rfl) : OpR X (compareOp .In) (rIn K false) := by subst hK; exact op_in_seq
theorem sqt_of {K : PySem.W.Frag} {a : Addr} {od : Option Addr} {n : Nat} {sl : Array (Option Value)} {us : List Value} {xs : List V} (h : K.lookup a = some ⟨.type "tuple", od, .seq us.toArray n, sl⟩) (hl : us.length ≤ 1000) (r : Vals xs us) (H : Hp) : SqT K H a xs :=
  .inr ⟨_, _, _, h, rfl, rfl, by rw [List.size_toArray]; exact le_line hl, r⟩
end
def lets : Str := Str.ofString "abcdefghijklmnopqrstuvwxyz"
def isLet (c : Nat) : Bool := decide (97 ≤ c) && decide (c ≤ 122)
theorem lets_are : cs lets = List.range' 97 26 := by decide +kernel
theorem in_lets (c : Nat) : (!(Builtin.Str.occurrences lets ⟨#[c]⟩ 0 lets.length 1).isEmpty) = isLet c := by
  rw [StrLaws.found_one, Bool.eq_iff_iff, decide_eq_true_eq]
  show c ∈ cs lets ↔ _
  rw [lets_are, List.mem_range'_1]
  unfold isLet
  simp only [Bool.and_eq_true, decide_eq_true_eq]
  omega
structure ItemOk (e : Expr) (te : TE) : Prop where
  pe : ∀ X : Cx, PE X e te
  st : ∀ (es : List Expr) (env : Env), starEach (e :: es) env = (false, eval e env) :: starEach es env
theorem ItemOk.pa {X : Cx} {e : Expr} {te : TE} {es : List Expr} {t : TA} (i : ItemOk e te) (h : PA X es t) : PA X (e :: es) (tCons te t) := pa_cons (i.pe X) h (i.st es X.env)
end L2
namespace L2
open PySem PySem.Spec PySem.NumText PyProof.Rows
theorem mt_startswith {X : Cx} : MtR X "str.startswith" (fun x xs H Q => ∃ z y, x = .str z ∧ xs = [.str y] ∧ Q (.bl (Txt.startswith z y)) H) := by
  intro pins s σ H x xs v us Q I rx r h
  obtain ⟨z, y, rfl, rfl, q⟩ := h
  obtain ⟨t, rfl⟩ := rx
  obtain ⟨u, rfl, t', rfl⟩ := vals1 r
  exact SC.startswith ⟨.bl _, H, I, rfl, q⟩
theorem starts_one (z : Str) (c : Nat) : Txt.startswith z ⟨#[c]⟩ = decide ((cs z).head? = some c) := by
  unfold Txt.startswith
  rw [Bool.eq_iff_iff, Bool.and_eq_true, decide_eq_true_eq, decide_eq_true_eq, StrLaws.subAt_one, List.head?_eq_getElem?]
theorem val_mono (m : List Nat) : ∀ l : List Nat, digitsVal l ≤ digitsVal (l ++ m) := by
  induction m with
  | nil => intro l; rw [List.append_nil]; exact Nat.le_refl _
  | cons c m ih =>
    intro l
    rw [show l ++ c :: m = (l ++ [c]) ++ m by simp]
    refine Nat.le_trans ?_ (ih _)
    rw [digitsVal_snoc]
    omega
theorem cut_mem {xs : List V} {lo hi : Option Int} {x : V} (h : x ∈ cutV xs lo hi) : x ∈ xs := by
  unfold cutV at h
  exact List.mem_of_mem_drop (List.mem_of_mem_take h)
theorem app_len (a b : Str) : (a ++ b).length = a.length + b.length := by rw [← cs_len, cs_app, List.length_append, cs_len, cs_len]
theorem ne_text {x y : Str} (h : cs x ≠ cs y) : ¬ (V.str x = V.str y) := fun e => h (congrArg cs (V.str.inj e))
theorem cs_empty : cs (Str.ofString "") = [] := by decide +kernel
theorem cs_zero : cs (Str.ofString "0") = [48] := by decide +kernel
end L2
set_option maxRecDepth 100000
namespace L2
open PySem PySem.Spec PyProof.Rows
section
variable {κ : Type} [DecidableEq κ]
def valV (kvs : List (κ × V)) (k : κ) : Option V := (kvs.find? fun kv => decide (kv.1 = k)).map (·.2)
def putK (kvs : List (κ × V)) (k : κ) (v : V) : List (κ × V) :=
  if (kvs.any fun kv => decide (kv.1 = k)) = true then kvs.map (fun kv => if kv.1 = k then (kv.1, v) else kv) else kvs ++ [(k, v)]
theorem valV_pos {p : κ × V} {r : List (κ × V)} {k : κ} (e : p.1 = k) : valV (p :: r) k = some p.2 := by simp [valV, List.find?_cons, e]
theorem valV_neg {p : κ × V} {r : List (κ × V)} {k : κ} (e : ¬ p.1 = k) : valV (p :: r) k = valV r k := by simp [valV, List.find?_cons, e]
theorem valV_any (k : κ) : ∀ kvs : List (κ × V), (kvs.any fun kv => decide (kv.1 = k)) = (valV kvs k).isSome
  | [] => rfl
  | p :: r => by
    rw [List.any_cons]
    by_cases e : p.1 = k
    · simp only [valV_pos e, decide_eq_true e, Bool.true_or, Option.isSome_some]
    · rw [valV_neg e, decide_eq_false e, Bool.false_or]; exact valV_any k r
theorem valV_map (k j : κ) (y : V) : ∀ kvs : List (κ × V), valV (kvs.map fun kv => if kv.1 = k then (kv.1, y) else kv) j = (valV kvs j).map fun x => if j = k then y else x
  | [] => rfl
  | p :: r => by
    have ih := valV_map k j y r
    rw [List.map_cons]
    by_cases h : p.1 = k
    · rw [if_pos h]
      by_cases e : p.1 = j
      · rw [valV_pos (p := (p.1, y)) e, valV_pos e, Option.map_some, if_pos (e.symm.trans h)]
      · rw [valV_neg (p := (p.1, y)) e, valV_neg e, ih]
    · rw [if_neg h]
      by_cases e : p.1 = j
      · rw [valV_pos (p := p) e, valV_pos e, Option.map_some, if_neg (fun z => h (e.trans z))]
      · rw [valV_neg (p := p) e, valV_neg e, ih]
theorem valV_snoc (k j : κ) (y : V) : ∀ kvs : List (κ × V), valV kvs k = none → valV (kvs ++ [(k, y)]) j = if j = k then some y else valV kvs j
  | [], _ => by
    by_cases e : k = j
    · rw [if_pos e.symm]; exact valV_pos (p := (k, y)) e
    · rw [if_neg (fun z => e z.symm)]; exact valV_neg (p := (k, y)) e
  | p :: r, hn => by
    rw [List.cons_append]
    have hk : ¬ p.1 = k := fun z => by rw [valV_pos z] at hn; cases hn
    rw [valV_neg hk] at hn
    have ih := valV_snoc k j y r hn
    by_cases e : p.1 = j
    · rw [valV_pos e, valV_pos e, if_neg (fun z => hk (e.trans z))]
    · rw [valV_neg e, valV_neg e, ih]
theorem valV_put (kvs : List (κ × V)) (k j : κ) (y : V) : valV (putK kvs k y) j = if j = k then some y else valV kvs j := by
  unfold putK
  by_cases a : (kvs.any fun kv => decide (kv.1 = k)) = true
  · rw [if_pos a, valV_map]
    rw [valV_any] at a
    by_cases e : j = k
    · obtain ⟨x, hx⟩ := Option.isSome_iff_exists.mp a
      rw [if_pos e, e, hx, Option.map_some, if_pos rfl]
    · rw [if_neg e]
      cases valV kvs j with
      | none => rfl
      | some x => rw [Option.map_some, if_neg e]
  · rw [if_neg a]
    refine valV_snoc k j y kvs ?_
    rw [valV_any] at a
    cases q : valV kvs k with
    | none => rfl
    | some x => rw [q] at a; exact (a rfl).elim
theorem length_putK (kvs : List (κ × V)) (k : κ) (v : V) : (putK kvs k v).length ≤ kvs.length + 1 := by
  unfold putK
  split
  · rw [List.length_map]; omega
  · rw [List.length_append, List.length_cons, List.length_nil]; omega
theorem RelO.isSome_eq {o : Option V} {u : Option Value} (r : RelO o u) : o.isSome = u.isSome := by
  cases o with
  | none => cases u with
    | none => rfl
    | some _ => exact (show False from r).elim
  | some _ => cases u with
    | none => exact (show False from r).elim
    | some _ => rfl
theorem RelO.getD {o : Option V} {u : Option Value} {d : V} {d' : Value} (r : RelO o u) (rd : RelV d d') : RelV (o.getD d) (u.getD d') := by
  cases o with
  | none => cases u with
    | none => exact rd
    | some _ => exact (show False from r).elim
  | some _ => cases u with
    | none => exact (show False from r).elim
    | some _ => exact r
theorem KV.val {kvs : List (κ × V)} {vs : List (κ × Value)} (r : KV kvs vs) (k : κ) : RelO (valV kvs k) (valueAt vs k) := by
  unfold KV at r
  induction r with
  | nil => exact True.intro
  | @cons p q ps qs h t ih =>
    obtain ⟨h1, h2⟩ := h
    by_cases e : p.1 = k
    · have e' : q.1 = k := h1.symm.trans e
      have b : valueAt (q :: qs) k = some q.2 := by simp [valueAt, List.find?_cons, e']
      rw [valV_pos e, b]; exact h2
    · have e' : ¬ q.1 = k := fun z => e (h1.trans z)
      have b : valueAt (q :: qs) k = valueAt qs k := by simp [valueAt, List.find?_cons, e']
      rw [valV_neg e, b]; exact ih
theorem KV.any {kvs : List (κ × V)} {vs : List (κ × Value)} (r : KV kvs vs) (k : κ) : (kvs.any fun kv => decide (kv.1 = k)) = vs.any fun kv => decide (kv.1 = k) := by
  unfold KV at r
  induction r with
  | nil => rfl
  | cons h t ih => rw [List.any_cons, List.any_cons, ih, h.1]
theorem KV.repl {kvs : List (κ × V)} {vs : List (κ × Value)} (r : KV kvs vs) (k : κ) {y : V} {u : Value} (ry : RelV y u) :
    KV (kvs.map fun kv => if kv.1 = k then (kv.1, y) else kv) (vs.map fun kv => if kv.1 = k then (kv.1, u) else kv) := by
  unfold KV at r ⊢
  induction r with
  | nil => exact .nil
  | @cons p q ps qs h t ih =>
    rw [List.map_cons, List.map_cons]
    refine .cons ?_ ih
    obtain ⟨h1, h2⟩ := h
    by_cases e : p.1 = k
    · rw [if_pos e, if_pos (h1.symm.trans e)]; exact ⟨h1, ry⟩
    · rw [if_neg e, if_neg (fun z => e (h1.trans z))]; exact ⟨h1, h2⟩
theorem KV.put {kvs : List (κ × V)} {vs : List (κ × Value)} (r : KV kvs vs) (k : κ) {y : V} {u : Value} (ry : RelV y u) : KV (putK kvs k y) (stored vs k u) := by
  unfold putK stored
  rw [r.any k]
  by_cases e : (vs.any fun kv => decide (kv.1 = k)) = true
  · rw [if_pos e, if_pos e]; exact r.repl k ry
  · rw [if_neg e, if_neg e]; exact Paired.snoc r ⟨rfl, ry⟩
theorem KV.length {kvs : List (κ × V)} {vs : List (κ × Value)} (r : KV kvs vs) : kvs.length = vs.length := Paired.length r
end
theorem kV_is {P : Program} {w : World} {k : Key} {u : Value} (r : RelV (kV k) u) : (mixKind P w).is k u = true := by
  cases k with
  | inl i => obtain ⟨t, e⟩ := (show ∃ t, u = Value.int i t from r); subst e; exact mixKind_int P w i t
  | inr x => obtain ⟨t, e⟩ := (show ∃ t, u = Value.str x t from r); subst e; exact mixKind_str P w x t
theorem items_are {P : Program} {w : World} : ∀ {ks : List Key} {us : List Value}, Vals (ks.map kV) us → ItemsAre (mixKind P w) ks us
  | [], _, r => by rw [List.map_nil] at r; cases r; exact .nil
  | k :: ks, _, r => by
    rw [List.map_cons] at r
    cases r with
    | cons h t => exact .cons (kV_is h) (items_are t)
abbrev KT (H : Hp) : List (List Key × V) → List (List Key × Addr × Value) → Prop := Paired fun p q => p.1 = q.1 ∧ H q.2.1 = some (.tup (p.1.map kV)) ∧ RelV p.2 q.2.2
theorem KT.val {H : Hp} {kvs : List (List Key × V)} {xs : List (List Key × Addr × Value)} (r : KT H kvs xs) (k : List Key) : RelO (valV kvs k) ((atKey xs k).map (·.2)) := by
  induction r with
  | nil => exact True.intro
  | @cons p q ps qs h t ih =>
    obtain ⟨h1, _, h2⟩ := h
    by_cases e : p.1 = k
    · have e' : q.1 = k := h1.symm.trans e
      have b : atKey (q :: qs) k = some q.2 := by simp [atKey, List.find?_cons, e']
      rw [valV_pos e, b]; exact h2
    · have e' : ¬ q.1 = k := fun z => e (h1.trans z)
      have b : atKey (q :: qs) k = atKey qs k := by simp [atKey, List.find?_cons, e']
      rw [valV_neg e, b]; exact ih
theorem KT.repl {H : Hp} {kvs : List (List Key × V)} {xs : List (List Key × Addr × Value)} (r : KT H kvs xs) (k : List Key) {y : V} {u : Value} (ry : RelV y u) :
    KT H (kvs.map fun kv => if kv.1 = k then (kv.1, y) else kv) (xs.map (putAt k u)) := by
  induction r with
  | nil => exact .nil
  | @cons p q ps qs h t ih =>
    rw [List.map_cons, List.map_cons]
    refine .cons ?_ ih
    obtain ⟨h1, h2, h3⟩ := h
    unfold putAt
    by_cases e : p.1 = k
    · rw [if_pos e, if_pos (h1.symm.trans e)]; exact ⟨h1, h2, ry⟩
    · rw [if_neg e, if_neg (fun z => e (h1.trans z))]; exact ⟨h1, h2, h3⟩
theorem KT.put {H : Hp} {kvs : List (List Key × V)} {xs : List (List Key × Addr × Value)} (r : KT H kvs xs) (k : List Key) {b : Addr} {y : V} {u : Value} (hb : H b = some (.tup (k.map kV))) (ry : RelV y u) :
    KT H (putK kvs k y) (storedH xs k b u) := by
  have e : (kvs.any fun kv => decide (kv.1 = k)) = (atKey xs k).isSome := by
    rw [valV_any, (r.val k).isSome_eq, Option.isSome_map]
  unfold putK storedH
  rw [e]
  by_cases q : (atKey xs k).isSome = true
  · rw [if_pos q, if_pos q]; exact r.repl k ry
  · rw [if_neg q, if_neg q]; exact Paired.snoc r ⟨rfl, hb, ry⟩
theorem KT.keeps {H H' : Hp} {kvs : List (List Key × V)} {xs : List (List Key × Addr × Value)} (r : KT H kvs xs) (ht : ∀ b ys, H b = some (.tup ys) → H' b = some (.tup ys)) : KT H' kvs xs :=
  Paired.mapP r fun _ _ z => ⟨z.1, ht _ _ z.2.1, z.2.2⟩
section
variable {P : Program} {w : World} {H : Hp} {h : Heap} {a : Addr}
theorem rd_of {u : HO} (ok : HOk P w H h) (e : Rd H a u) : ObjOk P w H h a u := e.ok ok
theorem dk_rd {kvs : List (Key × V)} (ok : HOk P w H h) (e : Rd H a (.dK kvs)) : kvs.length ≤ sizeLine ∧ (a == sysModules) = false ∧ ∃ vs, KV kvs vs ∧ h.DictOf (mixKind P w) a vs :=
  show ObjOk P w H h a (.dK kvs) from rd_of ok e
theorem dk_of {kvs : List (Key × V)} (ok : HOk P w H h) (e : H a = some (.dK kvs)) : kvs.length ≤ sizeLine ∧ (a == sysModules) = false ∧ ∃ vs, KV kvs vs ∧ h.DictOf (mixKind P w) a vs := dk_rd ok (.inl e)
theorem key_of {ks : List Key} (ok : HOk P w H h) (e : H a = some (.tup (ks.map kV))) : (tupleKind (mixKind P w)).is h ks a := by
  obtain ⟨_, its, r, o, h1, h2, n, h3⟩ := (show ObjOk P w H h a (.tup (ks.map kV)) from ok a _ e)
  exact ⟨o, its.toArray, n, h1, h2, h3, by simpa using items_are r⟩
theorem dt_rd {kvs : List (List Key × V)} (ok : HOk P w H h) (e : Rd H a (.dT kvs)) : kvs.length ≤ sizeLine ∧ (a == sysModules) = false ∧
    ∃ xs, KT H kvs xs ∧ h.DictOfH (tupleKind (mixKind P w)) a xs := by
  obtain ⟨z, y, xs, r, o, es, ep, h1, h2, h3, h4, h5⟩ := (show ObjOk P w H h a (.dT kvs) from rd_of ok e)
  refine ⟨z, y, xs, r, o, es, ep, h1, h2, h3, h4, fun x hx => ?_, h5⟩
  have all : ∀ {l : List (List Key × V)} {m : List (List Key × Addr × Value)}, KT H l m → ∀ x ∈ m, (tupleKind (mixKind P w)).is h x.1 x.2.1 := by
    intro l m q
    induction q with
    | nil => intro x hx; exact nomatch hx
    | @cons p q ps qs hq t ih =>
      intro x hx
      rcases List.mem_cons.mp hx with e | hx
      · subst e
        exact key_of ok (by rw [← hq.1]; exact hq.2.1)
      · exact ih x hx
  exact all r x hx
theorem dt_of {kvs : List (List Key × V)} (ok : HOk P w H h) (e : H a = some (.dT kvs)) : kvs.length ≤ sizeLine ∧ (a == sysModules) = false ∧
    ∃ xs, KT H kvs xs ∧ h.DictOfH (tupleKind (mixKind P w)) a xs := dt_rd ok (.inl e)
end
def DGet (H : Hp) (a : Addr) (y : V) (r : Option V) : Prop :=
  (∃ kvs k, Rd H a (.dK kvs) ∧ y = kV k ∧ r = valV kvs k) ∨ ∃ kvs k b, Rd H a (.dT kvs) ∧ y = .ref b ∧ H b = some (.tup (k.map kV)) ∧ r = valV kvs k
def DPut (H : Hp) (a : Addr) (y v : V) (H' : Hp) : Prop :=
  (∃ kvs k, H a = some (.dK kvs) ∧ y = kV k ∧ kvs.length < sizeLine ∧ H' = upd H a (.dK (putK kvs k v))) ∨
  ∃ kvs k b, H a = some (.dT kvs) ∧ y = .ref b ∧ H b = some (.tup (k.map kV)) ∧ kvs.length < sizeLine ∧ H' = upd H a (.dT (putK kvs k v))
theorem DGet.k {H : Hp} {a : Addr} {kvs : List (Key × V)} {k : Key} (e : H a = some (.dK kvs)) : DGet H a (kV k) (valV kvs k) := .inl ⟨kvs, k, .inl e, rfl, rfl⟩
theorem DPut.k {H : Hp} {a : Addr} {kvs : List (Key × V)} {k : Key} {v : V} (e : H a = some (.dK kvs)) (hl : kvs.length < sizeLine) : DPut H a (kV k) v (upd H a (.dK (putK kvs k v))) := .inl ⟨kvs, k, e, rfl, hl, rfl⟩
section
variable {X : Cx} {pins : List (Addr × Obj)} {σ : St} {H : Hp} {s : Shared} {a : Addr} {y v : V} {u r : Value} {o : Option V} {A : Around} {E : Value → Shared → Prop}
theorem Inv.big (I : Inv X pins σ H s) : sysModules < s.heap.objs.size := by
  have h : mainGlobals < s.heap.objs.size := (I.mod.glob.keeps I.bk).lt
  exact Nat.lt_trans (by decide) h
theorem d_write {h' : Heap} {t' : Nat} {ob : HO} (I : Inv X pins σ H s) (mu : Mut (H a)) (hs : Heap.SameBut a s.heap h') (he : ∃ q, h'.get? a = some q) (new : ObjOk X.prog X.w (upd H a ob) h' a ob) :
    Inv X pins σ (upd H a ob) { s with heap := h', toks := t' } :=
  I.write (x := a) (e := a) mu (.inl rfl) (fun b q hb z => (hs.2 b hb).trans z) he new
theorem dk_new {P : Program} {w : World} {H' : Hp} {h' : Heap} {kvs : List (Key × V)} {vs : List (Key × Value)} (z : kvs.length ≤ sizeLine) (hd : (a == sysModules) = false) (rel : KV kvs vs) (dd : h'.DictOf (mixKind P w) a vs) :
    ObjOk P w H' h' a (.dK kvs) := ⟨z, hd, vs, rel, dd⟩
theorem d_setItem {H' : Hp} {Q : Unit → Shared → Prop} (hu : A.units + 1 < cLine) (I : Inv X pins σ H s) (g : DPut H a y v H') (ry : RelV y u) (rv : RelV v r) (h : ∀ s', Inv X pins σ H' s' → Q () s') :
    wpAny (model X.prog X.w) A (setItem (.ref a) u r) Q E s := by
  rcases g with ⟨kvs, k, e, ey, l, eH⟩ | ⟨kvs, k, b, e, ey, eb, l, eH⟩
  · subst ey eH
    obtain ⟨z, hd, vs, rel, dd⟩ := dk_of I.hok e
    have hz : vs.length ≤ sizeLine := by rw [← rel.length]; exact z
    have hl : (putK kvs k v).length ≤ sizeLine := by have := length_putK kvs k v; omega
    refine wpAny_setItem_pairs (hsz := hz) (kV_is ry) dd fun h' dd' hs => h _ ?_
    have he : ∃ q, h'.get? a = some q := let ⟨q, _, _, hq, _⟩ := dd'; ⟨q, hq⟩
    exact d_write I (by rw [e]; exact True.intro) hs he (dk_new hl hd (rel.put k rv) dd')
  · subst ey eH
    cases (show u = Value.ref b from ry)
    obtain ⟨z, hd, xs, rel, dd⟩ := dt_of I.hok e
    have hz : xs.length ≤ sizeLine := by rw [← Paired.length rel]; exact z
    have hl : (putK kvs k v).length ≤ sizeLine := by have := length_putK kvs k v; omega
    refine wpAny_setItem_heap (hsz := hz) (tupleKind_room_in1 hu) (key_of I.hok eb) dd fun h' dd' hs => h _ ?_
    obtain ⟨q, es, ep, hq, h2, h3, h4, _, h5⟩ := dd'
    refine d_write I (by rw [e]; exact True.intro) hs ⟨q, hq⟩ ⟨hl, hd, _, (rel.put k eb rv).keeps fun c ys ec => ?_, q, es, ep, hq, h2, h3, h4, h5⟩
    rw [upd_ne (ne_of ec e (fun z => nomatch z))]
    exact ec
end
section
variable {X : Cx} {pins : List (Addr × Obj)} {σ : St} {H : Hp} {s : Shared} {a : Addr} {kvs : List (Key × V)} {k : Key} {u : Value} {A : Around} {E : Value → Shared → Prop}
end
def sDPut (td ty tv : TE) : TS := fun D σ H => tv σ H fun v H1 => td σ H1 fun x H2 => ty σ H2 fun y H3 => ∃ a H4, x = .ref a ∧ DPut H3 a y v H4 ∧ D.nx σ H4
section
variable {X : Cx} {o i e value : Expr} {pos pos' tpos : Pos} {td ty tv : TE}
theorem ps_dput (hu : X.A.units + 1 < cLine) (ho : PE X o td) (hi : PE X i ty) (hv : PE X value tv) (hs : swapsWith value (some (.Subscript o i pos')) pos.line X.env = pure false) :
    PS X (.Assign [.Subscript o i pos'] value pos) (sDPut td ty tv) := by
  intro pins s σ H D I h
  refine wpAny_Assign_Subscript (thn (hv pins s σ H _ I h) fun r s1 ⟨v, H1, I1, rv, q1⟩ => thn (ho pins s1 σ H1 _ I1 q1) fun u s2 ⟨x, H2, I2, rx, q2⟩ => thn (hi pins s2 σ H2 _ I2 q2) fun iv s3 ⟨y, H3, I3, ry, a, H4, ex, g, q3⟩ => ?_) hs
  subst ex
  obtain rfl : u = Value.ref a := rx
  exact d_setItem hu I3 g ry rv fun s4 I4 => ⟨σ, H4, I4, q3⟩
end
theorem dk_empty {P : Program} {w : World} {H : Hp} (h : Heap) (hb : sysModules < h.objs.size) : ObjOk P w H (h.push { cls := .type "dict", data := .dict #[] }) h.objs.size (.dK []) :=
  ⟨Nat.zero_le _, beq_eq_false_iff_ne.mpr (Ne.symm (Nat.ne_of_lt hb)), [], .nil, Heap.DictOf.new h⟩
theorem dt_empty {P : Program} {w : World} {H : Hp} (h : Heap) (hb : sysModules < h.objs.size) : ObjOk P w H (h.push { cls := .type "dict", data := .dict #[] }) h.objs.size (.dT []) :=
  ⟨Nat.zero_le _, beq_eq_false_iff_ne.mpr (Ne.symm (Nat.ne_of_lt hb)), [], .nil, _, #[], 0, Heap.get?_push_size _ rfl, ⟨rfl, rfl, rfl⟩, rfl, rfl, List.nodup_nil⟩
def tDNewK : TE := fun _ H Q => ∀ p, H p = none → Q (.ref p) (upd H p (.dK []))
def tDNewT : TE := fun _ H Q => ∀ p, H p = none → Q (.ref p) (upd H p (.dT []))
section
variable {X : Cx} {pos : Pos}
theorem pe_dnewK : PE X (.Dict [] [] pos) tDNewK := fun pins s σ H Q I h =>
  wpAny_Dict_empty ⟨.ref s.heap.objs.size, _, I.laid (a := s.heap.objs.size) (o := .dK []) (t' := s.toks) (fun _ _ q => Heap.get?_push_of_some _ q) (Nat.le_refl _) (dk_empty s.heap I.big), rfl, h _ (I.hok.fresh (Nat.le_refl _))⟩
theorem pe_dnewT : PE X (.Dict [] [] pos) tDNewT := fun pins s σ H Q I h =>
  wpAny_Dict_empty ⟨.ref s.heap.objs.size, _, I.laid (a := s.heap.objs.size) (o := .dT []) (t' := s.toks) (fun _ _ q => Heap.get?_push_of_some _ q) (Nat.le_refl _) (dt_empty s.heap I.big), rfl, h _ (I.hok.fresh (Nat.le_refl _))⟩
end
structure M2 (X : Cx) (o : Expr) (m : Str) (apos : Pos) (e f : Expr) (cpos : Pos) : Prop where
  base : attributeBase o m X.env (eval o X.env) = eval o X.env
  few : ((backTo cpos (starEach [e, f] X.env)).all (fun x => !x.1) && (backToKw cpos (keywordEach [] X.env)).all (fun x => x.1.isSome)
    && decide (([e, f] : List Expr).length + ([] : List Keyword).length + (if ([] : List Keyword).isEmpty then 0 else 1) < 30)) = true
  line : (apos.endLine == cpos.line) = true
  trees : backTo cpos (starEach [e, f] X.env) = [(false, eval e X.env), (false, eval f X.env)]
def IsD (H : Hp) (a : Addr) : Prop := (∃ kvs, Rd H a (.dK kvs)) ∨ ∃ kvs, Rd H a (.dT kvs)
theorem isD_at {X : Cx} {pins : List (Addr × Obj)} {σ : St} {H : Hp} {s : Shared} {a : Addr} (I : Inv X pins σ H s) (d : IsD H a) :
    s.TypeIs (.ref a) "dict" ∧ (∀ b, Value.ref a = .ref b → ∃ ob, s.heap.get? b = some ob ∧ ob.dict = none) ∧ (a == sysModules) = false := by
  rcases d with ⟨kvs, e⟩ | ⟨kvs, e⟩
  · obtain ⟨_, hd, vs, _, dd⟩ := dk_rd I.hok e
    refine ⟨dd.typeIs, fun b q => ?_, hd⟩
    cases q
    obtain ⟨ob, _, _, h1, h2, _⟩ := dd
    exact ⟨ob, h1, h2.2.1⟩
  · obtain ⟨_, hd, xs, _, dd⟩ := dt_rd I.hok e
    refine ⟨dd.typeIs, fun b q => ?_, hd⟩
    cases q
    obtain ⟨ob, _, _, h1, h2, _⟩ := dd
    exact ⟨ob, h1, h2.2.1⟩
section
variable {X : Cx} {pins : List (Addr × Obj)} {σ : St} {H : Hp} {s : Shared} {a : Addr} {y d : V} {u r : Value} {o : Option V} {A : Around} {E : Value → Shared → Prop}
theorem d_get2 {Q : Value → Shared → Prop} (hu : A.units + 1 < cLine) (I : Inv X pins σ H s) (g : DGet H a y o) (ry : RelV y u) (rd : RelV d r) (h : ∀ w' s', Inv X pins σ H s' → RelV (o.getD d) w' → Q w' s') :
    wpAny (model X.prog X.w) A (call (.builtin "dict.get") [.ref a, u, r]) Q E s := by
  rcases g with ⟨kvs, k, e, ey, l⟩ | ⟨kvs, k, b, e, ey, eb, l⟩
  · subst ey
    obtain ⟨z, hd, vs, rel, dd⟩ := dk_rd I.hok e
    refine call_meetsIn PySem.F.slot_dict_get dd.typeIs PySem.F.entry_dict_get (PySem.F.args_dict_get_3 _ _ _) (meets_dict_get_default (mixKind X.prog X.w) a (kV_is ry) hd r) ⟨_, dd.mapOf, h _ _ (I.tok _) ?_⟩
    rw [l]
    exact (rel.val k).getD rd
  · subst ey
    cases (show u = Value.ref b from ry)
    obtain ⟨z, hd, xs, rel, dd⟩ := dt_rd I.hok e
    refine call_meetsIn PySem.F.slot_dict_get dd.typeIs PySem.F.entry_dict_get (PySem.F.args_dict_get_3 _ _ _) (meetsH_dict_get_default (tupleKind (mixKind X.prog X.w)) a b hd r) ⟨tupleKind_room_in1 hu, k, xs, key_of I.hok eb, dd, h _ _ (I.tok _) ?_⟩
    rw [l]
    exact (rel.val k).getD rd
end
def tDGet2 (td ty tx : TE) : TE := fun σ H Q => td σ H fun x H1 => ∃ a, x = .ref a ∧ IsD H1 a ∧ ty σ H1 fun y H2 => tx σ H2 fun z H3 => ∃ o, DGet H3 a y o ∧ Q (o.getD z) H3
section
variable {X : Cx} {o e f : Expr} {apos cpos : Pos} {td ty tx : TE}
theorem pe_dget2 (hu : X.A.units + 1 < cLine) (ho : PE X o td) (he : PE X e ty) (hf : PE X f tx) (m : M2 X o "get" apos e f cpos) : PE X (.Call (.Attribute o "get" apos) [e, f] [] cpos) (tDGet2 td ty tx) := by
  intro pins s σ H Q I h
  refine wpAny_Call_method m.base m.few m.line PySem.F.plainAttrs_dict PySem.F.slot_dict_get PySem.F.type_dict_get (thn (ho pins s σ H _ I h) fun u s1 ⟨x, H1, I1, rx, a, ex, d, q1⟩ => ?_)
  subst ex
  obtain rfl : u = Value.ref a := rx
  obtain ⟨t1, t2, _⟩ := isD_at I1 d
  refine ⟨t1, t2, ?_⟩
  rw [m.trees]
  refine Calls.callWith_builtin rfl (Calls.evalArgs_plain (Calls.spliced_cons (thn (he pins s1 σ H1 _ I1 q1) fun iv s2 ⟨y, H2, I2, ry, q2⟩ =>
    Calls.spliced_cons (thn (hf pins s2 σ H2 _ I2 q2) fun fv s3 ⟨z, H3, I3, rz, ov, g, q3⟩ => Calls.spliced_nil ?_))))
  exact d_get2 hu I3 g ry rz fun w' s4 I4 rw' => ⟨_, H3, I4, rw', q3⟩
end
section
variable {X : Cx} {pins : List (Addr × Obj)} {σ : St} {H : Hp} {s : Shared} {a : Addr} {kvs : List (Key × V)} {A : Around} {E : Value → Shared → Prop}
end
section
variable {X : Cx} {pins : List (Addr × Obj)} {σ : St} {H : Hp} {s : Shared} {a : Addr} {y : V} {u : Value} {A : Around} {E : Value → Shared → Prop}
end
end L2
set_option maxRecDepth 100000
set_option maxHeartbeats 1000000
namespace LS
open PySem
def at0 (mask i pt : Nat) (d : Option Nat) : SetTable.Probe := { j := i, more := SetTable.runEnd mask i - i, i := i, perturb := pt, dummy := d }
def start (mask : Nat) (h : Int) : SetTable.Probe := at0 mask (SetTable.bits h % (mask + 1)) (SetTable.bits h) none
structure Good (p : SetTable.Probe) : Prop where
  more : p.more ≤ 9
  pt : p.perturb < 2 ^ 64
  dum : p.dummy = none
end LS
set_option maxRecDepth 100000
set_option maxHeartbeats 1000000
namespace LS
open PySem
end LS
set_option maxRecDepth 100000
set_option maxHeartbeats 1000000
namespace LS
open PySem
section
variable {prog : Program} {w : World} {K : Type} [DecidableEq K] {kn : KeyKind prog w K} {A : Around} {E : Value → Shared → Prop} {s : Shared}
end
end LS
set_option maxRecDepth 100000
set_option maxHeartbeats 1000000
namespace LS
open PySem
section
variable {prog : Program} {w : World} {K : Type} [DecidableEq K] {kn : KeyKind prog w K} {A : Around} {E : Value → Shared → Prop} {s : Shared}
end
end LS
set_option maxRecDepth 100000
set_option maxHeartbeats 3200000
namespace LS
open PySem PyProof.Rows
section
variable {w : World} {prog : Program} {A : Around} {E : Value → Shared → Prop} {s : Shared}
end
section
variable {prog : Program} {w : World} {K : Type} [DecidableEq K] {kn : KeyKind prog w K} {A : Around} {E : Value → Shared → Prop} {s : Shared}
end
end LS
set_option maxRecDepth 100000
set_option maxHeartbeats 3200000
namespace LS
open PySem PyProof.Rows
section
variable {A : Around} {M : Model} {E : Value → Shared → Prop} {s : Shared}
end
section
variable {prog : Program} {w : World} {K : Type} [DecidableEq K] {kn : KeyKind prog w K} {A : Around} {E : Value → Shared → Prop} {s : Shared}
end
end LS
set_option maxRecDepth 100000
set_option maxHeartbeats 3200000
namespace LS
open PySem PyProof.Rows
section
variable {prog : Program} {w : World} {K : Type} [DecidableEq K] {kn : KeyKind prog w K} {A : Around} {E : Value → Shared → Prop} {s : Shared}
end
end LS
set_option maxRecDepth 100000
set_option maxHeartbeats 3200000
namespace LS
open PySem PyProof.Rows
section
variable {prog : Program} {w : World} {K : Type} [DecidableEq K] {kn : KeyKind prog w K} {A : Around} {E : Value → Shared → Prop} {s : Shared}
end
end LS
set_option maxRecDepth 100000
set_option maxHeartbeats 3200000
namespace LS
open PySem PyProof.Rows
section
variable {w : World} {prog : Program} {A : Around} {E : Value → Shared → Prop} {s : Shared}
end
section
variable {prog : Program} {w : World} {K : Type} [DecidableEq K] {kn : KeyKind prog w K} {A : Around} {E : Value → Shared → Prop} {s : Shared}
end
end LS
set_option maxRecDepth 100000
set_option maxHeartbeats 3200000
namespace LS
open PySem PyProof.Rows
section
variable {prog : Program} {w : World} {K : Type} [DecidableEq K] {kn : KeyKind prog w K} {A : Around} {E : Value → Shared → Prop} {s : Shared}
end
end LS
set_option maxRecDepth 100000
set_option maxHeartbeats 3200000
namespace LS
open PySem PySem.W PyProof.Rows
def AllLt (n : Nat) (p : Array Nat) : Prop := p.Perm (List.range n).toArray
theorem AllLt.get {n : Nat} {p : Array Nat} (h : AllLt n p) (hn : 0 < n) (i : Nat) : p.getD i 0 < n := by
  by_cases c : i < p.size
  · have : p[i] ∈ (List.range n).toArray := h.mem_iff.mp (Array.getElem_mem c)
    simp at this
    simp [Array.getD, c]
    exact this
  · simp [Array.getD, c]
    exact hn
theorem AllLt.rev {n : Nat} {p : Array Nat} (h : AllLt n p) (i j : Nat) : AllLt n (kas_rev p i j) := (mirror_perm _ _ _ _).trans h
section
variable {n : Nat} (hn : 0 < n)
include hn
end
section
variable {w : World} {prog : Program} {A : Around} {E : Value → Shared → Prop} {s : Shared}
end
end LS
set_option maxRecDepth 100000
set_option maxHeartbeats 3200000
namespace LS
open PySem PySem.W PyProof.Rows
section
variable {prog : Program} {w : World} {K : Type} [DecidableEq K] {kn : PySem.KeyKind prog w K} {A : Around} {E : Value → Shared → Prop} {s : Shared}
end
end LS
set_option maxRecDepth 100000
set_option maxHeartbeats 3200000
namespace LS
open PySem PySem.W PyProof.Rows
section
variable {prog : Program} {w : World} {K : Type} [DecidableEq K] {kn : PySem.KeyKind prog w K} {A : Around} {E : Value → Shared → Prop} {s : Shared} {R : Result → Shared → Prop}
end
end LS
set_option maxRecDepth 100000
set_option maxHeartbeats 3200000
namespace L2
open PySem PySem.Spec PyProof.Rows LS
section
variable {X : Cx} {pins : List (Addr × Obj)} {σ : St} {H : Hp} {s : Shared}
theorem vals_refs : ∀ cs : List Addr, Vals (cs.map V.ref) (cs.map Value.ref)
  | [] => .nil
  | c :: cs => .cons rfl (vals_refs cs)
end
end L2
set_option maxRecDepth 100000
set_option maxHeartbeats 1600000
namespace LS
open PySem
section
variable {w : World} {prog : Program} {A : Around} {E : Value → Shared → Prop} {s : Shared}
end
end LS
set_option maxRecDepth 100000
set_option maxHeartbeats 1600000
namespace L2
open PySem PySem.Spec PyProof.Rows LS
def held (d : Addr) (o : Obj) : HO := .ext fun h => h.get? d = some o
theorem held_ok {P : Program} {w : World} {H : Hp} {h : Heap} {d : Addr} {o : Obj} (e : h.get? d = some o) : ObjOk P w H h d (held d o) := ⟨e, ⟨o, e⟩, fun h1 h2 q k => k _ q⟩
theorem held_is {P : Program} {w : World} {H : Hp} {h : Heap} {d : Addr} {o : Obj} (ok : HOk P w H h) (e : H d = some (held d o)) : h.get? d = some o := (ok d _ e).1
section
variable {X : Cx} {pins : List (Addr × Obj)} {σ : St} {H : Hp} {s : Shared}
end
theorem vals_at : ∀ {vs : List V} {us : List Value}, Vals vs us → ∀ {i : Nat} {u : Value}, us[i]? = some u → ∃ v, vs[i]? = some v ∧ RelV v u
  | _, _, .nil, i, u, e => by simp at e
  | _, _, .cons r t, 0, u, e => by simp only [List.getElem?_cons_zero, Option.some.injEq] at e; subst e; exact ⟨_, rfl, r⟩
  | _, _, .cons r t, i + 1, u, e => by simp only [List.getElem?_cons_succ] at e ⊢; exact vals_at t e
end L2
set_option maxRecDepth 100000
set_option maxHeartbeats 1600000
namespace L2
open PySem PySem.Spec PyProof.Rows LS
section
variable {X : Cx} {o : Expr} {to : TE} {apos cpos : Pos}
end
theorem Inv.trackF {X : Cx} {pins : List (Addr × Obj)} {σ : St} {H : Hp} {s : Shared} {a : Addr} {o : HO} (I : Inv X pins σ H s) (f : FpOk X pins H a) (hs : X.s₀.heap.objs.size ≤ a) (new : ObjOk X.prog X.w (upd H a o) s.heap a o) : Inv X pins σ (upd H a o) s := by
  obtain ⟨f0, f1, f2, f3, f4, f5⟩ := f
  have ne : ∀ {b u}, H b = some u → b ≠ a := fun e z => by rw [z, f0] at e; cases e
  refine ⟨I.ok, I.os, I.bare, ⟨I.base.keep, I.base.slot, fun b ob q n hx => ?_, I.base.there, fun b xs q => ?_, fun b ob u q => ?_, fun b ps q => ?_⟩, I.loc, I.cell, ?_, fun x c e => ?_, fun p hp => ?_, fun b u e => ?_, I.len⟩
  · rw [upd_ne (Nat.ne_of_lt (Nat.lt_of_lt_of_le (Heap.lt_size q) hs))]; exact I.base.free b ob q n hx
  · have := I.base.tups b xs q
    rw [upd_ne (ne this)]; exact this
  · have := I.base.frzs b ob u q
    rw [upd_ne (ne this)]; exact this
  · obtain ⟨m, e⟩ := I.base.tbls b ps q
    exact ⟨m, by rw [upd_ne (ne e)]; exact e⟩
  · rw [upd_ne (Ne.symm f1)]; exact I.free
  · rw [upd_ne (f4 x c e)]; exact I.freeC x c e
  · obtain ⟨p1, p2, p3⟩ := I.pin p hp
    exact ⟨p1, by rw [upd_ne (f5 p hp)]; exact p2, p3⟩
  · by_cases hb : b = a
    · subst hb; rw [upd_same] at e; cases e; exact new
    · rw [upd_ne hb] at e
      exact (I.hok b u e).stay (fun c v _ q => q) (fun c q => by rw [upd_ne (ne q)]; exact q) fun c xs q => by rw [upd_ne (ne q)]; exact q
end L2
set_option maxRecDepth 100000
set_option maxHeartbeats 1600000
namespace L2
open PySem PySem.Spec PyProof.Rows LS
section
variable {X : Cx} {tg iter elt tst : Expr} {scope : Scope} {N : List Str} {js : List (Option Nat)} {pos : Pos}
end
end L2
set_option maxRecDepth 100000
set_option maxHeartbeats 1600000
namespace L2
open PySem PySem.Spec PyProof.Rows LS
def tNo : TE := fun _ _ _ => False
section
variable {X : Cx}
theorem pe_no {e : Expr} : PE X e tNo := fun _ _ _ _ _ _ h => h.elim
end
end L2
set_option maxRecDepth 100000
set_option maxHeartbeats 1600000
namespace LS
open PySem PySem.Spec PyProof.Rows L2
section
variable {prog : Program} {w : World} {A : Around} {E : Value → Shared → Prop} {s : Shared} {R : Result → Shared → Prop}
end
end LS
set_option maxRecDepth 100000
set_option maxHeartbeats 1600000
namespace L2
open PySem PySem.Spec PyProof.Rows LS
def CallKR (X : Cx) (f : Value) (ks : List Str) (r : List V → List V → Hp → VK → Prop) : Prop :=
  ∀ (pins : List (Addr × Obj)) (s : Shared) (σ : St) (H : Hp) (xs zs : List V) (us ws : List Value) (Q : VK), Inv X pins σ H s → Vals xs us → Vals zs ws → r xs zs H Q → wpAny (model X.prog X.w) X.A (call f us (ks.zip ws)) (EP X pins σ Q) X.xe s
def tCBK (r : List V → List V → Hp → VK → Prop) (t tk : TA) : TE := fun σ H Q => t σ H fun vs H1 => tk σ H1 fun zs H2 => r vs zs H2 Q
section
variable {X : Cx}
theorem pe_callBK {id : String} {ks : List Str} {r : List V → List V → Hp → VK → Prop} {x : Str} {p pos : Pos} {e : Expr} {es : List Expr} {kws : List Keyword} {t tk : TA} (hc : CallKR X (.builtin id) ks r) (hg : Gl X x) (hm : X.mg x = none) (hv : bootBuiltins x = some (.builtin id)) (ha : PA X (e :: es) t) (hk : PK X kws tk)
    (hn : x ≠ "__name__" := by decide) (hdb : (x == ("__debug__" : Str)) = false := by decide) (hks : (backToKw pos (keywordEach kws X.env)).filterMap (·.1) = ks := by rfl)
    (he : backTo pos (starEach (e :: es) X.env) = (false, eval e X.env) :: backTo pos (starEach es X.env) := by rfl) (hplain : (backTo pos (starEach (e :: es) X.env)).any (·.1) = false := by rfl)
    (hall : (backToKw pos (keywordEach kws X.env)).all (·.1.isSome) = true := by rfl) (hkw : (backToKw pos (keywordEach kws X.env)).any (·.1.isNone) = false := by rfl) : PE X (.Call (.Name x p) (e :: es) kws pos) (tCBK r t tk) := by
  intro pins s σ H Q I h
  refine wpAny_Call_Name_kw (ld_blt I hg hm hv ?_ hn hdb)
  refine PyProof.Rows.callWith_kw (thn (ha pos pins s σ H _ I h) fun us s1 ⟨vs, H1, I1, r1, q1⟩ => thn (hk pos pins s1 σ H1 _ I1 q1) fun ws s2 ⟨zs, H2, I2, r2, q2⟩ => ?_) he hplain hall hkw
  rw [hks]
  exact hc pins s2 σ H2 vs zs us ws Q I2 r1 r2 q2
end
theorem boot_sorted : bootBuiltins "sorted" = Option.some (Value.builtin "sorted") := by decide +kernel
end L2
set_option maxRecDepth 100000
set_option maxHeartbeats 1600000
namespace L2
open PySem PySem.Spec PyProof.Rows LS
theorem call_listK {X : Cx} (K : PySem.W.Frag) (hK : X.K = K := by rfl) : CallR X (.type "list") (fun xs H Q => ∃ p ys, xs = [.ref p] ∧ SqL K H p ys ∧ ∀ l, H l = none → Q (.ref l) (upd H l (.lst ys))) := by
  subst hK
  intro pins s σ H xs us Q I r h
  obtain ⟨p, ys, e, hq, q⟩ := h
  exact call_list_of pins s σ H xs us Q I r ⟨p, ys, e, .inl hq, q⟩
end L2
set_option maxRecDepth 100000
set_option maxHeartbeats 1600000
namespace L2
open PySem PySem.Spec PyProof.Rows LS
section
variable {X : Cx} {tg : Expr}
end
end L2
set_option maxRecDepth 100000
set_option maxHeartbeats 1600000
namespace L2
open PySem PySem.Spec PyProof.Rows LS
theorem Inv.turnedL {X : Cx} {pins : List (Addr × Obj)} {σ : St} {H : Hp} {s : Shared} {h' : Heap} {t' : Nat} (ch : List Addr) (I : Inv X pins σ H s) (k : ∀ b o, b ∉ ch → s.heap.get? b = some o → h'.get? b = some o) (f : ∀ b ∈ ch, FpOk X pins H b) : Inv X pins σ H { s with heap := h', toks := t' } := by
  have nit : ∀ b u, H b = some u → b ∉ ch := fun b u e z => by rw [(f b z).1] at e; cases e
  refine I.step (g' := s.gens) (d' := s.drawn) (ch := ch) (fun b hb => ⟨(f b hb).2.2.2.1, (f b hb).2.1, (f b hb).2.2.2.2.1, (f b hb).2.2.2.2.2⟩) (fun b o _ _ hc e _ => k b o hc e) (fun b o _ _ hc e _ => ⟨o.slots, k b o hc e⟩) (fun _ _ _ _ n => n)
    (fun b o hc e => ⟨o, k b o hc e⟩) (fun _ _ e => e) (fun _ _ _ e => e) (fun b ps e => ⟨#[], by rw [e]; simp⟩) (fun m hm => ?_) (fun b u e => ?_) I.bare
  · obtain ⟨o, es, ep, ho, r⟩ := hm
    exact ⟨o, es, ep, k _ o (fun z => (f _ z).2.1 rfl) ho, r⟩
  · refine (I.hok b u e).stay (fun c v hc q => k c v ?_ q) (fun _ q => q) fun _ _ q => q
    rcases hc with z | z
    · rw [z]; exact nit b u e
    · exact nit c _ z
def Itz (K : PySem.W.Frag) (l1 l2 : Addr) : It := ⟨fun i H => ∃ xs ys x y, SqL K H l1 xs ∧ SqL K H l2 ys ∧ xs[i]? = some x ∧ ys[i]? = some y,
  fun i H v H' => ∃ p x y, v = .ref p ∧ H p = none ∧ (∀ xs, SqL K H l1 xs → xs[i]? = some x) ∧ (∀ ys, SqL K H l2 ys → ys[i]? = some y) ∧ H' = upd H p (.tup [x, y]),
  fun i H => ∃ xs ys, SqL K H l1 xs ∧ SqL K H l2 ys ∧ (xs.length ≤ i ∨ ys.length ≤ i)⟩
structure Five (z a b c d : Addr) : Prop where
  az : a ≠ z
  bz : b ≠ z
  cz : c ≠ z
  dz : d ≠ z
  ab : a ≠ b
  ac : a ≠ c
  ad : a ≠ d
  bc : b ≠ c
  bd : b ≠ d
  cd : c ≠ d
def ZipSt (z TI TO i1 i2 l1 l2 : Addr) (i : Nat) (h : Heap) : Prop := IsZip h z TI TO .none ∧ IsPair h TI (.ref i1) (.ref i2) ∧ (∃ a b, IsPair h TO a b) ∧ h.IsListIter i1 l1 i ∧ h.IsListIter i2 l2 i
theorem zip_apart {h : Heap} {z TI TO i1 i2 l1 l2 : Addr} {i : Nat} {xs ys : Array Value} (F : Five z TI TO i1 i2) (st : ZipSt z TI TO i1 i2 l1 l2 i h) (p1 : h.IsList l1 xs) (p2 : h.IsList l2 ys) : ZipApart z TI TO i1 i2 l1 l2 := by
  obtain ⟨hz, hTI, ⟨a, b, hTO⟩, ⟨o1, e1, c1, _⟩, ⟨o2, e2, c2, _⟩⟩ := st
  have ne : ∀ {l c : Addr} {v : Array Value} {o : Obj} {n : String}, h.IsList l v → h.get? c = some o → o.cls = .type n → n ≠ "list" → l ≠ c := fun {l c v o n} hl hc hn hne z => by
    obtain ⟨ol, el, cl, _⟩ := hl
    subst z
    rw [hc] at el
    cases el
    rw [hn] at cl
    exact hne (by injection cl)
  exact ⟨F.az, F.bz, F.cz, F.dz, F.ab, F.ac, F.ad, F.bc, F.bd, F.cd, ne p1 hz rfl (by decide), ne p1 hTO rfl (by decide), ne p1 e1 c1 (by decide), ne p1 e2 c2 (by decide), ne p2 hz rfl (by decide), ne p2 hTO rfl (by decide), ne p2 e1 c1 (by decide), ne p2 e2 c2 (by decide)⟩
theorem turn_zip {P : Program} {w : World} {K : PySem.W.Frag} {elts : List Expr} {x1} {tpos : Pos} {z TI TO i1 i2 l1 l2 : Addr} (F : Five z TI TO i1 i2) : Turn P w K (.Tuple elts x1 tpos) (Itz K l1 l2) [z, TI, TO, i1, i2] z (ZipSt z TI TO i1 i2 l1 l2) where
  mem := by simp
  obj := fun i h st b hb => by
    obtain ⟨hz, hTI, ⟨a, c, hTO⟩, ⟨o1, e1, c1, d1⟩, ⟨o2, e2, c2, d2⟩⟩ := st
    simp only [List.mem_cons, List.not_mem_nil, or_false] at hb
    rcases hb with rfl | rfl | rfl | rfl | rfl
    · exact ⟨_, hz, fun v z => by cases z⟩
    · exact ⟨_, hTI, fun v z => by cases z⟩
    · exact ⟨_, hTO, fun v z => by cases z⟩
    · exact ⟨_, e1, fun v z => by rw [d1] at z; cases z⟩
    · exact ⟨_, e2, fun v z => by rw [d2] at z; cases z⟩
  keep := fun i h h' st k => by
    obtain ⟨hz, hTI, ⟨a, c, hTO⟩, ⟨o1, e1, c1⟩, ⟨o2, e2, c2⟩⟩ := st
    exact ⟨k _ (by simp) _ hz, k _ (by simp) _ hTI, ⟨a, c, k _ (by simp) _ hTO⟩, ⟨o1, k _ (by simp) _ e1, c1⟩, ⟨o2, k _ (by simp) _ e2, c2⟩⟩
  item := by
    intro X hP hw hK hc i pins s σ H E I hf st hg
    subst hP hw hK
    obtain ⟨xs, ys, x, y, q1, q2, hx, hy⟩ := hg
    obtain ⟨its, rv, p1, _⟩ := I.list q1
    obtain ⟨jts, rw', p2, _⟩ := I.list q2
    obtain ⟨u, hu, ru⟩ := rv.get hx
    obtain ⟨v, hv, rv'⟩ := rw'.get hy
    have D := zip_apart F st p1.isList p2.isList
    obtain ⟨hz, hTI, ⟨a, c, hTO⟩, h1, h2⟩ := st
    refine wpAny_pyNext_zip_item D hz hTI hTO h1 h2 p1.isList p2.isList (x := u) (y := v) (by simpa using hu) (by simpa using hv) fun h' a1 a2 a3 a4 a5 a6 a7 => ?_
    refine ⟨_, rfl, wpAny_letOwnedTupleGo_zip (s := { s with heap := h' }) a1 fun h2' b1 sb => ?_⟩
    have sb : Heap.SameBut z h' h2' := sb
    have ne : ∀ {b o}, s.heap.get? b = some o → s.heap.objs.size ≠ b := fun e => Nat.ne_of_gt (Heap.lt_size e)
    have I1 : Inv X pins σ H { s with heap := h2' } := Inv.turnedL (t' := s.toks) [z, TI, TO, i1, i2] I (fun b o hb e => (sb.2 b (fun q => hb (by simp [q]))).trans (a7 b o (fun q => hb (by simp [q])) (fun q => hb (by simp [q])) (fun q => hb (by simp [q])) (fun q => hb (by simp [q])) e)) hf
    have hn : H s.heap.objs.size = none := I.hok.fresh (Nat.le_refl _)
    have ht : h2'.get? s.heap.objs.size = some { cls := .type "tuple", data := .seq #[u, v] } := (sb.2 _ (ne hz)).trans a5
    refine ⟨.ref s.heap.objs.size, upd H s.heap.objs.size (.tup [x, y]), ?_, rfl, ⟨_, x, y, rfl, hn, fun zs q => by rw [I.list_inj q q1]; exact hx, fun zs q => by rw [I.list_inj q q2]; exact hy, rfl⟩, ?_, fun b hb => ?_⟩
    · exact I1.trackF (I.fpOk (Nat.le_refl _) hn) I.sz ⟨by show 2 ≤ sizeLine; decide, [u, v], .cons ru (.cons rv' .nil), _, ht, rfl, _, rfl⟩
    · obtain ⟨o1, e1, c1⟩ := a3
      obtain ⟨o2, e2, c2⟩ := a4
      exact ⟨b1, (sb.2 _ F.az).trans (a7 _ _ F.az F.ab F.ac F.ad hTI), ⟨u, v, (sb.2 _ F.bz).trans a2⟩, ⟨o1, (sb.2 _ F.cz).trans e1, c1⟩, ⟨o2, (sb.2 _ F.dz).trans e2, c2⟩⟩
    · have old : b ≠ s.heap.objs.size := by
        obtain ⟨o1, e1, c1⟩ := h1
        obtain ⟨o2, e2, c2⟩ := h2
        simp only [List.mem_cons, List.not_mem_nil, or_false] at hb
        rcases hb with rfl | rfl | rfl | rfl | rfl
        · exact (ne hz).symm
        · exact (ne hTI).symm
        · exact (ne hTO).symm
        · exact (ne e1).symm
        · exact (ne e2).symm
      rw [upd_ne old]; exact (hf b hb).1
  done := by
    intro X hP hw hK hc i pins s σ H E I hf st hg
    subst hP hw hK
    obtain ⟨xs, ys, q1, q2, hend⟩ := hg
    obtain ⟨its, rv, p1, _⟩ := I.list q1
    obtain ⟨jts, rw', p2, _⟩ := I.list q2
    have D := zip_apart F st p1.isList p2.isList
    obtain ⟨hz, hTI, ⟨a, c, hTO⟩, h1, h2⟩ := st
    refine wpAny_pyNext_zip_end (I.ok.hd hc) D hz hTI hTO h1 h2 p1.isList p2.isList ?_ fun h' k => ⟨rfl, Inv.turnedL (t' := s.toks) [z, TI, TO, i1, i2] I (fun b o hb e => k b o (fun q => hb (by simp [q])) (fun q => hb (by simp [q])) (fun q => hb (by simp [q])) (fun q => hb (by simp [q])) e) hf⟩
    have r1 := rv.length
    have r2 := rw'.length
    rcases hend with q | q
    · exact .inl (by simp; omega)
    · exact .inr (by simp; omega)
  self := fun _ _ _ _ _ st h => wpAny_pyIter_zip st.1 h
def iZip (K : PySem.W.Frag) (ta : TA) : TI := fun σ H R => ta σ H fun vs H1 => ∃ a b xs ys, vs = [.ref a, .ref b] ∧ SqL K H1 a xs ∧ SqL K H1 b ys ∧ R (Itz K a b) H1
theorem boot_zip : bootBuiltins "zip" = Option.some (Value.type "zip") := by decide +kernel
theorem pi_zip {X : Cx} {elts : List Expr} {x1} {tpos : Pos} {a b : Expr} {ta : TA} {p pos : Pos} (K : PySem.W.Frag) (hg : Gl X "zip") (hm : X.mg "zip" = none) (ha : PA X [a, b] ta) (hK : X.K = K := by rfl) (he : starEach [a, b] X.env = (false, eval a X.env) :: starEach [b] X.env := by rfl) (hp : (backTo pos (starEach [b] X.env)).any (·.1) = false := by rfl) :
    PI X (.Tuple elts x1 tpos) (.Call (.Name "zip" p) [a, b] [] pos) (iZip K ta) := by
  subst hK
  intro pins s σ H R I h
  refine wpAny_Call_Name_kw (ld_blt I hg hm boot_zip (PyProof.Rows.callWith_type1 (thn (ha pos pins s σ H _ I h) fun us s1 ⟨vs, H1, I1, r1, q1⟩ => ?_) he hp))
  obtain ⟨l1, l2, xs, ys, e, q1, q2, q⟩ := q1
  subst e
  cases r1 with
  | cons r rr =>
    cases rr with
    | cons r' rr =>
      cases rr
      cases r
      cases r'
      obtain ⟨its, rv, p1, _⟩ := I1.list q1
      obtain ⟨jts, rw', p2, _⟩ := I1.list q2
      refine call_zip_2 p1.isList p2.isList fun h' a1 a2 a3 a4 a5 a6 a7 => ?_
      have ne : ∀ {i j : Nat}, i ≠ j → s1.heap.objs.size + i ≠ s1.heap.objs.size + j := fun h z => h (Nat.add_left_cancel z)
      have n0 : ∀ {j : Nat}, 0 ≠ j → s1.heap.objs.size ≠ s1.heap.objs.size + j := fun h z => h (Nat.add_left_cancel (show s1.heap.objs.size + 0 = _ from z))
      refine wpAny_pyIter_zip (s := { s1 with heap := h' }) a1 ⟨s1.heap.objs.size + 4, [s1.heap.objs.size + 4, s1.heap.objs.size + 2, s1.heap.objs.size + 3, s1.heap.objs.size, s1.heap.objs.size + 1], _, _, H1, rfl, I1.kept (t' := s1.toks) a7, turn_zip (l1 := l1) (l2 := l2) ⟨ne (by decide), ne (by decide), n0 (by decide), ne (by decide), ne (by decide), (n0 (by decide)).symm, ne (by decide), (n0 (by decide)).symm, ne (by decide), n0 (by decide)⟩, ⟨a1, a2, ⟨_, _, a3⟩, a4, a5⟩, fun c hc => ?_, q⟩
      have big : s1.heap.objs.size ≤ c := by
        simp only [List.mem_cons, List.not_mem_nil, or_false] at hc
        rcases hc with e | e | e | e | e <;> (rw [e]; first | exact Nat.le_add_right _ _ | exact Nat.le_refl _)
      exact I1.fpOk big (I1.hok.fresh big)
theorem for_zip {K : PySem.W.Frag} {a b : Addr} {xs ys : List V} {g : TG} {tb : TS} {D : Ends} {σ : St} {H : Hp} (Pv : Nat → St → Hp → Prop) (len : xs.length = ys.length) (h0 : Pv 0 σ H) (hl : ∀ i σ H, i ≤ xs.length → Pv i σ H → SqL K H a xs ∧ SqL K H b ys)
    (hs : ∀ i x y p σ H, xs[i]? = some x → ys[i]? = some y → Pv i σ H → H p = none → g (.ref p) σ (upd H p (.tup [x, y])) fun σ2 H2 => tb { D with nx := Pv (i + 1), ct := Pv (i + 1), bk := D.nx } σ2 H2) (hd : ∀ σ H, Pv xs.length σ H → D.nx σ H) :
    ∃ W : Nat → Nat → St → Hp → Prop, (∃ m, W 0 m σ H) ∧ ∀ i m σ H, W i m σ H →
      ((Itz K a b).stop i H ∧ D.nx σ H) ∨ ((Itz K a b).go i H ∧ ∃ N : St → Hp → Prop, (∀ σ' H', N σ' H' → ∃ m', m' < m ∧ W (i + 1) m' σ' H') ∧ ∀ v H', (Itz K a b).yld i H v H' → g v σ H' fun σ2 H2 => tb { D with nx := N, ct := N, bk := D.nx } σ2 H2) := by
  refine ⟨fun i m σ H => m = xs.length - i ∧ i ≤ xs.length ∧ Pv i σ H, ⟨xs.length, by simp, Nat.zero_le _, h0⟩, ?_⟩
  rintro i m σ H ⟨rfl, hi, p⟩
  obtain ⟨qa, qb⟩ := hl i σ H hi p
  by_cases hlt : i < xs.length
  · have hlt2 : i < ys.length := by omega
    refine .inr ⟨⟨xs, ys, xs[i], ys[i], qa, qb, by simp [hlt], by simp [hlt2]⟩, Pv (i + 1), fun σ' H' p' => ⟨xs.length - (i + 1), by omega, rfl, hlt, p'⟩, fun v H' y => ?_⟩
    obtain ⟨r, x, y, e, hr, h1, h2, e2⟩ := y
    subst e e2
    exact hs i x y r σ _ (h1 xs qa) (h2 ys qb) p hr
  · have e : i = xs.length := by omega
    subst e
    exact .inl ⟨⟨xs, ys, qa, qb, .inl (Nat.le_refl _)⟩, hd σ H p⟩
end L2
set_option maxRecDepth 100000
set_option maxHeartbeats 1600000
namespace L2
open PySem PySem.Spec PyProof.Rows LS
end L2
set_option maxRecDepth 100000
set_option maxHeartbeats 1600000
namespace L2
open PySem PySem.Spec PyProof.Rows LS PySem.SeqAt
section
variable {X : Cx} {pins : List (Addr × Obj)} {σ : St} {H : Hp} {s : Shared}
end
end L2
set_option maxRecDepth 100000
set_option maxHeartbeats 1600000
namespace L2
open PySem PySem.Spec PyProof.Rows LS PySem.SeqAt
mutual
inductive Al (K : PySem.W.Frag) (H : Hp) : Nat → V → V → Prop
  | non {n} : Al K H n .non .non
  | bl {n} (b) : Al K H n (.bl b) (.bl b)
  | int {n} (i) : Al K H n (.int i) (.int i)
  | str {n} (x) : Al K H n (.str x) (.str x)
  | ref {n} (a) : Al K H n (.ref a) (.ref a)
  | lst {n a b xs ys} : SqL K H a xs → SqL K H b ys → Als K H n xs ys → Al K H (n + 1) (.ref a) (.ref b)
inductive Als (K : PySem.W.Frag) (H : Hp) : Nat → List V → List V → Prop
  | nil {n} : Als K H n [] []
  | cons {n x y xs ys} : Al K H n x y → Als K H n xs ys → Als K H n (x :: xs) (y :: ys)
end
theorem Als.length {K : PySem.W.Frag} {H : Hp} {n : Nat} : ∀ {xs ys : List V}, Als K H n xs ys → xs.length = ys.length
  | _, _, .nil => rfl
  | _, _, .cons _ t => by simp [Als.length t]
section
variable {X : Cx} {pins : List (Addr × Obj)} {σ : St} {H : Hp} {s : Shared}
mutual
theorem Al.eqAt (I : Inv X pins σ H s) : ∀ {n : Nat} {x y : V}, Al X.K H n x y → ∀ {u v : Value}, RelV x u → RelV y v → ∀ {A : Around}, A.units + n < cLine → EqAt A s u v true
  | _, _, _, .non, u, v, r1, r2, A, _ => by cases (show u = Value.none from r1); cases (show v = Value.none from r2); exact EqAt.same _
  | _, _, _, .bl b, u, v, r1, r2, A, _ => by cases (show u = Value.bool b from r1); cases (show v = Value.bool b from r2); exact EqAt.same _
  | _, _, _, .int i, u, v, r1, r2, A, _ => by
    obtain ⟨t, e⟩ := (show ∃ t, u = Value.int i t from r1); obtain ⟨t', e'⟩ := (show ∃ t, v = Value.int i t from r2); subst e e'
    have := EqAt.int_int (A := A) (s := s) i t i t'
    rwa [beq_self_eq_true] at this
  | _, _, _, .str x, u, v, r1, r2, A, _ => by
    obtain ⟨t, e⟩ := (show ∃ t, u = Value.str x t from r1); obtain ⟨t', e'⟩ := (show ∃ t, v = Value.str x t from r2); subst e e'
    have := EqAt.str_str (A := A) (s := s) x t x t'
    rwa [beq_self_eq_true] at this
  | _, _, _, .ref a, u, v, r1, r2, A, _ => by cases r1; cases r2; exact EqAt.same _
  | _, _, _, .lst (n := n) (a := a) (b := b) (xs := xs) (ys := ys) sa sb h, u, v, r1, r2, A, hu => by
    cases r1
    cases r2
    by_cases e : a = b
    · subst e; exact EqAt.same _
    · obtain ⟨its, v1, p1, _⟩ := I.list sa
      obtain ⟨jts, v2, p2, _⟩ := I.list sb
      have l := h.length
      have k1 := v1.length
      have k2 := v2.length
      have := RcAt.lists (A := A) (s := s) (e := fun _ => true) p1.isList p2.isList (by simp; omega) (by omega) fun j h1 h2 => by
        simpa using Als.eqAt I h v1 v2 (A := A.in1) (by rw [Around.in1_units]; omega) j (by simpa using h1) (by simpa using h2)
      rw [show ((List.range its.toArray.size).all fun _ => true) = true by simp] at this
      exact EqAt.of_refs e this
theorem Als.eqAt (I : Inv X pins σ H s) : ∀ {n : Nat} {xs ys : List V}, Als X.K H n xs ys → ∀ {us vs : List Value}, Vals xs us → Vals ys vs → ∀ {A : Around}, A.units + n < cLine → ∀ (j : Nat) (h1 : j < us.length) (h2 : j < vs.length), EqAt A s us[j] vs[j] true
  | _, _, _, .nil, us, vs, r1, r2, A, _, j, h1, h2 => by cases r1; simp at h1
  | _, _, _, .cons h t, us, vs, r1, r2, A, hu, j, h1, h2 => by
    cases r1 with
    | cons a1 b1 =>
      cases r2 with
      | cons a2 b2 =>
        cases j with
        | zero => exact Al.eqAt I h a1 a2 hu
        | succ j => simpa using Als.eqAt I t b1 b2 hu j (by simpa using h1) (by simpa using h2)
end
end
theorem op_neA {X : Cx} (K : PySem.W.Frag) (hu : X.A.units + 64 < cLine) (hK : X.K = K := by rfl) : OpR X (compareOp .NotEq) (fun x y H Q => ∃ n a b xs ys, n ≤ 60 ∧ x = .ref a ∧ y = .ref b ∧ SqL K H a xs ∧ SqL K H b ys ∧ Als K H n xs ys ∧ Q (.bl false) H) := by
  subst hK
  intro pins s σ H x y v u Q I rx ry h
  obtain ⟨n, a, b, xs, ys, hn, rfl, rfl, ha, hb, h, q⟩ := h
  cases rx
  cases ry
  obtain ⟨its, v1, p1, _⟩ := I.list ha
  obtain ⟨jts, v2, p2, _⟩ := I.list hb
  have l := h.length
  have k1 := v1.length
  have k2 := v2.length
  have := RcNeAt.lists (A := X.A) (s := s) (e := fun _ => true) p1.isList p2.isList (by simp; omega) (by omega) fun j h1 h2 => by
    simpa using Als.eqAt I h v1 v2 (A := X.A.in1) (by rw [Around.in1_units]; omega) j (by simpa using h1) (by simpa using h2)
  rw [show (!((List.range its.toArray.size).all fun _ => true)) = false by simp] at this
  exact this X.prog X.w X.xe _ ⟨.bl false, H, I, rfl, q⟩
end L2
set_option maxRecDepth 100000
set_option maxHeartbeats 1600000
namespace L2
open PySem PySem.Spec PyProof.Rows LS
theorem px_meth {X : Cx} {k : Nat} {f C : Addr} {fd : FuncData} {ps : List Str} {sp : Sp} {dvs : List V} {ds : List Value} {m : Str} {pos apos : Pos} {e o : Expr} {es : List Expr} {ta : TE} {t : TA} {pl : Sem Bool} (hx : X.ex = []) (he : ∀ E, PE (X.wish E) o ta) (c : Cls X.K C) (hm : Meth X.K C m f) (F : FnOk X.prog X.w X.K X.mg X.base (CXE X.prog X.w) k f fd ps sp) (hr : Room k X.A) (hb : Binds X.K fd ps ds) (hd : Vals dvs ds) (ha : ∀ E, PA (X.wish E) (e :: es) t)
    (hst : starEach (e :: es) X.env = (false, eval e X.env) :: starEach es X.env := by rfl) (hpl : (backTo pos (starEach es X.env)).any (·.1) = false := by rfl)
    (ht : eval (.Call (.Attribute o m apos) (e :: es) [] pos) X.env = (eval o X.env >>= fun ov => standAt apos.atName >>= fun _ => holding [ov] (getMethod ov m pl) >>= fun r => callWith pos r.1 r.2 (backTo pos (starEach (e :: es) X.env)) (backToKw pos (keywordEach [] X.env))) := by rfl) :
    PX X (.Call (.Attribute o m apos) (e :: es) [] pos) (fun E => tMeth C m sp dvs E ta t) := by
  intro pins s σ H Q E I h
  refine PySem.W.methodCall_KW (pl := pl) (thn (he (XP X pins σ E) pins s σ H _ (I.wish _) h) fun u s1 ⟨x, H1, I1, rx, a, dx, fs, ex, ea, l, q⟩ => ?_) ht
  subst ex
  obtain rfl : u = Value.ref a := rx
  refine getmeth_ok I1.unwish ea c hm l ?_
  refine PySem.W.callWith_K (first := [.ref a]) (h₀ := X.base) I.ok.mod.kin hm.kp (thn (ha (XP X pins σ E) pos pins s1 σ H1 _ I1 q) fun us s2 ⟨vs, H2, I2, r, q2⟩ => ⟨I2.unwish.kIn, ?_⟩) hst hpl
  exact run_fnX (us := .ref a :: us) (vs := .ref a :: vs) hx F hr hb hd I2.unwish (.cons rfl r) q2
def tTryN (K : PySem.W.Frag) (c : Value) (tb : XK → TS) (ts : TS) : TS := fun D σ H => tb (fun cls dx H' => PySem.W.exmOne K cls c = some true ∧ ∀ ea, H' ea = none → ts D σ (upd H' ea (excAt ea cls dx))) D σ H
theorem ps_tryN {X : Cx} {body : List Stmt} {tb : XK → TS} {ts : TS} {cn : Str} {C : Addr} {b0 : Stmt} {suite : List Stmt} {np hpos pos : Pos} (K : PySem.W.Frag) (hx : X.ex = []) (hst : X.stack = X.env :: X.outer) (hfr : X.env.frame = some X.env.locals) (hb : PB X body tb)
    (hg : Gl X cn) (hm : X.mg cn = some (.ref C)) (hs : ∀ ea, PSs (X.hand ea) (b0 :: suite) ts) (hK : X.K = K := by rfl) (hdb : (cn == ("__debug__" : Str)) = false := by decide) :
    PS X (.Try body [.ExceptHandler (some (.Name cn np)) none (b0 :: suite) hpos] [] [] pos) (tTryN K (.ref C) tb ts) := by
  subst hK
  intro pins s σ H D I h
  refine wpAny_Try_except (wpAny_mono (hb pins s σ H D _ I h) (fun fl s1 q => ?_) fun ev s1 z => ?_)
  · cases fl with
    | next =>
      obtain ⟨σ', H', I', q⟩ := q
      exact wpAny_execs_nil ⟨σ', H', I', q⟩
    | ret v => exact q
    | brk => exact q
    | cont => exact q
  obtain ⟨ea, T, cls, dx, H1, rfl, I1, a1, a2, fly, hcl, hsu⟩ := z
  have stk : ∀ {s : Shared} {σ : St} {H : Hp}, Inv X pins σ H s → s.heap.FunFrames X.base (X.env :: X.outer) := fun {s σ H} I => by have := I.stack; rw [hst] at this; exact this
  have two : ∀ {T : Addr}, Apart X pins H1 T → ∀ b ∈ [ea, T], Apart X pins H1 b := fun {T} aT b hb => by
    rcases List.mem_cons.mp hb with e | hb
    · subst e; exact a1
    · rw [List.mem_singleton] at hb; subst hb; exact aT
  refine look_on (base := X.base) (outer := X.outer) (by rw [I1.ok.frames, hst]) (stk I1) hfr fly fun h2 T2 fly2 nT2 mv2 => ?_
  rw [← hst] at mv2
  have I2 := I1.moved' mv2 (two a2)
  have aT2 : Apart X pins H1 T2 := I1.apart hx nT2
  obtain ⟨oe, vs, oT, tvs, a0, e1, e2, e3, e4, _⟩ := id fly2
  have LT : PySem.W.Looks (model X.prog X.w) ({ s1 with heap := h2 } : Shared).heap (typeOf (.ref ea)) cls := by
    subst e2
    exact (PySem.W.Looks.ld e1).andThen .now
  refine wpAny_handleBy_cons (codeAny_handlers_test ?_) (by intro q; cases q)
  refine ld_glob (X := X.hand ea) (I2.hand ea) hg hm ?_ hdb
  refine (PySem.W.exm_one I2.kIn LT hcl).here ?_
  refine codeAny_handlers_suite ?_
  refine flight_off (s := { s1 with heap := h2 }) fly2 fun h3 fly3 same => ?_
  have I3 := I2.moved' (Moved.one same) fun b hb => by rw [List.mem_singleton] at hb; rw [hb]; exact aT2
  obtain ⟨oe3, vs3, _, _, _, f1, f2, f3, f4, _⟩ := id fly3
  have I4 := I3.track a1 ⟨oe3, vs3, f1, f2, f3, f4⟩
  refine wpAny_mono (hs ea pins _ _ _ D (I4.hand ea) (hsu ea a1.trk)) (fun fl s6 q => ?_) fun _ _ z => z.elim
  have okX := I.ok
  cases fl with
  | next => obtain ⟨σ', H', I', q⟩ := q; exact ⟨σ', H', I'.unhand okX, q⟩
  | brk => obtain ⟨σ', H', I', q⟩ := q; exact ⟨σ', H', I'.unhand okX, q⟩
  | cont => obtain ⟨σ', H', I', q⟩ := q; exact ⟨σ', H', I'.unhand okX, q⟩
  | ret u => obtain ⟨v, σ', H', I', r, q⟩ := q; exact ⟨v, σ', H', I'.unhand okX, r, q⟩
end L2
set_option maxRecDepth 100000
set_option maxHeartbeats 1600000
namespace L2
open PySem PySem.Spec PyProof.Rows LS PySem.SeqAt
section
variable {X : Cx}
theorem op_eqE (K : PySem.W.Frag) (hu : X.A.units + 64 < cLine) (hK : X.K = K := by rfl) : OpR X (compareOp .Eq) (fun x y H Q => ∃ (a b : Addr) (xs : List V), x = .ref a ∧ y = .ref b ∧ SqL K H a xs ∧ SqL K H b [] ∧ Q (.bl xs.isEmpty) H) := by
  subst hK
  intro pins s σ H x y v u Q I rx ry h
  obtain ⟨a, b, xs, rfl, rfl, ha, hb, q⟩ := h
  cases rx
  cases ry
  have hu : X.A.units < cLine := Nat.lt_of_le_of_lt (Nat.le_add_right _ _) hu
  obtain ⟨its, r1, p1, _⟩ := I.list ha
  obtain ⟨jts, r2, p2, _⟩ := I.list hb
  cases r2
  cases xs with
  | nil =>
    cases r1
    exact SeqAt.eq_listAt (e := fun _ => true) p1.isList p2.isList rfl hu (fun j h1 h2 => by simp at h1) ⟨.bl true, H, I, rfl, q⟩
  | cons x xs =>
    have l := r1.length
    exact SeqAt.eq_list_lengthsAt p1.isList p2.isList (by simp at l ⊢; intro z; simp [z] at l) hu ⟨.bl false, H, I, rfl, q⟩
end
end L2
set_option maxRecDepth 100000
set_option maxHeartbeats 1600000
namespace L2
open PySem PySem.Spec PyProof.Rows LS
theorem hu1 {A : Around} {k : Nat} (hr : Room k A) : A.units + 1 < cLine := Nat.lt_of_le_of_lt (Nat.add_le_add_left (by decide) _) hr.units
end L2
set_option maxRecDepth 100000
set_option maxHeartbeats 1600000
namespace LS
open PySem PySem.Spec PyProof.Rows L2
section
variable {prog : Program} {w : World} {A : Around} {E : Value → Shared → Prop} {s : Shared}
end
end LS
namespace L2
open PySem PySem.Spec PyProof.Rows LS
end L2
namespace L2
open PySem PySem.Spec PyProof.Rows LS
section
variable {X : Cx} {tg iter elt tst : Expr} {scope : Scope} {pos : Pos}
end
end L2
set_option maxRecDepth 100000
set_option maxHeartbeats 3200000
namespace LS
open PySem PySem.W PyProof.Rows
section
variable {prog : Program} {w : World} {A : Around} {E : Value → Shared → Prop} {s : Shared}
end
end LS
namespace L2
open PySem PySem.Spec PyProof.Rows LS
section
variable {X : Cx} {pins : List (Addr × Obj)} {σ : St} {H : Hp} {s : Shared}
end
end L2
set_option maxRecDepth 100000
set_option maxHeartbeats 3200000
namespace LS
open PySem PySem.W PyProof.Rows
section
variable {prog : Program} {w : World} {A : Around} {E : Value → Shared → Prop} {s : Shared}
end
section
variable {prog : Program} {w : World} {A : Around} {E : Value → Shared → Prop} {s : Shared} {R : Result → Shared → Prop}
end
end LS
namespace L2
open PySem PySem.Spec PyProof.Rows LS
section
variable {X : Cx}
end
end L2
set_option maxRecDepth 100000
set_option maxHeartbeats 3200000
namespace LS
open PySem PySem.W PyProof.Rows
section
variable {prog : Program} {w : World} {A : Around} {E : Value → Shared → Prop} {s : Shared}
end
end LS
namespace L2
open PySem PySem.Spec PyProof.Rows LS
section
variable {X : Cx}
end
def Ite (K : PySem.W.Frag) (l : Addr) : It := ⟨fun i H => ∃ xs x, SqL K H l xs ∧ xs[i]? = some x,
  fun i H v H' => ∃ p x, v = .ref p ∧ H p = none ∧ (∀ xs, SqL K H l xs → xs[i]? = some x) ∧ H' = upd H p (.tup [.int i, x]),
  fun i H => ∃ xs, SqL K H l xs ∧ xs.length ≤ i⟩
def EnSt (e it l : Addr) (i : Nat) (h : Heap) : Prop := (∃ old, IsEnum h e it i old) ∧ h.IsListIter it l i
theorem turn_enum {P : Program} {w : World} {K : PySem.W.Frag} {elts : List Expr} {x1} {tpos : Pos} {e it l : Addr} (ne : it ≠ e) : Turn P w K (.Tuple elts x1 tpos) (Ite K l) [e, it] e (EnSt e it l) where
  mem := by simp
  obj := fun i h st b hb => by
    obtain ⟨⟨old, he⟩, ⟨o1, e1, c1, d1⟩⟩ := st
    simp only [List.mem_cons, List.not_mem_nil, or_false] at hb
    rcases hb with rfl | rfl
    · exact ⟨_, he, fun v z => by cases z⟩
    · exact ⟨_, e1, fun v z => by rw [d1] at z; cases z⟩
  keep := fun i h h' st k => by
    obtain ⟨⟨old, he⟩, ⟨o1, e1, c1⟩⟩ := st
    exact ⟨⟨old, k _ (by simp) _ he⟩, ⟨o1, k _ (by simp) _ e1, c1⟩⟩
  item := by
    intro X hP hw hK hc i pins s σ H E I hf st hg
    subst hP hw hK
    obtain ⟨xs, x, q1, hx⟩ := hg
    obtain ⟨its, rv, p1, _⟩ := I.list q1
    obtain ⟨u, hu, ru⟩ := rv.get hx
    obtain ⟨⟨old, he⟩, hit⟩ := st
    refine wpAny_pyNext_enum_item he hit p1.isList (x := u) (by simpa using hu) (Ne.symm ne) fun h' a1 a2 a3 a4 a5 => ?_
    refine ⟨_, rfl, wpAny_letOwnedTupleGo_enum (s := { s with heap := h', toks := s.toks + 1 }) a1 fun h2 b1 sb => ?_⟩
    have sb : Heap.SameBut e h' h2 := sb
    have hn : H s.heap.objs.size = none := I.hok.fresh (Nat.le_refl _)
    have I1 : Inv X pins σ H { s with heap := h2, toks := s.toks + 1 } := Inv.turnedL (t' := s.toks + 1) [e, it] I (fun b o hb q => (sb.2 b (fun z => hb (by simp [z]))).trans (a5 b o (fun z => hb (by simp [z])) (fun z => hb (by simp [z])) q)) hf
    have ht : h2.get? s.heap.objs.size = some { cls := .type "tuple", data := .seq #[.int i s.toks, u] } := (sb.2 _ (Nat.ne_of_gt (Heap.lt_size he))).trans a3
    refine ⟨.ref s.heap.objs.size, upd H s.heap.objs.size (.tup [.int i, x]), ?_, rfl, ⟨_, x, rfl, hn, fun zs q => by rw [I.list_inj q q1]; exact hx, rfl⟩, ?_, fun b hb => ?_⟩
    · exact I1.trackF (I.fpOk (Nat.le_refl _) hn) I.sz ⟨by show 2 ≤ sizeLine; decide, [.int i s.toks, u], .cons ⟨s.toks, rfl⟩ (.cons ru .nil), _, ht, rfl, _, rfl⟩
    · obtain ⟨o1, e1, c1⟩ := a2
      exact ⟨⟨u, b1⟩, ⟨o1, (sb.2 _ ne).trans e1, c1⟩⟩
    · have old : b ≠ s.heap.objs.size := by
        obtain ⟨o1, e1, c1⟩ := hit
        simp only [List.mem_cons, List.not_mem_nil, or_false] at hb
        rcases hb with rfl | rfl
        · exact Nat.ne_of_lt (Heap.lt_size he)
        · exact Nat.ne_of_lt (Heap.lt_size e1)
      rw [upd_ne old]; exact (hf b hb).1
  done := by
    intro X hP hw hK hc i pins s σ H E I hf st hg
    subst hP hw hK
    obtain ⟨xs, q1, hend⟩ := hg
    obtain ⟨its, rv, p1, _⟩ := I.list q1
    obtain ⟨⟨old, he⟩, hit⟩ := st
    have r1 := rv.length
    refine wpAny_pyNext_enum_end (I.ok.hd hc) he hit p1.isList (Array.getElem?_eq_none (by simp; omega)) fun h' k => ⟨rfl, Inv.turnedL (t' := s.toks) [e, it] I (fun b o hb q => k b o (fun z => hb (by simp [z])) q) hf⟩
  self := fun _ _ _ _ _ st h => by
    obtain ⟨⟨old, he⟩, _⟩ := st
    exact wpAny_pyIter_enum he h
def iEnum (K : PySem.W.Frag) (ta : TA) : TI := fun σ H R => ta σ H fun vs H1 => ∃ a xs, vs = [.ref a] ∧ SqL K H1 a xs ∧ R (Ite K a) H1
theorem boot_enumerate : bootBuiltins "enumerate" = Option.some (Value.type "enumerate") := by decide +kernel
theorem pi_enum {X : Cx} {elts : List Expr} {x1} {tpos : Pos} {a : Expr} {ta : TA} {p pos : Pos} (K : PySem.W.Frag) (hg : Gl X "enumerate") (hm : X.mg "enumerate" = none) (ha : PA X [a] ta) (hK : X.K = K := by rfl) (he : starEach [a] X.env = (false, eval a X.env) :: starEach [] X.env := by rfl) (hp : (backTo pos (starEach [] X.env)).any (·.1) = false := by rfl) :
    PI X (.Tuple elts x1 tpos) (.Call (.Name "enumerate" p) [a] [] pos) (iEnum K ta) := by
  subst hK
  intro pins s σ H R I h
  refine wpAny_Call_Name_kw (ld_blt I hg hm boot_enumerate (PyProof.Rows.callWith_type1 (thn (ha pos pins s σ H _ I h) fun us s1 ⟨vs, H1, I1, r1, q1⟩ => ?_) he hp))
  obtain ⟨l1, xs, e, q1, q⟩ := q1
  subst e
  obtain ⟨u, rfl, r⟩ := vals1 r1
  cases r
  obtain ⟨its, rv, p1, _⟩ := I1.list q1
  refine call_enumerate_list p1.isList fun h' a1 a2 a3 a4 => ?_
  refine wpAny_pyIter_enum (s := { s1 with heap := h' }) a1 ⟨s1.heap.objs.size + 1, [s1.heap.objs.size + 1, s1.heap.objs.size], _, _, H1, rfl, I1.kept (t' := s1.toks) a4, turn_enum (l := l1) (Nat.ne_of_lt (Nat.lt_succ_self _)), ⟨⟨_, a1⟩, a2⟩, fun c hc => ?_, q⟩
  have big : s1.heap.objs.size ≤ c := by
    simp only [List.mem_cons, List.not_mem_nil, or_false] at hc
    rcases hc with e | e <;> (rw [e]; first | exact Nat.le_add_right _ _ | exact Nat.le_refl _)
  exact I1.fpOk big (I1.hok.fresh big)
theorem for_enum {K : PySem.W.Frag} {a : Addr} {xs : List V} {g : TG} {tb : TS} {D : Ends} {σ : St} {H : Hp} (Pv : Nat → St → Hp → Prop) (h0 : Pv 0 σ H) (hl : ∀ i σ H, i ≤ xs.length → Pv i σ H → SqL K H a xs)
    (hs : ∀ i x p σ H, xs[i]? = some x → Pv i σ H → H p = none → g (.ref p) σ (upd H p (.tup [.int i, x])) fun σ2 H2 => tb { D with nx := Pv (i + 1), ct := Pv (i + 1), bk := D.nx } σ2 H2) (hd : ∀ σ H, Pv xs.length σ H → D.nx σ H) :
    ∃ W : Nat → Nat → St → Hp → Prop, (∃ m, W 0 m σ H) ∧ ∀ i m σ H, W i m σ H →
      ((Ite K a).stop i H ∧ D.nx σ H) ∨ ((Ite K a).go i H ∧ ∃ N : St → Hp → Prop, (∀ σ' H', N σ' H' → ∃ m', m' < m ∧ W (i + 1) m' σ' H') ∧ ∀ v H', (Ite K a).yld i H v H' → g v σ H' fun σ2 H2 => tb { D with nx := N, ct := N, bk := D.nx } σ2 H2) := by
  refine ⟨fun i m σ H => m = xs.length - i ∧ i ≤ xs.length ∧ Pv i σ H, ⟨xs.length, by simp, Nat.zero_le _, h0⟩, ?_⟩
  rintro i m σ H ⟨rfl, hi, p⟩
  have qa := hl i σ H hi p
  by_cases hlt : i < xs.length
  · refine .inr ⟨⟨xs, xs[i], qa, by simp [hlt]⟩, Pv (i + 1), fun σ' H' p' => ⟨xs.length - (i + 1), by omega, rfl, hlt, p'⟩, fun v H' y => ?_⟩
    obtain ⟨r, x, e, hr, h1, e2⟩ := y
    subst e e2
    exact hs i x r σ _ (h1 xs qa) p hr
  · have e : i = xs.length := by omega
    subst e
    exact .inl ⟨⟨xs, qa, Nat.le_refl _⟩, hd σ H p⟩
end L2
set_option maxRecDepth 100000
set_option maxHeartbeats 3200000
namespace LS
open PySem PySem.W PyProof.Rows
section
variable {prog : Program} {w : World} {A : Around} {E : Value → Shared → Prop} {s : Shared}
end
end LS
namespace L2
open PySem PySem.Spec PyProof.Rows LS
section
variable {X : Cx}
def rInsert : V → List V → Hp → VK → Prop := fun x vs H Q => ∃ l xs i y, x = .ref l ∧ vs = [.int i, y] ∧ H l = some (.lst xs) ∧ 0 ≤ i ∧ i ≤ xs.length ∧ xs.length ≤ 1000 ∧ Q .non (upd H l (.lst (xs.take i.toNat ++ y :: xs.drop i.toNat)))
theorem vals_take : ∀ {vs : List V} {us : List Value}, Vals vs us → ∀ n, Vals (vs.take n) (us.take n)
  | _, _, .nil, n => by rw [List.take_nil, List.take_nil]; exact .nil
  | _, _, .cons r t, 0 => .nil
  | _, _, .cons r t, n + 1 => .cons r (vals_take t n)
theorem vals_drop : ∀ {vs : List V} {us : List Value}, Vals vs us → ∀ n, Vals (vs.drop n) (us.drop n)
  | _, _, .nil, n => by rw [List.drop_nil, List.drop_nil]; exact .nil
  | _, _, .cons r t, 0 => .cons r t
  | _, _, .cons r t, n + 1 => vals_drop t n
theorem mt_insert : MtM X "list.insert" rInsert := by
  intro pins s σ H x vs v us Q I rx rv h
  obtain ⟨l, xs, i, y, rfl, rfl, hH, h0, hi, hx, q⟩ := h
  cases rx
  obtain ⟨u1, u2, rfl, r1, r2⟩ := vals2 rv
  obtain ⟨tk, rfl⟩ := r1
  obtain ⟨z, its, n, r, hl, e⟩ := I.lstM hH
  have hlen := r.length
  have fi : ¬ (!Builtin.List.listFitsIndex i) = true := by
    have : Builtin.List.listFitsIndex i = true := by unfold Builtin.List.listFitsIndex; simp; omega
    rw [this]; decide
  refine call_meets F.slot_list_insert ⟨_, e, rfl⟩ F.entry_list_insert (F.args_list_insert_3 _ _ _) (AutoListH.list_insert_list_int_val_1 l its.toArray n i tk u2 fi (by rw [List.size_toArray, sizeLine_eq]; omega)) ⟨e, ?_⟩
  have ek : min i.toNat its.length = i.toNat := Nat.min_eq_left (by omega)
  refine ⟨.non, _, I.lset (its' := its.take i.toNat ++ u2 :: its.drop i.toNat) hH e (by simp [show ¬ i < 0 by omega, ek]; exact List.take_of_length_le (by simp)) ((vals_take r _).append (.cons r2 (vals_drop r _))) ?_, rfl, q⟩
  rw [List.length_append, List.length_cons, List.length_take, List.length_drop, sizeLine_eq]
  omega
end
section
variable {prog : Program} {w : World} {A : Around} {E : Value → Shared → Prop} {s : Shared} {K : PySem.W.Frag} {ea C CL f dx : Addr} {oe : Obj}
end
section
variable {X : Cx} {o e value : Expr} {es : List Expr} {f x : Str} {pos pos' apos np : Pos} {ta tv : TE} {t : TA}
end
section
variable {X : Cx} {CX : CXT} {k : Nat}
end
end L2
set_option maxRecDepth 100000
set_option maxHeartbeats 1600000
namespace LS
open PySem PySem.Spec PySem.Builtin PySem.Builtin.Str PyProof.Rows
section
variable {prog : Program} {w : World} {A : Around} {E : Value → Shared → Prop} {s : Shared} {x y : Str} {t u : Tok} {Q : Value → Shared → Prop}
theorem split_raw (hy : (y.length == 0) = false) (h : ∀ l k, l.map (·.1) = Txt.split x y → Q (.ref s.heap.objs.size) { s with heap := s.heap.push { cls := .type "list", data := .seq (strValues l).toArray }, toks := k }) (hsz : x.length + 2 ≤ sizeLine) :
    wpAny (model prog w) A (call (.builtin "str.split") [.str x t, .str y u]) Q E s := by
  have hn : (partsBetween x (occurrences x y 0 x.length (x.length + 1)) y.length).length ≤ sizeLine := by
    have e1 := StrLaws.occ_length_le x y 0 x.length (x.length + 1)
    rw [length_partsBetween]; omega
  cases h1 : (decide (x.length < y.length) || decide (Builtin.Str.strKind x < Builtin.Str.strKind y))
  · cases hf : (occurrences x y 0 x.length (x.length + 1)).isEmpty
    · refine call_meets F.slot_str_split (typeIs_str _ _ _) F.entry_str_split (F.args_str_split_2 _ _) (meets_str_split_sep x y t u h1 hy hf (by omega) hn) ?_
      show wants Q E _ { s with toks := _, heap := s.heap.push { cls := .type "list", data := .seq (strsFrom s.toks (partsBetween x (occurrences x y 0 x.length (x.length + 1)) y.length)).toArray } }
      rw [strsFrom_eq]
      exact h (numbered s.toks _) _ ((numbered_texts _ _).trans ((if_neg (ne_true_of_eq_false h1)).trans (if_neg (ne_true_of_eq_false hf))).symm)
    · exact call_meets F.slot_str_split (typeIs_str _ _ _) F.entry_str_split (F.args_str_split_2 _ _) (meets_str_split_not_found x y t u h1 hy hf)
        (h [(x, t)] s.toks ((if_neg (ne_true_of_eq_false h1)).trans (if_pos hf)).symm)
  · exact call_meets F.slot_str_split (typeIs_str _ _ _) F.entry_str_split (F.args_str_split_2 _ _) (meets_str_split_cannot_occur x y t u h1)
      (h [(x, t)] s.toks (if_pos h1).symm)
end
end LS
namespace L2
open PySem PySem.Spec PyProof.Rows LS
section
variable {X : Cx}
theorem vals_values : ∀ l : List (Str × Tok), Vals ((l.map (·.1)).map V.str) (strValues l)
  | [] => .nil
  | p :: r => .cons ⟨p.2, rfl⟩ (vals_values r)
theorem mt_split : MtR X "str.split" (fun x xs H Q => ∃ z y, x = .str z ∧ xs = [.str y] ∧ (y.length == 0) = false ∧ z.length ≤ 900 ∧ ∀ p, H p = none → Q (.ref p) (upd H p (.lst ((Txt.split z y).map V.str)))) := by
  intro pins s σ H x xs v us Q I rx r h
  obtain ⟨z, y, rfl, rfl, hy, hz, q⟩ := h
  obtain ⟨t, rfl⟩ := rx
  obtain ⟨u, rfl, t', rfl⟩ := vals1 r
  refine split_raw hy (fun l k e => ?_) (by rw [sizeLine_eq]; omega)
  have hl : ((Txt.split z y).map V.str).length ≤ 1000 := by rw [List.length_map]; have := split_le z y; omega
  refine ⟨.ref s.heap.objs.size, _, I.laid (o := .lst ((Txt.split z y).map V.str)) (t' := k) (fun b o e => Heap.get?_push_of_some _ e) (Nat.le_refl _) ⟨le_line hl, strValues l, 0, by rw [← e]; exact vals_values l, Heap.get?_push_size _ rfl⟩, rfl, q _ (I.hok.fresh (Nat.le_refl _))⟩
theorem strs_of_vals : ∀ {ks : List Str} {its : List Value}, Vals (ks.map V.str) its → StrsAre its ks
  | [], its, rv => by rw [List.map_nil] at rv; cases rv; exact .nil
  | k :: ks, its, rv => by
    rw [List.map_cons] at rv
    cases rv with
    | cons r1 t1 =>
      obtain ⟨t, e⟩ := r1
      subst e
      exact .cons k t (strs_of_vals t1)
theorem mt_join (K : PySem.W.Frag) (hK : X.K = K := by rfl) : MtR X "str.join" (fun x xs H Q => ∃ z a ys, x = .str z ∧ xs = [.ref a] ∧ SqL K H a (ys.map V.str) ∧ (ys.map (·.length)).sum + ys.length * z.length ≤ 16777216 ∧ Q (.str (Txt.join z ys)) H) := by
  subst hK
  intro pins s σ H x xs v us Q I rx r h
  obtain ⟨z, a, ys, rfl, rfl, hl, hz, q⟩ := h
  obtain ⟨t, rfl⟩ := rx
  obtain ⟨u, rfl, ru⟩ := vals1 r
  cases ru
  obtain ⟨its, rv, p, _⟩ := I.list hl
  exact join_list p.isList (by simpa using strs_of_vals rv) hz fun t' k => ⟨.str (Txt.join z ys), H, I.tok k, ⟨t', rfl⟩, q⟩
theorem mt_islower : MtR X "str.islower" (fun x xs H Q => ∃ z, x = .str z ∧ xs = [] ∧ Q (.bl (Txt.islower z)) H) := by
  intro pins s σ H x xs v us Q I rx r h
  obtain ⟨z, rfl, rfl, q⟩ := h
  obtain ⟨t, rfl⟩ := rx
  cases r
  exact SC.islower ⟨.bl _, H, I, rfl, q⟩
end
def joinL (c : Nat) : List (List Nat) → List Nat
  | [] => []
  | [w] => w
  | w :: v :: r => w ++ c :: joinL c (v :: r)
theorem join_cs (c : Nat) : ∀ ws : List Str, cs (Str.join ⟨#[c]⟩ ws) = joinL c (ws.map cs)
  | [] => rfl
  | [w] => rfl
  | w :: v :: r => by
    have ih := join_cs c (v :: r)
    show cs (w ++ ⟨#[c]⟩ ++ Str.join ⟨#[c]⟩ (v :: r)) = cs w ++ c :: joinL c ((v :: r).map cs)
    rw [cs_app, cs_app, ih]
    show cs w ++ [c] ++ _ = _
    rw [List.append_assoc]; rfl
theorem cut_uniq {c : Nat} : ∀ {w v r q : List Nat}, c ∉ w → c ∉ v → w ++ c :: r = v ++ c :: q → w = v ∧ r = q
  | [], [], r, q, _, _, e => ⟨rfl, (List.cons.inj e).2⟩
  | [], b :: v, r, q, _, hv, e => absurd (by rw [(List.cons.inj e).1]; simp) hv
  | a :: w, [], r, q, hw, _, e => absurd (by rw [← (List.cons.inj e).1]; simp) hw
  | a :: w, b :: v, r, q, hw, hv, e => by
    obtain ⟨e1, e2⟩ := List.cons.inj (show a :: (w ++ c :: r) = b :: (v ++ c :: q) from e)
    obtain ⟨e3, e4⟩ := cut_uniq (fun h => hw (List.mem_cons_of_mem _ h)) (fun h => hv (List.mem_cons_of_mem _ h)) e2
    exact ⟨by rw [e1, e3], e4⟩
theorem joinL_inj {c : Nat} : ∀ {as bs : List (List Nat)}, as ≠ [] → bs ≠ [] → (∀ a ∈ as, c ∉ a) → (∀ b ∈ bs, c ∉ b) → joinL c as = joinL c bs → as = bs
  | [], _, h, _, _, _, _ => absurd rfl h
  | _, [], _, h, _, _, _ => absurd rfl h
  | [a], [b], _, _, _, _, e => by rw [show a = b from e]
  | [a], b :: b2 :: r, _, _, ha, _, e => absurd (by rw [show a = b ++ c :: joinL c (b2 :: r) from e]; simp) (ha a (by simp))
  | a :: a2 :: r, [b], _, _, _, hb, e => absurd (by rw [show b = a ++ c :: joinL c (a2 :: r) from e.symm]; simp) (hb b (by simp))
  | a :: a2 :: r, b :: b2 :: q, _, _, ha, hb, e => by
    obtain ⟨e1, e2⟩ := cut_uniq (ha a (by simp)) (hb b (by simp)) (show a ++ c :: joinL c (a2 :: r) = b ++ c :: joinL c (b2 :: q) from e)
    have := joinL_inj (as := a2 :: r) (bs := b2 :: q) (by simp) (by simp) (fun x hx => ha x (List.mem_cons_of_mem _ hx)) (fun x hx => hb x (List.mem_cons_of_mem _ hx)) e2
    rw [e1, this]
theorem maps_inj : ∀ {as bs : List Str}, as.map cs = bs.map cs → as = bs
  | [], [], _ => rfl
  | [], b :: bs, h => by simp at h
  | a :: as, [], h => by simp at h
  | a :: as, b :: bs, h => by
    rw [List.map_cons, List.map_cons] at h
    obtain ⟨h1, h2⟩ := List.cons.inj h
    rw [cs_inj h1, maps_inj h2]
theorem split_of {x : Str} {ws : List Str} {c : Nat} (hne : ws ≠ []) (hf : ∀ w ∈ ws, c ∉ cs w) (hx : cs x = joinL c (ws.map cs)) : Txt.split x ⟨#[c]⟩ = ws := by
  have h1 : Txt.split x ⟨#[c]⟩ ≠ [] := fun z => by have := split_pos x ⟨#[c]⟩; rw [z] at this; simp at this
  have h2 := StrLaws.split_free x c
  have h3 : cs x = joinL c ((Txt.split x ⟨#[c]⟩).map cs) := by
    have := join_cs c (Txt.split x ⟨#[c]⟩)
    rw [StrLaws.join_split] at this
    exact this
  refine maps_inj (joinL_inj (c := c) (by simpa using h1) (by simpa using hne) (fun a ha => ?_) (fun b hb => ?_) (h3.symm.trans hx))
  · obtain ⟨p, hp, rfl⟩ := List.mem_map.mp ha; exact h2 p hp
  · obtain ⟨p, hp, rfl⟩ := List.mem_map.mp hb; exact hf p hp
end L2
namespace L2
open PySem PySem.Spec PyProof.Rows LS
section
variable {X : Cx} {e : Expr} {pos : Pos}
theorem pb_ret {te : XK → TE} (h : PX X e te) : PB X [.Return (some e) pos] (fun E => tRet (te E)) := by
  intro pins s σ H D E I hw
  refine wpAny_execs_cons (wpAny_Return_some (thn (h pins s σ H _ E I hw) fun v s1 ⟨y, H1, I1, r1, q1⟩ => ?_))
  exact ⟨y, σ, H1, I1, r1, q1⟩
end
end L2
set_option maxRecDepth 100000
set_option maxHeartbeats 1600000
namespace LS
open PySem PySem.Spec PySem.Builtin PySem.Builtin.Str PyProof.Rows L2
theorem slice_from {z : Str} {j : Int} (h0 : 0 ≤ j) (h1 : j ≤ z.length) : cs (Txt.slice z (some j) none) = (cs z).drop j.toNat := by
  rw [slice_from_eq (b := (z.length : Int)) h0 h1 rfl]
  show (((cs z).drop j.toNat).take ((z.length : Int) - j).toNat).toArray.toList = _
  have : (cs z).length = z.length := cs_len z
  simp only [List.toList_toArray]
  exact List.take_of_length_le (by rw [List.length_drop]; omega)
end LS
namespace L2
open PySem PySem.Spec PyProof.Rows LS
section
variable {X : Cx}
end
end L2
set_option maxRecDepth 100000
set_option maxHeartbeats 3200000
namespace LS
open PySem PySem.W PyProof.Rows
theorem AllLt.size {n : Nat} {p : Array Nat} (h : AllLt n p) : p.size = n := by have := h.size_eq; simpa using this
section
variable {n : Nat} {r : Nat → Int}
def RK (r : Nat → Int) (p : Array Nat) (i : Nat) : Int := r (p.getD i 0)
def Up (r : Nat → Int) (p : Array Nat) (m : Nat) : Prop := ∀ i j, i ≤ j → j < m → RK r p i ≤ RK r p j
def Dn (r : Nat → Int) (p : Array Nat) (m : Nat) : Prop := ∀ i j, i ≤ j → j < m → RK r p j ≤ RK r p i
theorem rk_of {p q : Array Nat} {i j : Nat} (h : p[i]? = q[j]?) : RK r p i = RK r q j := by
  unfold RK
  rw [Array.getD_eq_getD_getElem?, Array.getD_eq_getD_getElem?, h]
theorem rk_rev {p : Array Nat} {i j : Nat} (hj : j ≤ p.size) (k : Nat) : RK r (kas_rev p i j) k = if i ≤ k ∧ k < j then RK r p (i + j - 1 - k) else RK r p k := by
  split
  · rename_i c
    refine rk_of ?_
    unfold kas_rev
    rw [getElem?_mirror_all hj, if_pos c]
  · rename_i c
    refine rk_of ?_
    unfold kas_rev
    rw [getElem?_mirror_all hj, if_neg c]
theorem rk_bub {p : Array Nat} {s d : Nat} (hs : s < p.size) (hd : d ≤ s) (k : Nat) : RK r (bubble p s d) k = if k = s - d then RK r p s else if s - d < k ∧ k ≤ s then RK r p (k - 1) else RK r p k := by
  have h := getElem?_bubble hs d hd k
  split
  · rename_i c; rw [if_pos c] at h; exact rk_of h
  · rename_i c
    rw [if_neg c] at h
    split
    · rename_i c2; rw [if_pos c2] at h; exact rk_of h
    · rename_i c2; rw [if_neg c2] at h; exact rk_of h
theorem Up.one {p : Array Nat} : Up r p 1 := fun i j h1 h2 => by
  have e1 : i = 0 := by omega
  have e2 : j = 0 := by omega
  subst e1 e2
  exact Int.le_refl _
theorem Up.more {p : Array Nat} {m : Nat} (h : Up r p m) (hm : 1 ≤ m) (e : RK r p (m - 1) ≤ RK r p m) : Up r p (m + 1) := fun i j h1 h2 => by
  by_cases c : j < m
  · exact h i j h1 c
  · have ej : j = m := by omega
    subst ej
    by_cases d : i = j
    · subst d; exact Int.le_refl _
    · exact Int.le_trans (h i (j - 1) (by omega) (by omega)) e
theorem Dn.rev {p : Array Nat} {m : Nat} (h : Dn r p m) (hm : m ≤ p.size) : Up r (kas_rev p 0 m) m := fun i j h1 h2 => by
  rw [rk_rev hm, rk_rev hm, if_pos (by omega), if_pos (by omega)]
  exact h _ _ (by omega) (by omega)
variable (hn : 0 < n)
include hn
end
section
variable {w : World} {prog : Program} {A : Around} {E : Value → Shared → Prop} {s : Shared}
end
end LS
namespace L2
open PySem PySem.Spec PyProof.Rows LS
theorem refs_inv : ∀ {bs : List Addr} {us : List Value}, Vals (bs.map V.ref) us → us = bs.map Value.ref
  | [], _, r => by cases r; rfl
  | b :: bs, _, r => by
    cases r with
    | cons r1 t1 =>
      have e1 : _ = Value.ref b := r1
      rw [List.map_cons, refs_inv t1, e1]
theorem vals_getD : ∀ {xs : List V} {us : List Value}, Vals xs us → ∀ i, RelV (xs.getD i .non) (us.getD i Value.none)
  | _, _, .nil, i => by simp; rfl
  | _, _, .cons r t, 0 => r
  | _, _, .cons r t, i + 1 => by simpa using vals_getD t i
theorem vals_map {xs : List V} {us : List Value} (r : Vals xs us) : ∀ l : List Nat, Vals (l.map fun i => xs.getD i .non) (l.map fun i => us.getD i Value.none)
  | [] => .nil
  | i :: l => .cons (vals_getD r i) (vals_map r l)
section
variable {X : Cx} {CX : CXT} {k : Nat} {f : Addr} {fd : FuncData} {ps : List Str} {sp : Sp} {E : XK}
end
end L2
namespace L2
open PySem PySem.Spec PyProof.Rows LS PySem.SeqAt
section
variable {X : Cx}
end
end L2
namespace L2
open PySem PySem.Spec PyProof.Rows
end L2
set_option maxRecDepth 100000
set_option maxHeartbeats 3200000
namespace LS
open PySem PySem.W PyProof.Rows
def EndsE {α : Type} (n : Nat) (κ : Nat → Int) (P : α → Prop) : KasT α → Prop
  | .ret a => P a
  | .ask i j k => i < n ∧ j < n ∧ (κ i < κ j → EndsE n κ P (k true)) ∧ (κ j ≤ κ i → EndsE n κ P (k false))
theorem endsE_bind {α β : Type} {n : Nat} {κ : Nat → Int} {P : α → Prop} {R : β → Prop} {f : α → KasT β} : ∀ t : KasT α, EndsE n κ P t → (∀ a, P a → EndsE n κ R (f a)) → EndsE n κ R (t.bind f)
  | .ret a, h, hf => hf a h
  | .ask i j k, h, hf => ⟨h.1, h.2.1, fun c => endsE_bind (k true) (h.2.2.1 c) hf, fun c => endsE_bind (k false) (h.2.2.2 c) hf⟩
theorem endsE_imp {α : Type} {n : Nat} {κ : Nat → Int} {P R : α → Prop} : ∀ {t : KasT α}, EndsE n κ P t → (∀ a, P a → R a) → EndsE n κ R t
  | .ret a, h, hf => hf a h
  | .ask i j k, h, hf => ⟨h.1, h.2.1, fun c => endsE_imp (h.2.2.1 c) hf, fun c => endsE_imp (h.2.2.2 c) hf⟩
theorem endsE_wp {α : Type} {n : Nat} {κ : Nat → Int} {P : α → Prop} {cmp : Nat → Nat → (Bool → Shared → Prop) → Shared → Prop} {Q : α → Shared → Prop} {s : Shared} (hc : ∀ i j C, i < n → j < n → (κ i < κ j → C true s) → (κ j ≤ κ i → C false s) → cmp i j C s) (hq : ∀ a, P a → Q a s) : ∀ t : KasT α, EndsE n κ P t → t.kasWp cmp Q s
  | .ret a, h => hq a h
  | .ask i j k, h => hc i j _ h.1 h.2.1 (fun c => endsE_wp hc hq (k true) (h.2.2.1 c)) (fun c => endsE_wp hc hq (k false) (h.2.2.2 c))
def rnk (n : Nat) (κ : Nat → Int) (a : Nat) : Int := κ a * (n : Int) + a
section
variable {n : Nat} {κ : Nat → Int}
theorem rnk_lt {a b : Nat} (ha : a < n) (h : κ a < κ b) : rnk n κ a < rnk n κ b := by
  unfold rnk
  have h1 := Int.mul_le_mul_of_nonneg_right (show κ a + 1 ≤ κ b by omega) (show (0 : Int) ≤ n by omega)
  rw [Int.add_mul, Int.one_mul] at h1
  omega
theorem rnk_le {a b : Nat} (h : κ a ≤ κ b) (hab : a ≤ b) : rnk n κ a ≤ rnk n κ b := by
  unfold rnk
  have h1 := Int.mul_le_mul_of_nonneg_right h (show (0 : Int) ≤ n by omega)
  omega
theorem rnk_key {a b : Nat} (hb : b < n) (h : rnk n κ a ≤ rnk n κ b) : κ a ≤ κ b := by
  by_cases c : κ b < κ a
  · have := rnk_lt (n := n) hb c
    omega
  · omega
theorem gd_rev {p : Array Nat} {i j : Nat} (hj : j ≤ p.size) (k : Nat) : (kas_rev p i j).getD k 0 = if i ≤ k ∧ k < j then p.getD (i + j - 1 - k) 0 else p.getD k 0 := by
  have := rk_rev (r := fun x => (x : Int)) (i := i) hj k
  dsimp only [RK] at this
  by_cases c : i ≤ k ∧ k < j
  · rw [if_pos c] at this ⊢; omega
  · rw [if_neg c] at this ⊢; omega
theorem gd_bub {p : Array Nat} {s d : Nat} (hs : s < p.size) (hd : d ≤ s) (k : Nat) : (bubble p s d).getD k 0 = if k = s - d then p.getD s 0 else if s - d < k ∧ k ≤ s then p.getD (k - 1) 0 else p.getD k 0 := by
  have := rk_bub (r := fun x => (x : Int)) hs hd k
  dsimp only [RK] at this
  by_cases c : k = s - d
  · rw [if_pos c] at this ⊢; omega
  · rw [if_neg c] at this ⊢
    by_cases c2 : s - d < k ∧ k ≤ s
    · rw [if_pos c2] at this ⊢; omega
    · rw [if_neg c2] at this ⊢; omega
structure Tl (n : Nat) (p : Array Nat) (m : Nat) : Prop where
  back : ∀ k, m ≤ k → k < n → p.getD k 0 = k
  front : ∀ k, k < m → p.getD k 0 < m
theorem Tl.succ {p : Array Nat} {m : Nat} (h : Tl n p m) (hm : m < n) : Tl n p (m + 1) := ⟨fun k h1 h2 => h.back k (by omega) h2, fun k h1 => by
  by_cases c : k < m
  · have := h.front k c; omega
  · have : k = m := by omega
    subst this
    rw [h.back k (Nat.le_refl _) hm]; omega⟩
theorem Tl.rev {p : Array Nat} {m i j : Nat} (h : Tl n p m) (hj : j ≤ m) (hs : j ≤ p.size) : Tl n (kas_rev p i j) m := by
  refine ⟨fun k h1 h2 => ?_, fun k h1 => ?_⟩
  · rw [gd_rev hs, if_neg (by omega)]; exact h.back k h1 h2
  · rw [gd_rev hs]
    split
    · exact h.front _ (by omega)
    · exact h.front _ h1
variable (hn : 0 < n)
include hn
theorem e_asc {p : Array Nat} (h : AllLt n p) : ∀ f m, 1 ≤ m → m + f ≤ n → Tl n p m → Up (rnk n κ) p m → EndsE n κ (fun m' => m ≤ m' ∧ m' ≤ m + f ∧ Up (rnk n κ) p m' ∧ Tl n p m' ∧ (m' < m + f → κ (p.getD m' 0) < κ (p.getD (m' - 1) 0))) (kas_asc p f m)
  | 0, m, h1, hm, ht, hu => ⟨Nat.le_refl _, Nat.le_refl _, hu, ht, fun z => absurd z (Nat.lt_irrefl _)⟩
  | f + 1, m, h1, hm, ht, hu => by
    refine ⟨h.get hn _, h.get hn _, fun c => ?_, fun c => ?_⟩
    · exact ⟨Nat.le_refl _, by omega, hu, ht, fun _ => c⟩
    · have e1 := ht.back m (Nat.le_refl _) (by omega)
      have e2 := ht.front (m - 1) (by omega)
      have ih := e_asc h f (m + 1) (by omega) (by omega) (ht.succ (by omega)) (hu.more h1 (rnk_le c (by omega)))
      rw [show m + 1 + f = m + (f + 1) by omega] at ih
      exact (show EndsE n κ _ (kas_asc p f (m + 1)) from endsE_imp ih fun m' x => ⟨by omega, x.2.1, x.2.2.1, x.2.2.2.1, x.2.2.2.2⟩)
omit hn in
structure DD (n : Nat) (κ : Nat → Int) (p : Array Nat) (m q : Nat) : Prop where
  tl : Tl n p m
  dn : Dn (rnk n κ) p (m - (q + 1))
  low : ∀ i k, i < m - (q + 1) → m - (q + 1) ≤ k → k < m → κ (p.getD k 0) < κ (p.getD i 0)
  eq : ∀ k, m - (q + 1) ≤ k → k < m → κ (p.getD k 0) = κ (p.getD (m - 1) 0)
  up : ∀ k k', m - (q + 1) ≤ k → k < k' → k' < m → p.getD k 0 < p.getD k' 0
  q1 : q + 1 ≤ m
omit hn in
theorem DD.rev {p : Array Nat} {m q : Nat} (d : DD n κ p m q) (hm : m ≤ p.size) (hmn : m ≤ n) : Dn (rnk n κ) (kas_rev p (m - (q + 1)) m) m := by
  intro i j h1 h2
  have q1 := d.q1
  unfold RK
  rw [gd_rev hm, gd_rev hm]
  by_cases ci : m - (q + 1) ≤ i
  · rw [if_pos (by omega), if_pos (by omega)]
    have e1 := d.eq (m - (q + 1) + m - 1 - i) (by omega) (by omega)
    have e2 := d.eq (m - (q + 1) + m - 1 - j) (by omega) (by omega)
    refine rnk_le (by omega) ?_
    by_cases c : i = j
    · subst c; exact Nat.le_refl _
    · exact Nat.le_of_lt (d.up _ _ (by omega) (by omega) (by omega))
  · rw [if_neg (show ¬ (m - (q + 1) ≤ i ∧ i < m) by omega)]
    by_cases cj : m - (q + 1) ≤ j
    · rw [if_pos (by omega)]
      have f := d.tl.front (m - (q + 1) + m - 1 - j) (by omega)
      exact Int.le_of_lt (rnk_lt (by omega) (d.low i _ (by omega) (by omega) (by omega)))
    · rw [if_neg (show ¬ (m - (q + 1) ≤ j ∧ j < m) by omega)]
      exact d.dn i j h1 (by omega)
omit hn in
theorem DD.zero {p : Array Nat} {m : Nat} (d : DD n κ p m 0) (hmn : m ≤ n) : Dn (rnk n κ) p m := by
  intro i j h1 h2
  have q1 := d.q1
  by_cases cj : j < m - 1
  · exact d.dn i j h1 (by omega)
  · by_cases c : i = j
    · subst c; exact Int.le_refl _
    · have f := d.tl.front j h2
      exact Int.le_of_lt (rnk_lt (by omega) (d.low i j (by omega) (by omega) h2))
omit hn in
theorem DD.next {p : Array Nat} {m : Nat} (ht : Tl n p m) (hd : Dn (rnk n κ) p m) (h1 : 1 ≤ m) (hm : m < n) (c : κ (p.getD m 0) < κ (p.getD (m - 1) 0)) : DD n κ p (m + 1) 0 := by
  refine ⟨ht.succ hm, hd, fun i k hi hk hk2 => ?_, fun k hk hk2 => ?_, fun k k' a b c => absurd c (by omega), by omega⟩
  · have : k = m := by omega
    subst this
    have f := ht.front i (by omega)
    have := rnk_key (n := n) (by omega) (hd i (k - 1) (by omega) (by omega))
    omega
  · have : k = m := by omega
    subst this
    rfl
omit hn in
theorem DD.grow {p : Array Nat} {m q : Nat} (d : DD n κ p m q) (hm : m < n) (c1 : κ (p.getD (m - 1) 0) ≤ κ (p.getD m 0)) (c2 : κ (p.getD m 0) ≤ κ (p.getD (m - 1) 0)) : DD n κ p (m + 1) (q + 1) := by
  have q1 := d.q1
  have e : κ (p.getD m 0) = κ (p.getD (m - 1) 0) := by omega
  have b : m + 1 - (q + 1 + 1) = m - (q + 1) := by omega
  refine ⟨d.tl.succ hm, by rw [b]; exact d.dn, fun i k hi hk hk2 => ?_, fun k hk hk2 => ?_, fun k k' a b c => ?_, by omega⟩
  · by_cases ck : k < m
    · exact d.low i k (by omega) (by omega) ck
    · have : k = m := by omega
      subst this
      rw [e]
      exact d.low i (k - 1) (by omega) (by omega) (by omega)
  · show κ (p.getD k 0) = κ (p.getD m 0)
    by_cases ck : k < m
    · rw [e]; exact d.eq k (by omega) ck
    · have : k = m := by omega
      subst this
      rfl
  · by_cases ck : k' < m
    · exact d.up k k' (by omega) b ck
    · have : k' = m := by omega
      subst this
      rw [d.tl.back k' (Nat.le_refl _) hm]
      exact d.tl.front k (by omega)
theorem e_desc : ∀ f p m q, AllLt n p → m + f ≤ n → DD n κ p m q → EndsE n κ (fun x => AllLt n x.1 ∧ x.2.1 ≤ n ∧ DD n κ x.1 x.2.1 x.2.2) (kas_desc f p m q)
  | 0, p, m, q, h, hm, d => ⟨h, by show m ≤ n; omega, d⟩
  | f + 1, p, m, q, h, hm, d => by
    have q1 := d.q1
    have hs := h.size
    refine ⟨h.get hn _, h.get hn _, fun c => ?_, fun c => ?_⟩
    · simp only [if_true]
      split
      · refine e_desc f _ _ _ (h.rev _ _) (by omega) (DD.next (d.tl.rev (Nat.le_refl _) (by omega)) (d.rev (by omega) (by omega)) (by omega) (by omega) ?_)
        rw [gd_rev (by omega), gd_rev (by omega), if_neg (by omega), if_pos (by omega), d.eq (m - (q + 1) + m - 1 - (m - 1)) (by omega) (by omega)]
        exact c
      · have : q = 0 := by omega
        subst this
        exact e_desc f _ _ _ h (by omega) (DD.next d.tl (d.zero (by omega)) (by omega) (by omega) c)
    · refine ⟨h.get hn _, h.get hn _, fun e => ⟨h, by show m ≤ n; omega, d⟩, fun e => ?_⟩
      exact e_desc f _ _ _ h (by omega) (d.grow (by omega) c e)
omit hn in
def CntE (n : Nat) (κ : Nat → Int) (x : Nat × Array Nat) : Prop := AllLt n x.2 ∧ x.1 ≤ n ∧ Up (rnk n κ) x.2 x.1 ∧ Tl n x.2 x.1 ∧ 1 ≤ x.1
theorem e_tail3 {m : Nat} {p : Array Nat} (h : AllLt n p) (h1 : 1 ≤ m) (hm : m ≤ n) (ht : Tl n p m) (hd : Dn (rnk n κ) p m) : EndsE n κ (CntE n κ) (kas_tail3 m n p) := by
  have hs := h.size
  refine endsE_bind _ (e_asc hn (h.rev 0 m) _ _ h1 (by omega) (ht.rev (Nat.le_refl _) (by omega)) (hd.rev (by omega))) fun a x => ?_
  exact ⟨h.rev _ _, by show a ≤ n; have := x.2.1; omega, x.2.2.1, x.2.2.2.1, by show 1 ≤ a; have := x.1; omega⟩
theorem e_descPart {m : Nat} {p : Array Nat} (h : AllLt n p) (h1 : 1 ≤ m) (hm : m + 1 ≤ n) (d : DD n κ p (m + 1) 0) : EndsE n κ (CntE n κ) (kas_descPart m n p) := by
  refine endsE_bind _ (e_desc hn _ _ _ _ h (by omega) d) fun x hx => ?_
  obtain ⟨a1, a2, a3⟩ := hx
  have hs := a1.size
  have q1 := a3.q1
  split
  · exact e_tail3 hn (a1.rev _ _) (by omega) a2 (a3.tl.rev (Nat.le_refl _) (by omega)) (a3.rev (by omega) a2)
  · have e0 : x.2.2 = 0 := by omega
    rw [e0] at a3
    exact e_tail3 hn a1 (by omega) a2 a3.tl (a3.zero a2)
theorem e_count {p : Array Nat} (h : AllLt n p) (ht : Tl n p 1) : EndsE n κ (CntE n κ) (kas_count n p) := by
  have hs := h.size
  refine endsE_bind _ (e_asc hn h _ 1 (Nat.le_refl _) (by omega) ht Up.one) fun m x => ?_
  obtain ⟨x1, x2, x3, x4, x5⟩ := x
  split
  · exact ⟨h, by show m ≤ n; omega, x3, x4, x1⟩
  · rename_i c
    have c' : m ≠ n := by simpa using c
    have xe := x5 (by omega)
    split
    · refine ⟨h.get hn _, h.get hn _, fun _ => ⟨h, by show m ≤ n; omega, x3, x4, x1⟩, fun d => ?_⟩
      have ix : ∀ k, k < m → p.getD k 0 < n := fun k hk => by have := x4.front k hk; omega
      have all : ∀ k, k < m → κ (p.getD k 0) = κ (p.getD 0 0) := fun k hk => by
        have a1 := rnk_key (n := n) (ix k hk) (x3 0 k (by omega) hk)
        have a2 := rnk_key (n := n) (ix (m - 1) (by omega)) (x3 k (m - 1) (by omega) (by omega))
        omega
      have dn : Dn (rnk n κ) (kas_rev p 0 m) m := fun i j h1 h2 => by
        rw [rk_rev (by omega), rk_rev (by omega), if_pos (by omega), if_pos (by omega)]
        exact x3 _ _ (by omega) (by omega)
      have e1 := all (m - 1) (by omega)
      refine e_descPart hn (h.rev _ _) (by omega) (by omega) (DD.next (x4.rev (Nat.le_refl _) (by omega)) dn (by omega) (by omega) ?_)
      rw [gd_rev (by omega), gd_rev (by omega), if_neg (by omega), if_pos (by omega)]
      have e2 := all (0 + m - 1 - (m - 1)) (by omega)
      omega
    · have : m = 1 := by omega
      subst this
      refine e_descPart hn h (by omega) (by omega) (DD.next x4 (fun i j h1 h2 => ?_) (by omega) (by omega) xe)
      have e1 : i = 0 := by omega
      have e2 : j = 0 := by omega
      subst e1 e2
      exact Int.le_refl _
theorem e_place {p : Array Nat} (h : AllLt n p) (k : Nat) (hk : k < n) (ht : Tl n p k) (hu : Up (rnk n κ) p k) : ∀ f a b, a ≤ b → b ≤ k → b - a ≤ f → (∀ i, i < a → RK (rnk n κ) p i ≤ RK (rnk n κ) p k) → (∀ i, b ≤ i → i < k → RK (rnk n κ) p k ≤ RK (rnk n κ) p i) →
    EndsE n κ (fun l => l ≤ k ∧ (∀ i, i < l → RK (rnk n κ) p i ≤ RK (rnk n κ) p k) ∧ ∀ i, l ≤ i → i < k → RK (rnk n κ) p k ≤ RK (rnk n κ) p i) (kas_place p k f a b)
  | 0, a, b, h1, h2, h3, h4, h5 => ⟨by omega, h4, fun i q1 q2 => h5 i (by omega) q2⟩
  | f + 1, a, b, h1, h2, h3, h4, h5 => by
    unfold kas_place
    split
    · exact ⟨by omega, h4, fun i q1 q2 => h5 i (by omega) q2⟩
    · have e1 := ht.back k (Nat.le_refl _) hk
      have e2 := ht.front ((a + b) / 2) (by omega)
      refine ⟨h.get hn _, h.get hn _, fun c => ?_, fun c => ?_⟩
      · exact e_place h k hk ht hu f _ _ (by omega) (by omega) (by omega) h4 fun i q1 q2 => Int.le_trans (Int.le_of_lt (rnk_lt (by omega) c)) (hu _ _ q1 q2)
      · exact e_place h k hk ht hu f _ _ (by omega) h2 (by omega) (fun i q1 => Int.le_trans (hu i ((a + b) / 2) (by omega) (by omega)) (rnk_le c (by omega))) h5
theorem e_bin : ∀ f p k, AllLt n p → k + f = n → Tl n p k → Up (rnk n κ) p k → EndsE n κ (fun q => AllLt n q ∧ Up (rnk n κ) q n) (kas_bin f p k)
  | 0, p, k, h, e, ht, hu => by
    have : k = n := by omega
    subst this
    exact ⟨h, hu⟩
  | f + 1, p, k, h, e, ht, hu => by
    refine endsE_bind _ (e_place hn h k (by omega) ht hu k 0 k (Nat.zero_le _) (Nat.le_refl _) (by omega) (fun i q => absurd q (Nat.not_lt_zero _)) fun i q1 q2 => absurd q2 (by omega)) fun l x => ?_
    obtain ⟨x1, x2, x3⟩ := x
    have hk : k < p.size := by rw [h.size]; omega
    have e1 := ht.back k (Nat.le_refl _) (by omega)
    refine e_bin f _ _ ((bubble_perm _ _ _).trans h) (by omega) ⟨fun j h1 h2 => ?_, fun j h1 => ?_⟩ fun i j h1 h2 => ?_
    · rw [gd_bub hk (by omega), if_neg (by omega), if_neg (by omega)]
      exact ht.back j (by omega) h2
    · rw [gd_bub hk (by omega)]
      by_cases c : j = k - (k - l)
      · rw [if_pos c, e1]; omega
      · rw [if_neg c]
        by_cases c2 : k - (k - l) < j ∧ j ≤ k
        · rw [if_pos c2]; have := ht.front (j - 1) (by omega); omega
        · rw [if_neg c2]; have := ht.front j (by omega); omega
    rw [rk_bub hk (by omega), rk_bub hk (by omega), show k - (k - l) = l by omega]
    by_cases ci : i = l
    · rw [if_pos ci]
      by_cases cj : j = l
      · rw [if_pos cj]; exact Int.le_refl _
      · rw [if_neg cj, if_pos (by omega)]; exact x3 _ (by omega) (by omega)
    · rw [if_neg ci]
      by_cases di : l < i ∧ i ≤ k
      · rw [if_pos di, if_neg (by omega), if_pos (by omega)]; exact hu _ _ (by omega) (by omega)
      · rw [if_neg di]
        by_cases cj : j = l
        · rw [if_pos cj]; exact x2 _ (by omega)
        · rw [if_neg cj]
          by_cases dj : l < j ∧ j ≤ k
          · rw [if_pos dj]; exact hu _ _ (by omega) (by omega)
          · rw [if_neg dj]; exact hu _ _ (by omega) (by omega)
theorem e_sort : EndsE n κ (fun q => AllLt n q ∧ Up (rnk n κ) q n) (kas_sort n) := by
  have h0 : ∀ k, k < n → (List.toArray (List.range n)).getD k 0 = k := fun k hk => by simp [hk]
  refine endsE_bind _ (e_count hn (Array.Perm.refl _) ⟨fun k h1 h2 => h0 k h2, fun k h1 => ?_⟩) fun x hx => ?_
  · have : k = 0 := by omega
    subst this
    rw [h0 0 hn]; omega
  obtain ⟨x1, x2, x3, x4, x5⟩ := hx
  split
  · rw [show max x.1 1 = x.1 by omega]
    exact e_bin hn _ _ _ x1 (by omega) x4 x3
  · have : x.1 = n := by omega
    rw [← this]
    exact ⟨by rw [this]; exact x1, by rw [this] at x3; rw [← this] at x3; rw [this]; rw [this] at x3; exact x3⟩
end
end LS
namespace LS
open PySem PySem.W PyProof.Rows
def kLt (a b : Int × Str) : Prop := a.1 < b.1 ∨ (a.1 = b.1 ∧ a.2.cps.toList < b.2.cps.toList)
theorem kLt.irr (a : Int × Str) : ¬ kLt a a := by
  rintro (h | h)
  · omega
  · exact List.lt_irrefl _ h.2
theorem kLt.trans {a b c : Int × Str} (h1 : kLt a b) (h2 : kLt b c) : kLt a c := by
  rcases h1 with h1 | ⟨e1, h1⟩ <;> rcases h2 with h2 | ⟨e2, h2⟩
  · exact .inl (by omega)
  · exact .inl (by omega)
  · exact .inl (by omega)
  · exact .inr ⟨by omega, List.lt_trans h1 h2⟩
theorem kLt.neg {k i j : Int × Str} (h : ¬ kLt i j) (hk : kLt k j) : kLt k i := by
  rcases hk with hk | ⟨e, hk⟩
  · by_cases c : k.1 < i.1
    · exact .inl c
    · exact absurd (.inl (by omega)) h
  · by_cases c : k.1 < i.1
    · exact .inl c
    by_cases c2 : i.1 < j.1
    · exact absurd (.inl c2) h
    have e2 : i.1 = j.1 := by omega
    refine .inr ⟨by omega, ?_⟩
    have h3 : ¬ i.2.cps.toList < j.2.cps.toList := fun z => h (.inr ⟨e2, z⟩)
    exact Classical.byContradiction fun c => h3 (List.lt_of_le_of_lt (List.not_lt.mp c) hk)
open Classical in
noncomputable def cnt (n : Nat) (L : Nat → Nat → Prop) (i : Nat) : Int := (((List.range n).filter fun j => decide (L j i)).length : Nat)
theorem filter_lt {α : Type} {p q : α → Bool} : ∀ {l : List α}, (∀ x ∈ l, p x = true → q x = true) → (∃ x ∈ l, p x = false ∧ q x = true) → (l.filter p).length < (l.filter q).length
  | [], _, ⟨x, hx, _⟩ => by cases hx
  | a :: l, h, ⟨x, hx, h1, h2⟩ => by
    have hl : (l.filter p).length ≤ (l.filter q).length := by
      have : ∀ m : List α, (∀ x ∈ m, p x = true → q x = true) → (m.filter p).length ≤ (m.filter q).length := fun m hm => by
        induction m with
        | nil => exact Nat.le_refl _
        | cons b m ih =>
          have ih := ih fun x hx => hm x (List.mem_cons_of_mem _ hx)
          have hb := hm b (by simp)
          cases hp : p b with
          | true => rw [List.filter_cons_of_pos hp, List.filter_cons_of_pos (hb hp)]; simp only [List.length_cons]; omega
          | false =>
            rw [List.filter_cons_of_neg (by simp [hp])]
            cases hq : q b with
            | true => rw [List.filter_cons_of_pos hq]; simp only [List.length_cons]; omega
            | false => rw [List.filter_cons_of_neg (by simp [hq])]; exact ih
      exact this l fun x hx => h x (List.mem_cons_of_mem _ hx)
    rcases List.mem_cons.mp hx with rfl | hx
    · rw [List.filter_cons_of_neg (by simp [h1]), List.filter_cons_of_pos h2]; simp only [List.length_cons]; omega
    · have ih := filter_lt (fun x hx => h x (List.mem_cons_of_mem _ hx)) ⟨x, hx, h1, h2⟩
      have ha := h a (by simp)
      cases hp : p a with
      | true => rw [List.filter_cons_of_pos hp, List.filter_cons_of_pos (ha hp)]; simp only [List.length_cons]; omega
      | false =>
        rw [List.filter_cons_of_neg (by simp [hp])]
        cases hq : q a with
        | true => rw [List.filter_cons_of_pos hq]; simp only [List.length_cons]; omega
        | false => rw [List.filter_cons_of_neg (by simp [hq])]; exact ih
theorem filter_le {α : Type} {p q : α → Bool} : ∀ {l : List α}, (∀ x ∈ l, p x = true → q x = true) → (l.filter p).length ≤ (l.filter q).length
  | [], _ => Nat.le_refl _
  | b :: m, hm => by
    have ih := filter_le (l := m) fun x hx => hm x (List.mem_cons_of_mem _ hx)
    have hb := hm b (by simp)
    cases hp : p b with
    | true => rw [List.filter_cons_of_pos hp, List.filter_cons_of_pos (hb hp)]; simp only [List.length_cons]; omega
    | false =>
      rw [List.filter_cons_of_neg (by simp [hp])]
      cases hq : q b with
      | true => rw [List.filter_cons_of_pos hq]; simp only [List.length_cons]; omega
      | false => rw [List.filter_cons_of_neg (by simp [hq])]; exact ih
theorem cnt_lt {n : Nat} {L : Nat → Nat → Prop} (irr : ∀ i, ¬ L i i) (tr : ∀ i j k, L i j → L j k → L i k) {i j : Nat} (hi : i < n) (h : L i j) : cnt n L i < cnt n L j := by
  classical
  unfold cnt
  have := filter_lt (l := List.range n) (p := fun k => decide (L k i)) (q := fun k => decide (L k j)) (fun k _ hk => decide_eq_true (tr k i j (of_decide_eq_true hk) h)) ⟨i, List.mem_range.mpr hi, decide_eq_false (irr i), decide_eq_true h⟩
  omega
theorem cnt_le {n : Nat} {L : Nat → Nat → Prop} (ng : ∀ i j k, ¬ L i j → L k j → L k i) {i j : Nat} (h : ¬ L i j) : cnt n L j ≤ cnt n L i := by
  classical
  unfold cnt
  have := filter_le (l := List.range n) (p := fun k => decide (L k j)) (q := fun k => decide (L k i)) (fun k _ hk => decide_eq_true (ng i j k h (of_decide_eq_true hk)))
  omega
section
variable {w : World} {prog : Program} {A : Around} {E : Value → Shared → Prop} {s : Shared}
def KeyIS (h : Heap) (b : Addr) (k : Int × Str) : Prop := ∃ o t u n, h.get? b = some o ∧ o.cls = .type "tuple" ∧ o.data = .seq [Value.int k.1 t, Value.str k.2 u].toArray n
theorem cmp_is {b : Bool} {x y : Addr} {i j : Int × Str} {Q : Bool → Shared → Prop} (hx : KeyIS s.heap x i) (hy : KeyIS s.heap y j) (ht : kLt i j → Q true s) (hf : ¬ kLt i j → Q false s) : wpAny (model prog w) A (keyLt' (tuples' b) (.ref x) (.ref y)) Q E s := by
  obtain ⟨o1, t1, u1, n1, a1, a2, a3⟩ := hx
  obtain ⟨o2, t2, u2, n2, b1, b2, b3⟩ := hy
  refine kat_lt a1 a3 b1 b3 ?_
  show KatLex prog w A b false Q [(Value.int i.1 t1, Value.int j.1 t2), (Value.str i.2 u1, Value.str j.2 u2)] 0 s
  refine kat_cons (wpAny_eqBool_int ?_)
  refine kat_go (fun e => kat_yes (kat_cons (wpAny_eqBool_str ?_))) (fun e => kat_no ?_)
  · have e' : i.1 = j.1 := by simpa using e
    refine kat_go (fun e2 => kat_yes (kat_nil ?_)) (fun e2 => kat_no ?_)
    · have e3 : i.2 = j.2 := by simpa using e2
      refine hf ?_
      rintro (h | h)
      · omega
      · rw [e3] at h; exact List.lt_irrefl _ h.2
    · have go : Q (decide (i.2.cps.toList < j.2.cps.toList)) s := by
        by_cases c : i.2.cps.toList < j.2.cps.toList
        · rw [decide_eq_true c]; exact ht (.inr ⟨e', c⟩)
        · rw [decide_eq_false c]
          refine hf ?_
          rintro (h | h)
          · omega
          · exact c h.2
      cases (b && (0 + 1 : Nat) == 0) with
      | true => exact oneLt_str go
      | false => exact kat_one _ _ (lt_str go)
  · have ne : i.1 ≠ j.1 := by simpa using e
    have go : Q (decide (i.1 < j.1)) s := by
      by_cases c : i.1 < j.1
      · rw [decide_eq_true c]; exact ht (.inl c)
      · rw [decide_eq_false c]
        refine hf ?_
        rintro (h | h)
        · exact c h
        · exact ne h.1
    cases (b && (0 : Nat) == 0) with
    | true => exact oneLt_int go
    | false => exact kat_one _ _ (PyProof.Rows.lt_int go)
theorem keys_is {h : Heap} : ∀ vs : List Value, (∀ v ∈ vs, ∃ b i, v = Value.ref b ∧ KeyIS h b i) → ∃ fs, KatTups h vs fs ∧ fs.length = vs.length ∧ ∀ f ∈ fs, ∃ i t, f = Value.int i t
  | [], _ => ⟨[], KatTups.nil, rfl, fun f hf => by simp at hf⟩
  | v :: vs, hv => by
    obtain ⟨fs, h1, h2, h3⟩ := keys_is vs fun u hu => hv u (by simp [hu])
    obtain ⟨b, i, rfl, o, t, u, n, a1, a2, a3⟩ := hv v (by simp)
    refine ⟨Value.int i.1 t :: fs, KatTups.cons a1 a2 a3 (by simp) h1, by simp [h2], fun f hf => ?_⟩
    rcases List.mem_cons.mp hf with rfl | hf
    · exact ⟨i.1, t, rfl⟩
    · exact h3 f hf
theorem key_endE {key : Nat → Int × Str} {κ : Nat → Int} {a kS : Addr} {e e1 : Nat} {vs ks : List Value} {P : PySem.Fin → Shared → Prop} (hk : s.heap.get? kS = some (seqObj "list" ks.toArray e)) (ha : s.heap.get? a = some (seqObj "list" #[] e1)) (hka : kS ≠ a) (hl : ks.length = vs.length) (h64 : vs.length < 64)
    (hkt : ∀ i, i < vs.length → ∃ b, ks[i]? = some (.ref b) ∧ KeyIS s.heap b (key i)) (k1 : ∀ i j, i < vs.length → kLt (key i) (key j) → κ i < κ j) (k2 : ∀ i j, ¬ kLt (key i) (key j) → κ j ≤ κ i)
    (h : ∀ (hm h' : Heap) (p : Array Nat) (c c2 : Nat), AllLt vs.length p → Up (rnk vs.length κ) p vs.length → (∀ b o, b ≠ kS → s.heap.get? b = some o → hm.get? b = some o) → hm.get? kS = some (seqObj "list" #[] c2) → (∀ b o, b ≠ a → hm.get? b = some o → h'.get? b = some o) → h'.get? a = some (seqObj "list" (p.toList.map fun i => vs.getD i Value.none).toArray c) → P (.done (.ret .none)) { s with heap := h' }) :
    wpAny (model prog w) A (ksk_end a false vs.toArray e1 (.ref kS) ks.toArray) P E s := by
  have tail : ∀ (st : SortSt) (p : Array Nat), failedOf st = none → (arrOf st).map (·.2) = List.toArray (p.toList.map fun i => vs.getD i Value.none) → AllLt vs.length p → Up (rnk vs.length κ) p vs.length → wpAny (model prog w) A (ksk_tail a false e1 (.ref kS) st) P E s := by
    intro st p hf he hp hu
    have s1 := Heap.SameBut.update s.heap kS (Obj.mapSeq fun _ => (#[] : Array Value))
    have ha1 : (s.heap.update kS (Obj.mapSeq fun _ => (#[] : Array Value))).get? a = some (seqObj "list" #[] e1) := (s1.2 a hka.symm).trans ha
    have hk1 := get?_update_seq hk fun _ => (#[] : Array Value)
    unfold ksk_tail
    try dsimp only
    refine wpAny_bind (listUpdate_at hk rfl ?_ (by rw [List.size_toArray, sizeLine_eq]; omega) (Nat.zero_le _))
    refine wpAny_bind (wpAny_letGo ?_)
    refine wpAny_bind (seqEpoch_at ha1 rfl ?_)
    simp only [Bool.false_eq_true, if_false]
    rw [he]
    have sz : (List.toArray (p.toList.map fun i => vs.getD i Value.none)).size = vs.length := by
      rw [List.size_toArray, List.length_map, Array.length_toList, hp.size]
    refine wpAny_bind (listUpdate_at ha1 rfl ?_ (Nat.zero_le _) (Nat.le_trans (Nat.le_of_eq sz) (by rw [sizeLine_eq]; omega)))
    rw [hf]
    simp only [bne_self_eq_false, Bool.false_eq_true, if_false]
    have s2 := Heap.SameBut.update (s.heap.update kS (Obj.mapSeq fun _ => (#[] : Array Value))) a (Obj.mapSeq fun _ => List.toArray (p.toList.map fun i => vs.getD i Value.none))
    have ha2 := get?_update_seq ha1 fun _ => List.toArray (p.toList.map fun i => vs.getD i Value.none)
    exact wpAny_pure (h _ _ p _ _ hp hu (fun b o n1 q => (s1.2 b n1).trans q) hk1 (fun b o n1 q => (s2.2 b n1).trans q) ha2)
  unfold ksk_end
  try dsimp only
  simp only [Bool.false_eq_true, if_false]
  by_cases h2 : vs.toArray.size < 2
  · rw [if_pos h2, if_pos h2]
    refine wpAny_bind (wpAny_pure ?_)
    rw [StateT.run_pure]
    refine wpAny_bind (wpAny_pure ?_)
    try dsimp only
    rw [List.size_toArray] at h2
    refine tail (SortSt.mk' general' (ks.toArray.zip vs.toArray) #[] 7 none) (List.range vs.length).toArray rfl ?_ (Array.Perm.refl _) fun i j h1 h3 => ?_
    · refine kat_snds hl ?_
      rw [show vs.length = (ks.toArray.zip vs.toArray).size by simp [hl], kas_range]
    · have e1 : i = j := by omega
      subst e1
      exact Int.le_refl _
  · rw [if_neg h2, if_neg h2]
    rw [List.size_toArray] at h2
    have hv : ∀ v ∈ ks, ∃ b i, v = Value.ref b ∧ KeyIS s.heap b i := fun v hv => by
      obtain ⟨i, hi, rfl⟩ := List.mem_iff_getElem.mp hv
      obtain ⟨b, e, kt⟩ := hkt i (by omega)
      rw [List.getElem?_eq_getElem hi] at e
      exact ⟨b, _, Option.some.inj e, kt⟩
    obtain ⟨fs, t1, t2, t3⟩ := keys_is ks hv
    refine wpAny_bind (kat_kind (T := .type "int") t1 (by omega) (fun v hvv => ?_) (by decide) ?_)
    · obtain ⟨x, t, rfl⟩ := t3 v hvv
      exact Looks.of_pure rfl
    refine wpAny_bind (wpAny_mono (kat_run (Q := fun st s' => ∃ p, s' = s ∧ arrOf st = p.map (kas_item (ks.toArray.zip vs.toArray)) ∧ failedOf st = none ∧ AllLt vs.length p ∧ Up (rnk vs.length κ) p vs.length) (G := fun p s' => AllLt vs.length p ∧ Up (rnk vs.length κ) p vs.length ∧ s' = s) hl (by omega) h64 (fun p st s' _ e1 e2 hg => ⟨p, hg.2.2, e1, e2, hg.1, hg.2.1⟩) ?_) ?_ (fun _ _ x => x))
    · refine endsE_wp (P := fun q => AllLt vs.length q ∧ Up (rnk vs.length κ) q vs.length) (n := vs.length) (κ := κ) (fun i j C hi hj hC hD => ?_) (fun p hp => ⟨hp.1, hp.2, rfl⟩) _ (e_sort (by omega))
      unfold kas_ask
      obtain ⟨x, ex, kx⟩ := hkt i hi
      obtain ⟨y, ey, ky⟩ := hkt j hj
      rw [List.getD_eq_getElem?_getD, List.getD_eq_getElem?_getD, ex, ey]
      exact cmp_is kx ky (fun c => hC (k1 i j hi c)) (fun c => hD (k2 i j c))
    · rintro ⟨⟨⟩, st⟩ s' ⟨p, rfl, e1, e2, hp, hu⟩
      exact tail st p e2 (kat_snds hl e1) hp hu
end
end LS
namespace L2
open PySem PySem.Spec PyProof.Rows LS
theorem keyIS_of {P : Program} {w : World} {H : Hp} {h : Heap} {b : Addr} {k : Int × Str} (ok : HOk P w H h) (e : H b = some (.tup [.int k.1, .str k.2])) : KeyIS h b k := by
  obtain ⟨_, its, rv, o, h1, h2, n, h3⟩ := (show ObjOk P w H h b (.tup [.int k.1, .str k.2]) from ok b _ e)
  cases rv with
  | cons r1 t1 =>
    cases t1 with
    | cons r2 t2 =>
      cases t2
      obtain ⟨t, rfl⟩ := r1
      obtain ⟨u, rfl⟩ := r2
      exact ⟨o, t, u, n, h1, h2, h3⟩
def Ahead (key : V → Int × Str) (its : List V) (i j : Nat) : Prop := kLt (key (its.getD i .non)) (key (its.getD j .non)) ∨ (¬ kLt (key (its.getD j .non)) (key (its.getD i .non)) ∧ i < j)
theorem stable_pair {key : V → Int × Str} {its : List V} {p : Array Nat} (h : AllLt its.length p) (u : Up (rnk its.length (cnt its.length fun i j => kLt (key (its.getD i .non)) (key (its.getD j .non)))) p its.length) : p.toList.Pairwise (Ahead key its) := by
  have hp : p.toList.Perm (List.range its.length) := by simpa using Array.perm_iff_toList_perm.mp h
  have nd : p.toList.Nodup := hp.nodup_iff.mpr List.nodup_range
  rw [List.pairwise_iff_getElem]
  intro i j hi hj hij
  have hs := h.size
  have hj' : j < p.size := by simpa using hj
  have hi' : i < p.size := by omega
  have q := u i j (Nat.le_of_lt hij) (by omega)
  unfold RK at q
  simp only [Array.getD_eq_getD_getElem?, Array.getElem?_eq_getElem hi', Array.getElem?_eq_getElem hj', Option.getD_some] at q
  have li : p[i] < its.length := List.mem_range.mp (hp.mem_iff.mp (by simp))
  have lj : p[j] < its.length := List.mem_range.mp (hp.mem_iff.mp (by simp))
  have ne : p[i] ≠ p[j] := fun z => by
    have := (List.nodup_iff_pairwise_ne.mp nd)
    rw [List.pairwise_iff_getElem] at this
    exact this i j hi hj hij (by simpa using z)
  show Ahead key its (p.toList[i]) (p.toList[j])
  rw [Array.getElem_toList, Array.getElem_toList]
  generalize p[i] = a at q li ne ⊢
  generalize p[j] = b at q lj ne ⊢
  have kk := rnk_key lj q
  by_cases c : kLt (key (its.getD a .non)) (key (its.getD b .non))
  · exact .inl c
  · have c1 := cnt_le (n := its.length) (L := fun i j => kLt (key (its.getD i .non)) (key (its.getD j .non))) (fun _ _ k h1 h2 => kLt.neg h1 h2) (i := a) (j := b) c
    refine .inr ⟨fun z => ?_, ?_⟩
    · have := cnt_lt (n := its.length) (L := fun i j => kLt (key (its.getD i .non)) (key (its.getD j .non))) (fun i => kLt.irr _) (fun _ _ _ => kLt.trans) lj z
      omega
    · unfold rnk at q
      have e : cnt its.length (fun i j => kLt (key (its.getD i .non)) (key (its.getD j .non))) a = cnt its.length (fun i j => kLt (key (its.getD i .non)) (key (its.getD j .non))) b := by omega
      rw [e] at q
      omega
def rSortE (K : PySem.W.Frag) (f : Addr) (sp : Sp) (E : XK) : List V → List V → Hp → VK → Prop := fun xs zs H Q => ∃ (p : Addr) (its : List V) (key : V → Int × Str), xs = [.ref p] ∧ zs = [.ref f] ∧ SqL K H p its ∧ its.length < 64 ∧
  (∀ x ∈ its, ∀ H' Q', Same H H' → (∀ q H2, Same H' H2 → H2 q = some (.tup [.int (key x).1, .str (key x).2]) → Q' (.ref q) H2) → sp [x] H' Q' E) ∧
  ∀ D (ix : List Nat) H', H D = none → Same H H' → H' D = some (.lst (ix.map fun i => its.getD i .non)) → ix.Perm (List.range its.length) → ix.Pairwise (Ahead key its) → Q (.ref D) H'
section
variable {X : Cx} {CX : CXT} {k : Nat} {f : Addr} {fd : FuncData} {ps : List Str} {sp : Sp} {E : XK}
theorem call_sortE (K : PySem.W.Frag) (F : FnOk X.prog X.w X.K X.mg X.base CX k f fd ps sp) (hr : Room (k + 2) X.A) (hb : Binds X.K fd ps []) (hx : Passes CX X.nox E) (hK : X.K = K := by rfl) : CallKR X (.builtin "sorted") ["key"] (rSortE K f sp E) := by
  subst hK
  intro pins s σ H xs zs us ws Q I r rz h
  obtain ⟨p, its, key, rfl, rfl, hq, h64, hk, q⟩ := h
  obtain ⟨u, rfl, ru⟩ := vals1 r
  obtain ⟨w', rfl, rw'⟩ := vals1 rz
  cases ru
  cases rw'
  obtain ⟨vs, rv, pl, hz⟩ := I.list hq
  have hlen : its.length = vs.length := rv.length
  show wpAny _ _ (call (.builtin "sorted") [.ref p] [(Str.ofString "key", .ref f)]) _ _ _
  refine call_function_entry_kw kind_sorted plain_sorted entry_sorted (ksk_s1 _ _) ?_
  unfold Builtin.«sorted»
  refine wpAny_bind (m := checkCount "sorted" 1 1 _) (wpAny_pure ?_)
  refine wpAny_bind (collect_list pl.isList ?_ (by rw [sizeLine_eq]; omega))
  refine wpAny_bind (wpAny_newList ?_ (by rw [sizeLine_eq]; omega))
  have hsz : ((s.heap.push (seqObj "list" #[] 0)).update s.heap.objs.size (Obj.mapSeq (· ++ vs.toArray))).objs.size = s.heap.objs.size + 1 := by
    rw [Heap.size_update, size_push']
  have hoL : (((s.heap.push (seqObj "list" #[] 0)).update s.heap.objs.size (Obj.mapSeq (· ++ vs.toArray))).push (seqObj "list" vs.toArray 0)).get? (s.heap.objs.size + 1) = some (seqObj "list" vs.toArray 0) := by
    rw [← hsz]; exact Heap.get?_push_size _ rfl
  have keep : ∀ b o, s.heap.get? b = some o → (((s.heap.push (seqObj "list" #[] 0)).update s.heap.objs.size (Obj.mapSeq (· ++ vs.toArray))).push (seqObj "list" vs.toArray 0)).get? b = some o := fun b o q => by
    have hlt : b < s.heap.objs.size := Heap.lt_size q
    rw [Heap.get?_push_ne _ _ _ (by rw [hsz]; exact Nat.ne_of_lt (Nat.lt_succ_of_lt hlt)), Heap.get?_update_ne _ _ _ _ (Nat.ne_of_lt hlt), Heap.get?_push_ne _ _ _ (Nat.ne_of_lt hlt)]
    exact q
  show wpAny _ _ _ _ _ { s with heap := ((s.heap.push (seqObj "list" #[] 0)).update s.heap.objs.size (Obj.mapSeq (· ++ vs.toArray))).push (seqObj "list" vs.toArray 0) }
  rw [hsz]
  generalize ((s.heap.push (seqObj "list" #[] 0)).update s.heap.objs.size (Obj.mapSeq (· ++ vs.toArray))).push (seqObj "list" vs.toArray 0) = h1 at hoL keep ⊢
  obtain ⟨D, hDe⟩ : ∃ D, D = s.heap.objs.size + 1 := ⟨_, rfl⟩
  have hDs : s.heap.objs.size ≤ D := by rw [hDe]; exact Nat.le_succ _
  rw [← hDe] at hoL ⊢
  have hDn : H D = none := I.hok.fresh hDs
  refine wpAny_bind (wpAny_holding (wpAny_call_entry_kw slot_list_sort ⟨_, hoL, rfl⟩ entry_list_sort ?body (ksk_l1 _ _)))
  case body =>
    show wpAny (model X.prog X.w) X.A.in1.in1 (Builtin.«list.sort» ⟨[.ref D], [(Str.ofString "key", .ref f)]⟩) _ _ _
    rw [ksk_t1]
    unfold ksk_tree
    refine wpAny_bind (listItems_at hoL rfl ?_)
    refine wpAny_bind (listUpdate_at hoL rfl ?_ (by rw [List.size_toArray, sizeLine_eq]; omega) (Nat.zero_le _))
    obtain ⟨e1, ho1⟩ : ∃ e1, (h1.update D (Obj.mapSeq fun _ => (#[] : Array Value))).get? D = some (seqObj "list" #[] e1) := ⟨_, get?_update_seq hoL fun _ => #[]⟩
    have sb1 := Heap.SameBut.update h1 D (Obj.mapSeq fun _ => (#[] : Array Value))
    have keep1 : ∀ b o, s.heap.get? b = some o → (h1.update D (Obj.mapSeq fun _ => (#[] : Array Value))).get? b = some o := fun b o e => (sb1.2 b (Nat.ne_of_lt (Nat.lt_of_lt_of_le (Heap.lt_size e) hDs))).trans (keep b o e)
    generalize h1.update D (Obj.mapSeq fun _ => (#[] : Array Value)) = h2 at ho1 keep1 ⊢
    refine wpAny_bind (seqEpoch_at (s := { s with heap := h2 }) ho1 rfl ?_)
    refine wpAny_bind (wpAny_newTuple ?_ (by show vs.length ≤ _; rw [sizeLine_eq]; omega))
    refine wpAny_bind (wpAny_newList ?_ (Nat.zero_le _))
    refine wpAny_holding ?_
    dsimp only
    generalize hot : ({ cls := Value.type "tuple", data := Data.seq vs.toArray.toList.toArray } : Obj) = oT
    have ho3 : (h2.push oT).get? D = some (seqObj "list" #[] e1) := Heap.get?_push_of_some _ ho1
    have keep3 : ∀ b o, s.heap.get? b = some o → (h2.push oT).get? b = some o := fun b o e => Heap.get?_push_of_some _ (keep1 b o e)
    generalize h2.push oT = h3 at ho3 keep3 ⊢
    have I2 : Inv X pins σ (upd H D (held D (seqObj "list" #[] e1))) { s with heap := h3, toks := s.toks } := I.laid keep3 hDs (held_ok ho3)
    have hKn : upd H D (held D (seqObj "list" #[] e1)) h3.objs.size = none := I2.hok.fresh (Nat.le_refl _)
    have hKD : h3.objs.size ≠ D := Nat.ne_of_gt (Heap.lt_size ho3)
    have I3 : Inv X pins σ (upd (upd H D (held D (seqObj "list" #[] e1))) h3.objs.size (.lst [])) { s with heap := h3.push { cls := .type "list", data := .seq ([] : List Value).toArray }, toks := s.toks } :=
      I2.laid (t' := s.toks) (fun b u e => Heap.get?_push_of_some _ e) (Nat.le_refl _) ⟨Nat.zero_le _, [], 0, .nil, Heap.get?_push_size _ rfl⟩
    generalize hH0 : upd H D (held D (seqObj "list" #[] e1)) = H0 at I3 hKn
    have hHD : H0 D = some (held D (seqObj "list" #[] e1)) := by rw [← hH0]; exact upd_same
    have sm0 : Same H H0 := by rw [← hH0]; exact Same.new hDn
    generalize h3.objs.size = kS at I3 hKn hKD ⊢
    unfold ksk_rest
    refine wpAny_bind (wpAny_rule ?_)
    first
      | rw [List.forIn_toArray]
      | (rw [← Array.forIn_toList]; simp only [List.toList_toArray])
      | rw [← Array.forIn_toList]
    refine wpAny_bind (ksk_fold (fun i s' => ∃ H' bs, Inv X pins σ H' s' ∧ Same H0 H' ∧ H' kS = some (.lst (bs.map V.ref)) ∧ bs.length = i ∧ ∀ j b x, bs[j]? = some b → its[j]? = some x → H' b = some (.tup [.int (key x).1, .str (key x).2])) vs 0 _
      ⟨_, [], I3, Same.new hKn, upd_same, rfl, fun j b x e => absurd (List.getElem?_eq_some_iff.mp e).1 (Nat.not_lt_zero _)⟩ ?step ?done)
    case step =>
      rintro j v s' hv ⟨H', bs, I', sm, hkS, hbl, hbt⟩
      try simp only [Nat.zero_add] at hbl
      try simp only [Nat.zero_add]
      obtain ⟨x, hx1, hx2⟩ := vals_at rv hv
      have hj : j < vs.length := (List.getElem?_eq_some_iff.mp hv).1
      have hmem : x ∈ its := List.mem_of_getElem? hx1
      refine wpAny_bind (wpAny_attempt (wpAny_mono (Q := EP X pins σ fun v' H2 => ∃ q, v' = V.ref q ∧ Same H' H2 ∧ H2 q = some (.tup [.int (key x).1, .str (key x).2])) (E := fun _ _ => False) ?call (fun u s'' he => ?ok) fun _ _ hF => hF.elim))
      case call =>
        have hsp : sp [x] H' (fun v' H2 => ∃ q, v' = V.ref q ∧ Same H' H2 ∧ H2 q = some (.tup [.int (key x).1, .str (key x).2])) E := hk x hmem H' _ (sm0.trans sm) fun q H2 a1 a2 => ⟨q, rfl, a1, a2⟩
        have hl : ([v] ++ ([] : List Value)).length = ps.length := by rw [← F.len _ _ _ _ hsp]; rfl
        refine wpAny_call (codeAny_mono (F.run X.A.in1.in1 X.stack s' H' ⟨[v], []⟩ ([v] ++ []) [x] _ E hr.in1.in1 I'.env0.in1.in1 (hb s' [v] I'.kIn hl) (.cons hx2 .nil) hsp) fun r s'' hq => ?_)
        cases r with
        | error e => exact hx pins σ H' s' e s'' (I'.wish _) hq
        | ok fl =>
          cases fl with
          | ret u => exact I'.after hq
          | next => exact False.elim hq
          | brk => exact False.elim hq
          | cont => exact False.elim hq
      case ok =>
        obtain ⟨v', H2, I2', rv', qa, rfl, sm2, hqa⟩ := he
        cases rv'
        dsimp only
        have hkS2 := sm2 _ _ hkS
        obtain ⟨z, itv, n, rvv, ek⟩ := (show ObjOk X.prog X.w H2 s''.heap kS (.lst (bs.map V.ref)) from I2'.hok kS _ hkS2)
        have eb := refs_inv rvv
        subst eb
        have ek' : s''.heap.get? kS = some (seqObj "list" (bs.map Value.ref).toArray n) := ek
        refine wpAny_bind (listUpdate_at ek' rfl ?_ (by rw [List.size_toArray, List.length_map, sizeLine_eq]; omega) (by rw [Array.size_push, List.size_toArray, List.length_map, sizeLine_eq]; omega))
        have sb := Heap.SameBut.update s''.heap kS (Obj.mapSeq (·.push (Value.ref qa)))
        have gk := get?_update_seq ek' (·.push (Value.ref qa))
        have ea : (bs.map Value.ref).toArray.push (Value.ref qa) = ((bs ++ [qa]).map Value.ref).toArray := by simp
        have I4 : Inv X pins σ (upd H2 kS (.lst ((bs ++ [qa]).map V.ref))) { s'' with heap := s''.heap.update kS (Obj.mapSeq (·.push (Value.ref qa))), toks := s''.toks } :=
          I2'.write (x := kS) (e := kS) (by rw [hkS2]; trivial) (.inl rfl) (fun b u nb e => (sb.2 b nb).trans e) ⟨_, gk⟩ ⟨by rw [List.length_map, List.length_append, sizeLine_eq]; show bs.length + 1 ≤ _; omega, (bs ++ [qa]).map Value.ref, _, vals_refs _, by rw [← ea]; exact gk⟩
        refine wpAny_pure ⟨rfl, _, bs ++ [qa], I4, (sm.trans sm2).upd hKn, upd_same, by rw [List.length_append, hbl]; rfl, fun j' b x' e1 e2 => ?_⟩
        by_cases cj : j' < bs.length
        · rw [List.getElem?_append_left cj] at e1
          have e3 := sm2 _ _ (hbt j' b x' e1 e2)
          rw [upd_ne (ne_of e3 hkS2 (by intro z; cases z))]
          exact e3
        · have ej : j' = bs.length := by
            have := (List.getElem?_eq_some_iff.mp e1).1
            rw [List.length_append] at this
            have : j' < bs.length + 1 := this
            omega
          subst ej
          rw [List.getElem?_append_right (Nat.le_refl _)] at e1
          have e1' : qa = b := by simpa using e1
          subst e1'
          rw [hbl, hx1] at e2
          cases e2
          rw [upd_ne (ne_of hqa hkS2 (by intro z; cases z))]
          exact hqa
    case done =>
      rintro s' ⟨H', bs, I', sm, hkS, hbl, hbt⟩
      try simp only [Nat.zero_add] at hbl
      obtain ⟨z, itv, n, rvv, ek⟩ := (show ObjOk X.prog X.w H' s'.heap kS (.lst (bs.map V.ref)) from I'.hok kS _ hkS)
      have eb := refs_inv rvv
      subst eb
      have ek' : s'.heap.get? kS = some (seqObj "list" (bs.map Value.ref).toArray n) := ek
      have eD : s'.heap.get? D = some (seqObj "list" #[] e1) := held_is I'.hok (sm _ _ hHD)
      refine wpAny_bind (listItems_at ek' rfl ?_)
      refine key_endE (key := fun i => key (its.getD i .non)) (κ := cnt its.length fun i j => kLt (key (its.getD i .non)) (key (its.getD j .non))) ek' eD hKD (by rw [List.length_map, hbl]) (by omega) (fun i hi => ?_) (fun i j hi c => cnt_lt (n := its.length) (L := fun i j => kLt (key (its.getD i .non)) (key (its.getD j .non))) (fun i => kLt.irr _) (fun _ _ _ => kLt.trans) (by rw [hlen]; exact hi) c) (fun i j c => cnt_le (n := its.length) (L := fun i j => kLt (key (its.getD i .non)) (key (its.getD j .non))) (fun _ _ k h1 h2 => kLt.neg h1 h2) c) fun hm h' pp c c2 hp hu g1 g2 g3 g4 => ⟨_, rfl, ?_⟩
      · have hbi : i < bs.length := by omega
        have hii : i < its.length := by omega
        refine ⟨bs[i], by rw [List.getElem?_map, List.getElem?_eq_getElem hbi]; rfl, ?_⟩
        have e3 := hbt i bs[i] its[i] (List.getElem?_eq_getElem hbi) (List.getElem?_eq_getElem hii)
        rw [show its.getD i V.non = its[i] by simp [hii]]
        exact keyIS_of I'.hok e3
      · have hHD' := sm _ _ hHD
        have I5 : Inv X pins σ (upd H' kS (.lst [])) { s' with heap := hm, toks := s'.toks } :=
          I'.write (x := kS) (e := kS) (by rw [hkS]; trivial) (.inl rfl) (fun b u nb e => g1 b u nb e) ⟨_, g2⟩ ⟨Nat.zero_le _, [], c2, .nil, g2⟩
        have hl : pp.toList.length = its.length := by rw [Array.length_toList, hp.size, hlen]
        have I6 : Inv X pins σ (upd (upd H' kS (.lst [])) D (.lst (pp.toList.map fun i => its.getD i .non))) { s' with heap := h', toks := s'.toks } :=
          I5.write (s := { s' with heap := hm, toks := s'.toks }) (x := D) (e := D) (by rw [upd_ne hKD.symm, hHD']; trivial) (.inl rfl) (fun b u nb e => g3 b u nb e) ⟨_, g4⟩ ⟨by rw [List.length_map, hl, sizeLine_eq]; omega, _, c, vals_map rv _, g4⟩
        rw [← hlen] at hp hu
        exact wpAny_pure ⟨_, rfl, .ref D, _, I6, rfl, q D _ _ hDn (((sm0.trans sm).upd (sm0.none hKn)).upd hDn) upd_same (by simpa using Array.perm_iff_toList_perm.mp hp) (stable_pair hp hu)⟩
end
end L2
set_option maxRecDepth 100000
set_option maxHeartbeats 1600000
namespace L2
open PySem PySem.Spec PyProof.Rows
def CtxIs (h : Heap) (ea : Addr) (c : Value) : Prop := ∃ oe vs, h.get? ea = some oe ∧ oe.data = .fields vs ∧ vs[2]? = some c
theorem CtxIs.same {h h' : Heap} {ea : Addr} {c : Value} (x : CtxIs h ea c) (e : h'.get? ea = h.get? ea) : CtxIs h' ea c := by
  obtain ⟨oe, vs, e1, e2, e3⟩ := x
  exact ⟨oe, vs, e.trans e1, e2, e3⟩
theorem FlyAt.ne {h : Heap} {ea T : Addr} {cls fl : Value} {dx : Option Addr} (m : FlyAt h ea T cls dx fl) : T ≠ ea := by
  obtain ⟨_, _, _, _, _, _, _, _, _, _, _, e7, _⟩ := m
  exact e7
section
variable {M : Model} {A : Around} {E : Value → Shared → Prop} {s : Shared} {env : Env} {outer : List Env} {base : Heap} {L ea T : Addr} {cls fl c : Value} {dx : Option Addr} {Q : Unit → Shared → Prop}
theorem entry_onC {head : Value} {had : Bool} {oe : Obj} {vs : Array Value} {a0 : Value} (hfr : A.frames = some (env :: outer)) (hl : s.heap.FunFrames base (env :: outer)) (hf : env.frame = some L)
    (e1 : s.heap.get? ea = some oe) (e2 : oe.cls = cls) (e3 : oe.dict = dx) (e4 : oe.data = .fields vs) (e5 : vs[0]? = some a0) (e6 : 1 < vs.size) (e7 : vs[2]? = some c)
    (h : ∀ h' T', FlyAt h' ea T' cls dx (rawInt L) → CtxIs h' ea c → s.heap.get? T' = none → Moved s.heap h' (frs (env :: outer)) [ea] → Q () { s with heap := h' }) :
    wpAny M A (do let a ← frameOf env; let pl ← entryPlaceOf L had; let b ← EntryCells.newEntry head a .none (rawInt L) .none pl; setField (.ref ea) 1 b) Q E s := by
  have nfr : ea ∉ frs (env :: outer) := fun m => by
    obtain ⟨_, o', q1, q2⟩ := hl.mem m
    rw [e1] at q1
    cases q1
    exact q2 vs e4
  refine wpAny_bind (wpAny_frameOf_fun hfr hl hf fun g1 so => wpAny_bind (wpAny_entryPlaceOf fun pl isp => ?_))
  unfold EntryCells.newEntry newFields
  refine wpAny_bind (wpAny_newObj_type ?_ (isp.sizeOk5 _ _ _ _ _))
  have at1 : g1.get? ea = some oe := (so.2.1 ea nfr).trans e1
  have neT : g1.objs.size ≠ ea := Nat.ne_of_gt (Heap.lt_size at1)
  have len5 : ∀ (l : List Value), (([head, .ref L, .none, rawInt L, .none] ++ l).toArray)[3]? = some (rawInt L) := fun l => by simp
  generalize ho : ({ cls := .type "traceback", dict := none, data := .fields ([head, .ref L, .none, rawInt L, .none] ++ (if pl.isEmpty then List.replicate 6 Value.none else pl)).toArray } : Obj) = ot
  have hod : ot.data = .fields ([head, .ref L, .none, rawInt L, .none] ++ (if pl.isEmpty then List.replicate 6 Value.none else pl)).toArray := by rw [← ho]
  have hnf : ot.isFreed = false := Obj.isFreed_of_fields hod
  have at2 : (g1.push ot).get? ea = some oe := Heap.get?_push_of_some _ at1
  refine wpAny_setField at2 e4 e6 (h _ g1.objs.size ?_ ?_ ?_ ?_)
  · have fd := Obj.data_mapFields e4 (·.setIfInBounds 1 (Value.ref g1.objs.size))
    refine ⟨_, _, ot, _, a0, Heap.get?_update_self _ at2 (Obj.isFreed_of_fields fd), by rw [Obj.cls_mapFields]; exact e2, by rw [dict_map]; exact e3, fd, by rw [Array.getElem?_setIfInBounds_ne (by decide)]; exact e5, by simp [e6], neT, ?_, hod, len5 _⟩
    rw [Heap.get?_update_other _ _ (Ne.symm neT)]
    exact Heap.get?_push_size g1 hnf
  · have fd := Obj.data_mapFields e4 (·.setIfInBounds 1 (Value.ref g1.objs.size))
    exact ⟨_, _, Heap.get?_update_self _ at2 (Obj.isFreed_of_fields fd), fd, by rw [Array.getElem?_setIfInBounds_ne (by decide)]; exact e7⟩
  · exact Heap.get?_none_of_le (by rw [so.1]; exact Nat.le_refl _)
  · refine ⟨fun b o q n1 n2 => ?_, fun b o q n1 n2 => ?_⟩
    · rw [Heap.get?_update_other _ _ (fun z => n1 (by simp [z]))]
      exact Heap.get?_push_of_some _ ((so.2.1 b n2).trans q)
    · obtain ⟨sl, q2⟩ := so.2.2 b o q
      refine ⟨sl, ?_⟩
      rw [Heap.get?_update_other _ _ (fun z => n1 (by simp [z]))]
      exact Heap.get?_push_of_some _ q2
theorem note_newC (hfr : A.frames = some (env :: outer)) (hl : s.heap.FunFrames base (env :: outer)) (hf : env.frame = some L) (m : Made s.heap ea cls dx)
    (h : ∀ h' T', FlyAt h' ea T' cls dx (rawInt L) → CtxIs h' ea .none → s.heap.get? T' = none → Moved s.heap h' (frs (env :: outer)) [ea] → Q () { s with heap := h' }) : wpAny M A (noteFrame (.ref ea) env) Q E s := by
  obtain ⟨oe, vs, a0, e1, e2, e3, e4, e5, e6, e7, _⟩ := m
  unfold noteFrame
  simp only [hf]
  refine wpAny_bind (wpAny_field e1 e4 e6 ?_)
  rw [if_neg (by decide)]
  exact entry_onC hfr hl hf e1 e2 e3 e4 e5 (Array.getElem?_eq_some_iff.mp e6).1 e7 h
theorem note_onC (hfr : A.frames = some (env :: outer)) (hl : s.heap.FunFrames base (env :: outer)) (hf : env.frame = some L) (m : Fly s.heap ea T cls dx) (hc : CtxIs s.heap ea c)
    (h : ∀ h' T', FlyAt h' ea T' cls dx (rawInt L) → CtxIs h' ea c → s.heap.get? T' = none → Moved s.heap h' (frs (env :: outer)) [T, ea] → Q () { s with heap := h' }) : wpAny M A (noteFrame (.ref ea) env) Q E s := by
  obtain ⟨oe, vs, oT, ts, a0, e1, e2, e3, e4, e5, e6, e7, e8, e9, e10⟩ := m
  obtain ⟨oc, vc, k1, k2, k3⟩ := hc
  rw [e1] at k1
  cases k1
  rw [e4] at k2
  cases k2
  unfold noteFrame
  simp only [hf]
  refine wpAny_bind (wpAny_field e1 e4 e6 ?_)
  rw [if_pos (by simp)]
  refine wpAny_bind (wpAny_field e8 e9 e10 ?_)
  rw [if_neg (by simp [rawInt])]
  refine wpAny_bind (wpAny_setField e8 e9 (Array.getElem?_eq_some_iff.mp e10).1 ?_)
  have oth : ∀ b, b ≠ T → (s.heap.update T (Obj.mapFields (·.setIfInBounds 3 Value.none))).get? b = s.heap.get? b := fun b n => Heap.get?_update_other _ _ (Ne.symm n)
  have rec' : ∀ b o, s.heap.get? b = some o → (∀ vs, o.data ≠ .fields vs) → b ≠ T := fun b o q nf z => by
    rw [z, e8] at q
    cases q
    exact nf ts e9
  have mv := Moved.one (fs := frs (env :: outer)) oth
  refine entry_onC (s := { s with heap := _ }) hfr (hl.of_keeps fun b o q nf => ⟨o, (oth b (rec' b o q nf)).trans q, rfl⟩) hf ((oth ea (Ne.symm e7)).trans e1) e2 e3 e4 e5 (Array.getElem?_eq_some_iff.mp e6).1 k3 fun h' T' f1 fc f2 f3 => h h' T' f1 fc ?_ (mv.trans f3)
  cases q : s.heap.get? T' with
  | none => rfl
  | some o =>
    by_cases z : T' = T
    · rw [z, Heap.get?_update_self _ e8 (Obj.isFreed_of_fields (Obj.data_mapFields e9 _))] at f2; cases f2
    · rw [oth T' z, q] at f2; cases f2
theorem leave_firstC (hfr : A.frames = some (env :: outer)) (hl : s.heap.FunFrames base (env :: outer)) (hf : env.frame = some L) (m : Made s.heap ea cls dx)
    (h : ∀ h' T', Fly h' ea T' cls dx → CtxIs h' ea .none → s.heap.get? T' = none → Moved s.heap h' (frs (env :: outer)) [ea] → Q () { s with heap := h' }) : wpAny M A (leaving env (.ref ea)) Q E s := by
  unfold leaving
  refine wpAny_bind (note_newC hfr hl hf m fun h1 T1 f1 fc f2 f3 => ?_)
  refine flight_off (s := { s with heap := h1 }) f1 fun h2 f4 f5 => h h2 T1 f4 (fc.same (f5 ea f1.ne.symm)) f2 ?_
  exact (f3.trans (Moved.one f5)).less fun b hb => (List.mem_append.mp hb).imp id fun z => by rw [List.mem_singleton] at z; rw [z]; exact f2
theorem look_onC (hfr : A.frames = some (env :: outer)) (hl : s.heap.FunFrames base (env :: outer)) (hf : env.frame = some L) (m : Fly s.heap ea T cls dx) (hc : CtxIs s.heap ea c)
    (h : ∀ h' T', Fly h' ea T' cls dx → CtxIs h' ea c → s.heap.get? T' = none → Moved s.heap h' (frs (env :: outer)) [ea, T] → Q () { s with heap := h' }) :
    wpAny M A (noteFrame (.ref ea) env) (fun _ s2 => wpAny M A (setFlight (.ref ea) none) Q E s2) E s := by
  refine note_onC hfr hl hf m hc fun h1 T1 f1 fc f2 f3 => ?_
  refine flight_off (s := { s with heap := h1 }) f1 fun h2 f4 f5 => h h2 T1 f4 (fc.same (f5 ea f1.ne.symm)) f2 ?_
  refine (f3.trans (Moved.one f5)).less fun b hb => ?_
  rcases List.mem_append.mp hb with z | z
  · exact .inl (by simp at z ⊢; exact z.symm)
  · rw [List.mem_singleton] at z; rw [z]; exact .inr f2
theorem leave_onC (hfr : A.frames = some (env :: outer)) (hl : s.heap.FunFrames base (env :: outer)) (hf : env.frame = some L) (m : Fly s.heap ea T cls dx) (hc : CtxIs s.heap ea c)
    (h : ∀ h' T', Fly h' ea T' cls dx → CtxIs h' ea c → s.heap.get? T' = none → Moved s.heap h' (frs (env :: outer)) [ea, T] → Q () { s with heap := h' }) : wpAny M A (leaving env (.ref ea)) Q E s := by
  unfold leaving
  exact wpAny_bind (look_onC hfr hl hf m hc h)
end
def CXS (P : Program) (w : World) : CXT := fun outer H s E e s' => ∃ (ea T : Addr) (cls : Value) (dx : Option Addr) (H' : Hp), e = .ref ea ∧ s'.os = s.os ∧ AllBare s'.gens ∧ Un (frs outer) [] H H' s.heap s'.heap ∧ HOk P w H' s'.heap ∧
  H' ea = none ∧ H' T = none ∧ s.heap.get? ea = none ∧ s.heap.get? T = none ∧ Fly s'.heap ea T cls dx ∧ CtxIs s'.heap ea .none ∧ E cls dx H'
section
variable {P : Program} {w : World} {K : PySem.W.Frag} {mg : Str → Option Value} {base : Heap} {N : List Str} {qual : Str} {scope : Scope} {f : Addr} {cd : Value} {A : Around} {outer : List Env} {s₀ : Shared} {H₀ : Hp} {E : XK}
abbrev cxS (P : Program) (w : World) (K : PySem.W.Frag) (mg : Str → Option Value) (base : Heap) (N : List Str) (qual : Str) (scope : Scope) (f : Addr) (cd : Value) (A : Around) (outer : List Env) (s₀ : Shared) (H₀ : Hp) (E : XK) : Cx :=
  cxOf (CXS P w) P w K mg base N qual scope f cd A outer s₀ H₀ E
theorem throw_okS {pins : List (Addr × Obj)} {σ : St} {H : Hp} {s : Shared} {ea : Addr} {cls : Value} {dx : Option Addr} (I : Inv (cxS P w K mg base N qual scope f cd A outer s₀ H₀ E) pins σ H s) (m : Made s.heap ea cls dx) (a : Apart (cxS P w K mg base N qual scope f cd A outer s₀ H₀ E) pins H ea) (e : E cls dx H) :
    (cxS P w K mg base N qual scope f cd A outer s₀ H₀ E).xe (.ref ea) s := by
  refine leave_firstC (base := base) (outer := outer) I.ok.frames I.stack rfl m fun h' T' fl fc nT mv => ?_
  have I' := I.moved' mv fun b hb => by
    rcases List.mem_cons.mp hb with rfl | hb
    · exact a
    · cases hb
  have aT := I.apart rfl nT
  exact ⟨ea, T', cls, dx, H, rfl, I'.os, I'.bare, I'.base, I'.hok, a.trk, aT.trk, a.old, aT.old, fl, fc, e⟩
theorem passS : Passes (CXS P w) (cxS P w K mg base N qual scope f cd A outer s₀ H₀ E) E := by
  intro pins σ H s e s' I h
  obtain ⟨ea, T, cls, dx, H', rfl, h1, h2, h3, h4, h5, h6, h7, h8, h9, hc, h10⟩ := h
  have a1 := I.apart rfl h7
  have a2 := I.apart rfl h8
  have I' := I.call' h1 h3 h4 h2 (by intro b hb; cases hb)
  refine leave_onC (base := base) (outer := outer) I'.ok.frames I'.stack rfl h9 hc fun h' T' fl fc nT mv => ?_
  have I2 := I'.moved' mv fun b hb => by
    rcases List.mem_cons.mp hb with rfl | hb
    · exact ⟨h5, a1.old, a1.loc, a1.cell, a1.pin⟩
    · rcases List.mem_cons.mp hb with rfl | hb
      · exact ⟨h6, a2.old, a2.loc, a2.cell, a2.pin⟩
      · cases hb
  have aT := I'.apart rfl nT
  exact ⟨ea, T', cls, dx, H', rfl, I2.os, I2.bare, I2.base, I2.hok, h5, aT.trk, a1.old, aT.old, fl, fc, h10⟩
theorem ps_raiseIS {x : Str} {e : Expr} {es : List Expr} {t : TA} {C CL fi : Addr} {fd : FuncData} {ps : List Str} {sp : Sp} {dvs : List V} {ds : List Value} {k : Nat} {np cpos pos : Pos} (xi : XInit K C CL fi)
    (G : FnOk P w K mg base (CXE P w) k fi fd ps sp) (hr : Room (k + 1) (cxS P w K mg base N qual scope f cd A outer s₀ H₀ E).A)
    (hg : Gl (cxS P w K mg base N qual scope f cd A outer s₀ H₀ E) x) (hm : mg x = some (.ref C)) (hb : Binds K fd ps ds) (hd : Vals dvs ds) (ha : PA (cxS P w K mg base N qual scope f cd A outer s₀ H₀ E) (e :: es) t)
    (hdb : (x == ("__debug__" : Str)) = false := by decide) (he : starEach (e :: es) (cxS P w K mg base N qual scope f cd A outer s₀ H₀ E).env = (false, eval e (cxS P w K mg base N qual scope f cd A outer s₀ H₀ E).env) :: starEach es (cxS P w K mg base N qual scope f cd A outer s₀ H₀ E).env := by rfl)
    (hpl : (backTo cpos (starEach es (cxS P w K mg base N qual scope f cd A outer s₀ H₀ E).env)).any (·.1) = false := by rfl) :
    PS (cxS P w K mg base N qual scope f cd A outer s₀ H₀ E) (.Raise (some (.Call (.Name x np) (e :: es) [] cpos)) none pos) (tRaiseI E C sp dvs t) := by
  intro pins s σ H D I h
  rw [arm_exec_Raise]
  refine wpAny_bind (wpAny_standAt ?_)
  refine raise_inst (K := K) (I.ok.hd rfl) ?_
  refine wpAny_Call_Name_kw (ld_glob I hg hm ?_ hdb)
  refine PySem.W.callWith_K (h₀ := base) I.ok.mod.kin xi.kp (thn (ha cpos pins s σ H _ I h) fun us s1 ⟨vs, H1, I1, r, hlen, q⟩ => ⟨I1.kIn, ?_⟩) he hpl
  have nw : s1.heap.get? (s1.heap.objs.size + 1) = none := Heap.get?_none_of_le (Nat.le_succ _)
  have hq := q _ (I1.hok.none_of nw)
  have ap := I1.apart rfl nw
  have I2 := I1.madeX (C := C) us
  have r2 : Vals (V.ref (s1.heap.objs.size + 1) :: (vs ++ dvs)) (Value.ref (s1.heap.objs.size + 1) :: (us ++ ds)) := .cons rfl (r.append hd)
  have hl : (Value.ref (s1.heap.objs.size + 1) :: us ++ ds).length = ps.length := by
    have e := r2.length
    rw [G.len _ _ _ _ hq] at e
    exact e.symm
  refine wpAny_call (make_exc I1.kIn xi (by show us.length ≤ sizeLine; rw [← r.length]; exact le_line hlen) (codeAny_mono (G.run _ _ _ _ ⟨Value.ref (s1.heap.objs.size + 1) :: us, []⟩ (Value.ref (s1.heap.objs.size + 1) :: (us ++ ds)) _ _ _ (hr.make C us [])
    (I2.env0.make C us []) (hb _ (Value.ref (s1.heap.objs.size + 1) :: us) I2.kIn hl) r2 hq) fun rr s' hq' => ?_))
  cases rr with
  | error ev =>
    obtain ⟨_, _, _, _, _, _, _, _, _, _, _, _, _, _, _, z⟩ := hq'
    exact z.elim
  | ok fl =>
    cases fl with
    | ret u =>
      obtain ⟨v, H', I3, rv, ev, dx, e3, q3⟩ := I2.after hq'
      subst ev
      have md := newAt_is I3.hok e3
      exact ⟨rv, _, dx, rfl, I3.kIn, ⟨C, CL, fi, xi, md⟩, throw_okS (I3.untrack e3 ap.old) md ⟨dropH_same, ap.old, ap.loc, ap.cell, ap.pin⟩ q3⟩
    | next => exact False.elim hq'
    | brk => exact False.elim hq'
    | cont => exact False.elim hq'
theorem Fun.okS {x : Str} {st : Stmt} {fd : FuncData} {N ps : List Str} {k : Nat} {sp : Sp} (F : Fun K x qual st f fd) (S : FnScope N ps (defScope st)) (len : ∀ vs H Q E, sp vs H Q E → vs.length = ps.length)
    (hbody : ∀ (cdv : Value) (A : Around) (outer : List Env) (s : Shared) (H : Hp) (vs : List V) (Q : VK) (E : XK), Room k (A.deeper (envOfC qual (defScope st) s.heap.objs.size f cdv)) → sp vs H Q E →
      ∃ t, PSs (cxS P w K mg base N qual (defScope st) f cdv A outer s H E) (defBody st) t ∧ t { nx := fun _ H' => Q .non H', rt := Q } (start N vs) H) : FnOk P w K mg base (CXS P w) (k + 1) f fd ps sp := by
  obtain ⟨oc, od, kV, doc, pm, an, cdv, ct, osl, rfl, lk, hcd⟩ := F.ex
  exact fn_of lk hcd S len fun A outer s H vs Q E hr hsp => hbody cdv A outer s H vs Q E hr hsp
end
def XPS (X : Cx) (pins : List (Addr × Obj)) (σ : St) (E : XK) (e : Value) (s' : Shared) : Prop := ∃ ea T cls dx H', e = .ref ea ∧ Inv X pins σ H' s' ∧ Apart X pins H' ea ∧ Apart X pins H' T ∧ Fly s'.heap ea T cls dx ∧ CtxIs s'.heap ea .none ∧ E cls dx H'
def PXS (X : Cx) (e : Expr) (t : XK → TE) : Prop :=
  ∀ (pins : List (Addr × Obj)) (s : Shared) (σ : St) (H : Hp) (Q : VK) (E : XK), Inv X pins σ H s → t E σ H Q → wpAny (model X.prog X.w) X.A (eval e X.env) (EP X pins σ Q) (XPS X pins σ E) s
def PBS (X : Cx) (sts : List Stmt) (t : XK → TS) : Prop :=
  ∀ (pins : List (Addr × Obj)) (s : Shared) (σ : St) (H : Hp) (D : Ends) (E : XK), Inv X pins σ H s → t E D σ H → wpAny (model X.prog X.w) X.A (execs sts X.env) (SP X pins D) (XPS X pins σ E) s
section
variable {X : Cx} {k : Nat} {f C : Addr} {fd : FuncData} {ps : List Str} {sp : Sp} {dvs : List V} {ds : List Value} {x m : Str} {p pos apos : Pos} {e o : Expr} {es : List Expr} {ta : TE} {t : TA}
theorem xp_ofS (hx : X.ex = []) {pins : List (Addr × Obj)} {σ : St} {H : Hp} {s s' : Shared} {E : XK} {ev : Value} (I : Inv X pins σ H s) (h : CXS X.prog X.w X.stack H s E ev s') : XPS X pins σ E ev s' := by
  obtain ⟨ea, T, cls, dx, H', rfl, h1, h2, h3, h4, h5, h6, h7, h8, h9, hc, h10⟩ := h
  have a1 := I.apart hx h7
  have a2 := I.apart hx h8
  exact ⟨ea, T, cls, dx, H', rfl, I.call' h1 h3 h4 h2 (by intro b hb; cases hb), ⟨h5, a1.old, a1.loc, a1.cell, a1.pin⟩, ⟨h6, a2.old, a2.loc, a2.cell, a2.pin⟩, h9, hc, h10⟩
theorem run_fnXS (hx : X.ex = []) {pins : List (Addr × Obj)} {σ : St} {H : Hp} {s : Shared} {Q : VK} {E : XK} {us : List Value} {vs : List V} (F : FnOk X.prog X.w X.K X.mg X.base (CXS X.prog X.w) k f fd ps sp) (hr : Room k X.A) (hb : Binds X.K fd ps ds) (hd : Vals dvs ds)
    (I : Inv X pins σ H s) (r : Vals vs us) (h : sp (vs ++ dvs) H Q E) : wpAny (model X.prog X.w) X.A (call (.ref f) us) (EP X pins σ Q) (XPS X pins σ E) s := by
  have r2 : Vals (vs ++ dvs) (us ++ ds) := r.append hd
  have hl : (us ++ ds).length = ps.length := by rw [← r2.length]; exact F.len _ _ _ _ h
  refine wpAny_call (codeAny_mono (F.run X.A X.stack s H ⟨us, []⟩ (us ++ ds) (vs ++ dvs) Q E hr I.env0 (hb s us I.kIn hl) r2 h) fun rr s' hq => ?_)
  cases rr with
  | error ev => exact xp_ofS hx I hq
  | ok fl =>
    cases fl with
    | ret u => exact I.after hq
    | next => exact False.elim hq
    | brk => exact False.elim hq
    | cont => exact False.elim hq
theorem px_callS (hx : X.ex = []) (F : FnOk X.prog X.w X.K X.mg X.base (CXS X.prog X.w) k f fd ps sp) (hr : Room k X.A) (hg : Gl X x) (hm : X.mg x = some (.ref f)) (hk : PySem.W.keepIn X.K (.ref f) = true) (hb : Binds X.K fd ps ds) (hd : Vals dvs ds)
    (ha : ∀ E, PA (X.wish E) (e :: es) t) (hdb : (x == ("__debug__" : Str)) = false := by decide) (he : starEach (e :: es) X.env = (false, eval e X.env) :: starEach es X.env := by rfl) (hpl : (backTo pos (starEach es X.env)).any (·.1) = false := by rfl) :
    PXS X (.Call (.Name x p) (e :: es) [] pos) (fun E => tCall sp dvs E t) := by
  intro pins s σ H Q E I h
  refine wpAny_Call_Name_kw (ld_glob I hg hm ?_ hdb)
  refine PySem.W.callWith_K (h₀ := X.base) I.ok.mod.kin hk (thn (ha (XPS X pins σ E) pos pins s σ H _ (I.wish _) h) fun us s1 ⟨vs, H1, I1, r, q⟩ => ⟨I1.unwish.kIn, ?_⟩) he hpl
  exact run_fnXS hx F hr hb hd I1.unwish r q
theorem pb_exprS {te : XK → TE} (h : PXS X e te) (hs : swapsWith e none pos.line X.env = pure false := by rfl) : PBS X [.Expr e pos] (fun E => tDrop (te E)) := by
  intro pins s σ H D E I hw
  refine wpAny_execs_cons (wpAny_Expr_any (thn (h pins s σ H _ E I hw) fun v s1 ⟨y, H1, I1, r1, q1⟩ => ?_) I.quiet hs)
  exact wpAny_execs_nil ⟨σ, H1, I1, q1⟩
end
end L2
set_option maxRecDepth 100000
set_option maxHeartbeats 1600000
namespace L2
open PySem PySem.Spec PyProof.Rows
def MadeW (h : Heap) (ea : Addr) (cls : Value) (dx : Option Addr) : Prop := ∃ oe vs a0, h.get? ea = some oe ∧ oe.cls = cls ∧ oe.dict = dx ∧ oe.data = .fields vs ∧ vs[0]? = some a0 ∧ vs[1]? = some .none
theorem entry_unchain : entryFor table "proto.unchain" = some Builtin.«proto.unchain» := entryFor_of_tree (by kernel_rfl)
section
variable {prog : Program} {w : World} {A : Around} {E : Value → Shared → Prop} {s : Shared} {K : PySem.W.Frag} {ea : Addr}
theorem unchain_none {e : Value} {Q : Value → Shared → Prop} (hc : CtxIs s.heap ea .none) (h : Q .none s) : wpAny (model prog w) A (runValue (.builtin "proto.unchain" ⟨[e, .ref ea, .ref ea, .bool false], []⟩)) Q E s := by
  obtain ⟨oe, vs, e1, e2, e3⟩ := hc
  refine wpAny_runValue (codeAny_builtin entry_unchain ?_)
  unfold Builtin.«proto.unchain»
  refine wpAny_bind (wpAny_field e1 e2 e3 ?_)
  rw [if_pos (by decide)]
  exact wpAny_bind (m := (ret Value.none : Sem Fin)) (wpAny_pure (wpAny_pure h))
theorem raise_ctx {α : Type} {e : Addr} {oe : Obj} {vs : Array Value} {Q : α → Shared → Prop} (hh : A.handled = some (.ref ea)) (ne : e ≠ ea) (hc : CtxIs s.heap ea .none) (e1 : s.heap.get? e = some oe) (e2 : oe.data = .fields vs) (e3 : 2 < vs.size)
    (h : E (.ref e) { s with heap := s.heap.update e (Obj.mapFields (·.setIfInBounds 2 (.ref ea))) }) : wpAny (model prog w) A (raiseNew (.ref e) : Sem α) Q E s := by
  unfold raiseNew
  refine wpAny_bind (wpAny_handled ?_)
  rw [hh]
  dsimp only
  have nb : ((Value.ref ea : Value) != .ref e) = true := by
    rw [bne_iff_ne]
    intro z
    cases z
    exact ne rfl
  rw [if_pos nb]
  refine wpAny_bind (wpAny_holding (unchain_none hc ?_))
  refine wpAny_bind (show wpAny _ _ (setField (.ref e) 2 (.ref ea)) _ _ _ from wpAny_setField e1 e2 e3 (wpAny_throw h))
theorem raise_from {env : Env} {t c : Sem Value} {pos : Pos} {Q : Flow → Shared → Prop} (hh : A.handled = some (.ref ea))
    (h : wpAny (model prog w) A t (fun v s1 => ∃ e, v = .ref e ∧ wpAny (model prog w) A c (fun cv s2 => cv = .ref ea ∧ e ≠ ea ∧ K.In s2.heap ∧ ∃ C CL f dx C1 CL1 f1, XInit K C CL f ∧ XInit K C1 CL1 f1 ∧ Made s2.heap e (.ref C) dx ∧ CtxIs s2.heap ea .none ∧ (∃ oe, s2.heap.get? ea = some oe ∧ oe.cls = .ref C1) ∧
      ∀ h', MadeW h' e (.ref C) dx → (∀ b, b ≠ e → h'.get? b = s2.heap.get? b) → E (.ref e) { s2 with heap := h' }) E s1) E s) :
    wpAny (model prog w) A (raiseStmt env (some (do let v ← t; standAt pos; pure v)) (some (do let v ← c; standAt pos; pure v))) Q E s := by
  unfold raiseStmt
  refine wpAny_bind (wpAny_bind (wpAny_mono h (fun v s1 z => wpAny_bind (wpAny_standAt (wpAny_pure ?_))) fun _ _ z => z))
  obtain ⟨e, rfl, h2⟩ := z
  dsimp only
  refine wpAny_bind (wpAny_holding (wpAny_bind (wpAny_mono h2 (fun cv s2 z => wpAny_bind (wpAny_standAt (wpAny_pure (wpAny_bind (wpAny_pure ?_))))) fun _ _ z => z)))
  obtain ⟨rfl, ne, kin, C, CL, f, dx, C1, CL1, f1, x, x1, md, hc, ⟨o1, g1, g2⟩, hE⟩ := z
  obtain ⟨nm, qn, N, bs, hdct, sn, sub, ab, col, dd, k0, k1, k2, k3, k5, hCl, tl⟩ := x.here kin
  obtain ⟨nm', qn', N', bs', hdct', sn', sub', ab', col', dd', j0, j1, j2, j3, j5, hCl1, tl1⟩ := x1.here kin
  obtain ⟨oe, vs, a0, e1, e2, e3, e4, e5, e6, e7, e8⟩ := md
  obtain ⟨s1h, s1g, s1d, s1t, s1o⟩ := s2
  cases oe with
  | mk c1 c2 c3 c4 =>
  cases o1 with
  | mk b1 b2 b3 b4 =>
    dsimp only at e2 e3 e4 g2 e1 g1 hCl hCl1 hc hE
    subst e2 e3 e4 g2
    obtain ⟨oc, vc, q1, q2, q3⟩ := id hc
    rw [g1] at q1
    cases q1
    dsimp only at q2
    subst q2
    have isB : (Value.ref C :: .ref CL :: veMro).contains (.type "BaseException") = true := by
      rw [List.contains_cons, List.contains_cons]
      rfl
    have isB1 : (Value.ref C1 :: .ref CL1 :: veMro).contains (.type "BaseException") = true := by
      rw [List.contains_cons, List.contains_cons]
      rfl
    repeat (first | with_reducible refine wpAny_loadPart_at e1 ?_ | with_reducible refine wpAny_loadPart_at g1 ?_ | with_reducible refine wpAny_loadPart_at hCl ?_ | with_reducible refine wpAny_loadPart_at hCl1 ?_ | (with_reducible refine wpAny_isSubtype_exc hCl ?_; rw [isB]) | (with_reducible refine wpAny_isSubtype_exc hCl1 ?_; rw [isB1]) | wp_step)
    rw [if_pos (by omega)]
    refine wpAny_update e1 ?_
    have neC : C ≠ e := fun z => by rw [z, e1] at hCl; cases hCl
    have e1' : (s1h.update e (Obj.mapFields fun x => x.setIfInBounds 3 (Value.ref ea))).get? e = some { cls := Value.ref C, dict := c2, data := Data.fields (vs.setIfInBounds 3 (Value.ref ea)), slots := c4 } := Heap.get?_update_self _ e1 rfl
    have oth : ∀ b, b ≠ e → (s1h.update e (Obj.mapFields fun x => x.setIfInBounds 3 (Value.ref ea))).get? b = s1h.get? b := fun b n => Heap.get?_update_other _ _ (Ne.symm n)
    have f5 : (vs.setIfInBounds 3 (Value.ref ea))[0]? = some a0 := by rw [Array.getElem?_setIfInBounds_ne (by decide)]; exact e5
    have f6 : (vs.setIfInBounds 3 (Value.ref ea))[1]? = some .none := by rw [Array.getElem?_setIfInBounds_ne (by decide)]; exact e6
    have f8 : 4 < (vs.setIfInBounds 3 (Value.ref ea)).size := by rw [Array.size_setIfInBounds]; exact e8
    generalize s1h.update e (Obj.mapFields fun x => x.setIfInBounds 3 (Value.ref ea)) = h3 at e1' oth ⊢
    generalize vs.setIfInBounds 3 (Value.ref ea) = vs3 at e1' f5 f6 f8
    have g1' := (oth ea (Ne.symm ne)).trans g1
    have hCl' := (oth C neC).trans hCl
    dsimp only
    repeat (first | with_reducible refine wpAny_loadPart_at e1' ?_ | with_reducible refine wpAny_loadPart_at hCl' ?_ | (with_reducible refine wpAny_isSubtype_exc hCl' ?_; rw [isB]) | wp_step)
    dsimp only
    have e1'' : (h3.update e (Obj.mapFields fun x => x.setIfInBounds 4 (Value.bool true))).get? e = some { cls := Value.ref C, dict := c2, data := Data.fields (vs3.setIfInBounds 4 (Value.bool true)), slots := c4 } := Heap.get?_update_self _ e1' rfl
    have oth2 : ∀ b, b ≠ e → (h3.update e (Obj.mapFields fun x => x.setIfInBounds 4 (Value.bool true))).get? b = h3.get? b := fun b n => Heap.get?_update_other _ _ (Ne.symm n)
    have f5' : (vs3.setIfInBounds 4 (Value.bool true))[0]? = some a0 := by rw [Array.getElem?_setIfInBounds_ne (by decide)]; exact f5
    have f6' : (vs3.setIfInBounds 4 (Value.bool true))[1]? = some .none := by rw [Array.getElem?_setIfInBounds_ne (by decide)]; exact f6
    have f8' : 4 < (vs3.setIfInBounds 4 (Value.bool true)).size := by rw [Array.size_setIfInBounds]; exact f8
    generalize h3.update e (Obj.mapFields fun x => x.setIfInBounds 4 (Value.bool true)) = h4 at e1'' oth2 ⊢
    generalize vs3.setIfInBounds 4 (Value.bool true) = vs4 at e1'' f5' f6' f8' ⊢
    have g1'' := (oth2 ea (Ne.symm ne)).trans g1'
    rw [f6']
    refine wpAny_pure ?_
    rw [if_neg (by decide)]
    refine wpAny_pure ?_
    have sz : 2 < vs4.size := by omega
    refine raise_ctx hh ne ⟨_, _, g1'', rfl, q3⟩ e1'' rfl sz ?_
    refine hE _ ⟨_, _, a0, Heap.get?_update_self _ e1'' rfl, rfl, rfl, rfl, ?_, ?_⟩ fun b n => ?_
    · show (vs4.setIfInBounds 2 (Value.ref ea))[0]? = some a0
      rw [Array.getElem?_setIfInBounds_ne (by decide)]; exact f5'
    · show (vs4.setIfInBounds 2 (Value.ref ea))[1]? = some .none
      rw [Array.getElem?_setIfInBounds_ne (by decide)]; exact f6'
    · rw [Heap.get?_update_other _ _ (Ne.symm n)]
      exact (oth2 b n).trans (oth b n)
end
section
variable {M : Model} {A : Around} {E : Value → Shared → Prop} {s : Shared} {env : Env} {outer : List Env} {base : Heap} {L ea T : Addr} {cls fl : Value} {dx : Option Addr} {Q : Unit → Shared → Prop}
theorem note_newW (hfr : A.frames = some (env :: outer)) (hl : s.heap.FunFrames base (env :: outer)) (hf : env.frame = some L) (m : MadeW s.heap ea cls dx)
    (h : ∀ h' T', FlyAt h' ea T' cls dx (rawInt L) → s.heap.get? T' = none → Moved s.heap h' (frs (env :: outer)) [ea] → Q () { s with heap := h' }) : wpAny M A (noteFrame (.ref ea) env) Q E s := by
  obtain ⟨oe, vs, a0, e1, e2, e3, e4, e5, e6⟩ := m
  unfold noteFrame
  simp only [hf]
  refine wpAny_bind (wpAny_field e1 e4 e6 ?_)
  rw [if_neg (by decide)]
  exact entry_on hfr hl hf e1 e2 e3 e4 e5 (Array.getElem?_eq_some_iff.mp e6).1 h
theorem FlyAt.keepF {h h' : Heap} (m : FlyAt h ea T cls dx fl) (k1 : h'.get? ea = h.get? ea) (k2 : h'.get? T = h.get? T) : FlyAt h' ea T cls dx fl := by
  obtain ⟨oe, vs, oT, ts, a0, e1, e2, e3, e4, e5, e6, e7, e8, e9, e10⟩ := m
  exact ⟨oe, vs, oT, ts, a0, k1.trans e1, e2, e3, e4, e5, e6, e7, k2.trans e8, e9, e10⟩
theorem flight_on (m : FlyAt s.heap ea T cls dx fl) (h : ∀ h', FlyAt h' ea T cls dx (rawInt L) → (∀ b, b ≠ T → h'.get? b = s.heap.get? b) → Q () { s with heap := h' }) : wpAny M A (setFlight (.ref ea) (some L)) Q E s := by
  obtain ⟨oe, vs, oT, ts, a0, e1, e2, e3, e4, e5, e6, e7, e8, e9, e10⟩ := m
  have sz : 3 < ts.size := (Array.getElem?_eq_some_iff.mp e10).1
  unfold setFlight
  refine wpAny_bind (wpAny_field e1 e4 e6 ?_)
  rw [if_pos (by simp)]
  have oth : ∀ b, b ≠ T → (s.heap.update T (Obj.mapFields (·.setIfInBounds 3 (rawInt L)))).get? b = s.heap.get? b := fun b n => Heap.get?_update_other _ _ (Ne.symm n)
  refine wpAny_setField e8 e9 sz (h _ ⟨oe, vs, _, _, a0, (oth ea (Ne.symm e7)).trans e1, e2, e3, e4, e5, e6, e7, Heap.get?_update_self _ e8 (Obj.isFreed_of_fields (Obj.data_mapFields e9 _)), Obj.data_mapFields e9 _, by simp [sz]⟩ oth)
theorem note_same (hf : env.frame = some L) (m : FlyAt s.heap ea T cls dx (rawInt L)) (h : Q () s) : wpAny M A (noteFrame (.ref ea) env) Q E s := by
  obtain ⟨oe, vs, oT, ts, a0, e1, e2, e3, e4, e5, e6, e7, e8, e9, e10⟩ := m
  unfold noteFrame
  simp only [hf]
  refine wpAny_bind (wpAny_field e1 e4 e6 ?_)
  rw [if_pos (by simp)]
  refine wpAny_bind (wpAny_field e8 e9 e10 ?_)
  rw [if_pos (by simp)]
  exact wpAny_pure h
theorem pass_on {α : Type} {what : String} {R : α → Shared → Prop} (hf : env.frame = some L) (m : FlyAt s.heap ea T cls dx fl) (h : ∀ h', FlyAt h' ea T cls dx (rawInt L) → (∀ b, b ≠ T → h'.get? b = s.heap.get? b) → E (.ref ea) { s with heap := h' }) : wpAny M A (PySem.passOn what (.ref ea) env : Sem α) R E s := by
  obtain ⟨oe, vs, oT, ts, a0, e1, e2, e3, e4, e5, e6, e7, e8, e9, e10⟩ := id m
  unfold PySem.passOn
  refine wpAny_bind (wpAny_field e1 e4 e6 ?_)
  rw [if_neg (by simp), hf]
  exact wpAny_bind (flight_on m fun h' f1 f2 => wpAny_throw (h h' f1 f2))
theorem came_back (hf : env.frame = some L) (m : FlyAt s.heap ea T cls dx fl) (h : ∀ h', FlyAt h' ea T cls dx (rawInt L) → (∀ b, b ≠ T → h'.get? b = s.heap.get? b) → E (.ref ea) { s with heap := h' }) : cameBackBy M A env E (.ref ea) s := by
  obtain ⟨oe, vs, oT, ts, a0, e1, e2, e3, e4, e5, e6, e7, e8, e9, e10⟩ := id m
  unfold cameBackBy
  refine wpAny_bind (wpAny_field e1 e4 e6 ?_)
  rw [if_neg (by simp), hf]
  exact flight_on m fun h' f1 f2 => h h' f1 f2
end
section
variable {X : Cx} {pins : List (Addr × Obj)} {σ : St} {H : Hp} {s : Shared} {ea : Addr}
theorem name_goesF {M : Model} {A : Around} {E : Value → Shared → Prop} {i : Nat} {n : Str} {pos : Pos} {Q : Unit → Shared → Prop} (I : Inv X pins σ H s) (hN : X.N.Nodup) (hi : X.N[i]? = some n) (hl : X.env.scope.names.lookup n = some .local)
    (h : ∀ s', Inv X pins (σ.set i none) H s' → (∀ b, b ≠ X.env.locals → s'.heap.get? b = s.heap.get? b) → Q () s') : wpAny M A (do bindName X.env n .none; unbindBehindTheSuite X.env n pos) Q E s := by
  obtain ⟨m, hn, hloc⟩ := I.loc
  refine wpAny_nameGoes_keeps hl hn (by rw [I.ok.kind]; rfl) fun h' v hn' hs => h _ ?_ hs.2
  have keep : ∀ b o, b ≠ X.env.locals → s.heap.get? b = some o → h'.get? b = some o := fun b o ne e => (hs.2 b ne).trans e
  have neL : ∀ b o, X.s₀.heap.get? b = some o → b ≠ X.env.locals := fun b o e => Nat.ne_of_lt (Nat.lt_of_lt_of_le (Heap.lt_size e) I.ok.above)
  have lL : ∃ o, h'.get? X.env.locals = some o := by obtain ⟨o, _, _, ho, _⟩ := hn'; exact ⟨o, ho⟩
  refine ⟨I.ok, I.os, I.bare, ⟨fun b o e n1 hb hx => keep b o (neL b o e) (I.base.keep b o e n1 hb hx), fun b o e n1 hb hx => ?_, I.base.free, fun b o e hx => ?_, I.base.tups, I.base.frzs, I.base.tbls⟩, ⟨_, hn', fun j y v' e1 e2 e3 => ?_⟩, fun x c e => ?_, I.free, I.freeC, fun p hp => ?_, fun b u e => ?_, by rw [List.length_set]; exact I.len⟩
  · obtain ⟨sl, q⟩ := I.base.slot b o e n1 hb hx
    exact ⟨sl, keep b _ (neL b o e) q⟩
  · obtain ⟨o', q⟩ := I.base.there b o e hx
    exact ⟨o', keep b _ (neL b o e) q⟩
  · have hj : j ≠ i := fun z => by
      subst z
      by_cases hlt : j < σ.length
      · rw [List.getElem?_set_self hlt] at e2; cases e2
      · rw [List.getElem?_eq_none (by rw [List.length_set]; omega)] at e2; cases e2
    rw [List.getElem?_set_ne (Ne.symm hj)] at e2
    obtain ⟨u, r, q⟩ := hloc j y v' e1 e2 e3
    refine ⟨u, r, ?_⟩
    rcases q with ⟨k, e⟩ | ⟨k, c, e, z⟩
    · have ny : y ≠ n := fun z => hj (nodup_ix hN e1 (z ▸ hi))
      exact .inl ⟨k, by simp [ny, e]⟩
    · exact .inr ⟨k, c, e, z.sameBut hs (I.cne y c e)⟩
  · obtain ⟨v', z⟩ := I.cell x c e
    exact ⟨v', z.sameBut hs (I.cne x c e)⟩
  · obtain ⟨q1, q2, q3, q4⟩ := I.pin p hp
    exact ⟨keep _ _ q3 q1, q2, q3, q4⟩
  · have nL : ∀ c v, H c = some v → c ≠ X.env.locals := fun c v q => ne_of_none q I.free
    refine (I.hok b u e).stay (fun c v hc q => keep c v ?_ q) (fun _ q => q) fun _ _ q => q
    rcases hc with rfl | hc
    · exact nL c u e
    · exact nL c _ hc
end
def excAtC (ea : Addr) (cls : Value) (dx : Option Addr) : HO := .ext fun h => ∃ oe vs, h.get? ea = some oe ∧ oe.cls = cls ∧ oe.dict = dx ∧ oe.data = .fields vs ∧ vs[2]? = some .none
theorem excAtC_ok {P : Program} {w : World} {H : Hp} {g : Heap} {ea : Addr} {cls : Value} {dx : Option Addr} (m : ∃ oe vs, g.get? ea = some oe ∧ oe.cls = cls ∧ oe.dict = dx ∧ oe.data = .fields vs ∧ vs[2]? = some .none) : ObjOk P w H g ea (excAtC ea cls dx) := by
  obtain ⟨oe, vs, e1, e2⟩ := id m
  exact ⟨m, ⟨oe, e1⟩, fun h1 h2 ⟨o1, v1, q1, q2⟩ k => ⟨o1, v1, k _ q1, q2⟩⟩
section
variable {P : Program} {w : World} {K : PySem.W.Frag} {mg : Str → Option Value} {base : Heap} {N : List Str} {qual : Str} {scope : Scope} {f : Addr} {cd : Value} {A : Around} {outer : List Env} {s₀ : Shared} {H₀ : Hp} {E : XK}
theorem throw_flown {pins : List (Addr × Obj)} {σ : St} {H : Hp} {s : Shared} {ea T : Addr} {cls : Value} {dx : Option Addr} (I : Inv (cxE P w K mg base N qual scope f cd A outer s₀ H₀ E) pins σ H s) (m : FlyAt s.heap ea T cls dx (rawInt (cxE P w K mg base N qual scope f cd A outer s₀ H₀ E).env.locals))
    (a : Apart (cxE P w K mg base N qual scope f cd A outer s₀ H₀ E) pins H ea) (aT : Apart (cxE P w K mg base N qual scope f cd A outer s₀ H₀ E) pins H T) (e : E cls dx H) : (cxE P w K mg base N qual scope f cd A outer s₀ H₀ E).xe (.ref ea) s := by
  show wpAny _ _ (leaving _ _) _ _ _
  unfold leaving
  refine wpAny_bind (note_same rfl m (flight_off m fun h' fl f5 => ?_))
  have I' := I.moved' (Moved.one f5) fun b hb => by rw [List.mem_singleton] at hb; rw [hb]; exact aT
  exact ⟨ea, T, cls, dx, H, rfl, I'.os, I'.bare, I'.base, I'.hok, a.trk, aT.trk, a.old, aT.old, fl, e⟩
def tTryFrom (K : PySem.W.Frag) (C : Value) (i : Nat) (tb : XK → TS) (E : XK) (D : Addr) (sp : Sp) (dvs : List V) (t : TA) : TS := fun Ds σ H =>
  tb (fun cls dx H' => PySem.W.exmOne K cls C = some true ∧ (∃ C1 CL1 f1, cls = .ref C1 ∧ XInit K C1 CL1 f1) ∧ ∀ ea, H' ea = none → t (σ.set i (some (.ref ea))) (upd H' ea (excAtC ea cls dx)) fun vs H1 => vs.length ≤ 1000 ∧ H1 ea = some (excAtC ea cls dx) ∧ ∀ e2, H1 e2 = none →
    sp (.ref e2 :: (vs ++ dvs)) (upd H1 e2 (newAt e2 (.ref D) none)) (fun v H2 => v = .non ∧ H2 ea = some (excAtC ea cls dx) ∧ ∃ dx2, H2 e2 = some (newAt e2 (.ref D) dx2) ∧ E (.ref D) dx2 (dropH H2 e2)) E0) Ds σ H
theorem ev_nameF {X : Cx} {pins : List (Addr × Obj)} {s : Shared} {σ : St} {H : Hp} {i : Nat} {x : Str} {pos : Pos} {v : V} {Q : Value → Shared → Prop} {E : Value → Shared → Prop} (I : Inv X pins σ H s) (hN : X.N[i]? = some x) (hv : Vis X.env.scope x) (e : σ[i]? = some (some v)) (h : ∀ u, RelV v u → Q u s)
    (hd : (x == ("__debug__" : Str)) = false) (hcd : (x == ("__classdict__" : Str)) = false) : wpAny (model X.prog X.w) X.A (eval (.Name x pos) X.env) Q E s := by
  obtain ⟨m, hn, hl⟩ := I.loc
  obtain ⟨u, r, l⟩ := hl i x v hN e hv
  have fin := h u r
  rcases l with ⟨hk, hm⟩ | ⟨hk, c, hc, hcell⟩
  · exact wpAny_Name (wpAny_loadName_local I.ok.kind hk hn hm fin) hd
  · rcases hk with hk | hk
    · exact wpAny_Name (wpAny_loadName_cell I.ok.kind hk hc hcell fin) hd
    · exact wpAny_Name (wpAny_loadName_free I.ok.kind hk hc hcell fin hcd) hd
theorem ps_tryFrom {body : List Stmt} {tb : XK → TS} {cn n x : Str} {C D CL fi : Addr} {i : Nat} {e : Expr} {es : List Expr} {t : TA} {fd : FuncData} {ps : List Str} {sp : Sp} {dvs : List V} {ds : List Value} {k : Nat} {np np2 np3 cpos rpos hpos pos : Pos}
    (hb : PBS (cxE P w K mg base N qual scope f cd A outer s₀ H₀ E) body tb) (hg : Gl (cxE P w K mg base N qual scope f cd A outer s₀ H₀ E) cn) (hm : mg cn = some (.ref C)) (hN : N.Nodup) (hi : N[i]? = some n) (hl : (cxE P w K mg base N qual scope f cd A outer s₀ H₀ E).env.scope.names.lookup n = some .local)
    (xi : XInit K D CL fi) (G : FnH P w K mg base k fi fd ps sp) (hr : Room (k + 1) (cxE P w K mg base N qual scope f cd A outer s₀ H₀ E).A) (hgx : Gl (cxE P w K mg base N qual scope f cd A outer s₀ H₀ E) x) (hmx : mg x = some (.ref D)) (hbd : Binds K fd ps ds) (hd : Vals dvs ds)
    (ha : ∀ ea, PA ((cxE P w K mg base N qual scope f cd A outer s₀ H₀ E).hand ea) (e :: es) t)
    (hdb : (cn == ("__debug__" : Str)) = false := by decide) (hdbx : (x == ("__debug__" : Str)) = false := by decide) (hdn : (n == ("__debug__" : Str)) = false := by decide) (hcn : (n == ("__classdict__" : Str)) = false := by decide)
    (he : starEach (e :: es) (cxE P w K mg base N qual scope f cd A outer s₀ H₀ E).env = (false, eval e (cxE P w K mg base N qual scope f cd A outer s₀ H₀ E).env) :: starEach es (cxE P w K mg base N qual scope f cd A outer s₀ H₀ E).env := by rfl)
    (hpl : (backTo cpos (starEach es (cxE P w K mg base N qual scope f cd A outer s₀ H₀ E).env)).any (·.1) = false := by rfl) :
    PS (cxE P w K mg base N qual scope f cd A outer s₀ H₀ E) (.Try body [.ExceptHandler (some (.Name cn np)) (some n) [.Raise (some (.Call (.Name x np2) (e :: es) [] cpos)) (some (.Name n np3)) rpos] hpos] [] [] pos) (tTryFrom K (.ref C) i tb E D sp dvs t) := by
  intro pins s σ H Ds I h
  refine wpAny_Try_except (wpAny_mono (hb pins s σ H Ds _ I h) (fun fl s1 q => ?_) fun ev s1 z => ?_)
  · cases fl with
    | next =>
      obtain ⟨σ', H', I', q⟩ := q
      exact wpAny_execs_nil ⟨σ', H', I', q⟩
    | ret v => exact q
    | brk => exact q
    | cont => exact q
  obtain ⟨ea, T, cls, dx, H1, rfl, I1, a1, a2, fly, ctx, hcl, ⟨C1, CL1, f1, rfl, x1⟩, hsu⟩ := z
  have two : ∀ {T : Addr}, Apart (cxE P w K mg base N qual scope f cd A outer s₀ H₀ E) pins H1 T → ∀ b ∈ [ea, T], Apart (cxE P w K mg base N qual scope f cd A outer s₀ H₀ E) pins H1 b := fun {T} aT b hb => by
    rcases List.mem_cons.mp hb with e | hb
    · subst e; exact a1
    · rw [List.mem_singleton] at hb; subst hb; exact aT
  refine look_onC (base := base) (outer := outer) I1.ok.frames I1.stack rfl fly ctx fun h2 T2 fly2 ctx2 nT2 mv2 => ?_
  have I2 := I1.moved' mv2 (two a2)
  have aT2 : Apart (cxE P w K mg base N qual scope f cd A outer s₀ H₀ E) pins H1 T2 := I1.apart rfl nT2
  obtain ⟨oe, vs, oT, tvs, a0, e1, e2, e3, e4, _⟩ := id fly2
  have LT : PySem.W.Looks (model P w) ({ s1 with heap := h2 } : Shared).heap (typeOf (.ref ea)) (.ref C1) := by
    rw [← e2]
    exact (PySem.W.Looks.ld e1).andThen .now
  refine wpAny_handleBy_cons (codeAny_handlers_test ?_) (by intro q; cases q)
  refine ld_glob (X := (cxE P w K mg base N qual scope f cd A outer s₀ H₀ E).hand ea) (I2.hand ea) hg hm ?_ hdb
  refine (PySem.W.exm_one I2.kIn LT hcl).here ?_
  refine codeAny_handlers_suite_as ?_
  refine flight_off (s := { s1 with heap := h2 }) fly2 fun h3 fly3 same => ?_
  have I3 := I2.moved' (Moved.one same) fun b hb => by rw [List.mem_singleton] at hb; rw [hb]; exact aT2
  have ctx3 : CtxIs h3 ea .none := ctx2.same (same ea fly2.ne.symm)
  have ok3 : ∃ oe vs, h3.get? ea = some oe ∧ oe.cls = .ref C1 ∧ oe.dict = dx ∧ oe.data = .fields vs ∧ vs[2]? = some .none := by
    obtain ⟨oe3, vs3, _, _, _, f1, f2, f3, f4, _⟩ := id fly3
    obtain ⟨oe', vs', k1, k2, k3⟩ := ctx3
    rw [f1] at k1
    cases k1
    rw [f4] at k2
    cases k2
    exact ⟨_, _, f1, f2, f3, f4, k3⟩
  have I4 := I3.trackO a1 (excAtC_ok ok3)
  refine store_ok (X := (cxE P w K mg base N qual scope f cd A outer s₀ H₀ E).hand ea) (v := .ref ea) (I4.hand ea) hN hi (.inl hl) rfl (fun s5 I5 => ?_) (.inr hl)
  have okX := I.ok
  refine wpAny_execs_cons ?_
  rw [arm_exec_Raise]
  refine wpAny_bind (wpAny_standAt ?_)
  refine raise_from (K := K) (ea := ea) rfl ?_
  refine wpAny_Call_Name_kw (ld_glob (X := (cxE P w K mg base N qual scope f cd A outer s₀ H₀ E).hand ea) I5 hgx hmx ?_ hdbx)
  refine PySem.W.callWith_K (h₀ := base) I5.ok.mod.kin xi.kp (wpAny_mono (ha ea cpos pins s5 _ _ _ I5 (hsu ea a1.trk)) (fun us s6 ⟨vs, H6, I6, r, hlen, hea6, q⟩ => ⟨I6.kIn, ?_⟩) fun _ _ z => z.elim) he hpl
  have nw : s6.heap.get? (s6.heap.objs.size + 1) = none := Heap.get?_none_of_le (Nat.le_succ _)
  have hq := q _ (I6.hok.none_of nw)
  have J6 := I6.unhand okX
  have ap := J6.apart rfl nw
  have I7 := I6.madeX (C := D) us
  have J7 := J6.madeX (C := D) us
  have r2 : Vals (V.ref (s6.heap.objs.size + 1) :: (vs ++ dvs)) (Value.ref (s6.heap.objs.size + 1) :: (us ++ ds)) := .cons rfl (r.append hd)
  have hl2 : (Value.ref (s6.heap.objs.size + 1) :: us ++ ds).length = ps.length := by
    have e := r2.length
    rw [G.len _ _ _ _ hq] at e
    exact e.symm
  have ne : s6.heap.objs.size + 1 ≠ ea := (ne_of_none hea6 (I6.hok.none_of nw)).symm
  refine wpAny_call (make_exc I6.kIn xi (by show us.length ≤ sizeLine; rw [← r.length]; exact le_line hlen) (codeAny_mono (G.run ((cxE P w K mg base N qual scope f cd A outer s₀ H₀ E).A.under (.builtin "type.__call__" ⟨.ref D :: us, []⟩)) ea _ _ _ ⟨Value.ref (s6.heap.objs.size + 1) :: us, []⟩ (Value.ref (s6.heap.objs.size + 1) :: (us ++ ds)) _ _ (hr.make D us [])
    (J7.env0.make D us []) (hbd _ (Value.ref (s6.heap.objs.size + 1) :: us) I7.kIn hl2) r2 hq) fun rr s' hq' => ?_))
  cases rr with
  | error ev => exact hq'.elim
  | ok fl =>
    cases fl with
    | next => exact hq'.elim
    | brk => exact hq'.elim
    | cont => exact hq'.elim
    | ret u =>
      obtain ⟨v, H8, I8, rv, ev, hea8, dx2, e8, q8⟩ := I7.after hq'
      subst ev
      have md := newAt_is I8.hok e8
      refine ⟨rv, _, rfl, ?_⟩
      have hil : i < σ.length := by
        rw [I1.len]
        exact (List.getElem?_eq_some_iff.mp hi).1
      refine ev_nameF I8 hi (.inl hl) (List.getElem?_set_self hil) (fun u ru => ?_) hdn hcn
      cases ru
      obtain ⟨⟨oe8, vs8, g1, g2, g3, g4, g5⟩, _, _⟩ := I8.hok _ _ hea8
      refine ⟨rfl, ne, I8.kIn, D, CL, fi, dx2, C1, CL1, f1, xi, x1, md, ⟨oe8, vs8, g1, g4, g5⟩, ⟨oe8, g1, g2⟩, fun h9 mw oth => ?_⟩
      have I9 := (I8.unhand okX).untrack e8 ap.old
      have ap9 : Apart (cxE P w K mg base N qual scope f cd A outer s₀ H₀ E) pins (dropH H8 (s6.heap.objs.size + 1)) (s6.heap.objs.size + 1) := ⟨dropH_same, ap.old, ap.loc, ap.cell, ap.pin⟩
      have I10 := I9.moved' (Moved.one oth) fun b hb => by rw [List.mem_singleton] at hb; rw [hb]; exact ap9
      refine note_newW (base := base) (outer := outer) I10.ok.frames I10.stack rfl mw fun h11 T11 fly11 nT11 mv11 => ?_
      have aT := I10.apart rfl nT11
      have I11 := I10.moved' mv11 fun b hb => by rw [List.mem_singleton] at hb; rw [hb]; exact ap9
      refine name_goesF I11 hN hi hl fun s12 I12 keep => ?_
      have fly12 := fly11.keepF (keep _ ap9.loc) (keep _ aT.loc)
      refine pass_on rfl fly12 fun h13 fly13 oth13 => ?_
      have I13 := I12.moved' (Moved.one oth13) fun b hb => by rw [List.mem_singleton] at hb; rw [hb]; exact aT
      refine note_same rfl fly13 ?_
      refine came_back rfl fly13 fun h14 fly14 oth14 => ?_
      have I14 := I13.moved' (Moved.one oth14) fun b hb => by rw [List.mem_singleton] at hb; rw [hb]; exact aT
      exact throw_flown I14 fly14 ap9 aT q8
end
end L2
set_option maxRecDepth 100000
set_option maxHeartbeats 1600000
namespace L2
open PySem PySem.Spec PyProof.Rows LS
section
variable {X : Cx} {k : Nat} {f C : Addr} {fd : FuncData} {ps : List Str} {sp : Sp} {dvs : List V} {ds : List Value} {x : Str} {p pos : Pos} {e : Expr} {es : List Expr} {t : TA}
theorem px_make (hx : X.ex = []) (M : Mk X.K C f) (F : FnOk X.prog X.w X.K X.mg X.base (CXE X.prog X.w) k f fd ps sp) (hr : Room (k + 1) X.A) (hg : Gl X x) (hm : X.mg x = some (.ref C)) (hb : Binds X.K fd ps ds) (hd : Vals dvs ds)
    (ha : ∀ E, PA (X.wish E) (e :: es) t) (hdb : (x == ("__debug__" : Str)) = false := by decide) (he : starEach (e :: es) X.env = (false, eval e X.env) :: starEach es X.env := by rfl) (hpl : (backTo pos (starEach es X.env)).any (·.1) = false := by rfl) :
    PX X (.Call (.Name x p) (e :: es) [] pos) (fun E => tMake C sp dvs E t) := by
  intro pins s σ H Q E I h
  refine wpAny_Call_Name_kw (ld_glob I hg hm ?_ hdb)
  refine PySem.W.callWith_K (h₀ := X.base) I.ok.mod.kin M.kp (thn (ha (XP X pins σ E) pos pins s σ H _ (I.wish _) h) fun us s1 ⟨vs, H1, I1, r, q⟩ => ⟨I1.unwish.kIn, ?_⟩) he hpl
  have I0 := I1.unwish
  have hq := q (s1.heap.objs.size + 1) s1.heap.objs.size (I0.hok.fresh (Nat.le_succ _)) (I0.hok.fresh (Nat.le_refl _)) (Nat.ne_of_lt (Nat.lt_succ_self _))
  have I2 := Inv.made (C := C) I0
  have r2 : Vals (V.ref (s1.heap.objs.size + 1) :: (vs ++ dvs)) (Value.ref (s1.heap.objs.size + 1) :: (us ++ ds)) := .cons rfl (r.append hd)
  have hl : (Value.ref (s1.heap.objs.size + 1) :: us ++ ds).length = ps.length := by
    have e := r2.length
    rw [F.len _ _ _ _ hq] at e
    exact e.symm
  refine wpAny_call (make_map (f := f) I0.kIn M.makes M.init (beq_iff_eq.mp M.fn) (codeAny_mono (F.run _ X.stack _ _ ⟨Value.ref (s1.heap.objs.size + 1) :: us, []⟩ (Value.ref (s1.heap.objs.size + 1) :: (us ++ ds)) _ _ E (hr.make C us [])
    (I2.env0.make C us []) (hb _ (Value.ref (s1.heap.objs.size + 1) :: us) I2.kIn hl) r2 hq) fun r s' hq' => ?_))
  cases r with
  | error e => exact xp_of hx I2 hq'
  | ok fl =>
    cases fl with
    | ret u =>
      obtain ⟨v, H', I3, rv, ev, q3⟩ := I2.after hq'
      subst ev
      exact ⟨rv, ⟨V.ref (s1.heap.objs.size + 1), H', I3, rfl, q3⟩⟩
    | next => exact False.elim hq'
    | brk => exact False.elim hq'
    | cont => exact False.elim hq'
end
end L2
namespace LS
open PySem PyProof.Rows
section
variable {prog : Program} {w : World} {A : Around} {E : Value → Shared → Prop} {s : Shared}
theorem draw_list {it t : Addr} {items : Array Value} (hne : t ≠ it) : ∀ (n i : Nat) (s : Shared) (Q : List Value → Shared → Prop), s.heap.IsListIter it t i → s.heap.IsList t items → i + n ≤ items.size →
    (∀ h', h'.IsListIter it t (i + n) → Heap.SameBut it s.heap h' → Q ((items.toList.drop i).take n) { s with heap := h' }) → wpAny (model prog w) A (draw (.ref it) n) Q E s
  | 0, i, s, Q, hit, _, _, hQ => by
    show wpAny _ _ (pure []) Q E s
    exact wpAny_pure (by simpa using hQ s.heap hit (Heap.SameBut.refl ..))
  | n + 1, i, s, Q, hit, ht, hle, hQ => by
    have hlt : i < items.size := by omega
    show wpAny _ _ (pyNext (.ref it) >>= _) Q E s
    refine wpAny_bind (wpAny_pyNext_list_item hit ht (x := items[i]) (by simp [hlt]) fun h₁ hit₁ hs₁ => ?_)
    refine wpAny_bind (wpAny_holding (draw_list hne n (i + 1) _ _ hit₁ (ht.extBut hs₁.extBut hne) (by omega) fun h₂ hit₂ hs₂ => wpAny_pure ?_))
    have hd : items.toList.drop i = items[i] :: items.toList.drop (i + 1) := by simp [List.drop_eq_getElem_cons, hlt]
    have := hQ h₂ (by rw [show i + (n + 1) = i + 1 + n by omega]; exact hit₂) (hs₁.trans hs₂)
    rw [hd, List.take_succ_cons] at this
    exact this
theorem unpackItems_list {t : Addr} {items : Array Value} {Q : List Value → Shared → Prop} (hh : A.handled = none) (ht : s.heap.IsList t items)
    (hQ : ∀ h', Heap.ExtBut s.heap.objs.size s.heap h' → Q items.toList { s with heap := h' }) : wpAny (model prog w) A (unpackItems (.ref t) items.size none) Q E s := by
  have hlt : t ≠ s.heap.objs.size := by obtain ⟨o, ho, _⟩ := ht; exact Nat.ne_of_lt (Heap.lt_size ho)
  unfold unpackItems
  refine wpAny_bind ?_
  · unfold notIterableAtAll
    refine wpAny_bind (wpAny_specialOf ht.typeIs slot_list_iter.lookup ?_)
    refine wpAny_pure ?_
    simp only [Bool.false_eq_true, if_false]
    refine wpAny_bind (wpAny_holding (wpAny_pyIter_list ht ?_))
    refine wpAny_bind (wpAny_holding (draw_list hlt items.size 0 _ _ ⟨_, Heap.get?_push_size _ rfl, rfl, rfl⟩ (ht.push _) (by omega) fun h₁ hit₁ hs₁ => ?_))
    have hall : List.take items.size (List.drop 0 items.toList) = items.toList := by
      rw [List.drop_zero]; exact List.take_of_length_le (by simp)
    rw [hall]
    rw [if_neg (by simp)]
    have ht₁ : h₁.IsList t items := (ht.push _).extBut hs₁.extBut hlt
    refine wpAny_bind (wpAny_holding (wpAny_pyNext_list_end hh hit₁ ht₁ (by simp) fun h₂ he₂ => ?_))
    simp only [Option.isSome_none, Bool.false_eq_true, if_false]
    refine wpAny_pure (hQ h₂ fun b o hb e => he₂ b o hb (hs₁.extBut b o hb (Heap.get?_push_of_some _ e)))
theorem assign_Tuple_list {env : Env} {elts : List Expr} {x1} {pos : Pos} {t : Addr} {items : Array Value} {Q : Unit → Shared → Prop} (hh : A.handled = none) (ht : s.heap.IsList t items)
    (hn : (assignEach elts env).length = items.size) (hstar : (assignEach elts env).findIdx? (·.1) = none)
    (h : ∀ h', Heap.ExtBut s.heap.objs.size s.heap h' → wpAny (model prog w) A (assignInOrder ((assignEach elts env).map (·.2)) items.toList) Q E { s with heap := h' }) :
    wpAny (model prog w) A (assign (.Tuple elts x1 pos) env (.ref t)) Q E s := by
  rw [assign_Tuple]
  refine wpAny_bind (wpAny_standAt ?_)
  unfold unpack
  rw [hn, hstar]
  exact wpAny_bind (wpAny_holding (unpackItems_list hh ht h))
end
end LS
namespace L2
open PySem PySem.Spec PyProof.Rows LS
def gLst (K : PySem.W.Frag) (n : Nat) (t : TGs) : TG := fun v σ H Q => ∃ a xs, v = .ref a ∧ SqL K H a xs ∧ xs.length = n ∧ t xs σ H Q
theorem pg_lstK {X : Cx} {es : List Expr} {k : Nat} {t : TGs} {n : Nat} {pos : Pos} (K : PySem.W.Frag) (hc : X.calm = true) (h : PGs X es t)
    (hn : (assignEach es X.env).length = n := by rfl) (hst : (assignEach es X.env).findIdx? (·.1) = none := by rfl) (hK : X.K = K := by rfl) : PG X (.Tuple es k pos) (gLst K n t) := by
  subst hK
  intro pins s σ H v u Q I r hw
  obtain ⟨a, xs, e1, hq, hl, hw⟩ := hw
  subst e1
  cases r
  obtain ⟨its, rv, ht, hz⟩ := I.list hq
  refine assign_Tuple_list (I.ok.hd hc) ht.isList (by simp [hn, ← hl, rv.length]) hst fun h' hx => ?_
  have I1 : Inv X pins σ H { s with heap := h' } := I.kept (t' := s.toks) fun b o e => hx b o (Nat.ne_of_lt (Heap.lt_size e)) e
  exact h pins _ σ H xs _ Q I1 (by simpa using rv) hw
section
variable {P : Program} {w : World} {K : PySem.W.Frag} {mg : Str → Option Value} {base : Heap} {qual : Str} {f : Addr}
theorem FunD.okH {x : Str} {st : Stmt} {dV : Value} {fd : FuncData} {N ps : List Str} {k : Nat} {sp : Sp} (F : FunD K x qual st dV f fd) (S : FnScope N ps (defScope st)) (len : ∀ vs H Q E, sp vs H Q E → vs.length = ps.length)
    (hbody : ∀ (cdv : Value) (A : Around) (ea : Addr) (outer : List Env) (s : Shared) (H : Hp) (vs : List V) (Q : VK), sp vs H Q E0 →
      ∃ t, PSs ((cxE P w K mg base N qual (defScope st) f cdv A outer s H E0).hand ea) (defBody st) t ∧ t { nx := fun _ H' => Q .non H', rt := Q } (start N vs) H) : FnH P w K mg base (k + 1) f fd ps sp := by
  obtain ⟨oc, od, kV, doc, pm, an, cdv, ct, osl, rfl, lk, hcd⟩ := F.ex
  refine ⟨len, fun A ea outer s H args us vs Q hr e0 hb r hsp => ?_⟩
  have hl := len _ _ _ _ hsp
  have KX : K.In s.heap := e0.mod.kin.keeps fun b o e => (e0.bs b o e).1
  have lim : s.heap.NoLimit := e0.mod.nolimit.keeps fun b o e => (e0.bs b o e).1
  have hkind : ∀ y ∈ ps.zip us, (defScope st).names.lookup y.1 = some .local ∨ ((defScope st).names.lookup y.1 = some .cell ∧ ((cellsFrom (s.heap.objs.size + 1) (defScope st).names []).lookup y.1).isSome = true) := fun ⟨n, v⟩ hy => by
    rcases S.par n (List.of_mem_zip hy).1 with q | q
    · exact .inl q
    · exact .inr ⟨q, PySem.W.cellsFrom_some _ _ _ (.inl q)⟩
  refine codeAny_call_function hr.depth (KX _ _ lk) rfl S.co S.gen rfl (PySem.W.codeRec_of KX hcd) (hb _ _ _ _ ?_)
  refine wpAny_newFunctionEnv_cells S.kind hkind fun env he s1 x => ?_
  subst he
  refine ⟨lim.keeps x.toInCall.keep, codeAny_func ?_⟩
  obtain ⟨t, ht, hq⟩ := hbody cdv A ea outer s H vs Q hsp
  have I : Inv (cxE P w K mg base N qual (defScope st) f cdv A outer s H E0) [] (start N vs) H s1 := inv_start S hr.hd e0 hl r x
  refine wpAny_mono (ht [] s1 (start N vs) H _ (I.hand ea) hq) (fun fl s' hs => ?_) fun e s' hs => hs.elim
  cases fl with
  | ret u =>
    obtain ⟨v, σ', H', J, rv, q⟩ := hs
    exact ⟨v, H', J.os, J.bare, J.base, J.hok, rv, q⟩
  | next =>
    obtain ⟨σ', H', J, q⟩ := hs
    exact ⟨V.non, H', J.os, J.bare, J.base, J.hok, rfl, q⟩
  | brk =>
    obtain ⟨_, _, _, q⟩ := hs
    exact False.elim q
  | cont =>
    obtain ⟨_, _, _, q⟩ := hs
    exact False.elim q
end
end L2
set_option maxRecDepth 100000
set_option maxHeartbeats 4000000
namespace My
open PySem L2
def top (i : Nat) : Stmt := PySem.Challenge.pw_lampcues_k92_rows_in_order.main.body.getD i (.Pass ⟨0, 0, 0, 0⟩)
abbrev s_is_whole : Stmt := (top 13)
abbrev s_is_time : Stmt := (top 20)
abbrev s_time_text : Stmt := (top 21)
abbrev s_loosely_read : Stmt := (top 23)
abbrev s_NoText_init : Stmt := (inClass (top 3) 0)
abbrev s_time_of : Stmt := (top 22)
abbrev s_is_lamp : Stmt := (top 31)
abbrev s_is_side : Stmt := (top 32)
abbrev s_whole_of : Stmt := (top 53)
abbrev s_ticks_of : Stmt := (top 60)
abbrev s_thing_of : Stmt := (top 59)
abbrev s_things_by : Stmt := (top 58)
abbrev s_row_of : Stmt := (top 57)
abbrev s_PartDraft_init : Stmt := (inClass (top 43) 0)
abbrev s_CueDraft_init : Stmt := (inClass (top 44) 0)
abbrev s_lacks_part : Stmt := (top 46)
abbrev s_follow_of : Stmt := (top 49)
abbrev s_take_cue : Stmt := (top 48)
abbrev s_take_part : Stmt := (top 50)
abbrev s_take_telling : Stmt := (top 51)
abbrev s_take_row : Stmt := (top 47)
abbrev s_read : Stmt := (top 45)
abbrev s_Heard_init : Stmt := (inClass (top 63) 0)
abbrev s_tick_and_hand : Stmt := (top 65)
abbrev s_in_order : Stmt := (top 64)
abbrev s_Desk_init : Stmt := (inClass (top 62) 0)
abbrev s_Desk_hear : Stmt := (inClass (top 62) 1)
abbrev s_Desk_rows : Stmt := (inClass (top 62) 2)
abbrev s_law_cell_at : Stmt := (top 67)
abbrev s_law_number : Stmt := (top 68)
abbrev s_law_names : Stmt := (top 69)
abbrev s_law_before : Stmt := (top 70)
abbrev s_law_put : Stmt := (top 71)
abbrev s_law_same : Stmt := (top 72)
abbrev s_law_caught : Stmt := (top 73)
abbrev s_law_refused : Stmt := (top 74)
abbrev s_law_text : Stmt := (top 75)
abbrev s_law_told : Stmt := (top 76)
abbrev s_law_begun : Stmt := (top 77)
abbrev s_law : Stmt := (top 78)
structure Adr where
  f_is_whole : Addr
  d_is_whole : FuncData
  f_is_time : Addr
  d_is_time : FuncData
  f_time_text : Addr
  d_time_text : FuncData
  f_loosely_read : Addr
  d_loosely_read : FuncData
  f_NoText_init : Addr
  d_NoText_init : FuncData
  T_NoText_init : Addr
  D_NoText_init : List Value
  f_time_of : Addr
  d_time_of : FuncData
  f_is_lamp : Addr
  d_is_lamp : FuncData
  f_is_side : Addr
  d_is_side : FuncData
  f_whole_of : Addr
  d_whole_of : FuncData
  f_ticks_of : Addr
  d_ticks_of : FuncData
  f_thing_of : Addr
  d_thing_of : FuncData
  f_things_by : Addr
  d_things_by : FuncData
  f_row_of : Addr
  d_row_of : FuncData
  f_PartDraft_init : Addr
  d_PartDraft_init : FuncData
  f_CueDraft_init : Addr
  d_CueDraft_init : FuncData
  f_lacks_part : Addr
  d_lacks_part : FuncData
  f_follow_of : Addr
  d_follow_of : FuncData
  f_take_cue : Addr
  d_take_cue : FuncData
  f_take_part : Addr
  d_take_part : FuncData
  f_take_telling : Addr
  d_take_telling : FuncData
  f_take_row : Addr
  d_take_row : FuncData
  f_read : Addr
  d_read : FuncData
  f_Heard_init : Addr
  d_Heard_init : FuncData
  f_tick_and_hand : Addr
  d_tick_and_hand : FuncData
  f_in_order : Addr
  d_in_order : FuncData
  f_Desk_init : Addr
  d_Desk_init : FuncData
  T_Desk_init : Addr
  D_Desk_init : List Value
  f_Desk_hear : Addr
  d_Desk_hear : FuncData
  f_Desk_rows : Addr
  d_Desk_rows : FuncData
  f_law_cell_at : Addr
  d_law_cell_at : FuncData
  f_law_number : Addr
  d_law_number : FuncData
  f_law_names : Addr
  d_law_names : FuncData
  f_law_before : Addr
  d_law_before : FuncData
  f_law_put : Addr
  d_law_put : FuncData
  f_law_same : Addr
  d_law_same : FuncData
  f_law_caught : Addr
  d_law_caught : FuncData
  f_law_refused : Addr
  d_law_refused : FuncData
  f_law_text : Addr
  d_law_text : FuncData
  f_law_told : Addr
  d_law_told : FuncData
  f_law_begun : Addr
  d_law_begun : FuncData
  f_law : Addr
  d_law : FuncData
  C_PartDraft : Addr
  C_CueDraft : Addr
  C_Desk : Addr
  C_Heard : Addr
  C_LampError : Addr
  C_NoText : Addr
  C_NoCue : Addr
  C_NoName : Addr
  C_Late : Addr
  C_NoRow : Addr
  S_SIDES : Addr
  S_DEEDS : Addr
  unit : Unit
structure Txt (K : PySem.W.Frag) (mg : Str → Option Value) (A : Adr) : Prop where
  F_is_whole : Fun K "is_whole" "is_whole" s_is_whole A.f_is_whole A.d_is_whole
  bb_is_whole : Binds K A.d_is_whole ["thing"] []
  m_is_whole : mg "is_whole" = some (.ref A.f_is_whole)
  F_is_time : Fun K "is_time" "is_time" s_is_time A.f_is_time A.d_is_time
  bb_is_time : Binds K A.d_is_time ["thing"] []
  m_is_time : mg "is_time" = some (.ref A.f_is_time)
  F_time_text : Fun K "time_text" "time_text" s_time_text A.f_time_text A.d_time_text
  bb_time_text : Binds K A.d_time_text ["ticks"] []
  m_time_text : mg "time_text" = some (.ref A.f_time_text)
  F_loosely_read : Fun K "loosely_read" "loosely_read" s_loosely_read A.f_loosely_read A.d_loosely_read
  bb_loosely_read : Binds K A.d_loosely_read ["text"] []
  m_loosely_read : mg "loosely_read" = some (.ref A.f_loosely_read)
  F_NoText_init : FunD K "__init__" "NoText.__init__" s_NoText_init (.ref A.T_NoText_init) A.f_NoText_init A.d_NoText_init
  bb_NoText_init : Binds K A.d_NoText_init ["self", "words", "row"] []
  bd_NoText_init : Binds K A.d_NoText_init ["self", "words", "row"] A.D_NoText_init
  dv_NoText_init : Vals [V.int 0] A.D_NoText_init
  kb_NoText_init : KBinds K A.d_NoText_init ["self", "words", "row"] ["row"] (gAB 2 1) (gAB 2 1)
  XI_NoText : XInit K A.C_NoText A.C_LampError A.f_NoText_init
  up_LampError : UpInit K A.C_LampError
  hd_NoText : PySem.W.hasDictIn K A.C_NoText = true
  nr_NoText_row : PySem.W.findIn K (.ref A.C_NoText) "row" = some none
  F_time_of : Fun K "time_of" "time_of" s_time_of A.f_time_of A.d_time_of
  bb_time_of : Binds K A.d_time_of ["text"] []
  m_time_of : mg "time_of" = some (.ref A.f_time_of)
  F_is_lamp : Fun K "is_lamp" "is_lamp" s_is_lamp A.f_is_lamp A.d_is_lamp
  bb_is_lamp : Binds K A.d_is_lamp ["thing"] []
  m_is_lamp : mg "is_lamp" = some (.ref A.f_is_lamp)
  F_is_side : Fun K "is_side" "is_side" s_is_side A.f_is_side A.d_is_side
  bb_is_side : Binds K A.d_is_side ["thing"] []
  m_is_side : mg "is_side" = some (.ref A.f_is_side)
  F_whole_of : Fun K "whole_of" "whole_of" s_whole_of A.f_whole_of A.d_whole_of
  bb_whole_of : Binds K A.d_whole_of ["word", "most"] []
  m_whole_of : mg "whole_of" = some (.ref A.f_whole_of)
  F_ticks_of : Fun K "ticks_of" "ticks_of" s_ticks_of A.f_ticks_of A.d_ticks_of
  bb_ticks_of : Binds K A.d_ticks_of ["word"] []
  m_ticks_of : mg "ticks_of" = some (.ref A.f_ticks_of)
  F_thing_of : Fun K "thing_of" "thing_of" s_thing_of A.f_thing_of A.d_thing_of
  bb_thing_of : Binds K A.d_thing_of ["kind", "word"] []
  m_thing_of : mg "thing_of" = some (.ref A.f_thing_of)
  F_things_by : Fun K "things_by" "things_by" s_things_by A.f_things_by A.d_things_by
  bb_things_by : Binds K A.d_things_by ["form", "words"] []
  m_things_by : mg "things_by" = some (.ref A.f_things_by)
  F_row_of : Fun K "row_of" "row_of" s_row_of A.f_row_of A.d_row_of
  bb_row_of : Binds K A.d_row_of ["row"] []
  m_row_of : mg "row_of" = some (.ref A.f_row_of)
  F_PartDraft_init : Fun K "__init__" "PartDraft.__init__" s_PartDraft_init A.f_PartDraft_init A.d_PartDraft_init
  bb_PartDraft_init : Binds K A.d_PartDraft_init ["self", "rise", "fall", "wait"] []
  M_PartDraft : Mk K A.C_PartDraft A.f_PartDraft_init
  F_CueDraft_init : Fun K "__init__" "CueDraft.__init__" s_CueDraft_init A.f_CueDraft_init A.d_CueDraft_init
  bb_CueDraft_init : Binds K A.d_CueDraft_init ["self", "number", "stops", "follow"] []
  M_CueDraft : Mk K A.C_CueDraft A.f_CueDraft_init
  F_lacks_part : Fun K "lacks_part" "lacks_part" s_lacks_part A.f_lacks_part A.d_lacks_part
  bb_lacks_part : Binds K A.d_lacks_part ["drafts"] []
  m_lacks_part : mg "lacks_part" = some (.ref A.f_lacks_part)
  F_follow_of : Fun K "follow_of" "follow_of" s_follow_of A.f_follow_of A.d_follow_of
  bb_follow_of : Binds K A.d_follow_of ["words"] []
  m_follow_of : mg "follow_of" = some (.ref A.f_follow_of)
  F_take_cue : Fun K "take_cue" "take_cue" s_take_cue A.f_take_cue A.d_take_cue
  bb_take_cue : Binds K A.d_take_cue ["drafts", "words"] []
  m_take_cue : mg "take_cue" = some (.ref A.f_take_cue)
  F_take_part : Fun K "take_part" "take_part" s_take_part A.f_take_part A.d_take_part
  bb_take_part : Binds K A.d_take_part ["draft", "words"] []
  m_take_part : mg "take_part" = some (.ref A.f_take_part)
  F_take_telling : Fun K "take_telling" "take_telling" s_take_telling A.f_take_telling A.d_take_telling
  bb_take_telling : Binds K A.d_take_telling ["draft", "words"] []
  m_take_telling : mg "take_telling" = some (.ref A.f_take_telling)
  F_take_row : Fun K "take_row" "take_row" s_take_row A.f_take_row A.d_take_row
  bb_take_row : Binds K A.d_take_row ["drafts", "words"] []
  m_take_row : mg "take_row" = some (.ref A.f_take_row)
  F_read : Fun K "read" "read" s_read A.f_read A.d_read
  bb_read : Binds K A.d_read ["text"] []
  m_read : mg "read" = some (.ref A.f_read)
  F_Heard_init : Fun K "__init__" "Heard.__init__" s_Heard_init A.f_Heard_init A.d_Heard_init
  bb_Heard_init : Binds K A.d_Heard_init ["self", "row"] []
  M_Heard : Mk K A.C_Heard A.f_Heard_init
  F_tick_and_hand : Fun K "tick_and_hand" "tick_and_hand" s_tick_and_hand A.f_tick_and_hand A.d_tick_and_hand
  bb_tick_and_hand : Binds K A.d_tick_and_hand ["heard"] []
  m_tick_and_hand : mg "tick_and_hand" = some (.ref A.f_tick_and_hand)
  F_in_order : Fun K "in_order" "in_order" s_in_order A.f_in_order A.d_in_order
  bb_in_order : Binds K A.d_in_order ["some"] []
  m_in_order : mg "in_order" = some (.ref A.f_in_order)
  F_Desk_init : FunD K "__init__" "Desk.__init__" s_Desk_init (.ref A.T_Desk_init) A.f_Desk_init A.d_Desk_init
  bb_Desk_init : Binds K A.d_Desk_init ["self", "text"] []
  bd_Desk_init : Binds K A.d_Desk_init ["self", "text"] A.D_Desk_init
  dv_Desk_init : Vals [V.str (Str.ofString "")] A.D_Desk_init
  kb_Desk_init : KBinds K A.d_Desk_init ["self", "text"] ["text"] (gAB 1 1) (gAB 1 1)
  M_Desk : Mk K A.C_Desk A.f_Desk_init
  F_Desk_hear : Fun K "hear" "Desk.hear" s_Desk_hear A.f_Desk_hear A.d_Desk_hear
  bb_Desk_hear : Binds K A.d_Desk_hear ["self", "row"] []
  me_Desk_hear : Meth K A.C_Desk "hear" A.f_Desk_hear
  F_Desk_rows : Fun K "rows" "Desk.rows" s_Desk_rows A.f_Desk_rows A.d_Desk_rows
  bb_Desk_rows : Binds K A.d_Desk_rows ["self"] []
  me_Desk_rows : Meth K A.C_Desk "rows" A.f_Desk_rows
  F_law_cell_at : Fun K "_law_cell_at" "_law_cell_at" s_law_cell_at A.f_law_cell_at A.d_law_cell_at
  bb_law_cell_at : Binds K A.d_law_cell_at ["_law_script", "_law_k"] []
  m_law_cell_at : mg "_law_cell_at" = some (.ref A.f_law_cell_at)
  F_law_number : Fun K "_law_number" "_law_number" s_law_number A.f_law_number A.d_law_number
  bb_law_number : Binds K A.d_law_number ["_law_cell", "_law_k"] []
  m_law_number : mg "_law_number" = some (.ref A.f_law_number)
  F_law_names : Fun K "_law_names" "_law_names" s_law_names A.f_law_names A.d_law_names
  bb_law_names : Binds K A.d_law_names ["_law_cell"] []
  m_law_names : mg "_law_names" = some (.ref A.f_law_names)
  F_law_before : Fun K "_law_before" "_law_before" s_law_before A.f_law_before A.d_law_before
  bb_law_before : Binds K A.d_law_before ["_law_one", "_law_other"] []
  m_law_before : mg "_law_before" = some (.ref A.f_law_before)
  F_law_put : Fun K "_law_put" "_law_put" s_law_put A.f_law_put A.d_law_put
  bb_law_put : Binds K A.d_law_put ["_law_rows", "_law_row"] []
  m_law_put : mg "_law_put" = some (.ref A.f_law_put)
  F_law_same : Fun K "_law_same" "_law_same" s_law_same A.f_law_same A.d_law_same
  bb_law_same : Binds K A.d_law_same ["_law_found", "_law_rows"] []
  m_law_same : mg "_law_same" = some (.ref A.f_law_same)
  F_law_caught : Fun K "_law_caught" "_law_caught" s_law_caught A.f_law_caught A.d_law_caught
  bb_law_caught : Binds K A.d_law_caught ["_law_desk", "_law_row"] []
  m_law_caught : mg "_law_caught" = some (.ref A.f_law_caught)
  F_law_refused : Fun K "_law_refused" "_law_refused" s_law_refused A.f_law_refused A.d_law_refused
  bb_law_refused : Binds K A.d_law_refused ["_law_desk", "_law_row", "_law_late"] []
  m_law_refused : mg "_law_refused" = some (.ref A.f_law_refused)
  F_law_text : Fun K "_law_text" "_law_text" s_law_text A.f_law_text A.d_law_text
  bb_law_text : Binds K A.d_law_text ["_law_hand", "_law_tick", "_law_number_here"] []
  m_law_text : mg "_law_text" = some (.ref A.f_law_text)
  F_law_told : Fun K "_law_told" "_law_told" s_law_told A.f_law_told A.d_law_told
  bb_law_told : Binds K A.d_law_told ["_law_desk", "_law_rows", "_law_lasts", "_law_hand", "_law_number_here"] []
  m_law_told : mg "_law_told" = some (.ref A.f_law_told)
  F_law_begun : Fun K "_law_begun" "_law_begun" s_law_begun A.f_law_begun A.d_law_begun
  bb_law_begun : Binds K A.d_law_begun ["_law_cell"] []
  m_law_begun : mg "_law_begun" = some (.ref A.f_law_begun)
  F_law : Fun K "law" "law" s_law A.f_law A.d_law
  bb_law : Binds K A.d_law ["_law_script"] []
  m_law : mg "law" = some (.ref A.f_law)
  cl_PartDraft : Cls K A.C_PartDraft
  c_PartDraft : mg "PartDraft" = some (.ref A.C_PartDraft)
  na_PartDraft_tells : NoAttr K A.C_PartDraft "tells"
  na_PartDraft_alone : NoAttr K A.C_PartDraft "alone"
  na_PartDraft_rise : NoAttr K A.C_PartDraft "rise"
  na_PartDraft_fall : NoAttr K A.C_PartDraft "fall"
  na_PartDraft_wait : NoAttr K A.C_PartDraft "wait"
  cl_CueDraft : Cls K A.C_CueDraft
  c_CueDraft : mg "CueDraft" = some (.ref A.C_CueDraft)
  na_CueDraft_number : NoAttr K A.C_CueDraft "number"
  na_CueDraft_parts : NoAttr K A.C_CueDraft "parts"
  na_CueDraft_stops : NoAttr K A.C_CueDraft "stops"
  na_CueDraft_follow : NoAttr K A.C_CueDraft "follow"
  cl_Desk : Cls K A.C_Desk
  c_Desk : mg "Desk" = some (.ref A.C_Desk)
  na_Desk_cues : NoAttr K A.C_Desk "cues"
  na_Desk_heard : NoAttr K A.C_Desk "heard"
  na_Desk_ticks : NoAttr K A.C_Desk "ticks"
  cl_Heard : Cls K A.C_Heard
  c_Heard : mg "Heard" = some (.ref A.C_Heard)
  na_Heard_row : NoAttr K A.C_Heard "row"
  na_Heard_hand : NoAttr K A.C_Heard "hand"
  na_Heard_tick : NoAttr K A.C_Heard "tick"
  na_Heard_word : NoAttr K A.C_Heard "word"
  na_Heard_things : NoAttr K A.C_Heard "things"
  c_LampError : mg "LampError" = some (.ref A.C_LampError)
  c_NoText : mg "NoText" = some (.ref A.C_NoText)
  c_NoCue : mg "NoCue" = some (.ref A.C_NoCue)
  c_NoName : mg "NoName" = some (.ref A.C_NoName)
  c_Late : mg "Late" = some (.ref A.C_Late)
  c_NoRow : mg "NoRow" = some (.ref A.C_NoRow)
  xc_NoText : XCls K A.C_NoText
  xm_NoText : PySem.W.exmOne K (.ref A.C_NoText) (.ref A.C_LampError) = some true
  xv_NoText : PySem.W.kitOne K (.ref A.C_NoText) (.type "ValueError") = some true
  xe_NoText_NoText : PySem.W.exmOne K (.ref A.C_NoText) (.ref A.C_NoText) = some true
  xk_NoText_LampError : PySem.W.kitOne K (.ref A.C_NoText) (.ref A.C_LampError) = some true
  xk_NoText_NoText : PySem.W.kitOne K (.ref A.C_NoText) (.ref A.C_NoText) = some true
  xk_NoText_NoCue : PySem.W.kitOne K (.ref A.C_NoText) (.ref A.C_NoCue) = some false
  xk_NoText_NoName : PySem.W.kitOne K (.ref A.C_NoText) (.ref A.C_NoName) = some false
  xk_NoText_Late : PySem.W.kitOne K (.ref A.C_NoText) (.ref A.C_Late) = some false
  xk_NoText_NoRow : PySem.W.kitOne K (.ref A.C_NoText) (.ref A.C_NoRow) = some false
  x_NoRow : ExcC K A.C_NoRow
  xc_NoRow : XCls K A.C_NoRow
  xm_NoRow : PySem.W.exmOne K (.ref A.C_NoRow) (.ref A.C_LampError) = some true
  xv_NoRow : PySem.W.kitOne K (.ref A.C_NoRow) (.type "ValueError") = some true
  xe_NoRow_NoText : PySem.W.exmOne K (.ref A.C_NoRow) (.ref A.C_NoText) = some false
  xk_NoRow_LampError : PySem.W.kitOne K (.ref A.C_NoRow) (.ref A.C_LampError) = some true
  xk_NoRow_NoText : PySem.W.kitOne K (.ref A.C_NoRow) (.ref A.C_NoText) = some false
  xk_NoRow_NoCue : PySem.W.kitOne K (.ref A.C_NoRow) (.ref A.C_NoCue) = some false
  xk_NoRow_NoName : PySem.W.kitOne K (.ref A.C_NoRow) (.ref A.C_NoName) = some false
  xk_NoRow_Late : PySem.W.kitOne K (.ref A.C_NoRow) (.ref A.C_Late) = some false
  xk_NoRow_NoRow : PySem.W.kitOne K (.ref A.C_NoRow) (.ref A.C_NoRow) = some true
  x_Late : ExcC K A.C_Late
  xc_Late : XCls K A.C_Late
  xm_Late : PySem.W.exmOne K (.ref A.C_Late) (.ref A.C_LampError) = some true
  xv_Late : PySem.W.kitOne K (.ref A.C_Late) (.type "ValueError") = some true
  xe_Late_NoText : PySem.W.exmOne K (.ref A.C_Late) (.ref A.C_NoText) = some false
  xk_Late_LampError : PySem.W.kitOne K (.ref A.C_Late) (.ref A.C_LampError) = some true
  xk_Late_NoText : PySem.W.kitOne K (.ref A.C_Late) (.ref A.C_NoText) = some false
  xk_Late_NoCue : PySem.W.kitOne K (.ref A.C_Late) (.ref A.C_NoCue) = some false
  xk_Late_NoName : PySem.W.kitOne K (.ref A.C_Late) (.ref A.C_NoName) = some false
  xk_Late_Late : PySem.W.kitOne K (.ref A.C_Late) (.ref A.C_Late) = some true
  xk_Late_NoRow : PySem.W.kitOne K (.ref A.C_Late) (.ref A.C_NoRow) = some false
  b_isinstance : mg "isinstance" = none
  b_int : mg "int" = none
  b_bool : mg "bool" = none
  b_str : mg "str" = none
  b_tuple : mg "tuple" = none
  b_list : mg "list" = none
  b_len : mg "len" = none
  b_all : mg "all" = none
  b_range : mg "range" = none
  b_enumerate : mg "enumerate" = none
  b_zip : mg "zip" = none
  b_sorted : mg "sorted" = none
  b_max : mg "max" = none
  b_ValueError : mg "ValueError" = none
  g_MOST_TICKS : ∃ t, mg "MOST_TICKS" = some (.int 1000000000 t)
  g_TICKS_A_SECOND : ∃ t, mg "TICKS_A_SECOND" = some (.int 1000 t)
  g_PLACES : ∃ t, mg "PLACES" = some (.int 3 t)
  g_MOST_FIGURES : ∃ t, mg "MOST_FIGURES" = some (.int 10 t)
  g_FIGURES : ∃ t, mg "FIGURES" = some (.str "0123456789" t)
  g_LETTERS : ∃ t, mg "LETTERS" = some (.str "abcdefghijklmnopqrstuvwxyz" t)
  g_MOST_LETTERS : ∃ t, mg "MOST_LETTERS" = some (.int 8 t)
  g_MOST_WORTH : ∃ t, mg "MOST_WORTH" = some (.int 1000000000 t)
  g_MOST_NUMBER : ∃ t, mg "MOST_NUMBER" = some (.int 1000000000 t)
  g_MOST_PARTS : ∃ t, mg "MOST_PARTS" = some (.int 9 t)
  g_MOST_LEVEL : ∃ t, mg "MOST_LEVEL" = some (.int 1000 t)
  g_MOST_TICK : ∃ t, mg "MOST_TICK" = some (.int 999999999999 t)
  g_SIDES : mg "SIDES" = some (.ref A.S_SIDES)
  s_SIDES : ∀ H, SqT K H A.S_SIDES [.str (Str.ofString "blue"), .str (Str.ofString "bright"), .str (Str.ofString "green"), .str (Str.ofString "pan"), .str (Str.ofString "red"), .str (Str.ofString "tilt")]
  g_DEEDS : mg "DEEDS" = some (.ref A.S_DEEDS)
  s_DEEDS : ∀ H, SqT K H A.S_DEEDS [.str (Str.ofString "go"), .str (Str.ofString "back"), .str (Str.ofString "goto NUMBER"), .str (Str.ofString "stop"), .str (Str.ofString "on"), .str (Str.ofString "put NUMBER TIME TIME TIME"), .str (Str.ofString "put NUMBER TIME TIME TIME follow TIME"), .str (Str.ofString "out NUMBER"), .str (Str.ofString "keep NUMBER"), .str (Str.ofString "tell NUMBER LAMP SIDE WORTH"), .str (Str.ofString "alone NUMBER LAMP SIDE WORTH"), .str (Str.ofString "untell NUMBER LAMP SIDE"), .str (Str.ofString "block NUMBER"), .str (Str.ofString "unblock NUMBER"), .str (Str.ofString "fill NAME LAMP SIDE WORTH"), .str (Str.ofString "move NAME LEVEL"), .str (Str.ofString "down LEVEL"), .str (Str.ofString "spare LAMP")]
theorem sc_is_whole : FnScope ["thing"] ["thing"] (defScope s_is_whole) := ⟨rfl, rfl, rfl, by decide +kernel, rfl, by decide +kernel, by decide +kernel⟩
theorem sc_is_time : FnScope ["thing"] ["thing"] (defScope s_is_time) := ⟨rfl, rfl, rfl, by decide +kernel, rfl, by decide +kernel, by decide +kernel⟩
theorem sc_time_text : FnScope ["ticks", "seconds", "places"] ["ticks"] (defScope s_time_text) := ⟨rfl, rfl, rfl, by decide +kernel, rfl, by decide +kernel, by decide +kernel⟩
theorem sc_loosely_read : FnScope ["text", "halves", "figures"] ["text"] (defScope s_loosely_read) := ⟨rfl, rfl, rfl, by decide +kernel, rfl, by decide +kernel, by decide +kernel⟩
theorem ndc_loosely_read_0 : (["sign"] : List Str).Nodup := by decide +kernel
theorem sc_NoText_init : FnScope ["self", "words", "row"] ["self", "words", "row"] (defScope s_NoText_init) := ⟨rfl, rfl, rfl, by decide +kernel, rfl, by decide +kernel, by decide +kernel⟩
theorem sc_time_of : FnScope ["text", "ticks"] ["text"] (defScope s_time_of) := ⟨rfl, rfl, rfl, by decide +kernel, rfl, by decide +kernel, by decide +kernel⟩
theorem sc_is_lamp : FnScope ["thing"] ["thing"] (defScope s_is_lamp) := ⟨rfl, rfl, rfl, by decide +kernel, rfl, by decide +kernel, by decide +kernel⟩
theorem ndc_is_lamp_0 : (["sign"] : List Str).Nodup := by decide +kernel
theorem sc_is_side : FnScope ["thing"] ["thing"] (defScope s_is_side) := ⟨rfl, rfl, rfl, by decide +kernel, rfl, by decide +kernel, by decide +kernel⟩
theorem sc_whole_of : FnScope ["word", "most", "number", "sign"] ["word", "most"] (defScope s_whole_of) := ⟨rfl, rfl, rfl, by decide +kernel, rfl, by decide +kernel, by decide +kernel⟩
theorem sc_ticks_of : FnScope ["word"] ["word"] (defScope s_ticks_of) := ⟨rfl, rfl, rfl, by decide +kernel, rfl, by decide +kernel, by decide +kernel⟩
theorem sc_thing_of : FnScope ["kind", "word"] ["kind", "word"] (defScope s_thing_of) := ⟨rfl, rfl, rfl, by decide +kernel, rfl, by decide +kernel, by decide +kernel⟩
theorem sc_things_by : FnScope ["form", "words", "things", "kind", "word", "thing"] ["form", "words"] (defScope s_things_by) := ⟨rfl, rfl, rfl, by decide +kernel, rfl, by decide +kernel, by decide +kernel⟩
theorem sc_row_of : FnScope ["row", "words", "tick", "deed", "things"] ["row"] (defScope s_row_of) := ⟨rfl, rfl, rfl, by decide +kernel, rfl, by decide +kernel, by decide +kernel⟩
theorem sc_PartDraft_init : FnScope ["self", "rise", "fall", "wait"] ["self", "rise", "fall", "wait"] (defScope s_PartDraft_init) := ⟨rfl, rfl, rfl, by decide +kernel, rfl, by decide +kernel, by decide +kernel⟩
theorem sc_CueDraft_init : FnScope ["self", "number", "stops", "follow"] ["self", "number", "stops", "follow"] (defScope s_CueDraft_init) := ⟨rfl, rfl, rfl, by decide +kernel, rfl, by decide +kernel, by decide +kernel⟩
theorem sc_lacks_part : FnScope ["drafts"] ["drafts"] (defScope s_lacks_part) := ⟨rfl, rfl, rfl, by decide +kernel, rfl, by decide +kernel, by decide +kernel⟩
theorem sc_follow_of : FnScope ["words"] ["words"] (defScope s_follow_of) := ⟨rfl, rfl, rfl, by decide +kernel, rfl, by decide +kernel, by decide +kernel⟩
theorem sc_take_cue : FnScope ["drafts", "words", "number", "last", "stops", "follow"] ["drafts", "words"] (defScope s_take_cue) := ⟨rfl, rfl, rfl, by decide +kernel, rfl, by decide +kernel, by decide +kernel⟩
theorem sc_take_part : FnScope ["draft", "words"] ["draft", "words"] (defScope s_take_part) := ⟨rfl, rfl, rfl, by decide +kernel, rfl, by decide +kernel, by decide +kernel⟩
theorem sc_take_telling : FnScope ["draft", "words", "slot", "worth", "told"] ["draft", "words"] (defScope s_take_telling) := ⟨rfl, rfl, rfl, by decide +kernel, rfl, by decide +kernel, by decide +kernel⟩
theorem sc_take_row : FnScope ["drafts", "words"] ["drafts", "words"] (defScope s_take_row) := ⟨rfl, rfl, rfl, by decide +kernel, rfl, by decide +kernel, by decide +kernel⟩
theorem sc_read : FnScope ["text", "rows", "drafts", "place", "row", "words", "fault"] ["text"] (defScope s_read) := ⟨rfl, rfl, rfl, by decide +kernel, rfl, by decide +kernel, by decide +kernel⟩
theorem ndc_read_0 : (["draft"] : List Str).Nodup := by decide +kernel
theorem sc_Heard_init : FnScope ["self", "row", "told"] ["self", "row"] (defScope s_Heard_init) := ⟨rfl, rfl, rfl, by decide +kernel, rfl, by decide +kernel, by decide +kernel⟩
theorem sc_tick_and_hand : FnScope ["heard"] ["heard"] (defScope s_tick_and_hand) := ⟨rfl, rfl, rfl, by decide +kernel, rfl, by decide +kernel, by decide +kernel⟩
theorem sc_in_order : FnScope ["some"] ["some"] (defScope s_in_order) := ⟨rfl, rfl, rfl, by decide +kernel, rfl, by decide +kernel, by decide +kernel⟩
theorem sc_Desk_init : FnScope ["self", "text"] ["self", "text"] (defScope s_Desk_init) := ⟨rfl, rfl, rfl, by decide +kernel, rfl, by decide +kernel, by decide +kernel⟩
theorem sc_Desk_hear : FnScope ["self", "row", "heard"] ["self", "row"] (defScope s_Desk_hear) := ⟨rfl, rfl, rfl, by decide +kernel, rfl, by decide +kernel, by decide +kernel⟩
theorem sc_Desk_rows : FnScope ["self"] ["self"] (defScope s_Desk_rows) := ⟨rfl, rfl, rfl, by decide +kernel, rfl, by decide +kernel, by decide +kernel⟩
theorem ndc_Desk_rows_0 : (["heard"] : List Str).Nodup := by decide +kernel
theorem sc_law_cell_at : FnScope ["_law_script", "_law_k"] ["_law_script", "_law_k"] (defScope s_law_cell_at) := ⟨rfl, rfl, rfl, by decide +kernel, rfl, by decide +kernel, by decide +kernel⟩
theorem sc_law_number : FnScope ["_law_cell", "_law_k"] ["_law_cell", "_law_k"] (defScope s_law_number) := ⟨rfl, rfl, rfl, by decide +kernel, rfl, by decide +kernel, by decide +kernel⟩
theorem sc_law_names : FnScope ["_law_cell", "_law_letters", "_law_base", "_law_at", "_law_some", "_law_k"] ["_law_cell"] (defScope s_law_names) := ⟨rfl, rfl, rfl, by decide +kernel, rfl, by decide +kernel, by decide +kernel⟩
theorem ndc_law_names_0 : (["_law_k", "_law_letters", "_law_cell"] : List Str).Nodup := by decide +kernel
theorem sc_law_before : FnScope ["_law_one", "_law_other"] ["_law_one", "_law_other"] (defScope s_law_before) := ⟨rfl, rfl, rfl, by decide +kernel, rfl, by decide +kernel, by decide +kernel⟩
theorem sc_law_put : FnScope ["_law_rows", "_law_row", "_law_at"] ["_law_rows", "_law_row"] (defScope s_law_put) := ⟨rfl, rfl, rfl, by decide +kernel, rfl, by decide +kernel, by decide +kernel⟩
theorem sc_law_same : FnScope ["_law_found", "_law_rows", "_law_one", "_law_row"] ["_law_found", "_law_rows"] (defScope s_law_same) := ⟨rfl, rfl, rfl, by decide +kernel, rfl, by decide +kernel, by decide +kernel⟩
theorem sc_law_caught : FnScope ["_law_desk", "_law_row", "_law_caught_here", "e"] ["_law_desk", "_law_row"] (defScope s_law_caught) := ⟨rfl, rfl, rfl, by decide +kernel, rfl, by decide +kernel, by decide +kernel⟩
theorem sc_law_refused : FnScope ["_law_desk", "_law_row", "_law_late", "_law_caught_here"] ["_law_desk", "_law_row", "_law_late"] (defScope s_law_refused) := ⟨rfl, rfl, rfl, by decide +kernel, rfl, by decide +kernel, by decide +kernel⟩
theorem sc_law_text : FnScope ["_law_hand", "_law_tick", "_law_number_here", "_law_some"] ["_law_hand", "_law_tick", "_law_number_here"] (defScope s_law_text) := ⟨rfl, rfl, rfl, by decide +kernel, rfl, by decide +kernel, by decide +kernel⟩
theorem sc_law_told : FnScope ["_law_desk", "_law_rows", "_law_lasts", "_law_hand", "_law_number_here", "_law_last", "_law_tick", "_law_early", "_law_odd", "_law_at", "_law_row"] ["_law_desk", "_law_rows", "_law_lasts", "_law_hand", "_law_number_here"] (defScope s_law_told) := ⟨rfl, rfl, rfl, by decide +kernel, rfl, by decide +kernel, by decide +kernel⟩
theorem sc_law_begun : FnScope ["_law_cell", "_law_some", "_law_line", "_law_row", "_law_found", "e"] ["_law_cell"] (defScope s_law_begun) := ⟨rfl, rfl, rfl, by decide +kernel, rfl, by decide +kernel, by decide +kernel⟩
theorem sc_law : FnScope ["_law_script", "_law_desk", "_law_beside", "_law_names_here", "_law_rows", "_law_lasts", "_law_held", "_law_k", "_law_cell", "_law_number_here", "_law_found", "_law_one", "_law_kept"] ["_law_script"] (defScope s_law) := ⟨rfl, rfl, rfl, by decide +kernel, rfl, by decide +kernel, by decide +kernel⟩
inductive Kd (K : PySem.W.Frag) (H : Hp) : V → Bool → Prop
  | int (i : Int) : Kd K H (.int i) (decide (0 ≤ i) && decide (i ≤ 1000000000))
  | other (x : V) (t : String) (b1 b2 : Bool) (ty : TyOf K H x (.type t)) (h1 : PySem.W.kitOne K (.type t) (.type "bool") = some b1) (h2 : PySem.W.kitOne K (.type t) (.type "int") = some b2) (h : (b1 || !b2) = true) : Kd K H x false
theorem Kd.intF {K : PySem.W.Frag} {H : Hp} {i : Int} (h : i < 0 ∨ 1000000000 < i) : Kd K H (.int i) false := by
  have := Kd.int (K := K) (H := H) i
  rw [show (decide (0 ≤ i) && decide (i ≤ 1000000000)) = false by rcases h with h | h <;> simp <;> omega] at this
  exact this
theorem Kd.intT {K : PySem.W.Frag} {H : Hp} {i : Int} (h : 0 ≤ i) (h' : i ≤ 1000000000) : Kd K H (.int i) true := by
  have := Kd.int (K := K) (H := H) i
  rw [show (decide (0 ≤ i) && decide (i ≤ 1000000000)) = true by simp; omega] at this
  exact this
inductive Wh (K : PySem.W.Frag) (H : Hp) : V → Bool → Prop
  | int (i : Int) : Wh K H (.int i) true
  | other (x : V) (t : String) (b1 b2 : Bool) (ty : TyOf K H x (.type t)) (h2 : PySem.W.kitOne K (.type t) (.type "int") = some b2) (h1 : PySem.W.kitOne K (.type t) (.type "bool") = some b1) (h : (b1 || !b2) = true) : Wh K H x false
def spWhK (K : PySem.W.Frag) : Sp := fun vs H Q _ => ∃ x c, vs = [x] ∧ Wh K H x c ∧ Q (.bl c) H
theorem ok_is_whole {P : Program} {w : World} {K : PySem.W.Frag} {mg : Str → Option Value} {base : Heap} {A : Adr} (T : Txt K mg A) : FnOk P w K mg base (CXE P w) 1 A.f_is_whole A.d_is_whole ["thing"] (spWhK K) := by
  refine T.F_is_whole.okN sc_is_whole (fun vs H Q E h => ?_) (fun cdv Ar outer s H vs Q E hr h => ?_)
  · obtain ⟨x, c, rfl, hk, k⟩ := h
    rfl
  · obtain ⟨x, c, rfl, hk, k⟩ := h
    refine ⟨_, (pss_one (ps_ret (pe_and (pe_callB (call_isiT K) (by rfl) T.b_isinstance boot_isinstance (pa_cons (pv 0) (pa_cons (pe_ty (by rfl) T.b_int boot_int) pa_nil))) (pe_one (pe_not (pe_callB (call_isiT K) (by rfl) T.b_isinstance boot_isinstance (pa_cons (pv 0) (pa_cons (pe_ty (by rfl) T.b_bool boot_bool) pa_nil)))))))), ?_⟩
    cases hk with
    | int i =>
      refine ⟨_, rfl, _, _, _, _, rfl, .int i, kit_sub (.inr (.inr (.inl rfl))) (.inl rfl), _, rfl, iteT ?_⟩
      exact ⟨_, rfl, _, _, _, _, rfl, .int i, kit_sub (.inr (.inr (.inl rfl))) (.inr (.inl rfl)), _, rfl, k⟩
    | other _ t b1 b2 ty h2 h1 h =>
      refine ⟨_, rfl, _, _, _, _, rfl, ty, h2, _, rfl, ?_⟩
      cases b2 with
      | false => exact iteF k
      | true =>
        have e : b1 = true := by simpa using h
        subst e
        exact iteT ⟨_, rfl, _, _, _, _, rfl, ty, h1, _, rfl, k⟩
def spIs (K : PySem.W.Frag) : Sp := fun vs H Q _ => ∃ x c, vs = [x] ∧ Kd K H x c ∧ Q (.bl c) H
theorem ok_is_time {P : Program} {w : World} {K : PySem.W.Frag} {mg : Str → Option Value} {base : Heap} {A : Adr} (T : Txt K mg A) : FnOk P w K mg base (CXE P w) 2 A.f_is_time A.d_is_time ["thing"] (spIs K) := by
  have G_is_whole := ok_is_whole (P := P) (w := w) (base := base) T
  refine T.F_is_time.okN sc_is_time (fun vs H Q E h => ?_) (fun cdv Ar outer s H vs Q E hr h => ?_)
  · obtain ⟨x, c, rfl, hk, k⟩ := h
    rfl
  · obtain ⟨x, c, rfl, hk, k⟩ := h
    refine ⟨_, (pss_one (ps_ret (pe_and (pe_call G_is_whole (hr.mono (by decide)) (by rfl) T.m_is_whole T.F_is_whole.kp T.bb_is_whole .nil passE0 (pa_cons (pv 0) pa_nil)) (pe_one (pe_chain op_le op_le pe_int (pv 0) (pe_gint (by rfl) T.g_MOST_TICKS)))))), ?_⟩
    cases hk with
    | int i =>
      refine ⟨_, rfl, _, _, rfl, .int i, _, rfl, iteT ?_⟩
      refine ⟨_, rfl, _, _, rfl, rfl, _, rfl, ?_⟩
      by_cases c1 : 0 ≤ i
      · rw [decide_eq_true c1] at k ⊢
        exact iteT ⟨_, _, rfl, rfl, k⟩
      · rw [decide_eq_false c1] at k ⊢
        exact iteF k
    | other _ t b1 b2 ty h1 h2 h => exact ⟨_, rfl, _, _, rfl, .other x t b1 b2 ty h2 h1 h, _, rfl, iteF k⟩
def secT (n : Int) : Str := Str.ofString (toString n)
def plcT (r : Int) : Str := Txt.rstripChars (Txt.zfill (Str.ofString (toString r)) 3) (Str.ofString "0")
def timeT (t : Int) : Str := if plcT (t % 1000) = Str.ofString "" then secT (t / 1000) else secT (t / 1000) ++ Str.ofString "." ++ plcT (t % 1000)
def plcChk (r : Nat) : Bool :=
  let p := plcT (r : Int)
  let q := Txt.slice (p ++ Str.ofString "00") none (some 3)
  ((cs p == []) == (r == 0)) && decide ((cs p).length ≤ 3) && (cs p).all isDig && ((cs p).getLast? != some 48) && (cs q).all isDig && (PySem.NumText.digitsVal (cs q) == r)
theorem plc_all : (List.range 1000).all plcChk = true := by decide +kernel
theorem zf_all : (List.range 1000).all (fun r => decide ((Txt.zfill (Str.ofString (toString (r : Int))) 3).length ≤ 10)) = true := by decide +kernel
theorem plc_ok {r : Int} (h0 : 0 ≤ r) (h1 : r < 1000) : plcChk r.toNat = true ∧ ((r.toNat : Nat) : Int) = r ∧ (Txt.zfill (Str.ofString (toString r)) 3).length ≤ 10 := by
  have e : ((r.toNat : Nat) : Int) = r := Int.toNat_of_nonneg h0
  have m : r.toNat ∈ List.range 1000 := List.mem_range.mpr (by omega)
  have z := List.all_eq_true.mp zf_all _ m
  rw [e] at z
  exact ⟨List.all_eq_true.mp plc_all _ m, e, of_decide_eq_true z⟩
structure PlcOk (r : Int) : Prop where
  nil : cs (plcT r) = [] ↔ r = 0
  len : (cs (plcT r)).length ≤ 3
  dig : (cs (plcT r)).all isDig = true
  last : (cs (plcT r)).getLast? ≠ some 48
  dig3 : (cs (Txt.slice (plcT r ++ Str.ofString "00") none (some 3))).all isDig = true
  val : ((PySem.NumText.digitsVal (cs (Txt.slice (plcT r ++ Str.ofString "00") none (some 3))) : Nat) : Int) = r
theorem plc {r : Int} (h0 : 0 ≤ r) (h1 : r < 1000) : PlcOk r := by
  obtain ⟨a, e, _⟩ := plc_ok h0 h1
  unfold plcChk at a
  rw [e] at a
  simp only [Bool.and_eq_true, decide_eq_true_eq] at a
  obtain ⟨⟨⟨⟨⟨a1, a2⟩, a3⟩, a4⟩, a5⟩, a6⟩ := a
  refine ⟨?_, a2, a3, by simpa using a4, a5, ?_⟩
  · have a1 := eq_of_beq a1
    constructor
    · intro z
      rw [z] at a1
      have : (r.toNat == 0) = true := by rw [← a1]; rfl
      have := eq_of_beq this
      omega
    · intro z
      have : (r.toNat == 0) = true := by rw [z]; rfl
      rw [this] at a1
      exact eq_of_beq a1
  · have := eq_of_beq a6
    omega
theorem log20 {n : Nat} (h : n ≤ 1000000) : n.log2 < 1920 := by
  by_cases h0 : n = 0
  · subst h0; decide
  · exact (Nat.log2_lt h0).mpr (Nat.lt_of_le_of_lt h (Nat.lt_of_lt_of_le (show 1000000 < 2 ^ 20 by decide) (Nat.pow_le_pow_right (by decide) (by decide))))
theorem sec_len {n : Int} (h0 : 0 ≤ n) (h1 : n ≤ 1000000) : (secT n).length ≤ 10 := by
  obtain ⟨m, rfl⟩ := Int.eq_ofNat_of_zero_le h0
  rw [← cs_len]
  unfold secT
  rw [num_cs, List.length_map]
  exact PyProof.Rows.digits10_le (by decide) (by omega)
def spText : Sp := fun vs H Q _ => ∃ t : Int, vs = [.int t] ∧ 0 ≤ t ∧ t ≤ 1000000000 ∧ Q (.str (timeT t)) H
theorem ok_time_text {P : Program} {w : World} {K : PySem.W.Frag} {mg : Str → Option Value} {base : Heap} {A : Adr} (T : Txt K mg A) : FnOk P w K mg base (CXE P w) 3 A.f_time_text A.d_time_text ["ticks"] (spText) := by
  have G_is_time := ok_is_time (P := P) (w := w) (base := base) T
  refine T.F_time_text.okN sc_time_text (fun vs H Q E h => ?_) (fun cdv Ar outer s H vs Q E hr h => ?_)
  · obtain ⟨t, rfl, h0, h1, k⟩ := h
    rfl
  · obtain ⟨t, rfl, h0, h1, k⟩ := h
    refine ⟨_, (pss_cons (ps_if (pt_not (pt_val (pe_call G_is_time (hr.mono (by decide)) (by rfl) T.m_is_time T.F_is_time.kp T.bb_is_time .nil passE0 (pa_cons (pv 0) pa_nil)))) (pss_one ps_dead) pss_nil)
      (pss_cons (ps_set (i := 1) sc_time_text.nd rfl (Or.inl rfl) (pe_callTy call_str_int (by rfl) T.b_str boot_strT (pa_cons (pe_op op_fdivL (pv 0) (pe_gint (by rfl) T.g_TICKS_A_SECOND)) pa_nil)))
      (pss_cons (ps_set (i := 2) sc_time_text.nd rfl (Or.inl rfl) (pe_bmK K PySem.F.plainAttrs_str PySem.F.slot_str_rstrip PySem.F.type_str_rstrip mt_rstripC (pe_bmK K PySem.F.plainAttrs_str PySem.F.slot_str_zfill PySem.F.type_str_zfill mt_zfill (pe_callTy call_str_int (by rfl) T.b_str boot_strT (pa_cons (pe_op op_mod (pv 0) (pe_gint (by rfl) T.g_TICKS_A_SECOND)) pa_nil)) (pa_cons (pe_gint (by rfl) T.g_PLACES) pa_nil)) (pa_cons pe_str pa_nil)))
      (pss_cons (ps_if (pt_cmpR op_eq (pv 2) pe_str (nomark _)) (pss_one (ps_ret (pv 1))) pss_nil)
      (pss_one (ps_ret (pe_op op_add_str (pe_op op_add_str (pv 1) pe_str) (pv 2)))))))), ?_⟩
    · refine seq_cut (fun σ' H' => σ' = [some (.int t), none, none] ∧ H' = H) (fun N hN => ?_) ?_
      · exact ⟨_, rfl, _, _, rfl, Kd.intT h0 h1, _, rfl, iteF (hN _ _ ⟨rfl, rfl⟩)⟩
      rintro σ' H1 ⟨rfl, rfl⟩
      refine seq_cut2 (fun σ' H' => σ' = [some (.int t), some (.str (secT (t / 1000))), some (.str (plcT (t % 1000)))] ∧ H' = H1) (fun N hN => ?_) ?_
      · refine ⟨_, rfl, _, _, rfl, rfl, ⟨by decide, by decide⟩, _, rfl, ?_, ?_⟩
        · exact log20 (by omega)
        refine ⟨_, rfl, _, _, rfl, rfl, (by show (0 : Int) < 1000; decide), _, rfl, ?_, rfl, _, _, rfl, rfl, rfl, rfl, _, _, rfl, rfl, ?_, ?_⟩
        · exact log20 (by omega)
        · exact Nat.le_trans (plc_ok (r := t % 1000) (by omega) (by omega)).2.2 (by decide)
        · exact hN _ _ ⟨rfl, rfl⟩
      rintro σ' H2 ⟨rfl, rfl⟩
      have hp := plc (r := t % 1000) (by omega) (by omega)
      have hl := sec_len (n := t / 1000) (by omega) (by omega)
      unfold timeT at k
      refine ⟨_, rfl, rfl, _, rfl, ?_⟩
      by_cases c : plcT (t % 1000) = Str.ofString ""
      · rw [if_pos c] at k
        rw [decide_eq_true (congrArg V.str c)]
        exact iteT ⟨_, rfl, k⟩
      · rw [if_neg c] at k
        rw [decide_eq_false (fun z => c (V.str.inj z))]
        refine iteF ⟨_, rfl, _, _, rfl, rfl, ?_, _, rfl, _, _, rfl, rfl, ?_, k⟩
        · show (secT (t / 1000)).length + 1 ≤ sizeLine
          exact le_line (by omega)
        · have := hp.len
          rw [cs_len] at this
          rw [← cs_len, cs_app, List.length_append, cs_len]
          exact le_line (by show (secT (t / 1000)).length + 1 + _ ≤ 1000; omega)
theorem point : Str.ofString "." = ⟨#[46]⟩ := str_one _ _ (by decide +kernel)
theorem ne_text {x y : Str} (h : cs x ≠ cs y) : ¬ (V.str x = V.str y) := fun e => h (congrArg cs (V.str.inj e))
theorem cs_empty : cs (Str.ofString "") = [] := by decide +kernel
theorem cs_zero : cs (Str.ofString "0") = [48] := by decide +kernel
def okS (l : List Nat) : Prop := l.all isDig = true ∧ l ≠ [] ∧ (l = [48] ∨ l.head? ≠ some 48)
def okR (l : List Nat) : Prop := l.all isDig = true ∧ l ≠ [] ∧ l.length ≤ 3 ∧ l.getLast? ≠ some 48
def pad3 (l : List Nat) : List Nat := l ++ List.replicate (3 - l.length) 48
open PySem.NumText in
def val3 (l : List Nat) : Int := ((digitsVal (pad3 l) : Nat) : Int)
def padChk (r : Nat) : Bool := decide ((pad3 (cs (plcT (r : Int)))).length = 3) && (pad3 (cs (plcT (r : Int)))).all isDig && (PySem.NumText.digitsVal (pad3 (cs (plcT (r : Int)))) == r)
theorem pad_all : (List.range 1000).all padChk = true := by decide +kernel
structure PadOk3 (r : Int) : Prop where
  len : (pad3 (cs (plcT r))).length = 3
  dig : (pad3 (cs (plcT r))).all isDig = true
  val : val3 (cs (plcT r)) = r
theorem pad {r : Int} (h0 : 0 ≤ r) (h1 : r < 1000) : PadOk3 r := by
  have e : ((r.toNat : Nat) : Int) = r := Int.toNat_of_nonneg h0
  have m : r.toNat ∈ List.range 1000 := List.mem_range.mpr (by omega)
  have a := List.all_eq_true.mp pad_all _ m
  unfold padChk at a
  rw [e] at a
  simp only [Bool.and_eq_true, decide_eq_true_eq] at a
  obtain ⟨⟨a1, a2⟩, a3⟩ := a
  refine ⟨a1, a2, ?_⟩
  unfold val3
  rw [eq_of_beq a3, e]
def figs10 : List Nat := [48, 49, 50, 51, 52, 53, 54, 55, 56, 57]
def rests : List (List Nat) := (figs10.map fun a => [a]) ++ (figs10.flatMap fun a => figs10.map fun b => [a, b]) ++ (figs10.flatMap fun a => figs10.flatMap fun b => figs10.map fun c => [a, b, c])
def restChk (l : List Nat) : Bool := (l.getLast? == some 48) || ((cs (plcT ((PySem.NumText.digitsVal (pad3 l) : Nat) : Int)) == l) && decide (PySem.NumText.digitsVal (pad3 l) < 1000) && (PySem.NumText.digitsVal (pad3 l) != 0))
theorem rest_all : rests.all restChk = true := by decide +kernel
theorem mem10 {c : Nat} (h : isDig c = true) : c ∈ figs10 := by
  have := isDig_iff.mp h
  have : c = 48 ∨ c = 49 ∨ c = 50 ∨ c = 51 ∨ c = 52 ∨ c = 53 ∨ c = 54 ∨ c = 55 ∨ c = 56 ∨ c = 57 := by omega
  rcases this with rfl | rfl | rfl | rfl | rfl | rfl | rfl | rfl | rfl | rfl <;> decide
theorem mem_rests {l : List Nat} (h : okR l) : l ∈ rests := by
  obtain ⟨h1, h2, h3, _⟩ := h
  unfold rests
  match l, h1, h2, h3 with
  | [a], h1, _, _ =>
    simp only [List.all_cons, List.all_nil, Bool.and_eq_true] at h1
    exact List.mem_append_left _ (List.mem_append_left _ (List.mem_map.mpr ⟨a, mem10 h1.1, rfl⟩))
  | [a, b], h1, _, _ =>
    simp only [List.all_cons, List.all_nil, Bool.and_eq_true] at h1
    exact List.mem_append_left _ (List.mem_append_right _ (List.mem_flatMap.mpr ⟨a, mem10 h1.1, List.mem_map.mpr ⟨b, mem10 h1.2.1, rfl⟩⟩))
  | [a, b, c], h1, _, _ =>
    simp only [List.all_cons, List.all_nil, Bool.and_eq_true] at h1
    exact List.mem_append_right _ (List.mem_flatMap.mpr ⟨a, mem10 h1.1, List.mem_flatMap.mpr ⟨b, mem10 h1.2.1, List.mem_map.mpr ⟨c, mem10 h1.2.2.1, rfl⟩⟩⟩)
  | _ :: _ :: _ :: _ :: _, _, _, h3 => simp at h3
theorem rest_ok {l : List Nat} (h : okR l) : cs (plcT (val3 l)) = l ∧ 0 < val3 l ∧ val3 l < 1000 := by
  have a := List.all_eq_true.mp rest_all _ (mem_rests h)
  unfold restChk at a
  rw [Bool.or_eq_true] at a
  rcases a with a | a
  · exact absurd (eq_of_beq a) h.2.2.2
  · simp only [Bool.and_eq_true, decide_eq_true_eq] at a
    obtain ⟨⟨a1, a2⟩, a3⟩ := a
    have a3 : PySem.NumText.digitsVal (pad3 l) ≠ 0 := by simpa using a3
    refine ⟨eq_of_beq a1, ?_, ?_⟩ <;> (unfold val3; omega)
theorem sec_ok {n : Int} (h0 : 0 ≤ n) : okS (cs (secT n)) ∧ ((PySem.NumText.digitsVal (cs (secT n)) : Nat) : Int) = n ∧ (46 : Nat) ∉ cs (secT n) := by
  obtain ⟨m, rfl⟩ := Int.eq_ofNat_of_zero_le h0
  have s2 := num_dig m
  refine ⟨⟨dig_all.mpr s2, num_ne m, ?_⟩, ?_, fun z => ?_⟩
  · exact num_head m
  · unfold secT; rw [num_val]
  · have := s2 46 z; omega
theorem sec_of {l : List Nat} (h : okS l) : cs (secT ((PySem.NumText.digitsVal l : Nat) : Int)) = l := by
  obtain ⟨h1, h2, h3⟩ := h
  refine num_of (dig_all.mp h1) ?_
  rcases h3 with h3 | h3
  · exact .inl h3
  · exact .inr ⟨h2, h3⟩
theorem sec_len7 {n : Int} (h0 : 0 ≤ n) (h1 : n ≤ 1000000) : (cs (secT n)).length ≤ 7 := by
  obtain ⟨m, rfl⟩ := Int.eq_ofNat_of_zero_le h0
  unfold secT
  rw [num_cs, List.length_map]
  exact PyProof.Rows.digits10_le (by decide) (by omega)
inductive Parted (t S p R : Str) : Prop
  | no (h : (46 : Nat) ∉ cs t) (hS : S = t) (hp : p = Str.ofString "") (hR : R = Str.ofString "")
  | at_ (h : (46 : Nat) ∉ cs S) (ht : cs t = cs S ++ 46 :: cs R) (hp : p = Str.ofString ".")
theorem cs_time {n : Int} (h0 : 0 ≤ n) : cs (timeT n) = if n % 1000 = 0 then cs (secT (n / 1000)) else cs (secT (n / 1000)) ++ 46 :: cs (plcT (n % 1000)) := by
  have hp := plc (r := n % 1000) (by omega) (by omega)
  unfold timeT
  by_cases c : n % 1000 = 0
  · rw [if_pos c, if_pos (cs_inj (by rw [hp.nil.mpr c, cs_empty]))]
  · rw [if_neg c, if_neg (fun z => c (hp.nil.mp (by rw [z, cs_empty]))), cs_app, cs_app, List.append_assoc]
    rfl
theorem parted_of (t : Str) : Parted t (Txt.partition t (Str.ofString ".")).1 (Txt.partition t (Str.ofString ".")).2.1 (Txt.partition t (Str.ofString ".")).2.2 := by
  by_cases h : (46 : Nat) ∈ cs t
  · obtain ⟨a, b, e⟩ := List.append_of_mem h
    -- the first one
    have key : ∃ a b, cs t = a ++ 46 :: b ∧ (46 : Nat) ∉ a := by
      clear e a b
      generalize cs t = l at h
      induction l with
      | nil => cases h
      | cons c r ih =>
        by_cases hc : c = 46
        · exact ⟨[], r, by rw [hc]; rfl, by simp⟩
        · obtain ⟨a, b, e, n⟩ := ih (by simpa [Ne.symm hc] using h)
          exact ⟨c :: a, b, by rw [e]; rfl, by simp [n, Ne.symm hc]⟩
    obtain ⟨a, b, e, n⟩ := key
    have := part_at (a := ⟨a.toArray⟩) (b := ⟨b.toArray⟩) (c := 46) (x := t) (by simpa [cs] using n) (by simpa [cs] using e)
    rw [point, this]
    exact .at_ (by simpa [cs] using n) (by simpa [cs] using e) point.symm
  · rw [point, part_none h]
    exact .no h rfl (cs_inj (by rw [cs_empty]; rfl)) (cs_inj (by rw [cs_empty]; rfl))
theorem cut_uniq {a b c d : List Nat} (h1 : (46 : Nat) ∉ a) (h2 : (46 : Nat) ∉ c) (e : a ++ 46 :: b = c ++ 46 :: d) : a = c ∧ b = d := by
  induction a generalizing c with
  | nil =>
    cases c with
    | nil => simpa using e
    | cons x r => simp at e; exact absurd (by rw [e.1]; simp) h2
  | cons x r ih =>
    cases c with
    | nil => simp at e; exact absurd (by rw [← e.1]; simp) h1
    | cons y q =>
      simp at e
      obtain ⟨e1, e2⟩ := e
      obtain ⟨z1, z2⟩ := ih (by simp at h1; exact h1.2) (by simp at h2; exact h2.2) e2
      exact ⟨by rw [e1, z1], z2⟩
theorem writes {t S p R : Str} (hp : Parted t S p R) (n : Int) (h0 : 0 ≤ n) : t = timeT n ↔ okS (cs S) ∧ ((p = Str.ofString "" ∧ n = 1000 * ((PySem.NumText.digitsVal (cs S) : Nat) : Int)) ∨ (p = Str.ofString "." ∧ okR (cs R) ∧ n = 1000 * ((PySem.NumText.digitsVal (cs S) : Nat) : Int) + val3 (cs R))) := by
  obtain ⟨s1, s2, s3⟩ := sec_ok (n := n / 1000) (by omega)
  have ct := cs_time h0
  have pl := plc (r := n % 1000) (by omega) (by omega)
  have pd := pad (r := n % 1000) (by omega) (by omega)
  have dot : ¬ Str.ofString "." = Str.ofString "" := fun z => by have := congrArg cs z; rw [cs_empty, point] at this; cases this
  constructor
  · rintro rfl
    cases hp with
    | no h hS hp hR =>
      subst hS hp
      have c : n % 1000 = 0 := by
        rcases Classical.em (n % 1000 = 0) with c | c
        · exact c
        · rw [if_neg c] at ct; exact absurd (by rw [ct]; simp) h
      rw [if_pos c] at ct
      rw [ct, s2]
      exact ⟨s1, .inl ⟨rfl, by omega⟩⟩
    | at_ h ht hp =>
      subst hp
      have c : n % 1000 ≠ 0 := fun c => by
        rw [if_pos c] at ct
        rw [ct] at ht
        exact s3 (by rw [ht]; simp)
      rw [if_neg c] at ct
      obtain ⟨e1, e2⟩ := cut_uniq h s3 (ht.symm.trans ct)
      rw [e1, e2, s2, pd.val]
      exact ⟨s1, .inr ⟨rfl, ⟨pl.dig, fun z => c (pl.nil.mp z), pl.len, pl.last⟩, by omega⟩⟩
  · rintro ⟨oS, h⟩
    have sS := sec_of oS
    refine cs_inj ?_
    rcases h with ⟨hp', hn⟩ | ⟨hp', oR, hn⟩
    · cases hp with
      | no h hS hp hR =>
        subst hS
        rw [ct, if_pos (by omega), show n / 1000 = ((PySem.NumText.digitsVal (cs S) : Nat) : Int) by omega, sS]
      | at_ h ht hp => rw [hp'] at hp; exact absurd hp.symm dot
    · cases hp with
      | no h hS hp hR => rw [hp'] at hp; exact absurd hp dot
      | at_ h ht hp =>
        obtain ⟨r1, r2, r3⟩ := rest_ok oR
        rw [ct, if_neg (by omega), show n / 1000 = ((PySem.NumText.digitsVal (cs S) : Nat) : Int) by omega, show n % 1000 = val3 (cs R) by omega, sS, r1, ht]
open PySem.NumText in
theorem val_three (l m : List Nat) (h : m.length = 3) : digitsVal (l ++ m) = 1000 * digitsVal l + digitsVal m := by
  match m, h with
  | [a, b, c], _ =>
    have e1 : digitsVal (l ++ [a, b, c]) = 10 * digitsVal (l ++ [a, b]) + (c - 48) := by rw [show l ++ [a, b, c] = (l ++ [a, b]) ++ [c] by simp, digitsVal_snoc]; omega
    have e2 : digitsVal (l ++ [a, b]) = 10 * digitsVal (l ++ [a]) + (b - 48) := by rw [show l ++ [a, b] = (l ++ [a]) ++ [b] by simp, digitsVal_snoc]; omega
    have e3 : digitsVal (l ++ [a]) = 10 * digitsVal l + (a - 48) := by rw [digitsVal_snoc]; omega
    have d1 : digitsVal ([a, b, c]) = 10 * digitsVal ([a, b]) + (c - 48) := by rw [show [a, b, c] = [a, b] ++ [c] by simp, digitsVal_snoc]; omega
    have d2 : digitsVal ([a, b]) = 10 * digitsVal ([a]) + (b - 48) := by rw [show [a, b] = [a] ++ [b] by simp, digitsVal_snoc]; omega
    have d3 : digitsVal ([a]) = 10 * digitsVal ([] : List Nat) + (a - 48) := by rw [show [a] = [] ++ [a] by simp, digitsVal_snoc]; omega
    have d4 : digitsVal ([] : List Nat) = 0 := rfl
    omega
theorem parted_len {t S p R : Str} (h : Parted t S p R) : (cs S).length + (cs R).length ≤ (cs t).length := by
  cases h with
  | no h hS hp hR => subst hS hR; rw [cs_empty]; simp
  | at_ h ht hp => rw [ht, List.length_append, List.length_cons]; omega
theorem time_figs {t S p R : Str} (hp : Parted t S p R) {n : Int} (h0 : 0 ≤ n) (h1 : n ≤ 1000000000) (e : t = timeT n) :
    (cs S ++ pad3 (cs R)).length ≤ 10 ∧ (cs S ++ pad3 (cs R)).all isDig = true ∧ ((PySem.NumText.digitsVal (cs S ++ pad3 (cs R)) : Nat) : Int) = n := by
  obtain ⟨oS, h⟩ := (writes hp n h0).mp e
  have eS := sec_of oS
  rcases h with ⟨hp', hn⟩ | ⟨hp', oR, hn⟩
  · have eR : R = Str.ofString "" := by
      cases hp with
      | no h hS hp hR => exact hR
      | at_ h ht hp => rw [hp'] at hp; exact absurd hp.symm (fun z => by have := congrArg cs z; rw [cs_empty, point] at this; cases this)
    subst eR
    have pe : pad3 (cs (Str.ofString "")) = [48, 48, 48] := by rw [cs_empty]; rfl
    have l7 := sec_len7 (n := ((PySem.NumText.digitsVal (cs S) : Nat) : Int)) (by omega) (by omega)
    rw [eS] at l7
    rw [pe]
    refine ⟨by simp; omega, by rw [List.all_append, oS.1]; rfl, ?_⟩
    rw [val_three _ _ rfl, show PySem.NumText.digitsVal [48, 48, 48] = 0 from rfl]
    omega
  · obtain ⟨r1, r2, r3⟩ := rest_ok oR
    have pd := pad (r := val3 (cs R)) (by omega) (by omega)
    have l7 := sec_len7 (n := ((PySem.NumText.digitsVal (cs S) : Nat) : Int)) (by omega) (by omega)
    rw [eS] at l7
    have pl := pd.len
    have pg := pd.dig
    rw [r1] at pl pg
    refine ⟨by rw [List.length_append, pl]; omega, by rw [List.all_append, oS.1, pg]; rfl, ?_⟩
    rw [val_three _ _ pl]
    unfold val3 at hn
    omega
def spLoose : Sp := fun vs H Q _ => ∃ t : Str, vs = [.str t] ∧ t.length ≤ 100 ∧ ∀ v H', (v = .non ∨ ∃ m : Int, v = .int m) → (∀ n : Int, 0 ≤ n → n ≤ 1000000000 → t = timeT n → v = .int n) → Same H H' → Q v H'
theorem ok_loosely_read {P : Program} {w : World} {K : PySem.W.Frag} {mg : Str → Option Value} {base : Heap} {A : Adr} (T : Txt K mg A) : FnOk P w K mg base (CXE P w) 2 A.f_loosely_read A.d_loosely_read ["text"] (spLoose) := by
  refine T.F_loosely_read.okN sc_loosely_read (fun vs H Q E h => ?_) (fun cdv Ar outer s H vs Q E hr h => ?_)
  · obtain ⟨t, rfl, hl, k⟩ := h
    rfl
  · obtain ⟨t, rfl, hl, k⟩ := h
    refine ⟨_, (pss_cons (ps_set (i := 1) sc_loosely_read.nd rfl (Or.inl rfl) (pe_bmK K PySem.F.plainAttrs_str PySem.F.slot_str_partition PySem.F.type_str_partition mt_partition (pv 0) (pa_cons pe_str pa_nil)))
      (pss_cons (ps_set (i := 2) sc_loosely_read.nd rfl (Or.inl rfl) (pe_op op_add_str (pe_ix (ix_tupK K) (pv 1) pe_int (fun _ _ => rfl)) (pe_bmK K PySem.F.plainAttrs_str PySem.F.slot_str_ljust PySem.F.type_str_ljust mt_ljustF (pe_ix (ix_tupK K) (pv 1) pe_int (fun _ _ => rfl)) (pa_cons (pe_gint (by rfl) T.g_PLACES) (pa_cons pe_str pa_nil)))))
      (pss_cons (ps_if (PW.pt (pw_or (pt_cmpR op_gt (pe_callB call_len_str (by rfl) T.b_len PySem.boot_len (pa_cons (pv 2) pa_nil)) (pe_gint (by rfl) T.g_MOST_FIGURES) (nomark _)) (pw_or1 (pt_not (pt_val (pe_callB (call_allB K rfl) (by rfl) T.b_all boot_all (pa_cons (pe_comp ["sign"] [none] rfl (pi_str (pv 2)) (fun _ _ _ => (pg_name (i := 0) ndc_loosely_read_0 rfl (Or.inl rfl))) (fun _ _ _ => (pe_cmpR op_in_str (pv 0) (pe_gstr (by rfl) T.g_FIGURES) (by with_unfolding_all rfl)))) pa_nil))))))) (pss_one (ps_ret pe_non)) pss_nil)
      (pss_one (ps_ret (pe_callTy call_intT (by rfl) T.b_int boot_int (pa_cons (pv 2) pa_nil))))))), ?_⟩
    refine seq_cut (fun σ' H' => ∃ p, σ' = [some (.str t), some (.ref p), none] ∧ Same H H' ∧ H' p = some (.tup [.str (Txt.partition t (Str.ofString ".")).1, .str (Txt.partition t (Str.ofString ".")).2.1, .str (Txt.partition t (Str.ofString ".")).2.2])) (fun N hN => ?_) ?_
    · exact ⟨_, rfl, rfl, _, _, rfl, rfl, by decide +kernel, le_line (by omega), fun q hq => hN _ _ ⟨q, rfl, Same.new hq, upd_same⟩⟩
    rintro σ' H1 ⟨p, rfl, sm, hp⟩
    have pt := parted_of t
    generalize Txt.partition t (Str.ofString ".") = tri at hp pt
    obtain ⟨S, P', R⟩ := tri
    dsimp only at hp pt
    have hln := parted_len pt
    rw [cs_len t] at hln
    refine seq_cut (fun σ' H' => ∃ F, σ' = [some (.str t), some (.ref p), some (.str F)] ∧ H' = H1 ∧ cs F = cs S ++ pad3 (cs R)) (fun N hN => ?_) ?_
    · refine ⟨_, rfl, p, _, _, _, rfl, rfl, SqT.of hp, atI_0 _ _, _, rfl, p, _, _, _, rfl, rfl, SqT.of hp, atI_2 _ _ _ _, rfl, _, _, _, rfl, rfl, rfl, rfl, _, _, rfl, rfl, ?_, hN _ _ ⟨_, rfl, rfl, ?_⟩⟩
      · rw [← cs_len, ← cs_len]
        show (cs S).length + (Txt.ljustF R 3 48).cps.toList.length ≤ _
        rw [PyProof.Rows.ljustF_list, List.length_append, List.length_replicate]
        exact le_line (by show (cs S).length + ((cs R).length + _) ≤ 1000; omega)
      · rw [cs_app]
        show cs S ++ (Txt.ljustF R 3 48).cps.toList = _
        rw [PyProof.Rows.ljustF_list]
        unfold pad3
        rw [cs_len R]
        rfl
    rintro σ' H2 ⟨F, rfl, rfl, eF⟩
    have lenF : F.length ≤ 200 := by
      rw [← cs_len, eF]
      unfold pad3
      rw [List.length_append, List.length_append, List.length_replicate]
      omega
    refine seq_cut (fun σ' H' => σ' = [some (.str t), some (.ref p), some (.str F)] ∧ Same H2 H' ∧ F.length ≤ 10 ∧ (cs F).all isDig = true) (fun N hN => ?_) ?_
    · refine ⟨_, rfl, _, rfl, le_line (by omega), _, _, rfl, rfl, _, rfl, ?_⟩
      by_cases c1 : (10 : Int) < (F.length : Int)
      · rw [decide_eq_true c1]
        refine iteT (iteT (k _ _ (.inl rfl) (fun n h0 h1 e => ?_) sm))
        have := (time_figs pt h0 h1 e).1
        rw [← eF, cs_len] at this
        omega
      · rw [decide_eq_false c1]
        refine iteF ?_
        refine ⟨_, rfl, _, rfl, fun D hD => comp_str isDig (fun σ => ∃ v, σ = [v]) hD (by omega) ⟨_, rfl⟩ ?_ ?_⟩
        · rintro c σ' H' N' hc ⟨v, rfl⟩ q
          refine ⟨_, rfl, _, _, rfl, rfl, ?_⟩
          rw [show (!(Builtin.Str.occurrences (Str.ofString "0123456789") ⟨#[c]⟩ 0 (Str.ofString "0123456789").length 1).isEmpty) = isDig c from in_figs c]
          exact q _ ⟨_, rfl⟩
        · intro H' s' hD'
          refine ⟨D, _, rfl, SqL.of hD', _, rfl, ?_⟩
          have ea : ((cs F).map isDig).all id = (cs F).all isDig := by rw [List.all_map]; rfl
          rw [ea]
          cases c2 : (cs F).all isDig with
          | true => exact iteF (hN _ _ ⟨rfl, s', by omega, c2⟩)
          | false =>
            refine iteT (k _ _ (.inl rfl) (fun n h0 h1 e => ?_) (sm.trans s'))
            have := (time_figs pt h0 h1 e).2.1
            rw [← eF, c2] at this
            cases this
    rintro σ' H3 ⟨rfl, sm3, l10, dg⟩
    refine ⟨_, rfl, _, rfl, dig_all.mp dg, ?_, by omega, k _ _ (.inr ⟨_, rfl⟩) (fun n h0 h1 e => ?_) (sm.trans sm3)⟩
    · rw [eF]
      unfold pad3
      intro z
      have := congrArg List.length z
      rw [List.length_append, List.length_append, List.length_replicate, List.length_nil] at this
      omega
    · rw [eF, (time_figs pt h0 h1 e).2.2]
def spNoText (A : Adr) : Sp := fun vs H Q _ => ∃ (ea : Addr) (wd r : V), vs = [.ref ea, wd, r] ∧ H ea = some (newAt ea (.ref A.C_NoText) none) ∧ ∀ dx, H dx = none → Q .non (upd (upd H ea (newAt ea (.ref A.C_NoText) (some dx))) dx (.xd [("row", r)]))
theorem ok_NoText_init {P : Program} {w : World} {K : PySem.W.Frag} {mg : Str → Option Value} {base : Heap} {A : Adr} (T : Txt K mg A) : FnOk P w K mg base (CXE P w) 2 A.f_NoText_init A.d_NoText_init ["self", "words", "row"] (spNoText A) := by
  refine T.F_NoText_init.okN sc_NoText_init (fun vs H Q E h => ?_) (fun cdv Ar outer s H vs Q E hr h => ?_)
  · obtain ⟨ea, wd, r, rfl, hea, k⟩ := h
    rfl
  · obtain ⟨ea, wd, r, rfl, hea, k⟩ := h
    refine ⟨_, (pss_cons (ps_expr (pe_upinit K T.up_LampError (by rfl) T.c_LampError (pa_cons (pv 0) (pa_cons (pv 1) pa_nil))))
      (pss_one (ps_xfld K (pv 0) (pv 2)))), ?_⟩
    refine ⟨_, rfl, _, rfl, ea, _, _, _, _, rfl, (by show 1 ≤ 1000; decide), hea, T.XI_NoText, ?_⟩
    refine ⟨_, rfl, _, rfl, ea, _, _, _, rfl, hea, T.XI_NoText, T.nr_NoText_row, fun dx hdx => k dx hdx⟩
def refuses (A : Adr) (H : Hp) (E : XK) : Prop := ∀ dx H', Same H H' → H' dx = some (.xd [("row", .int 0)]) → E (.ref A.C_NoText) (some dx) H'
def noTime (t : Str) : Prop := ∀ n : Int, 0 ≤ n → n ≤ 1000000000 → t ≠ timeT n
inductive Nay (K : PySem.W.Frag) (H : Hp) : V → Prop
  | txt (t : Str) (h : t.length ≤ 100) (n : noTime t) : Nay K H (.str t)
  | other (x : V) (ty : String) (h : TyOf K H x (.type ty)) (b : PySem.W.kitOne K (.type ty) (.type "str") = some false) : Nay K H x
def spOf (K : PySem.W.Frag) (A : Adr) : Sp := fun vs H Q E => ∃ x, vs = [x] ∧ ((∃ n : Int, 0 ≤ n ∧ n ≤ 1000000000 ∧ x = .str (timeT n) ∧ ∀ H', Same H H' → Q (.int n) H') ∨ (Nay K H x ∧ refuses A H E))
theorem time_len {n : Int} (h0 : 0 ≤ n) (h1 : n ≤ 1000000000) : (timeT n).length ≤ 100 := by
  have pl := plc (r := n % 1000) (by omega) (by omega)
  have l7 := sec_len7 (n := n / 1000) (by omega) (by omega)
  have := pl.len
  rw [← cs_len, cs_time h0]
  split
  · omega
  · rw [List.length_append, List.length_cons]; omega
theorem ok_time_of {P : Program} {w : World} {K : PySem.W.Frag} {mg : Str → Option Value} {base : Heap} {A : Adr} (T : Txt K mg A) : FnOk P w K mg base (CXE P w) 4 A.f_time_of A.d_time_of ["text"] (spOf K A) := by
  have G_NoText_init := ok_NoText_init (P := P) (w := w) (base := base) T
  have G_is_time := ok_is_time (P := P) (w := w) (base := base) T
  have G_loosely_read := ok_loosely_read (P := P) (w := w) (base := base) T
  have G_time_text := ok_time_text (P := P) (w := w) (base := base) T
  refine T.F_time_of.okE sc_time_of (fun vs H Q E h => ?_) (fun cdv Ar outer s H vs Q E hr h => ?_)
  · obtain ⟨x, rfl, h⟩ := h
    rfl
  · obtain ⟨x, rfl, h⟩ := h
    refine ⟨_, (pss_cons (ps_if (pt_val (pe_callB (call_isiT K) (by rfl) T.b_isinstance boot_isinstance (pa_cons (pv 0) (pa_cons (pe_ty (by rfl) T.b_str boot_strT) pa_nil)))) (pss_cons (ps_set (i := 1) sc_time_of.nd rfl (Or.inl rfl) (pe_call G_loosely_read (hr.mono (by decide)) (by rfl) T.m_loosely_read T.F_loosely_read.kp T.bb_loosely_read .nil passE0 (pa_cons (pv 0) pa_nil)))
      (pss_one (ps_if (PW.pt (pw_and (pt_val (pe_call G_is_time (hr.mono (by decide)) (by rfl) T.m_is_time T.F_is_time.kp T.bb_is_time .nil passE0 (pa_cons (pv 1) pa_nil))) (pw_and1 (pt_cmpR op_eq (pe_call G_time_text (hr.mono (by decide)) (by rfl) T.m_time_text T.F_time_text.kp T.bb_time_text .nil passE0 (pa_cons (pv 1) pa_nil)) (pv 0) (nomark _))))) (pss_one (ps_ret (pv 1))) pss_nil))) pss_nil)
      (pss_one (ps_raiseI T.XI_NoText G_NoText_init (hr.mono (by decide)) (by rfl) T.c_NoText T.bd_NoText_init T.dv_NoText_init (pa_cons pe_str pa_nil)))), ?_⟩
    have fin : ∀ {σ1 : St} {H1 : Hp}, Same H H1 → refuses A H E → tRaiseI E A.C_NoText (spNoText A) [V.int 0] (tCons (tC (V.str (Str.ofString "a time is written in seconds, with at most three figures behind a point"))) tNil) { nx := fun _ H' => Q .non H', rt := Q } σ1 H1 := by
      intro σ1 H1 s1 hr
      refine ⟨by decide, fun ea hea => ⟨ea, _, _, rfl, upd_same, fun dx hdx => ⟨rfl, some dx, ?_, ?_⟩⟩⟩
      · have ne : ea ≠ dx := fun z => by rw [← z, upd_same] at hdx; cases hdx
        rw [upd_ne ne, upd_same]
      · have ne : dx ≠ ea := fun z => by rw [z, upd_same] at hdx; cases hdx
        have hdx1 : H1 dx = none := by rw [upd_ne ne] at hdx; exact hdx
        refine hr dx _ (fun b o e => ?_) ?_
        · have b1 : b ≠ ea := ne_of_none (s1 _ _ e) hea
          have b2 : b ≠ dx := ne_of_none (s1 _ _ e) hdx1
          rw [dropH_ne b1, upd_ne b2, upd_ne b1, upd_ne b1]
          exact s1 _ _ e
        · rw [dropH_ne ne, upd_same]
    have isStr : PySem.W.kitOne K (.type "str") (.type "str") = some true := kit_sub (.inr (.inr (.inr rfl))) (.inr (.inr (.inl rfl)))
    rcases h with ⟨n, h0, h1, rfl, k⟩ | ⟨ny, hr⟩
    · refine seq_cut (fun _ _ => False) (fun N hN => ?_) (fun _ _ z => z.elim)
      refine ⟨_, rfl, _, _, _, _, rfl, .str _, isStr, _, rfl, iteT ?_⟩
      refine seq_cut (fun σ' H' => σ' = [some (.str (timeT n)), some (.int n)] ∧ Same H H') (fun N2 hN2 => ?_) ?_
      · refine ⟨_, rfl, timeT n, rfl, time_len h0 h1, fun v H' hv hw sm => ?_⟩
        have := hw n h0 h1 rfl
        subst this
        exact hN2 _ _ ⟨rfl, sm⟩
      rintro σ' H1 ⟨rfl, sm⟩
      refine ⟨_, rfl, _, _, rfl, Kd.intT h0 h1, _, rfl, iteT ?_⟩
      refine ⟨_, rfl, n, rfl, h0, h1, _, rfl, rfl, _, rfl, ?_⟩
      rw [decide_eq_true rfl]
      exact iteT ⟨_, rfl, k _ sm⟩
    · cases ny with
      | other _ ty ht hb =>
        refine seq_cut (fun _ H' => H' = H) (fun N hN => ?_) ?_
        · exact ⟨_, rfl, _, _, _, _, rfl, ht, hb, _, rfl, iteF (hN _ _ rfl)⟩
        · rintro σ' H1 rfl
          exact fin (Same.refl _) hr
      | txt t hl nt =>
        refine seq_cut (fun _ H' => Same H H') (fun N hN => ?_) ?_
        · refine ⟨_, rfl, _, _, _, _, rfl, .str _, isStr, _, rfl, iteT ?_⟩
          refine seq_cut (fun σ' H' => ∃ v, σ' = [some (.str t), some v] ∧ Same H H' ∧ (v = .non ∨ ∃ m : Int, v = .int m)) (fun N2 hN2 => ?_) ?_
          · exact ⟨_, rfl, t, rfl, hl, fun v H' hv hw sm => hN2 _ _ ⟨v, rfl, sm, hv⟩⟩
          rintro σ' H1 ⟨v, rfl, sm, hv⟩
          rcases hv with rfl | ⟨m, rfl⟩
          · refine ⟨_, rfl, _, _, rfl, .other _ "NoneType" false false .non (kit_sub (.inl rfl) (.inr (.inl rfl))) (kit_sub (.inl rfl) (.inl rfl)) rfl, _, rfl, iteF (iteF (hN _ _ sm))⟩
          · by_cases c : 0 ≤ m ∧ m ≤ 1000000000
            · refine ⟨_, rfl, _, _, rfl, Kd.intT c.1 c.2, _, rfl, iteT ?_⟩
              refine ⟨_, rfl, m, rfl, c.1, c.2, _, rfl, rfl, _, rfl, ?_⟩
              rw [decide_eq_false (fun z => nt m c.1 c.2 (V.str.inj z).symm)]
              exact iteF (hN _ _ sm)
            · refine ⟨_, rfl, _, _, rfl, Kd.intF (by omega), _, rfl, iteF (iteF (hN _ _ sm))⟩
        · rintro σ' H1 sm
          exact fin sm hr
def lampB (z : Str) : Bool := decide ((1 : Int) ≤ (z.length : Int)) && (decide ((z.length : Int) ≤ 8) && (cs z).all isLet)
inductive Lm (K : PySem.W.Frag) (H : Hp) : V → Bool → Prop
  | str (z : Str) (h : z.length ≤ 1000) : Lm K H (.str z) (lampB z)
  | other (x : V) (t : String) (ty : TyOf K H x (.type t)) (h : PySem.W.kitOne K (.type t) (.type "str") = some false) : Lm K H x false
def spLamp (K : PySem.W.Frag) : Sp := fun vs H Q _ => ∃ x c, vs = [x] ∧ Lm K H x c ∧ ∀ H', Same H H' → Q (.bl c) H'
theorem ok_is_lamp {P : Program} {w : World} {K : PySem.W.Frag} {mg : Str → Option Value} {base : Heap} {A : Adr} (T : Txt K mg A) : FnOk P w K mg base (CXE P w) 1 A.f_is_lamp A.d_is_lamp ["thing"] (spLamp K) := by
  refine T.F_is_lamp.okN sc_is_lamp (fun vs H Q E h => ?_) (fun cdv Ar outer s H vs Q E hr h => ?_)
  · obtain ⟨x, c, rfl, hk, k⟩ := h
    rfl
  · obtain ⟨x, c, rfl, hk, k⟩ := h
    refine ⟨_, (pss_cons (ps_if (pt_not (pt_val (pe_callB (call_isiT K) (by rfl) T.b_isinstance boot_isinstance (pa_cons (pv 0) (pa_cons (pe_ty (by rfl) T.b_str boot_strT) pa_nil))))) (pss_one (ps_ret pe_bl)) pss_nil)
      (pss_one (ps_ret (pe_and (pe_chain op_le op_le pe_int (pe_callB call_len_str (by rfl) T.b_len PySem.boot_len (pa_cons (pv 0) pa_nil)) (pe_gint (by rfl) T.g_MOST_LETTERS)) (pe_one (pe_callB (call_allB K rfl) (by rfl) T.b_all boot_all (pa_cons (pe_comp ["sign"] [none] rfl (pi_str (pv 0)) (fun _ _ _ => (pg_name (i := 0) ndc_is_lamp_0 rfl (Or.inl rfl))) (fun _ _ _ => (pe_cmpR op_in_str (pv 0) (pe_gstr (by rfl) T.g_LETTERS) (by with_unfolding_all rfl)))) pa_nil))))))), ?_⟩
    cases hk with
    | other _ t ty h =>
      refine seq_cut (fun _ _ => False) (fun N hN => ?_) (fun _ _ z => z.elim)
      exact ⟨_, rfl, _, _, _, _, rfl, ty, h, _, rfl, iteT (k _ (Same.refl _))⟩
    | str z hz =>
      refine seq_cut (fun σ' H' => σ' = [some (.str z)] ∧ H' = H) (fun N hN => ?_) ?_
      · exact ⟨_, rfl, _, _, _, _, rfl, .str z, kit_sub (.inr (.inr (.inr rfl))) (.inr (.inr (.inl rfl))), _, rfl, iteF (hN _ _ ⟨rfl, rfl⟩)⟩
      rintro σ' H1 ⟨rfl, rfl⟩
      unfold lampB at k
      refine ⟨_, rfl, _, rfl, le_line hz, _, _, rfl, rfl, _, rfl, ?_⟩
      by_cases c1 : (1 : Int) ≤ (z.length : Int)
      · rw [decide_eq_true c1] at k ⊢
        refine iteT ⟨_, _, rfl, rfl, _, rfl, ?_⟩
        by_cases c2 : (z.length : Int) ≤ 8
        · rw [decide_eq_true c2] at k ⊢
          refine iteT ?_
          refine ⟨_, rfl, _, rfl, fun D hD => comp_str isLet (fun σ => ∃ v, σ = [v]) hD hz ⟨_, rfl⟩ ?_ ?_⟩
          · rintro c σ' H' N' hc ⟨v, rfl⟩ q
            refine ⟨_, rfl, _, _, rfl, rfl, ?_⟩
            rw [show (!(Builtin.Str.occurrences (Str.ofString "abcdefghijklmnopqrstuvwxyz") ⟨#[c]⟩ 0 (Str.ofString "abcdefghijklmnopqrstuvwxyz").length 1).isEmpty) = isLet c from in_lets c]
            exact q _ ⟨_, rfl⟩
          · intro H' s' hD'
            refine ⟨D, _, rfl, SqL.of hD', ?_⟩
            have ea : ((cs z).map isLet).all id = (cs z).all isLet := by rw [List.all_map]; rfl
            rw [ea]
            exact k _ s'
        · rw [decide_eq_false c2] at k ⊢
          exact iteF (k _ (Same.refl _))
      · rw [decide_eq_false c1] at k ⊢
        exact iteF ⟨_, rfl, iteF (k _ (Same.refl _))⟩
abbrev sidesV : List V := [.str (Str.ofString "blue"), .str (Str.ofString "bright"), .str (Str.ofString "green"), .str (Str.ofString "pan"), .str (Str.ofString "red"), .str (Str.ofString "tilt")]
inductive Sd (K : PySem.W.Frag) (H : Hp) : V → Bool → Prop
  | str (z : Str) : Sd K H (.str z) (inV (.str z) sidesV)
  | other (x : V) (t : String) (ty : TyOf K H x (.type t)) (h : PySem.W.kitOne K (.type t) (.type "str") = some false) : Sd K H x false
def spSideP (K : PySem.W.Frag) : Sp := fun vs H Q _ => ∃ x c, vs = [x] ∧ Sd K H x c ∧ Q (.bl c) H
theorem ok_is_side {P : Program} {w : World} {K : PySem.W.Frag} {mg : Str → Option Value} {base : Heap} {A : Adr} (T : Txt K mg A) : FnOk P w K mg base (CXE P w) 1 A.f_is_side A.d_is_side ["thing"] (spSideP K) := by
  refine T.F_is_side.okN sc_is_side (fun vs H Q E h => ?_) (fun cdv Ar outer s H vs Q E hr h => ?_)
  · obtain ⟨x, c, rfl, hk, k⟩ := h
    rfl
  · obtain ⟨x, c, rfl, hk, k⟩ := h
    refine ⟨_, (pss_one (ps_ret (pe_and (pe_callB (call_isiT K) (by rfl) T.b_isinstance boot_isinstance (pa_cons (pv 0) (pa_cons (pe_ty (by rfl) T.b_str boot_strT) pa_nil))) (pe_one (pe_cmpR (op_in_seqK K) (pv 0) (pe_glob (v := V.ref _) (by rfl) T.g_SIDES rfl) (by with_unfolding_all rfl)))))), ?_⟩
    cases hk with
    | other _ t ty h => exact ⟨_, rfl, _, _, _, _, rfl, ty, h, _, rfl, iteF k⟩
    | str z =>
      refine ⟨_, rfl, _, _, _, _, rfl, .str z, kit_sub (.inr (.inr (.inr rfl))) (.inr (.inr (.inl rfl))), _, rfl, iteT ?_⟩
      exact ⟨_, rfl, _, _, rfl, .inr (T.s_SIDES _), rfl, rfl, k⟩
open PySem.NumText in
def wholeV (l : List Nat) (most : Int) : V := if l = [] ∨ (l.head? = some 48 ∧ l ≠ [48]) ∨ ¬ l.all isDig = true ∨ most < ((digitsVal l : Nat) : Int) then .non else .int ((digitsVal l : Nat) : Int)
def spWhole (K : PySem.W.Frag) : Sp := fun vs H Q _ => ∃ (z : Str) (most : Int), vs = [.str z, .int most] ∧ z.length ≤ 200 ∧ Q (wholeV (cs z) most) H
theorem zeroT : Str.ofString "0" = ⟨#[48]⟩ := str_one "0" 48 (by decide +kernel)
theorem ok_whole_of {P : Program} {w : World} {K : PySem.W.Frag} {mg : Str → Option Value} {base : Heap} {A : Adr} (T : Txt K mg A) : FnOk P w K mg base (CXE P w) 1 A.f_whole_of A.d_whole_of ["word", "most"] (spWhole K) := by
  refine T.F_whole_of.okN sc_whole_of (fun vs H Q E h => ?_) (fun cdv Ar outer s H vs Q E hr h => ?_)
  · obtain ⟨z, most, rfl, hz, k⟩ := h
    rfl
  · obtain ⟨z, most, rfl, hz, k⟩ := h
    refine ⟨_, (pss_cons (ps_if (PW.pt (pw_or (pt_not (pt_val (pe_callB (call_isiT K) (by rfl) T.b_isinstance boot_isinstance (pa_cons (pv 0) (pa_cons (pe_ty (by rfl) T.b_str boot_strT) pa_nil))))) (pw_or (pt_cmpR op_eq (pv 0) pe_str (nomark _)) (pw_or1 (PW.pt (pw_and (pt_val (pe_bmK K PySem.F.plainAttrs_str PySem.F.slot_str_startswith PySem.F.type_str_startswith mt_startswith (pv 0) (pa_cons pe_str pa_nil))) (pw_and1 (pt_cmpR op_ne (pv 0) pe_str (nomark _))))))))) (pss_one (ps_ret pe_non)) pss_nil)
      (pss_cons (ps_set (i := 2) sc_whole_of.nd rfl (Or.inl rfl) pe_int)
      (pss_cons (ps_for PassesOwn.never rfl (pi_str (pv 0)) (pg_name (i := 3) sc_whole_of.nd rfl (Or.inl rfl)) (pss_cons (ps_if (pt_cmpR op_notin_str (pv 3) (pe_gstr (by rfl) T.g_FIGURES) (by with_unfolding_all rfl)) (pss_one (ps_ret pe_non)) pss_nil)
      (pss_cons (ps_set (i := 2) sc_whole_of.nd rfl (Or.inl rfl) (pe_op op_add (pe_op op_mul (pv 2) pe_int) (pe_callTy call_intT (by rfl) T.b_int boot_int (pa_cons (pv 3) pa_nil))))
      (pss_one (ps_if (pt_cmpR op_gt (pv 2) (pv 1) (nomark _)) (pss_one (ps_ret pe_non)) pss_nil)))))
      (pss_one (ps_ret (pv 2)))))), ?_⟩
    have nay : (cs z = [] ∨ ((cs z).head? = some 48 ∧ cs z ≠ [48]) ∨ ¬ (cs z).all isDig = true ∨ most < ((PySem.NumText.digitsVal (cs z) : Nat) : Int)) → Q .non H := fun c => by
      unfold wholeV at k
      rw [if_pos c] at k
      exact k
    refine seq_cut (fun σ' H' => σ' = [some (.str z), some (.int most), none, none] ∧ H' = H ∧ cs z ≠ [] ∧ ¬ ((cs z).head? = some 48 ∧ cs z ≠ [48])) (fun N hN => ?_) ?_
    · refine ⟨_, rfl, _, _, _, _, rfl, .str z, kit_sub (.inr (.inr (.inr rfl))) (.inr (.inr (.inl rfl))), _, rfl, iteF ?_⟩
      refine ⟨_, rfl, rfl, _, rfl, ?_⟩
      by_cases c0 : cs z = []
      · rw [decide_eq_true (congrArg V.str (cs_inj (by rw [c0, cs_empty])))]
        exact iteT (iteT (nay (.inl c0)))
      rw [decide_eq_false (ne_text (by rw [cs_empty]; exact c0))]
      refine iteF ?_
      refine ⟨_, rfl, rfl, _, _, rfl, rfl, _, rfl, ?_⟩
      rw [show Txt.startswith z (Str.ofString "0") = decide ((cs z).head? = some 48) by rw [zeroT, starts_one]]
      by_cases c1 : (cs z).head? = some 48
      · rw [decide_eq_true c1]
        refine iteT ⟨_, rfl, rfl, _, rfl, ?_⟩
        by_cases c2 : cs z = [48]
        · rw [decide_eq_true (congrArg V.str (cs_inj (by rw [c2, cs_zero])))]
          exact iteF (hN _ _ ⟨rfl, rfl, c0, fun h => h.2 c2⟩)
        · rw [decide_eq_false (ne_text (by rw [cs_zero]; exact c2))]
          exact iteT (nay (.inr (.inl ⟨c1, c2⟩)))
      · rw [decide_eq_false c1]
        exact iteF (iteF (hN _ _ ⟨rfl, rfl, c0, fun h => c1 h.1⟩))
    rintro σ' H1 ⟨rfl, rfl, c0, c1⟩
    refine seq_cut (fun σ' H' => σ' = [some (.str z), some (.int most), some (.int 0), none] ∧ H' = H1) (fun N hN => hN _ _ ⟨rfl, rfl⟩) ?_
    rintro σ' H2 ⟨rfl, rfl⟩
    refine seq_cut (fun σ' H' => ∃ v1 : Option V, σ' = [some (.str z), some (.int most), some (.int (PySem.NumText.digitsVal (cs z))), v1] ∧ H' = H2 ∧ (cs z).all isDig = true ∧ ((PySem.NumText.digitsVal (cs z) : Nat) : Int) ≤ most) (fun N hN => ?_) ?_
    · refine ⟨_, rfl, z, rfl, ?_⟩
      refine for_str (fun i σ H' => ∃ v1 : Option V, σ = [some (.str z), some (.int most), some (.int (PySem.NumText.digitsVal ((cs z).take i))), v1] ∧ H' = H2 ∧ ((cs z).take i).all isDig = true ∧ (i = 0 ∨ ((PySem.NumText.digitsVal ((cs z).take i) : Nat) : Int) ≤ most)) ?_ ?_ ?_
      · exact ⟨_, rfl, rfl, rfl, .inl rfl⟩
      · rintro i c σ H3 hi ⟨v1, rfl, rfl, hd, _⟩
        have hi' : (cs z)[i]? = some c := by rw [← hi]; simp [cs]
        have et : (cs z).take (i + 1) = (cs z).take i ++ [c] := by rw [List.take_add_one, hi']; rfl
        by_cases hc : isDig c = true
        · refine seq_cut (fun σ' H' => σ' = [some (.str z), some (.int most), some (.int (PySem.NumText.digitsVal ((cs z).take i))), some (.str ⟨#[c]⟩)] ∧ H' = H3) (fun N2 hN2 => ?_) ?_
          · refine ⟨_, rfl, _, _, rfl, rfl, _, rfl, ?_⟩
            rw [show (!(Builtin.Str.occurrences (Str.ofString "0123456789") ⟨#[c]⟩ 0 (Str.ofString "0123456789").length 1).isEmpty) = isDig c from in_figs c, hc]
            exact iteF (hN2 _ _ ⟨rfl, rfl⟩)
          rintro σ' H4 ⟨rfl, rfl⟩
          have ec : cs (⟨#[c]⟩ : Str) = [c] := by simp [cs]
          refine seq_cut (fun σ' H' => σ' = [some (.str z), some (.int most), some (.int (PySem.NumText.digitsVal ((cs z).take (i + 1)))), some (.str ⟨#[c]⟩)] ∧ H' = H4) (fun N2 hN2 => ?_) ?_
          · refine ⟨_, rfl, _, _, rfl, rfl, .inr ⟨by decide, by decide⟩, _, rfl, _, rfl, ?_, ?_, ?_, _, _, rfl, rfl, hN2 _ _ ⟨?_, rfl⟩⟩
            · rw [ec]; intro d hd'; rw [List.mem_singleton] at hd'; subst hd'; exact isDig_iff.mp hc
            · rw [ec]; simp
            · show 1 ≤ 640; decide
            · have e1 := val_snoc ((cs z).take i) c hc
              have e2 := val_snoc [] c hc
              have e3 : PySem.NumText.digitsVal [] = 0 := rfl
              rw [List.nil_append, e3] at e2
              rw [et, e1, ec, e2]
              show [_, _, some (V.int (_ * 10 + _)), _] = _
              rw [show ((PySem.NumText.digitsVal ((cs z).take i) : Nat) : Int) * 10 + (10 * ((0 : Nat) : Int) + ((c : Int) - 48)) = 10 * ((PySem.NumText.digitsVal ((cs z).take i) : Nat) : Int) + ((c : Int) - 48) by omega]
          rintro σ' H5 ⟨rfl, rfl⟩
          refine ⟨_, rfl, _, rfl, _, _, rfl, rfl, _, rfl, ?_⟩
          by_cases c2 : most < ((PySem.NumText.digitsVal ((cs z).take (i + 1)) : Nat) : Int)
          · rw [decide_eq_true c2]
            refine iteT (nay ?_)
            by_cases ca : (cs z).all isDig = true
            · refine .inr (.inr (.inr ?_))
              have := val_mono ((cs z).drop (i + 1)) ((cs z).take (i + 1))
              rw [List.take_append_drop] at this
              omega
            · exact .inr (.inr (.inl ca))
          · rw [decide_eq_false c2]
            refine iteF ⟨_, rfl, rfl, ?_, .inr (by omega)⟩
            rw [et, List.all_append, hd]
            simp [hc]
        · refine seq_cut (fun _ _ => False) (fun N2 hN2 => ?_) (fun _ _ z => z.elim)
          refine ⟨_, rfl, _, _, rfl, rfl, _, rfl, ?_⟩
          rw [show (!(Builtin.Str.occurrences (Str.ofString "0123456789") ⟨#[c]⟩ 0 (Str.ofString "0123456789").length 1).isEmpty) = isDig c from in_figs c, Bool.eq_false_iff.mpr hc]
          exact iteT (nay (.inr (.inr (.inl fun all => hc (List.all_eq_true.mp all c (List.mem_of_getElem? hi'))))))
      · rintro σ H3 ⟨v1, rfl, rfl, hd, hm⟩
        have es : z.cps.size = (cs z).length := by simp [cs]
        rw [es, List.take_length] at hd hm
        refine hN _ _ ⟨v1, ?_, rfl, hd, ?_⟩
        · rw [es, List.take_length]
        · rcases hm with h | h
          · exact absurd (List.length_eq_zero_iff.mp h) c0
          · exact h
    rintro σ' H3 ⟨v1, rfl, rfl, hd, hm⟩
    unfold wholeV at k
    rw [if_neg (by rintro (h | h | h | h); exact c0 h; exact c1 h; exact h hd; omega)] at k
    exact ⟨_, rfl, k⟩
def spTicksOf : Sp := fun vs H Q _ => ∃ z : Str, vs = [.str z] ∧ z.length ≤ 100 ∧ ((∃ n : Int, 0 ≤ n ∧ n ≤ 1000000000 ∧ z = timeT n ∧ ∀ H', Same H H' → Q (.int n) H') ∨ (noTime z ∧ ∀ H', Same H H' → Q .non H'))
theorem ok_ticks_of {P : Program} {w : World} {K : PySem.W.Frag} {mg : Str → Option Value} {base : Heap} {A : Adr} (T : Txt K mg A) : FnOk P w K mg base (CXE P w) 5 A.f_ticks_of A.d_ticks_of ["word"] (spTicksOf) := by
  have G_time_of := ok_time_of (P := P) (w := w) (base := base) T
  refine T.F_ticks_of.okN sc_ticks_of (fun vs H Q E h => ?_) (fun cdv Ar outer s H vs Q E hr h => ?_)
  · obtain ⟨z, rfl, hz, h⟩ := h
    rfl
  · obtain ⟨z, rfl, hz, h⟩ := h
    refine ⟨_, (pss_one (ps_tryN K rfl rfl rfl (pb_ret (px_call rfl G_time_of (hr.mono (by decide)) (by rfl) T.m_time_of T.F_time_of.kp T.bb_time_of .nil (fun _ => (pa_cons (pv 0) pa_nil)))) (by rfl) T.c_NoText (fun _ => (pss_one (ps_ret pe_non))))), ?_⟩
    rcases h with ⟨n, n0, n1, rfl, k⟩ | ⟨hn, k⟩
    · exact ⟨_, rfl, _, rfl, .inl ⟨n, n0, n1, rfl, fun H' s => k H' s⟩⟩
    · exact ⟨_, rfl, _, rfl, .inr ⟨.txt z hz hn, fun dx H' s hdx => ⟨T.xe_NoText_NoText, fun ea hea => k _ (s.trans (Same.new hea))⟩⟩⟩
abbrev numT : Str := Str.ofString "NUMBER"
abbrev worT : Str := Str.ofString "WORTH"
abbrev levT : Str := Str.ofString "LEVEL"
abbrev timT : Str := Str.ofString "TIME"
abbrev sidT : Str := Str.ofString "SIDE"
inductive Th : Str → Str → V → Prop
  | num (w : Str) (h : w ≠ Str.ofString "0") : Th numT w (wholeV (cs w) 1000000000)
  | num0 : Th numT (Str.ofString "0") .non
  | worth (w : Str) : Th worT w (wholeV (cs w) 1000000000)
  | level (w : Str) : Th levT w (wholeV (cs w) 1000)
  | time (n : Int) (h0 : 0 ≤ n) (h1 : n ≤ 1000000000) : Th timT (timeT n) (.int n)
  | noTime (w : Str) (h : noTime w) : Th timT w .non
  | side (w : Str) (h : inV (.str w) sidesV = true) : Th sidT w (.str w)
  | noSide (w : Str) (h : inV (.str w) sidesV = false) : Th sidT w .non
  | name (k w : Str) (h : k ≠ numT ∧ k ≠ worT ∧ k ≠ levT ∧ k ≠ timT ∧ k ≠ sidT) (hw : lampB w = true) : Th k w (.str w)
  | noName (k w : Str) (h : k ≠ numT ∧ k ≠ worT ∧ k ≠ levT ∧ k ≠ timT ∧ k ≠ sidT) (hw : lampB w = false) : Th k w .non
theorem kinds_ne : worT ≠ numT ∧ levT ≠ numT ∧ timT ≠ numT ∧ sidT ≠ numT ∧ levT ≠ worT ∧ timT ≠ worT ∧ sidT ≠ worT ∧ timT ≠ levT ∧ sidT ≠ levT ∧ sidT ≠ timT := by decide +kernel
theorem deT {a b : Str} (h : a = b) : decide (V.str a = V.str b) = true := decide_eq_true (by rw [h])
theorem deF {a b : Str} (h : a ≠ b) : decide (V.str a = V.str b) = false := decide_eq_false fun z => h (by injection z)
def spThing : Sp := fun vs H Q _ => ∃ (k w : Str) (v : V), vs = [.str k, .str w] ∧ Th k w v ∧ w.length ≤ 100 ∧ ∀ H', Same H H' → Q v H'
theorem ok_thing_of {P : Program} {w : World} {K : PySem.W.Frag} {mg : Str → Option Value} {base : Heap} {A : Adr} (T : Txt K mg A) : FnOk P w K mg base (CXE P w) 6 A.f_thing_of A.d_thing_of ["kind", "word"] (spThing) := by
  have G_is_lamp := ok_is_lamp (P := P) (w := w) (base := base) T
  have G_is_side := ok_is_side (P := P) (w := w) (base := base) T
  have G_ticks_of := ok_ticks_of (P := P) (w := w) (base := base) T
  have G_whole_of := ok_whole_of (P := P) (w := w) (base := base) T
  refine T.F_thing_of.okN sc_thing_of (fun vs H Q E h => ?_) (fun cdv Ar outer s H vs Q E hr h => ?_)
  · obtain ⟨kk, w, v, rfl, ht, hw, k⟩ := h
    rfl
  · obtain ⟨kk, w, v, rfl, ht, hw, k⟩ := h
    refine ⟨_, (pss_cons (ps_if (pt_cmpR op_eq (pv 0) pe_str (nomark _)) (pss_one (ps_ret (pe_ifExp (pt_cmpR op_eq (pv 1) pe_str (nomark _)) pe_non (pe_call G_whole_of (hr.mono (by decide)) (by rfl) T.m_whole_of T.F_whole_of.kp T.bb_whole_of .nil passE0 (pa_cons (pv 1) (pa_cons (pe_gint (by rfl) T.g_MOST_NUMBER) pa_nil)))))) pss_nil)
      (pss_cons (ps_if (pt_cmpR op_eq (pv 0) pe_str (nomark _)) (pss_one (ps_ret (pe_call G_whole_of (hr.mono (by decide)) (by rfl) T.m_whole_of T.F_whole_of.kp T.bb_whole_of .nil passE0 (pa_cons (pv 1) (pa_cons (pe_gint (by rfl) T.g_MOST_WORTH) pa_nil))))) pss_nil)
      (pss_cons (ps_if (pt_cmpR op_eq (pv 0) pe_str (nomark _)) (pss_one (ps_ret (pe_call G_whole_of (hr.mono (by decide)) (by rfl) T.m_whole_of T.F_whole_of.kp T.bb_whole_of .nil passE0 (pa_cons (pv 1) (pa_cons (pe_gint (by rfl) T.g_MOST_LEVEL) pa_nil))))) pss_nil)
      (pss_cons (ps_if (pt_cmpR op_eq (pv 0) pe_str (nomark _)) (pss_one (ps_ret (pe_call G_ticks_of (hr.mono (by decide)) (by rfl) T.m_ticks_of T.F_ticks_of.kp T.bb_ticks_of .nil passE0 (pa_cons (pv 1) pa_nil)))) pss_nil)
      (pss_cons (ps_if (pt_cmpR op_eq (pv 0) pe_str (nomark _)) (pss_one (ps_ret (pe_ifExp (pt_val (pe_call G_is_side (hr.mono (by decide)) (by rfl) T.m_is_side T.F_is_side.kp T.bb_is_side .nil passE0 (pa_cons (pv 1) pa_nil))) (pv 1) pe_non))) pss_nil)
      (pss_one (ps_ret (pe_ifExp (pt_val (pe_call G_is_lamp (hr.mono (by decide)) (by rfl) T.m_is_lamp T.F_is_lamp.kp T.bb_is_lamp .nil passE0 (pa_cons (pv 1) pa_nil))) (pv 1) pe_non)))))))), ?_⟩
    obtain ⟨e1, e2, e3, e4, e5, e6, e7, e8, e9, e10⟩ := kinds_ne
    cases ht with
    | num _ h =>
      refine seq_cut (fun _ _ => False) (fun N hN => ?_) (fun _ _ z => z.elim)
      refine ⟨_, rfl, rfl, _, rfl, ?_⟩
      rw [deT rfl]
      refine iteT ⟨_, rfl, rfl, _, rfl, ?_⟩
      rw [deF h]
      exact iteF ⟨_, rfl, _, _, rfl, by omega, k _ (Same.refl _)⟩
    | num0 =>
      refine seq_cut (fun _ _ => False) (fun N hN => ?_) (fun _ _ z => z.elim)
      refine ⟨_, rfl, rfl, _, rfl, ?_⟩
      rw [deT rfl]
      refine iteT ⟨_, rfl, rfl, _, rfl, ?_⟩
      rw [deT rfl]
      exact iteT (k _ (Same.refl _))
    | worth =>
      refine seq_cut2 (fun _ _ => False) (fun N hN => ?_) (fun _ _ z => z.elim)
      refine ⟨_, rfl, rfl, _, rfl, ?_⟩
      rw [deF e1]
      refine iteF ⟨_, rfl, rfl, _, rfl, ?_⟩
      rw [deT rfl]
      exact iteT ⟨_, rfl, _, _, rfl, by omega, k _ (Same.refl _)⟩
    | level =>
      refine seq_cut3 (fun _ _ => False) (fun N hN => ?_) (fun _ _ z => z.elim)
      refine ⟨_, rfl, rfl, _, rfl, ?_⟩
      rw [deF e2]
      refine iteF ⟨_, rfl, rfl, _, rfl, ?_⟩
      rw [deF e5]
      refine iteF ⟨_, rfl, rfl, _, rfl, ?_⟩
      rw [deT rfl]
      exact iteT ⟨_, rfl, _, _, rfl, by omega, k _ (Same.refl _)⟩
    | time n h0 h1 =>
      refine seq_cut4 (fun _ _ => False) (fun N hN => ?_) (fun _ _ z => z.elim)
      refine ⟨_, rfl, rfl, _, rfl, ?_⟩
      rw [deF e3]
      refine iteF ⟨_, rfl, rfl, _, rfl, ?_⟩
      rw [deF e6]
      refine iteF ⟨_, rfl, rfl, _, rfl, ?_⟩
      rw [deF e8]
      refine iteF ⟨_, rfl, rfl, _, rfl, ?_⟩
      rw [deT rfl]
      exact iteT ⟨_, rfl, _, rfl, hw, .inl ⟨n, h0, h1, rfl, k⟩⟩
    | noTime _ h =>
      refine seq_cut4 (fun _ _ => False) (fun N hN => ?_) (fun _ _ z => z.elim)
      refine ⟨_, rfl, rfl, _, rfl, ?_⟩
      rw [deF e3]
      refine iteF ⟨_, rfl, rfl, _, rfl, ?_⟩
      rw [deF e6]
      refine iteF ⟨_, rfl, rfl, _, rfl, ?_⟩
      rw [deF e8]
      refine iteF ⟨_, rfl, rfl, _, rfl, ?_⟩
      rw [deT rfl]
      exact iteT ⟨_, rfl, _, rfl, hw, .inr ⟨h, k⟩⟩
    | side _ h =>
      refine ⟨_, rfl, rfl, _, rfl, ?_⟩
      rw [deF e4]
      refine iteF ⟨_, rfl, rfl, _, rfl, ?_⟩
      rw [deF e7]
      refine iteF ⟨_, rfl, rfl, _, rfl, ?_⟩
      rw [deF e9]
      refine iteF ⟨_, rfl, rfl, _, rfl, ?_⟩
      rw [deF e10]
      refine iteF ⟨_, rfl, rfl, _, rfl, ?_⟩
      rw [deT rfl]
      refine iteT ⟨_, rfl, _, _, rfl, .str w, _, rfl, ?_⟩
      rw [h]
      exact iteT ⟨_, rfl, k _ (Same.refl _)⟩
    | noSide _ h =>
      refine ⟨_, rfl, rfl, _, rfl, ?_⟩
      rw [deF e4]
      refine iteF ⟨_, rfl, rfl, _, rfl, ?_⟩
      rw [deF e7]
      refine iteF ⟨_, rfl, rfl, _, rfl, ?_⟩
      rw [deF e9]
      refine iteF ⟨_, rfl, rfl, _, rfl, ?_⟩
      rw [deF e10]
      refine iteF ⟨_, rfl, rfl, _, rfl, ?_⟩
      rw [deT rfl]
      refine iteT ⟨_, rfl, _, _, rfl, .str w, _, rfl, ?_⟩
      rw [h]
      exact iteF (k _ (Same.refl _))
    | name _ _ h hl =>
      obtain ⟨h1, h2, h3, h4, h5⟩ := h
      refine ⟨_, rfl, rfl, _, rfl, ?_⟩
      rw [deF h1]
      refine iteF ⟨_, rfl, rfl, _, rfl, ?_⟩
      rw [deF h2]
      refine iteF ⟨_, rfl, rfl, _, rfl, ?_⟩
      rw [deF h3]
      refine iteF ⟨_, rfl, rfl, _, rfl, ?_⟩
      rw [deF h4]
      refine iteF ⟨_, rfl, rfl, _, rfl, ?_⟩
      rw [deF h5]
      refine iteF ⟨_, rfl, _, _, rfl, .str w (by omega), fun H' s => ⟨_, rfl, ?_⟩⟩
      rw [hl]
      exact iteT ⟨_, rfl, k _ s⟩
    | noName _ _ h hl =>
      obtain ⟨h1, h2, h3, h4, h5⟩ := h
      refine ⟨_, rfl, rfl, _, rfl, ?_⟩
      rw [deF h1]
      refine iteF ⟨_, rfl, rfl, _, rfl, ?_⟩
      rw [deF h2]
      refine iteF ⟨_, rfl, rfl, _, rfl, ?_⟩
      rw [deF h3]
      refine iteF ⟨_, rfl, rfl, _, rfl, ?_⟩
      rw [deF h4]
      refine iteF ⟨_, rfl, rfl, _, rfl, ?_⟩
      rw [deF h5]
      refine iteF ⟨_, rfl, _, _, rfl, .str w (by omega), fun H' s => ⟨_, rfl, ?_⟩⟩
      rw [hl]
      exact iteF (k _ s)
inductive Go : List Str → List Str → Option (List V) → Prop
  | nil : Go [] [] (some [])
  | lit (k : Str) (ks ws : List Str) (r : Option (List V)) (h : Txt.islower k = true) (t : Go ks ws r) : Go (k :: ks) (k :: ws) r
  | litNo (k w : Str) (ks ws : List Str) (h : Txt.islower k = true) (hw : w ≠ k) : Go (k :: ks) (w :: ws) none
  | thing (k w : Str) (v : V) (ks ws : List Str) (r : Option (List V)) (h : Txt.islower k = false) (ht : Th k w v) (hv : v ≠ .non) (t : Go ks ws r) : Go (k :: ks) (w :: ws) (r.map (v :: ·))
  | thingNo (k w : Str) (ks ws : List Str) (h : Txt.islower k = false) (ht : Th k w .non) : Go (k :: ks) (w :: ws) none
def Tb (ks ws : List Str) (r : Option (List V)) : Prop := (ks.length ≠ ws.length ∧ r = none) ∨ (ks.length = ws.length ∧ Go ks ws r)
def spThings : Sp := fun vs H Q _ => ∃ (L M : Addr) (ks ws : List Str) (r : Option (List V)), vs = [.ref L, .ref M] ∧ H L = some (.lst (ks.map V.str)) ∧ H M = some (.lst (ws.map V.str)) ∧ ks.length ≤ 100 ∧ (∀ w ∈ ws, w.length ≤ 100) ∧ Tb ks ws r ∧
  (r = none → ∀ H', Same H H' → Q .non H') ∧ ∀ vs, r = some vs → ∀ N H', H N = none → Same H H' → H' N = some (.lst vs) → Q (.ref N) H'
theorem ok_things_by {P : Program} {w : World} {K : PySem.W.Frag} {mg : Str → Option Value} {base : Heap} {A : Adr} (T : Txt K mg A) : FnOk P w K mg base (CXE P w) 7 A.f_things_by A.d_things_by ["form", "words"] (spThings) := by
  have G_thing_of := ok_thing_of (P := P) (w := w) (base := base) T
  refine T.F_things_by.okN sc_things_by (fun vs H Q E h => ?_) (fun cdv Ar outer s H vs Q E hr h => ?_)
  · obtain ⟨L, M, ks, ws, r, rfl, hL, hM, hkl, hwl, hb, kn, ks'⟩ := h
    rfl
  · obtain ⟨L, M, ks, ws, r, rfl, hL, hM, hkl, hwl, hb, kn, ks'⟩ := h
    refine ⟨_, (pss_cons (ps_if (pt_cmpR op_ne (pe_callB (call_lenK K) (by rfl) T.b_len PySem.boot_len (pa_cons (pv 1) pa_nil)) (pe_callB (call_lenK K) (by rfl) T.b_len PySem.boot_len (pa_cons (pv 0) pa_nil)) (nomark _)) (pss_one (ps_ret pe_non)) pss_nil)
      (pss_cons (ps_set (i := 2) sc_things_by.nd rfl (Or.inl rfl) (pe_lstS pa_nil))
      (pss_cons (ps_for PassesOwn.never rfl (pi_zip K (by rfl) T.b_zip (pa_cons (pv 0) (pa_cons (pv 1) pa_nil))) (pg_tupK (n := 2) K rfl (pgs_cons (pg_name (i := 3) sc_things_by.nd rfl (Or.inl rfl)) (pgs_cons (pg_name (i := 4) sc_things_by.nd rfl (Or.inl rfl)) pgs_nil))) (pss_one (ps_if (pt_val (pe_bm0K K PySem.F.plainAttrs_str PySem.F.slot_str_islower PySem.F.type_str_islower mt_islower (pv 3))) (pss_one (ps_if (pt_cmpR op_ne (pv 4) (pv 3) (nomark _)) (pss_one (ps_ret pe_non)) pss_nil)) (pss_cons (ps_set (i := 5) sc_things_by.nd rfl (Or.inl rfl) (pe_call G_thing_of (hr.mono (by decide)) (by rfl) T.m_thing_of T.F_thing_of.kp T.bb_thing_of .nil passE0 (pa_cons (pv 3) (pa_cons (pv 4) pa_nil))))
      (pss_cons (ps_if (pt_cmp (pc_isN (pv 5))) (pss_one (ps_ret pe_non)) pss_nil)
      (pss_one (ps_expr (pe_bmK K PySem.F.plainAttrs_list PySem.F.slot_list_append PySem.F.type_list_append mt_append (pv 2) (pa_cons (pv 5) pa_nil)))))))))
      (pss_one (ps_ret (pv 2)))))), ?_⟩
    have lk : (ks.map V.str).length = ks.length := List.length_map _
    have lw : (ws.map V.str).length = ws.length := List.length_map _
    rcases hb with ⟨hne, hr⟩ | ⟨heq, hg⟩
    · refine seq_cut (fun _ _ => False) (fun N hN => ?_) (fun _ _ z => z.elim)
      refine ⟨_, rfl, M, _, rfl, .inl (SqL.of hM), _, rfl, L, _, rfl, .inl (SqL.of hL), rfl, _, rfl, ?_⟩
      rw [lk, lw, decide_eq_false (show ¬ V.int (ws.length : Int) = V.int (ks.length : Int) from fun z => hne (by have := V.int.inj z; omega))]
      exact iteT (kn hr _ (Same.refl _))
    refine seq_cut2 (fun σ' H' => ∃ S, σ' = [some (.ref L), some (.ref M), some (.ref S), none, none, none] ∧ H S = none ∧ H' S = some (.lst []) ∧ Same H H') (fun N hN => ?_) ?_
    · refine ⟨_, rfl, M, _, rfl, .inl (SqL.of hM), _, rfl, L, _, rfl, .inl (SqL.of hL), rfl, _, rfl, ?_⟩
      rw [lk, lw, decide_eq_true (show V.int (ws.length : Int) = V.int (ks.length : Int) by rw [heq])]
      exact iteF ⟨by decide, fun S hS => hN _ _ ⟨S, rfl, hS, upd_same, Same.new hS⟩⟩
    rintro σ' H1 ⟨S, rfl, nS, hS, s1⟩
    refine seq_cut (fun σ' H' => ∃ v3 v4 v5 acc, σ' = [some (.ref L), some (.ref M), some (.ref S), v3, v4, v5] ∧ H' S = some (.lst acc) ∧ Same H H' ∧ r = some acc) (fun N hN => ?_) ?_
    · refine ⟨_, rfl, _, rfl, L, M, _, _, rfl, SqL.of (s1 _ _ hL), SqL.of (s1 _ _ hM), ?_⟩
      refine for_zip (K := K) (xs := ks.map V.str) (ys := ws.map V.str) (fun i σ' G => ∃ v3 v4 v5 acc ri, σ' = [some (.ref L), some (.ref M), some (.ref S), v3, v4, v5] ∧ G S = some (.lst acc) ∧ acc.length ≤ i ∧ Same H G ∧ Go (ks.drop i) (ws.drop i) ri ∧ r = ri.map (acc ++ ·)) (by rw [lk, lw]; exact heq) ⟨none, none, none, [], r, rfl, hS, Nat.le_refl _, s1, hg, by cases r <;> rfl⟩ ?_ ?_ ?_
      · rintro i σ' G _ ⟨_, _, _, _, _, _, _, _, sm, _⟩
        exact ⟨SqL.of (sm _ _ hL), SqL.of (sm _ _ hM)⟩
      · rintro i x y q σ' G hx hy ⟨v3, v4, v5, acc, ri, rfl, gS, hal, sm, go, hri⟩ hqn
        rw [List.getElem?_map] at hx hy
        cases hki : ks[i]? with
        | none => rw [hki] at hx; cases hx
        | some kd =>
          cases hwi : ws[i]? with
          | none => rw [hwi] at hy; cases hy
          | some wd =>
            rw [hki] at hx
            rw [hwi] at hy
            obtain rfl : V.str kd = x := by simpa using hx
            obtain rfl : V.str wd = y := by simpa using hy
            have hil : i < ks.length := (List.getElem?_eq_some_iff.mp hki).1
            have ek : ks.drop i = kd :: ks.drop (i + 1) := by rw [List.drop_eq_getElem_cons hil, (List.getElem?_eq_some_iff.mp hki).2]
            have hil2 : i < ws.length := (List.getElem?_eq_some_iff.mp hwi).1
            have ew : ws.drop i = wd :: ws.drop (i + 1) := by rw [List.drop_eq_getElem_cons hil2, (List.getElem?_eq_some_iff.mp hwi).2]
            rw [ek, ew] at go
            have hwd := hwl wd (List.mem_of_getElem? hwi)
            have sq := Same.new (o := HO.tup [V.str kd, V.str wd]) hqn
            have eq : (upd G q (HO.tup [V.str kd, V.str wd])) q = some (HO.tup [V.str kd, V.str wd]) := upd_same
            have gS1 := sq _ _ gS
            have sm1 := sm.trans sq
            generalize upd G q (HO.tup [V.str kd, V.str wd]) = G1 at sq eq gS1 sm1 ⊢
            refine ⟨q, _, rfl, SqT.of eq, rfl, ?_⟩
            refine ⟨_, _, rfl, _, _, rfl, rfl, ?_⟩
            cases go with
            | lit _ _ _ _ h t =>
              refine ⟨_, rfl, rfl, _, rfl, rfl, _, rfl, ?_⟩
              rw [h]
              refine iteT ⟨_, rfl, _, rfl, rfl, _, rfl, ?_⟩
              rw [deT rfl]
              exact iteF ⟨_, _, _, acc, ri, rfl, gS1, by omega, sm1, t, hri⟩
            | litNo _ _ _ _ h hw =>
              refine ⟨_, rfl, rfl, _, rfl, rfl, _, rfl, ?_⟩
              rw [h]
              refine iteT ⟨_, rfl, _, rfl, rfl, _, rfl, ?_⟩
              rw [deF hw]
              exact iteT (kn hri _ sm1)
            | thing _ _ v _ _ ri' h ht hv t =>
              refine ⟨_, rfl, rfl, _, rfl, rfl, _, rfl, ?_⟩
              rw [h]
              refine iteF ⟨_, rfl, _, rfl, kd, wd, v, rfl, ht, hwd, fun G2 s2 => ?_⟩
              refine ⟨_, rfl, _, rfl, ?_⟩
              rw [decide_eq_false hv]
              have gS2 := s2 _ _ gS1
              refine iteF ⟨_, rfl, .inl ⟨rfl, _, SqL.of gS2⟩, _, rfl, S, _, _, rfl, rfl, gS2, Nat.lt_of_lt_of_le (show acc.length < 1000 by omega) (by decide), ⟨_, _, _, acc ++ [v], ri', rfl, upd_same, by rw [List.length_append]; simp; omega, (sm1.trans s2).upd nS, t, ?_⟩⟩
              rw [hri]
              cases ri' with
              | none => rfl
              | some l => simp
            | thingNo _ _ _ _ h ht =>
              refine ⟨_, rfl, rfl, _, rfl, rfl, _, rfl, ?_⟩
              rw [h]
              refine iteF ⟨_, rfl, _, rfl, kd, wd, .non, rfl, ht, hwd, fun G2 s2 => ?_⟩
              exact ⟨_, rfl, _, rfl, iteT (kn hri _ (sm1.trans s2))⟩
      · rintro σ' G ⟨v3, v4, v5, acc, ri, rfl, gS, hal, sm, go, hri⟩
        rw [lk, List.drop_length, heq, List.drop_length] at go
        cases go
        exact hN _ _ ⟨v3, v4, v5, acc, rfl, gS, sm, by rw [hri]; simp⟩
    rintro σ' H2 ⟨v3, v4, v5, acc, rfl, hS2, s2, hr⟩
    exact ⟨_, rfl, ks' acc hr S H2 nS s2 hS2⟩
abbrev blankT : Str := Str.ofString " "
def deedsT : List Str := [Str.ofString "go", Str.ofString "back", Str.ofString "goto NUMBER", Str.ofString "stop", Str.ofString "on", Str.ofString "put NUMBER TIME TIME TIME", Str.ofString "put NUMBER TIME TIME TIME follow TIME", Str.ofString "out NUMBER", Str.ofString "keep NUMBER", Str.ofString "tell NUMBER LAMP SIDE WORTH", Str.ofString "alone NUMBER LAMP SIDE WORTH", Str.ofString "untell NUMBER LAMP SIDE", Str.ofString "block NUMBER", Str.ofString "unblock NUMBER", Str.ofString "fill NAME LAMP SIDE WORTH", Str.ofString "move NAME LEVEL", Str.ofString "down LEVEL", Str.ofString "spare LAMP"]
abbrev lamT : Str := Str.ofString "LAMP"
abbrev namT : Str := Str.ofString "NAME"
abbrev folT : Str := Str.ofString "follow"
def formsT : List (List Str) := [[Str.ofString "go"], [Str.ofString "back"], [Str.ofString "goto", numT], [Str.ofString "stop"], [Str.ofString "on"], [Str.ofString "put", numT, timT, timT, timT], [Str.ofString "put", numT, timT, timT, timT, folT, timT], [Str.ofString "out", numT], [Str.ofString "keep", numT], [Str.ofString "tell", numT, lamT, sidT, worT], [Str.ofString "alone", numT, lamT, sidT, worT], [Str.ofString "untell", numT, lamT, sidT], [Str.ofString "block", numT], [Str.ofString "unblock", numT], [Str.ofString "fill", namT, lamT, sidT, worT], [Str.ofString "move", namT, levT], [Str.ofString "down", levT], [Str.ofString "spare", lamT]]
theorem blank_is : blankT = ⟨#[32]⟩ := str_one " " 32 (by decide +kernel)
theorem forms_are : deedsT.map (fun d => Txt.split d blankT) = formsT := by decide +kernel
theorem forms_short : ∀ f ∈ formsT, f.length ≤ 100 := by decide +kernel
theorem deeds_short : ∀ d ∈ deedsT, d.length ≤ 900 := by decide +kernel
inductive RowOk : List Str → Str → Int → Str → List V → Prop
  | mk (h tk w : Str) (r : List Str) (n : Int) (pre post : List (List Str)) (f : List Str) (vs : List V) (hl : lampB h = true) (ht : wholeV (cs tk) 999999999999 = .int n) (hf : formsT = pre ++ f :: post) (hp : ∀ g ∈ pre, Tb g (w :: r) none) (ho : Tb f (w :: r) (some vs)) : RowOk (h :: tk :: w :: r) h n w vs
inductive RowNo : List Str → Prop
  | hand (h : Str) (r : List Str) (hl : lampB h = false) : RowNo (h :: r)
  | one (h : Str) : RowNo [h]
  | tick (h tk : Str) (r : List Str) (ht : wholeV (cs tk) 999999999999 = .non) : RowNo (h :: tk :: r)
  | deed (h tk : Str) (r : List Str) (n : Int) (ht : wholeV (cs tk) 999999999999 = .int n) (hn : ∀ g ∈ formsT, Tb g r none) : RowNo (h :: tk :: r)
theorem cut_from (xs : List V) (k : Nat) (h : k ≤ xs.length) : cutV xs (some (k : Int)) none = xs.drop k := by
  unfold cutV
  rw [HT.sIx_none, HT.sIx_nat, Nat.min_eq_left h, List.take_of_length_le (by rw [List.length_drop]; omega)]
theorem form_at {i : Nat} {d : Str} (h : deedsT[i]? = some d) : ∃ f, formsT[i]? = some f ∧ Txt.split d blankT = f := by
  refine ⟨_, ?_, rfl⟩
  rw [← forms_are, List.getElem?_map, h]
  rfl
inductive NoRowV (K : PySem.W.Frag) (H : Hp) : V → Prop
  | other (x : V) (t : String) (ty : TyOf K H x (.type t)) (h : PySem.W.kitOne K (.type t) (.type "str") = some false) : NoRowV K H x
  | txt (z : Str) (hz : z.length ≤ 800) (hw : ∀ w ∈ Txt.split z blankT, w.length ≤ 100) (h : RowNo (Txt.split z blankT)) : NoRowV K H (.str z)
def spRowX (K : PySem.W.Frag) (A : Adr) : Sp := fun vs H _ E => ∃ x, vs = [x] ∧ NoRowV K H x ∧ ∀ H', Same H H' → E (.ref A.C_NoRow) none H'
def spRowG : Sp := fun vs H Q _ => ∃ (z h w : Str) (n : Int) (os : List V), vs = [.str z] ∧ z.length ≤ 800 ∧ (∀ w ∈ Txt.split z blankT, w.length ≤ 100) ∧ RowOk (Txt.split z blankT) h n w os ∧ ∀ p N H', H N = none → Same H H' → H' p = some (.tup [.str h, .int n, .str w, .ref N]) → H' N = some (.lst os) → Q (.ref p) H'
theorem okG_row_of {P : Program} {w : World} {K : PySem.W.Frag} {mg : Str → Option Value} {base : Heap} {A : Adr} (T : Txt K mg A) : FnOk P w K mg base (CXE P w) 8 A.f_row_of A.d_row_of ["row"] (spRowG) := by
  have G_is_lamp := ok_is_lamp (P := P) (w := w) (base := base) T
  have G_things_by := ok_things_by (P := P) (w := w) (base := base) T
  have G_whole_of := ok_whole_of (P := P) (w := w) (base := base) T
  refine T.F_row_of.okE sc_row_of (fun vs H Q E h => ?_) (fun cdv Ar outer s H vs Q E hr h => ?_)
  · obtain ⟨z, h, w, n, os, rfl, hz, hwl, hok, k⟩ := h
    rfl
  · obtain ⟨z, h, w, n, os, rfl, hz, hwl, hok, k⟩ := h
    refine ⟨_, (pss_cons (ps_if (pt_not (pt_val (pe_callB (call_isiT K) (by rfl) T.b_isinstance boot_isinstance (pa_cons (pv 0) (pa_cons (pe_ty (by rfl) T.b_str boot_strT) pa_nil))))) (pss_one (ps_raise T.x_NoRow (by rfl) T.c_NoRow (pa_cons pe_str pa_nil))) pss_nil)
      (pss_cons (ps_set (i := 1) sc_row_of.nd rfl (Or.inl rfl) (pe_bmK K PySem.F.plainAttrs_str PySem.F.slot_str_split PySem.F.type_str_split mt_split (pv 0) (pa_cons pe_str pa_nil)))
      (pss_cons (ps_set (i := 2) sc_row_of.nd rfl (Or.inl rfl) (pe_ifExp (pt_cmpR op_gt (pe_callB (call_lenK K) (by rfl) T.b_len PySem.boot_len (pa_cons (pv 1) pa_nil)) pe_int (nomark _)) (pe_call G_whole_of (hr.mono (by decide)) (by rfl) T.m_whole_of T.F_whole_of.kp T.bb_whole_of .nil passE0 (pa_cons (pe_ix (ix_listK K) (pv 1) pe_int (fun _ _ => rfl)) (pa_cons (pe_gint (by rfl) T.g_MOST_TICK) pa_nil))) pe_non))
      (pss_cons (ps_if (PW.pt (pw_or (pt_not (pt_val (pe_call G_is_lamp (hr.mono (by decide)) (by rfl) T.m_is_lamp T.F_is_lamp.kp T.bb_is_lamp .nil passE0 (pa_cons (pe_ix (ix_listK K) (pv 1) pe_int (fun _ _ => rfl)) pa_nil)))) (pw_or1 (pt_cmp (pc_isN (pv 2)))))) (pss_one (ps_raise T.x_NoRow (by rfl) T.c_NoRow (pa_cons pe_str pa_nil))) pss_nil)
      (pss_cons (ps_for PassesOwn.leaving rfl (pi_tupK K (pe_glob (v := V.ref _) (by rfl) T.g_DEEDS rfl)) (pg_name (i := 3) sc_row_of.nd rfl (Or.inl rfl)) (pss_cons (ps_set (i := 4) sc_row_of.nd rfl (Or.inl rfl) (pe_call G_things_by (hr.mono (by decide)) (by rfl) T.m_things_by T.F_things_by.kp T.bb_things_by .nil passE0 (pa_cons (pe_bmK K PySem.F.plainAttrs_str PySem.F.slot_str_split PySem.F.type_str_split mt_split (pv 3) (pa_cons pe_str pa_nil)) (pa_cons (pe_slice (sl_listK K) (pv 1) (po_some pe_int) po_none) pa_nil))))
      (pss_one (ps_if (pt_cmp (pc_notN (pv 4))) (pss_one (ps_ret (pe_tupS (pa_cons (pe_ix (ix_listK K) (pv 1) pe_int (fun _ _ => rfl)) (pa_cons (pv 2) (pa_cons (pe_ix (ix_listK K) (pv 1) pe_int (fun _ _ => rfl)) (pa_cons (pv 4) pa_nil))))))) pss_nil))))
      (pss_one (ps_raise T.x_NoRow (by rfl) T.c_NoRow (pa_cons pe_str pa_nil)))))))), ?_⟩
    generalize hws : Txt.split z blankT = ws at hwl hok
    cases hok with
    | mk _ tk _ r _ pre post f _ hl ht hf hp ho =>
      have hh := hwl h (by simp)
      have htk := hwl tk (by simp)
      have hlen : formsT.length = 18 := by decide +kernel
      have hdl : deedsT.length = 18 := by decide +kernel
      refine seq_cut2 (fun σ' H' => ∃ L, σ' = [some (.str z), some (.ref L), none, none, none] ∧ Same H H' ∧ H' L = some (.lst ((h :: tk :: w :: r).map V.str))) (fun N hN => ?_) ?_
      · refine ⟨_, rfl, _, _, _, _, rfl, .str z, kit_sub (.inr (.inr (.inr rfl))) (.inr (.inr (.inl rfl))), _, rfl, iteF ?_⟩
        refine ⟨_, rfl, rfl, z, blankT, rfl, rfl, by decide +kernel, by omega, fun L hL => ?_⟩
        rw [hws]
        exact hN _ _ ⟨L, rfl, Same.new hL, upd_same⟩
      rintro σ' H1 ⟨L, rfl, s1, hL⟩
      refine seq_cut2 (fun σ' H' => σ' = [some (.str z), some (.ref L), some (.int n), none, none] ∧ Same H1 H') (fun N hN => ?_) ?_
      · refine ⟨_, rfl, L, _, rfl, .inl (SqL.of hL), _, _, rfl, rfl, _, rfl, ?_⟩
        rw [show decide ((1 : Int) < (((h :: tk :: w :: r).map V.str).length : Nat)) = true from decide_eq_true (by simp; omega)]
        refine iteT ⟨_, rfl, L, _, _, _, rfl, rfl, SqL.of hL, atI_1 _ _ _, tk, _, rfl, by omega, ?_⟩
        rw [ht]
        refine ⟨_, rfl, L, _, _, _, rfl, rfl, SqL.of hL, atI_0 _ _, _, _, rfl, .str h (by omega), fun H2 s2 => ⟨_, rfl, ?_⟩⟩
        rw [hl]
        refine iteF ⟨_, rfl, _, rfl, ?_⟩
        rw [decide_eq_false (show ¬ V.int n = V.non from fun z => by cases z)]
        exact iteF (hN _ _ ⟨rfl, s2⟩)
      rintro σ' H2 ⟨rfl, s2⟩
      have s12 := s1.trans s2
      refine seq_cut (fun _ _ => False) (fun N hN => ?_) (fun _ _ z => z.elim)
      refine ⟨A.S_DEEDS, rfl, ⟨_, T.s_DEEDS _⟩, for_tup (xs := deedsT.map V.str) (fun i σ' G => ∃ v3 v4, σ' = [some (.str z), some (.ref L), some (.int n), v3, v4] ∧ Same H2 G ∧ i ≤ pre.length) ⟨_, _, rfl, Same.refl _, Nat.zero_le _⟩ ?_ ?_ ?_⟩
      · rintro i σ' G _ _
        exact T.s_DEEDS G
      · rintro i v σ' G hv ⟨v3, v4, rfl, sm, hip⟩
        rw [List.getElem?_map] at hv
        cases hdi : deedsT[i]? with
        | none => rw [hdi] at hv; cases hv
        | some d =>
          rw [hdi] at hv
          obtain rfl : V.str d = v := by simpa using hv
          obtain ⟨g, hg, hsp⟩ := form_at hdi
          have s1G := s2.trans sm
          have gL := s1G _ _ hL
          refine ⟨_, rfl, rfl, d, blankT, rfl, rfl, by decide +kernel, deeds_short d (List.mem_of_getElem? hdi), fun F hF => ?_⟩
          rw [hsp]
          have tF := Same.new (o := HO.lst (g.map V.str)) hF
          have eF : (upd G F (HO.lst (g.map V.str))) F = some (HO.lst (g.map V.str)) := upd_same
          generalize upd G F (HO.lst (g.map V.str)) = G1 at tF eF ⊢
          refine ⟨_, rfl, _, rfl, L, _, rfl, SqL.of (tF _ _ gL), fun M hM => ?_⟩
          have ec : cutV ((h :: tk :: w :: r).map V.str) (some 2) none = (w :: r).map V.str := cut_from _ 2 (by simp)
          rw [ec]
          have tM := Same.new (o := HO.lst ((w :: r).map V.str)) hM
          have eM : (upd G1 M (HO.lst ((w :: r).map V.str))) M = some (HO.lst ((w :: r).map V.str)) := upd_same
          generalize upd G1 M (HO.lst ((w :: r).map V.str)) = G2 at tM eM ⊢
          have s2G2 := (sm.trans tF).trans tM
          have hw2 : ∀ x ∈ w :: r, x.length ≤ 100 := fun x hx => hwl x (List.mem_cons_of_mem _ (List.mem_cons_of_mem _ hx))
          by_cases c : i < pre.length
          · have hgp : g ∈ pre := by
              rw [hf, List.getElem?_append_left c] at hg
              exact List.mem_of_getElem? hg
            refine ⟨F, M, g, w :: r, none, rfl, tM _ _ eF, eM, forms_short g (by rw [hf]; exact List.mem_append_left _ hgp), hw2, hp g hgp, (fun _ G3 s3 => ?_), (fun vs z => by cases z)⟩
            refine ⟨_, rfl, _, rfl, ?_⟩
            rw [decide_eq_true rfl]
            exact iteF ⟨_, _, rfl, s2G2.trans s3, c⟩
          · obtain rfl : i = pre.length := by omega
            obtain rfl : f = g := by
              rw [hf, List.getElem?_append_right (Nat.le_refl _), Nat.sub_self] at hg
              simpa using hg
            refine ⟨F, M, f, w :: r, some os, rfl, tM _ _ eF, eM, forms_short f (by rw [hf]; simp), hw2, ho, (fun z => by cases z), (fun vs z => ?_)⟩
            cases z
            intro N' G3 nN s3 hN3
            refine ⟨_, rfl, _, rfl, ?_⟩
            rw [decide_eq_false (show ¬ V.ref N' = V.non from fun z => by cases z)]
            have gL3 := (s1G.trans ((tF.trans tM).trans s3)) _ _ hL
            refine iteT ⟨_, rfl, L, _, _, _, rfl, rfl, SqL.of gL3, atI_0 _ _, _, rfl, _, rfl, L, _, _, _, rfl, rfl, SqL.of gL3, atI_2 _ _ _ _, _, rfl, (by show 4 ≤ 1000; decide), fun p hp' => ?_⟩
            exact k p N' _ ((s12.trans s2G2).free nN) ((s12.trans (s2G2.trans s3)).trans (Same.new hp')) upd_same ((Same.new hp') _ _ hN3)
      · rintro σ' G ⟨v3, v4, rfl, sm, hip⟩
        have e1 := congrArg List.length hf
        rw [hlen, List.length_append, List.length_cons] at e1
        rw [List.length_map, hdl] at hip
        omega
def tickV : List Str → V
  | _ :: tk :: _ => wholeV (cs tk) 999999999999
  | _ => .non
theorem row_no {ws : List Str} (h : RowNo ws) : ∃ (x : Str) (r : List Str), ws = x :: r ∧ (lampB x = false ∨ tickV ws = .non ∨ ∃ (tk : Str) (q : List Str) (n : Int), r = tk :: q ∧ tickV ws = .int n ∧ ∀ g ∈ formsT, Tb g q none) := by
  cases h with
  | hand x r hl => exact ⟨x, r, rfl, .inl hl⟩
  | one x => exact ⟨x, [], rfl, .inr (.inl rfl)⟩
  | tick x tk r ht => exact ⟨x, tk :: r, rfl, .inr (.inl ht)⟩
  | deed x tk r n ht hn => exact ⟨x, tk :: r, rfl, .inr (.inr ⟨tk, r, n, rfl, ht, hn⟩)⟩
theorem okX_row_of {P : Program} {w : World} {K : PySem.W.Frag} {mg : Str → Option Value} {base : Heap} {A : Adr} (T : Txt K mg A) : FnOk P w K mg base (CXE P w) 8 A.f_row_of A.d_row_of ["row"] (spRowX K A) := by
  have G_is_lamp := ok_is_lamp (P := P) (w := w) (base := base) T
  have G_things_by := ok_things_by (P := P) (w := w) (base := base) T
  have G_whole_of := ok_whole_of (P := P) (w := w) (base := base) T
  refine T.F_row_of.okE sc_row_of (fun vs H Q E h => ?_) (fun cdv Ar outer s H vs Q E hr h => ?_)
  · obtain ⟨x, rfl, hx, e⟩ := h
    rfl
  · obtain ⟨x, rfl, hx, e⟩ := h
    refine ⟨_, (pss_cons (ps_if (pt_not (pt_val (pe_callB (call_isiT K) (by rfl) T.b_isinstance boot_isinstance (pa_cons (pv 0) (pa_cons (pe_ty (by rfl) T.b_str boot_strT) pa_nil))))) (pss_one (ps_raise T.x_NoRow (by rfl) T.c_NoRow (pa_cons pe_str pa_nil))) pss_nil)
      (pss_cons (ps_set (i := 1) sc_row_of.nd rfl (Or.inl rfl) (pe_bmK K PySem.F.plainAttrs_str PySem.F.slot_str_split PySem.F.type_str_split mt_split (pv 0) (pa_cons pe_str pa_nil)))
      (pss_cons (ps_set (i := 2) sc_row_of.nd rfl (Or.inl rfl) (pe_ifExp (pt_cmpR op_gt (pe_callB (call_lenK K) (by rfl) T.b_len PySem.boot_len (pa_cons (pv 1) pa_nil)) pe_int (nomark _)) (pe_call G_whole_of (hr.mono (by decide)) (by rfl) T.m_whole_of T.F_whole_of.kp T.bb_whole_of .nil passE0 (pa_cons (pe_ix (ix_listK K) (pv 1) pe_int (fun _ _ => rfl)) (pa_cons (pe_gint (by rfl) T.g_MOST_TICK) pa_nil))) pe_non))
      (pss_cons (ps_if (PW.pt (pw_or (pt_not (pt_val (pe_call G_is_lamp (hr.mono (by decide)) (by rfl) T.m_is_lamp T.F_is_lamp.kp T.bb_is_lamp .nil passE0 (pa_cons (pe_ix (ix_listK K) (pv 1) pe_int (fun _ _ => rfl)) pa_nil)))) (pw_or1 (pt_cmp (pc_isN (pv 2)))))) (pss_one (ps_raise T.x_NoRow (by rfl) T.c_NoRow (pa_cons pe_str pa_nil))) pss_nil)
      (pss_cons (ps_for PassesOwn.leaving rfl (pi_tupK K (pe_glob (v := V.ref _) (by rfl) T.g_DEEDS rfl)) (pg_name (i := 3) sc_row_of.nd rfl (Or.inl rfl)) (pss_cons (ps_set (i := 4) sc_row_of.nd rfl (Or.inl rfl) (pe_call G_things_by (hr.mono (by decide)) (by rfl) T.m_things_by T.F_things_by.kp T.bb_things_by .nil passE0 (pa_cons (pe_bmK K PySem.F.plainAttrs_str PySem.F.slot_str_split PySem.F.type_str_split mt_split (pv 3) (pa_cons pe_str pa_nil)) (pa_cons (pe_slice (sl_listK K) (pv 1) (po_some pe_int) po_none) pa_nil))))
      (pss_one (ps_if (pt_cmp (pc_notN (pv 4))) (pss_one (ps_ret (pe_tupS (pa_cons (pe_ix (ix_listK K) (pv 1) pe_int (fun _ _ => rfl)) (pa_cons (pv 2) (pa_cons (pe_ix (ix_listK K) (pv 1) pe_int (fun _ _ => rfl)) (pa_cons (pv 4) pa_nil))))))) pss_nil))))
      (pss_one (ps_raise T.x_NoRow (by rfl) T.c_NoRow (pa_cons pe_str pa_nil)))))))), ?_⟩
    cases hx with
    | other _ t ty h =>
      refine seq_cut (fun _ _ => False) (fun N hN => ?_) (fun _ _ z => z.elim)
      exact ⟨_, rfl, _, _, _, _, rfl, ty, h, _, rfl, iteT ⟨by decide, e _ (Same.refl _)⟩⟩
    | txt z hz hwl hno =>
      generalize hws : Txt.split z blankT = ws at hwl hno
      have hlen : formsT.length = 18 := by decide +kernel
      have hdl : deedsT.length = 18 := by decide +kernel
      refine seq_cut2 (fun σ' H' => ∃ L, σ' = [some (.str z), some (.ref L), none, none, none] ∧ Same H H' ∧ H' L = some (.lst (ws.map V.str))) (fun N hN => ?_) ?_
      · refine ⟨_, rfl, _, _, _, _, rfl, .str z, kit_sub (.inr (.inr (.inr rfl))) (.inr (.inr (.inl rfl))), _, rfl, iteF ?_⟩
        refine ⟨_, rfl, rfl, z, blankT, rfl, rfl, by decide +kernel, by omega, fun L hL => ?_⟩
        rw [hws]
        exact hN _ _ ⟨L, rfl, Same.new hL, upd_same⟩
      rintro σ' H1 ⟨L, rfl, s1, hL⟩
      obtain ⟨x, r, rfl, hcase⟩ := row_no hno
      have hx := hwl x (by simp)
      refine seq_cut (fun σ' H' => σ' = [some (.str z), some (.ref L), some (tickV (x :: r)), none, none] ∧ H' = H1) (fun N hN => ?_) ?_
      · refine ⟨_, rfl, L, _, rfl, .inl (SqL.of hL), _, _, rfl, rfl, _, rfl, ?_⟩
        cases r with
        | nil => exact iteF (hN _ _ ⟨rfl, rfl⟩)
        | cons tk q =>
          rw [show decide ((1 : Int) < (((x :: tk :: q).map V.str).length : Nat)) = true from decide_eq_true (by simp; omega)]
          exact iteT ⟨_, rfl, L, _, _, _, rfl, rfl, SqL.of hL, atI_1 _ _ _, tk, _, rfl, by have := hwl tk (by simp); omega, hN _ _ ⟨rfl, rfl⟩⟩
      rintro σ' H2 ⟨rfl, rfl⟩
      refine seq_cut (fun σ' H' => (σ' = [some (.str z), some (.ref L), some (tickV (x :: r)), none, none] ∧ Same H2 H') ∧ lampB x = true ∧ tickV (x :: r) ≠ .non) (fun N hN => ?_) ?_
      · refine ⟨_, rfl, L, _, _, _, rfl, rfl, SqL.of hL, atI_0 _ _, _, _, rfl, .str x (by omega), fun H3 s3 => ⟨_, rfl, ?_⟩⟩
        cases hl : lampB x with
        | false => exact iteT (iteT ⟨by decide, e _ (s1.trans s3)⟩)
        | true =>
          refine iteF ⟨_, rfl, _, rfl, ?_⟩
          by_cases hv : tickV (x :: r) = .non
          · rw [decide_eq_true hv]
            exact iteT ⟨by decide, e _ (s1.trans s3)⟩
          · rw [decide_eq_false hv]
            exact iteF (hN _ _ ⟨⟨rfl, s3⟩, hl, hv⟩)
      rintro σ' H3 ⟨⟨rfl, s3⟩, hl, hv⟩
      obtain ⟨tk, q, n, rfl, htn, hn⟩ : ∃ (tk : Str) (q : List Str) (n : Int), r = tk :: q ∧ tickV (x :: r) = .int n ∧ ∀ g ∈ formsT, Tb g q none := by
        rcases hcase with c | c | c
        · rw [hl] at c; cases c
        · exact absurd c hv
        · exact c
      have s13 := s1.trans s3
      refine seq_cut (fun σ' H' => Same H3 H') (fun N hN => ?_) ?_
      · refine ⟨A.S_DEEDS, rfl, ⟨_, T.s_DEEDS _⟩, for_tup (xs := deedsT.map V.str) (fun i σ' G => ∃ v3 v4, σ' = [some (.str z), some (.ref L), some (tickV (x :: tk :: q)), v3, v4] ∧ Same H3 G) ⟨_, _, rfl, Same.refl _⟩ ?_ ?_ ?_⟩
        · rintro i σ' G _ _
          exact T.s_DEEDS G
        · rintro i v σ' G hvi ⟨v3, v4, rfl, sm⟩
          rw [List.getElem?_map] at hvi
          cases hdi : deedsT[i]? with
          | none => rw [hdi] at hvi; cases hvi
          | some d =>
            rw [hdi] at hvi
            obtain rfl : V.str d = v := by simpa using hvi
            obtain ⟨g, hg, hsp⟩ := form_at hdi
            have gL := (s3.trans sm) _ _ hL
            refine ⟨_, rfl, rfl, d, blankT, rfl, rfl, by decide +kernel, deeds_short d (List.mem_of_getElem? hdi), fun F hF => ?_⟩
            rw [hsp]
            have tF := Same.new (o := HO.lst (g.map V.str)) hF
            have eF : (upd G F (HO.lst (g.map V.str))) F = some (HO.lst (g.map V.str)) := upd_same
            generalize upd G F (HO.lst (g.map V.str)) = G1 at tF eF ⊢
            refine ⟨_, rfl, _, rfl, L, _, rfl, SqL.of (tF _ _ gL), fun M hM => ?_⟩
            have ec : cutV ((x :: tk :: q).map V.str) (some 2) none = q.map V.str := cut_from _ 2 (by simp)
            rw [ec]
            have tM := Same.new (o := HO.lst (q.map V.str)) hM
            have eM : (upd G1 M (HO.lst (q.map V.str))) M = some (HO.lst (q.map V.str)) := upd_same
            generalize upd G1 M (HO.lst (q.map V.str)) = G2 at tM eM ⊢
            have hgm := List.mem_of_getElem? hg
            refine ⟨F, M, g, q, none, rfl, tM _ _ eF, eM, forms_short g hgm, (fun y hy => hwl y (List.mem_cons_of_mem _ (List.mem_cons_of_mem _ hy))), hn g hgm, (fun _ G3 s4 => ?_), (fun vs z => by cases z)⟩
            refine ⟨_, rfl, _, rfl, ?_⟩
            rw [decide_eq_true rfl]
            exact iteF ⟨_, _, rfl, ((sm.trans tF).trans tM).trans s4⟩
        · rintro σ' G ⟨v3, v4, rfl, sm⟩
          exact hN _ _ sm
      intro σ' H4 s4
      exact ⟨by decide, e _ (s13.trans s4)⟩
theorem whole_sec {n most : Int} (h0 : 0 ≤ n) (h1 : n ≤ most) : wholeV (cs (secT n)) most = .int n := by
  obtain ⟨⟨a, b, c⟩, d, _⟩ := sec_ok h0
  unfold wholeV
  rw [if_neg, d]
  rintro (h | ⟨h, h'⟩ | h | h)
  · exact b h
  · rcases c with c | c
    · exact h' c
    · exact c h
  · exact h a
  · omega
theorem form_head : ∀ f ∈ formsT, f ≠ [] ∧ Txt.islower (f.headD blankT) = true ∧ (cs (f.headD blankT)).all isLet = true := by decide +kernel
theorem forms_apart : ∀ f ∈ formsT, ∀ g ∈ formsT, f.headD blankT = g.headD blankT → (f = g ∨ f.length ≠ g.length) ∧ g.length ≠ f.length + 1 := by decide +kernel
theorem forms_nodup : formsT.Nodup := by decide +kernel
theorem tb_other {g : List Str} (hg : g ∈ formsT) {w : Str} {r : List Str} (h : g.headD blankT ≠ w ∨ g.length ≠ (w :: r).length) : Tb g (w :: r) none := by
  by_cases hl : g.length = (w :: r).length
  · obtain ⟨h1, h2, _⟩ := form_head g hg
    cases g with
    | nil => exact absurd rfl h1
    | cons k ks =>
      refine .inr ⟨hl, .litNo k w ks r h2 fun e => ?_⟩
      rcases h with h | h
      · exact h e.symm
      · exact h hl
  · exact .inl ⟨hl, rfl⟩
structure Good (h : Str) (n : Int) (w : Str) (r : List Str) (vs : List V) (f : List Str) : Prop where
  hand : lampB h = true
  n0 : 0 ≤ n
  n1 : n ≤ 999999999999
  mem : f ∈ formsT
  head : f.headD blankT = w
  go : Go f (w :: r) (some vs)
  len : f.length = (w :: r).length
theorem Good.tick {h : Str} {n : Int} {w : Str} {r : List Str} {vs : List V} {f : List Str} (g : Good h n w r vs f) : wholeV (cs (secT n)) 999999999999 = .int n := whole_sec g.n0 g.n1
theorem Good.ok {h : Str} {n : Int} {w : Str} {r : List Str} {vs : List V} {f : List Str} (g : Good h n w r vs f) : RowOk (h :: secT n :: w :: r) h n w vs := by
  obtain ⟨pre, post, e⟩ := List.append_of_mem g.mem
  refine .mk h (secT n) w r n pre post f vs g.hand g.tick e (fun y hy => ?_) (.inr ⟨g.len, g.go⟩)
  have ym : y ∈ formsT := by rw [e]; exact List.mem_append_left _ hy
  have yne : y ≠ f := fun z => by
    have nd := forms_nodup
    rw [e] at nd
    have := (List.nodup_append.mp nd).2.2 y hy f (by simp)
    exact this z
  by_cases c : y.headD blankT = w
  · rcases (forms_apart y ym f g.mem (c.trans g.head.symm)).1 with z | z
    · exact absurd z yne
    · exact tb_other ym (.inr fun q => z (q.trans g.len.symm))
  · exact tb_other ym (.inl c)
theorem okH_NoText_init {P : Program} {w : World} {K : PySem.W.Frag} {mg : Str → Option Value} {base : Heap} {A : Adr} (T : Txt K mg A) : FnH P w K mg base 2 A.f_NoText_init A.d_NoText_init ["self", "words", "row"] (spNoText A) := by
  refine T.F_NoText_init.okH sc_NoText_init (fun vs H Q E h => ?_) (fun cdv Ar ea outer s H vs Q h => ?_)
  · obtain ⟨ea, wd, r, rfl, hea, k⟩ := h
    rfl
  · obtain ⟨ea, wd, r, rfl, hea, k⟩ := h
    refine ⟨_, (pss_cons (ps_expr (pe_upinit K T.up_LampError (by rfl) T.c_LampError (pa_cons (pv 0) (pa_cons (pv 1) pa_nil))))
      (pss_one (ps_xfld K (pv 0) (pv 2)))), ?_⟩
    refine ⟨_, rfl, _, rfl, ea, _, _, _, _, rfl, (by show 1 ≤ 1000; decide), hea, T.XI_NoText, ?_⟩
    refine ⟨_, rfl, _, rfl, ea, _, _, _, rfl, hea, T.XI_NoText, T.nr_NoText_row, fun dx hdx => k dx hdx⟩
def cueF (n : Int) (P : Addr) : List (Str × V) := [("number", .int n), ("parts", .ref P), ("stops", .bl false), ("follow", .non)]
def spCD (A : Adr) : Sp := fun vs H Q _ => ∃ (x dx : Addr) (n : Int), vs = [.ref x, .int n, .bl false, .non] ∧ H x = some (.ins A.C_CueDraft dx []) ∧ ∀ P H', H P = none → H' x = some (.ins A.C_CueDraft dx (cueF n P)) → H' P = some (.lst []) → (∀ b o, b ≠ x → H b = some o → H' b = some o) → Q .non H'
theorem ok_CueDraft_init {P : Program} {w : World} {K : PySem.W.Frag} {mg : Str → Option Value} {base : Heap} {A : Adr} (T : Txt K mg A) : FnOk P w K mg base (CXE P w) 1 A.f_CueDraft_init A.d_CueDraft_init ["self", "number", "stops", "follow"] (spCD A) := by
  refine T.F_CueDraft_init.okN sc_CueDraft_init (fun vs H Q E h => ?_) (fun cdv Ar outer s H vs Q E hr h => ?_)
  · obtain ⟨x, dx, n, rfl, hx, k⟩ := h
    rfl
  · obtain ⟨x, dx, n, rfl, hx, k⟩ := h
    refine ⟨_, (pss_cons (ps_fld (pv 0) (pv 1) rfl)
      (pss_cons (ps_fld (pv 0) (pe_lstS pa_nil) rfl)
      (pss_cons (ps_fld (pv 0) (pv 2) rfl)
      (pss_one (ps_fld (pv 0) (pv 3) rfl))))), ?_⟩
    refine ⟨_, rfl, _, rfl, x, A.C_CueDraft, dx, _, rfl, hx, T.cl_CueDraft, T.na_CueDraft_number, (by show 0 < 1000; decide), ?_⟩
    refine ⟨by decide, fun P hP => ?_⟩
    have nP : x ≠ P := by rintro rfl; rw [upd_same] at hP; cases hP
    have hP0 : H P = none := by rw [upd_ne (Ne.symm nP)] at hP; exact hP
    refine ⟨_, rfl, x, A.C_CueDraft, dx, _, rfl, by rw [upd_ne nP, upd_same], T.cl_CueDraft, T.na_CueDraft_parts, (by show 1 < 1000; decide), ?_⟩
    refine ⟨_, rfl, _, rfl, x, A.C_CueDraft, dx, _, rfl, upd_same, T.cl_CueDraft, T.na_CueDraft_stops, (by show 2 < 1000; decide), ?_⟩
    refine ⟨_, rfl, _, rfl, x, A.C_CueDraft, dx, _, rfl, upd_same, T.cl_CueDraft, T.na_CueDraft_follow, (by show 3 < 1000; decide), ?_⟩
    refine k P _ hP0 upd_same ?_ fun b o hb e => ?_
    · rw [upd_ne (Ne.symm nP), upd_ne (Ne.symm nP), upd_ne (Ne.symm nP), upd_same]
    · have b1 : b ≠ P := ne_of_none e hP0
      rw [upd_ne hb, upd_ne hb, upd_ne hb, upd_ne b1, upd_ne hb]; exact e
def spPD (A : Adr) : Sp := fun vs H Q _ => ∃ (x dx : Addr) (a b c : V), vs = [.ref x, a, b, c] ∧ H x = some (.ins A.C_PartDraft dx []) ∧ ∀ H', (∃ fs, H' x = some (.ins A.C_PartDraft dx fs)) → (∀ b o, b ≠ x → H b = some o → H' b = some o) → Q .non H'
theorem ok_PartDraft_init {P : Program} {w : World} {K : PySem.W.Frag} {mg : Str → Option Value} {base : Heap} {A : Adr} (T : Txt K mg A) : FnOk P w K mg base (CXE P w) 1 A.f_PartDraft_init A.d_PartDraft_init ["self", "rise", "fall", "wait"] (spPD A) := by
  refine T.F_PartDraft_init.okN sc_PartDraft_init (fun vs H Q E h => ?_) (fun cdv Ar outer s H vs Q E hr h => ?_)
  · obtain ⟨x, dx, va, vb, vc, rfl, hx, k⟩ := h
    rfl
  · obtain ⟨x, dx, va, vb, vc, rfl, hx, k⟩ := h
    refine ⟨_, (pss_cons (ps_fld (pv 0) pe_dnewT rfl)
      (pss_cons (ps_fld (pv 0) pe_dnewT rfl)
      (pss_cons (ps_fld (pv 0) (pv 1) rfl)
      (pss_cons (ps_fld (pv 0) (pv 2) rfl)
      (pss_one (ps_fld (pv 0) (pv 3) rfl)))))), ?_⟩
    intro d1 h1
    have n1 : x ≠ d1 := ne_of_none hx h1
    refine ⟨_, rfl, x, A.C_PartDraft, dx, _, rfl, by rw [upd_ne n1]; exact hx, T.cl_PartDraft, T.na_PartDraft_tells, (by show 0 < 1000; decide), ?_⟩
    intro d2 h2
    have n2 : x ≠ d2 := by rintro rfl; rw [upd_same] at h2; cases h2
    have h2' : H d2 = none := by
      rw [upd_ne (Ne.symm n2)] at h2
      by_cases z : d2 = d1
      · rw [z, upd_same] at h2; cases h2
      · rw [upd_ne z] at h2; exact h2
    refine ⟨_, rfl, x, A.C_PartDraft, dx, _, rfl, by rw [upd_ne n2, upd_same], T.cl_PartDraft, T.na_PartDraft_alone, (by show 1 < 1000; decide), ?_⟩
    refine ⟨_, rfl, _, rfl, x, A.C_PartDraft, dx, _, rfl, upd_same, T.cl_PartDraft, T.na_PartDraft_rise, (by show 2 < 1000; decide), ?_⟩
    refine ⟨_, rfl, _, rfl, x, A.C_PartDraft, dx, _, rfl, upd_same, T.cl_PartDraft, T.na_PartDraft_fall, (by show 3 < 1000; decide), ?_⟩
    refine ⟨_, rfl, _, rfl, x, A.C_PartDraft, dx, _, rfl, upd_same, T.cl_PartDraft, T.na_PartDraft_wait, (by show 4 < 1000; decide), ?_⟩
    refine k _ ⟨_, upd_same⟩ fun b o hb e => ?_
    have b1 : b ≠ d1 := ne_of_none e h1
    have b2 : b ≠ d2 := ne_of_none e h2'
    rw [upd_ne hb, upd_ne hb, upd_ne hb, upd_ne hb, upd_ne b2, upd_ne hb, upd_ne b1]; exact e
inductive Dr (A : Adr) (H : Hp) (L : Addr) : Addr → Nat → Prop
  | none (h : H L = some (.lst [])) : Dr A H L L 0
  | cue (d dx P : Addr) (n : Int) (h : H L = some (.lst [.ref d])) (hd : H d = some (.ins A.C_CueDraft dx (cueF n P))) (hP : H P = some (.lst [])) : Dr A H L P 1
  | part (d dx P : Addr) (n : Int) (v : V) (h : H L = some (.lst [.ref d])) (hd : H d = some (.ins A.C_CueDraft dx (cueF n P))) (hP : H P = some (.lst [v])) : Dr A H L P 2
theorem Dr.keep {A : Adr} {H H' : Hp} {L P : Addr} {k : Nat} (h : Dr A H L P k) (s : Same H H') : Dr A H' L P k := by
  cases h with
  | none h => exact .none (s _ _ h)
  | cue d dx P n h hd hP => exact .cue d dx _ n (s _ _ h) (s _ _ hd) (s _ _ hP)
  | part d dx P n v h hd hP => exact .part d dx _ n v (s _ _ h) (s _ _ hd) (s _ _ hP)
theorem at_end1 {α : Type} (x : α) : atI [x] (-1) = some x := rfl
def spLack (A : Adr) : Sp := fun vs H Q _ => ∃ (L P : Addr) (k : Nat), vs = [.ref L] ∧ Dr A H L P k ∧ Q (.bl (decide (k = 1))) H
theorem ok_lacks_part {P : Program} {w : World} {K : PySem.W.Frag} {mg : Str → Option Value} {base : Heap} {A : Adr} (T : Txt K mg A) : FnOk P w K mg base (CXE P w) 1 A.f_lacks_part A.d_lacks_part ["drafts"] (spLack A) := by
  refine T.F_lacks_part.okN sc_lacks_part (fun vs H Q E h => ?_) (fun cdv Ar outer s H vs Q E hr h => ?_)
  · obtain ⟨L, P0, kk, rfl, hd, k⟩ := h
    rfl
  · obtain ⟨L, P0, kk, rfl, hd, k⟩ := h
    refine ⟨_, (pss_one (ps_ret (pe_and (pe_cmpR op_gt (pe_callB (call_lenK K) (by rfl) T.b_len PySem.boot_len (pa_cons (pv 0) pa_nil)) pe_int (nomark _)) (pe_one (pe_cmpR op_eq (pe_callB (call_lenK K) (by rfl) T.b_len PySem.boot_len (pa_cons (pe_fldK K (pe_ix (ix_listK K) (pv 0) (pe_un un_neg pe_int) (fun _ _ => rfl))) pa_nil)) pe_int (nomark _)))))), ?_⟩
    cases hd with
    | none h =>
      refine ⟨_, rfl, L, _, rfl, .inl (SqL.of h), _, _, rfl, rfl, _, rfl, iteF k⟩
    | cue d dx _ n h hd hP =>
      refine ⟨_, rfl, L, _, rfl, .inl (SqL.of h), _, _, rfl, rfl, _, rfl, iteT ?_⟩
      exact ⟨_, rfl, _, rfl, L, _, _, _, rfl, rfl, SqL.of h, at_end1 _, d, _, _, _, _, rfl, hd, T.cl_CueDraft, T.na_CueDraft_parts, rfl, P0, _, rfl, .inl (SqL.of hP), rfl, k⟩
    | part d dx _ n v h hd hP =>
      refine ⟨_, rfl, L, _, rfl, .inl (SqL.of h), _, _, rfl, rfl, _, rfl, iteT ?_⟩
      exact ⟨_, rfl, _, rfl, L, _, _, _, rfl, rfl, SqL.of h, at_end1 _, d, _, _, _, _, rfl, hd, T.cl_CueDraft, T.na_CueDraft_parts, rfl, P0, _, rfl, .inl (SqL.of hP), rfl, k⟩
def spFol : Sp := fun vs H Q _ => ∃ M : Addr, vs = [.ref M] ∧ H M = some (.lst []) ∧ Q .non H
theorem ok_follow_of {P : Program} {w : World} {K : PySem.W.Frag} {mg : Str → Option Value} {base : Heap} {A : Adr} (T : Txt K mg A) : FnOk P w K mg base (CXE P w) 1 A.f_follow_of A.d_follow_of ["words"] (spFol) := by
  refine T.F_follow_of.okN sc_follow_of (fun vs H Q E h => ?_) (fun cdv Ar outer s H vs Q E hr h => ?_)
  · obtain ⟨M, rfl, hM, k⟩ := h
    rfl
  · obtain ⟨M, rfl, hM, k⟩ := h
    refine ⟨_, (pss_cons (ps_if (pt_cmpR op_eq (pe_callB (call_lenK K) (by rfl) T.b_len PySem.boot_len (pa_cons (pv 0) pa_nil)) pe_int (nomark _)) (pss_one (ps_ret pe_non)) pss_nil) pss_never), ?_⟩
    exact ⟨_, rfl, M, _, rfl, .inl (SqL.of hM), rfl, _, rfl, iteT k⟩
abbrev cueT : Str := Str.ofString "cue"
abbrev partT : Str := Str.ofString "part"
abbrev n5T : Str := Str.ofString "5"
abbrev n0T : Str := Str.ofString "0"
theorem whole5 : wholeV (cs n5T) 1000000000 = .int 5 := by decide +kernel
def spTakeCue (A : Adr) : Sp := fun vs H Q _ => ∃ L M : Addr, vs = [.ref L, .ref M] ∧ H L = some (.lst []) ∧ H M = some (.lst [.str cueT, .str n5T]) ∧ ∀ P H', H P = none → Dr A H' L P 1 → (∀ b o, b ≠ L → H b = some o → H' b = some o) → Q .non H'
theorem ok_take_cue {P : Program} {w : World} {K : PySem.W.Frag} {mg : Str → Option Value} {base : Heap} {A : Adr} (T : Txt K mg A) : FnOk P w K mg base (CXE P w) 3 A.f_take_cue A.d_take_cue ["drafts", "words"] (spTakeCue A) := by
  have G_CueDraft_init := ok_CueDraft_init (P := P) (w := w) (base := base) T
  have G_follow_of := ok_follow_of (P := P) (w := w) (base := base) T
  have G_lacks_part := ok_lacks_part (P := P) (w := w) (base := base) T
  have G_whole_of := ok_whole_of (P := P) (w := w) (base := base) T
  refine T.F_take_cue.okN sc_take_cue (fun vs H Q E h => ?_) (fun cdv Ar outer s H vs Q E hr h => ?_)
  · obtain ⟨L, M, rfl, hL, hM, k⟩ := h
    rfl
  · obtain ⟨L, M, rfl, hL, hM, k⟩ := h
    refine ⟨_, (pss_cons (ps_if (pt_val (pe_call G_lacks_part (hr.mono (by decide)) (by rfl) T.m_lacks_part T.F_lacks_part.kp T.bb_lacks_part .nil passE0 (pa_cons (pv 0) pa_nil))) (pss_one ps_dead) pss_nil)
      (pss_cons (ps_if (pt_cmpR op_lt (pe_callB (call_lenK K) (by rfl) T.b_len PySem.boot_len (pa_cons (pv 1) pa_nil)) pe_int (nomark _)) (pss_one ps_dead) pss_nil)
      (pss_cons (ps_set (i := 2) sc_take_cue.nd rfl (Or.inl rfl) (pe_call G_whole_of (hr.mono (by decide)) (by rfl) T.m_whole_of T.F_whole_of.kp T.bb_whole_of .nil passE0 (pa_cons (pe_ix (ix_listK K) (pv 1) pe_int (fun _ _ => rfl)) (pa_cons (pe_gint (by rfl) T.g_MOST_NUMBER) pa_nil))))
      (pss_cons (ps_set (i := 3) sc_take_cue.nd rfl (Or.inl rfl) (pe_ifExp (pt_cmpR op_gt (pe_callB (call_lenK K) (by rfl) T.b_len PySem.boot_len (pa_cons (pv 0) pa_nil)) pe_int (nomark _)) (pe_fldK K (pe_ix (ix_listK K) (pv 0) (pe_un un_neg pe_int) (fun _ _ => rfl))) pe_int))
      (pss_cons (ps_if (PW.pt (pw_or (pt_cmp (pc_isN (pv 2))) (pw_or1 (pt_cmpR op_le (pv 2) (pv 3) (nomark _))))) (pss_one ps_dead) pss_nil)
      (pss_cons (ps_set (i := 4) sc_take_cue.nd rfl (Or.inl rfl) (pe_cmpR (op_eqF K hr.units) (pe_slice (sl_listK K) (pv 1) (po_some pe_int) (po_some pe_int)) (pe_lstS (pa_cons pe_str pa_nil)) (nomark _)))
      (pss_cons (ps_set (i := 5) sc_take_cue.nd rfl (Or.inl rfl) (pe_call G_follow_of (hr.mono (by decide)) (by rfl) T.m_follow_of T.F_follow_of.kp T.bb_follow_of .nil passE0 (pa_cons (pe_ifExp (pt_val (pv 4)) (pe_slice (sl_listK K) (pv 1) (po_some pe_int) po_none) (pe_slice (sl_listK K) (pv 1) (po_some pe_int) po_none)) pa_nil)))
      (pss_one (ps_expr (pe_bmK K PySem.F.plainAttrs_list PySem.F.slot_list_append PySem.F.type_list_append mt_append (pv 0) (pa_cons (pe_make T.M_CueDraft G_CueDraft_init (hr.mono (by decide)) (by rfl) T.c_CueDraft T.bb_CueDraft_init .nil passE0 (pa_cons (pv 2) (pa_cons (pv 4) (pa_cons (pv 5) pa_nil)))) pa_nil))))))))))), ?_⟩
    refine seq_cut3 (fun σ' H' => σ' = [some (.ref L), some (.ref M), some (.int 5), none, none, none] ∧ H' = H) (fun N hN => ?_) ?_
    · refine ⟨_, rfl, L, L, 0, rfl, .none hL, _, rfl, iteF ?_⟩
      refine ⟨_, rfl, M, _, rfl, .inl (SqL.of hM), _, _, rfl, rfl, _, rfl, iteF ?_⟩
      refine ⟨_, rfl, M, _, _, _, rfl, rfl, SqL.of hM, atI_1 _ _ _, n5T, _, rfl, by decide +kernel, ?_⟩
      rw [whole5]
      exact hN _ _ ⟨rfl, rfl⟩
    rintro σ1 H1 ⟨rfl, rfl⟩
    refine seq_cut2 (fun σ' H' => σ' = [some (.ref L), some (.ref M), some (.int 5), some (.int 0), none, none] ∧ H' = H1) (fun N hN => ?_) ?_
    · refine ⟨_, rfl, L, _, rfl, .inl (SqL.of hL), _, _, rfl, rfl, _, rfl, iteF ?_⟩
      refine ⟨_, rfl, _, rfl, iteF ?_⟩
      exact ⟨_, rfl, _, rfl, _, _, rfl, rfl, _, rfl, iteF (hN _ _ ⟨rfl, rfl⟩)⟩
    rintro σ2 H2 ⟨rfl, rfl⟩
    refine seq_cut (fun σ' H' => σ' = [some (.ref L), some (.ref M), some (.int 5), some (.int 0), some (.bl false), none] ∧ Same H2 H') (fun N hN => ?_) ?_
    · refine ⟨_, rfl, 2, rfl, 3, rfl, M, _, rfl, SqL.of hM, fun p hp => ?_⟩
      have s1 := Same.new (o := HO.lst []) hp
      have f1 : (upd H2 p (HO.lst [])) p = some (HO.lst []) := upd_same
      have e1 : cutV [V.str cueT, V.str n5T] (some 2) (some 3) = [] := by decide +kernel
      rw [e1]
      generalize upd H2 p (HO.lst []) = G1 at s1 f1 ⊢
      refine ⟨(by show 1 ≤ 1000; decide), fun q hq => ?_⟩
      have s2 := Same.new (o := HO.lst [V.str (Str.ofString "stop")]) hq
      refine ⟨p, q, _, _, rfl, rfl, SqL.of (s2 _ _ f1), SqL.of upd_same, rfl, rfl, hN _ _ ⟨rfl, s1.trans s2⟩⟩
    rintro σ3 H3 ⟨rfl, s3⟩
    refine seq_cut (fun σ' H' => σ' = [some (.ref L), some (.ref M), some (.int 5), some (.int 0), some (.bl false), some .non] ∧ Same H2 H') (fun N hN => ?_) ?_
    · refine ⟨_, rfl, _, rfl, iteF ?_⟩
      refine ⟨_, rfl, 2, rfl, M, _, rfl, SqL.of (s3 _ _ hM), fun p hp => ?_⟩
      have e1 : cutV [V.str cueT, V.str n5T] (some 2) none = [] := by decide +kernel
      rw [e1]
      exact ⟨p, rfl, upd_same, hN _ _ ⟨rfl, s3.trans (Same.new hp)⟩⟩
    rintro σ4 H4 ⟨rfl, s4⟩
    have hL4 := s4 _ _ hL
    refine ⟨_, rfl, .inl ⟨rfl, _, SqL.of hL4⟩, _, rfl, _, rfl, _, rfl, fun x dx hx hdx nx => ?_⟩
    refine ⟨x, dx, 5, rfl, upd_same, fun P G hP g1 g2 g3 => ⟨rfl, ?_⟩⟩
    have nLx : L ≠ x := ne_of_none hL4 hx
    have keep : ∀ b o, H4 b = some o → G b = some o := fun b o e => g3 b o (ne_of_none e hx) (by rw [upd_ne (ne_of_none e hx), upd_ne (ne_of_none e hdx)]; exact e)
    have gL := keep _ _ hL4
    refine ⟨L, _, _, rfl, rfl, gL, small1000 (by decide), ?_⟩
    have hP2 : H2 P = none := s4.free (by by_cases z1 : P = x; · rw [z1, upd_same] at hP; cases hP
                                          by_cases z2 : P = dx; · rw [z2, upd_ne nx, upd_same] at hP; cases hP
                                          rw [upd_ne z1, upd_ne z2] at hP; exact hP)
    refine k P _ hP2 (.cue x dx P 5 upd_same ?_ ?_) fun b o hb e => ?_
    · rw [upd_ne (Ne.symm nLx)]; exact g1
    · rw [upd_ne (fun z => by rw [z, gL] at g2; cases g2; rw [z] at hP; rw [upd_ne nLx, upd_ne (ne_of_none hL4 hdx), hL4] at hP; cases hP)]; exact g2
    · rw [upd_ne hb]; exact keep _ _ (s4 _ _ e)
theorem time0 : timeT 0 = n0T := by decide +kernel
def spTakePart (A : Adr) : Sp := fun vs H Q _ => ∃ (L d dx P M : Addr) (n : Int), vs = [.ref d, .ref M] ∧ H L = some (.lst [.ref d]) ∧ H d = some (.ins A.C_CueDraft dx (cueF n P)) ∧ H P = some (.lst []) ∧ H M = some (.lst [.str partT, .str n0T, .str n0T, .str n0T]) ∧ ∀ H', Dr A H' L P 2 → (∀ b o, b ≠ P → H b = some o → H' b = some o) → Q .non H'
theorem ok_take_part {P : Program} {w : World} {K : PySem.W.Frag} {mg : Str → Option Value} {base : Heap} {A : Adr} (T : Txt K mg A) : FnOk P w K mg base (CXE P w) 5 A.f_take_part A.d_take_part ["draft", "words"] (spTakePart A) := by
  have G_PartDraft_init := ok_PartDraft_init (P := P) (w := w) (base := base) T
  have G_time_of := ok_time_of (P := P) (w := w) (base := base) T
  refine T.F_take_part.okN sc_take_part (fun vs H Q E h => ?_) (fun cdv Ar outer s H vs Q E hr h => ?_)
  · obtain ⟨L, d, dx, P, M, n, rfl, hL, hd, hP, hM, k⟩ := h
    rfl
  · obtain ⟨L, d, dx, P, M, n, rfl, hL, hd, hP, hM, k⟩ := h
    refine ⟨_, (pss_cons (ps_if (PW.pt (pw_or (pt_cmpR op_ne (pe_callB (call_lenK K) (by rfl) T.b_len PySem.boot_len (pa_cons (pv 1) pa_nil)) pe_int (nomark _)) (pw_or1 (pt_cmpR op_eq (pe_callB (call_lenK K) (by rfl) T.b_len PySem.boot_len (pa_cons (pe_fldK K (pv 0)) pa_nil)) (pe_gint (by rfl) T.g_MOST_PARTS) (nomark _))))) (pss_one ps_dead) pss_nil)
      (pss_one (ps_expr (pe_bmK K PySem.F.plainAttrs_list PySem.F.slot_list_append PySem.F.type_list_append mt_append (pe_fldK K (pv 0)) (pa_cons (pe_make T.M_PartDraft G_PartDraft_init (hr.mono (by decide)) (by rfl) T.c_PartDraft T.bb_PartDraft_init .nil passE0 (pa_cons (pe_call G_time_of (hr.mono (by decide)) (by rfl) T.m_time_of T.F_time_of.kp T.bb_time_of .nil passE0 (pa_cons (pe_ix (ix_listK K) (pv 1) pe_int (fun _ _ => rfl)) pa_nil)) (pa_cons (pe_call G_time_of (hr.mono (by decide)) (by rfl) T.m_time_of T.F_time_of.kp T.bb_time_of .nil passE0 (pa_cons (pe_ix (ix_listK K) (pv 1) pe_int (fun _ _ => rfl)) pa_nil)) (pa_cons (pe_call G_time_of (hr.mono (by decide)) (by rfl) T.m_time_of T.F_time_of.kp T.bb_time_of .nil passE0 (pa_cons (pe_ix (ix_listK K) (pv 1) pe_int (fun _ _ => rfl)) pa_nil)) pa_nil)))) pa_nil))))), ?_⟩
    refine seq_cut (fun σ' H' => σ' = [some (.ref d), some (.ref M)] ∧ H' = H) (fun N hN => ?_) ?_
    · refine ⟨_, rfl, M, _, rfl, .inl (SqL.of hM), rfl, _, rfl, iteF ?_⟩
      exact ⟨_, rfl, d, _, _, _, _, rfl, hd, T.cl_CueDraft, T.na_CueDraft_parts, rfl, P, _, rfl, .inl (SqL.of hP), rfl, _, rfl, iteF (hN _ _ ⟨rfl, rfl⟩)⟩
    rintro σ1 H1 ⟨rfl, rfl⟩
    refine ⟨_, rfl, d, _, _, _, _, rfl, hd, T.cl_CueDraft, T.na_CueDraft_parts, rfl, .inl ⟨rfl, _, SqL.of hP⟩, ?_⟩
    refine ⟨_, rfl, M, _, _, _, rfl, rfl, SqL.of hM, atI_1 _ _ _, _, rfl, .inl ⟨0, by decide, by decide, by rw [time0], fun G1 s1 => ?_⟩⟩
    refine ⟨_, rfl, M, _, _, _, rfl, rfl, SqL.of (s1 _ _ hM), atI_2 _ _ _ _, _, rfl, .inl ⟨0, by decide, by decide, by rw [time0], fun G2 s2 => ?_⟩⟩
    have s12 := s1.trans s2
    refine ⟨_, rfl, M, _, _, _, rfl, rfl, SqL.of (s12 _ _ hM), atI_3 _ _ _ _ _, _, rfl, .inl ⟨0, by decide, by decide, by rw [time0], fun G3 s3 => ?_⟩⟩
    have s13 := s12.trans s3
    intro x dx2 hx hdx nx
    refine ⟨x, dx2, _, _, _, rfl, upd_same, fun G g1 g3 => ⟨rfl, ?_⟩⟩
    have keep : ∀ b o, H1 b = some o → G b = some o := fun b o e => by
      have e3 := s13 _ _ e
      exact g3 b o (ne_of_none e3 hx) (by rw [upd_ne (ne_of_none e3 hx), upd_ne (ne_of_none e3 hdx)]; exact e3)
    have gP := keep _ _ hP
    refine ⟨P, _, _, rfl, rfl, gP, small1000 (by decide), ?_⟩
    refine k _ (.part d dx P n (.ref x) ?_ ?_ upd_same) fun b o hb e => ?_
    · rw [upd_ne (fun z => by rw [z, hP] at hL; cases hL)]; exact keep _ _ hL
    · rw [upd_ne (fun z => by rw [z, hP] at hd; cases hd)]; exact keep _ _ hd
    · rw [upd_ne hb]; exact keep _ _ e
def refusesAt (A : Adr) (H : Hp) (E : XK) (r : Int) : Prop := ∀ dx H', Same H H' → H' dx = some (.xd [("row", .int r)]) → E (.ref A.C_NoText) (some dx) H'
theorem raise_fin {A : Adr} {K : PySem.W.Frag} {H H1 : Hp} {E : XK} {wd : V} {r : Int} (sm : Same H H1) (h : refusesAt A H E r) : ∀ ea, H1 ea = none →
    spNoText A [.ref ea, wd, .int r] (upd H1 ea (newAt ea (.ref A.C_NoText) none)) (fun v H2 => v = .non ∧ ∃ dx, H2 ea = some (newAt ea (.ref A.C_NoText) dx) ∧ E (.ref A.C_NoText) dx (dropH H2 ea)) E0 := by
  intro ea hea
  refine ⟨ea, _, _, rfl, upd_same, fun dx hdx => ⟨rfl, some dx, ?_, ?_⟩⟩
  · have ne : ea ≠ dx := by rintro rfl; rw [upd_same] at hdx; cases hdx
    rw [upd_ne ne, upd_same]
  · have ne : ea ≠ dx := by rintro rfl; rw [upd_same] at hdx; cases hdx
    have hdx1 : H1 dx = none := by rw [upd_ne (Ne.symm ne)] at hdx; exact hdx
    refine h dx _ (fun b o e => ?_) (by rw [dropH_ne (Ne.symm ne), upd_same])
    have e1 := sm _ _ e
    have n1 : b ≠ ea := ne_of_none e1 hea
    have n2 : b ≠ dx := ne_of_none e1 hdx1
    rw [dropH_ne n1, upd_ne n2, upd_ne n1, upd_ne n1]
    exact e1
def spTell (A : Adr) : Sp := fun vs H _ E => ∃ (d : V) (M : Addr) (ws : List Str), vs = [d, .ref M] ∧ H M = some (.lst (ws.map V.str)) ∧ ws.length ≠ 4 ∧ refusesAt A H E 0
theorem ok_take_telling {P : Program} {w : World} {K : PySem.W.Frag} {mg : Str → Option Value} {base : Heap} {A : Adr} (T : Txt K mg A) : FnOk P w K mg base (CXS P w) 4 A.f_take_telling A.d_take_telling ["draft", "words"] (spTell A) := by
  have G_NoText_init := ok_NoText_init (P := P) (w := w) (base := base) T
  refine T.F_take_telling.okS sc_take_telling (fun vs H Q E h => ?_) (fun cdv Ar outer s H vs Q E hr h => ?_)
  · obtain ⟨d, M, ws, rfl, hM, hl, e⟩ := h
    rfl
  · obtain ⟨d, M, ws, rfl, hM, hl, e⟩ := h
    refine ⟨_, (pss_cons (ps_if (PW.pt (pw_or (pt_cmpR op_ne (pe_callB (call_lenK K) (by rfl) T.b_len PySem.boot_len (pa_cons (pv 1) pa_nil)) pe_int (nomark _)) (pw_or1 (pt_cmpR op_eq (pe_callB (call_lenK K) (by rfl) T.b_len PySem.boot_len (pa_cons (pe_fldK K (pv 0)) pa_nil)) pe_int (nomark _))))) (pss_one (ps_raiseIS T.XI_NoText G_NoText_init (hr.mono (by decide)) (by rfl) T.c_NoText T.bd_NoText_init T.dv_NoText_init (pa_cons pe_str pa_nil))) pss_nil) pss_never), ?_⟩
    refine seq_cut (fun _ _ => False) (fun N hN => ?_) (fun _ _ z => z.elim)
    refine ⟨_, rfl, M, _, rfl, .inl (SqL.of hM), rfl, _, rfl, ?_⟩
    rw [decide_eq_false (show ¬ V.int ((ws.map V.str).length : Int) = V.int 4 from fun z => hl (by have := V.int.inj z; rw [List.length_map] at this; omega))]
    exact iteT (iteT ⟨(by show 1 ≤ 1000; decide), raise_fin (K := K) (Same.refl _) e⟩)
inductive Rw : Nat → List Str → Option Nat → Prop
  | cue : Rw 0 [cueT, n5T] (some 1)
  | part : Rw 1 [partT, n0T, n0T, n0T] (some 2)
  | none (w : Str) (ws : List Str) (h : w ≠ cueT) : Rw 0 (w :: ws) none
  | other (k : Nat) (w : Str) (ws : List Str) (hk : k ≠ 0) (h : w ≠ cueT) (hp : w ≠ partT) (hl : (w :: ws).length ≠ 4) : Rw k (w :: ws) none
def spTakeRow (A : Adr) : Sp := fun vs H Q E => ∃ (L M P : Addr) (k : Nat) (ws : List Str) (r : Option Nat), vs = [.ref L, .ref M] ∧ Dr A H L P k ∧ H M = some (.lst (ws.map V.str)) ∧ Rw k ws r ∧ (r = none → refusesAt A H E 0) ∧ ∀ j, r = some j → ∀ P' H', (P' = P ∨ H P' = none) → Dr A H' L P' j → (∀ b o, b ≠ L → b ≠ P → H b = some o → H' b = some o) → Q .non H'
theorem ok_take_row {P : Program} {w : World} {K : PySem.W.Frag} {mg : Str → Option Value} {base : Heap} {A : Adr} (T : Txt K mg A) : FnOk P w K mg base (CXS P w) 7 A.f_take_row A.d_take_row ["drafts", "words"] (spTakeRow A) := by
  have G_NoText_init := ok_NoText_init (P := P) (w := w) (base := base) T
  have G_take_cue := ok_take_cue (P := P) (w := w) (base := base) T
  have G_take_part := ok_take_part (P := P) (w := w) (base := base) T
  have G_take_telling := ok_take_telling (P := P) (w := w) (base := base) T
  refine T.F_take_row.okS sc_take_row (fun vs H Q E h => ?_) (fun cdv Ar outer s H vs Q E hr h => ?_)
  · obtain ⟨L, M, P0, kk, ws, r, rfl, hd, hM, hr0, hn, hs⟩ := h
    rfl
  · obtain ⟨L, M, P0, kk, ws, r, rfl, hd, hM, hr0, hn, hs⟩ := h
    refine ⟨_, (pss_one (ps_if (pt_cmpR op_eq (pe_ix (ix_listK K) (pv 1) pe_int (fun _ _ => rfl)) pe_str (nomark _)) (pss_one (ps_expr (pe_call G_take_cue (hr.mono (by decide)) (by rfl) T.m_take_cue T.F_take_cue.kp T.bb_take_cue .nil passE0 (pa_cons (pv 0) (pa_cons (pv 1) pa_nil))))) (pss_one (ps_if (pt_cmpR op_eq (pe_callB (call_lenK K) (by rfl) T.b_len PySem.boot_len (pa_cons (pv 0) pa_nil)) pe_int (nomark _)) (pss_one (ps_raiseIS T.XI_NoText G_NoText_init (hr.mono (by decide)) (by rfl) T.c_NoText T.bd_NoText_init T.dv_NoText_init (pa_cons pe_str pa_nil))) (pss_one (ps_if (pt_cmpR op_eq (pe_ix (ix_listK K) (pv 1) pe_int (fun _ _ => rfl)) pe_str (nomark _)) (pss_one (ps_expr (pe_call G_take_part (hr.mono (by decide)) (by rfl) T.m_take_part T.F_take_part.kp T.bb_take_part .nil passE0 (pa_cons (pe_ix (ix_listK K) (pv 0) (pe_un un_neg pe_int) (fun _ _ => rfl)) (pa_cons (pv 1) pa_nil))))) (pss_one (ps_expr (pe_call G_take_telling (hr.mono (by decide)) (by rfl) T.m_take_telling T.F_take_telling.kp T.bb_take_telling .nil passS (pa_cons (pe_ix (ix_listK K) (pv 0) (pe_un un_neg pe_int) (fun _ _ => rfl)) (pa_cons (pv 1) pa_nil))))))))))), ?_⟩
    cases hr0 with
    | cue =>
      cases hd with
      | none hL =>
        refine ⟨_, rfl, M, _, _, _, rfl, rfl, SqL.of hM, atI_0 _ _, rfl, _, rfl, iteT ?_⟩
        exact ⟨_, rfl, _, rfl, L, M, rfl, hL, hM, fun P' H' hP' d1 kp => hs 1 rfl P' H' (.inr hP') d1 fun b o hb _ e => kp b o hb e⟩
    | part =>
      cases hd with
      | cue d dx _ n hL hd hP =>
        refine ⟨_, rfl, M, _, _, _, rfl, rfl, SqL.of hM, atI_0 _ _, rfl, _, rfl, ?_⟩
        rw [deF (show partT ≠ cueT by decide +kernel)]
        refine iteF ⟨_, rfl, L, _, rfl, .inl (SqL.of hL), rfl, _, rfl, iteF ?_⟩
        refine ⟨_, rfl, M, _, _, _, rfl, rfl, SqL.of hM, atI_0 _ _, rfl, _, rfl, iteT ?_⟩
        exact ⟨_, rfl, _, rfl, L, _, _, _, rfl, rfl, SqL.of hL, at_end1 _, _, rfl, L, d, dx, P0, M, n, rfl, hL, hd, hP, hM, fun H' d1 kp => hs 2 rfl P0 H' (.inl rfl) d1 fun b o _ hb e => kp b o hb e⟩
    | none w ws hw =>
      cases hd with
      | none hL =>
        refine ⟨_, rfl, M, _, _, _, rfl, rfl, SqL.of hM, atI_0 _ _, rfl, _, rfl, ?_⟩
        rw [deF hw]
        refine iteF ⟨_, rfl, L, _, rfl, .inl (SqL.of hL), rfl, _, rfl, iteT ?_⟩
        exact ⟨(by show 1 ≤ 1000; decide), raise_fin (K := K) (Same.refl _) (hn rfl)⟩
    | other k w ws hk hw hp hl =>
      refine ⟨_, rfl, M, _, _, _, rfl, rfl, SqL.of hM, atI_0 _ _, rfl, _, rfl, ?_⟩
      rw [deF hw]
      obtain ⟨d, hL⟩ : ∃ d, H L = some (.lst [.ref d]) := by
        cases hd with
        | none => exact absurd rfl hk
        | cue d _ _ _ h => exact ⟨d, h⟩
        | part d _ _ _ _ h => exact ⟨d, h⟩
      refine iteF ⟨_, rfl, L, _, rfl, .inl (SqL.of hL), rfl, _, rfl, iteF ?_⟩
      refine ⟨_, rfl, M, _, _, _, rfl, rfl, SqL.of hM, atI_0 _ _, rfl, _, rfl, ?_⟩
      rw [deF hp]
      exact iteF ⟨_, rfl, _, rfl, L, _, _, _, rfl, rfl, SqL.of hL, at_end1 _, _, rfl, _, M, w :: ws, rfl, hM, hl, hn rfl⟩
theorem raise_finF {A : Adr} {H H1 : Hp} {E : XK} {wd : V} {r : Int} {ec : Addr} {u : HO} (sm : Same H H1) (hec : H1 ec = some u) (h : refusesAt A H E r) : ∀ ea, H1 ea = none →
    spNoText A [.ref ea, wd, .int r] (upd H1 ea (newAt ea (.ref A.C_NoText) none)) (fun v H2 => v = .non ∧ H2 ec = some u ∧ ∃ dx, H2 ea = some (newAt ea (.ref A.C_NoText) dx) ∧ E (.ref A.C_NoText) dx (dropH H2 ea)) E0 := by
  intro ea hea
  have nec : ec ≠ ea := ne_of_none hec hea
  refine ⟨ea, _, _, rfl, upd_same, fun dx hdx => ?_⟩
  have ne : ea ≠ dx := by rintro rfl; rw [upd_same] at hdx; cases hdx
  have hdx1 : H1 dx = none := by rw [upd_ne (Ne.symm ne)] at hdx; exact hdx
  refine ⟨rfl, ?_, some dx, ?_, ?_⟩
  · rw [upd_ne (ne_of_none hec hdx1), upd_ne nec, upd_ne nec]; exact hec
  · rw [upd_ne ne, upd_same]
  · refine h dx _ (fun b o e => ?_) (by rw [dropH_ne (Ne.symm ne), upd_same])
    have e1 := sm _ _ e
    have n1 : b ≠ ea := ne_of_none e1 hea
    have n2 : b ≠ dx := ne_of_none e1 hdx1
    rw [dropH_ne n1, upd_ne n2, upd_ne n1, upd_ne n1]
    exact e1
inductive Rs : Nat → Nat → List Str → Sum Nat Nat → Prop
  | done (k i : Nat) : Rs k i [] (.inr k)
  | step (k i j : Nat) (r : Str) (rs : List Str) (res : Sum Nat Nat) (h : Rw k (Txt.split r blankT) (some j)) (t : Rs j (i + 1) rs res) : Rs k i (r :: rs) res
  | bad (k i : Nat) (r : Str) (rs : List Str) (h : Rw k (Txt.split r blankT) none) : Rs k i (r :: rs) (.inl i)
abbrev lineT : Str := Str.ofString "\n"
inductive RdBad (K : PySem.W.Frag) (H : Hp) : V → Int → Prop
  | other (x : V) (t : String) (ty : TyOf K H x (.type t)) (h : PySem.W.kitOne K (.type t) (.type "str") = some false) : RdBad K H x 0
  | row (z : Str) (rs : List Str) (p : Nat) (hz : z ≠ Str.ofString "") (hl : z.length ≤ 100) (hs : Txt.split z lineT = rs) (hr : ∀ r ∈ rs, r.length ≤ 100) (hn : rs.length ≤ 100) (h : Rs 0 0 rs (.inl p)) : RdBad K H (.str z) p
  | lack (z : Str) (rs : List Str) (hz : z ≠ Str.ofString "") (hl : z.length ≤ 100) (hs : Txt.split z lineT = rs) (hr : ∀ r ∈ rs, r.length ≤ 100) (hn : rs.length ≤ 100) (h : Rs 0 0 rs (.inr 1)) : RdBad K H (.str z) rs.length
theorem rd_bad {K : PySem.W.Frag} {H : Hp} {x : V} {p : Int} (h : RdBad K H x p) : (∃ t, TyOf K H x (.type t) ∧ PySem.W.kitOne K (.type t) (.type "str") = some false ∧ p = 0) ∨
    ∃ z rs res, x = .str z ∧ z ≠ Str.ofString "" ∧ z.length ≤ 100 ∧ Txt.split z lineT = rs ∧ (∀ r ∈ rs, r.length ≤ 100) ∧ rs.length ≤ 100 ∧ Rs 0 0 rs res ∧ ((∃ q : Nat, res = .inl q ∧ p = q) ∨ (res = .inr 1 ∧ p = rs.length)) := by
  cases h with
  | other _ t ty h => exact .inl ⟨t, ty, h, rfl⟩
  | row z rs q hz hl hs hr hn h => exact .inr ⟨z, rs, _, rfl, hz, hl, hs, hr, hn, h, .inl ⟨q, rfl, rfl⟩⟩
  | lack z rs hz hl hs hr hn h => exact .inr ⟨z, rs, _, rfl, hz, hl, hs, hr, hn, h, .inr ⟨rfl, rfl⟩⟩
def spRead (K : PySem.W.Frag) (A : Adr) : Sp := fun vs H Q E => ∃ x, vs = [x] ∧ ((x = .str (Str.ofString "") ∧ ∀ L H', H L = none → Same H H' → H' L = some (.lst []) → Q (.ref L) H') ∨ ∃ p, RdBad K H x p ∧ refusesAt A H E p)
theorem ok_read {P : Program} {w : World} {K : PySem.W.Frag} {mg : Str → Option Value} {base : Heap} {A : Adr} (T : Txt K mg A) : FnOk P w K mg base (CXE P w) 9 A.f_read A.d_read ["text"] (spRead K A) := by
  have G_NoText_init := ok_NoText_init (P := P) (w := w) (base := base) T
  have G_lacks_part := ok_lacks_part (P := P) (w := w) (base := base) T
  have G_take_row := ok_take_row (P := P) (w := w) (base := base) T
  have GH_NoText_init := okH_NoText_init (P := P) (w := w) (base := base) T
  refine T.F_read.okE sc_read (fun vs H Q E h => ?_) (fun cdv Ar outer s H vs Q E hr h => ?_)
  · obtain ⟨x, rfl, h⟩ := h
    rfl
  · obtain ⟨x, rfl, h⟩ := h
    refine ⟨_, (pss_cons (ps_if (pt_not (pt_val (pe_callB (call_isiT K) (by rfl) T.b_isinstance boot_isinstance (pa_cons (pv 0) (pa_cons (pe_ty (by rfl) T.b_str boot_strT) pa_nil))))) (pss_one (ps_raiseI T.XI_NoText G_NoText_init (hr.mono (by decide)) (by rfl) T.c_NoText T.bd_NoText_init T.dv_NoText_init (pa_cons pe_str pa_nil))) pss_nil)
      (pss_cons (ps_set (i := 1) sc_read.nd rfl (Or.inl rfl) (pe_ifExp (pt_cmpR op_eq (pv 0) pe_str (nomark _)) (pe_lstS pa_nil) (pe_bmK K PySem.F.plainAttrs_str PySem.F.slot_str_split PySem.F.type_str_split mt_split (pv 0) (pa_cons pe_str pa_nil))))
      (pss_cons (ps_set (i := 2) sc_read.nd rfl (Or.inl rfl) (pe_lstS pa_nil))
      (pss_cons (ps_for PassesOwn.leaving rfl (pi_enum K (by rfl) T.b_enumerate (pa_cons (pv 1) pa_nil)) (pg_tupK (n := 2) K rfl (pgs_cons (pg_name (i := 3) sc_read.nd rfl (Or.inl rfl)) (pgs_cons (pg_name (i := 4) sc_read.nd rfl (Or.inl rfl)) pgs_nil))) (pss_cons (ps_set (i := 5) sc_read.nd rfl (Or.inl rfl) (pe_bmK K PySem.F.plainAttrs_str PySem.F.slot_str_split PySem.F.type_str_split mt_split (pv 4) (pa_cons pe_str pa_nil)))
      (pss_one (ps_tryFrom (i := 6) (pb_exprS (px_callS rfl G_take_row (hr.mono (by decide)) (by rfl) T.m_take_row T.F_take_row.kp T.bb_take_row .nil (fun _ => (pa_cons (pv 2) (pa_cons (pv 5) pa_nil))))) (by rfl) T.c_NoText sc_read.nd rfl rfl T.XI_NoText GH_NoText_init (hr.mono (by decide)) (by rfl) T.c_NoText T.bb_NoText_init .nil (fun _ => (pa_cons pe_str (pa_cons (pv 3) pa_nil)))))))
      (pss_cons (ps_if (pt_val (pe_call G_lacks_part (hr.mono (by decide)) (by rfl) T.m_lacks_part T.F_lacks_part.kp T.bb_lacks_part .nil passE0 (pa_cons (pv 2) pa_nil))) (pss_one (ps_raiseI T.XI_NoText G_NoText_init (hr.mono (by decide)) (by rfl) T.c_NoText T.bb_NoText_init .nil (pa_cons pe_str (pa_cons (pe_callB (call_lenK K) (by rfl) T.b_len PySem.boot_len (pa_cons (pv 1) pa_nil)) pa_nil)))) pss_nil)
      (pss_one (ps_ret (pe_comp ["draft"] [none] rfl (pi_listK K (pv 2)) (fun _ _ _ => (pg_name (i := 0) ndc_read_0 rfl (Or.inl rfl))) (fun _ _ _ => pe_no))))))))), ?_⟩
    rcases h with ⟨rfl, k⟩ | ⟨p, hb, e⟩
    · refine seq_cut3 (fun σ' H' => ∃ R L, σ' = [some (.str (Str.ofString "")), some (.ref R), some (.ref L), none, none, none, none] ∧ Same H H' ∧ H' R = some (.lst []) ∧ H' L = some (.lst [])) (fun N hN => ?_) ?_
      · refine ⟨_, rfl, _, _, _, _, rfl, .str _, kit_sub (.inr (.inr (.inr rfl))) (.inr (.inr (.inl rfl))), _, rfl, iteF ?_⟩
        refine ⟨_, rfl, rfl, _, rfl, iteT ⟨by decide, fun R hR => ⟨by decide, fun L hL => hN _ _ ⟨R, L, rfl, (Same.new hR).trans (Same.new hL), (Same.new hL) _ _ upd_same, upd_same⟩⟩⟩⟩
      rintro σ1 H1 ⟨R, L, rfl, s1, hR, hL⟩
      refine seq_cut2 (fun σ' H' => ∃ v3 v4 v5 v6, σ' = [some (.str (Str.ofString "")), some (.ref R), some (.ref L), v3, v4, v5, v6] ∧ Same H H' ∧ H' L = some (.lst [])) (fun N hN => ?_) ?_
      · refine ⟨_, rfl, R, _, rfl, SqL.of hR, ?_⟩
        refine for_enum (K := K) (xs := []) (fun _ σ' G => ∃ v3 v4 v5 v6, σ' = [some (.str (Str.ofString "")), some (.ref R), some (.ref L), v3, v4, v5, v6] ∧ Same H1 G) ⟨_, _, _, _, rfl, Same.refl _⟩ ?_ ?_ ?_
        · rintro i σ' G _ ⟨_, _, _, _, _, sm⟩
          exact SqL.of (sm _ _ hR)
        · rintro i x q σ' G hx
          simp at hx
        · rintro σ' G ⟨v3, v4, v5, v6, rfl, sm⟩
          exact ⟨_, rfl, L, L, 0, rfl, .none (sm _ _ hL), _, rfl, iteF (hN _ _ ⟨_, _, _, _, rfl, s1.trans sm, sm _ _ hL⟩)⟩
      rintro σ2 H2 ⟨v3, v4, v5, v6, rfl, s2, hL2⟩
      refine ⟨_, rfl, L, rfl, ⟨_, SqL.of hL2⟩, fun D hD => ?_⟩
      refine comp_mp (fun v => v) (fun σ => σ.length = 1) (SqL.of hL2) hD (by decide) rfl (fun v σ' G N hv ho sm q => ?_) fun G sm hDl => ?_
      · cases hv
      · exact k D G (s2.free hD) (s2.trans sm) hDl
    · rcases rd_bad hb with ⟨t, ty, kt, rfl⟩ | ⟨z, rs, res, rfl, hz, hl, hs, hrl, hn, hR, hres⟩
      · refine seq_cut (fun _ _ => False) (fun N hN => ?_) (fun _ _ z => z.elim)
        exact ⟨_, rfl, _, _, _, _, rfl, ty, kt, _, rfl, iteT ⟨(by show 1 ≤ 1000; decide), raise_fin (K := K) (Same.refl _) e⟩⟩
      refine seq_cut3 (fun σ' H' => ∃ R L, σ' = [some (.str z), some (.ref R), some (.ref L), none, none, none, none] ∧ Same H H' ∧ H' R = some (.lst (rs.map V.str)) ∧ H' L = some (.lst []) ∧ H R = none ∧ H L = none ∧ L ≠ R) (fun N hN => ?_) ?_
      · refine ⟨_, rfl, _, _, _, _, rfl, .str _, kit_sub (.inr (.inr (.inr rfl))) (.inr (.inr (.inl rfl))), _, rfl, iteF ?_⟩
        refine ⟨_, rfl, rfl, _, rfl, ?_⟩
        rw [deF hz]
        refine iteF ⟨_, rfl, rfl, z, lineT, rfl, rfl, by decide +kernel, by omega, fun R hR => ⟨by decide, fun L hL => hN _ _ ⟨R, L, rfl, (Same.new hR).trans (Same.new hL), (Same.new hL) _ _ ?_, upd_same, hR, (Same.new hR).free hL, fun z => by rw [z, upd_same] at hL; cases hL⟩⟩⟩
        rw [hs]; exact upd_same
      rintro σ1 H1 ⟨R, L, rfl, s1, hR1, hL1, hR0, hL0, nLR⟩
      refine seq_cut2 (fun _ _ => False) (fun N hN => ?_) (fun _ _ z => z.elim)
      refine ⟨_, rfl, R, _, rfl, SqL.of hR1, ?_⟩
      refine for_enum (K := K) (xs := rs.map V.str) (fun i σ' G => ∃ v3 v4 v5 v6 k P, σ' = [some (.str z), some (.ref R), some (.ref L), v3, v4, v5, v6] ∧ Same H G ∧ H P = none ∧ G R = some (.lst (rs.map V.str)) ∧ P ≠ R ∧ Dr A G L P k ∧ Rs k i (rs.drop i) res) ⟨_, _, _, _, 0, L, rfl, s1, hL0, hR1, nLR, .none hL1, hR⟩ ?_ ?_ ?_
      · rintro i σ' G _ ⟨v3, v4, v5, v6, kk, P0, rfl, sm, hP0, gR, nPR, hd, hRs⟩
        exact SqL.of gR
      · rintro i x q σ' G hx ⟨v3, v4, v5, v6, kk, P0, rfl, sm, hP0, gR, nPR, hd, hRs⟩ hq
        rw [List.getElem?_map] at hx
        obtain ⟨r, hri, rfl⟩ := Option.map_eq_some_iff.mp hx
        have hlt : i < rs.length := (List.getElem?_eq_some_iff.mp hri).1
        have hri' : rs[i] = r := (List.getElem?_eq_some_iff.mp hri).2
        have hr1 : r.length ≤ 100 := hrl r (hri' ▸ List.getElem_mem hlt)
        rw [List.drop_eq_getElem_cons hlt, hri'] at hRs
        have sq := Same.new (o := HO.tup [V.int i, V.str r]) hq
        have hd1 := hd.keep sq
        have gR1 := sq _ _ gR
        have f1 : (upd G q (HO.tup [V.int i, V.str r])) q = some (HO.tup [V.int i, V.str r]) := upd_same
        have sm1 := sm.trans sq
        generalize upd G q (HO.tup [V.int i, V.str r]) = G1 at sq hd1 gR1 f1 sm1 ⊢
        refine ⟨q, _, rfl, SqT.of f1, rfl, ?_⟩
        refine ⟨_, _, rfl, _, _, rfl, rfl, ?_⟩
        refine ⟨_, rfl, rfl, r, blankT, rfl, rfl, by decide +kernel, by omega, fun M hM => ?_⟩
        have s2 := Same.new (o := HO.lst ((Txt.split r blankT).map V.str)) hM
        have hd2 := hd1.keep s2
        have gR2 := s2 _ _ gR1
        have fM : (upd G1 M (HO.lst ((Txt.split r blankT).map V.str))) M = some (HO.lst ((Txt.split r blankT).map V.str)) := upd_same
        have sm2 := sm1.trans s2
        generalize upd G1 M (HO.lst ((Txt.split r blankT).map V.str)) = G2 at s2 hd2 gR2 fM sm2 ⊢
        cases hRs with
        | step _ _ j _ _ _ hw t =>
          refine ⟨_, rfl, _, rfl, L, M, P0, kk, Txt.split r blankT, some j, rfl, hd2, fM, hw, fun z => (by cases z), fun j' ej P' G3 hP' d3 kp => ?_⟩
          cases ej
          refine ⟨_, _, _, _, j, P', rfl, fun b o eb => kp b o (ne_of_none eb hL0) (ne_of_none eb hP0) (sm2 _ _ eb), ?_, kp _ _ (Ne.symm nLR) (Ne.symm nPR) gR2, ?_, d3, t⟩
          · rcases hP' with rfl | z
            · exact hP0
            · exact sm2.free z
          · rcases hP' with rfl | z
            · exact nPR
            · rintro rfl; rw [gR2] at z; cases z
        | bad _ _ _ _ hw =>
          rcases hres with ⟨p', ep, rfl⟩ | ⟨ep, _⟩
          · cases ep
            refine ⟨_, rfl, _, rfl, L, M, P0, kk, Txt.split r blankT, none, rfl, hd2, fM, hw, fun _ => fun dx G3 s3 hdx => ?_, fun j z => by cases z⟩
            refine ⟨T.xe_NoText_NoText, ⟨A.C_NoText, _, _, rfl, T.XI_NoText⟩, fun ea hea => ?_⟩
            refine ⟨_, rfl, (by show 2 ≤ 1000; decide), upd_same, raise_finF ((sm2.trans s3).trans (Same.new hea)) upd_same e⟩
          · cases ep
      · rintro σ' G ⟨v3, v4, v5, v6, kk, P0, rfl, sm, hP0, gR, nPR, hd, hRs⟩
        rw [List.length_map, List.drop_length] at hRs
        cases hRs
        rcases hres with ⟨p', ep, rfl⟩ | ⟨ep, rfl⟩
        · cases ep
        · cases ep
          refine ⟨_, rfl, L, P0, 1, rfl, hd, _, rfl, iteT ?_⟩
          refine ⟨_, rfl, R, _, rfl, .inl (SqL.of gR), ?_⟩
          rw [List.length_map]
          exact ⟨(by show 2 ≤ 1000; decide), raise_fin (K := K) sm e⟩
theorem fnOr {P : Program} {w : World} {K : PySem.W.Frag} {mg : Str → Option Value} {base : Heap} {CX : CXT} {k : Nat} {f : Addr} {fd : FuncData} {ps : List Str} {sp sp' : Sp} (F : FnOk P w K mg base CX k f fd ps sp) (G : FnOk P w K mg base CX k f fd ps sp') :
    FnOk P w K mg base CX k f fd ps (fun vs H Q E => sp vs H Q E ∨ sp' vs H Q E) :=
  ⟨fun vs H Q E h => h.elim (F.len vs H Q E) (G.len vs H Q E), fun Ar outer s H args us vs Q E hr he hb hv hs => hs.elim (F.run Ar outer s H args us vs Q E hr he hb hv) (G.run Ar outer s H args us vs Q E hr he hb hv)⟩
theorem ok_row_of {P : Program} {w : World} {K : PySem.W.Frag} {mg : Str → Option Value} {base : Heap} {A : Adr} (T : Txt K mg A) : FnOk P w K mg base (CXE P w) 8 A.f_row_of A.d_row_of ["row"] (fun vs H Q E => spRowG vs H Q E ∨ spRowX K A vs H Q E) := fnOr (okG_row_of T) (okX_row_of T)
def RowT (z h : Str) (n : Int) : Prop := z.length ≤ 800 ∧ (∀ w ∈ Txt.split z blankT, w.length ≤ 100) ∧ ∃ w os, RowOk (Txt.split z blankT) h n w os
def heardF (z h : Str) (n : Int) (w : Str) (N : Addr) : List (Str × V) := [("row", .str z), ("hand", .str h), ("tick", .int n), ("word", .str w), ("things", .ref N)]
def spHeard (K : PySem.W.Frag) (A : Adr) : Sp := fun vs H Q E => ∃ (x dx : Addr) (v : V), vs = [.ref x, v] ∧ H x = some (.ins A.C_Heard dx []) ∧
  ((∃ z h n, v = .str z ∧ RowT z h n ∧ ∀ w N H', H' x = some (.ins A.C_Heard dx (heardF z h n w N)) → (∀ b o, b ≠ x → H b = some o → H' b = some o) → Q .non H') ∨ (NoRowV K H v ∧ ∀ H', Same H H' → E (.ref A.C_NoRow) none H'))
theorem ok_Heard_init {P : Program} {w : World} {K : PySem.W.Frag} {mg : Str → Option Value} {base : Heap} {A : Adr} (T : Txt K mg A) : FnOk P w K mg base (CXE P w) 9 A.f_Heard_init A.d_Heard_init ["self", "row"] (spHeard K A) := by
  have G_row_of := ok_row_of (P := P) (w := w) (base := base) T
  refine T.F_Heard_init.okE sc_Heard_init (fun vs H Q E h => ?_) (fun cdv Ar outer s H vs Q E hr h => ?_)
  · obtain ⟨x, dx, v, rfl, hx, hv⟩ := h
    rfl
  · obtain ⟨x, dx, v, rfl, hx, hv⟩ := h
    refine ⟨_, (pss_cons (ps_set (i := 2) sc_Heard_init.nd rfl (Or.inl rfl) (pe_call G_row_of (hr.mono (by decide)) (by rfl) T.m_row_of T.F_row_of.kp T.bb_row_of .nil passE (pa_cons (pv 1) pa_nil)))
      (pss_cons (ps_fld (pv 0) (pv 1) rfl)
      (pss_cons (ps_fld (pv 0) (pe_ix (ix_tupK K) (pv 2) pe_int (fun _ _ => rfl)) rfl)
      (pss_cons (ps_fld (pv 0) (pe_ix (ix_tupK K) (pv 2) pe_int (fun _ _ => rfl)) rfl)
      (pss_cons (ps_fld (pv 0) (pe_ix (ix_tupK K) (pv 2) pe_int (fun _ _ => rfl)) rfl)
      (pss_one (ps_fld (pv 0) (pe_ix (ix_tupK K) (pv 2) pe_int (fun _ _ => rfl)) rfl))))))), ?_⟩
    rcases hv with ⟨z, h, n, rfl, ⟨hz, hw, w, os, ho⟩, k⟩ | ⟨hno, e⟩
    · refine ⟨_, rfl, .inl ⟨z, h, w, n, os, rfl, hz, hw, ho, fun p N G hN sm gp gN => ?_⟩⟩
      have nxp : x ≠ p := fun e => by rw [← e, sm _ _ hx] at gp; cases gp
      have npx := Ne.symm nxp
      have q1 : ∀ o, SqT K (upd G x o) p [.str h, .int n, .str w, .ref N] := fun o => SqT.of (by rw [upd_ne npx]; exact gp)
      refine ⟨_, rfl, _, rfl, x, A.C_Heard, dx, _, rfl, sm _ _ hx, T.cl_Heard, T.na_Heard_row, (by show 0 < 1000; decide), ?_⟩
      refine ⟨_, rfl, p, _, _, _, rfl, rfl, q1 _, atI_0 _ _, _, rfl, x, A.C_Heard, dx, _, rfl, upd_same, T.cl_Heard, T.na_Heard_hand, (by show 1 < 1000; decide), ?_⟩
      refine ⟨_, rfl, p, _, _, _, rfl, rfl, SqT.of (by rw [upd_ne npx, upd_ne npx]; exact gp), atI_1 _ _ _, _, rfl, x, A.C_Heard, dx, _, rfl, upd_same, T.cl_Heard, T.na_Heard_tick, (by show 2 < 1000; decide), ?_⟩
      refine ⟨_, rfl, p, _, _, _, rfl, rfl, SqT.of (by rw [upd_ne npx, upd_ne npx, upd_ne npx]; exact gp), atI_2 _ _ _ _, _, rfl, x, A.C_Heard, dx, _, rfl, upd_same, T.cl_Heard, T.na_Heard_word, (by show 3 < 1000; decide), ?_⟩
      refine ⟨_, rfl, p, _, _, _, rfl, rfl, SqT.of (by rw [upd_ne npx, upd_ne npx, upd_ne npx, upd_ne npx]; exact gp), atI_3 _ _ _ _ _, _, rfl, x, A.C_Heard, dx, _, rfl, upd_same, T.cl_Heard, T.na_Heard_things, (by show 4 < 1000; decide), ?_⟩
      refine k w N _ upd_same fun b o hb e => ?_
      rw [upd_ne hb, upd_ne hb, upd_ne hb, upd_ne hb, upd_ne hb]
      exact sm _ _ e
    · exact ⟨_, rfl, .inr ⟨v, rfl, hno, e⟩⟩
theorem tyOf_keep {K : PySem.W.Frag} {H H' : Hp} {x : V} {t : String} (h : TyOf K H x (.type t)) (s : Same H H') : TyOf K H' x (.type t) := by
  cases h with
  | non => exact .non
  | bl x => exact .bl x
  | int i => exact .int i
  | str x => exact .str x
  | flt x => exact .flt x
  | lst e => exact .lst (s _ _ e)
  | frz e => exact .frz (s _ _ e)
  | tup e => exact .tup (s _ _ e)
  | dK e => exact .dK (s _ _ e)
  | dT e => exact .dT (s _ _ e)
theorem NoRowV.keep {K : PySem.W.Frag} {H H' : Hp} {x : V} (h : NoRowV K H x) (s : Same H H') : NoRowV K H' x := by
  cases h with
  | other _ t ty h => exact .other _ t (tyOf_keep ty s) h
  | txt z hz hw h => exact .txt z hz hw h
structure Ent where
  row : Str
  hand : Str
  tick : Int
def HeardAt (A : Adr) (H : Hp) (a : Addr) (e : Ent) : Prop := ∃ dx w N, H a = some (.ins A.C_Heard dx (heardF e.row e.hand e.tick w N))
theorem HeardAt.keep {A : Adr} {H H' : Hp} {a : Addr} {e : Ent} (h : HeardAt A H a e) (s : Same H H') : HeardAt A H' a e := by
  obtain ⟨dx, w, N, h⟩ := h
  exact ⟨dx, w, N, s _ _ h⟩
def spTick (A : Adr) : Sp := fun vs H Q _ => ∃ (a : Addr) (e : Ent), vs = [.ref a] ∧ HeardAt A H a e ∧ ∀ q H', Same H H' → H' q = some (.tup [.int e.tick, .str e.hand]) → Q (.ref q) H'
theorem ok_tick_and_hand {P : Program} {w : World} {K : PySem.W.Frag} {mg : Str → Option Value} {base : Heap} {A : Adr} (T : Txt K mg A) : FnOk P w K mg base (CXE P w) 1 A.f_tick_and_hand A.d_tick_and_hand ["heard"] (spTick A) := by
  refine T.F_tick_and_hand.okN sc_tick_and_hand (fun vs H Q E h => ?_) (fun cdv Ar outer s H vs Q E hr h => ?_)
  · obtain ⟨a, e, rfl, ha, k⟩ := h
    rfl
  · obtain ⟨a, e, rfl, ha, k⟩ := h
    refine ⟨_, (pss_one (ps_ret (pe_tupS (pa_cons (pe_fldK K (pv 0)) (pa_cons (pe_fldK K (pv 0)) pa_nil))))), ?_⟩
    obtain ⟨dx, wd, N, ha⟩ := ha
    refine ⟨_, rfl, a, _, _, _, _, rfl, ha, T.cl_Heard, T.na_Heard_tick, rfl, _, rfl, a, _, _, _, _, rfl, ha, T.cl_Heard, T.na_Heard_hand, rfl, (by show 2 ≤ 1000; decide), fun q hq => ?_⟩
    exact k q _ (Same.new hq) upd_same
def Ents (A : Adr) (H : Hp) (as : List Addr) (es : List Ent) : Prop := as.length = es.length ∧ ∀ (i : Nat) a e, as[i]? = some a → es[i]? = some e → HeardAt A H a e
theorem Ents.keep {A : Adr} {H H' : Hp} {as : List Addr} {es : List Ent} (h : Ents A H as es) (s : Same H H') : Ents A H' as es := ⟨h.1, fun i a e x y => (h.2 i a e x y).keep s⟩
def entD : Ent := ⟨Str.ofString "", Str.ofString "", 0⟩
def eLt (a b : Ent) : Prop := LS.kLt (a.tick, a.hand) (b.tick, b.hand)
def Fore (es : List Ent) (i j : Nat) : Prop := eLt (es.getD i entD) (es.getD j entD) ∨ (¬ eLt (es.getD j entD) (es.getD i entD) ∧ i < j)
def spOrder (K : PySem.W.Frag) (A : Adr) : Sp := fun vs H Q _ => ∃ (p : Addr) (as : List Addr) (es : List Ent), vs = [.ref p] ∧ H p = some (.lst (as.map V.ref)) ∧ Ents A H as es ∧ es.length < 64 ∧
  ∀ D (ix : List Nat) H', H D = none → Same H H' → H' D = some (.lst (ix.map fun i => (as.map V.ref).getD i .non)) → ix.Perm (List.range es.length) → ix.Pairwise (Fore es) → Q (.ref D) H'
def keyH (H : Hp) : V → Int × Str
  | .ref a => match H a with
    | some (.ins _ _ [_, (_, .str h), (_, .int n), _, _]) => (n, h)
    | _ => (0, Str.ofString "")
  | _ => (0, Str.ofString "")
def rowH (H : Hp) : V → V
  | .ref a => match H a with
    | some (.ins _ _ [(_, v), _, _, _, _]) => v
    | _ => .non
  | _ => .non
theorem HeardAt.key {A : Adr} {H : Hp} {a : Addr} {e : Ent} (h : HeardAt A H a e) : keyH H (.ref a) = (e.tick, e.hand) := by
  obtain ⟨dx, w, N, h⟩ := h
  unfold keyH
  simp only [h, heardF]
theorem HeardAt.row {A : Adr} {H : Hp} {a : Addr} {e : Ent} (h : HeardAt A H a e) : rowH H (.ref a) = .str e.row := by
  obtain ⟨dx, w, N, h⟩ := h
  unfold rowH
  simp only [h, heardF]
theorem Ents.at {A : Adr} {H : Hp} {as : List Addr} {es : List Ent} (h : Ents A H as es) {i : Nat} (hi : i < es.length) : ∃ a, (as.map V.ref).getD i .non = .ref a ∧ a ∈ as ∧ HeardAt A H a (es.getD i entD) := by
  have hi' : i < as.length := by rw [h.1]; exact hi
  refine ⟨as[i], ?_, List.getElem_mem hi', ?_⟩
  · simp [List.getD, hi']
  · refine h.2 i _ _ (List.getElem?_eq_getElem hi') ?_
    simp [List.getD, hi]
theorem Ents.mem {A : Adr} {H : Hp} {as : List Addr} {es : List Ent} (h : Ents A H as es) {a : Addr} (ha : a ∈ as) : ∃ e, HeardAt A H a e := by
  obtain ⟨i, hi, rfl⟩ := List.mem_iff_getElem.mp ha
  exact ⟨es[i]'(by rw [← h.1]; exact hi), h.2 i _ _ (List.getElem?_eq_getElem hi) (List.getElem?_eq_getElem (by rw [← h.1]; exact hi))⟩
theorem Ents.fore {A : Adr} {H : Hp} {as : List Addr} {es : List Ent} (h : Ents A H as es) {i j : Nat} (hi : i < es.length) (hj : j < es.length) (x : Ahead (keyH H) (as.map V.ref) i j) : Fore es i j := by
  obtain ⟨a, e1, _, h1⟩ := h.at hi
  obtain ⟨b, e2, _, h2⟩ := h.at hj
  unfold Ahead at x
  rw [e1, e2, h1.key, h2.key] at x
  exact x
theorem ok_in_order {P : Program} {w : World} {K : PySem.W.Frag} {mg : Str → Option Value} {base : Heap} {A : Adr} (T : Txt K mg A) : FnOk P w K mg base (CXE P w) 4 A.f_in_order A.d_in_order ["some"] (spOrder K A) := by
  have G_tick_and_hand := ok_tick_and_hand (P := P) (w := w) (base := base) T
  refine T.F_in_order.okN sc_in_order (fun vs H Q E h => ?_) (fun cdv Ar outer s H vs Q E hr h => ?_)
  · obtain ⟨p, as, es, rfl, hp, hE, hz, k⟩ := h
    rfl
  · obtain ⟨p, as, es, rfl, hp, hE, hz, k⟩ := h
    refine ⟨_, (pss_one (ps_ret (pe_callBK (call_sortE K G_tick_and_hand (hr.mono (by decide)) T.bb_tick_and_hand passE0) (by rfl) T.b_sorted boot_sorted (pa_cons (pv 0) pa_nil) (pk_cons (pe_glob (v := V.ref _) (by rfl) T.m_tick_and_hand rfl) pk_nil)))), ?_⟩
    refine ⟨_, rfl, p, as.map V.ref, keyH H, rfl, rfl, SqL.of hp, by rw [List.length_map, hE.1]; exact hz, fun x hx G Q' sm q => ?_, fun D ix G hD sm gD pm hw => k D ix G hD sm gD (by rw [List.length_map, hE.1] at pm; exact pm) ?_⟩
    · obtain ⟨a, ha, rfl⟩ := List.mem_map.mp hx
      obtain ⟨e, he⟩ := hE.mem ha
      refine ⟨a, e, rfl, he.keep sm, fun q' G2 s2 g => q q' G2 s2 ?_⟩
      rw [he.key]; exact g
    · rw [List.length_map, hE.1] at pm
      refine hw.imp_of_mem fun {i j} hi hj z => hE.fore ?_ ?_ z
      · exact List.mem_range.mp (pm.mem_iff.mp hi)
      · exact List.mem_range.mp (pm.mem_iff.mp hj)
def deskF (L M D : Addr) : List (Str × V) := [("cues", .ref L), ("heard", .ref M), ("ticks", .ref D)]
def spDesk (K : PySem.W.Frag) (A : Adr) : Sp := fun vs H Q E => ∃ (x dx : Addr) (v : V), vs = [.ref x, v] ∧ H x = some (.ins A.C_Desk dx []) ∧
  ((v = .str (Str.ofString "") ∧ ∀ L M D H', H M = none → H D = none → M ≠ D → H' x = some (.ins A.C_Desk dx (deskF L M D)) → H' M = some (.lst []) → H' D = some (.dK []) → (∀ b o, b ≠ x → H b = some o → H' b = some o) → Q .non H') ∨ ∃ p, RdBad K H v p ∧ refusesAt A H E p)
theorem ok_Desk_init {P : Program} {w : World} {K : PySem.W.Frag} {mg : Str → Option Value} {base : Heap} {A : Adr} (T : Txt K mg A) : FnOk P w K mg base (CXE P w) 10 A.f_Desk_init A.d_Desk_init ["self", "text"] (spDesk K A) := by
  have G_read := ok_read (P := P) (w := w) (base := base) T
  refine T.F_Desk_init.okE sc_Desk_init (fun vs H Q E h => ?_) (fun cdv Ar outer s H vs Q E hr h => ?_)
  · obtain ⟨x, dx, v, rfl, hx, hv⟩ := h
    rfl
  · obtain ⟨x, dx, v, rfl, hx, hv⟩ := h
    refine ⟨_, (pss_cons (ps_fld (pv 0) (pe_call G_read (hr.mono (by decide)) (by rfl) T.m_read T.F_read.kp T.bb_read .nil passE (pa_cons (pv 1) pa_nil)) rfl)
      (pss_cons (ps_fld (pv 0) (pe_lstS pa_nil) rfl)
      (pss_one (ps_fld (pv 0) pe_dnewK rfl)))), ?_⟩
    rcases hv with ⟨rfl, k⟩ | ⟨p, hb, e⟩
    · refine ⟨_, rfl, _, rfl, .inl ⟨rfl, fun L G hL sm gL => ?_⟩⟩
      refine ⟨_, rfl, x, A.C_Desk, dx, _, rfl, sm _ _ hx, T.cl_Desk, T.na_Desk_cues, (by show 0 < 1000; decide), ?_⟩
      have gx := sm _ _ hx
      refine ⟨by decide, fun M hM => ?_⟩
      have nM : x ≠ M := by rintro rfl; rw [upd_same] at hM; cases hM
      have gM : G M = none := by rw [upd_ne (Ne.symm nM)] at hM; exact hM
      refine ⟨_, rfl, x, A.C_Desk, dx, _, rfl, by rw [upd_ne nM, upd_same], T.cl_Desk, T.na_Desk_heard, (by show 1 < 1000; decide), ?_⟩
      intro D hD
      have nD : x ≠ D := by rintro rfl; rw [upd_same] at hD; cases hD
      have nMD : M ≠ D := by rintro rfl; rw [upd_ne (Ne.symm nM), upd_same] at hD; cases hD
      have gD : G D = none := by rw [upd_ne (Ne.symm nD), upd_ne (Ne.symm nMD), upd_ne (Ne.symm nD)] at hD; exact hD
      refine ⟨_, rfl, x, A.C_Desk, dx, _, rfl, by rw [upd_ne nD, upd_same], T.cl_Desk, T.na_Desk_ticks, (by show 2 < 1000; decide), ?_⟩
      refine k L M D _ (sm.free gM) (sm.free gD) nMD upd_same ?_ ?_ fun b o hb e => ?_
      · rw [upd_ne (Ne.symm nM), upd_ne nMD, upd_ne (Ne.symm nM), upd_same]
      · rw [upd_ne (Ne.symm nD), upd_same]
      · have e1 := sm _ _ e
        rw [upd_ne hb, upd_ne (ne_of_none e1 gD), upd_ne hb, upd_ne (ne_of_none e1 gM), upd_ne hb]
        exact e1
    · exact ⟨_, rfl, _, rfl, .inr ⟨p, hb, e⟩⟩
structure DeskAt (A : Adr) (H : Hp) (x M D : Addr) (as : List Addr) (es : List Ent) (kvs : List (Key × V)) : Prop where
  obj : ∃ dx L, H x = some (.ins A.C_Desk dx (deskF L M D))
  list : H M = some (.lst (as.map V.ref))
  ents : Ents A H as es
  dict : H D = some (.dK kvs)
theorem DeskAt.keep {A : Adr} {H H' : Hp} {x M D : Addr} {as : List Addr} {es : List Ent} {kvs : List (Key × V)} (h : DeskAt A H x M D as es kvs) (s : Same H H') : DeskAt A H' x M D as es kvs :=
  ⟨by obtain ⟨dx, L, h⟩ := h.obj; exact ⟨dx, L, s _ _ h⟩, s _ _ h.list, h.ents.keep s, s _ _ h.dict⟩
def lastOf (kvs : List (Key × V)) (h : Str) (n : Int) : Prop := (valV kvs (.inr h)).getD (.int 0) = .int n
def spHear (K : PySem.W.Frag) (A : Adr) : Sp := fun vs H Q E => ∃ (x M D : Addr) (as : List Addr) (es : List Ent) (kvs : List (Key × V)) (v : V), vs = [.ref x, v] ∧ DeskAt A H x M D as es kvs ∧ es.length < 100 ∧ kvs.length < 100 ∧
  ((∃ z h n m, v = .str z ∧ RowT z h n ∧ lastOf kvs h m ∧ (m ≤ n → ∀ a H', H a = none → DeskAt A H' x M D (as ++ [a]) (es ++ [⟨z, h, n⟩]) (putK kvs (.inr h) (.int n)) → (∀ b o, b ≠ M → b ≠ D → H b = some o → H' b = some o) → Q .non H') ∧
    (n < m → ∀ H', Same H H' → E (.ref A.C_Late) none H')) ∨ (NoRowV K H v ∧ ∀ H', Same H H' → E (.ref A.C_NoRow) none H'))
theorem ne_of_none' {H : Hp} {a b : Addr} {o : HO} (h : H a = none) (e : H b = some o) : a ≠ b := fun z => by rw [z, e] at h; cases h
theorem ents_snoc {A : Adr} {H : Hp} {as : List Addr} {es : List Ent} {a : Addr} {e : Ent} (h : Ents A H as es) (ha : HeardAt A H a e) : Ents A H (as ++ [a]) (es ++ [e]) := by
  refine ⟨by simp [h.1], fun i b f hb hf => ?_⟩
  have hl := h.1
  by_cases c : i < as.length
  · rw [List.getElem?_append_left c] at hb
    rw [List.getElem?_append_left (by omega)] at hf
    exact h.2 i b f hb hf
  · rw [List.getElem?_append_right (by omega)] at hb
    rw [List.getElem?_append_right (by omega)] at hf
    have e1 : i - as.length = 0 := by
      have := (List.getElem?_eq_some_iff.mp hb).1
      simp at this
      omega
    rw [← hl, e1] at hf
    rw [e1] at hb
    simp at hb hf
    subst hb hf
    exact ha
theorem ok_Desk_hear {P : Program} {w : World} {K : PySem.W.Frag} {mg : Str → Option Value} {base : Heap} {A : Adr} (T : Txt K mg A) : FnOk P w K mg base (CXE P w) 11 A.f_Desk_hear A.d_Desk_hear ["self", "row"] (spHear K A) := by
  have G_Heard_init := ok_Heard_init (P := P) (w := w) (base := base) T
  refine T.F_Desk_hear.okE sc_Desk_hear (fun vs H Q E h => ?_) (fun cdv Ar outer s H vs Q E hr h => ?_)
  · obtain ⟨x, M, D, as, es, kvs, v, rfl, hd, hz, hkz, hv⟩ := h
    rfl
  · obtain ⟨x, M, D, as, es, kvs, v, rfl, hd, hz, hkz, hv⟩ := h
    refine ⟨_, (pss_cons (ps_set (i := 2) sc_Desk_hear.nd rfl (Or.inl rfl) (pe_make T.M_Heard G_Heard_init (hr.mono (by decide)) (by rfl) T.c_Heard T.bb_Heard_init .nil passE (pa_cons (pv 1) pa_nil)))
      (pss_cons (ps_if (pt_cmpR op_lt (pe_fldK K (pv 2)) (pe_dget2 (hu1 hr) (pe_fldK K (pv 0)) (pe_fldK K (pv 2)) pe_int ⟨rfl, rfl, rfl, rfl⟩) (nomark _)) (pss_one (ps_raise T.x_Late (by rfl) T.c_Late (pa_cons pe_str pa_nil))) pss_nil)
      (pss_cons (ps_dput (hu1 hr) (pe_fldK K (pv 0)) (pe_fldK K (pv 2)) (pe_fldK K (pv 2)) rfl)
      (pss_one (ps_expr (pe_bmK K PySem.F.plainAttrs_list PySem.F.slot_list_append PySem.F.type_list_append mt_append (pe_fldK K (pv 0)) (pa_cons (pv 2) pa_nil))))))), ?_⟩
    rcases hv with ⟨z, h, n, m, rfl, hr0, hm, k1, k2⟩ | ⟨hno, e⟩
    · refine seq_cut (fun σ' H' => ∃ y, σ' = [some (.ref x), some (.str z), some (.ref y)] ∧ H y = none ∧ HeardAt A H' y ⟨z, h, n⟩ ∧ Same H H') (fun N hN => ?_) ?_
      · refine ⟨_, rfl, fun y dy hy hdy ny => ?_⟩
        have sy : Same H (upd (upd H dy (.own y)) y (.ins A.C_Heard dy [])) := (Same.new hdy).trans (Same.new (by rw [upd_ne (Ne.symm ny)]; exact hy))
        refine ⟨y, dy, _, rfl, upd_same, .inl ⟨z, h, n, rfl, hr0, fun wd N' G gy kp => ⟨rfl, hN _ _ ⟨y, rfl, hy, ⟨dy, wd, N', gy⟩, fun b o e => kp b o (ne_of_none e hy) (sy _ _ e)⟩⟩⟩⟩
      rintro σ1 H1 ⟨y, rfl, hy0, hyh, s1⟩
      have hd1 := hd.keep s1
      obtain ⟨dx, L, hx⟩ := hd1.obj
      have hya := hyh
      obtain ⟨dy, wd, N0, hy⟩ := hyh
      refine seq_cut (fun σ' H' => σ' = [some (.ref x), some (.str z), some (.ref y)] ∧ H' = H1 ∧ m ≤ n) (fun N hN => ?_) ?_
      · refine ⟨_, rfl, y, _, _, _, _, rfl, hy, T.cl_Heard, T.na_Heard_tick, rfl, ?_⟩
        refine ⟨_, rfl, x, _, _, _, _, rfl, hx, T.cl_Desk, T.na_Desk_ticks, rfl, D, rfl, .inl ⟨_, .inl hd1.dict⟩, ?_⟩
        refine ⟨_, rfl, y, _, _, _, _, rfl, hy, T.cl_Heard, T.na_Heard_hand, rfl, _, DGet.k (k := .inr h) hd1.dict, ?_⟩
        rw [show (valV kvs (.inr h)).getD (.int 0) = .int m from hm]
        refine ⟨_, _, rfl, rfl, _, rfl, ?_⟩
        refine ite2 (fun c => ⟨(by show 1 ≤ 1000; decide), k2 (of_decide_eq_true c) _ s1⟩) (fun c => hN _ _ ⟨rfl, rfl, ?_⟩)
        have : ¬ n < m := fun z => c (decide_eq_true z)
        omega
      rintro σ2 H2 ⟨rfl, rfl, hmn⟩
      have gMD : M ≠ D := fun e => by have := hd1.list; rw [e, hd1.dict] at this; cases this
      have gyM : y ≠ M := ne_of_none' hy0 hd.list
      have gyD : y ≠ D := ne_of_none' hy0 hd.dict
      have nxM : x ≠ M := fun e => by rw [e, hd1.list] at hx; cases hx
      have nxD : x ≠ D := fun e => by rw [e, hd1.dict] at hx; cases hx
      refine ⟨_, rfl, y, _, _, _, _, rfl, hy, T.cl_Heard, T.na_Heard_tick, rfl, _, rfl, x, _, _, _, _, rfl, hx, T.cl_Desk, T.na_Desk_ticks, rfl, _, rfl, y, _, _, _, _, rfl, hy, T.cl_Heard, T.na_Heard_hand, rfl, D, _, rfl, DPut.k (k := .inr h) hd1.dict (small1000 (by omega)), ?_⟩
      refine ⟨_, rfl, x, _, _, _, _, rfl, by rw [upd_ne nxD]; exact hx, T.cl_Desk, T.na_Desk_heard, rfl, ?_⟩
      refine ⟨.inl ⟨rfl, _, SqL.of (by rw [upd_ne gMD]; exact hd1.list)⟩, _, rfl, M, _, _, rfl, rfl, by rw [upd_ne gMD]; exact hd1.list, small1000 (by rw [List.length_map, hd1.ents.1]; omega), ?_⟩
      refine k1 hmn y _ hy0 ⟨⟨dx, L, by rw [upd_ne nxM, upd_ne nxD]; exact hx⟩, by rw [upd_same, List.map_append]; rfl, ?_, by rw [upd_ne (Ne.symm gMD), upd_same]⟩ fun b o b1 b2 e => by rw [upd_ne b1, upd_ne b2]; exact s1 _ _ e
      have kp : ∀ a e, HeardAt A H2 a e → HeardAt A (upd (upd H2 D (.dK (putK kvs (.inr h) (.int n)))) M (.lst (as.map V.ref ++ [.ref y]))) a e := by
        rintro a e ⟨da, wa, Na, ha⟩
        have a1 : a ≠ D := fun z => by rw [z, hd1.dict] at ha; cases ha
        have a2 : a ≠ M := fun z => by rw [z, hd1.list] at ha; cases ha
        exact ⟨da, wa, Na, by rw [upd_ne a2, upd_ne a1]; exact ha⟩
      exact ents_snoc ⟨hd1.ents.1, fun i a e ha he => kp a e (hd1.ents.2 i a e ha he)⟩ (kp _ _ hya)
    · refine seq_cut (fun _ _ => False) (fun N hN => ?_) (fun _ _ z => z.elim)
      refine ⟨_, rfl, fun y dy hy hdy ny => ?_⟩
      have sy : Same H (upd (upd H dy (.own y)) y (.ins A.C_Heard dy [])) := (Same.new hdy).trans (Same.new (by rw [upd_ne (Ne.symm ny)]; exact hy))
      exact ⟨y, dy, v, rfl, upd_same, .inr ⟨hno.keep sy, fun G sG => e G (sy.trans sG)⟩⟩
def spRows (K : PySem.W.Frag) (A : Adr) : Sp := fun vs H Q _ => ∃ (x M D : Addr) (as : List Addr) (es : List Ent) (kvs : List (Key × V)), vs = [.ref x] ∧ DeskAt A H x M D as es kvs ∧ es.length < 64 ∧
  ∀ R (ix : List Nat) H', H R = none → Same H H' → H' R = some (.lst (ix.map fun i => .str (es.getD i entD).row)) → ix.Perm (List.range es.length) → ix.Pairwise (Fore es) → Q (.ref R) H'
theorem ok_Desk_rows {P : Program} {w : World} {K : PySem.W.Frag} {mg : Str → Option Value} {base : Heap} {A : Adr} (T : Txt K mg A) : FnOk P w K mg base (CXE P w) 5 A.f_Desk_rows A.d_Desk_rows ["self"] (spRows K A) := by
  have G_in_order := ok_in_order (P := P) (w := w) (base := base) T
  refine T.F_Desk_rows.okN sc_Desk_rows (fun vs H Q E h => ?_) (fun cdv Ar outer s H vs Q E hr h => ?_)
  · obtain ⟨x, M, D, as, es, kvs, rfl, hd, hz, k⟩ := h
    rfl
  · obtain ⟨x, M, D, as, es, kvs, rfl, hd, hz, k⟩ := h
    refine ⟨_, (pss_one (ps_ret (pe_comp ["heard"] [none] rfl (pi_listK K (pe_call G_in_order (hr.mono (by decide)) (by rfl) T.m_in_order T.F_in_order.kp T.bb_in_order .nil passE0 (pa_cons (pe_fldK K (pv 0)) pa_nil))) (fun _ _ _ => (pg_name (i := 0) ndc_Desk_rows_0 rfl (Or.inl rfl))) (fun _ _ _ => (pe_fldK K (pv 0)))))), ?_⟩
    obtain ⟨dx, L, hx⟩ := hd.obj
    refine ⟨_, rfl, x, _, _, _, _, rfl, hx, T.cl_Desk, T.na_Desk_heard, rfl, M, as, es, rfl, hd.list, hd.ents, hz, fun D1 ix G hD1 sm gD pm pw => ?_⟩
    refine ⟨D1, rfl, ⟨_, SqL.of gD⟩, fun R hR => ?_⟩
    have lt : ∀ i ∈ ix, i < es.length := fun i hi => List.mem_range.mp (pm.mem_iff.mp hi)
    have hE := hd.ents.keep sm
    refine comp_mp (rowH G) (fun σ => σ.length = 1) (SqL.of gD) hR ?_ rfl (fun v σ' G2 N hv ho s2 q => ?_) fun G2 s2 hDl => ?_
    · have := pm.length_eq
      rw [List.length_range] at this
      rw [List.length_map]; omega
    · obtain ⟨i, hi, rfl⟩ := List.mem_map.mp hv
      obtain ⟨a, ea, _, h1⟩ := hE.at (lt i hi)
      rw [ea] at q ⊢
      obtain ⟨v0, rfl⟩ : ∃ v0, σ' = [v0] := by
        match σ', ho with
        | [v0], _ => exact ⟨v0, rfl⟩
      rw [h1.row] at q
      obtain ⟨dy, wd, N0, h1⟩ := h1
      exact ⟨_, rfl, a, _, _, _, _, rfl, s2 _ _ h1, T.cl_Heard, T.na_Heard_row, rfl, q _ _ (Same.refl _) rfl⟩
    · refine k R ix G2 (sm.free hR) (sm.trans s2) ?_ pm pw
      rw [hDl, List.map_map]
      congr 2
      refine List.map_congr_left fun i hi => ?_
      obtain ⟨a, ea, _, h1⟩ := hE.at (lt i hi)
      show rowH G ((as.map V.ref).getD i .non) = _
      rw [ea, h1.row]
def spCell (K : PySem.W.Frag) : Sp := fun vs H Q _ => ∃ (a : Addr) (ns : List Int) (i : Int), vs = [.ref a, .int i] ∧ SqL K H a (ns.map V.int) ∧ 0 ≤ i ∧ ∀ v, Q (.int v) H
theorem ok_law_cell_at {P : Program} {w : World} {K : PySem.W.Frag} {mg : Str → Option Value} {base : Heap} {A : Adr} (T : Txt K mg A) : FnOk P w K mg base (CXE P w) 1 A.f_law_cell_at A.d_law_cell_at ["_law_script", "_law_k"] (spCell K) := by
  refine T.F_law_cell_at.okN sc_law_cell_at (fun vs H Q E h => ?_) (fun cdv Ar outer s H vs Q E hr h => ?_)
  · obtain ⟨a, ns, i, rfl, hS, hi, k⟩ := h
    rfl
  · obtain ⟨a, ns, i, rfl, hS, hi, k⟩ := h
    refine ⟨_, (pss_cons (ps_if (pt_cmpR op_lt (pv 1) (pe_callB (call_lenK K) (by rfl) T.b_len PySem.boot_len (pa_cons (pv 0) pa_nil)) (nomark _)) (pss_one (ps_ret (pe_ix (ix_listK K) (pv 0) (pv 1) (fun _ _ => rfl)))) pss_nil)
      (pss_one (ps_ret pe_int))), ?_⟩
    refine ⟨_, rfl, _, rfl, a, _, rfl, .inl hS, _, _, rfl, rfl, _, rfl, ?_⟩
    refine ite2 (fun c => ?_) (fun c => ?_)
    · have c := of_decide_eq_true c
      rw [List.length_map] at c
      obtain ⟨v, hv⟩ : ∃ v, ns[i.toNat]? = some v := ⟨_, List.getElem?_eq_getElem (by omega)⟩
      refine ⟨_, rfl, _, rfl, a, _, _, _, rfl, rfl, hS, ?_, k v⟩
      have := atI_nat (xs := ns.map V.int) (j := i.toNat) (v := .int v) (by rw [List.getElem?_map, hv]; rfl)
      rwa [Int.toNat_of_nonneg hi] at this
    · exact k 0
def big : Int := 1000000000000000000000000000000000000000000000000000000000000
def spNum : Sp := fun vs H Q _ => ∃ (c : Int) (i : Nat), vs = [.int c, .int (i : Int)] ∧ i < 63 ∧ ∀ m, 0 ≤ m → m < big → Q (.int m) H
theorem ok_law_number {P : Program} {w : World} {K : PySem.W.Frag} {mg : Str → Option Value} {base : Heap} {A : Adr} (T : Txt K mg A) : FnOk P w K mg base (CXE P w) 1 A.f_law_number A.d_law_number ["_law_cell", "_law_k"] (spNum) := by
  refine T.F_law_number.okN sc_law_number (fun vs H Q E h => ?_) (fun cdv Ar outer s H vs Q E hr h => ?_)
  · obtain ⟨c, i, rfl, hi, k⟩ := h
    rfl
  · obtain ⟨c, i, rfl, hi, k⟩ := h
    refine ⟨_, (pss_cons (ps_if (PW.pt (pw_and (pt_cmpR op_eq (pe_op op_mod (pv 0) pe_int) pe_int (nomark _)) (pw_and1 (pt_cmpR op_gt (pv 0) (pe_op op_powS pe_int pe_int) (nomark _))))) (pss_one (ps_ret (pe_op op_mod (pe_op op_fdivL (pv 0) pe_int) (pe_op op_powS pe_int pe_int)))) pss_nil)
      (pss_one (ps_ret (pe_op op_mod (pe_op op_mul (pe_op op_add (pe_op op_mod (pv 0) (pe_op op_powS pe_int pe_int)) pe_int) (pe_op op_add pe_int (pe_op op_mul (pe_op op_mul pe_int (pv 1)) (pv 1)))) pe_int)))), ?_⟩
    have hb : (10 : Int) ^ Int.toNat 60 = big := by decide
    refine seq_cut (fun σ' H' => σ' = [some (.int c), some (.int i)] ∧ H' = H) (fun N hN => ?_) ?_
    · refine ⟨_, rfl, _, _, rfl, rfl, (by show (0 : Int) < 2; decide), rfl, _, rfl, ?_⟩
      refine ite2 (fun _ => ?_) (fun _ => iteF (hN _ _ ⟨rfl, rfl⟩))
      refine ⟨_, rfl, _, _, rfl, rfl, ⟨by decide, by decide, by decide, by decide⟩, _, _, rfl, rfl, _, rfl, ?_⟩
      refine ite2 (fun _ => ?_) (fun _ => hN _ _ ⟨rfl, rfl⟩)
      refine ⟨_, rfl, _, _, rfl, rfl, ⟨by decide, by decide⟩, _, _, rfl, rfl, ⟨by decide, by decide, by decide, by decide⟩, _, _, rfl, rfl, (by show (0 : Int) < 10 ^ 60; decide), k _ (Int.emod_nonneg _ (by decide)) ?_⟩
      have := Int.emod_lt_of_pos (c / 2) (show (0 : Int) < big by decide)
      rw [← hb] at this ⊢
      exact this
    rintro σ' H1 ⟨rfl, rfl⟩
    have kk : (i : Int) * i ≤ 3844 := by
      have : i * i ≤ 62 * 62 := Nat.mul_le_mul (by omega) (by omega)
      have e : ((i * i : Nat) : Int) = (i : Int) * i := by push_cast; rfl
      omega
    have k0 : 0 ≤ (i : Int) * i := Int.mul_nonneg (by omega) (by omega)
    have e3 : 7919 * (i : Int) * i = 7919 * ((i : Int) * i) := Int.mul_assoc _ _ _
    refine ⟨_, rfl, _, _, rfl, rfl, ⟨by decide, by decide, by decide, by decide⟩, _, _, rfl, rfl, (by show (0 : Int) < 10 ^ 30; decide), _, _, rfl, rfl, _, rfl, _, _, rfl, rfl, .inl ⟨by decide, by decide⟩, _, rfl, _, _, rfl, rfl, .inr ⟨by omega, by omega⟩, _, _, rfl, rfl, _, _, rfl, rfl, .inr ⟨?_, ?_⟩, _, _, rfl, rfl, (by show (0 : Int) < 2147483629; decide), k _ (Int.emod_nonneg _ (by decide)) ?_⟩
    · show -(2 ^ 64) < 48271 + 7919 * (i : Int) * i
      rw [e3]; omega
    · show 48271 + 7919 * (i : Int) * i < 2 ^ 64
      rw [e3]; omega
    · exact Int.lt_trans (Int.emod_lt_of_pos _ (by decide)) (by decide)
theorem lets_len : lets.length = 26 := by rw [← cs_len, lets_are]; rfl
theorem lets_let : ∀ c ∈ cs lets, isLet c = true := by decide +kernel
theorem lets_at (j : Int) : ∃ c, atI (cs lets) (j % 26) = some c ∧ isLet c = true := by
  have hl : (j % 26).toNat < (cs lets).length := by rw [cs_len, lets_len]; omega
  refine ⟨(cs lets)[(j % 26).toNat], ?_, lets_let _ (List.getElem_mem hl)⟩
  have := atI_nat (xs := cs lets) (j := (j % 26).toNat) (List.getElem?_eq_getElem hl)
  rwa [Int.toNat_of_nonneg (by omega)] at this
theorem lamp_of {z : Str} (h0 : 1 ≤ z.length) (h1 : z.length ≤ 8) (h2 : (cs z).all isLet = true) : lampB z = true := by
  unfold lampB
  rw [h2, decide_eq_true (by omega), decide_eq_true (by omega)]; rfl
def Tup3 (H : Hp) (p : Addr) (e : Ent) : Prop := H p = some (.tup [.int e.tick, .str e.hand, .str e.row])
def spBefore (K : PySem.W.Frag) : Sp := fun vs H Q _ => ∃ (p q : Addr) (e f : Ent), vs = [.ref p, .ref q] ∧ Tup3 H p e ∧ Tup3 H q f ∧ ∀ b : Bool, (b = true ↔ eLt e f) → Q (.bl b) H
theorem ok_law_before {P : Program} {w : World} {K : PySem.W.Frag} {mg : Str → Option Value} {base : Heap} {A : Adr} (T : Txt K mg A) : FnOk P w K mg base (CXE P w) 1 A.f_law_before A.d_law_before ["_law_one", "_law_other"] (spBefore K) := by
  refine T.F_law_before.okN sc_law_before (fun vs H Q E h => ?_) (fun cdv Ar outer s H vs Q E hr h => ?_)
  · obtain ⟨p, q, e, f, rfl, hp, hq, k⟩ := h
    rfl
  · obtain ⟨p, q, e, f, rfl, hp, hq, k⟩ := h
    refine ⟨_, (pss_cons (ps_if (pt_cmpR op_ne (pe_ix (ix_tupK K) (pv 0) pe_int (fun _ _ => rfl)) (pe_ix (ix_tupK K) (pv 1) pe_int (fun _ _ => rfl)) (nomark _)) (pss_one (ps_ret (pe_cmpR op_lt (pe_ix (ix_tupK K) (pv 0) pe_int (fun _ _ => rfl)) (pe_ix (ix_tupK K) (pv 1) pe_int (fun _ _ => rfl)) (nomark _)))) pss_nil)
      (pss_one (ps_ret (pe_cmpR op_lt_str (pe_ix (ix_tupK K) (pv 0) pe_int (fun _ _ => rfl)) (pe_ix (ix_tupK K) (pv 1) pe_int (fun _ _ => rfl)) (nomark _))))), ?_⟩
    refine ⟨_, rfl, p, _, _, _, rfl, rfl, SqT.of hp, atI_0 _ _, _, rfl, q, _, _, _, rfl, rfl, SqT.of hq, atI_0 _ _, rfl, _, rfl, ?_⟩
    refine ite2 (fun c => ?_) (fun c => ?_)
    · have ne : e.tick ≠ f.tick := fun z => by rw [z] at c; simp at c
      refine ⟨_, rfl, p, _, _, _, rfl, rfl, SqT.of hp, atI_0 _ _, _, rfl, q, _, _, _, rfl, rfl, SqT.of hq, atI_0 _ _, _, _, rfl, rfl, k _ ?_⟩
      rw [decide_eq_true_iff]
      exact ⟨fun z => .inl z, fun z => z.elim (fun z => z) fun z => absurd z.1 ne⟩
    · have eq : e.tick = f.tick := Classical.byContradiction fun z => c (by simp [z])
      refine ⟨_, rfl, p, _, _, _, rfl, rfl, SqT.of hp, atI_1 _ _ _, _, rfl, q, _, _, _, rfl, rfl, SqT.of hq, atI_1 _ _ _, _, _, rfl, rfl, k _ ?_⟩
      rw [decide_eq_true_iff]
      exact ⟨fun z => .inr ⟨eq, z⟩, fun z => z.elim (fun z => absurd z (by show ¬ e.tick < f.tick; omega)) fun z => z.2⟩
def Tups (H : Hp) (ps : List Addr) (fs : List Ent) : Prop := ps.length = fs.length ∧ ∀ (i : Nat) p e, ps[i]? = some p → fs[i]? = some e → Tup3 H p e
def spPut (K : PySem.W.Frag) : Sp := fun vs H Q _ => ∃ (R p : Addr) (ps : List Addr) (fs : List Ent) (e : Ent), vs = [.ref R, .ref p] ∧ H R = some (.lst (ps.map V.ref)) ∧ Tups H ps fs ∧ Tup3 H p e ∧ ps.length ≤ 100 ∧
  ∀ n, n ≤ fs.length → (∀ i, n ≤ i → i < fs.length → eLt e (fs.getD i entD)) → (n = 0 ∨ ¬ eLt e (fs.getD (n - 1) entD)) → Q .non (upd H R (.lst ((ps.take n ++ p :: ps.drop n).map V.ref)))
theorem ok_law_put {P : Program} {w : World} {K : PySem.W.Frag} {mg : Str → Option Value} {base : Heap} {A : Adr} (T : Txt K mg A) : FnOk P w K mg base (CXE P w) 2 A.f_law_put A.d_law_put ["_law_rows", "_law_row"] (spPut K) := by
  have G_law_before := ok_law_before (P := P) (w := w) (base := base) T
  refine T.F_law_put.okN sc_law_put (fun vs H Q E h => ?_) (fun cdv Ar outer s H vs Q E hr h => ?_)
  · obtain ⟨R, p, ps, fs, e, rfl, hR, hT, hp, hz, k⟩ := h
    rfl
  · obtain ⟨R, p, ps, fs, e, rfl, hR, hT, hp, hz, k⟩ := h
    refine ⟨_, (pss_cons (ps_set (i := 2) sc_law_put.nd rfl (Or.inl rfl) (pe_callB (call_lenK K) (by rfl) T.b_len PySem.boot_len (pa_cons (pv 0) pa_nil)))
      (pss_cons (ps_while PassesOwn.never (PW.pt (pw_and (pt_cmpR op_gt (pv 2) pe_int (nomark _)) (pw_and1 (pt_val (pe_call G_law_before (hr.mono (by decide)) (by rfl) T.m_law_before T.F_law_before.kp T.bb_law_before .nil passE0 (pa_cons (pv 1) (pa_cons (pe_ix (ix_listK K) (pv 0) (pe_op op_sub (pv 2) pe_int) (fun _ _ => rfl)) pa_nil))))))) (pss_one (ps_set (i := 2) sc_law_put.nd rfl (Or.inl rfl) (pe_op op_sub (pv 2) pe_int))))
      (pss_one (ps_expr (pe_bmK K PySem.F.plainAttrs_list PySem.F.slot_list_insert PySem.F.type_list_insert mt_insert (pv 0) (pa_cons (pv 2) (pa_cons (pv 1) pa_nil))))))), ?_⟩
    refine seq_cut2 (fun σ' H' => ∃ n : Nat, σ' = [some (.ref R), some (.ref p), some (.int n)] ∧ H' = H ∧ n ≤ fs.length ∧ (∀ i, n ≤ i → i < fs.length → eLt e (fs.getD i entD)) ∧ (n = 0 ∨ ¬ eLt e (fs.getD (n - 1) entD))) (fun N hN => ?_) ?_
    · refine ⟨_, rfl, R, _, rfl, .inl (SqL.of hR), ?_⟩
      refine ⟨fun m σ' H' => σ' = [some (.ref R), some (.ref p), some (.int m)] ∧ H' = H ∧ m ≤ fs.length ∧ ∀ i, m ≤ i → i < fs.length → eLt e (fs.getD i entD), ⟨fs.length, by rw [List.length_map, hT.1]; rfl, rfl, Nat.le_refl _, fun i a b => absurd a (by omega)⟩, ?_⟩
      rintro m σ' H' ⟨rfl, rfl, hm, hall⟩
      refine ⟨_, rfl, _, _, rfl, rfl, _, rfl, ?_⟩
      refine ite2 (fun c => ?_) (fun c => ?_)
      · have c : 0 < (m : Int) := of_decide_eq_true c
        have hlt : m - 1 < fs.length := by omega
        obtain ⟨q, hq⟩ : ∃ q, ps[m - 1]? = some q := ⟨_, List.getElem?_eq_getElem (by rw [hT.1]; exact hlt)⟩
        have ht := hT.2 (m - 1) q _ hq (List.getElem?_eq_getElem hlt)
        have ef : fs[m - 1] = fs.getD (m - 1) entD := by simp [List.getD, hlt]
        rw [ef] at ht
        refine ⟨_, rfl, _, rfl, _, rfl, _, _, rfl, rfl, R, _, _, _, rfl, rfl, SqL.of hR, ?_, p, q, e, _, rfl, hp, ht, fun b hb => ⟨_, rfl, ?_⟩⟩
        · have := atI_nat (xs := ps.map V.ref) (j := m - 1) (v := .ref q) (by rw [List.getElem?_map, hq]; rfl)
          rwa [show (((m - 1 : Nat) : Int)) = (m : Int) - 1 by omega] at this
        · cases b with
          | true =>
            refine iteT ⟨fun σ' G => σ' = [some (.ref R), some (.ref p), some (.int ((m : Int) - 1))] ∧ G = H', ?_, ?_⟩
            · rintro σ' G ⟨rfl, rfl⟩
              refine ⟨m - 1, by omega, by rw [show ((m - 1 : Nat) : Int) = (m : Int) - 1 by omega], rfl, by omega, fun i a b => ?_⟩
              by_cases z : i = m - 1
              · rw [z]; exact hb.mp rfl
              · exact hall i (by omega) b
            · exact ⟨_, rfl, _, _, rfl, rfl, rfl, rfl⟩
          | false =>
            refine iteF (hN _ _ ⟨m, rfl, rfl, hm, hall, .inr fun z => ?_⟩)
            have := hb.mpr z
            cases this
      · refine iteF (hN _ _ ⟨m, rfl, rfl, hm, hall, .inl ?_⟩)
        have : ¬ (0 : Int) < m := fun z => c (decide_eq_true z)
        omega
    rintro σ1 H1 ⟨n, rfl, rfl, hn, h1, h2⟩
    refine ⟨_, rfl, .inl ⟨rfl, _, SqL.of hR⟩, _, rfl, _, rfl, R, _, _, _, rfl, rfl, hR, by omega, ?_, ?_, ?_⟩
    · rw [List.length_map, hT.1]; omega
    · rw [List.length_map]; omega
    · have := k n hn h1 h2
      rw [List.map_append, List.map_cons, List.map_take, List.map_drop] at this
      exact this
def spSame (K : PySem.W.Frag) : Sp := fun vs H Q _ => ∃ (F R : Addr) (zs : List Str) (ps : List Addr) (fs : List Ent), vs = [.ref F, .ref R] ∧ H F = some (.lst (zs.map V.str)) ∧ H R = some (.lst (ps.map V.ref)) ∧ Tups H ps fs ∧ zs = fs.map Ent.row ∧ zs.length ≤ 100 ∧ ∀ H', Same H H' → Q (.bl true) H'
theorem ok_law_same {P : Program} {w : World} {K : PySem.W.Frag} {mg : Str → Option Value} {base : Heap} {A : Adr} (T : Txt K mg A) : FnOk P w K mg base (CXE P w) 1 A.f_law_same A.d_law_same ["_law_found", "_law_rows"] (spSame K) := by
  refine T.F_law_same.okN sc_law_same (fun vs H Q E h => ?_) (fun cdv Ar outer s H vs Q E hr h => ?_)
  · obtain ⟨F, R, zs, ps, fs, rfl, hF, hR, hT, hzs, hz, k⟩ := h
    rfl
  · obtain ⟨F, R, zs, ps, fs, rfl, hF, hR, hT, hzs, hz, k⟩ := h
    refine ⟨_, (pss_cons (ps_if (PW.pt (pw_or (pt_not (pt_val (pe_callB (call_isiT K) (by rfl) T.b_isinstance boot_isinstance (pa_cons (pv 0) (pa_cons (pe_ty (by rfl) T.b_list boot_list) pa_nil))))) (pw_or1 (pt_cmpR op_ne (pe_callB (call_lenK K) (by rfl) T.b_len PySem.boot_len (pa_cons (pv 0) pa_nil)) (pe_callB (call_lenK K) (by rfl) T.b_len PySem.boot_len (pa_cons (pv 1) pa_nil)) (nomark _))))) (pss_one (ps_ret pe_bl)) pss_nil)
      (pss_cons (ps_for PassesOwn.never rfl (pi_zip K (by rfl) T.b_zip (pa_cons (pv 0) (pa_cons (pv 1) pa_nil))) (pg_tupK (n := 2) K rfl (pgs_cons (pg_name (i := 2) sc_law_same.nd rfl (Or.inl rfl)) (pgs_cons (pg_name (i := 3) sc_law_same.nd rfl (Or.inl rfl)) pgs_nil))) (pss_one (ps_if (PW.pt (pw_or (pt_not (pt_val (pe_callB (call_isiT K) (by rfl) T.b_isinstance boot_isinstance (pa_cons (pv 2) (pa_cons (pe_ty (by rfl) T.b_str boot_strT) pa_nil))))) (pw_or1 (pt_cmpR op_ne (pv 2) (pe_ix (ix_tupK K) (pv 3) pe_int (fun _ _ => rfl)) (nomark _))))) (pss_one (ps_ret pe_bl)) pss_nil)))
      (pss_one (ps_ret pe_bl)))), ?_⟩
    have hl : zs.length = ps.length := by rw [hzs, List.length_map, hT.1]
    refine seq_cut (fun σ' H' => σ' = [some (.ref F), some (.ref R), none, none] ∧ H' = H) (fun N hN => ?_) ?_
    · refine ⟨_, rfl, _, _, _, _, rfl, .lst hF, (show PySem.W.kitOne K (.type "list") (.type "list") = some true by kernel_rfl), _, rfl, iteF ?_⟩
      refine ⟨_, rfl, F, _, rfl, .inl (SqL.of hF), _, rfl, R, _, rfl, .inl (SqL.of hR), rfl, _, rfl, ?_⟩
      rw [List.length_map, List.length_map, hl, decide_eq_true rfl]
      exact iteF (hN _ _ ⟨rfl, rfl⟩)
    rintro σ1 H1 ⟨rfl, rfl⟩
    refine seq_cut (fun σ' H' => ∃ v2 v3, σ' = [some (.ref F), some (.ref R), v2, v3] ∧ Same H1 H') (fun N hN => ?_) ?_
    · refine ⟨_, rfl, _, rfl, F, R, _, _, rfl, SqL.of hF, SqL.of hR, ?_⟩
      refine for_zip (K := K) (xs := zs.map V.str) (ys := ps.map V.ref) (fun i σ' G => ∃ v2 v3, σ' = [some (.ref F), some (.ref R), v2, v3] ∧ Same H1 G) (by rw [List.length_map, List.length_map, hl]) ⟨_, _, rfl, Same.refl _⟩ ?_ ?_ ?_
      · rintro i σ' G _ ⟨v2, v3, rfl, sm⟩
        exact ⟨SqL.of (sm _ _ hF), SqL.of (sm _ _ hR)⟩
      · rintro i x y q σ' G hx hy ⟨v2, v3, rfl, sm⟩ hq
        rw [List.getElem?_map] at hx hy
        obtain ⟨z, hz1, rfl⟩ := Option.map_eq_some_iff.mp hx
        obtain ⟨p, hp1, rfl⟩ := Option.map_eq_some_iff.mp hy
        rw [hzs, List.getElem?_map] at hz1
        obtain ⟨e, he, rfl⟩ := Option.map_eq_some_iff.mp hz1
        have ht : Tup3 G p e := sm _ _ (hT.2 i p e hp1 he)
        have sq := Same.new (o := HO.tup [V.str e.row, V.ref p]) hq
        refine ⟨q, _, rfl, SqT.of upd_same, rfl, ?_⟩
        refine ⟨_, _, rfl, _, _, rfl, rfl, ?_⟩
        refine ⟨_, rfl, _, _, _, _, rfl, .str _, kit_sub (.inr (.inr (.inr rfl))) (.inr (.inr (.inl rfl))), _, rfl, iteF ?_⟩
        refine ⟨_, rfl, _, rfl, p, _, _, _, rfl, rfl, SqT.of (sq _ _ ht), atI_2 _ _ _ _, rfl, _, rfl, ?_⟩
        rw [decide_eq_true rfl]
        exact iteF ⟨_, _, rfl, sm.trans sq⟩
      · rintro σ' G ⟨v2, v3, rfl, sm⟩
        exact hN _ _ ⟨_, _, rfl, sm⟩
    rintro σ2 H2 ⟨v2, v3, rfl, sm⟩
    exact k _ sm
def BadRow (K : PySem.W.Frag) (A : Adr) (H : Hp) (x : Addr) (v : V) (late : Bool) : Prop := ∃ (M D : Addr) (as : List Addr) (es : List Ent) (kvs : List (Key × V)), DeskAt A H x M D as es kvs ∧ es.length < 100 ∧ kvs.length < 100 ∧
  ((late = true ∧ ∃ z h n m, v = .str z ∧ RowT z h n ∧ lastOf kvs h m ∧ n < m) ∨ (late = false ∧ NoRowV K H v))
def spCaught (K : PySem.W.Frag) (A : Adr) : Sp := fun vs H Q _ => ∃ (x : Addr) (v : V) (late : Bool), vs = [.ref x, v] ∧ BadRow K A H x v late ∧ ∀ ea H', Same H H' → H' ea = some (excAt ea (.ref (if late then A.C_Late else A.C_NoRow)) none) → Q (.ref ea) H'
theorem ok_law_caught {P : Program} {w : World} {K : PySem.W.Frag} {mg : Str → Option Value} {base : Heap} {A : Adr} (T : Txt K mg A) : FnOk P w K mg base (CXE P w) 12 A.f_law_caught A.d_law_caught ["_law_desk", "_law_row"] (spCaught K A) := by
  have G_Desk_hear := ok_Desk_hear (P := P) (w := w) (base := base) T
  refine T.F_law_caught.okN sc_law_caught (fun vs H Q E h => ?_) (fun cdv Ar outer s H vs Q E hr h => ?_)
  · obtain ⟨x, v, late, rfl, hb, k⟩ := h
    rfl
  · obtain ⟨x, v, late, rfl, hb, k⟩ := h
    refine ⟨_, (pss_cons (ps_set (i := 2) sc_law_caught.nd rfl (Or.inl rfl) pe_non)
      (pss_cons (ps_try (i := 3) K rfl rfl rfl (pb_expr (px_meth rfl (fun _ => (pv 0)) T.cl_Desk T.me_Desk_hear G_Desk_hear (hr.mono (by decide)) T.bb_Desk_hear .nil (fun _ => (pa_cons (pv 1) pa_nil)))) (by rfl) T.c_LampError sc_law_caught.nd rfl rfl (fun _ => (pss_one (ps_set (i := 2) sc_law_caught.nd rfl (Or.inl rfl) (pv 3)))))
      (pss_one (ps_ret (pv 2))))), ?_⟩
    obtain ⟨M, D, as, es, kvs, hd, hz, hkz, hv⟩ := hb
    obtain ⟨dx, L, hx⟩ := hd.obj
    refine seq_cut (fun σ' H' => σ' = [some (.ref x), some v, some .non, none] ∧ H' = H) (fun N hN => hN _ _ ⟨rfl, rfl⟩) ?_
    rintro σ' H0 ⟨rfl, rfl⟩
    refine seq_cut (fun σ' H' => ∃ ea, σ' = [some (.ref x), some v, some (.ref ea), none] ∧ Same H0 H' ∧ H' ea = some (excAt ea (.ref (if late then A.C_Late else A.C_NoRow)) none)) (fun N hN => ?_) ?_
    · refine ⟨_, rfl, ?_⟩
      rcases hv with ⟨rfl, z, h, n, m, rfl, hr0, hm, hlt⟩ | ⟨rfl, hno⟩
      · exact ⟨x, dx, _, rfl, hx, rfl, _, rfl, x, M, D, as, es, kvs, _, rfl, hd, hz, hkz, .inl ⟨z, h, n, m, rfl, hr0, hm, fun z => absurd hlt (by omega), fun _ G sG => ⟨T.xm_Late, fun ea hea => ⟨_, rfl, hN _ _ ⟨ea, rfl, sG.trans (Same.new hea), upd_same⟩⟩⟩⟩⟩
      · exact ⟨x, dx, _, rfl, hx, rfl, _, rfl, x, M, D, as, es, kvs, _, rfl, hd, hz, hkz, .inr ⟨hno, fun G sG => ⟨T.xm_NoRow, fun ea hea => ⟨_, rfl, hN _ _ ⟨ea, rfl, sG.trans (Same.new hea), upd_same⟩⟩⟩⟩⟩
    rintro σ' H1 ⟨ea, rfl, s1, fe⟩
    exact ⟨_, rfl, k ea _ s1 fe⟩
def spRefused (K : PySem.W.Frag) (A : Adr) : Sp := fun vs H Q _ => ∃ (x : Addr) (v : V) (late : Bool), vs = [.ref x, v, .bl late] ∧ BadRow K A H x v late ∧ ∀ H', Same H H' → Q (.bl true) H'
theorem ok_law_refused {P : Program} {w : World} {K : PySem.W.Frag} {mg : Str → Option Value} {base : Heap} {A : Adr} (T : Txt K mg A) : FnOk P w K mg base (CXE P w) 13 A.f_law_refused A.d_law_refused ["_law_desk", "_law_row", "_law_late"] (spRefused K A) := by
  have G_law_caught := ok_law_caught (P := P) (w := w) (base := base) T
  refine T.F_law_refused.okN sc_law_refused (fun vs H Q E h => ?_) (fun cdv Ar outer s H vs Q E hr h => ?_)
  · obtain ⟨x, v, late, rfl, hb, k⟩ := h
    rfl
  · obtain ⟨x, v, late, rfl, hb, k⟩ := h
    refine ⟨_, (pss_cons (ps_set (i := 3) sc_law_refused.nd rfl (Or.inl rfl) (pe_call G_law_caught (hr.mono (by decide)) (by rfl) T.m_law_caught T.F_law_caught.kp T.bb_law_caught .nil passE0 (pa_cons (pv 0) (pa_cons (pv 1) pa_nil))))
      (pss_cons (ps_if (PW.pt (pw_or (pt_not (pt_val (pe_callB (call_isx K) (by rfl) T.b_isinstance boot_isinstance (pa_cons (pv 3) (pa_cons (pe_ty (by rfl) T.b_ValueError boot_ValueError) pa_nil))))) (pw_or1 (pt_val (pe_callB (call_isx K) (by rfl) T.b_isinstance boot_isinstance (pa_cons (pv 3) (pa_cons (pe_glob (v := V.ref _) (by rfl) T.c_NoText rfl) pa_nil))))))) (pss_one (ps_ret pe_bl)) pss_nil)
      (pss_cons (ps_if (PW.pt (pw_or (pt_val (pe_callB (call_isx K) (by rfl) T.b_isinstance boot_isinstance (pa_cons (pv 3) (pa_cons (pe_glob (v := V.ref _) (by rfl) T.c_NoCue rfl) pa_nil)))) (pw_or1 (pt_val (pe_callB (call_isx K) (by rfl) T.b_isinstance boot_isinstance (pa_cons (pv 3) (pa_cons (pe_glob (v := V.ref _) (by rfl) T.c_NoName rfl) pa_nil))))))) (pss_one (ps_ret pe_bl)) pss_nil)
      (pss_one (ps_ret (pe_and (pe_cmpR op_eq (pe_callB (call_isx K) (by rfl) T.b_isinstance boot_isinstance (pa_cons (pv 3) (pa_cons (pe_glob (v := V.ref _) (by rfl) T.c_Late rfl) pa_nil))) (pv 2) (nomark _)) (pe_one (pe_cmpR op_ne (pe_callB (call_isx K) (by rfl) T.b_isinstance boot_isinstance (pa_cons (pv 3) (pa_cons (pe_glob (v := V.ref _) (by rfl) T.c_NoRow rfl) pa_nil))) (pv 2) (nomark _))))))))), ?_⟩
    refine seq_cut (fun σ' H' => ∃ ea, σ' = [some (.ref x), some v, some (.bl late), some (.ref ea)] ∧ Same H H' ∧ H' ea = some (excAt ea (.ref (if late then A.C_Late else A.C_NoRow)) none)) (fun N hN => ?_) ?_
    · exact ⟨_, rfl, _, rfl, x, v, late, rfl, hb, fun ea G sm fe => hN _ _ ⟨ea, rfl, sm, fe⟩⟩
    rintro σ' H1 ⟨ea, rfl, s1, fe⟩
    cases late with
    | true =>
      refine seq_cut (fun σ' H' => σ' = [some (.ref x), some v, some (.bl true), some (.ref ea)] ∧ H' = H1) (fun N hN => ?_) ?_
      · refine ⟨_, rfl, _, _, _, _, _, rfl, fe, T.xc_Late, rfl, (fun _ z => z), T.xv_Late, _, rfl, iteF ?_⟩
        exact ⟨_, rfl, _, _, _, _, _, rfl, fe, T.xc_Late, rfl, (fun _ z => z), T.xk_Late_NoText, _, rfl, iteF (hN _ _ ⟨rfl, rfl⟩)⟩
      rintro σ' H2 ⟨rfl, rfl⟩
      refine seq_cut (fun σ' H' => σ' = [some (.ref x), some v, some (.bl true), some (.ref ea)] ∧ H' = H2) (fun N hN => ?_) ?_
      · refine ⟨_, rfl, _, _, _, _, _, rfl, fe, T.xc_Late, rfl, (fun _ z => z), T.xk_Late_NoCue, _, rfl, iteF ?_⟩
        exact ⟨_, rfl, _, _, _, _, _, rfl, fe, T.xc_Late, rfl, (fun _ z => z), T.xk_Late_NoName, _, rfl, iteF (hN _ _ ⟨rfl, rfl⟩)⟩
      rintro σ' H3 ⟨rfl, rfl⟩
      refine ⟨_, rfl, _, _, _, _, _, rfl, fe, T.xc_Late, rfl, (fun _ z => z), T.xk_Late_Late, _, rfl, rfl, _, rfl, iteT ?_⟩
      exact ⟨_, rfl, _, _, _, _, _, rfl, fe, T.xc_Late, rfl, (fun _ z => z), T.xk_Late_NoRow, _, rfl, rfl, k _ s1⟩
    | false =>
      refine seq_cut (fun σ' H' => σ' = [some (.ref x), some v, some (.bl false), some (.ref ea)] ∧ H' = H1) (fun N hN => ?_) ?_
      · refine ⟨_, rfl, _, _, _, _, _, rfl, fe, T.xc_NoRow, rfl, (fun _ z => z), T.xv_NoRow, _, rfl, iteF ?_⟩
        exact ⟨_, rfl, _, _, _, _, _, rfl, fe, T.xc_NoRow, rfl, (fun _ z => z), T.xk_NoRow_NoText, _, rfl, iteF (hN _ _ ⟨rfl, rfl⟩)⟩
      rintro σ' H2 ⟨rfl, rfl⟩
      refine seq_cut (fun σ' H' => σ' = [some (.ref x), some v, some (.bl false), some (.ref ea)] ∧ H' = H2) (fun N hN => ?_) ?_
      · refine ⟨_, rfl, _, _, _, _, _, rfl, fe, T.xc_NoRow, rfl, (fun _ z => z), T.xk_NoRow_NoCue, _, rfl, iteF ?_⟩
        exact ⟨_, rfl, _, _, _, _, _, rfl, fe, T.xc_NoRow, rfl, (fun _ z => z), T.xk_NoRow_NoName, _, rfl, iteF (hN _ _ ⟨rfl, rfl⟩)⟩
      rintro σ' H3 ⟨rfl, rfl⟩
      refine ⟨_, rfl, _, _, _, _, _, rfl, fe, T.xc_NoRow, rfl, (fun _ z => z), T.xk_NoRow_Late, _, rfl, rfl, _, rfl, iteT ?_⟩
      exact ⟨_, rfl, _, _, _, _, _, rfl, fe, T.xc_NoRow, rfl, (fun _ z => z), T.xk_NoRow_NoRow, _, rfl, rfl, k _ s1⟩
theorem joinL_cons {c : Nat} {w : List Nat} {ws : List (List Nat)} (h : ws ≠ []) : joinL c (w :: ws) = w ++ c :: joinL c ws := by
  cases ws with
  | nil => exact absurd rfl h
  | cons a b => rfl
theorem join_cons (w : Str) (ws : List Str) (h : ws ≠ []) : joinL 32 ((w :: ws).map cs) = cs w ++ 32 :: joinL 32 (ws.map cs) := by
  rw [List.map_cons]
  exact joinL_cons (by simpa using h)
theorem joinL_len {c B : Nat} : ∀ {ws : List (List Nat)}, (∀ w ∈ ws, w.length ≤ B) → (joinL c ws).length ≤ (B + 1) * ws.length
  | [], _ => Nat.zero_le _
  | [a], h => by have := h a (by simp); show a.length ≤ (B + 1) * 1; omega
  | a :: b :: r, h => by
    have h1 := h a (by simp)
    have ih := joinL_len (c := c) (B := B) (ws := b :: r) fun w hw => h w (List.mem_cons_of_mem _ hw)
    show (a ++ c :: joinL c (b :: r)).length ≤ (B + 1) * ((b :: r).length + 1)
    rw [List.length_append, List.length_cons, Nat.mul_succ]
    omega
def NoT (z : Str) : Prop := z.length ≤ 800 ∧ (∀ w ∈ Txt.split z blankT, w.length ≤ 100) ∧ RowNo (Txt.split z blankT)
theorem NoT.v {K : PySem.W.Frag} {H : Hp} {z : Str} (h : NoT z) : NoRowV K H (.str z) := .txt z h.1 h.2.1 h.2.2
theorem split_blank {z : Str} {ws : List Str} (hne : ws ≠ []) (hc : cs z = joinL 32 (ws.map cs)) (hf : ∀ w ∈ ws, (32 : Nat) ∉ cs w) : Txt.split z blankT = ws := by
  rw [blank_is]
  exact split_of hne hf hc
theorem no_t {z : Str} {ws : List Str} (hne : ws ≠ []) (hc : cs z = joinL 32 (ws.map cs)) (hf : ∀ w ∈ ws, (32 : Nat) ∉ cs w ∧ w.length ≤ 40) (hl : ws.length ≤ 14) (h : RowNo ws) : NoT z := by
  have e := split_blank hne hc fun w hw => (hf w hw).1
  refine ⟨?_, ?_, ?_⟩
  · rw [← cs_len, hc]
    have := joinL_len (c := 32) (B := 40) (ws := ws.map cs) fun w hw => by
      obtain ⟨y, hy, rfl⟩ := List.mem_map.mp hw
      rw [cs_len]; exact (hf y hy).2
    rw [List.length_map] at this
    omega
  · rw [e]; exact fun w hw => Nat.le_trans (hf w hw).2 (by decide)
  · rw [e]; exact h
theorem sec_free {n : Int} (h : 0 ≤ n) : (32 : Nat) ∉ cs (secT n) := fun z => by
  have := List.all_eq_true.mp (sec_ok h).1.1 _ z
  revert this; decide
theorem sec_len20 {n : Int} (h0 : 0 ≤ n) (h1 : n < 1000000000000) : (secT n).length ≤ 20 := by
  obtain ⟨m, rfl⟩ := Int.eq_ofNat_of_zero_le h0
  rw [← cs_len]
  unfold secT
  rw [num_cs, List.length_map]
  exact PyProof.Rows.digits10_le (by decide) (by omega)
theorem lamp_free {z : Str} (h : lampB z = true) : (32 : Nat) ∉ cs z ∧ z.length ≤ 8 := by
  unfold lampB at h
  simp only [Bool.and_eq_true, decide_eq_true_eq] at h
  refine ⟨fun x => ?_, by omega⟩
  have := List.all_eq_true.mp h.2.2 _ x
  revert this; decide
theorem only {w : Str} {r f : List Str} (hf : f ∈ formsT) (hh : f.headD blankT = w) (hl : f.length = (w :: r).length) (hg : Go f (w :: r) none) : ∀ g ∈ formsT, Tb g (w :: r) none := by
  intro g hm
  by_cases c : g.headD blankT = w
  · rcases (forms_apart g hm f hf (c.trans hh.symm)).1 with e | e
    · rw [e]; exact .inr ⟨hl, hg⟩
    · exact tb_other hm (.inr fun q => e (q.trans hl.symm))
  · exact tb_other hm (.inl c)
theorem kinds_name : (lamT ≠ numT ∧ lamT ≠ worT ∧ lamT ≠ levT ∧ lamT ≠ timT ∧ lamT ≠ sidT) ∧ (namT ≠ numT ∧ namT ≠ worT ∧ namT ≠ levT ∧ namT ≠ timT ∧ namT ≠ sidT) := by decide +kernel
theorem row_t {z h w : Str} {t : Int} {r f : List Str} {os : List V} (g : Good h t w r os f) (hc : cs z = joinL 32 ((h :: secT t :: w :: r).map cs)) (hf : ∀ y ∈ h :: secT t :: w :: r, (32 : Nat) ∉ cs y ∧ y.length ≤ 40) (hl : r.length ≤ 10) : RowT z h t := by
  have e := split_blank (ws := h :: secT t :: w :: r) (by simp) hc fun y hy => (hf y hy).1
  refine ⟨?_, ?_, w, os, ?_⟩
  · rw [← cs_len, hc]
    have := joinL_len (c := 32) (B := 40) (ws := (h :: secT t :: w :: r).map cs) fun w hw => by
      obtain ⟨y, hy, rfl⟩ := List.mem_map.mp hw
      rw [cs_len]; exact (hf y hy).2
    rw [List.length_map] at this
    simp only [List.length_cons] at this
    omega
  · rw [e]; exact fun w hw => Nat.le_trans (hf w hw).2 (by decide)
  · rw [e]; exact g.ok
theorem blank_cs : cs blankT = [32] := by decide +kernel
theorem text_cs {h s : Str} {t : Int} {ws : List Str} (hne : ws ≠ []) (hs : cs s = joinL 32 (ws.map cs)) : cs (h ++ blankT ++ secT t ++ blankT ++ s) = joinL 32 ((h :: secT t :: ws).map cs) := by
  rw [join_cons _ _ (by simp), join_cons _ _ hne, cs_app, cs_app, cs_app, cs_app, blank_cs, hs]
  simp
theorem head_ok {h : Str} {t : Int} (hh : lampB h = true) (h0 : 0 ≤ t) (h1 : t ≤ 1000000) {ws : List Str} (hw : ∀ y ∈ ws, (32 : Nat) ∉ cs y ∧ y.length ≤ 40) : ∀ y ∈ h :: secT t :: ws, (32 : Nat) ∉ cs y ∧ y.length ≤ 40 := by
  intro y hy
  rcases List.mem_cons.mp hy with rfl | hy
  · have := lamp_free hh; exact ⟨this.1, by omega⟩
  rcases List.mem_cons.mp hy with rfl | hy
  · exact ⟨sec_free h0, Nat.le_trans (sec_len20 h0 (by omega)) (by decide)⟩
  · exact hw y hy
theorem deed1 {h : Str} {t : Int} (hh : lampB h = true) (h0 : 0 ≤ t) (h1 : t ≤ 1000000) {w : Str} (hf : [w] ∈ formsT) (hl : Txt.islower w = true) (hw : (32 : Nat) ∉ cs w ∧ w.length ≤ 40) : RowT (h ++ blankT ++ secT t ++ blankT ++ w) h t :=
  row_t (r := []) (os := []) (f := [w]) ⟨hh, h0, by omega, hf, rfl, .lit w [] [] _ hl .nil, rfl⟩ (text_cs (ws := [w]) (by simp) rfl) (head_ok hh h0 h1 (by simpa using hw)) (by decide)
theorem deedM {h : Str} {t l : Int} (hh : lampB h = true) (h0 : 0 ≤ t) (h1 : t ≤ 1000000) (l0 : 0 ≤ l) (l1 : l ≤ 1000) : RowT (h ++ blankT ++ secT t ++ blankT ++ (Str.ofString "move f " ++ secT l)) h t := by
  have hm : cs (Str.ofString "move f ") = cs (Str.ofString "move") ++ 32 :: (cs (Str.ofString "f") ++ [32]) := by decide +kernel
  have e : cs (Str.ofString "move f " ++ secT l) = joinL 32 ([Str.ofString "move", Str.ofString "f", secT l].map cs) := by
    rw [join_cons _ _ (by simp), join_cons _ _ (by simp), cs_app, hm]
    simp [joinL]
  refine row_t (w := Str.ofString "move") (r := [Str.ofString "f", secT l]) (os := [.str (Str.ofString "f"), .int l]) (f := [Str.ofString "move", namT, levT]) ⟨hh, h0, by omega, by decide +kernel, by decide +kernel, ?_, rfl⟩ (text_cs (by simp) e) (head_ok hh h0 h1 ?_) (by show 2 ≤ 10; decide)
  · refine .lit _ _ _ _ (by decide +kernel) (.thing _ _ _ _ _ (some [.int l]) (by decide +kernel) (.name _ _ kinds_name.2 (by decide +kernel)) (fun z => by cases z) (.thing _ _ _ _ _ (some []) (by decide +kernel) ?_ (fun z => by cases z) .nil))
    have := Th.level (secT l)
    rwa [whole_sec l0 l1] at this
  · intro y hy
    simp only [List.mem_cons, List.not_mem_nil, or_false] at hy
    rcases hy with rfl | rfl | rfl
    · exact ⟨by decide +kernel, by decide +kernel⟩
    · exact ⟨by decide +kernel, by decide +kernel⟩
    · exact ⟨sec_free l0, Nat.le_trans (sec_len20 l0 (by omega)) (by decide)⟩
def oddsT : List Str := [Str.ofString "gone", Str.ofString "jump", Str.ofString "move f 1001", Str.ofString "goto 0", Str.ofString "", Str.ofString "go go"]
theorem odd_no {h : Str} {t : Int} (hh : lampB h = true) (h0 : 0 ≤ t) (h1 : t ≤ 1000000) : ∀ s ∈ oddsT, NoT (h ++ blankT ++ secT t ++ blankT ++ s) := by
  have key : ∀ (s : Str) (ws : List Str), ws ≠ [] → cs s = joinL 32 (ws.map cs) → (∀ y ∈ ws, (32 : Nat) ∉ cs y ∧ y.length ≤ 40) → ws.length ≤ 4 → (∀ g ∈ formsT, Tb g ws none) → NoT (h ++ blankT ++ secT t ++ blankT ++ s) := fun s ws hne hs hw hl hn =>
    no_t (ws := h :: secT t :: ws) (by simp) (text_cs hne hs) (head_ok hh h0 h1 hw) (by simp only [List.length_cons]; omega) (.deed h _ _ t (whole_sec h0 (by omega)) hn)
  intro s hs
  simp only [oddsT, List.mem_cons, List.not_mem_nil, or_false] at hs
  rcases hs with rfl | rfl | rfl | rfl | rfl | rfl
  · exact key _ [Str.ofString "gone"] (by simp) (by decide +kernel) (by decide +kernel) (by decide) fun g hm => tb_other hm (.inl ((by decide +kernel : ∀ g ∈ formsT, g.headD blankT ≠ Str.ofString "gone") g hm))
  · exact key _ [Str.ofString "jump"] (by simp) (by decide +kernel) (by decide +kernel) (by decide) fun g hm => tb_other hm (.inl ((by decide +kernel : ∀ g ∈ formsT, g.headD blankT ≠ Str.ofString "jump") g hm))
  · refine key _ [Str.ofString "move", Str.ofString "f", Str.ofString "1001"] (by simp) (by decide +kernel) (by decide +kernel) (by decide) (only (f := [Str.ofString "move", namT, levT]) (by decide +kernel) (by decide +kernel) rfl ?_)
    refine .lit _ _ _ _ (by decide +kernel) (.thing _ _ _ _ _ none (by decide +kernel) (.name _ _ kinds_name.2 (by decide +kernel)) (fun z => by cases z) (.thingNo _ _ _ _ (by decide +kernel) ?_))
    have := Th.level (Str.ofString "1001")
    rwa [(by decide +kernel : wholeV (cs (Str.ofString "1001")) 1000 = .non)] at this
  · exact key _ [Str.ofString "goto", Str.ofString "0"] (by simp) (by decide +kernel) (by decide +kernel) (by decide) (only (f := [Str.ofString "goto", numT]) (by decide +kernel) (by decide +kernel) rfl (.lit _ _ _ _ (by decide +kernel) (.thingNo _ _ _ _ (by decide +kernel) .num0)))
  · exact key _ [Str.ofString ""] (by simp) (by decide +kernel) (by decide +kernel) (by decide) fun g hm => tb_other hm (.inl ((by decide +kernel : ∀ g ∈ formsT, g.headD blankT ≠ Str.ofString "") g hm))
  · exact key _ [Str.ofString "go", Str.ofString "go"] (by simp) (by decide +kernel) (by decide +kernel) (by decide) fun g hm => tb_other hm ((by decide +kernel : ∀ g ∈ formsT, g.headD blankT ≠ Str.ofString "go" ∨ g.length ≠ 2) g hm)
theorem fore_one {es : List Ent} {i j : Nat} (a : Fore es i j) (b : Fore es j i) : i = j := by
  rcases a with a | ⟨a, a'⟩ <;> rcases b with b | ⟨b, b'⟩
  · exact absurd (LS.kLt.trans a b) (LS.kLt.irr _)
  · exact absurd a b
  · exact absurd b a
  · omega
theorem fore_unique {es : List Ent} {ix jx : List Nat} (a : ix.Pairwise (Fore es)) (b : jx.Pairwise (Fore es)) (p : ix.Perm jx) : ix = jx := List.Perm.eq_of_pairwise (fun _ _ _ _ => fore_one) a b p
theorem getD_snoc {es : List Ent} {e : Ent} {i : Nat} (h : i < es.length) : (es ++ [e]).getD i entD = es.getD i entD := by
  simp [List.getD, List.getElem?_append_left h]
theorem getD_last {es : List Ent} {e : Ent} : (es ++ [e]).getD es.length entD = e := by
  simp [List.getD]
def InOrder (es : List Ent) (ix : List Nat) : Prop := ix.Perm (List.range es.length) ∧ ix.Pairwise (Fore es)
theorem InOrder.put {es : List Ent} {ix : List Nat} {e : Ent} (h : InOrder es ix) {n : Nat} (hn : n ≤ ix.length) (h1 : ∀ i, n ≤ i → i < ix.length → eLt e ((ix.map fun j => es.getD j entD).getD i entD)) (h2 : n = 0 ∨ ¬ eLt e ((ix.map fun j => es.getD j entD).getD (n - 1) entD)) :
    InOrder (es ++ [e]) (ix.take n ++ es.length :: ix.drop n) := by
  obtain ⟨pm, pw⟩ := h
  have lt : ∀ i ∈ ix, i < es.length := fun i hi => List.mem_range.mp (pm.mem_iff.mp hi)
  have at' : ∀ k (hk : k < ix.length), (ix.map fun j => es.getD j entD).getD k entD = es.getD ix[k] entD := fun k hk => by simp [List.getD, hk]
  have fo : ∀ i j, i < es.length → j < es.length → Fore es i j → Fore (es ++ [e]) i j := fun i j hi hj f => by
    unfold Fore at f ⊢
    rw [getD_snoc hi, getD_snoc hj]; exact f
  constructor
  · refine List.perm_middle.trans ?_
    rw [List.take_append_drop, List.length_append]
    show (es.length :: ix).Perm (List.range (es.length + 1))
    rw [List.range_succ]
    exact (pm.cons _).trans (List.perm_append_singleton _ _).symm
  · rw [List.pairwise_append, List.pairwise_cons]
    have pt := pw.sublist (List.take_sublist n ix)
    have pd := pw.sublist (List.drop_sublist n ix)
    have nT : ∀ i ∈ ix.take n, Fore (es ++ [e]) i es.length := by
      intro i hi
      have hi' := List.mem_of_mem_take hi
      obtain ⟨k, hk, rfl⟩ := List.mem_iff_getElem.mp hi
      rw [List.length_take] at hk
      have hki : k < ix.length := by omega
      rw [List.getElem_take] at hi' ⊢
      refine .inr ⟨?_, lt _ hi'⟩
      rw [getD_last, getD_snoc (lt _ hi')]
      intro z
      rcases h2 with h2 | h2
      · omega
      · have hn1 : n - 1 < ix.length := by omega
        rw [at' _ hn1] at h2
        by_cases c : k = n - 1
        · subst c; exact h2 z
        · have f : Fore es ix[k] ix[n - 1] := List.pairwise_iff_getElem.mp pw k (n - 1) hki hn1 (by omega)
          rcases f with f | ⟨f, _⟩
          · exact h2 (LS.kLt.trans z f)
          · exact h2 (LS.kLt.neg f z)
    have nD : ∀ j ∈ ix.drop n, Fore (es ++ [e]) es.length j := by
      intro j hj
      have hj' := List.mem_of_mem_drop hj
      obtain ⟨k, hk, rfl⟩ := List.mem_iff_getElem.mp hj
      rw [List.length_drop] at hk
      rw [List.getElem_drop] at hj' ⊢
      have := h1 (n + k) (by omega) (by omega)
      rw [at' _ (by omega)] at this
      refine .inl ?_
      rw [getD_last, getD_snoc (lt _ hj')]
      exact this
    refine ⟨pt.imp_of_mem fun {a b} ha hb f => fo a b (lt a (List.mem_of_mem_take ha)) (lt b (List.mem_of_mem_take hb)) f, ⟨nD, pd.imp_of_mem fun {a b} ha hb f => fo a b (lt a (List.mem_of_mem_drop ha)) (lt b (List.mem_of_mem_drop hb)) f⟩, ?_⟩
    intro a ha b hb
    rcases List.mem_cons.mp hb with rfl | hb
    · exact nT a ha
    · obtain ⟨k, hk, rfl⟩ := List.mem_iff_getElem.mp ha
      obtain ⟨l, hl, rfl⟩ := List.mem_iff_getElem.mp hb
      rw [List.length_take] at hk
      rw [List.length_drop] at hl
      rw [List.getElem_take, List.getElem_drop]
      exact fo _ _ (lt _ (List.getElem_mem _)) (lt _ (List.getElem_mem _)) (List.pairwise_iff_getElem.mp pw k (n + l) (by omega) (by omega) (by omega))
theorem InOrder.map_put {es : List Ent} {ix : List Nat} {e : Ent} (h : InOrder es ix) (n : Nat) : (ix.take n ++ es.length :: ix.drop n).map (fun j => (es ++ [e]).getD j entD) = (ix.map fun j => es.getD j entD).take n ++ e :: (ix.map fun j => es.getD j entD).drop n := by
  have lt : ∀ i ∈ ix, i < es.length := fun i hi => List.mem_range.mp (h.1.mem_iff.mp hi)
  rw [List.map_append, List.map_cons, getD_last, ← List.map_take, ← List.map_drop]
  congr 1
  · exact List.map_congr_left fun j hj => getD_snoc (lt j (List.mem_of_mem_take hj))
  · congr 1
    exact List.map_congr_left fun j hj => getD_snoc (lt j (List.mem_of_mem_drop hj))
theorem last_put {kvs : List (Key × V)} {h h' : Str} {n m : Int} (hm : lastOf kvs h' m) : lastOf (putK kvs (.inr h) (.int n)) h' (if h' = h then n else m) := by
  unfold lastOf at hm ⊢
  rw [valV_put]
  by_cases c : h' = h
  · rw [if_pos (by rw [c]), if_pos c]; rfl
  · rw [if_neg (fun z => c (by injection z)), if_neg c]; exact hm
structure LawAt (A : Adr) (H : Hp) (x M D R S : Addr) (es : List Ent) (B : Int) (as : List Addr) (kvs : List (Key × V)) (ps : List Addr) (ix : List Nat) : Prop where
  desk : DeskAt A H x M D as es kvs
  dict : H S = some (.dK kvs)
  list : H R = some (.lst (ps.map V.ref))
  tups : Tups H ps (ix.map fun j => es.getD j entD)
  ord : InOrder es ix
  few : kvs.length ≤ es.length
  last : ∀ h, ∃ m, lastOf kvs h m ∧ 0 ≤ m ∧ m ≤ B
  nRM : R ≠ M
  nSD : S ≠ D
theorem LawAt.keep {A : Adr} {H H' : Hp} {x M D R S : Addr} {es : List Ent} {B : Int} {as : List Addr} {kvs : List (Key × V)} {ps : List Addr} {ix : List Nat} (h : LawAt A H x M D R S es B as kvs ps ix) (s : Same H H') : LawAt A H' x M D R S es B as kvs ps ix :=
  { h with desk := h.desk.keep s, dict := s _ _ h.dict, list := s _ _ h.list, tups := ⟨h.tups.1, fun i p e a b => s _ _ (h.tups.2 i p e a b)⟩ }
theorem tups_put {H : Hp} {ps : List Addr} {fs : List Ent} {p : Addr} {e : Ent} (h : Tups H ps fs) (hp : Tup3 H p e) {n : Nat} (hn : n ≤ fs.length) : Tups H (ps.take n ++ p :: ps.drop n) (fs.take n ++ e :: fs.drop n) := by
  obtain ⟨hl, h⟩ := h
  refine ⟨by simp [hl], fun i q f hq hf => ?_⟩
  by_cases c : i < n
  · rw [List.getElem?_append_left (by rw [List.length_take]; omega), List.getElem?_take_of_lt c] at hq hf
    exact h i q f hq hf
  · rw [List.getElem?_append_right (by rw [List.length_take]; omega), List.length_take] at hq hf
    by_cases z : i = n
    · have e1 : i - min n ps.length = 0 := by omega
      have e2 : i - min n fs.length = 0 := by omega
      rw [e1] at hq
      rw [e2] at hf
      simp at hq hf
      subst hq hf
      exact hp
    · have e1 : i - min n ps.length = (i - n - 1) + 1 := by omega
      have e2 : i - min n fs.length = (i - n - 1) + 1 := by omega
      rw [e1, List.getElem?_cons_succ, List.getElem?_drop] at hq
      rw [e2, List.getElem?_cons_succ, List.getElem?_drop] at hf
      exact h _ q f hq hf
def spTextL (K : PySem.W.Frag) : Sp := fun vs H Q _ => ∃ (h : Str) (t n : Int), vs = [.str h, .int t, .int n] ∧ lampB h = true ∧ 0 ≤ t ∧ t ≤ 1000000 ∧ 0 ≤ n ∧ ∀ z H', RowT z h t → Same H H' → Q (.str z) H'
theorem ok_law_text {P : Program} {w : World} {K : PySem.W.Frag} {mg : Str → Option Value} {base : Heap} {A : Adr} (T : Txt K mg A) : FnOk P w K mg base (CXE P w) 1 A.f_law_text A.d_law_text ["_law_hand", "_law_tick", "_law_number_here"] (spTextL K) := by
  refine T.F_law_text.okN sc_law_text (fun vs H Q E h => ?_) (fun cdv Ar outer s H vs Q E hr h => ?_)
  · obtain ⟨h, t, n, rfl, hh, h0, h1, hn, k⟩ := h
    rfl
  · obtain ⟨h, t, n, rfl, hh, h0, h1, hn, k⟩ := h
    refine ⟨_, (pss_cons (ps_set (i := 3) sc_law_text.nd rfl (Or.inl rfl) (pe_lstS (pa_cons pe_str (pa_cons pe_str (pa_cons pe_str (pa_cons (pe_op op_add_str pe_str (pe_callTy call_str_int (by rfl) T.b_str boot_strT (pa_cons (pe_op op_mod (pe_op op_fdivL (pv 2) pe_int) pe_int) pa_nil))) pa_nil))))))
      (pss_one (ps_ret (pe_op op_add_str (pe_op op_add_str (pe_op op_add_str (pe_op op_add_str (pv 0) pe_str) (pe_callTy call_str_int (by rfl) T.b_str boot_strT (pa_cons (pv 1) pa_nil))) pe_str) (pe_ix ix_lst (pv 3) (pe_op op_mod (pv 2) pe_int) (fun _ _ => rfl)))))), ?_⟩
    have q0 : 0 ≤ n / 4 % 1001 := Int.emod_nonneg _ (by decide)
    have q1 : n / 4 % 1001 ≤ 1000 := by have := Int.emod_lt_of_pos (n / 4) (show (0 : Int) < 1001 by decide); omega
    have lh : h.length ≤ 8 := (lamp_free hh).2
    have lt : (secT t).length ≤ 20 := sec_len20 h0 (by omega)
    have ll : (secT (n / 4 % 1001)).length ≤ 20 := sec_len20 q0 (by omega)
    refine seq_cut (fun σ' H' => ∃ L, σ' = [some (.str h), some (.int t), some (.int n), some (.ref L)] ∧ Same H H' ∧ H' L = some (.lst [.str (Str.ofString "go"), .str (Str.ofString "stop"), .str (Str.ofString "on"), .str (Str.ofString "move f " ++ secT (n / 4 % 1001))])) (fun N hN => ?_) ?_
    · refine ⟨_, rfl, _, _, rfl, rfl, ⟨by decide, by decide⟩, _, _, rfl, rfl, (by show (0 : Int) < 1001; decide), _, rfl, log20 (by omega), _, _, rfl, rfl, le_line ?_, (by show 4 ≤ 1000; decide), fun L hL => hN _ _ ⟨L, rfl, Same.new hL, upd_same⟩⟩
      have : (Str.ofString "move f ").length = 7 := by decide +kernel
      show (Str.ofString "move f ").length + (secT (n / 4 % 1001)).length ≤ 1000
      omega
    rintro σ1 H1 ⟨L, rfl, s1, hL⟩
    have lb : blankT.length = 1 := by decide +kernel
    have main : ∃ y, atI [V.str (Str.ofString "go"), V.str (Str.ofString "stop"), V.str (Str.ofString "on"), V.str (Str.ofString "move f " ++ secT (n / 4 % 1001))] (n % 4) = some (.str y) ∧ y.length ≤ 40 ∧ RowT (h ++ blankT ++ secT t ++ blankT ++ y) h t := by
      have m : n % 4 = 0 ∨ n % 4 = 1 ∨ n % 4 = 2 ∨ n % 4 = 3 := by omega
      rcases m with m | m | m | m <;> rw [m]
      · exact ⟨_, rfl, by decide +kernel, deed1 hh h0 h1 (by decide +kernel) (by decide +kernel) (by decide +kernel)⟩
      · exact ⟨_, rfl, by decide +kernel, deed1 hh h0 h1 (by decide +kernel) (by decide +kernel) (by decide +kernel)⟩
      · exact ⟨_, rfl, by decide +kernel, deed1 hh h0 h1 (by decide +kernel) (by decide +kernel) (by decide +kernel)⟩
      · refine ⟨_, rfl, ?_, deedM hh h0 h1 q0 q1⟩
        have : (Str.ofString "move f ").length = 7 := by decide +kernel
        rw [app_len]; omega
    obtain ⟨y, hy, ly, hrow⟩ := main
    refine ⟨_, rfl, _, _, rfl, rfl, le_line ?_, _, rfl, _, rfl, log20 (by omega), _, _, rfl, rfl, le_line ?_, _, _, rfl, rfl, le_line ?_, _, rfl, _, rfl, _, _, rfl, rfl, (by show (0 : Int) < 4; decide), L, _, _, _, rfl, rfl, hL, hy, _, _, rfl, rfl, le_line ?_, k _ _ hrow s1⟩
    · show h.length + blankT.length ≤ 1000
      omega
    · show (h ++ blankT).length + (secT t).length ≤ 1000
      rw [app_len]; omega
    · show (h ++ blankT ++ secT t).length + blankT.length ≤ 1000
      rw [app_len, app_len]; omega
    · show (h ++ blankT ++ secT t ++ blankT).length + y.length ≤ 1000
      rw [app_len, app_len, app_len]; omega
def spTold (K : PySem.W.Frag) (A : Adr) : Sp := fun vs H Q _ => ∃ (x M D R S : Addr) (es : List Ent) (B : Int) (as : List Addr) (kvs : List (Key × V)) (ps : List Addr) (ix : List Nat) (h : Str) (m : Int), vs = [.ref x, .ref R, .ref S, .str h, .int m] ∧ LawAt A H x M D R S es B as kvs ps ix ∧ es.length < 63 ∧ 0 ≤ B ∧ B ≤ 5000 ∧ lampB h = true ∧ 0 ≤ m ∧ m < big ∧
  ∀ H' e as' kvs' ps' ix', LawAt A H' x M D R S (es ++ [e]) (B + 40) as' kvs' ps' ix' → (∀ b o, b ≠ M → b ≠ D → b ≠ R → b ≠ S → H b = some o → H' b = some o) → Q (.bl true) H'
theorem DeskAt.frame {A : Adr} {H H' : Hp} {x M D R S : Addr} {as : List Addr} {es : List Ent} {kvs kv : List (Key × V)} {xs : List V} (h : DeskAt A H x M D as es kvs) (kp : ∀ b o, b ≠ S → b ≠ R → H b = some o → H' b = some o) (hS : H S = some (.dK kv)) (hR : H R = some (.lst xs)) (nSD : S ≠ D) (nRM : R ≠ M) : DeskAt A H' x M D as es kvs := by
  have ins : ∀ {a C dx : Addr} {fs : List (Str × V)}, H a = some (.ins C dx fs) → H' a = some (.ins C dx fs) := fun {a C dx fs} e => kp a _ (fun z => by rw [z, hS] at e; cases e) (fun z => by rw [z, hR] at e; cases e) e
  refine ⟨?_, ?_, ⟨h.ents.1, fun i a e ha he => ?_⟩, ?_⟩
  · obtain ⟨dx, L, e⟩ := h.obj
    exact ⟨dx, L, ins e⟩
  · exact kp _ _ (fun z => by have := h.list; rw [z, hS] at this; cases this) (Ne.symm nRM) h.list
  · obtain ⟨dy, w, N, e⟩ := h.ents.2 i a e ha he
    exact ⟨dy, w, N, ins e⟩
  · exact kp _ _ (Ne.symm nSD) (fun z => by have := h.dict; rw [z, hR] at this; cases this) h.dict
theorem at_all {xs : List V} {k : Int} (h0 : 0 ≤ k) (h1 : k < (xs.length : Int)) : ∃ y, y ∈ xs ∧ atI xs k = some y := by
  have hl : k.toNat < xs.length := by omega
  refine ⟨xs[k.toNat], List.getElem_mem hl, ?_⟩
  have := atI_nat (xs := xs) (j := k.toNat) (List.getElem?_eq_getElem hl)
  rwa [Int.toNat_of_nonneg h0] at this
theorem five_no {K : PySem.W.Frag} {H : Hp} {q1 q2 : Addr} {z1 z2 : List V} (h1 : H q1 = some (.lst z1)) (h2 : H q2 = some (.tup z2)) : ∀ y ∈ ([.non, .int 5, .ref q1, .bl true, .ref q2] : List V), NoRowV K H y := by
  intro y h
  simp only [List.mem_cons, List.not_mem_nil, or_false] at h
  rcases h with rfl | rfl | rfl | rfl | rfl
  · exact .other _ "NoneType" .non (by kernel_rfl)
  · exact .other _ "int" (.int _) (by kernel_rfl)
  · exact .other _ "list" (.lst h1) (by kernel_rfl)
  · exact .other _ "bool" (.bl _) (by kernel_rfl)
  · exact .other _ "tuple" (.tup h2) (by kernel_rfl)
theorem ok_law_told {P : Program} {w : World} {K : PySem.W.Frag} {mg : Str → Option Value} {base : Heap} {A : Adr} (T : Txt K mg A) : FnOk P w K mg base (CXE P w) 14 A.f_law_told A.d_law_told ["_law_desk", "_law_rows", "_law_lasts", "_law_hand", "_law_number_here"] (spTold K A) := by
  have G_Desk_hear := ok_Desk_hear (P := P) (w := w) (base := base) T
  have G_law_put := ok_law_put (P := P) (w := w) (base := base) T
  have G_law_refused := ok_law_refused (P := P) (w := w) (base := base) T
  have G_law_text := ok_law_text (P := P) (w := w) (base := base) T
  refine T.F_law_told.okN sc_law_told (fun vs H Q E h => ?_) (fun cdv Ar outer s H vs Q E hr h => ?_)
  · obtain ⟨x, M, D, R, S, es, B, as, kvs, ps, ix, h, m, rfl, hA, hn, b0, b1, hh, m0, m1, k⟩ := h
    rfl
  · obtain ⟨x, M, D, R, S, es, B, as, kvs, ps, ix, h, m, rfl, hA, hn, b0, b1, hh, m0, m1, k⟩ := h
    refine ⟨_, (pss_cons (ps_set (i := 5) sc_law_told.nd rfl (Or.inl rfl) (pe_dget2 (hu1 hr) (pv 2) (pv 3) pe_int ⟨rfl, rfl, rfl, rfl⟩))
      (pss_cons (ps_set (i := 6) sc_law_told.nd rfl (Or.inl rfl) (pe_op op_add (pv 5) (pe_op op_mul (pe_op op_mod (pe_op op_fdivL (pv 4) pe_int) pe_int) (pe_callTy call_int1 (by rfl) T.b_int boot_int (pa_cons (pe_cmpR op_gt (pe_op op_mod (pe_op op_fdivL (pv 4) pe_int) pe_int) pe_int (nomark _)) pa_nil)))))
      (pss_cons (ps_if (PW.pt (pw_and (pt_cmpR op_eq (pe_op op_mod (pv 4) pe_int) pe_int (nomark _)) (pw_and1 (pt_cmpR op_gt (pv 5) pe_int (nomark _))))) (pss_cons (ps_set (i := 7) sc_law_told.nd rfl (Or.inl rfl) (pe_op op_sub (pe_op op_sub (pv 5) pe_int) (pe_op op_mod (pe_op op_fdivL (pv 4) pe_int) (pv 5))))
      (pss_cons (ps_if (pt_not (pt_val (pe_call G_law_refused (hr.mono (by decide)) (by rfl) T.m_law_refused T.F_law_refused.kp T.bb_law_refused .nil passE0 (pa_cons (pv 0) (pa_cons (pe_call G_law_text (hr.mono (by decide)) (by rfl) T.m_law_text T.F_law_text.kp T.bb_law_text .nil passE0 (pa_cons (pv 3) (pa_cons (pv 7) (pa_cons (pe_op op_fdivL (pv 4) pe_int) pa_nil)))) (pa_cons pe_bl pa_nil)))))) (pss_one (ps_ret pe_bl)) pss_nil)
      (pss_cons (ps_if (pt_not (pt_val (pe_call G_law_refused (hr.mono (by decide)) (by rfl) T.m_law_refused T.F_law_refused.kp T.bb_law_refused .nil passE0 (pa_cons (pv 0) (pa_cons (pe_call G_law_text (hr.mono (by decide)) (by rfl) T.m_law_text T.F_law_text.kp T.bb_law_text .nil passE0 (pa_cons (pv 3) (pa_cons (pe_op op_sub (pe_op op_sub (pv 5) pe_int) (pe_op op_mod (pe_op op_fdivL (pv 4) pe_int) (pv 5))) (pa_cons (pe_op op_fdivL (pv 4) pe_int) pa_nil)))) (pa_cons pe_bl pa_nil)))))) (pss_one (ps_ret pe_bl)) pss_nil)
      (pss_one (ps_set (i := 6) sc_law_told.nd rfl (Or.inl rfl) (pv 5)))))) pss_nil)
      (pss_cons (ps_if (pt_cmpR op_eq (pe_op op_mod (pe_op op_fdivL (pv 4) pe_int) pe_int) pe_int (nomark _)) (pss_cons (ps_set (i := 8) sc_law_told.nd rfl (Or.inl rfl) (pe_ix ix_lst (pe_lstS (pa_cons pe_str (pa_cons pe_str (pa_cons pe_str (pa_cons pe_str (pa_cons pe_str (pa_cons pe_str pa_nil))))))) (pe_op op_mod (pe_op op_fdivL (pv 4) pe_int) pe_int) (fun _ _ => rfl)))
      (pss_cons (ps_set (i := 9) sc_law_told.nd rfl (Or.inl rfl) (pe_callB (call_max2 rfl) (by rfl) T.b_max boot_max (pa_cons pe_int (pa_cons (pe_op op_add (pv 6) (pe_menu (pa_cons pe_int (pa_cons (pe_un un_neg pe_int) (pa_cons pe_int (pa_cons (pe_un un_neg pe_int) pa_nil)))) (pe_op op_mod (pe_op op_fdivL (pv 4) pe_int) pe_int) (fun _ _ => rfl))) pa_nil))))
      (pss_cons (ps_if (pt_not (pt_val (pe_call G_law_refused (hr.mono (by decide)) (by rfl) T.m_law_refused T.F_law_refused.kp T.bb_law_refused .nil passE0 (pa_cons (pv 0) (pa_cons (pe_op op_add_str (pe_op op_add_str (pe_op op_add_str (pe_op op_add_str (pv 3) pe_str) (pe_callTy call_str_int (by rfl) T.b_str boot_strT (pa_cons (pv 9) pa_nil))) pe_str) (pv 8)) (pa_cons pe_bl pa_nil)))))) (pss_one (ps_ret pe_bl)) pss_nil)
      (pss_one (ps_if (pt_not (pt_val (pe_call G_law_refused (hr.mono (by decide)) (by rfl) T.m_law_refused T.F_law_refused.kp T.bb_law_refused .nil passE0 (pa_cons (pv 0) (pa_cons (pe_ix ix_lst (pe_lstS (pa_cons pe_non (pa_cons pe_int (pa_cons (pe_lstS (pa_cons (pe_op op_add_str (pv 3) pe_str) pa_nil)) (pa_cons pe_bl (pa_cons (pe_tupS (pa_cons pe_str pa_nil)) pa_nil)))))) (pe_op op_mod (pe_op op_fdivL (pv 4) pe_int) pe_int) (fun _ _ => rfl)) (pa_cons pe_bl pa_nil)))))) (pss_one (ps_ret pe_bl)) pss_nil))))) pss_nil)
      (pss_cons (ps_set (i := 10) sc_law_told.nd rfl (Or.inl rfl) (pe_tupS (pa_cons (pv 6) (pa_cons (pv 3) (pa_cons (pe_call G_law_text (hr.mono (by decide)) (by rfl) T.m_law_text T.F_law_text.kp T.bb_law_text .nil passE0 (pa_cons (pv 3) (pa_cons (pv 6) (pa_cons (pe_op op_fdivL (pv 4) pe_int) pa_nil)))) pa_nil)))))
      (pss_cons (ps_if (pt_cmp (pc_notN (pe_meth (pv 0) T.cl_Desk T.me_Desk_hear G_Desk_hear (hr.mono (by decide)) T.bb_Desk_hear .nil passE0 (pa_cons (pe_ix (ix_tupK K) (pv 10) pe_int (fun _ _ => rfl)) pa_nil)))) (pss_one (ps_ret pe_bl)) pss_nil)
      (pss_cons (ps_dput (hu1 hr) (pv 2) (pv 3) (pv 6) rfl)
      (pss_cons (ps_expr (pe_call G_law_put (hr.mono (by decide)) (by rfl) T.m_law_put T.F_law_put.kp T.bb_law_put .nil passE0 (pa_cons (pv 1) (pa_cons (pv 10) pa_nil))))
      (pss_one (ps_ret pe_bl)))))))))), ?_⟩
    obtain ⟨l, hl, l0, lB⟩ := hA.last h
    have hkl := hA.few
    have late : ∀ G, Same H G → ∀ z t', RowT z h t' → t' < l → BadRow K A G x (.str z) true := fun G sG z t' hz ht => ⟨M, D, as, es, kvs, hA.desk.keep sG, by omega, by omega, .inl ⟨rfl, z, h, t', l, rfl, hz, hl, ht⟩⟩
    have bad : ∀ G, Same H G → ∀ v, NoRowV K G v → BadRow K A G x v false := fun G sG v hv => ⟨M, D, as, es, kvs, hA.desk.keep sG, by omega, by omega, .inr ⟨rfl, hv⟩⟩
    have lh : h.length ≤ 8 := (lamp_free hh).2
    have dp : ∀ n : Int, 0 < n → 0 ≤ m / n := fun n hn => Int.ediv_nonneg m0 (by omega)
    refine seq_cut2 (fun σ' H' => ∃ t : Int, σ' = [some (.ref x), some (.ref R), some (.ref S), some (.str h), some (.int m), some (.int l), some (.int t), none, none, none, none] ∧ H' = H ∧ l ≤ t ∧ t ≤ l + 39) (fun N hN => ?_) ?_
    · refine ⟨_, rfl, S, rfl, .inl ⟨_, .inl hA.dict⟩, _, rfl, _, DGet.k (k := .inr h) hA.dict, ?_⟩
      rw [show (valV kvs (.inr h)).getD (.int 0) = .int l from hl]
      refine ⟨_, rfl, _, rfl, _, _, rfl, rfl, ⟨by decide, by decide⟩, _, _, rfl, rfl, (by show (0 : Int) < 40; decide), _, rfl, _, _, rfl, rfl, ⟨by decide, by decide⟩, _, _, rfl, rfl, (by show (0 : Int) < 3; decide), _, _, rfl, rfl, .inr ⟨_, rfl, ?_⟩⟩
      have q0 : 0 ≤ m / 7 % 40 := Int.emod_nonneg _ (by decide)
      have q1 : m / 7 % 40 < 40 := Int.emod_lt_of_pos _ (by decide)
      refine ⟨_, _, rfl, rfl, .inl ⟨?_, ?_⟩, _, _, rfl, rfl, hN _ _ ⟨_, rfl, rfl, ?_, ?_⟩⟩
      · show -(2 ^ 64) < m / 7 % 40
        omega
      · show m / 7 % 40 < 2 ^ 64
        omega
      · show l ≤ l + m / 7 % 40 * _
        split <;> omega
      · show l + m / 7 % 40 * _ ≤ l + 39
        split <;> omega
    rintro σ1 H1 ⟨t, rfl, rfl, t0, t1⟩
    refine seq_cut (fun σ' H' => ∃ (t : Int) (v7 : Option V), σ' = [some (.ref x), some (.ref R), some (.ref S), some (.str h), some (.int m), some (.int l), some (.int t), v7, none, none, none] ∧ Same H1 H' ∧ l ≤ t ∧ t ≤ l + 39) (fun N hN => ?_) ?_
    · refine ⟨_, rfl, _, _, rfl, rfl, (by show (0 : Int) < 6; decide), rfl, _, rfl, ?_⟩
      refine ite2 (fun _ => ?_) (fun _ => iteF (hN _ _ ⟨t, none, rfl, Same.refl _, t0, t1⟩))
      refine ⟨_, rfl, _, _, rfl, rfl, _, rfl, ?_⟩
      refine ite2 (fun c => ?_) (fun _ => hN _ _ ⟨t, none, rfl, Same.refl _, t0, t1⟩)
      have lp : 0 < l := of_decide_eq_true c
      have early : ∀ n : Int, 0 ≤ l - 1 - n % l ∧ l - 1 - n % l < l := fun n => by
        have := Int.emod_nonneg n (show l ≠ 0 by omega)
        have := Int.emod_lt_of_pos n lp
        omega
      refine ⟨_, rfl, _, _, rfl, rfl, _, rfl, _, _, rfl, rfl, ⟨by decide, by decide⟩, _, rfl, _, _, rfl, rfl, lp, _, _, rfl, rfl, ?_⟩
      refine ⟨_, rfl, _, rfl, _, rfl, _, rfl, _, _, rfl, rfl, ⟨by decide, by decide⟩, h, _, _, rfl, hh, (early (m / 6)).1, by have := (early (m / 6)).2; omega, dp 9 (by decide), fun z G hz sG => ?_⟩
      refine ⟨x, .str z, true, rfl, late G sG z _ hz (early (m / 6)).2, fun G2 s2 => ⟨_, rfl, iteF ?_⟩⟩
      refine ⟨_, rfl, _, rfl, _, rfl, _, _, rfl, rfl, _, rfl, _, _, rfl, rfl, ⟨by decide, by decide⟩, _, rfl, _, _, rfl, rfl, lp, _, _, rfl, rfl, _, rfl, _, _, rfl, rfl, ⟨by decide, by decide⟩, h, _, _, rfl, hh, (early (m / 17)).1, by have := (early (m / 17)).2; omega, dp 11 (by decide), fun z2 G3 hz2 s3 => ?_⟩
      have s13 := (sG.trans s2).trans s3
      refine ⟨x, .str z2, true, rfl, late G3 s13 z2 _ hz2 (early (m / 17)).2, fun G4 s4 => ⟨_, rfl, iteF ?_⟩⟩
      exact ⟨_, rfl, hN _ _ ⟨l, _, rfl, s13.trans s4, Int.le_refl _, by omega⟩⟩
    rintro σ2 H2 ⟨t, v7, rfl, s2, t0, t1⟩
    refine seq_cut (fun σ' H' => ∃ v8 v9, σ' = [some (.ref x), some (.ref R), some (.ref S), some (.str h), some (.int m), some (.int l), some (.int t), v7, v8, v9, none] ∧ Same H1 H') (fun N hN => ?_) ?_
    · refine ⟨_, rfl, _, _, rfl, rfl, ⟨by decide, by decide⟩, _, _, rfl, rfl, (by show (0 : Int) < 9; decide), rfl, _, rfl, ?_⟩
      refine ite2 (fun _ => ?_) (fun _ => hN _ _ ⟨none, none, rfl, s2⟩)
      refine ⟨(by show 6 ≤ 1000; decide), fun A1 h1 => ?_⟩
      have sA := Same.new (o := HO.lst (oddsT.map V.str)) h1
      have fA : (upd H2 A1 (HO.lst (oddsT.map V.str))) A1 = some (HO.lst (oddsT.map V.str)) := upd_same
      obtain ⟨y, ym, ya⟩ := at_all (xs := oddsT.map V.str) (k := m / 99 % 6) (Int.emod_nonneg _ (by decide)) (Int.emod_lt_of_pos _ (by decide))
      obtain ⟨o, om, rfl⟩ := List.mem_map.mp ym
      have lo : o.length ≤ 20 := (by decide +kernel : ∀ o ∈ oddsT, o.length ≤ 20) o om
      have s3 := s2.trans sA
      refine ⟨_, rfl, _, _, rfl, rfl, ⟨by decide, by decide⟩, _, _, rfl, rfl, (by show (0 : Int) < 6; decide), A1, _, _, _, rfl, rfl, fA, ya, ?_⟩
      have mm := menu_all (P := fun z => -2 ≤ z ∧ z ≤ 500) (ns := [0, -1, 500, -2]) (k := m / 13 % 4) (by decide) (Int.emod_nonneg _ (by decide)) (Int.emod_lt_of_pos _ (by decide))
      refine ⟨_, rfl, _, rfl, _, rfl, (by show 4 ≤ 1000; decide), _, rfl, _, _, rfl, rfl, ⟨by decide, by decide⟩, _, _, rfl, rfl, (by show (0 : Int) < 4; decide), [0, -1, 500, -2], _, rfl, rfl, Int.emod_nonneg _ (by decide), Int.emod_lt_of_pos _ (by decide), (by decide), _, _, rfl, rfl, _, _, rfl, ?_⟩
      have at0 : ∃ c : Int, (if t + menu [0, -1, 500, -2] (m / 13 % 4) > 0 then t + menu [0, -1, 500, -2] (m / 13 % 4) else 0) = c ∧ 0 ≤ c ∧ c ≤ 10000 := ⟨_, rfl, by split <;> omega, by split <;> omega⟩
      obtain ⟨c, ec, c0, c1⟩ := at0
      rw [ec]
      have lc : (secT c).length ≤ 20 := sec_len20 c0 (by omega)
      have lb : blankT.length = 1 := by decide +kernel
      have sA2 := s3
      refine ⟨_, rfl, _, rfl, _, _, rfl, rfl, le_line ?_, _, rfl, _, rfl, log20 (by omega), _, _, rfl, rfl, le_line ?_, _, _, rfl, rfl, le_line ?_, _, rfl, _, _, rfl, rfl, le_line ?_, ?_⟩
      · show h.length + blankT.length ≤ 1000
        omega
      · show (h ++ blankT).length + (secT c).length ≤ 1000
        rw [app_len]; omega
      · show (h ++ blankT ++ secT c).length + blankT.length ≤ 1000
        rw [app_len, app_len]; omega
      · show (h ++ blankT ++ secT c ++ blankT).length + o.length ≤ 1000
        rw [app_len, app_len, app_len]; omega
      refine ⟨x, _, false, rfl, bad _ s3 _ (odd_no hh c0 (by omega) o om).v, fun G2 s4 => ⟨_, rfl, iteF ?_⟩⟩
      have s24 := s3.trans s4
      refine ⟨_, rfl, _, rfl, _, _, rfl, rfl, le_line ?_, (by show 1 ≤ 1000; decide), fun A2 h2 => ?_⟩
      · have : (Str.ofString " 5 go").length = 5 := by decide +kernel
        show h.length + (Str.ofString " 5 go").length ≤ 1000
        omega
      have sB := Same.new (o := HO.lst [V.str (h ++ Str.ofString " 5 go")]) h2
      have fB : (upd G2 A2 (HO.lst [V.str (h ++ Str.ofString " 5 go")])) A2 = some (HO.lst [V.str (h ++ Str.ofString " 5 go")]) := upd_same
      generalize upd G2 A2 (HO.lst [V.str (h ++ Str.ofString " 5 go")]) = G3 at sB fB ⊢
      refine ⟨(by show 1 ≤ 1000; decide), fun A3 h3 => ?_⟩
      have sC := Same.new (o := HO.tup [V.str (Str.ofString "a")]) h3
      have fC : (upd G3 A3 (HO.tup [V.str (Str.ofString "a")])) A3 = some (HO.tup [V.str (Str.ofString "a")]) := upd_same
      generalize upd G3 A3 (HO.tup [V.str (Str.ofString "a")]) = G4 at sC fC ⊢
      refine ⟨(by show 5 ≤ 1000; decide), fun A4 h4 => ?_⟩
      have sD := Same.new (o := HO.lst [V.non, V.int 5, V.ref A2, V.bl true, V.ref A3]) h4
      have fD : (upd G4 A4 (HO.lst [V.non, V.int 5, V.ref A2, V.bl true, V.ref A3])) A4 = some (HO.lst [V.non, V.int 5, V.ref A2, V.bl true, V.ref A3]) := upd_same
      generalize upd G4 A4 (HO.lst [V.non, V.int 5, V.ref A2, V.bl true, V.ref A3]) = G5 at sD fD ⊢
      obtain ⟨y2, y2m, y2a⟩ := at_all (xs := [V.non, V.int 5, V.ref A2, V.bl true, V.ref A3]) (k := m / 52 % 5) (Int.emod_nonneg _ (by decide)) (Int.emod_lt_of_pos _ (by decide))
      have s25 := ((s24.trans sB).trans sC).trans sD
      refine ⟨_, rfl, _, _, rfl, rfl, ⟨by decide, by decide⟩, _, _, rfl, rfl, (by show (0 : Int) < 5; decide), A4, _, _, _, rfl, rfl, fD, y2a, ?_⟩
      refine ⟨x, y2, false, rfl, bad _ s25 _ (five_no (sD _ _ (sC _ _ fB)) (sD _ _ fC) y2 y2m), fun G6 s6 => ⟨_, rfl, iteF (hN _ _ ⟨_, _, rfl, s25.trans s6⟩)⟩⟩
    rintro σ3 H3 ⟨v8, v9, rfl, s3⟩
    refine seq_cut (fun σ' H' => ∃ p z, σ' = [some (.ref x), some (.ref R), some (.ref S), some (.str h), some (.int m), some (.int l), some (.int t), v7, v8, v9, some (.ref p)] ∧ Same H1 H' ∧ Tup3 H' p ⟨z, h, t⟩ ∧ RowT z h t ∧ H1 p = none) (fun N hN => ?_) ?_
    · refine ⟨_, rfl, _, rfl, _, rfl, _, rfl, _, rfl, _, _, rfl, rfl, ⟨by decide, by decide⟩, h, t, _, rfl, hh, by omega, by omega, dp 9 (by decide), fun z G hz sG => ?_⟩
      exact ⟨(by show 3 ≤ 1000; decide), fun p hp => hN _ _ ⟨p, z, rfl, (s3.trans sG).trans (Same.new hp), upd_same, hz, (s3.trans sG).free hp⟩⟩
    rintro σ4 H4 ⟨p, z, rfl, s4, hp, hz, hp0⟩
    have hA4 := hA.keep s4
    refine seq_cut (fun σ' H' => ∃ a, σ' = [some (.ref x), some (.ref R), some (.ref S), some (.str h), some (.int m), some (.int l), some (.int t), v7, v8, v9, some (.ref p)] ∧ DeskAt A H' x M D (as ++ [a]) (es ++ [⟨z, h, t⟩]) (putK kvs (.inr h) (.int t)) ∧ ∀ b o, b ≠ M → b ≠ D → H4 b = some o → H' b = some o) (fun N hN => ?_) ?_
    · obtain ⟨dx, L, hx⟩ := hA4.desk.obj
      refine ⟨_, rfl, x, dx, _, rfl, hx, rfl, _, rfl, p, _, _, _, rfl, rfl, SqT.of hp, atI_2 _ _ _ _, x, M, D, as, es, kvs, .str z, rfl, hA4.desk, by omega, by omega, .inl ⟨z, h, t, l, rfl, hz, hl, fun _ a G ha hd kp => ?_, fun c => absurd c (by omega)⟩⟩
      exact ⟨_, rfl, iteF (hN _ _ ⟨a, rfl, hd, kp⟩)⟩
    rintro σ5 H5 ⟨a, rfl, hd5, kp5⟩
    have nSM : S ≠ M := fun e => by have := hA.dict; rw [e, hA.desk.list] at this; cases this
    have nRD : R ≠ D := fun e => by have := hA.list; rw [e, hA.desk.dict] at this; cases this
    have nRS : R ≠ S := fun e => by have := hA.list; rw [e, hA.dict] at this; cases this
    have hS5 := kp5 _ _ nSM hA.nSD hA4.dict
    have hR5 := kp5 _ _ hA.nRM nRD hA4.list
    have tup5 : ∀ q e, Tup3 H4 q e → Tup3 H5 q e := fun q e hq => kp5 _ _ (fun z => by rw [z] at hq; have := hA4.desk.list.symm.trans hq; cases this) (fun z => by rw [z] at hq; have := hA4.desk.dict.symm.trans hq; cases this) hq
    have tupS : ∀ q e o, Tup3 H5 q e → Tup3 (upd H5 S o) q e := fun q e o hq => by
      have : q ≠ S := fun z => by rw [z] at hq; have := hS5.symm.trans hq; cases this
      unfold Tup3; rw [upd_ne this]; exact hq
    have tupR : ∀ q e o o', Tup3 H5 q e → Tup3 (upd (upd H5 S o) R o') q e := fun q e o o' hq => by
      have : q ≠ R := fun z => by rw [z] at hq; have := hR5.symm.trans hq; cases this
      unfold Tup3; rw [upd_ne this]; exact tupS q e o hq
    have hps : ps.length ≤ 63 := by have := hA.tups.1; rw [List.length_map, hA.ord.1.length_eq, List.length_range] at this; omega
    have hixl : ix.length = es.length := by rw [hA.ord.1.length_eq, List.length_range]
    refine ⟨_, rfl, _, rfl, _, rfl, S, _, rfl, DPut.k (k := .inr h) hS5 (small1000 (by omega)), ?_⟩
    refine ⟨_, rfl, _, rfl, R, p, ps, _, ⟨z, h, t⟩, rfl, by rw [upd_ne nRS]; exact hR5, ⟨hA4.tups.1, fun i q e hq he => tupS _ _ _ (tup5 _ _ (hA4.tups.2 i q e hq he))⟩, tupS _ _ _ (tup5 _ _ hp), by omega, fun n hn1 o1 o2 => ?_⟩
    rw [List.length_map] at hn1 o1
    refine k _ ⟨z, h, t⟩ _ _ _ _ ⟨hd5.frame (S := S) (R := R) (fun b o b1 b2 e => by rw [upd_ne b2, upd_ne b1]; exact e) hS5 hR5 hA.nSD hA.nRM, by rw [upd_ne (Ne.symm nRS), upd_same], upd_same, ?_, hA.ord.put (e := ⟨z, h, t⟩) hn1 o1 o2, ?_, ?_, hA.nRM, hA.nSD⟩ ?_
    · rw [hA.ord.map_put]
      refine tups_put ⟨hA4.tups.1, fun i q e hq he => tupR _ _ _ _ (tup5 _ _ (hA4.tups.2 i q e hq he))⟩ (tupR _ _ _ _ (tup5 _ _ hp)) (by rw [List.length_map]; exact hn1)
    · have := length_putK kvs (.inr h) (V.int t)
      rw [List.length_append]
      show _ ≤ es.length + 1
      omega
    · intro h'
      obtain ⟨m', hm', a0, a1⟩ := hA.last h'
      refine ⟨_, last_put (h := h) (n := t) hm', ?_, ?_⟩
      · split <;> omega
      · split <;> omega
    · intro b o b1 b2 b3 b4 e
      rw [upd_ne b3, upd_ne b4]
      exact kp5 b o b1 b2 (s4 _ _ e)
def spNames (K : PySem.W.Frag) : Sp := fun vs H Q _ => ∃ c : Int, vs = [.int c] ∧ 0 ≤ c ∧ c < big ∧ ∀ (L : Addr) (a b d : Str) H', lampB a = true → lampB b = true → lampB d = true → H L = none → Same H H' → H' L = some (.lst [.str a, .str b, .str d]) → Q (.ref L) H'
theorem join_lets : ∀ ys : List Str, (∀ y ∈ ys, ∃ c, y = ⟨#[c]⟩ ∧ isLet c = true) → (cs (Str.join (Str.ofString "") ys)).length = ys.length ∧ (cs (Str.join (Str.ofString "") ys)).all isLet = true
  | [], _ => ⟨rfl, rfl⟩
  | [w], h => by
    obtain ⟨c, rfl, hc⟩ := h w (by simp)
    show (cs (⟨#[c]⟩ : Str)).length = 1 ∧ (cs (⟨#[c]⟩ : Str)).all isLet = true
    simp [cs, hc]
  | w :: v :: r, h => by
    have ih := join_lets (v :: r) fun y hy => h y (List.mem_cons_of_mem _ hy)
    obtain ⟨c, rfl, hc⟩ := h w (by simp)
    show (cs ((⟨#[c]⟩ : Str) ++ Str.ofString "" ++ Str.join (Str.ofString "") (v :: r))).length = (v :: r).length + 1 ∧ (cs ((⟨#[c]⟩ : Str) ++ Str.ofString "" ++ Str.join (Str.ofString "") (v :: r))).all isLet = true
    have e1 : cs (⟨#[c]⟩ : Str) = [c] := rfl
    rw [cs_app, cs_app, cs_empty, e1]
    refine ⟨?_, ?_⟩
    · rw [List.length_append, ih.1, List.append_nil, List.length_singleton]; omega
    · rw [List.all_append, ih.2]; simp [hc]
theorem lets_of : ∀ {ys : List V}, (∀ (i : Nat) v, ys[i]? = some v → ∃ c, v = .str ⟨#[c]⟩ ∧ isLet c = true) → ∃ zs : List Str, ys = zs.map V.str ∧ ∀ z ∈ zs, ∃ c, z = ⟨#[c]⟩ ∧ isLet c = true
  | [], _ => ⟨[], rfl, by simp⟩
  | y :: ys, h => by
    obtain ⟨zs, e, hz⟩ := lets_of (ys := ys) fun i v hv => h (i + 1) v (by simpa using hv)
    obtain ⟨c, rfl, hc⟩ := h 0 y rfl
    exact ⟨⟨#[c]⟩ :: zs, by rw [e]; rfl, fun z m => by
      rcases List.mem_cons.mp m with rfl | m
      · exact ⟨c, rfl, hc⟩
      · exact hz z m⟩
theorem lamp_more {b : Str} {x : Str} (hb : b.length ≤ 7) (ha : (cs b).all isLet = true) (hx : cs x = [110] ∨ cs x = [98]) : lampB (b ++ x) = true := by
  have l1 : x.length = 1 := by rw [← cs_len]; rcases hx with h | h <;> rw [h] <;> rfl
  refine lamp_of (by rw [app_len]; omega) (by rw [app_len]; omega) ?_
  rw [cs_app, List.all_append, ha]
  rcases hx with h | h <;> rw [h] <;> decide
theorem ok_law_names {P : Program} {w : World} {K : PySem.W.Frag} {mg : Str → Option Value} {base : Heap} {A : Adr} (T : Txt K mg A) : FnOk P w K mg base (CXE P w) 1 A.f_law_names A.d_law_names ["_law_cell"] (spNames K) := by
  refine T.F_law_names.okN sc_law_names (fun vs H Q E h => ?_) (fun cdv Ar outer s H vs Q E hr h => ?_)
  · obtain ⟨c, rfl, c0, c1, k⟩ := h
    rfl
  · obtain ⟨c, rfl, c0, c1, k⟩ := h
    refine ⟨_, (pss_cons (ps_set (i := 1) sc_law_names.nd rfl (Or.inr rfl) pe_str)
      (pss_cons (ps_set (i := 2) sc_law_names.nd rfl (Or.inl rfl) (pe_bmK K PySem.F.plainAttrs_str PySem.F.slot_str_join PySem.F.type_str_join (mt_join K) pe_str (pa_cons (pe_comp ["_law_k", "_law_letters", "_law_cell"] [none, some 1, some 0] rfl (pi_range1 (by rfl) T.b_range (pa_cons (pe_op op_add pe_int (pe_op op_mod (pv 0) pe_int)) pa_nil)) (fun _ _ _ => (pg_name (i := 0) ndc_law_names_0 rfl (Or.inl rfl))) (fun _ _ _ => (pe_ix ix_str (pv 1) (pe_op op_mod (pe_op op_add (pe_op op_fdivL (pv 2) (pe_op op_add (pv 0) pe_int)) (pe_op op_mul (pv 0) (pv 0))) pe_int) (fun _ _ => rfl)))) pa_nil)))
      (pss_cons (ps_if (pt_cmpR op_eq (pe_op op_mod (pe_op op_fdivL (pv 0) pe_int) pe_int) pe_int (nomark _)) (pss_one (ps_ret (pe_lstS (pa_cons (pe_op op_add_str (pv 2) pe_str) (pa_cons (pv 2) (pa_cons (pe_op op_add_str (pv 2) pe_str) pa_nil)))))) pss_nil)
      (pss_cons (ps_set (i := 3) sc_law_names.nd rfl (Or.inl rfl) (pe_op op_mod (pe_op op_fdivL (pv 0) pe_int) (pe_callB call_len_str (by rfl) T.b_len PySem.boot_len (pa_cons (pv 2) pa_nil))))
      (pss_cons (ps_set (i := 4) sc_law_names.nd rfl (Or.inl rfl) (pe_lstS pa_nil))
      (pss_cons (ps_for PassesOwn.never rfl (pi_range1 (by rfl) T.b_range (pa_cons pe_int pa_nil)) (pg_name (i := 5) sc_law_names.nd rfl (Or.inl rfl)) (pss_one (ps_expr (pe_bmK K PySem.F.plainAttrs_list PySem.F.slot_list_append PySem.F.type_list_append mt_append (pv 4) (pa_cons (pe_op op_add_str (pe_op op_add_str (pe_slice sl_str (pv 2) po_none (po_some (pv 3))) (pe_ix ix_str (pv 1) (pe_op op_mod (pe_op op_add (pe_bmK K PySem.F.plainAttrs_str PySem.F.slot_str_find PySem.F.type_str_find mt_find (pv 1) (pa_cons (pe_ix ix_str (pv 2) (pv 3) (fun _ _ => rfl)) pa_nil)) (pe_menu (pa_cons pe_int (pa_cons pe_int (pa_cons pe_int pa_nil))) (pv 5) (fun _ _ => rfl))) pe_int) (fun _ _ => rfl))) (pe_slice sl_str (pv 2) (po_some (pe_op op_add (pv 3) pe_int)) po_none)) pa_nil)))))
      (pss_one (ps_ret (pv 4))))))))), ?_⟩
    refine seq_cut (fun σ' H' => σ' = [some (.int c), some (.str lets), none, none, none, none] ∧ H' = H) (fun N hN => hN _ _ ⟨rfl, rfl⟩) ?_
    rintro σ' H0 ⟨rfl, rfl⟩
    refine seq_cut (fun σ' H' => ∃ b : Str, σ' = [some (.int c), some (.str lets), some (.str b), none, none, none] ∧ Same H0 H' ∧ 1 ≤ b.length ∧ b.length ≤ 7 ∧ (cs b).all isLet = true) (fun N hN => ?_) ?_
    · refine ⟨rfl, _, rfl, _, _, rfl, rfl, (by show (0 : Int) < 7; decide), _, _, rfl, rfl, _, rfl, by omega, by omega, fun D hD => ?_⟩
      refine comp_rng (lo := 0) (n := (1 + c % 7).toNat) (fun i v _ => ∃ d, v = .str ⟨#[d]⟩ ∧ isLet d = true) (fun σ' => ∃ v, σ' = [v, some (.str lets), some (.int c)]) (fun _ _ _ _ _ h => h) hD (by omega) ⟨_, rfl⟩ ?_ ?_
      · rintro i σ' H3 N2 hi ⟨v0, rfl⟩ sm3 q
        refine ⟨_, rfl, _, rfl, _, rfl, _, _, rfl, rfl, _, _, rfl, rfl, ⟨by omega, ?_⟩, _, rfl, _, rfl, _, _, rfl, rfl, .inr ⟨by omega, by omega⟩, _, _, rfl, rfl, _, _, rfl, rfl, (by show (0 : Int) < 26; decide), _, _, _, rfl, rfl, ?_, (lets_at _).choose_spec.1, q _ _ _ ⟨_, rfl, (lets_at _).choose_spec.2⟩ (Same.refl _) ⟨_, rfl⟩⟩
        · exact Int.lt_trans (show (0 : Int) + (i : Int) + 1 < 100 by omega) (by decide)
        · rw [lets_len]; exact le_line (by decide)
      · intro ys H3 sm3 hy hyl hR
        obtain ⟨zs, rfl, hzs⟩ := lets_of hR
        rw [List.length_map] at hyl
        obtain ⟨j1, j2⟩ := join_lets zs hzs
        have e0 : (Str.ofString "").length = 0 := by decide +kernel
        refine ⟨_, D, zs, rfl, rfl, SqL.of hy, ?_, hN _ _ ⟨_, rfl, sm3, ?_, ?_, ?_⟩⟩
        · have hs : ∀ zs : List Str, (∀ z ∈ zs, ∃ c, z = ⟨#[c]⟩ ∧ isLet c = true) → (zs.map (·.length)).sum = zs.length := fun zs => by
            induction zs with
            | nil => intro _; rfl
            | cons z zs ih =>
              intro h
              obtain ⟨c, rfl, _⟩ := h z (by simp)
              rw [List.map_cons, List.sum_cons, ih fun y hy => h y (List.mem_cons_of_mem _ hy), List.length_cons]
              show 1 + zs.length = _
              omega
          rw [hs zs hzs, e0]; omega
        · show 1 ≤ (Builtin.Str.glued _ zs).length
          rw [StrLaws.glued_eq_join, ← cs_len, j1]; omega
        · show (Builtin.Str.glued _ zs).length ≤ 7
          rw [StrLaws.glued_eq_join, ← cs_len, j1]; omega
        · show (cs (Builtin.Str.glued _ zs)).all isLet = true
          rw [StrLaws.glued_eq_join]; exact j2
    rintro σ1 H1 ⟨b, rfl, s1, hb1, hb7, hba⟩
    have hbl : lampB b = true := lamp_of hb1 (by omega) hba
    refine seq_cut (fun σ' H' => σ' = [some (.int c), some (.str lets), some (.str b), none, none, none] ∧ H' = H1) (fun N hN => ?_) ?_
    · refine ⟨_, rfl, _, _, rfl, rfl, ⟨by decide, by decide⟩, _, _, rfl, rfl, (by show (0 : Int) < 2; decide), rfl, _, rfl, ?_⟩
      refine ite2 (fun _ => ?_) (fun _ => hN _ _ ⟨rfl, rfl⟩)
      have ln : (Str.ofString "n").length = 1 := by decide +kernel
      have lb : (Str.ofString "b").length = 1 := by decide +kernel
      refine ⟨_, rfl, _, _, rfl, rfl, le_line ?_, _, rfl, _, rfl, _, _, rfl, rfl, le_line ?_, (by show 3 ≤ 1000; decide), fun L hL => k L _ _ _ _ (lamp_more hb7 hba (.inl (by decide +kernel))) hbl (lamp_more hb7 hba (.inr (by decide +kernel))) (s1.free hL) (s1.trans (Same.new hL)) upd_same⟩
      · show b.length + (Str.ofString "n").length ≤ 1000
        omega
      · show b.length + (Str.ofString "b").length ≤ 1000
        omega
    rintro σ2 H2 ⟨rfl, rfl⟩
    have bp : (0 : Int) < (b.length : Int) := by omega
    refine seq_cut (fun σ' H' => ∃ a : Int, σ' = [some (.int c), some (.str lets), some (.str b), some (.int a), none, none] ∧ H' = H2 ∧ 0 ≤ a ∧ a < (b.length : Int)) (fun N hN => ?_) ?_
    · exact ⟨_, rfl, _, _, rfl, rfl, ⟨by decide, by decide⟩, _, rfl, _, rfl, le_line (by omega), _, _, rfl, rfl, bp, hN _ _ ⟨_, rfl, rfl, Int.emod_nonneg _ (by omega), Int.emod_lt_of_pos _ bp⟩⟩
    rintro σ3 H3 ⟨a, rfl, rfl, a0, a1⟩
    refine seq_cut (fun σ' H' => ∃ L, σ' = [some (.int c), some (.str lets), some (.str b), some (.int a), some (.ref L), none] ∧ Same H3 H' ∧ H3 L = none ∧ H' L = some (.lst [])) (fun N hN => ?_) ?_
    · exact ⟨by decide, fun L hL => hN _ _ ⟨L, rfl, Same.new hL, hL, upd_same⟩⟩
    rintro σ4 H4 ⟨L, rfl, s4, nL, hL⟩
    refine seq_cut (fun σ' H' => ∃ (v5 : Option V) (zs : List Str), σ' = [some (.int c), some (.str lets), some (.str b), some (.int a), some (.ref L), v5] ∧ Same H3 H' ∧ H' L = some (.lst (zs.map V.str)) ∧ zs.length = 3 ∧ ∀ z ∈ zs, lampB z = true) (fun N hN => ?_) ?_
    · refine ⟨_, rfl, by omega, by omega, ?_⟩
      refine for_range (n := 3) (fun i σ G => ∃ (v5 : Option V) (zs : List Str), σ = [some (.int c), some (.str lets), some (.str b), some (.int a), some (.ref L), v5] ∧ Same H3 G ∧ G L = some (.lst (zs.map V.str)) ∧ zs.length = i ∧ ∀ z ∈ zs, lampB z = true) ⟨none, [], rfl, s4, hL, rfl, by simp⟩ ?_ ?_
      · rintro i σ' G hi ⟨v5, zs, rfl, sG, gL, hzl, hza⟩
        obtain ⟨ch, hch⟩ : ∃ ch, atI (cs b) a = some ch := by
          have hlt : a.toNat < (cs b).length := by rw [cs_len]; omega
          have := atI_nat (xs := cs b) (j := a.toNat) (List.getElem?_eq_getElem hlt)
          rw [Int.toNat_of_nonneg a0] at this
          exact ⟨_, this⟩
        have lsz : b.length ≤ sizeLine := le_line (by omega)
        have ll : lets.length ≤ sizeLine := by rw [lets_len]; exact le_line (by decide)
        have m0 : (0 : Int) ≤ 0 + (i : Int) := by omega
        refine ⟨_, rfl, .inl ⟨rfl, _, SqL.of gL⟩, _, rfl, _, rfl, a, rfl, b, rfl, lsz, ?_⟩
        refine ⟨_, rfl, _, rfl, rfl, _, rfl, _, rfl, b, a, ch, rfl, rfl, lsz, hch, lets, _, rfl, rfl, ?_⟩
        refine ⟨(by show 3 ≤ 1000; decide), _, rfl, [0, 25, 1], _, rfl, rfl, m0, (by show (0 : Int) + (i : Int) < 3; omega), (by decide), _, _, rfl, rfl, _, _, rfl, rfl, (by show (0 : Int) < 26; decide), _, _, _, rfl, rfl, ll, (lets_at _).choose_spec.1, ?_⟩
        have hd0 := (lets_at (Txt.find lets ⟨#[ch]⟩ + menu [0, 25, 1] (0 + (i : Int)))).choose_spec.2
        generalize (lets_at (Txt.find lets ⟨#[ch]⟩ + menu [0, 25, 1] (0 + (i : Int)))).choose = d at hd0 ⊢
        have c1 : cs (Txt.slice b none (some a)) = (cs b).take a.toNat := slice_to a0 (by omega)
        have c2 : cs (Txt.slice b (some (a + 1)) none) = (cs b).drop (a + 1).toNat := LS.slice_from (by omega) (by omega)
        have l1 : (Txt.slice b none (some a)).length ≤ 7 := by rw [← cs_len, c1, List.length_take, cs_len]; omega
        have l2 : (Txt.slice b (some (a + 1)) none).length ≤ 7 := by rw [← cs_len, c2, List.length_drop, cs_len]; omega
        have ld : (⟨#[d]⟩ : Str).length = 1 := rfl
        refine ⟨_, _, rfl, rfl, le_line ?_, _, rfl, _, rfl, _, _, rfl, rfl, _, rfl, b, rfl, lsz, _, _, rfl, rfl, le_line ?_, L, _, _, rfl, rfl, gL, small1000 (by rw [List.length_map]; omega), ?_⟩
        · show (Txt.slice b none (some a)).length + (⟨#[d]⟩ : Str).length ≤ 1000
          omega
        · show (Txt.slice b none (some a) ++ (⟨#[d]⟩ : Str)).length + (Txt.slice b (some (a + 1)) none).length ≤ 1000
          rw [app_len]; omega
        · refine ⟨_, zs ++ [Txt.slice b none (some a) ++ (⟨#[d]⟩ : Str) ++ Txt.slice b (some (a + 1)) none], rfl, fun e o he => by rw [upd_ne (ne_of_none he nL)]; exact sG _ _ he, by rw [upd_same, List.map_append]; rfl, by rw [List.length_append, hzl]; rfl, fun z hz => ?_⟩
          rcases List.mem_append.mp hz with hz | hz
          · exact hza z hz
          · rw [List.mem_singleton.mp hz]
            have e1 : cs (⟨#[d]⟩ : Str) = [d] := rfl
            have al : ∀ x ∈ cs b, isLet x = true := fun x hx => List.all_eq_true.mp hba x hx
            refine lamp_of ?_ ?_ ?_
            · rw [app_len, app_len]; omega
            · rw [← cs_len, cs_app, cs_app, c1, c2, e1, List.length_append, List.length_append, List.length_take, List.length_drop, cs_len]
              simp only [List.length_singleton]; omega
            · rw [cs_app, cs_app, c1, c2, e1, List.all_eq_true]
              intro x hx
              rcases List.mem_append.mp hx with hx | hx
              · rcases List.mem_append.mp hx with hx | hx
                · exact al x (List.mem_of_mem_take hx)
                · rw [List.mem_singleton.mp hx]; exact hd0
              · exact al x (List.mem_of_mem_drop hx)
      · rintro σ' G ⟨v5, zs, rfl, sG, gL, hzl, hza⟩
        exact hN _ _ ⟨_, zs, rfl, sG, gL, hzl, hza⟩
    rintro σ5 H5 ⟨v5, zs, rfl, s5, hL5, hzl, hza⟩
    match zs, hzl with
    | [z1, z2, z3], _ => exact ⟨_, rfl, k L z1 z2 z3 _ (hza _ (by simp)) (hza _ (by simp)) (hza _ (by simp)) (s1.free nL) (s1.trans s5) hL5⟩
abbrev z1T : Str := Str.ofString "cue 5\n part"
abbrev z3T : Str := Str.ofString "cue 5"
abbrev z4T : Str := Str.ofString "x"
abbrev z6T : Str := Str.ofString "cue 5\npart 0 0 0\n"
abbrev tPair (v : V) (n : Int) : TE := tTupS (tCons (tC v) (tCons (tC (.int n)) tNil))
abbrev tSix : TA := tCons (tPair (.str z1T) 1) (tCons (tPair .non 0) (tCons (tPair (.str z3T) 1) (tCons (tPair (.str z4T) 0) (tCons (tPair (.int 7) 0) (tCons (tPair (.str z6T) 2) tNil)))))
def begL : List Expr := match (defBody s_law_begun).getD 0 (.Pass ⟨0, 0, 0, 0⟩) with | .Assign _ (.List es _) _ => es | _ => []
def begR : List Stmt := (defBody s_law_begun).tail
def begQ (i : Nat) : Pos := match (defBody s_law_begun).getD 0 (.Pass ⟨0, 0, 0, 0⟩) with | .Assign [.Name _ p] (.List _ q) r => [p, q, r].getD i ⟨0, 0, 0, 0⟩ | _ => ⟨0, 0, 0, 0⟩
theorem beg_body : defBody s_law_begun = .Assign [.Name "_law_some" (begQ 0)] (.List begL (begQ 1)) (begQ 2) :: begR := by kernel_rfl
theorem beg_L : ∃ e1 e2 e3 e4 e5 e6, begL = [e1, e2, e3, e4, e5, e6] ∧ ItemOk e1 (tPair (.str z1T) 1) ∧ ItemOk e2 (tPair .non 0) ∧ ItemOk e3 (tPair (.str z3T) 1) ∧ ItemOk e4 (tPair (.str z4T) 0) ∧ ItemOk e5 (tPair (.int 7) 0) ∧ ItemOk e6 (tPair (.str z6T) 2) :=
  ⟨_, _, _, _, _, _, rfl, ⟨fun _ => pe_tupS (pa_cons pe_str (pa_cons pe_int pa_nil)), fun _ _ => rfl⟩, ⟨fun _ => pe_tupS (pa_cons pe_non (pa_cons pe_int pa_nil)), fun _ _ => rfl⟩, ⟨fun _ => pe_tupS (pa_cons pe_str (pa_cons pe_int pa_nil)), fun _ _ => rfl⟩, ⟨fun _ => pe_tupS (pa_cons pe_str (pa_cons pe_int pa_nil)), fun _ _ => rfl⟩, ⟨fun _ => pe_tupS (pa_cons pe_int (pa_cons pe_int pa_nil)), fun _ _ => rfl⟩, ⟨fun _ => pe_tupS (pa_cons pe_str (pa_cons pe_int pa_nil)), fun _ _ => rfl⟩⟩
theorem beg_pa {X : Cx} : PA X begL tSix := by
  obtain ⟨e1, e2, e3, e4, e5, e6, h, i1, i2, i3, i4, i5, i6⟩ := beg_L
  rw [h]
  exact i1.pa (i2.pa (i3.pa (i4.pa (i5.pa (i6.pa pa_nil)))))
theorem beg_pack : ∃ (l : List Expr) (q1 q2 q3 : Pos), defBody s_law_begun = .Assign [.Name "_law_some" q1] (.List l q2) q3 :: begR ∧ ∀ X : Cx, PA X l tSix := ⟨begL, _, _, _, beg_body, fun X => @beg_pa X⟩
theorem rd1 {K : PySem.W.Frag} {H : Hp} : RdBad K H (.str z1T) 1 := by
  refine .row z1T [Str.ofString "cue 5", Str.ofString " part"] 1 (by decide +kernel) (by decide +kernel) (by decide +kernel) (by decide +kernel) (by decide) ?_
  refine .step 0 0 1 _ _ _ ?_ (.bad 1 1 _ _ ?_)
  · rw [(by decide +kernel : Txt.split (Str.ofString "cue 5") blankT = [cueT, n5T])]; exact .cue
  · rw [(by decide +kernel : Txt.split (Str.ofString " part") blankT = [Str.ofString "", partT])]; exact .other 1 _ _ (by decide) (by decide +kernel) (by decide +kernel) (by decide +kernel)
theorem rd3 {K : PySem.W.Frag} {H : Hp} : RdBad K H (.str z3T) 1 := by
  refine .lack z3T [Str.ofString "cue 5"] (by decide +kernel) (by decide +kernel) (by decide +kernel) (by decide +kernel) (by decide) ?_
  refine .step 0 0 1 _ _ _ ?_ (.done 1 1)
  rw [(by decide +kernel : Txt.split (Str.ofString "cue 5") blankT = [cueT, n5T])]; exact .cue
theorem rd4 {K : PySem.W.Frag} {H : Hp} : RdBad K H (.str z4T) 0 := by
  refine .row z4T [Str.ofString "x"] 0 (by decide +kernel) (by decide +kernel) (by decide +kernel) (by decide +kernel) (by decide) ?_
  refine .bad 0 0 _ _ ?_
  rw [(by decide +kernel : Txt.split (Str.ofString "x") blankT = [Str.ofString "x"])]; exact .none _ _ (by decide +kernel)
theorem rd6 {K : PySem.W.Frag} {H : Hp} : RdBad K H (.str z6T) 2 := by
  refine .row z6T [Str.ofString "cue 5", Str.ofString "part 0 0 0", Str.ofString ""] 2 (by decide +kernel) (by decide +kernel) (by decide +kernel) (by decide +kernel) (by decide) ?_
  refine .step 0 0 1 _ _ _ ?_ (.step 1 1 2 _ _ _ ?_ (.bad 2 2 _ _ ?_))
  · rw [(by decide +kernel : Txt.split (Str.ofString "cue 5") blankT = [cueT, n5T])]; exact .cue
  · rw [(by decide +kernel : Txt.split (Str.ofString "part 0 0 0") blankT = [partT, n0T, n0T, n0T])]; exact .part
  · rw [(by decide +kernel : Txt.split (Str.ofString "") blankT = [Str.ofString ""])]; exact .other 2 _ _ (by decide) (by decide +kernel) (by decide +kernel) (by decide +kernel)
theorem rdN {K : PySem.W.Frag} {H : Hp} : RdBad K H .non 0 := .other _ "NoneType" .non (by kernel_rfl)
theorem rdI {K : PySem.W.Frag} {H : Hp} : RdBad K H (.int 7) 0 := .other _ "int" (.int _) (by kernel_rfl)
def Pr (K : PySem.W.Frag) (H : Hp) (v : V) : Prop := ∃ p x r, v = .ref p ∧ H p = some (.tup [x, .int r]) ∧ ∀ G, RdBad K G x r
theorem Pr.keep {K : PySem.W.Frag} {H H' : Hp} {v : V} (h : Pr K H v) (s : Same H H') : Pr K H' v := by
  obtain ⟨p, x, r, e, hp, hr⟩ := h
  exact ⟨p, x, r, e, s _ _ hp, hr⟩
def spBegun : Sp := fun vs H Q _ => ∃ c : Int, vs = [.int c] ∧ ∀ H', Same H H' → Q (.bl true) H'
theorem ok_law_begun {P : Program} {w : World} {K : PySem.W.Frag} {mg : Str → Option Value} {base : Heap} {A : Adr} (T : Txt K mg A) : FnOk P w K mg base (CXE P w) 12 A.f_law_begun A.d_law_begun ["_law_cell"] (spBegun) := by
  have G_Desk_init := ok_Desk_init (P := P) (w := w) (base := base) T
  refine T.F_law_begun.okN sc_law_begun (fun vs H Q E h => ?_) (fun cdv Ar outer s H vs Q E hr h => ?_)
  · obtain ⟨c, rfl, k⟩ := h
    rfl
  · obtain ⟨c, rfl, k⟩ := h
    obtain ⟨l6, q1, q2, q3, hb, hpa⟩ := beg_pack
    rw [hb]
    refine ⟨_, (pss_cons (ps_set (i := 1) sc_law_begun.nd rfl (Or.inl rfl) (pe_lstS (hpa _)))
      (pss_cons (ps_asg (pe_ix (ix_listK K) (pv 1) (pe_op op_mod (pv 0) pe_int) (fun _ _ => rfl)) (pg_tupK (n := 2) K rfl (pgs_cons (pg_name (i := 2) sc_law_begun.nd rfl (Or.inl rfl)) (pgs_cons (pg_name (i := 3) sc_law_begun.nd rfl (Or.inl rfl)) pgs_nil))))
      (pss_cons (ps_set (i := 4) sc_law_begun.nd rfl (Or.inl rfl) (pe_un un_neg pe_int))
      (pss_cons (ps_try (i := 5) K rfl rfl rfl (pb_expr (px_make rfl T.M_Desk G_Desk_init (hr.mono (by decide)) (by rfl) T.c_Desk T.bb_Desk_init .nil (fun _ => (pa_cons (pv 2) pa_nil)))) (by rfl) T.c_NoText sc_law_begun.nd rfl rfl (fun _ => (pss_one (ps_set (i := 4) sc_law_begun.nd rfl (Or.inl rfl) (pe_xfld K (pv 5))))))
      (pss_one (ps_ret (pe_cmpR op_eq (pv 4) (pv 3) (nomark _)))))))), ?_⟩
    refine seq_cut (fun σ' H' => ∃ L rows, σ' = [some (.int c), some (.ref L), none, none, none, none] ∧ Same H H' ∧ H' L = some (.lst rows) ∧ rows.length = 6 ∧ ∀ v ∈ rows, Pr K H' v) (fun N hN => ?_) ?_
    · refine ⟨(by show 2 ≤ 1000; decide), fun A1 h1 => ?_⟩
      have s1 := Same.new (o := HO.tup [V.str z1T, V.int 1]) h1
      have f1 : Pr K (upd H A1 (HO.tup [V.str z1T, V.int 1])) (.ref A1) := ⟨A1, _, _, rfl, upd_same, fun _ => rd1⟩
      generalize upd H A1 (HO.tup [V.str z1T, V.int 1]) = G1 at s1 f1 ⊢
      refine ⟨(by show 2 ≤ 1000; decide), fun A2 h2 => ?_⟩
      have s2 := Same.new (o := HO.tup [V.non, V.int 0]) h2
      have f2 : Pr K (upd G1 A2 (HO.tup [V.non, V.int 0])) (.ref A2) := ⟨A2, _, _, rfl, upd_same, fun _ => rdN⟩
      generalize upd G1 A2 (HO.tup [V.non, V.int 0]) = G2 at s2 f2 ⊢
      refine ⟨(by show 2 ≤ 1000; decide), fun A3 h3 => ?_⟩
      have s3 := Same.new (o := HO.tup [V.str z3T, V.int 1]) h3
      have f3 : Pr K (upd G2 A3 (HO.tup [V.str z3T, V.int 1])) (.ref A3) := ⟨A3, _, _, rfl, upd_same, fun _ => rd3⟩
      generalize upd G2 A3 (HO.tup [V.str z3T, V.int 1]) = G3 at s3 f3 ⊢
      refine ⟨(by show 2 ≤ 1000; decide), fun A4 h4 => ?_⟩
      have s4 := Same.new (o := HO.tup [V.str z4T, V.int 0]) h4
      have f4 : Pr K (upd G3 A4 (HO.tup [V.str z4T, V.int 0])) (.ref A4) := ⟨A4, _, _, rfl, upd_same, fun _ => rd4⟩
      generalize upd G3 A4 (HO.tup [V.str z4T, V.int 0]) = G4 at s4 f4 ⊢
      refine ⟨(by show 2 ≤ 1000; decide), fun A5 h5 => ?_⟩
      have s5 := Same.new (o := HO.tup [V.int 7, V.int 0]) h5
      have f5 : Pr K (upd G4 A5 (HO.tup [V.int 7, V.int 0])) (.ref A5) := ⟨A5, _, _, rfl, upd_same, fun _ => rdI⟩
      generalize upd G4 A5 (HO.tup [V.int 7, V.int 0]) = G5 at s5 f5 ⊢
      refine ⟨(by show 2 ≤ 1000; decide), fun A6 h6 => ?_⟩
      have s6 := Same.new (o := HO.tup [V.str z6T, V.int 2]) h6
      have f6 : Pr K (upd G5 A6 (HO.tup [V.str z6T, V.int 2])) (.ref A6) := ⟨A6, _, _, rfl, upd_same, fun _ => rd6⟩
      generalize upd G5 A6 (HO.tup [V.str z6T, V.int 2]) = G6 at s6 f6 ⊢
      refine ⟨(by show 6 ≤ 1000; decide), fun A7 h7 => hN _ _ ⟨A7, [.ref A1, .ref A2, .ref A3, .ref A4, .ref A5, .ref A6], rfl, (((((s1.trans s2).trans s3).trans s4).trans s5).trans s6).trans (Same.new h7), upd_same, rfl, fun v hv => Pr.keep ?_ (Same.new h7)⟩⟩
      simp only [List.mem_cons, List.not_mem_nil, or_false] at hv
      rcases hv with rfl | rfl | rfl | rfl | rfl | rfl
      · exact ((((f1.keep s2).keep s3).keep s4).keep s5).keep s6
      · exact (((f2.keep s3).keep s4).keep s5).keep s6
      · exact ((f3.keep s4).keep s5).keep s6
      · exact (f4.keep s5).keep s6
      · exact f5.keep s6
      · exact f6
    rintro σ1 H1 ⟨L, rows, rfl, s1, hL, hl6, hrows⟩
    obtain ⟨v, vm, va⟩ := at_all (xs := rows) (k := c % 6) (Int.emod_nonneg _ (by decide)) (by rw [hl6]; exact Int.emod_lt_of_pos _ (by decide))
    obtain ⟨p, x, r, rfl, hp, hrd⟩ := hrows v vm
    refine seq_cut (fun σ' H' => σ' = [some (.int c), some (.ref L), some x, some (.int r), none, none] ∧ H' = H1) (fun N hN => ?_) ?_
    · exact ⟨_, rfl, _, rfl, _, _, rfl, rfl, (by show (0 : Int) < 6; decide), L, _, _, _, rfl, rfl, SqL.of hL, va, p, _, rfl, SqT.of hp, rfl, _, _, rfl, _, _, rfl, rfl, hN _ _ ⟨rfl, rfl⟩⟩
    rintro σ2 H2 ⟨rfl, rfl⟩
    refine seq_cut (fun σ' H' => σ' = [some (.int c), some (.ref L), some x, some (.int r), some (.int (-1)), none] ∧ H' = H2) (fun N hN => ?_) ?_
    · exact ⟨_, rfl, hN _ _ ⟨rfl, rfl⟩⟩
    rintro σ3 H3 ⟨rfl, rfl⟩
    refine seq_cut (fun σ' H' => ∃ v5, σ' = [some (.int c), some (.ref L), some x, some (.int r), some (.int r), v5] ∧ Same H3 H') (fun N hN => ?_) ?_
    · refine ⟨_, rfl, fun y dy hy hdy ny => ?_⟩
      have sy : Same H3 (upd (upd H3 dy (.own y)) y (.ins A.C_Desk dy [])) := (Same.new hdy).trans (Same.new (by rw [upd_ne (Ne.symm ny)]; exact hy))
      refine ⟨y, dy, x, rfl, upd_same, .inr ⟨r, hrd _, fun dx G sG hdx => ⟨T.xe_NoText_NoText, fun ea hea => ?_⟩⟩⟩
      have nde : dx ≠ ea := ne_of_none hdx hea
      exact ⟨_, rfl, _, _, _, _, _, rfl, upd_same, by rw [upd_ne nde]; exact hdx, T.xc_NoText, T.hd_NoText, T.nr_NoText_row, rfl, hN _ _ ⟨_, rfl, (sy.trans sG).trans (Same.new hea)⟩⟩
    rintro σ4 H4 ⟨v5, rfl, s4⟩
    refine ⟨_, rfl, _, rfl, rfl, ?_⟩
    rw [decide_eq_true rfl]
    exact k _ (s1.trans s4)
def strip (G : Hp) (M D R S Hh : Addr) : Hp := fun b => if b = M ∨ b = D ∨ b = R ∨ b = S ∨ b = Hh then none else G b
theorem strip_same {G : Hp} {M D R S Hh : Addr} : Same (strip G M D R S Hh) G := fun b o e => by
  unfold strip at e
  split at e
  · cases e
  · exact e
theorem strip_of {W G : Hp} {M D R S Hh : Addr} (s : Same W G) (h1 : W M = none) (h2 : W D = none) (h3 : W R = none) (h4 : W S = none) (h5 : W Hh = none) : Same W (strip G M D R S Hh) := fun b o e => by
  unfold strip
  rw [if_neg]
  · exact s _ _ e
  · rintro (rfl | rfl | rfl | rfl | rfl)
    · rw [h1] at e; cases e
    · rw [h2] at e; cases e
    · rw [h3] at e; cases e
    · rw [h4] at e; cases e
    · rw [h5] at e; cases e
def Held (W : Hp) (q : Addr) : Prop := ∃ (f g : Addr) (zs : List Str), W q = some (.lst [.ref f, .ref g]) ∧ W f = some (.lst (zs.map V.str)) ∧ W g = some (.lst (zs.map V.str)) ∧ zs.length ≤ 100
theorem Held.keep {W W' : Hp} {q : Addr} (h : Held W q) (s : Same W W') : Held W' q := by
  obtain ⟨f, g, zs, a, b, c, d⟩ := h
  exact ⟨f, g, zs, s _ _ a, s _ _ b, s _ _ c, d⟩
structure Keeps (A : Adr) (H W G : Hp) (x M D R S Hh y M2 D2 Nm : Addr) (n1 n2 n3 : Str) (qs : List Addr) (i : Nat) (es : List Ent) (as : List Addr) (kvs : List (Key × V)) (ps : List Addr) (ix : List Nat) : Prop where
  same : Same W G
  old : Same H W
  wM : W M = none
  wD : W D = none
  wR : W R = none
  wS : W S = none
  wH : W Hh = none
  beside : DeskAt A W y M2 D2 [] [] []
  names : W Nm = some (.lst [.str n1, .str n2, .str n3])
  held : G Hh = some (.lst (qs.map V.ref))
  few : qs.length ≤ i
  pairs : ∀ q ∈ qs, Held W q
  len : es.length = i
  law : LawAt A G x M D R S es (40 * (i : Int)) as kvs ps ix
  nHM : Hh ≠ M
  nHR : Hh ≠ R
theorem Keeps.keep {A : Adr} {H W G G' : Hp} {x M D R S Hh y M2 D2 Nm : Addr} {n1 n2 n3 : Str} {qs : List Addr} {i : Nat} {es : List Ent} {as : List Addr} {kvs : List (Key × V)} {ps : List Addr} {ix : List Nat} (h : Keeps A H W G x M D R S Hh y M2 D2 Nm n1 n2 n3 qs i es as kvs ps ix) (s : Same G G') : Keeps A H W G' x M D R S Hh y M2 D2 Nm n1 n2 n3 qs i es as kvs ps ix :=
  { h with same := h.same.trans s, held := s _ _ h.held, law := h.law.keep s }
theorem Keeps.told {A : Adr} {H W G G' : Hp} {x M D R S Hh y M2 D2 Nm : Addr} {n1 n2 n3 : Str} {qs : List Addr} {i : Nat} {es : List Ent} {e : Ent} {as as' : List Addr} {kvs kvs' : List (Key × V)} {ps ps' : List Addr} {ix ix' : List Nat} (h : Keeps A H W G x M D R S Hh y M2 D2 Nm n1 n2 n3 qs i es as kvs ps ix)
    (hL : LawAt A G' x M D R S (es ++ [e]) (40 * (i : Int) + 40) as' kvs' ps' ix') (kp : ∀ b o, b ≠ M → b ≠ D → b ≠ R → b ≠ S → G b = some o → G' b = some o) : Keeps A H W G' x M D R S Hh y M2 D2 Nm n1 n2 n3 qs (i + 1) (es ++ [e]) as' kvs' ps' ix' :=
  { h with
    same := fun b o e => kp b o (ne_of_none e h.wM) (ne_of_none e h.wD) (ne_of_none e h.wR) (ne_of_none e h.wS) (h.same _ _ e)
    held := kp _ _ h.nHM (fun z => by have := h.law.desk.dict; rw [← z, h.held] at this; cases this) h.nHR (fun z => by have := h.law.dict; rw [← z, h.held] at this; cases this) h.held
    few := Nat.le_succ_of_le h.few
    len := by rw [List.length_append, h.len]; rfl
    law := by
      have : 40 * ((i + 1 : Nat) : Int) = 40 * (i : Int) + 40 := by omega
      rw [this]; exact hL }
theorem LawAt.other {A : Adr} {H : Hp} {x M D R S Hh : Addr} {es : List Ent} {B : Int} {as : List Addr} {kvs : List (Key × V)} {ps : List Addr} {ix : List Nat} {xs ys : List V} (h : LawAt A H x M D R S es B as kvs ps ix) (hH : H Hh = some (.lst xs)) (nM : Hh ≠ M) (nR : Hh ≠ R) : LawAt A (upd H Hh (.lst ys)) x M D R S es B as kvs ps ix := by
  have kp : ∀ b o, b ≠ Hh → H b = some o → upd H Hh (.lst ys) b = some o := fun b o n e => by rw [upd_ne n]; exact e
  exact { h with
    desk := h.desk.frame (fun b o _ n e => kp b o n e) h.dict hH h.nSD nM
    dict := kp _ _ (fun z => by have := h.dict; rw [z, hH] at this; cases this) h.dict
    list := kp _ _ (Ne.symm nR) h.list
    tups := ⟨h.tups.1, fun i p e a b => kp _ _ (fun z => by have := h.tups.2 i p e a b; unfold Tup3 at this; rw [z, hH] at this; cases this) (h.tups.2 i p e a b)⟩ }
theorem Keeps.hold {A : Adr} {H W G G1 : Hp} {x M D R S Hh y M2 D2 Nm : Addr} {n1 n2 n3 : Str} {qs : List Addr} {i : Nat} {es : List Ent} {as : List Addr} {kvs : List (Key × V)} {ps : List Addr} {ix : List Nat} (h : Keeps A H W G x M D R S Hh y M2 D2 Nm n1 n2 n3 qs i es as kvs ps ix) (s : Same G G1)
    {f g q : Addr} {zs : List Str} (f0 : G f = none) (g0 : G g = none) (q0 : G q = none) (hf : G1 f = some (.lst (zs.map V.str))) (hg : G1 g = some (.lst (zs.map V.str))) (hq : G1 q = some (.lst [.ref f, .ref g])) (hz : zs.length ≤ 100) (hl : qs.length + 1 ≤ i) :
    Keeps A H (strip (upd G1 Hh (.lst (qs.map V.ref ++ [.ref q]))) M D R S Hh) (upd G1 Hh (.lst (qs.map V.ref ++ [.ref q]))) x M D R S Hh y M2 D2 Nm n1 n2 n3 (qs ++ [q]) i es as kvs ps ix := by
  have sG : Same W (upd G1 Hh (.lst (qs.map V.ref ++ [.ref q]))) := (h.same.trans s).upd h.wH
  have sW : Same W (strip (upd G1 Hh (.lst (qs.map V.ref ++ [.ref q]))) M D R S Hh) := strip_of sG h.wM h.wD h.wR h.wS h.wH
  have new : ∀ b o, G b = none → G1 b = some o → strip (upd G1 Hh (.lst (qs.map V.ref ++ [.ref q]))) M D R S Hh b = some o := fun b o b0 e => by
    unfold strip
    rw [if_neg]
    · rw [upd_ne (ne_of_none' b0 h.held)]; exact e
    · rintro (z | z | z | z | z)
      · exact ne_of_none' b0 h.law.desk.list z
      · exact ne_of_none' b0 h.law.desk.dict z
      · exact ne_of_none' b0 h.law.list z
      · exact ne_of_none' b0 h.law.dict z
      · exact ne_of_none' b0 h.held z
  exact { h with
    same := strip_same
    old := h.old.trans sW
    wM := by simp [strip]
    wD := by simp [strip]
    wR := by simp [strip]
    wS := by simp [strip]
    wH := by simp [strip]
    beside := h.beside.keep sW
    names := sW _ _ h.names
    held := by rw [upd_same, List.map_append]; rfl
    few := by rw [List.length_append]; exact hl
    pairs := fun q' hq' => by
      rcases List.mem_append.mp hq' with z | z
      · exact (h.pairs q' z).keep sW
      · cases List.mem_singleton.mp z
        exact ⟨f, g, zs, new _ _ q0 hq, new _ _ f0 hf, new _ _ g0 hg, hz⟩
    law := (h.law.keep s).other (s _ _ h.held) h.nHM h.nHR }
theorem rows_txt {G : Hp} {F : Addr} {ix : List Nat} {es : List Ent} (h : G F = some (.lst (ix.map fun i => V.str (es.getD i entD).row))) : G F = some (.lst (((ix.map fun j => es.getD j entD).map Ent.row).map V.str)) := by
  rw [h, List.map_map, List.map_map]; rfl
theorem cut_ints (ns : List Int) (lo hi : Option Int) : ∃ ms : List Int, cutV (ns.map V.int) lo hi = ms.map V.int ∧ ms.length ≤ ns.length := by
  have hl : (cutV (ns.map V.int) lo hi).length ≤ (ns.map V.int).length := cutV_length _ _ _
  rw [List.length_map] at hl
  have all : ∀ xs : List V, (∀ v ∈ xs, ∃ n, v = V.int n) → ∃ ms : List Int, xs = ms.map V.int := by
    intro xs
    induction xs with
    | nil => exact fun _ => ⟨[], rfl⟩
    | cons v t ih =>
      intro h
      obtain ⟨n, rfl⟩ := h v (List.mem_cons_self ..)
      obtain ⟨ms, rfl⟩ := ih fun w hw => h w (List.mem_cons_of_mem _ hw)
      exact ⟨n :: ms, rfl⟩
  obtain ⟨ms, e⟩ := all (cutV (ns.map V.int) lo hi) fun v hv => by
    obtain ⟨n, _, rfl⟩ := List.mem_map.mp (cut_mem hv)
    exact ⟨n, rfl⟩
  exact ⟨ms, e, by rw [e, List.length_map] at hl; exact hl⟩
theorem als_strs {K : PySem.W.Frag} {H : Hp} {n : Nat} : ∀ zs : List Str, Als K H n (zs.map V.str) (zs.map V.str)
  | [] => .nil
  | z :: zs => .cons (.str z) (als_strs zs)
def spLaw (K : PySem.W.Frag) : Sp := fun vs H Q _ => ∃ (a : Addr) (ns : List Int), vs = [.ref a] ∧ SqL K H a (ns.map V.int) ∧ ns.length ≤ 63 ∧ ∀ H', Q (.bl true) H'
theorem ok_law {P : Program} {w : World} {K : PySem.W.Frag} {mg : Str → Option Value} {base : Heap} {A : Adr} (T : Txt K mg A) : FnOk P w K mg base (CXE P w) 15 A.f_law A.d_law ["_law_script"] (spLaw K) := by
  have G_Desk_init := ok_Desk_init (P := P) (w := w) (base := base) T
  have G_Desk_rows := ok_Desk_rows (P := P) (w := w) (base := base) T
  have G_law_begun := ok_law_begun (P := P) (w := w) (base := base) T
  have G_law_cell_at := ok_law_cell_at (P := P) (w := w) (base := base) T
  have G_law_names := ok_law_names (P := P) (w := w) (base := base) T
  have G_law_number := ok_law_number (P := P) (w := w) (base := base) T
  have G_law_same := ok_law_same (P := P) (w := w) (base := base) T
  have G_law_told := ok_law_told (P := P) (w := w) (base := base) T
  refine T.F_law.okN sc_law (fun vs H Q E h => ?_) (fun cdv Ar outer s H vs Q E hr h => ?_)
  · obtain ⟨a, ns, rfl, hS, hlen, k⟩ := h
    rfl
  · obtain ⟨a, ns, rfl, hS, hlen, k⟩ := h
    refine ⟨_, (pss_cons (ps_if (pt_not (pt_val (pe_call G_law_begun (hr.mono (by decide)) (by rfl) T.m_law_begun T.F_law_begun.kp T.bb_law_begun .nil passE0 (pa_cons (pe_op op_fdivL (pe_call G_law_cell_at (hr.mono (by decide)) (by rfl) T.m_law_cell_at T.F_law_cell_at.kp T.bb_law_cell_at .nil passE0 (pa_cons (pv 0) (pa_cons pe_int pa_nil))) pe_int) pa_nil)))) (pss_one (ps_ret pe_bl)) pss_nil)
      (pss_cons (ps_set (i := 1) sc_law.nd rfl (Or.inl rfl) (pe_make0 T.M_Desk G_Desk_init (hr.mono (by decide)) (by rfl) T.c_Desk T.bd_Desk_init T.dv_Desk_init passE0))
      (pss_cons (ps_set (i := 2) sc_law.nd rfl (Or.inl rfl) (pe_make T.M_Desk G_Desk_init (hr.mono (by decide)) (by rfl) T.c_Desk T.bb_Desk_init .nil passE0 (pa_cons pe_str pa_nil)))
      (pss_cons (ps_set (i := 3) sc_law.nd rfl (Or.inl rfl) (pe_call G_law_names (hr.mono (by decide)) (by rfl) T.m_law_names T.F_law_names.kp T.bb_law_names .nil passE0 (pa_cons (pe_op op_mod (pe_call G_law_cell_at (hr.mono (by decide)) (by rfl) T.m_law_cell_at T.F_law_cell_at.kp T.bb_law_cell_at .nil passE0 (pa_cons (pv 0) (pa_cons pe_int pa_nil))) (pe_op op_powS pe_int pe_int)) pa_nil)))
      (pss_cons (ps_set (i := 4) sc_law.nd rfl (Or.inl rfl) (pe_lstS pa_nil))
      (pss_cons (ps_set (i := 5) sc_law.nd rfl (Or.inl rfl) pe_dnewK)
      (pss_cons (ps_set (i := 6) sc_law.nd rfl (Or.inl rfl) (pe_lstS pa_nil))
      (pss_cons (ps_for PassesOwn.never rfl (pi_enum K (by rfl) T.b_enumerate (pa_cons (pe_slice (sl_listK K) (pv 0) (po_some pe_int) (po_some pe_int)) pa_nil)) (pg_tupK (n := 2) K rfl (pgs_cons (pg_name (i := 7) sc_law.nd rfl (Or.inl rfl)) (pgs_cons (pg_name (i := 8) sc_law.nd rfl (Or.inl rfl)) pgs_nil))) (pss_cons (ps_set (i := 9) sc_law.nd rfl (Or.inl rfl) (pe_call G_law_number (hr.mono (by decide)) (by rfl) T.m_law_number T.F_law_number.kp T.bb_law_number .nil passE0 (pa_cons (pe_op op_fdivL (pv 8) pe_int) (pa_cons (pv 7) pa_nil))))
      (pss_cons (ps_if (pt_not (pt_val (pe_call G_law_told (hr.mono (by decide)) (by rfl) T.m_law_told T.F_law_told.kp T.bb_law_told .nil passE0 (pa_cons (pv 1) (pa_cons (pv 4) (pa_cons (pv 5) (pa_cons (pe_ix (ix_listK K) (pv 3) (pe_op op_mod (pv 8) pe_int) (fun _ _ => rfl)) (pa_cons (pv 9) pa_nil)))))))) (pss_one (ps_ret pe_bl)) pss_nil)
      (pss_one (ps_if (pt_cmpR op_eq (pe_op op_mod (pe_call G_law_cell_at (hr.mono (by decide)) (by rfl) T.m_law_cell_at T.F_law_cell_at.kp T.bb_law_cell_at .nil passE0 (pa_cons (pv 0) (pa_cons pe_int pa_nil))) pe_int) pe_int (nomark _)) (pss_cons (ps_set (i := 10) sc_law.nd rfl (Or.inl rfl) (pe_meth0 (pv 1) T.cl_Desk T.me_Desk_rows G_Desk_rows (hr.mono (by decide)) T.bb_Desk_rows .nil passE0))
      (pss_cons (ps_if (pt_not (pt_val (pe_call G_law_same (hr.mono (by decide)) (by rfl) T.m_law_same T.F_law_same.kp T.bb_law_same .nil passE0 (pa_cons (pv 10) (pa_cons (pv 4) pa_nil))))) (pss_one (ps_ret pe_bl)) pss_nil)
      (pss_cons (ps_expr (pe_bmK K PySem.F.plainAttrs_list PySem.F.slot_list_append PySem.F.type_list_append mt_append (pv 10) (pa_cons (pe_op op_add_str pe_str (pe_callTy call_str_int (by rfl) T.b_str boot_strT (pa_cons (pv 7) pa_nil))) pa_nil)))
      (pss_one (ps_expr (pe_bmK K PySem.F.plainAttrs_list PySem.F.slot_list_append PySem.F.type_list_append mt_append (pv 6) (pa_cons (pe_lstS (pa_cons (pv 10) (pa_cons (pe_callTy (call_listK K) (by rfl) T.b_list boot_list (pa_cons (pv 10) pa_nil)) pa_nil))) pa_nil))))))) pss_nil)))))
      (pss_cons (ps_set (i := 10) sc_law.nd rfl (Or.inl rfl) (pe_meth0 (pv 1) T.cl_Desk T.me_Desk_rows G_Desk_rows (hr.mono (by decide)) T.bb_Desk_rows .nil passE0))
      (pss_cons (ps_if (pt_not (pt_val (pe_call G_law_same (hr.mono (by decide)) (by rfl) T.m_law_same T.F_law_same.kp T.bb_law_same .nil passE0 (pa_cons (pv 10) (pa_cons (pv 4) pa_nil))))) (pss_one (ps_ret pe_bl)) pss_nil)
      (pss_cons (ps_expr (pe_bm0K K PySem.F.plainAttrs_list PySem.F.slot_list_clear PySem.F.type_list_clear mt_clear (pv 10)))
      (pss_cons (ps_for PassesOwn.never rfl (pi_listK K (pv 6)) (pg_lstK (n := 2) K rfl (pgs_cons (pg_name (i := 11) sc_law.nd rfl (Or.inl rfl)) (pgs_cons (pg_name (i := 12) sc_law.nd rfl (Or.inl rfl)) pgs_nil))) (pss_one (ps_if (pt_cmpR (op_neA K hr.units) (pv 11) (pv 12) (nomark _)) (pss_one (ps_ret pe_bl)) pss_nil)))
      (pss_one (ps_ret (pe_and (pe_call G_law_same (hr.mono (by decide)) (by rfl) T.m_law_same T.F_law_same.kp T.bb_law_same .nil passE0 (pa_cons (pe_meth0 (pv 1) T.cl_Desk T.me_Desk_rows G_Desk_rows (hr.mono (by decide)) T.bb_Desk_rows .nil passE0) (pa_cons (pv 4) pa_nil))) (pe_one (pe_cmpR (op_eqE K hr.units) (pe_meth0 (pv 2) T.cl_Desk T.me_Desk_rows G_Desk_rows (hr.mono (by decide)) T.bb_Desk_rows .nil passE0) (pe_lstS pa_nil) (nomark _)))))))))))))))))), ?_⟩
    have cell : ∀ G, Same H G → ∀ i : Int, 0 ≤ i → ∀ Q' : VK, (∀ v, Q' (.int v) G) → spCell K [.ref a, .int i] G Q' E0 := fun G sG i hi Q' q => ⟨a, ns, i, rfl, sG.seq hS, hi, q⟩
    refine seq_cut (fun σ' H' => σ' = [some (.ref a), none, none, none, none, none, none, none, none, none, none, none, none] ∧ Same H H') (fun N hN => ?_) ?_
    · exact ⟨_, rfl, a, ns, 0, rfl, hS, by decide, fun v => ⟨_, _, rfl, rfl, ⟨by decide, by decide⟩, _, rfl, fun G sG => ⟨_, rfl, iteF (hN _ _ ⟨rfl, sG⟩)⟩⟩⟩
    rintro σ1 H1 ⟨rfl, s1⟩
    refine seq_cut (fun σ' H' => ∃ x M D, σ' = [some (.ref a), some (.ref x), none, none, none, none, none, none, none, none, none, none, none] ∧ Same H H' ∧ H M = none ∧ H D = none ∧ M ≠ D ∧ DeskAt A H' x M D [] [] []) (fun N hN => ?_) ?_
    · intro x dx hx hdx nx
      have sx : Same H1 (upd (upd H1 dx (.own x)) x (.ins A.C_Desk dx [])) := (Same.new hdx).trans (Same.new (by rw [upd_ne (Ne.symm nx)]; exact hx))
      refine ⟨x, dx, _, rfl, upd_same, .inl ⟨rfl, fun L M D G hM hD nMD gx gM gD kp => ⟨rfl, hN _ _ ⟨x, M, D, rfl, fun b o e => kp b o (ne_of_none (s1 _ _ e) hx) (sx _ _ (s1 _ _ e)), (s1.trans sx).free hM, (s1.trans sx).free hD, nMD, ⟨⟨dx, L, gx⟩, gM, ⟨rfl, fun i p q hp => by simp at hp⟩, gD⟩⟩⟩⟩⟩
    rintro σ2 H2 ⟨x, M, D, rfl, s2, hM, hD, nMD, hd2⟩
    refine seq_cut (fun σ' H' => ∃ y M2 D2, σ' = [some (.ref a), some (.ref x), some (.ref y), none, none, none, none, none, none, none, none, none, none] ∧ Same H2 H' ∧ H2 M2 = none ∧ H2 D2 = none ∧ H2 y = none ∧ DeskAt A H' y M2 D2 [] [] []) (fun N hN => ?_) ?_
    · intro y dy hy hdy ny
      have sy : Same H2 (upd (upd H2 dy (.own y)) y (.ins A.C_Desk dy [])) := (Same.new hdy).trans (Same.new (by rw [upd_ne (Ne.symm ny)]; exact hy))
      refine ⟨y, dy, _, rfl, upd_same, .inl ⟨rfl, fun L M D G hM hD nMD gx gM gD kp => ⟨rfl, hN _ _ ⟨y, M, D, rfl, fun b o e => kp b o (ne_of_none e hy) (sy _ _ e), sy.free hM, sy.free hD, hy, ⟨⟨dy, L, gx⟩, gM, ⟨rfl, fun i p q hp => by simp at hp⟩, gD⟩⟩⟩⟩⟩
    rintro σ3 H3 ⟨y, M2, D2, rfl, s3, hM2, hD2, hy0, hd3⟩
    have s03 := s2.trans s3
    refine seq_cut (fun σ' H' => ∃ (L : Addr) (n1 n2 n3 : Str), σ' = [some (.ref a), some (.ref x), some (.ref y), some (.ref L), none, none, none, none, none, none, none, none, none] ∧ Same H3 H' ∧ H3 L = none ∧ H' L = some (.lst [.str n1, .str n2, .str n3]) ∧ lampB n1 = true ∧ lampB n2 = true ∧ lampB n3 = true) (fun N hN => ?_) ?_
    · refine ⟨_, rfl, a, ns, 1, rfl, s03.seq hS, by decide, fun v => ⟨_, _, rfl, rfl, ⟨by decide, by decide, by decide, by decide⟩, _, _, rfl, rfl, (by show (0 : Int) < 10 ^ 30; decide), _, rfl, Int.emod_nonneg _ (by decide), Int.lt_trans (Int.emod_lt_of_pos _ (by decide)) (by decide), fun L n1 n2 n3 G a1 a2 a3 hL sG gL => hN _ _ ⟨L, n1, n2, n3, rfl, sG, hL, gL, a1, a2, a3⟩⟩⟩
    rintro σ4 H4 ⟨Nm, n1, n2, n3, rfl, s4, hNm, hN4, a1, a2, a3⟩
    refine seq_cut3 (fun σ' H' => ∃ R S Hh, σ' = [some (.ref a), some (.ref x), some (.ref y), some (.ref Nm), some (.ref R), some (.ref S), some (.ref Hh), none, none, none, none, none, none] ∧ Same H4 H' ∧ H4 R = none ∧ H4 S = none ∧ H4 Hh = none ∧ H' R = some (.lst []) ∧ H' S = some (.dK []) ∧ H' Hh = some (.lst []) ∧ R ≠ Hh) (fun N hN => ?_) ?_
    · refine ⟨by decide, fun R hR => ?_⟩
      have sR := Same.new (o := HO.lst []) hR
      have fR : (upd H4 R (HO.lst [])) R = some (HO.lst []) := upd_same
      generalize upd H4 R (HO.lst []) = G1 at sR fR ⊢
      intro S hS2
      have sS := Same.new (o := HO.dK []) hS2
      have fS : (upd G1 S (HO.dK [])) S = some (HO.dK []) := upd_same
      generalize upd G1 S (HO.dK []) = G2 at sS fS ⊢
      refine ⟨by decide, fun Hh hH => hN _ _ ⟨R, S, Hh, rfl, (sR.trans sS).trans (Same.new hH), hR, sR.free hS2, (sR.trans sS).free hH, (Same.new hH) _ _ (sS _ _ fR), (Same.new hH) _ _ fS, upd_same, ne_of_none (sS _ _ fR) hH⟩⟩
    rintro σ5 H5 ⟨R, S, Hh, rfl, s5, hR, hS5, hHh, gR, gS, gH, nRH⟩
    have d5 := ((hd2.keep s3).keep s4).keep s5
    have s04 := s03.trans s4
    have nRM : R ≠ M := ne_of_none' hR ((hd2.keep s3).keep s4).list
    have nSD : S ≠ D := ne_of_none' hS5 ((hd2.keep s3).keep s4).dict
    have nHM : Hh ≠ M := ne_of_none' hHh ((hd2.keep s3).keep s4).list
    have start : Keeps A H (strip H5 M D R S Hh) H5 x M D R S Hh y M2 D2 Nm n1 n2 n3 [] 0 [] [] [] [] [] := by
      have old : ∀ b o, H4 b = some o → b ≠ M → b ≠ D → strip H5 M D R S Hh b = some o := fun b o e b1 b2 => by
        unfold strip
        rw [if_neg]
        · exact s5 _ _ e
        · rintro (z | z | z | z | z)
          · exact b1 z
          · exact b2 z
          · rw [z, hR] at e; cases e
          · rw [z, hS5] at e; cases e
          · rw [z, hHh] at e; cases e
      have d3 := hd3.keep s4
      refine ⟨strip_same, fun b o e => old b o (s04 _ _ e) (ne_of_none e hM) (ne_of_none e hD), by simp [strip], by simp [strip], by simp [strip], by simp [strip], by simp [strip], ?_, ?_, gH, Nat.le_refl _, by simp, rfl, ⟨d5, gS, gR, ⟨rfl, fun i p e hp => by simp at hp⟩, ⟨List.Perm.refl _, List.Pairwise.nil⟩, Nat.le_refl _, fun h => ⟨0, rfl, by decide, by decide⟩, nRM, nSD⟩, nHM, Ne.symm nRH⟩
      · obtain ⟨dy, L2, e2⟩ := d3.obj
        have nyM : y ≠ M := ne_of_none' hy0 hd2.list
        have nyD : y ≠ D := ne_of_none' hy0 hd2.dict
        exact ⟨⟨dy, L2, old _ _ e2 nyM nyD⟩, old _ _ d3.list (ne_of_none' hM2 hd2.list) (ne_of_none' hM2 hd2.dict), ⟨rfl, fun i p q hp => by simp at hp⟩, old _ _ d3.dict (ne_of_none' hD2 hd2.list) (ne_of_none' hD2 hd2.dict)⟩
      · exact old _ _ hN4 (ne_of_none' hNm (hd2.keep s3).list) (ne_of_none' hNm (hd2.keep s3).dict)
    refine seq_cut (fun σ' G => ∃ v7 v8 v9 v10 W qs i es as kvs ps ix, σ' = [some (.ref a), some (.ref x), some (.ref y), some (.ref Nm), some (.ref R), some (.ref S), some (.ref Hh), v7, v8, v9, v10, none, none] ∧ i ≤ 63 ∧ Keeps A H W G x M D R S Hh y M2 D2 Nm n1 n2 n3 qs i es as kvs ps ix) (fun N hN => ?_) ?_
    · have sq5 : SqL K H5 a (ns.map V.int) := (s04.trans s5).seq hS
      refine ⟨_, rfl, 2, rfl, 65, rfl, a, _, rfl, sq5, fun p hp => ?_⟩
      obtain ⟨cs5, e5, l5⟩ := cut_ints ns (some 2) (some 65)
      rw [e5]
      have sp := Same.new (o := HO.lst (cs5.map V.int)) hp
      have fp : (upd H5 p (HO.lst (cs5.map V.int))) p = some (HO.lst (cs5.map V.int)) := upd_same
      generalize upd H5 p (HO.lst (cs5.map V.int)) = H6 at sp fp ⊢
      refine ⟨p, _, rfl, SqL.of fp, ?_⟩
      obtain ⟨Hb, sHb, bp, st⟩ : ∃ Hb, Same H Hb ∧ Hb p = some (HO.lst (cs5.map V.int)) ∧ Keeps A Hb Hb H6 x M D R S Hh y M2 D2 Nm n1 n2 n3 [] 0 [] [] [] [] [] := by
        have old5 : Same (strip H5 M D R S Hh) (strip H6 M D R S Hh) := strip_of (strip_same.trans sp) start.wM start.wD start.wR start.wS start.wH
        refine ⟨strip H6 M D R S Hh, start.old.trans old5, ?_, { start with same := strip_same, old := Same.refl _, wM := by simp [strip], wD := by simp [strip], wR := by simp [strip], wS := by simp [strip], wH := by simp [strip], beside := start.beside.keep old5, names := old5 _ _ start.names, held := sp _ _ start.held, pairs := by simp, law := start.law.keep sp }⟩
        unfold strip
        rw [if_neg]
        · exact fp
        · rintro (z | z | z | z | z)
          · exact ne_of_none' hp start.law.desk.list z
          · exact ne_of_none' hp start.law.desk.dict z
          · exact ne_of_none' hp start.law.list z
          · exact ne_of_none' hp start.law.dict z
          · exact ne_of_none' hp start.held z
      refine for_enum (K := K) (xs := cs5.map V.int) (fun i σ' G => ∃ (v7 v8 v9 v10 : Option V) (W : Hp) (qs : List Addr) (es : List Ent) (as : List Addr) (kvs : List (Key × V)) (ps : List Addr) (ix : List Nat), σ' = [some (.ref a), some (.ref x), some (.ref y), some (.ref Nm), some (.ref R), some (.ref S), some (.ref Hh), v7, v8, v9, v10, none, none] ∧ Keeps A Hb W G x M D R S Hh y M2 D2 Nm n1 n2 n3 qs i es as kvs ps ix) ⟨_, _, _, _, _, _, _, _, _, _, _, rfl, st⟩ ?_ ?_ ?_
      · rintro i σ' G _ ⟨v7, v8, v9, v10, W, qs, es, as, kvs, ps, ix, rfl, hK⟩
        exact SqL.of (hK.same _ _ (hK.old _ _ bp))
      · rintro i xv q σ' G hx ⟨v7, v8, v9, v10, W, qs, es, as, kvs, ps, ix, rfl, hK⟩ hq
        rw [List.getElem?_map] at hx
        obtain ⟨c, hc, rfl⟩ := Option.map_eq_some_iff.mp hx
        have hi : i < 63 := by have := (List.getElem?_eq_some_iff.mp hc).1; omega
        have hfew := hK.few
        have sq := Same.new (o := HO.tup [V.int i, V.int c]) hq
        have f1 : (upd G q (HO.tup [V.int i, V.int c])) q = some (HO.tup [V.int i, V.int c]) := upd_same
        have hK1 := hK.keep sq
        generalize upd G q (HO.tup [V.int i, V.int c]) = G1 at sq f1 hK1 ⊢
        refine ⟨q, _, rfl, SqT.of f1, rfl, ?_⟩
        refine ⟨_, _, rfl, _, _, rfl, rfl, ?_⟩
        refine ⟨_, rfl, _, _, rfl, rfl, ⟨by decide, by decide⟩, _, rfl, _, i, rfl, hi, fun m m0 m1 => ?_⟩
        obtain ⟨w, wm, wa⟩ := at_all (xs := [V.str n1, V.str n2, V.str n3]) (k := c % 3) (Int.emod_nonneg _ (by decide)) (Int.emod_lt_of_pos _ (by decide))
        obtain ⟨n, rfl, hn⟩ : ∃ n, w = V.str n ∧ lampB n = true := by
          simp only [List.mem_cons, List.not_mem_nil, or_false] at wm
          rcases wm with rfl | rfl | rfl
          · exact ⟨_, rfl, a1⟩
          · exact ⟨_, rfl, a2⟩
          · exact ⟨_, rfl, a3⟩
        refine ⟨_, rfl, _, rfl, _, rfl, _, rfl, _, rfl, _, _, rfl, rfl, (by show (0 : Int) < 3; decide), Nm, _, _, _, rfl, rfl, SqL.of (hK1.same _ _ hK1.names), wa, _, rfl, ?_⟩
        have hl1 := hK1.len
        refine ⟨x, M, D, R, S, es, 40 * (i : Int), as, kvs, ps, ix, n, m, rfl, hK1.law, by omega, by omega, by omega, hn, m0, m1, fun G2 e as2 kvs2 ps2 ix2 hL kp => ⟨_, rfl, iteF ?_⟩⟩
        have hK2 := hK1.told hL kp
        have hl2 := hK2.len
        refine ⟨_, rfl, a, ns, 0, rfl, ((sHb.trans hK2.old).trans hK2.same).seq hS, by decide, fun v => ?_⟩
        refine ⟨_, _, rfl, rfl, (by show (0 : Int) < 2; decide), rfl, _, rfl, ?_⟩
        refine ite2 (fun _ => ?_) (fun _ => ⟨_, _, _, _, W, qs, _, _, _, _, _, rfl, hK2⟩)
        obtain ⟨dx, L, hx0⟩ := hK2.law.desk.obj
        refine ⟨_, rfl, x, dx, _, rfl, hx0, rfl, x, M, D, as2, es ++ [e], kvs2, rfl, hK2.law.desk, by omega, fun F jx G3 hF s3 gF pm pw => ?_⟩
        rw [fore_unique pw hK2.law.ord.2 (pm.trans hK2.law.ord.1.symm)] at gF
        have hF3 := rows_txt gF
        have hK3 := hK2.keep s3
        have hzl : ((ix2.map fun j => (es ++ [e]).getD j entD).map Ent.row).length ≤ 63 := by
          have := hK2.law.ord.1.length_eq
          rw [List.length_range] at this
          rw [List.length_map, List.length_map]; omega
        generalize hzs : (ix2.map fun j => (es ++ [e]).getD j entD).map Ent.row = zs at hF3 hzl
        refine ⟨_, rfl, _, rfl, F, R, zs, ps2, _, rfl, hF3, hK3.law.list, hK3.law.tups, hzs.symm, by omega, fun G4 s4 => ⟨_, rfl, iteF ?_⟩⟩
        have hF4 := s4 _ _ hF3
        refine ⟨_, rfl, .inl ⟨rfl, _, SqL.of hF4⟩, ?_⟩
        refine ⟨_, rfl, _, rfl, log20 (by omega), _, _, rfl, rfl, le_line ?_, F, _, _, rfl, rfl, hF4, small1000 ?_, ?_⟩
        · have e1 : (Str.ofString "x").length = 1 := by decide +kernel
          have e2 : (Str.ofString (toString (i : Int))).length ≤ 20 := sec_len20 (n := (i : Int)) (by omega) (by omega)
          omega
        · rw [List.length_map]; omega
        have s5 := (s3.trans s4).upd (o := HO.lst (zs.map V.str ++ [V.str (Str.ofString "x" ++ Str.ofString (toString (i : Int)))])) hF
        have gF5 : (upd G4 F (HO.lst (zs.map V.str ++ [V.str (Str.ofString "x" ++ Str.ofString (toString (i : Int)))]))) F = some (HO.lst ((zs ++ [Str.ofString "x" ++ Str.ofString (toString (i : Int))]).map V.str)) := by rw [upd_same, List.map_append]; rfl
        have hzl5 : (zs ++ [Str.ofString "x" ++ Str.ofString (toString (i : Int))]).length ≤ 100 := by rw [List.length_append]; simp only [List.length_cons, List.length_nil]; omega
        generalize zs ++ [Str.ofString "x" ++ Str.ofString (toString (i : Int))] = ys at gF5 hzl5
        generalize upd G4 F (HO.lst (zs.map V.str ++ [V.str (Str.ofString "x" ++ Str.ofString (toString (i : Int)))])) = G5 at s5 gF5 ⊢
        have hK5 := hK2.keep s5
        refine ⟨_, rfl, .inl ⟨rfl, _, SqL.of hK5.held⟩, ?_⟩
        refine ⟨_, rfl, _, rfl, F, _, rfl, SqL.of gF5, fun F2 hF2 => ?_⟩
        have s6 := Same.new (o := HO.lst (ys.map V.str)) hF2
        have gF6 : (upd G5 F2 (HO.lst (ys.map V.str))) F2 = some (HO.lst (ys.map V.str)) := upd_same
        generalize upd G5 F2 (HO.lst (ys.map V.str)) = G6 at s6 gF6 ⊢
        refine ⟨(by show 2 ≤ 1000; decide), fun q2 hq2 => ?_⟩
        have s7 := Same.new (o := HO.lst [V.ref F, V.ref F2]) hq2
        have gq7 : (upd G6 q2 (HO.lst [V.ref F, V.ref F2])) q2 = some (HO.lst [V.ref F, V.ref F2]) := upd_same
        refine ⟨Hh, _, _, rfl, rfl, s7 _ _ (s6 _ _ hK5.held), small1000 (by rw [List.length_map]; omega), ?_⟩
        exact ⟨_, _, _, _, _, qs ++ [q2], _, _, _, _, _, rfl, hK2.hold (s5.trans (s6.trans s7)) hF (s5.free hF2) ((s5.trans s6).free hq2) (s7 _ _ (s6 _ _ gF5)) (s7 _ _ gF6) gq7 hzl5 (by omega)⟩
      · rintro σ' G ⟨v7, v8, v9, v10, W, qs, es, as, kvs, ps, ix, rfl, hK⟩
        refine hN _ _ ⟨v7, v8, v9, v10, W, qs, _, es, as, kvs, ps, ix, rfl, ?_, { hK with old := sHb.trans hK.old }⟩
        rw [List.length_map]; omega
    rintro σ6 H6 ⟨v7, v8, v9, v10, W, qs, i, es, as, kvs, ps, ix, rfl, hi, hK⟩
    have hl := hK.len
    have hzl : ((ix.map fun j => es.getD j entD).map Ent.row).length ≤ 63 := by
      have := hK.law.ord.1.length_eq
      rw [List.length_range] at this
      rw [List.length_map, List.length_map]; omega
    obtain ⟨dx, L, hx0⟩ := hK.law.desk.obj
    refine seq_cut3 (fun σ' G => ∃ F, σ' = [some (.ref a), some (.ref x), some (.ref y), some (.ref Nm), some (.ref R), some (.ref S), some (.ref Hh), v7, v8, v9, some (.ref F), none, none] ∧ Same H6 G) (fun N hN => ?_) ?_
    · refine ⟨_, rfl, x, dx, _, rfl, hx0, rfl, x, M, D, as, es, kvs, rfl, hK.law.desk, by omega, fun F jx G3 hF s3 gF pm pw => ?_⟩
      rw [fore_unique pw hK.law.ord.2 (pm.trans hK.law.ord.1.symm)] at gF
      have hF3 := rows_txt gF
      have hK3 := hK.keep s3
      refine ⟨_, rfl, _, rfl, F, R, _, ps, _, rfl, hF3, hK3.law.list, hK3.law.tups, rfl, by omega, fun G4 s4 => ⟨_, rfl, iteF ?_⟩⟩
      exact ⟨_, rfl, .inl ⟨rfl, _, SqL.of (s4 _ _ hF3)⟩, F, _, rfl, rfl, s4 _ _ hF3, hN _ _ ⟨F, rfl, (s3.trans s4).upd hF⟩⟩
    rintro σ7 H7 ⟨F, rfl, s7⟩
    have hK7 := hK.keep s7
    refine seq_cut (fun σ' G => ∃ (v11 v12 : Option V), σ' = [some (.ref a), some (.ref x), some (.ref y), some (.ref Nm), some (.ref R), some (.ref S), some (.ref Hh), v7, v8, v9, some (.ref F), v11, v12] ∧ G = H7) (fun N hN => ?_) ?_
    · refine ⟨_, rfl, Hh, rfl, ⟨_, SqL.of hK7.held⟩, ?_⟩
      refine for_list (K := K) (a := Hh) (xs := qs.map V.ref) (fun _ σ' G => ∃ (v11 v12 : Option V), σ' = [some (.ref a), some (.ref x), some (.ref y), some (.ref Nm), some (.ref R), some (.ref S), some (.ref Hh), v7, v8, v9, some (.ref F), v11, v12] ∧ G = H7) ⟨_, _, rfl, rfl⟩ ?_ ?_ ?_
      · rintro j σ' G _ ⟨v11, v12, rfl, rfl⟩
        exact SqL.of hK7.held
      · rintro j xv σ' G hx ⟨v11, v12, rfl, rfl⟩
        rw [List.getElem?_map] at hx
        obtain ⟨q, hq, rfl⟩ := Option.map_eq_some_iff.mp hx
        obtain ⟨f, g, zs, h1, h2, h3, h4⟩ := (hK7.pairs q (List.mem_of_getElem? hq)).keep hK7.same
        refine ⟨q, _, rfl, SqL.of h1, rfl, ?_⟩
        refine ⟨_, _, rfl, _, _, rfl, rfl, ?_⟩
        exact ⟨_, rfl, _, rfl, 1, f, g, _, _, by decide, rfl, rfl, SqL.of h2, SqL.of h3, als_strs zs, _, rfl, iteF ⟨_, _, rfl, rfl⟩⟩
      · rintro σ' G ⟨v11, v12, rfl, rfl⟩
        exact hN _ _ ⟨_, _, rfl, rfl⟩
    rintro σ8 H8 ⟨v11, v12, rfl, rfl⟩
    refine ⟨_, rfl, x, dx, _, rfl, s7 _ _ hx0, rfl, x, M, D, as, es, kvs, rfl, hK7.law.desk, by omega, fun F2 jx G3 hF2 s3 gF pm pw => ?_⟩
    rw [fore_unique pw hK7.law.ord.2 (pm.trans hK7.law.ord.1.symm)] at gF
    have hF3 := rows_txt gF
    have hK3 := hK7.keep s3
    refine ⟨_, rfl, F2, R, _, ps, _, rfl, hF3, hK3.law.list, hK3.law.tups, rfl, by omega, fun G4 s4 => ⟨_, rfl, ?_⟩⟩
    have hK4 := hK3.keep s4
    have b4 := hK4.beside.keep hK4.same
    obtain ⟨dy, L2, hy4⟩ := b4.obj
    rw [if_pos rfl]
    refine ⟨_, rfl, y, dy, _, rfl, hy4, rfl, y, M2, D2, [], [], [], rfl, b4, by decide, fun F3 jx2 G5 hF3 s5 gF5 pm5 pw5 => ?_⟩
    have ej : jx2 = [] := pm5.eq_nil
    rw [ej] at gF5
    refine ⟨by decide, fun E hE => ⟨F3, E, [], rfl, rfl, SqL.of ((Same.new hE) _ _ gF5), SqL.of upd_same, k _⟩⟩
theorem all_mk {l : PySem.W.OpenLaw} {w : World} {K : PySem.W.Frag} {h : Heap} {mg : Str → Option Value} (X : K.In h) (G : h.Ns mainGlobals mg) {C_NoRow : Addr} {C_Late : Addr} {C_NoName : Addr} {C_NoCue : Addr} {C_NoText : Addr} {C_LampError : Addr} {C_Heard : Addr} {C_Desk : Addr} {C_CueDraft : Addr} {C_PartDraft : Addr} {fa : Addr} {f0 : Addr} {od0 an0 : Option Addr} {sl0 : Array (Option Value)} {oc0 kV0 dc0 pm0 cd0 ct0 : Value} {f1 : Addr} {od1 an1 : Option Addr} {sl1 : Array (Option Value)} {oc1 kV1 dc1 pm1 cd1 ct1 : Value} {f2 : Addr} {od2 an2 : Option Addr} {sl2 : Array (Option Value)} {oc2 kV2 dc2 pm2 cd2 ct2 : Value} {f3 : Addr} {od3 an3 : Option Addr} {sl3 : Array (Option Value)} {oc3 kV3 dc3 pm3 cd3 ct3 : Value} {f4 : Addr} {od4 an4 : Option Addr} {sl4 : Array (Option Value)} {oc4 kV4 dc4 pm4 cd4 ct4 : Value} {T4 : Addr} {tc4 : Value} {td4 : Option Addr} {tn4 : Nat} {tsl4 : Array (Option Value)} {tk4_0 : Tok} {f5 : Addr} {od5 an5 : Option Addr} {sl5 : Array (Option Value)} {oc5 kV5 dc5 pm5 cd5 ct5 : Value} {f6 : Addr} {od6 an6 : Option Addr} {sl6 : Array (Option Value)} {oc6 kV6 dc6 pm6 cd6 ct6 : Value} {f7 : Addr} {od7 an7 : Option Addr} {sl7 : Array (Option Value)} {oc7 kV7 dc7 pm7 cd7 ct7 : Value} {f8 : Addr} {od8 an8 : Option Addr} {sl8 : Array (Option Value)} {oc8 kV8 dc8 pm8 cd8 ct8 : Value} {f9 : Addr} {od9 an9 : Option Addr} {sl9 : Array (Option Value)} {oc9 kV9 dc9 pm9 cd9 ct9 : Value} {f10 : Addr} {od10 an10 : Option Addr} {sl10 : Array (Option Value)} {oc10 kV10 dc10 pm10 cd10 ct10 : Value} {f11 : Addr} {od11 an11 : Option Addr} {sl11 : Array (Option Value)} {oc11 kV11 dc11 pm11 cd11 ct11 : Value} {f12 : Addr} {od12 an12 : Option Addr} {sl12 : Array (Option Value)} {oc12 kV12 dc12 pm12 cd12 ct12 : Value} {f13 : Addr} {od13 an13 : Option Addr} {sl13 : Array (Option Value)} {oc13 kV13 dc13 pm13 cd13 ct13 : Value} {f14 : Addr} {od14 an14 : Option Addr} {sl14 : Array (Option Value)} {oc14 kV14 dc14 pm14 cd14 ct14 : Value} {f15 : Addr} {od15 an15 : Option Addr} {sl15 : Array (Option Value)} {oc15 kV15 dc15 pm15 cd15 ct15 : Value} {f16 : Addr} {od16 an16 : Option Addr} {sl16 : Array (Option Value)} {oc16 kV16 dc16 pm16 cd16 ct16 : Value} {f17 : Addr} {od17 an17 : Option Addr} {sl17 : Array (Option Value)} {oc17 kV17 dc17 pm17 cd17 ct17 : Value} {f18 : Addr} {od18 an18 : Option Addr} {sl18 : Array (Option Value)} {oc18 kV18 dc18 pm18 cd18 ct18 : Value} {f19 : Addr} {od19 an19 : Option Addr} {sl19 : Array (Option Value)} {oc19 kV19 dc19 pm19 cd19 ct19 : Value} {f20 : Addr} {od20 an20 : Option Addr} {sl20 : Array (Option Value)} {oc20 kV20 dc20 pm20 cd20 ct20 : Value} {f21 : Addr} {od21 an21 : Option Addr} {sl21 : Array (Option Value)} {oc21 kV21 dc21 pm21 cd21 ct21 : Value} {f22 : Addr} {od22 an22 : Option Addr} {sl22 : Array (Option Value)} {oc22 kV22 dc22 pm22 cd22 ct22 : Value} {f23 : Addr} {od23 an23 : Option Addr} {sl23 : Array (Option Value)} {oc23 kV23 dc23 pm23 cd23 ct23 : Value} {f24 : Addr} {od24 an24 : Option Addr} {sl24 : Array (Option Value)} {oc24 kV24 dc24 pm24 cd24 ct24 : Value} {f25 : Addr} {od25 an25 : Option Addr} {sl25 : Array (Option Value)} {oc25 kV25 dc25 pm25 cd25 ct25 : Value} {T25 : Addr} {tc25 : Value} {td25 : Option Addr} {tn25 : Nat} {tsl25 : Array (Option Value)} {tk25_0 : Tok} {f26 : Addr} {od26 an26 : Option Addr} {sl26 : Array (Option Value)} {oc26 kV26 dc26 pm26 cd26 ct26 : Value} {f27 : Addr} {od27 an27 : Option Addr} {sl27 : Array (Option Value)} {oc27 kV27 dc27 pm27 cd27 ct27 : Value} {f28 : Addr} {od28 an28 : Option Addr} {sl28 : Array (Option Value)} {oc28 kV28 dc28 pm28 cd28 ct28 : Value} {f29 : Addr} {od29 an29 : Option Addr} {sl29 : Array (Option Value)} {oc29 kV29 dc29 pm29 cd29 ct29 : Value} {f30 : Addr} {od30 an30 : Option Addr} {sl30 : Array (Option Value)} {oc30 kV30 dc30 pm30 cd30 ct30 : Value} {f31 : Addr} {od31 an31 : Option Addr} {sl31 : Array (Option Value)} {oc31 kV31 dc31 pm31 cd31 ct31 : Value} {f32 : Addr} {od32 an32 : Option Addr} {sl32 : Array (Option Value)} {oc32 kV32 dc32 pm32 cd32 ct32 : Value} {f33 : Addr} {od33 an33 : Option Addr} {sl33 : Array (Option Value)} {oc33 kV33 dc33 pm33 cd33 ct33 : Value} {f34 : Addr} {od34 an34 : Option Addr} {sl34 : Array (Option Value)} {oc34 kV34 dc34 pm34 cd34 ct34 : Value} {f35 : Addr} {od35 an35 : Option Addr} {sl35 : Array (Option Value)} {oc35 kV35 dc35 pm35 cd35 ct35 : Value} {f36 : Addr} {od36 an36 : Option Addr} {sl36 : Array (Option Value)} {oc36 kV36 dc36 pm36 cd36 ct36 : Value} {f37 : Addr} {od37 an37 : Option Addr} {sl37 : Array (Option Value)} {oc37 kV37 dc37 pm37 cd37 ct37 : Value} {f38 : Addr} {od38 an38 : Option Addr} {sl38 : Array (Option Value)} {oc38 kV38 dc38 pm38 cd38 ct38 : Value} {f39 : Addr} {od39 an39 : Option Addr} {sl39 : Array (Option Value)} {oc39 kV39 dc39 pm39 cd39 ct39 : Value} {nm_LampError qn_LampError : _} {N_LampError : _} {bs_LampError hx_LampError sn_LampError sub_LampError ab_LampError col_LampError dd_LampError k0_LampError k1_LampError k2_LampError k3_LampError k5_LampError : _} {nm_NoText qn_NoText : _} {N_NoText : _} {bs_NoText hx_NoText sn_NoText sub_NoText ab_NoText col_NoText dd_NoText k0_NoText k1_NoText k2_NoText k3_NoText k5_NoText : _} {tkc_MOST_TICKS : Tok} {tkc_TICKS_A_SECOND : Tok} {tkc_PLACES : Tok} {tkc_MOST_FIGURES : Tok} {tkc_FIGURES : Tok} {tkc_LETTERS : Tok} {tkc_MOST_LETTERS : Tok} {tkc_MOST_WORTH : Tok} {tkc_MOST_NUMBER : Tok} {tkc_MOST_PARTS : Tok} {tkc_MOST_LEVEL : Tok} {tkc_MOST_TICK : Tok} {S_SIDES : Addr} {so_SIDES : Option Addr} {sn_SIDES : Nat} {ss_SIDES : Array (Option Value)} {sk_SIDES_0 sk_SIDES_1 sk_SIDES_2 sk_SIDES_3 sk_SIDES_4 sk_SIDES_5 : Tok} {S_DEEDS : Addr} {so_DEEDS : Option Addr} {sn_DEEDS : Nat} {ss_DEEDS : Array (Option Value)} {sk_DEEDS_0 sk_DEEDS_1 sk_DEEDS_2 sk_DEEDS_3 sk_DEEDS_4 sk_DEEDS_5 sk_DEEDS_6 sk_DEEDS_7 sk_DEEDS_8 sk_DEEDS_9 sk_DEEDS_10 sk_DEEDS_11 sk_DEEDS_12 sk_DEEDS_13 sk_DEEDS_14 sk_DEEDS_15 sk_DEEDS_16 sk_DEEDS_17 : Tok} (hfa : mg "law" = some (.ref fa))
    (aC_LampError : PySem.W.nsIn K mainGlobals "LampError" = some (some (.ref C_LampError)))
    (aC_NoText : PySem.W.nsIn K mainGlobals "NoText" = some (some (.ref C_NoText)))
    (aC_NoCue : PySem.W.nsIn K mainGlobals "NoCue" = some (some (.ref C_NoCue)))
    (aC_NoName : PySem.W.nsIn K mainGlobals "NoName" = some (some (.ref C_NoName)))
    (aC_Late : PySem.W.nsIn K mainGlobals "Late" = some (some (.ref C_Late)))
    (aC_NoRow : PySem.W.nsIn K mainGlobals "NoRow" = some (some (.ref C_NoRow)))
    (aC_PartDraft : PySem.W.nsIn K mainGlobals "PartDraft" = some (some (.ref C_PartDraft)))
    (aC_CueDraft : PySem.W.nsIn K mainGlobals "CueDraft" = some (some (.ref C_CueDraft)))
    (aC_Desk : PySem.W.nsIn K mainGlobals "Desk" = some (some (.ref C_Desk)))
    (aC_Heard : PySem.W.nsIn K mainGlobals "Heard" = some (some (.ref C_Heard)))
    (a0 : PySem.W.nsIn K mainGlobals "is_whole" = some (some (.ref f0)))
    (l0 : K.lookup f0 = some ⟨oc0, od0, .func (PySem.W.fnOf "is_whole" "is_whole" (defArgs s_is_whole) (defBody s_is_whole) (defScope s_is_whole) .none kV0 dc0 pm0 an0 cd0 ct0), sl0⟩)
    (c0 : PySem.W.codeIn K cd0 "is_whole" = true)
    (k0 : PySem.W.keepIn K (.ref f0) = true)
    (a1 : PySem.W.nsIn K mainGlobals "is_time" = some (some (.ref f1)))
    (l1 : K.lookup f1 = some ⟨oc1, od1, .func (PySem.W.fnOf "is_time" "is_time" (defArgs s_is_time) (defBody s_is_time) (defScope s_is_time) .none kV1 dc1 pm1 an1 cd1 ct1), sl1⟩)
    (c1 : PySem.W.codeIn K cd1 "is_time" = true)
    (k1 : PySem.W.keepIn K (.ref f1) = true)
    (a2 : PySem.W.nsIn K mainGlobals "time_text" = some (some (.ref f2)))
    (l2 : K.lookup f2 = some ⟨oc2, od2, .func (PySem.W.fnOf "time_text" "time_text" (defArgs s_time_text) (defBody s_time_text) (defScope s_time_text) .none kV2 dc2 pm2 an2 cd2 ct2), sl2⟩)
    (c2 : PySem.W.codeIn K cd2 "time_text" = true)
    (k2 : PySem.W.keepIn K (.ref f2) = true)
    (a3 : PySem.W.nsIn K mainGlobals "loosely_read" = some (some (.ref f3)))
    (l3 : K.lookup f3 = some ⟨oc3, od3, .func (PySem.W.fnOf "loosely_read" "loosely_read" (defArgs s_loosely_read) (defBody s_loosely_read) (defScope s_loosely_read) .none kV3 dc3 pm3 an3 cd3 ct3), sl3⟩)
    (c3 : PySem.W.codeIn K cd3 "loosely_read" = true)
    (k3 : PySem.W.keepIn K (.ref f3) = true)
    (a4 : PySem.W.findIn K (.ref C_NoText) "__init__" = some (some (.ref f4)))
    (i4 : PySem.W.isFn K (.ref f4) = true)
    (l4 : K.lookup f4 = some ⟨oc4, od4, .func (PySem.W.fnOf "__init__" "NoText.__init__" (defArgs s_NoText_init) (defBody s_NoText_init) (defScope s_NoText_init) (.ref T4) kV4 dc4 pm4 an4 cd4 ct4), sl4⟩)
    (c4 : PySem.W.codeIn K cd4 "NoText.__init__" = true)
    (k4 : PySem.W.keepIn K (.ref f4) = true)
    (t4 : K.lookup T4 = some ⟨tc4, td4, .seq ([.int 0 tk4_0] : List Value).toArray tn4, tsl4⟩)
    (a5 : PySem.W.nsIn K mainGlobals "time_of" = some (some (.ref f5)))
    (l5 : K.lookup f5 = some ⟨oc5, od5, .func (PySem.W.fnOf "time_of" "time_of" (defArgs s_time_of) (defBody s_time_of) (defScope s_time_of) .none kV5 dc5 pm5 an5 cd5 ct5), sl5⟩)
    (c5 : PySem.W.codeIn K cd5 "time_of" = true)
    (k5 : PySem.W.keepIn K (.ref f5) = true)
    (a6 : PySem.W.nsIn K mainGlobals "is_lamp" = some (some (.ref f6)))
    (l6 : K.lookup f6 = some ⟨oc6, od6, .func (PySem.W.fnOf "is_lamp" "is_lamp" (defArgs s_is_lamp) (defBody s_is_lamp) (defScope s_is_lamp) .none kV6 dc6 pm6 an6 cd6 ct6), sl6⟩)
    (c6 : PySem.W.codeIn K cd6 "is_lamp" = true)
    (k6 : PySem.W.keepIn K (.ref f6) = true)
    (a7 : PySem.W.nsIn K mainGlobals "is_side" = some (some (.ref f7)))
    (l7 : K.lookup f7 = some ⟨oc7, od7, .func (PySem.W.fnOf "is_side" "is_side" (defArgs s_is_side) (defBody s_is_side) (defScope s_is_side) .none kV7 dc7 pm7 an7 cd7 ct7), sl7⟩)
    (c7 : PySem.W.codeIn K cd7 "is_side" = true)
    (k7 : PySem.W.keepIn K (.ref f7) = true)
    (a8 : PySem.W.nsIn K mainGlobals "whole_of" = some (some (.ref f8)))
    (l8 : K.lookup f8 = some ⟨oc8, od8, .func (PySem.W.fnOf "whole_of" "whole_of" (defArgs s_whole_of) (defBody s_whole_of) (defScope s_whole_of) .none kV8 dc8 pm8 an8 cd8 ct8), sl8⟩)
    (c8 : PySem.W.codeIn K cd8 "whole_of" = true)
    (k8 : PySem.W.keepIn K (.ref f8) = true)
    (a9 : PySem.W.nsIn K mainGlobals "ticks_of" = some (some (.ref f9)))
    (l9 : K.lookup f9 = some ⟨oc9, od9, .func (PySem.W.fnOf "ticks_of" "ticks_of" (defArgs s_ticks_of) (defBody s_ticks_of) (defScope s_ticks_of) .none kV9 dc9 pm9 an9 cd9 ct9), sl9⟩)
    (c9 : PySem.W.codeIn K cd9 "ticks_of" = true)
    (k9 : PySem.W.keepIn K (.ref f9) = true)
    (a10 : PySem.W.nsIn K mainGlobals "thing_of" = some (some (.ref f10)))
    (l10 : K.lookup f10 = some ⟨oc10, od10, .func (PySem.W.fnOf "thing_of" "thing_of" (defArgs s_thing_of) (defBody s_thing_of) (defScope s_thing_of) .none kV10 dc10 pm10 an10 cd10 ct10), sl10⟩)
    (c10 : PySem.W.codeIn K cd10 "thing_of" = true)
    (k10 : PySem.W.keepIn K (.ref f10) = true)
    (a11 : PySem.W.nsIn K mainGlobals "things_by" = some (some (.ref f11)))
    (l11 : K.lookup f11 = some ⟨oc11, od11, .func (PySem.W.fnOf "things_by" "things_by" (defArgs s_things_by) (defBody s_things_by) (defScope s_things_by) .none kV11 dc11 pm11 an11 cd11 ct11), sl11⟩)
    (c11 : PySem.W.codeIn K cd11 "things_by" = true)
    (k11 : PySem.W.keepIn K (.ref f11) = true)
    (a12 : PySem.W.nsIn K mainGlobals "row_of" = some (some (.ref f12)))
    (l12 : K.lookup f12 = some ⟨oc12, od12, .func (PySem.W.fnOf "row_of" "row_of" (defArgs s_row_of) (defBody s_row_of) (defScope s_row_of) .none kV12 dc12 pm12 an12 cd12 ct12), sl12⟩)
    (c12 : PySem.W.codeIn K cd12 "row_of" = true)
    (k12 : PySem.W.keepIn K (.ref f12) = true)
    (a13 : PySem.W.findIn K (.ref C_PartDraft) "__init__" = some (some (.ref f13)))
    (i13 : PySem.W.isFn K (.ref f13) = true)
    (l13 : K.lookup f13 = some ⟨oc13, od13, .func (PySem.W.fnOf "__init__" "PartDraft.__init__" (defArgs s_PartDraft_init) (defBody s_PartDraft_init) (defScope s_PartDraft_init) .none kV13 dc13 pm13 an13 cd13 ct13), sl13⟩)
    (c13 : PySem.W.codeIn K cd13 "PartDraft.__init__" = true)
    (k13 : PySem.W.keepIn K (.ref f13) = true)
    (a14 : PySem.W.findIn K (.ref C_CueDraft) "__init__" = some (some (.ref f14)))
    (i14 : PySem.W.isFn K (.ref f14) = true)
    (l14 : K.lookup f14 = some ⟨oc14, od14, .func (PySem.W.fnOf "__init__" "CueDraft.__init__" (defArgs s_CueDraft_init) (defBody s_CueDraft_init) (defScope s_CueDraft_init) .none kV14 dc14 pm14 an14 cd14 ct14), sl14⟩)
    (c14 : PySem.W.codeIn K cd14 "CueDraft.__init__" = true)
    (k14 : PySem.W.keepIn K (.ref f14) = true)
    (a15 : PySem.W.nsIn K mainGlobals "lacks_part" = some (some (.ref f15)))
    (l15 : K.lookup f15 = some ⟨oc15, od15, .func (PySem.W.fnOf "lacks_part" "lacks_part" (defArgs s_lacks_part) (defBody s_lacks_part) (defScope s_lacks_part) .none kV15 dc15 pm15 an15 cd15 ct15), sl15⟩)
    (c15 : PySem.W.codeIn K cd15 "lacks_part" = true)
    (k15 : PySem.W.keepIn K (.ref f15) = true)
    (a16 : PySem.W.nsIn K mainGlobals "follow_of" = some (some (.ref f16)))
    (l16 : K.lookup f16 = some ⟨oc16, od16, .func (PySem.W.fnOf "follow_of" "follow_of" (defArgs s_follow_of) (defBody s_follow_of) (defScope s_follow_of) .none kV16 dc16 pm16 an16 cd16 ct16), sl16⟩)
    (c16 : PySem.W.codeIn K cd16 "follow_of" = true)
    (k16 : PySem.W.keepIn K (.ref f16) = true)
    (a17 : PySem.W.nsIn K mainGlobals "take_cue" = some (some (.ref f17)))
    (l17 : K.lookup f17 = some ⟨oc17, od17, .func (PySem.W.fnOf "take_cue" "take_cue" (defArgs s_take_cue) (defBody s_take_cue) (defScope s_take_cue) .none kV17 dc17 pm17 an17 cd17 ct17), sl17⟩)
    (c17 : PySem.W.codeIn K cd17 "take_cue" = true)
    (k17 : PySem.W.keepIn K (.ref f17) = true)
    (a18 : PySem.W.nsIn K mainGlobals "take_part" = some (some (.ref f18)))
    (l18 : K.lookup f18 = some ⟨oc18, od18, .func (PySem.W.fnOf "take_part" "take_part" (defArgs s_take_part) (defBody s_take_part) (defScope s_take_part) .none kV18 dc18 pm18 an18 cd18 ct18), sl18⟩)
    (c18 : PySem.W.codeIn K cd18 "take_part" = true)
    (k18 : PySem.W.keepIn K (.ref f18) = true)
    (a19 : PySem.W.nsIn K mainGlobals "take_telling" = some (some (.ref f19)))
    (l19 : K.lookup f19 = some ⟨oc19, od19, .func (PySem.W.fnOf "take_telling" "take_telling" (defArgs s_take_telling) (defBody s_take_telling) (defScope s_take_telling) .none kV19 dc19 pm19 an19 cd19 ct19), sl19⟩)
    (c19 : PySem.W.codeIn K cd19 "take_telling" = true)
    (k19 : PySem.W.keepIn K (.ref f19) = true)
    (a20 : PySem.W.nsIn K mainGlobals "take_row" = some (some (.ref f20)))
    (l20 : K.lookup f20 = some ⟨oc20, od20, .func (PySem.W.fnOf "take_row" "take_row" (defArgs s_take_row) (defBody s_take_row) (defScope s_take_row) .none kV20 dc20 pm20 an20 cd20 ct20), sl20⟩)
    (c20 : PySem.W.codeIn K cd20 "take_row" = true)
    (k20 : PySem.W.keepIn K (.ref f20) = true)
    (a21 : PySem.W.nsIn K mainGlobals "read" = some (some (.ref f21)))
    (l21 : K.lookup f21 = some ⟨oc21, od21, .func (PySem.W.fnOf "read" "read" (defArgs s_read) (defBody s_read) (defScope s_read) .none kV21 dc21 pm21 an21 cd21 ct21), sl21⟩)
    (c21 : PySem.W.codeIn K cd21 "read" = true)
    (k21 : PySem.W.keepIn K (.ref f21) = true)
    (a22 : PySem.W.findIn K (.ref C_Heard) "__init__" = some (some (.ref f22)))
    (i22 : PySem.W.isFn K (.ref f22) = true)
    (l22 : K.lookup f22 = some ⟨oc22, od22, .func (PySem.W.fnOf "__init__" "Heard.__init__" (defArgs s_Heard_init) (defBody s_Heard_init) (defScope s_Heard_init) .none kV22 dc22 pm22 an22 cd22 ct22), sl22⟩)
    (c22 : PySem.W.codeIn K cd22 "Heard.__init__" = true)
    (k22 : PySem.W.keepIn K (.ref f22) = true)
    (a23 : PySem.W.nsIn K mainGlobals "tick_and_hand" = some (some (.ref f23)))
    (l23 : K.lookup f23 = some ⟨oc23, od23, .func (PySem.W.fnOf "tick_and_hand" "tick_and_hand" (defArgs s_tick_and_hand) (defBody s_tick_and_hand) (defScope s_tick_and_hand) .none kV23 dc23 pm23 an23 cd23 ct23), sl23⟩)
    (c23 : PySem.W.codeIn K cd23 "tick_and_hand" = true)
    (k23 : PySem.W.keepIn K (.ref f23) = true)
    (a24 : PySem.W.nsIn K mainGlobals "in_order" = some (some (.ref f24)))
    (l24 : K.lookup f24 = some ⟨oc24, od24, .func (PySem.W.fnOf "in_order" "in_order" (defArgs s_in_order) (defBody s_in_order) (defScope s_in_order) .none kV24 dc24 pm24 an24 cd24 ct24), sl24⟩)
    (c24 : PySem.W.codeIn K cd24 "in_order" = true)
    (k24 : PySem.W.keepIn K (.ref f24) = true)
    (a25 : PySem.W.findIn K (.ref C_Desk) "__init__" = some (some (.ref f25)))
    (i25 : PySem.W.isFn K (.ref f25) = true)
    (l25 : K.lookup f25 = some ⟨oc25, od25, .func (PySem.W.fnOf "__init__" "Desk.__init__" (defArgs s_Desk_init) (defBody s_Desk_init) (defScope s_Desk_init) (.ref T25) kV25 dc25 pm25 an25 cd25 ct25), sl25⟩)
    (c25 : PySem.W.codeIn K cd25 "Desk.__init__" = true)
    (k25 : PySem.W.keepIn K (.ref f25) = true)
    (t25 : K.lookup T25 = some ⟨tc25, td25, .seq ([.str (Str.ofString "") tk25_0] : List Value).toArray tn25, tsl25⟩)
    (a26 : PySem.W.findIn K (.ref C_Desk) "hear" = some (some (.ref f26)))
    (i26 : PySem.W.isFn K (.ref f26) = true)
    (l26 : K.lookup f26 = some ⟨oc26, od26, .func (PySem.W.fnOf "hear" "Desk.hear" (defArgs s_Desk_hear) (defBody s_Desk_hear) (defScope s_Desk_hear) .none kV26 dc26 pm26 an26 cd26 ct26), sl26⟩)
    (c26 : PySem.W.codeIn K cd26 "Desk.hear" = true)
    (k26 : PySem.W.keepIn K (.ref f26) = true)
    (a27 : PySem.W.findIn K (.ref C_Desk) "rows" = some (some (.ref f27)))
    (i27 : PySem.W.isFn K (.ref f27) = true)
    (l27 : K.lookup f27 = some ⟨oc27, od27, .func (PySem.W.fnOf "rows" "Desk.rows" (defArgs s_Desk_rows) (defBody s_Desk_rows) (defScope s_Desk_rows) .none kV27 dc27 pm27 an27 cd27 ct27), sl27⟩)
    (c27 : PySem.W.codeIn K cd27 "Desk.rows" = true)
    (k27 : PySem.W.keepIn K (.ref f27) = true)
    (a28 : PySem.W.nsIn K mainGlobals "_law_cell_at" = some (some (.ref f28)))
    (l28 : K.lookup f28 = some ⟨oc28, od28, .func (PySem.W.fnOf "_law_cell_at" "_law_cell_at" (defArgs s_law_cell_at) (defBody s_law_cell_at) (defScope s_law_cell_at) .none kV28 dc28 pm28 an28 cd28 ct28), sl28⟩)
    (c28 : PySem.W.codeIn K cd28 "_law_cell_at" = true)
    (k28 : PySem.W.keepIn K (.ref f28) = true)
    (a29 : PySem.W.nsIn K mainGlobals "_law_number" = some (some (.ref f29)))
    (l29 : K.lookup f29 = some ⟨oc29, od29, .func (PySem.W.fnOf "_law_number" "_law_number" (defArgs s_law_number) (defBody s_law_number) (defScope s_law_number) .none kV29 dc29 pm29 an29 cd29 ct29), sl29⟩)
    (c29 : PySem.W.codeIn K cd29 "_law_number" = true)
    (k29 : PySem.W.keepIn K (.ref f29) = true)
    (a30 : PySem.W.nsIn K mainGlobals "_law_names" = some (some (.ref f30)))
    (l30 : K.lookup f30 = some ⟨oc30, od30, .func (PySem.W.fnOf "_law_names" "_law_names" (defArgs s_law_names) (defBody s_law_names) (defScope s_law_names) .none kV30 dc30 pm30 an30 cd30 ct30), sl30⟩)
    (c30 : PySem.W.codeIn K cd30 "_law_names" = true)
    (k30 : PySem.W.keepIn K (.ref f30) = true)
    (a31 : PySem.W.nsIn K mainGlobals "_law_before" = some (some (.ref f31)))
    (l31 : K.lookup f31 = some ⟨oc31, od31, .func (PySem.W.fnOf "_law_before" "_law_before" (defArgs s_law_before) (defBody s_law_before) (defScope s_law_before) .none kV31 dc31 pm31 an31 cd31 ct31), sl31⟩)
    (c31 : PySem.W.codeIn K cd31 "_law_before" = true)
    (k31 : PySem.W.keepIn K (.ref f31) = true)
    (a32 : PySem.W.nsIn K mainGlobals "_law_put" = some (some (.ref f32)))
    (l32 : K.lookup f32 = some ⟨oc32, od32, .func (PySem.W.fnOf "_law_put" "_law_put" (defArgs s_law_put) (defBody s_law_put) (defScope s_law_put) .none kV32 dc32 pm32 an32 cd32 ct32), sl32⟩)
    (c32 : PySem.W.codeIn K cd32 "_law_put" = true)
    (k32 : PySem.W.keepIn K (.ref f32) = true)
    (a33 : PySem.W.nsIn K mainGlobals "_law_same" = some (some (.ref f33)))
    (l33 : K.lookup f33 = some ⟨oc33, od33, .func (PySem.W.fnOf "_law_same" "_law_same" (defArgs s_law_same) (defBody s_law_same) (defScope s_law_same) .none kV33 dc33 pm33 an33 cd33 ct33), sl33⟩)
    (c33 : PySem.W.codeIn K cd33 "_law_same" = true)
    (k33 : PySem.W.keepIn K (.ref f33) = true)
    (a34 : PySem.W.nsIn K mainGlobals "_law_caught" = some (some (.ref f34)))
    (l34 : K.lookup f34 = some ⟨oc34, od34, .func (PySem.W.fnOf "_law_caught" "_law_caught" (defArgs s_law_caught) (defBody s_law_caught) (defScope s_law_caught) .none kV34 dc34 pm34 an34 cd34 ct34), sl34⟩)
    (c34 : PySem.W.codeIn K cd34 "_law_caught" = true)
    (k34 : PySem.W.keepIn K (.ref f34) = true)
    (a35 : PySem.W.nsIn K mainGlobals "_law_refused" = some (some (.ref f35)))
    (l35 : K.lookup f35 = some ⟨oc35, od35, .func (PySem.W.fnOf "_law_refused" "_law_refused" (defArgs s_law_refused) (defBody s_law_refused) (defScope s_law_refused) .none kV35 dc35 pm35 an35 cd35 ct35), sl35⟩)
    (c35 : PySem.W.codeIn K cd35 "_law_refused" = true)
    (k35 : PySem.W.keepIn K (.ref f35) = true)
    (a36 : PySem.W.nsIn K mainGlobals "_law_text" = some (some (.ref f36)))
    (l36 : K.lookup f36 = some ⟨oc36, od36, .func (PySem.W.fnOf "_law_text" "_law_text" (defArgs s_law_text) (defBody s_law_text) (defScope s_law_text) .none kV36 dc36 pm36 an36 cd36 ct36), sl36⟩)
    (c36 : PySem.W.codeIn K cd36 "_law_text" = true)
    (k36 : PySem.W.keepIn K (.ref f36) = true)
    (a37 : PySem.W.nsIn K mainGlobals "_law_told" = some (some (.ref f37)))
    (l37 : K.lookup f37 = some ⟨oc37, od37, .func (PySem.W.fnOf "_law_told" "_law_told" (defArgs s_law_told) (defBody s_law_told) (defScope s_law_told) .none kV37 dc37 pm37 an37 cd37 ct37), sl37⟩)
    (c37 : PySem.W.codeIn K cd37 "_law_told" = true)
    (k37 : PySem.W.keepIn K (.ref f37) = true)
    (a38 : PySem.W.nsIn K mainGlobals "_law_begun" = some (some (.ref f38)))
    (l38 : K.lookup f38 = some ⟨oc38, od38, .func (PySem.W.fnOf "_law_begun" "_law_begun" (defArgs s_law_begun) (defBody s_law_begun) (defScope s_law_begun) .none kV38 dc38 pm38 an38 cd38 ct38), sl38⟩)
    (c38 : PySem.W.codeIn K cd38 "_law_begun" = true)
    (k38 : PySem.W.keepIn K (.ref f38) = true)
    (a39 : PySem.W.nsIn K mainGlobals "law" = some (some (.ref f39)))
    (l39 : K.lookup f39 = some ⟨oc39, od39, .func (PySem.W.fnOf "law" "law" (defArgs s_law) (defBody s_law) (defScope s_law) .none kV39 dc39 pm39 an39 cd39 ct39), sl39⟩)
    (c39 : PySem.W.codeIn K cd39 "law" = true)
    (k39 : PySem.W.keepIn K (.ref f39) = true)
    (pg_PartDraft : PySem.W.plainGet K C_PartDraft Str.empty = true)
    (hd_PartDraft : PySem.W.hasDictIn K C_PartDraft = true)
    (po_PartDraft : PySem.W.plainOver K C_PartDraft = true)
    (sa_PartDraft : PySem.W.findIn K (.ref C_PartDraft) "__setattr__" = some (some (.builtin "object.__setattr__")))
    (mk_PartDraft : PySem.W.makesIn K C_PartDraft = true)
    (kc_PartDraft : PySem.W.keepIn K (.ref C_PartDraft) = true)
    (na_PartDraft_tells : PySem.W.findIn K (.ref C_PartDraft) "tells" = some none)
    (na_PartDraft_alone : PySem.W.findIn K (.ref C_PartDraft) "alone" = some none)
    (na_PartDraft_rise : PySem.W.findIn K (.ref C_PartDraft) "rise" = some none)
    (na_PartDraft_fall : PySem.W.findIn K (.ref C_PartDraft) "fall" = some none)
    (na_PartDraft_wait : PySem.W.findIn K (.ref C_PartDraft) "wait" = some none)
    (pg_CueDraft : PySem.W.plainGet K C_CueDraft Str.empty = true)
    (hd_CueDraft : PySem.W.hasDictIn K C_CueDraft = true)
    (po_CueDraft : PySem.W.plainOver K C_CueDraft = true)
    (sa_CueDraft : PySem.W.findIn K (.ref C_CueDraft) "__setattr__" = some (some (.builtin "object.__setattr__")))
    (mk_CueDraft : PySem.W.makesIn K C_CueDraft = true)
    (kc_CueDraft : PySem.W.keepIn K (.ref C_CueDraft) = true)
    (na_CueDraft_number : PySem.W.findIn K (.ref C_CueDraft) "number" = some none)
    (na_CueDraft_parts : PySem.W.findIn K (.ref C_CueDraft) "parts" = some none)
    (na_CueDraft_stops : PySem.W.findIn K (.ref C_CueDraft) "stops" = some none)
    (na_CueDraft_follow : PySem.W.findIn K (.ref C_CueDraft) "follow" = some none)
    (pg_Desk : PySem.W.plainGet K C_Desk Str.empty = true)
    (hd_Desk : PySem.W.hasDictIn K C_Desk = true)
    (po_Desk : PySem.W.plainOver K C_Desk = true)
    (sa_Desk : PySem.W.findIn K (.ref C_Desk) "__setattr__" = some (some (.builtin "object.__setattr__")))
    (mk_Desk : PySem.W.makesIn K C_Desk = true)
    (kc_Desk : PySem.W.keepIn K (.ref C_Desk) = true)
    (na_Desk_cues : PySem.W.findIn K (.ref C_Desk) "cues" = some none)
    (na_Desk_heard : PySem.W.findIn K (.ref C_Desk) "heard" = some none)
    (na_Desk_ticks : PySem.W.findIn K (.ref C_Desk) "ticks" = some none)
    (pg_Heard : PySem.W.plainGet K C_Heard Str.empty = true)
    (hd_Heard : PySem.W.hasDictIn K C_Heard = true)
    (po_Heard : PySem.W.plainOver K C_Heard = true)
    (sa_Heard : PySem.W.findIn K (.ref C_Heard) "__setattr__" = some (some (.builtin "object.__setattr__")))
    (mk_Heard : PySem.W.makesIn K C_Heard = true)
    (kc_Heard : PySem.W.keepIn K (.ref C_Heard) = true)
    (na_Heard_row : PySem.W.findIn K (.ref C_Heard) "row" = some none)
    (na_Heard_hand : PySem.W.findIn K (.ref C_Heard) "hand" = some none)
    (na_Heard_tick : PySem.W.findIn K (.ref C_Heard) "tick" = some none)
    (na_Heard_word : PySem.W.findIn K (.ref C_Heard) "word" = some none)
    (na_Heard_things : PySem.W.findIn K (.ref C_Heard) "things" = some none)
    (xc0_NoText : PySem.W.findIn K (.ref C_NoText) "__getattribute__" = some (some (.builtin "BaseException.__getattribute__")))
    (xc1_NoText : PySem.W.findIn K (.ref C_NoText) "__getattr__" = some none)
    (xc2_NoText : PySem.W.findIn K (.ref C_NoText) "__class__" = some (some (.builtin "object.__class__")))
    (xc3_NoText : PySem.W.mroIn K C_NoText (.type "object") = some true)
    (xc4_NoText : PySem.W.mroIn K C_NoText (.type "BaseException") = some true)
    (xm_NoText : PySem.W.exmOne K (.ref C_NoText) (.ref C_LampError) = some true)
    (xv_NoText : PySem.W.kitOne K (.ref C_NoText) (.type "ValueError") = some true)
    (xe_NoText_NoText : PySem.W.exmOne K (.ref C_NoText) (.ref C_NoText) = some true)
    (xk_NoText_LampError : PySem.W.kitOne K (.ref C_NoText) (.ref C_LampError) = some true)
    (xk_NoText_NoText : PySem.W.kitOne K (.ref C_NoText) (.ref C_NoText) = some true)
    (xk_NoText_NoCue : PySem.W.kitOne K (.ref C_NoText) (.ref C_NoCue) = some false)
    (xk_NoText_NoName : PySem.W.kitOne K (.ref C_NoText) (.ref C_NoName) = some false)
    (xk_NoText_Late : PySem.W.kitOne K (.ref C_NoText) (.ref C_Late) = some false)
    (xk_NoText_NoRow : PySem.W.kitOne K (.ref C_NoText) (.ref C_NoRow) = some false)
    (x_NoRow : PySem.W.excIn K C_NoRow veMro "ValueError.__new__" = true)
    (xc0_NoRow : PySem.W.findIn K (.ref C_NoRow) "__getattribute__" = some (some (.builtin "BaseException.__getattribute__")))
    (xc1_NoRow : PySem.W.findIn K (.ref C_NoRow) "__getattr__" = some none)
    (xc2_NoRow : PySem.W.findIn K (.ref C_NoRow) "__class__" = some (some (.builtin "object.__class__")))
    (xc3_NoRow : PySem.W.mroIn K C_NoRow (.type "object") = some true)
    (xc4_NoRow : PySem.W.mroIn K C_NoRow (.type "BaseException") = some true)
    (xm_NoRow : PySem.W.exmOne K (.ref C_NoRow) (.ref C_LampError) = some true)
    (xv_NoRow : PySem.W.kitOne K (.ref C_NoRow) (.type "ValueError") = some true)
    (xe_NoRow_NoText : PySem.W.exmOne K (.ref C_NoRow) (.ref C_NoText) = some false)
    (xk_NoRow_LampError : PySem.W.kitOne K (.ref C_NoRow) (.ref C_LampError) = some true)
    (xk_NoRow_NoText : PySem.W.kitOne K (.ref C_NoRow) (.ref C_NoText) = some false)
    (xk_NoRow_NoCue : PySem.W.kitOne K (.ref C_NoRow) (.ref C_NoCue) = some false)
    (xk_NoRow_NoName : PySem.W.kitOne K (.ref C_NoRow) (.ref C_NoName) = some false)
    (xk_NoRow_Late : PySem.W.kitOne K (.ref C_NoRow) (.ref C_Late) = some false)
    (xk_NoRow_NoRow : PySem.W.kitOne K (.ref C_NoRow) (.ref C_NoRow) = some true)
    (x_Late : PySem.W.excIn K C_Late veMro "ValueError.__new__" = true)
    (xc0_Late : PySem.W.findIn K (.ref C_Late) "__getattribute__" = some (some (.builtin "BaseException.__getattribute__")))
    (xc1_Late : PySem.W.findIn K (.ref C_Late) "__getattr__" = some none)
    (xc2_Late : PySem.W.findIn K (.ref C_Late) "__class__" = some (some (.builtin "object.__class__")))
    (xc3_Late : PySem.W.mroIn K C_Late (.type "object") = some true)
    (xc4_Late : PySem.W.mroIn K C_Late (.type "BaseException") = some true)
    (xm_Late : PySem.W.exmOne K (.ref C_Late) (.ref C_LampError) = some true)
    (xv_Late : PySem.W.kitOne K (.ref C_Late) (.type "ValueError") = some true)
    (xe_Late_NoText : PySem.W.exmOne K (.ref C_Late) (.ref C_NoText) = some false)
    (xk_Late_LampError : PySem.W.kitOne K (.ref C_Late) (.ref C_LampError) = some true)
    (xk_Late_NoText : PySem.W.kitOne K (.ref C_Late) (.ref C_NoText) = some false)
    (xk_Late_NoCue : PySem.W.kitOne K (.ref C_Late) (.ref C_NoCue) = some false)
    (xk_Late_NoName : PySem.W.kitOne K (.ref C_Late) (.ref C_NoName) = some false)
    (xk_Late_Late : PySem.W.kitOne K (.ref C_Late) (.ref C_Late) = some true)
    (xk_Late_NoRow : PySem.W.kitOne K (.ref C_Late) (.ref C_NoRow) = some false)
    (x_LampError : PySem.W.excIn K C_LampError veMro "ValueError.__new__" = true)
    (lx_NoText : K.lookup C_NoText = some (excClassObj nm_NoText qn_NoText C_NoText N_NoText bs_NoText (.ref C_LampError :: veMro) hx_NoText sn_NoText sub_NoText ab_NoText col_NoText dd_NoText k0_NoText k1_NoText k2_NoText k3_NoText k5_NoText "ValueError.__new__"))
    (lx_LampError : K.lookup C_LampError = some (excClassObj nm_LampError qn_LampError C_LampError N_LampError bs_LampError veMro hx_LampError sn_LampError sub_LampError ab_LampError col_LampError dd_LampError k0_LampError k1_LampError k2_LampError k3_LampError k5_LampError "ValueError.__new__"))
    (kp_NoText : PySem.W.keepIn K (.ref C_NoText) = true)
    (sa_NoText : PySem.W.findIn K (.ref C_NoText) "__setattr__" = some (some (.builtin "object.__setattr__")))
    (hd_NoText : PySem.W.hasDictIn K C_NoText = true)
    (nr_NoText_row : PySem.W.findIn K (.ref C_NoText) "row" = some none)
    (u0_LampError : PySem.W.specialIn K (.ref C_LampError) "__getattribute__" = some (some (.builtin "type.__getattribute__")))
    (u1_LampError : PySem.W.readsIn K C_LampError (.type "type") = true)
    (u2_LampError : PySem.W.findCls K (.ref C_LampError) (.type "type") "__init__" = some (.val (.builtin "ValueError.__init__")))
    (xg_get : PySem.W.specialIn K (.builtin "object.__class__") "__get__" = some (some (.builtin "getset_descriptor.__get__")))
    (xg_set : PySem.W.takesIn K (.builtin "object.__class__") = some true)
    (z_isinstance : PySem.W.nsIn K mainGlobals "isinstance" = some none)
    (z_int : PySem.W.nsIn K mainGlobals "int" = some none)
    (z_bool : PySem.W.nsIn K mainGlobals "bool" = some none)
    (z_str : PySem.W.nsIn K mainGlobals "str" = some none)
    (z_tuple : PySem.W.nsIn K mainGlobals "tuple" = some none)
    (z_list : PySem.W.nsIn K mainGlobals "list" = some none)
    (z_len : PySem.W.nsIn K mainGlobals "len" = some none)
    (z_all : PySem.W.nsIn K mainGlobals "all" = some none)
    (z_range : PySem.W.nsIn K mainGlobals "range" = some none)
    (z_enumerate : PySem.W.nsIn K mainGlobals "enumerate" = some none)
    (z_zip : PySem.W.nsIn K mainGlobals "zip" = some none)
    (z_sorted : PySem.W.nsIn K mainGlobals "sorted" = some none)
    (z_max : PySem.W.nsIn K mainGlobals "max" = some none)
    (z_ValueError : PySem.W.nsIn K mainGlobals "ValueError" = some none)
    (gc_MOST_TICKS : PySem.W.nsIn K mainGlobals "MOST_TICKS" = some (some (.int 1000000000 tkc_MOST_TICKS)))
    (gc_TICKS_A_SECOND : PySem.W.nsIn K mainGlobals "TICKS_A_SECOND" = some (some (.int 1000 tkc_TICKS_A_SECOND)))
    (gc_PLACES : PySem.W.nsIn K mainGlobals "PLACES" = some (some (.int 3 tkc_PLACES)))
    (gc_MOST_FIGURES : PySem.W.nsIn K mainGlobals "MOST_FIGURES" = some (some (.int 10 tkc_MOST_FIGURES)))
    (gc_FIGURES : PySem.W.nsIn K mainGlobals "FIGURES" = some (some (.str "0123456789" tkc_FIGURES)))
    (gc_LETTERS : PySem.W.nsIn K mainGlobals "LETTERS" = some (some (.str "abcdefghijklmnopqrstuvwxyz" tkc_LETTERS)))
    (gc_MOST_LETTERS : PySem.W.nsIn K mainGlobals "MOST_LETTERS" = some (some (.int 8 tkc_MOST_LETTERS)))
    (gc_MOST_WORTH : PySem.W.nsIn K mainGlobals "MOST_WORTH" = some (some (.int 1000000000 tkc_MOST_WORTH)))
    (gc_MOST_NUMBER : PySem.W.nsIn K mainGlobals "MOST_NUMBER" = some (some (.int 1000000000 tkc_MOST_NUMBER)))
    (gc_MOST_PARTS : PySem.W.nsIn K mainGlobals "MOST_PARTS" = some (some (.int 9 tkc_MOST_PARTS)))
    (gc_MOST_LEVEL : PySem.W.nsIn K mainGlobals "MOST_LEVEL" = some (some (.int 1000 tkc_MOST_LEVEL)))
    (gc_MOST_TICK : PySem.W.nsIn K mainGlobals "MOST_TICK" = some (some (.int 999999999999 tkc_MOST_TICK)))
    (gs_SIDES : PySem.W.nsIn K mainGlobals "SIDES" = some (some (.ref S_SIDES)))
    (ls_SIDES : K.lookup S_SIDES = some ⟨.type "tuple", so_SIDES, .seq ([.str "blue" sk_SIDES_0, .str "bright" sk_SIDES_1, .str "green" sk_SIDES_2, .str "pan" sk_SIDES_3, .str "red" sk_SIDES_4, .str "tilt" sk_SIDES_5] : List Value).toArray sn_SIDES, ss_SIDES⟩)
    (gs_DEEDS : PySem.W.nsIn K mainGlobals "DEEDS" = some (some (.ref S_DEEDS)))
    (ls_DEEDS : K.lookup S_DEEDS = some ⟨.type "tuple", so_DEEDS, .seq ([.str "go" sk_DEEDS_0, .str "back" sk_DEEDS_1, .str "goto NUMBER" sk_DEEDS_2, .str "stop" sk_DEEDS_3, .str "on" sk_DEEDS_4, .str "put NUMBER TIME TIME TIME" sk_DEEDS_5, .str "put NUMBER TIME TIME TIME follow TIME" sk_DEEDS_6, .str "out NUMBER" sk_DEEDS_7, .str "keep NUMBER" sk_DEEDS_8, .str "tell NUMBER LAMP SIDE WORTH" sk_DEEDS_9, .str "alone NUMBER LAMP SIDE WORTH" sk_DEEDS_10, .str "untell NUMBER LAMP SIDE" sk_DEEDS_11, .str "block NUMBER" sk_DEEDS_12, .str "unblock NUMBER" sk_DEEDS_13, .str "fill NAME LAMP SIDE WORTH" sk_DEEDS_14, .str "move NAME LEVEL" sk_DEEDS_15, .str "down LEVEL" sk_DEEDS_16, .str "spare LAMP" sk_DEEDS_17] : List Value).toArray sn_DEEDS, ss_DEEDS⟩) :
    ∃ fd : FuncData, (∀ (s : Shared) (v : Value), BindsTo s fd ⟨[v], []⟩ [("_law_script", v)]) ∧ ∀ base : Heap, K.In base → base.Ns mainGlobals mg → FnOk l.prog w K mg base (CXE l.prog w) 15 fa fd ["_law_script"] (spLaw K) := by
  have e := hfa.symm.trans (PySem.W.mg_of X G a39)
  cases e
  have F0 := fun_mk (st := s_is_whole) l0 c0 k0
  have bb0 := F0.binds (ps := ["thing"]) fun _ _ _ _ _ _ us hl => match us, hl with | [_], _ => rfl
  have F1 := fun_mk (st := s_is_time) l1 c1 k1
  have bb1 := F1.binds (ps := ["thing"]) fun _ _ _ _ _ _ us hl => match us, hl with | [_], _ => rfl
  have F2 := fun_mk (st := s_time_text) l2 c2 k2
  have bb2 := F2.binds (ps := ["ticks"]) fun _ _ _ _ _ _ us hl => match us, hl with | [_], _ => rfl
  have F3 := fun_mk (st := s_loosely_read) l3 c3 k3
  have bb3 := F3.binds (ps := ["text"]) fun _ _ _ _ _ _ us hl => match us, hl with | [_], _ => rfl
  have F4 := fund_mk (st := s_NoText_init) l4 c4 k4
  have bb4 : Binds K _ ["self", "words", "row"] [] := FunD.binds (ds := []) 3 rfl F4 t4 fun _ _ _ _ _ _ us hl => match us, hl with | [_, _, _], _ => ⟨_, rfl, rfl⟩
  have bd4 : Binds K _ ["self", "words", "row"] [.int 0 tk4_0] := FunD.binds 2 rfl F4 t4 fun _ _ _ _ _ _ us hl => match us, hl with | [_, _], _ => ⟨_, rfl, rfl⟩
  have kb4 : KBinds K _ ["self", "words", "row"] ["row"] (gAB 2 1) (gAB 2 1) := FunD.kbinds 2 1 (by decide) F4 t4 (fun _ _ _ _ _ _ us ws h1 h2 => match us, h1, ws, h2 with | [_, _], _, [_], _ => ⟨_, rfl, rfl⟩)
  have F5 := fun_mk (st := s_time_of) l5 c5 k5
  have bb5 := F5.binds (ps := ["text"]) fun _ _ _ _ _ _ us hl => match us, hl with | [_], _ => rfl
  have F6 := fun_mk (st := s_is_lamp) l6 c6 k6
  have bb6 := F6.binds (ps := ["thing"]) fun _ _ _ _ _ _ us hl => match us, hl with | [_], _ => rfl
  have F7 := fun_mk (st := s_is_side) l7 c7 k7
  have bb7 := F7.binds (ps := ["thing"]) fun _ _ _ _ _ _ us hl => match us, hl with | [_], _ => rfl
  have F8 := fun_mk (st := s_whole_of) l8 c8 k8
  have bb8 := F8.binds (ps := ["word", "most"]) fun _ _ _ _ _ _ us hl => match us, hl with | [_, _], _ => rfl
  have F9 := fun_mk (st := s_ticks_of) l9 c9 k9
  have bb9 := F9.binds (ps := ["word"]) fun _ _ _ _ _ _ us hl => match us, hl with | [_], _ => rfl
  have F10 := fun_mk (st := s_thing_of) l10 c10 k10
  have bb10 := F10.binds (ps := ["kind", "word"]) fun _ _ _ _ _ _ us hl => match us, hl with | [_, _], _ => rfl
  have F11 := fun_mk (st := s_things_by) l11 c11 k11
  have bb11 := F11.binds (ps := ["form", "words"]) fun _ _ _ _ _ _ us hl => match us, hl with | [_, _], _ => rfl
  have F12 := fun_mk (st := s_row_of) l12 c12 k12
  have bb12 := F12.binds (ps := ["row"]) fun _ _ _ _ _ _ us hl => match us, hl with | [_], _ => rfl
  have F13 := fun_mk (st := s_PartDraft_init) l13 c13 k13
  have bb13 := F13.binds (ps := ["self", "rise", "fall", "wait"]) fun _ _ _ _ _ _ us hl => match us, hl with | [_, _, _, _], _ => rfl
  have F14 := fun_mk (st := s_CueDraft_init) l14 c14 k14
  have bb14 := F14.binds (ps := ["self", "number", "stops", "follow"]) fun _ _ _ _ _ _ us hl => match us, hl with | [_, _, _, _], _ => rfl
  have F15 := fun_mk (st := s_lacks_part) l15 c15 k15
  have bb15 := F15.binds (ps := ["drafts"]) fun _ _ _ _ _ _ us hl => match us, hl with | [_], _ => rfl
  have F16 := fun_mk (st := s_follow_of) l16 c16 k16
  have bb16 := F16.binds (ps := ["words"]) fun _ _ _ _ _ _ us hl => match us, hl with | [_], _ => rfl
  have F17 := fun_mk (st := s_take_cue) l17 c17 k17
  have bb17 := F17.binds (ps := ["drafts", "words"]) fun _ _ _ _ _ _ us hl => match us, hl with | [_, _], _ => rfl
  have F18 := fun_mk (st := s_take_part) l18 c18 k18
  have bb18 := F18.binds (ps := ["draft", "words"]) fun _ _ _ _ _ _ us hl => match us, hl with | [_, _], _ => rfl
  have F19 := fun_mk (st := s_take_telling) l19 c19 k19
  have bb19 := F19.binds (ps := ["draft", "words"]) fun _ _ _ _ _ _ us hl => match us, hl with | [_, _], _ => rfl
  have F20 := fun_mk (st := s_take_row) l20 c20 k20
  have bb20 := F20.binds (ps := ["drafts", "words"]) fun _ _ _ _ _ _ us hl => match us, hl with | [_, _], _ => rfl
  have F21 := fun_mk (st := s_read) l21 c21 k21
  have bb21 := F21.binds (ps := ["text"]) fun _ _ _ _ _ _ us hl => match us, hl with | [_], _ => rfl
  have F22 := fun_mk (st := s_Heard_init) l22 c22 k22
  have bb22 := F22.binds (ps := ["self", "row"]) fun _ _ _ _ _ _ us hl => match us, hl with | [_, _], _ => rfl
  have F23 := fun_mk (st := s_tick_and_hand) l23 c23 k23
  have bb23 := F23.binds (ps := ["heard"]) fun _ _ _ _ _ _ us hl => match us, hl with | [_], _ => rfl
  have F24 := fun_mk (st := s_in_order) l24 c24 k24
  have bb24 := F24.binds (ps := ["some"]) fun _ _ _ _ _ _ us hl => match us, hl with | [_], _ => rfl
  have F25 := fund_mk (st := s_Desk_init) l25 c25 k25
  have bb25 : Binds K _ ["self", "text"] [] := FunD.binds (ds := []) 2 rfl F25 t25 fun _ _ _ _ _ _ us hl => match us, hl with | [_, _], _ => ⟨_, rfl, rfl⟩
  have bd25 : Binds K _ ["self", "text"] [.str (Str.ofString "") tk25_0] := FunD.binds 1 rfl F25 t25 fun _ _ _ _ _ _ us hl => match us, hl with | [_], _ => ⟨_, rfl, rfl⟩
  have kb25 : KBinds K _ ["self", "text"] ["text"] (gAB 1 1) (gAB 1 1) := FunD.kbinds 1 1 (by decide) F25 t25 (fun _ _ _ _ _ _ us ws h1 h2 => match us, h1, ws, h2 with | [_], _, [_], _ => ⟨_, rfl, rfl⟩)
  have F26 := fun_mk (st := s_Desk_hear) l26 c26 k26
  have bb26 := F26.binds (ps := ["self", "row"]) fun _ _ _ _ _ _ us hl => match us, hl with | [_, _], _ => rfl
  have F27 := fun_mk (st := s_Desk_rows) l27 c27 k27
  have bb27 := F27.binds (ps := ["self"]) fun _ _ _ _ _ _ us hl => match us, hl with | [_], _ => rfl
  have F28 := fun_mk (st := s_law_cell_at) l28 c28 k28
  have bb28 := F28.binds (ps := ["_law_script", "_law_k"]) fun _ _ _ _ _ _ us hl => match us, hl with | [_, _], _ => rfl
  have F29 := fun_mk (st := s_law_number) l29 c29 k29
  have bb29 := F29.binds (ps := ["_law_cell", "_law_k"]) fun _ _ _ _ _ _ us hl => match us, hl with | [_, _], _ => rfl
  have F30 := fun_mk (st := s_law_names) l30 c30 k30
  have bb30 := F30.binds (ps := ["_law_cell"]) fun _ _ _ _ _ _ us hl => match us, hl with | [_], _ => rfl
  have F31 := fun_mk (st := s_law_before) l31 c31 k31
  have bb31 := F31.binds (ps := ["_law_one", "_law_other"]) fun _ _ _ _ _ _ us hl => match us, hl with | [_, _], _ => rfl
  have F32 := fun_mk (st := s_law_put) l32 c32 k32
  have bb32 := F32.binds (ps := ["_law_rows", "_law_row"]) fun _ _ _ _ _ _ us hl => match us, hl with | [_, _], _ => rfl
  have F33 := fun_mk (st := s_law_same) l33 c33 k33
  have bb33 := F33.binds (ps := ["_law_found", "_law_rows"]) fun _ _ _ _ _ _ us hl => match us, hl with | [_, _], _ => rfl
  have F34 := fun_mk (st := s_law_caught) l34 c34 k34
  have bb34 := F34.binds (ps := ["_law_desk", "_law_row"]) fun _ _ _ _ _ _ us hl => match us, hl with | [_, _], _ => rfl
  have F35 := fun_mk (st := s_law_refused) l35 c35 k35
  have bb35 := F35.binds (ps := ["_law_desk", "_law_row", "_law_late"]) fun _ _ _ _ _ _ us hl => match us, hl with | [_, _, _], _ => rfl
  have F36 := fun_mk (st := s_law_text) l36 c36 k36
  have bb36 := F36.binds (ps := ["_law_hand", "_law_tick", "_law_number_here"]) fun _ _ _ _ _ _ us hl => match us, hl with | [_, _, _], _ => rfl
  have F37 := fun_mk (st := s_law_told) l37 c37 k37
  have bb37 := F37.binds (ps := ["_law_desk", "_law_rows", "_law_lasts", "_law_hand", "_law_number_here"]) fun _ _ _ _ _ _ us hl => match us, hl with | [_, _, _, _, _], _ => rfl
  have F38 := fun_mk (st := s_law_begun) l38 c38 k38
  have bb38 := F38.binds (ps := ["_law_cell"]) fun _ _ _ _ _ _ us hl => match us, hl with | [_], _ => rfl
  have F39 := fun_mk (st := s_law) l39 c39 k39
  have bb39 := F39.binds (ps := ["_law_script"]) fun _ _ _ _ _ _ us hl => match us, hl with | [_], _ => rfl
  have T : Txt K mg ⟨f0, _, f1, _, f2, _, f3, _, f4, _, T4, [.int 0 tk4_0], f5, _, f6, _, f7, _, f8, _, f9, _, f10, _, f11, _, f12, _, f13, _, f14, _, f15, _, f16, _, f17, _, f18, _, f19, _, f20, _, f21, _, f22, _, f23, _, f24, _, f25, _, T25, [.str (Str.ofString "") tk25_0], f26, _, f27, _, f28, _, f29, _, f30, _, f31, _, f32, _, f33, _, f34, _, f35, _, f36, _, f37, _, f38, _, fa, _, C_PartDraft, C_CueDraft, C_Desk, C_Heard, C_LampError, C_NoText, C_NoCue, C_NoName, C_Late, C_NoRow, S_SIDES, S_DEEDS, ()⟩ := ⟨F0, bb0, PySem.W.mg_of X G a0, F1, bb1, PySem.W.mg_of X G a1, F2, bb2, PySem.W.mg_of X G a2, F3, bb3, PySem.W.mg_of X G a3, F4, bb4, bd4, (.cons ⟨_, rfl⟩ (.nil)), kb4, ⟨⟨_, _, _, _, _, _, _, _, _, _, _, _, _, _, _, lx_NoText⟩, x_LampError, ⟨_, _, _, _, _, _, _, _, _, _, _, _, _, _, _, lx_LampError⟩, a4, beq_iff_eq.mp i4, kp_NoText, sa_NoText, hd_NoText, ⟨xc0_NoText, xc1_NoText, ic_of xc3_NoText, xc2_NoText, xg_get, xg_set, xc3_NoText, xc4_NoText⟩⟩, ⟨u0_LampError, u1_LampError, u2_LampError⟩, hd_NoText, nr_NoText_row, F5, bb5, PySem.W.mg_of X G a5, F6, bb6, PySem.W.mg_of X G a6, F7, bb7, PySem.W.mg_of X G a7, F8, bb8, PySem.W.mg_of X G a8, F9, bb9, PySem.W.mg_of X G a9, F10, bb10, PySem.W.mg_of X G a10, F11, bb11, PySem.W.mg_of X G a11, F12, bb12, PySem.W.mg_of X G a12, F13, bb13, ⟨mk_PartDraft, a13, i13, kc_PartDraft⟩, F14, bb14, ⟨mk_CueDraft, a14, i14, kc_CueDraft⟩, F15, bb15, PySem.W.mg_of X G a15, F16, bb16, PySem.W.mg_of X G a16, F17, bb17, PySem.W.mg_of X G a17, F18, bb18, PySem.W.mg_of X G a18, F19, bb19, PySem.W.mg_of X G a19, F20, bb20, PySem.W.mg_of X G a20, F21, bb21, PySem.W.mg_of X G a21, F22, bb22, ⟨mk_Heard, a22, i22, kc_Heard⟩, F23, bb23, PySem.W.mg_of X G a23, F24, bb24, PySem.W.mg_of X G a24, F25, bb25, bd25, (.cons ⟨_, rfl⟩ (.nil)), kb25, ⟨mk_Desk, a25, i25, kc_Desk⟩, F26, bb26, ⟨a26, i26, k26⟩, F27, bb27, ⟨a27, i27, k27⟩, F28, bb28, PySem.W.mg_of X G a28, F29, bb29, PySem.W.mg_of X G a29, F30, bb30, PySem.W.mg_of X G a30, F31, bb31, PySem.W.mg_of X G a31, F32, bb32, PySem.W.mg_of X G a32, F33, bb33, PySem.W.mg_of X G a33, F34, bb34, PySem.W.mg_of X G a34, F35, bb35, PySem.W.mg_of X G a35, F36, bb36, PySem.W.mg_of X G a36, F37, bb37, PySem.W.mg_of X G a37, F38, bb38, PySem.W.mg_of X G a38, F39, bb39, PySem.W.mg_of X G a39, ⟨pg_PartDraft, hd_PartDraft, po_PartDraft, sa_PartDraft⟩, PySem.W.mg_of X G aC_PartDraft, na_PartDraft_tells, na_PartDraft_alone, na_PartDraft_rise, na_PartDraft_fall, na_PartDraft_wait, ⟨pg_CueDraft, hd_CueDraft, po_CueDraft, sa_CueDraft⟩, PySem.W.mg_of X G aC_CueDraft, na_CueDraft_number, na_CueDraft_parts, na_CueDraft_stops, na_CueDraft_follow, ⟨pg_Desk, hd_Desk, po_Desk, sa_Desk⟩, PySem.W.mg_of X G aC_Desk, na_Desk_cues, na_Desk_heard, na_Desk_ticks, ⟨pg_Heard, hd_Heard, po_Heard, sa_Heard⟩, PySem.W.mg_of X G aC_Heard, na_Heard_row, na_Heard_hand, na_Heard_tick, na_Heard_word, na_Heard_things, PySem.W.mg_of X G aC_LampError, PySem.W.mg_of X G aC_NoText, PySem.W.mg_of X G aC_NoCue, PySem.W.mg_of X G aC_NoName, PySem.W.mg_of X G aC_Late, PySem.W.mg_of X G aC_NoRow, ⟨xc0_NoText, xc1_NoText, ic_of xc3_NoText, xc2_NoText, xg_get, xg_set, xc3_NoText, xc4_NoText⟩, xm_NoText, xv_NoText, xe_NoText_NoText, xk_NoText_LampError, xk_NoText_NoText, xk_NoText_NoCue, xk_NoText_NoName, xk_NoText_Late, xk_NoText_NoRow, x_NoRow, ⟨xc0_NoRow, xc1_NoRow, ic_of xc3_NoRow, xc2_NoRow, xg_get, xg_set, xc3_NoRow, xc4_NoRow⟩, xm_NoRow, xv_NoRow, xe_NoRow_NoText, xk_NoRow_LampError, xk_NoRow_NoText, xk_NoRow_NoCue, xk_NoRow_NoName, xk_NoRow_Late, xk_NoRow_NoRow, x_Late, ⟨xc0_Late, xc1_Late, ic_of xc3_Late, xc2_Late, xg_get, xg_set, xc3_Late, xc4_Late⟩, xm_Late, xv_Late, xe_Late_NoText, xk_Late_LampError, xk_Late_NoText, xk_Late_NoCue, xk_Late_NoName, xk_Late_Late, xk_Late_NoRow, PySem.W.mg_none_of X G z_isinstance, PySem.W.mg_none_of X G z_int, PySem.W.mg_none_of X G z_bool, PySem.W.mg_none_of X G z_str, PySem.W.mg_none_of X G z_tuple, PySem.W.mg_none_of X G z_list, PySem.W.mg_none_of X G z_len, PySem.W.mg_none_of X G z_all, PySem.W.mg_none_of X G z_range, PySem.W.mg_none_of X G z_enumerate, PySem.W.mg_none_of X G z_zip, PySem.W.mg_none_of X G z_sorted, PySem.W.mg_none_of X G z_max, PySem.W.mg_none_of X G z_ValueError, ⟨_, PySem.W.mg_of X G gc_MOST_TICKS⟩, ⟨_, PySem.W.mg_of X G gc_TICKS_A_SECOND⟩, ⟨_, PySem.W.mg_of X G gc_PLACES⟩, ⟨_, PySem.W.mg_of X G gc_MOST_FIGURES⟩, ⟨_, PySem.W.mg_of X G gc_FIGURES⟩, ⟨_, PySem.W.mg_of X G gc_LETTERS⟩, ⟨_, PySem.W.mg_of X G gc_MOST_LETTERS⟩, ⟨_, PySem.W.mg_of X G gc_MOST_WORTH⟩, ⟨_, PySem.W.mg_of X G gc_MOST_NUMBER⟩, ⟨_, PySem.W.mg_of X G gc_MOST_PARTS⟩, ⟨_, PySem.W.mg_of X G gc_MOST_LEVEL⟩, ⟨_, PySem.W.mg_of X G gc_MOST_TICK⟩, PySem.W.mg_of X G gs_SIDES, sqt_of ls_SIDES (by show 6 ≤ 1000; decide) (.cons ⟨_, rfl⟩ (.cons ⟨_, rfl⟩ (.cons ⟨_, rfl⟩ (.cons ⟨_, rfl⟩ (.cons ⟨_, rfl⟩ (.cons ⟨_, rfl⟩ (.nil))))))), PySem.W.mg_of X G gs_DEEDS, sqt_of ls_DEEDS (by show 18 ≤ 1000; decide) (.cons ⟨_, rfl⟩ (.cons ⟨_, rfl⟩ (.cons ⟨_, rfl⟩ (.cons ⟨_, rfl⟩ (.cons ⟨_, rfl⟩ (.cons ⟨_, rfl⟩ (.cons ⟨_, rfl⟩ (.cons ⟨_, rfl⟩ (.cons ⟨_, rfl⟩ (.cons ⟨_, rfl⟩ (.cons ⟨_, rfl⟩ (.cons ⟨_, rfl⟩ (.cons ⟨_, rfl⟩ (.cons ⟨_, rfl⟩ (.cons ⟨_, rfl⟩ (.cons ⟨_, rfl⟩ (.cons ⟨_, rfl⟩ (.cons ⟨_, rfl⟩ (.nil)))))))))))))))))))⟩
  refine ⟨_, fun s v => ?_, fun base _ _ => ok_law T⟩
  exact .of_eq rfl
theorem walk {l : PySem.W.OpenLaw} {q : Program} {loose : List Str} {XP : (Str → Option Value) → Heap → Prop} {YP : World → Heap → Prop} {d : DefRec} {K : Params → PySem.W.Frag} (hn : l.most = some 63) (hdf : d.params.defaults = [])
    (hY : ∀ (w : World) (h : Heap), YP w h → (K w.params).In h)
    (F : ∀ (w : World) (mg : Str → Option Value) (fa : Addr) (h : Heap), (K w.params).In h → h.Ns mainGlobals mg → mg d.name = some (.ref fa) →
      ∃ fd : FuncData, (∀ (s : Shared) (u : Value), BindsTo s fd ⟨[u], []⟩ [("_law_script", u)]) ∧ ∀ base : Heap, (K w.params).In base → base.Ns mainGlobals mg → FnOk l.prog w (K w.params) mg base (CXE l.prog w) 15 fa fd ["_law_script"] (spLaw (K w.params))) :
    PySem.W.WalkO q loose XP YP l.row.toRowW d [] (fun f vs => PySem.call f vs) :=
  L2.walk_of (n := 63) (k := 15) (x := "_law_script") (CX := fun w => CXE l.prog w) (sp := fun w => spLaw (K w.params)) hn (by decide) hdf ⟨rfl, by decide, by decide⟩ hY F (fun _ _ a ns hl _ hS => ⟨a, ns, rfl, hS, hl, fun _ => rfl⟩) fun _ _ _ _ _ ⟨_, _, _, _, _, _, _, _, _, _, _, _, _, _, _, z⟩ => z
end My
namespace PySem.W.Fast
abbrev tw90343872475197607 : Type := PySem.Params
theorem te90343872475197607 : PySem.Params = tw90343872475197607 := rfl
end PySem.W.Fast
open PySem PySem.W PyProof.Rows
set_option maxRecDepth 100000 in
set_option maxHeartbeats 0 in
theorem PySem.Challenge.cw_lampcues_k92_rows_in_order_holds : PySem.Challenge.rw_lampcues_k92_rows_in_order.Holds := by
  w_on; o_law; k_head; (case hw => w_witness2)
  k_fill
  refine My.walk (l := PySem.Challenge.rw_lampcues_k92_rows_in_order) rfl rfl (fun w h Y => PySem.W.kIn_of Y) ?F
  case F =>
    intro w mg fa h KX G hmg
    refine' My.all_mk KX G hmg ?aC_LampError ?aC_NoText ?aC_NoCue ?aC_NoName ?aC_Late ?aC_NoRow ?aC_PartDraft ?aC_CueDraft ?aC_Desk ?aC_Heard ?a0 ?l0 ?c0 ?k0 ?a1 ?l1 ?c1 ?k1 ?a2 ?l2 ?c2 ?k2 ?a3 ?l3 ?c3 ?k3 ?a4 ?i4 ?l4 ?c4 ?k4 ?t4 ?a5 ?l5 ?c5 ?k5 ?a6 ?l6 ?c6 ?k6 ?a7 ?l7 ?c7 ?k7 ?a8 ?l8 ?c8 ?k8 ?a9 ?l9 ?c9 ?k9 ?a10 ?l10 ?c10 ?k10 ?a11 ?l11 ?c11 ?k11 ?a12 ?l12 ?c12 ?k12 ?a13 ?i13 ?l13 ?c13 ?k13 ?a14 ?i14 ?l14 ?c14 ?k14 ?a15 ?l15 ?c15 ?k15 ?a16 ?l16 ?c16 ?k16 ?a17 ?l17 ?c17 ?k17 ?a18 ?l18 ?c18 ?k18 ?a19 ?l19 ?c19 ?k19 ?a20 ?l20 ?c20 ?k20 ?a21 ?l21 ?c21 ?k21 ?a22 ?i22 ?l22 ?c22 ?k22 ?a23 ?l23 ?c23 ?k23 ?a24 ?l24 ?c24 ?k24 ?a25 ?i25 ?l25 ?c25 ?k25 ?t25 ?a26 ?i26 ?l26 ?c26 ?k26 ?a27 ?i27 ?l27 ?c27 ?k27 ?a28 ?l28 ?c28 ?k28 ?a29 ?l29 ?c29 ?k29 ?a30 ?l30 ?c30 ?k30 ?a31 ?l31 ?c31 ?k31 ?a32 ?l32 ?c32 ?k32 ?a33 ?l33 ?c33 ?k33 ?a34 ?l34 ?c34 ?k34 ?a35 ?l35 ?c35 ?k35 ?a36 ?l36 ?c36 ?k36 ?a37 ?l37 ?c37 ?k37 ?a38 ?l38 ?c38 ?k38 ?a39 ?l39 ?c39 ?k39 ?pg_PartDraft ?hd_PartDraft ?po_PartDraft ?sa_PartDraft ?mk_PartDraft ?kc_PartDraft ?na_PartDraft_tells ?na_PartDraft_alone ?na_PartDraft_rise ?na_PartDraft_fall ?na_PartDraft_wait ?pg_CueDraft ?hd_CueDraft ?po_CueDraft ?sa_CueDraft ?mk_CueDraft ?kc_CueDraft ?na_CueDraft_number ?na_CueDraft_parts ?na_CueDraft_stops ?na_CueDraft_follow ?pg_Desk ?hd_Desk ?po_Desk ?sa_Desk ?mk_Desk ?kc_Desk ?na_Desk_cues ?na_Desk_heard ?na_Desk_ticks ?pg_Heard ?hd_Heard ?po_Heard ?sa_Heard ?mk_Heard ?kc_Heard ?na_Heard_row ?na_Heard_hand ?na_Heard_tick ?na_Heard_word ?na_Heard_things ?xc0_NoText ?xc1_NoText ?xc2_NoText ?xc3_NoText ?xc4_NoText ?xm_NoText ?xv_NoText ?xe_NoText_NoText ?xk_NoText_LampError ?xk_NoText_NoText ?xk_NoText_NoCue ?xk_NoText_NoName ?xk_NoText_Late ?xk_NoText_NoRow ?x_NoRow ?xc0_NoRow ?xc1_NoRow ?xc2_NoRow ?xc3_NoRow ?xc4_NoRow ?xm_NoRow ?xv_NoRow ?xe_NoRow_NoText ?xk_NoRow_LampError ?xk_NoRow_NoText ?xk_NoRow_NoCue ?xk_NoRow_NoName ?xk_NoRow_Late ?xk_NoRow_NoRow ?x_Late ?xc0_Late ?xc1_Late ?xc2_Late ?xc3_Late ?xc4_Late ?xm_Late ?xv_Late ?xe_Late_NoText ?xk_Late_LampError ?xk_Late_NoText ?xk_Late_NoCue ?xk_Late_NoName ?xk_Late_Late ?xk_Late_NoRow ?x_LampError ?lx_NoText ?lx_LampError ?kp_NoText ?sa_NoText ?hd_NoText ?nr_NoText_row ?u0_LampError ?u1_LampError ?u2_LampError ?xg_get ?xg_set ?z_isinstance ?z_int ?z_bool ?z_str ?z_tuple ?z_list ?z_len ?z_all ?z_range ?z_enumerate ?z_zip ?z_sorted ?z_max ?z_ValueError ?gc_MOST_TICKS ?gc_TICKS_A_SECOND ?gc_PLACES ?gc_MOST_FIGURES ?gc_FIGURES ?gc_LETTERS ?gc_MOST_LETTERS ?gc_MOST_WORTH ?gc_MOST_NUMBER ?gc_MOST_PARTS ?gc_MOST_LEVEL ?gc_MOST_TICK ?gs_SIDES ?ls_SIDES ?gs_DEEDS ?ls_DEEDS
    (case aC_LampError => k_is)
    (case aC_NoText => k_is)
    (case aC_NoCue => k_is)
    (case aC_NoName => k_is)
    (case aC_Late => k_is)
    (case aC_NoRow => k_is)
    (case aC_PartDraft => k_is)
    (case aC_CueDraft => k_is)
    (case aC_Desk => k_is)
    (case aC_Heard => k_is)
    (case a0 => k_is)
    (case l0 => k_is)
    (case c0 => k_is)
    (case k0 => k_is)
    (case a1 => k_is)
    (case l1 => k_is)
    (case c1 => k_is)
    (case k1 => k_is)
    (case a2 => k_is)
    (case l2 => k_is)
    (case c2 => k_is)
    (case k2 => k_is)
    (case a3 => k_is)
    (case l3 => k_is)
    (case c3 => k_is)
    (case k3 => k_is)
    (case a4 => k_is)
    (case i4 => k_is)
    (case l4 => k_is)
    (case c4 => k_is)
    (case k4 => k_is)
    (case t4 => k_is)
    (case a5 => k_is)
    (case l5 => k_is)
    (case c5 => k_is)
    (case k5 => k_is)
    (case a6 => k_is)
    (case l6 => k_is)
    (case c6 => k_is)
    (case k6 => k_is)
    (case a7 => k_is)
    (case l7 => k_is)
    (case c7 => k_is)
    (case k7 => k_is)
    (case a8 => k_is)
    (case l8 => k_is)
    (case c8 => k_is)
    (case k8 => k_is)
    (case a9 => k_is)
    (case l9 => k_is)
    (case c9 => k_is)
    (case k9 => k_is)
    (case a10 => k_is)
    (case l10 => k_is)
    (case c10 => k_is)
    (case k10 => k_is)
    (case a11 => k_is)
    (case l11 => k_is)
    (case c11 => k_is)
    (case k11 => k_is)
    (case a12 => k_is)
    (case l12 => k_is)
    (case c12 => k_is)
    (case k12 => k_is)
    (case a13 => k_is)
    (case i13 => k_is)
    (case l13 => k_is)
    (case c13 => k_is)
    (case k13 => k_is)
    (case a14 => k_is)
    (case i14 => k_is)
    (case l14 => k_is)
    (case c14 => k_is)
    (case k14 => k_is)
    (case a15 => k_is)
    (case l15 => k_is)
    (case c15 => k_is)
    (case k15 => k_is)
    (case a16 => k_is)
    (case l16 => k_is)
    (case c16 => k_is)
    (case k16 => k_is)
    (case a17 => k_is)
    (case l17 => k_is)
    (case c17 => k_is)
    (case k17 => k_is)
    (case a18 => k_is)
    (case l18 => k_is)
    (case c18 => k_is)
    (case k18 => k_is)
    (case a19 => k_is)
    (case l19 => k_is)
    (case c19 => k_is)
    (case k19 => k_is)
    (case a20 => k_is)
    (case l20 => k_is)
    (case c20 => k_is)
    (case k20 => k_is)
    (case a21 => k_is)
    (case l21 => k_is)
    (case c21 => k_is)
    (case k21 => k_is)
    (case a22 => k_is)
    (case i22 => k_is)
    (case l22 => k_is)
    (case c22 => k_is)
    (case k22 => k_is)
    (case a23 => k_is)
    (case l23 => k_is)
    (case c23 => k_is)
    (case k23 => k_is)
    (case a24 => k_is)
    (case l24 => k_is)
    (case c24 => k_is)
    (case k24 => k_is)
    (case a25 => k_is)
    (case i25 => k_is)
    (case l25 => k_is)
    (case c25 => k_is)
    (case k25 => k_is)
    (case t25 => k_is)
    (case a26 => k_is)
    (case i26 => k_is)
    (case l26 => k_is)
    (case c26 => k_is)
    (case k26 => k_is)
    (case a27 => k_is)
    (case i27 => k_is)
    (case l27 => k_is)
    (case c27 => k_is)
    (case k27 => k_is)
    (case a28 => k_is)
    (case l28 => k_is)
    (case c28 => k_is)
    (case k28 => k_is)
    (case a29 => k_is)
    (case l29 => k_is)
    (case c29 => k_is)
    (case k29 => k_is)
    (case a30 => k_is)
    (case l30 => k_is)
    (case c30 => k_is)
    (case k30 => k_is)
    (case a31 => k_is)
    (case l31 => k_is)
    (case c31 => k_is)
    (case k31 => k_is)
    (case a32 => k_is)
    (case l32 => k_is)
    (case c32 => k_is)
    (case k32 => k_is)
    (case a33 => k_is)
    (case l33 => k_is)
    (case c33 => k_is)
    (case k33 => k_is)
    (case a34 => k_is)
    (case l34 => k_is)
    (case c34 => k_is)
    (case k34 => k_is)
    (case a35 => k_is)
    (case l35 => k_is)
    (case c35 => k_is)
    (case k35 => k_is)
    (case a36 => k_is)
    (case l36 => k_is)
    (case c36 => k_is)
    (case k36 => k_is)
    (case a37 => k_is)
    (case l37 => k_is)
    (case c37 => k_is)
    (case k37 => k_is)
    (case a38 => k_is)
    (case l38 => k_is)
    (case c38 => k_is)
    (case k38 => k_is)
    (case a39 => k_is)
    (case l39 => k_is)
    (case c39 => k_is)
    (case k39 => k_is)
    (case pg_PartDraft => k_is)
    (case hd_PartDraft => k_is)
    (case po_PartDraft => k_is)
    (case sa_PartDraft => k_is)
    (case mk_PartDraft => k_is)
    (case kc_PartDraft => k_is)
    (case na_PartDraft_tells => k_is)
    (case na_PartDraft_alone => k_is)
    (case na_PartDraft_rise => k_is)
    (case na_PartDraft_fall => k_is)
    (case na_PartDraft_wait => k_is)
    (case pg_CueDraft => k_is)
    (case hd_CueDraft => k_is)
    (case po_CueDraft => k_is)
    (case sa_CueDraft => k_is)
    (case mk_CueDraft => k_is)
    (case kc_CueDraft => k_is)
    (case na_CueDraft_number => k_is)
    (case na_CueDraft_parts => k_is)
    (case na_CueDraft_stops => k_is)
    (case na_CueDraft_follow => k_is)
    (case pg_Desk => k_is)
    (case hd_Desk => k_is)
    (case po_Desk => k_is)
    (case sa_Desk => k_is)
    (case mk_Desk => k_is)
    (case kc_Desk => k_is)
    (case na_Desk_cues => k_is)
    (case na_Desk_heard => k_is)
    (case na_Desk_ticks => k_is)
    (case pg_Heard => k_is)
    (case hd_Heard => k_is)
    (case po_Heard => k_is)
    (case sa_Heard => k_is)
    (case mk_Heard => k_is)
    (case kc_Heard => k_is)
    (case na_Heard_row => k_is)
    (case na_Heard_hand => k_is)
    (case na_Heard_tick => k_is)
    (case na_Heard_word => k_is)
    (case na_Heard_things => k_is)
    (case xc0_NoText => k_is)
    (case xc1_NoText => k_is)
    (case xc2_NoText => k_is)
    (case xc3_NoText => k_is)
    (case xc4_NoText => k_is)
    (case xm_NoText => kts_exm)
    (case xv_NoText => kit_is)
    (case xe_NoText_NoText => kts_exm)
    (case xk_NoText_LampError => kit_is)
    (case xk_NoText_NoText => kit_is)
    (case xk_NoText_NoCue => kit_is)
    (case xk_NoText_NoName => kit_is)
    (case xk_NoText_Late => kit_is)
    (case xk_NoText_NoRow => kit_is)
    (case x_NoRow => k_exc)
    (case xc0_NoRow => k_is)
    (case xc1_NoRow => k_is)
    (case xc2_NoRow => k_is)
    (case xc3_NoRow => k_is)
    (case xc4_NoRow => k_is)
    (case xm_NoRow => kts_exm)
    (case xv_NoRow => kit_is)
    (case xe_NoRow_NoText => kts_exm)
    (case xk_NoRow_LampError => kit_is)
    (case xk_NoRow_NoText => kit_is)
    (case xk_NoRow_NoCue => kit_is)
    (case xk_NoRow_NoName => kit_is)
    (case xk_NoRow_Late => kit_is)
    (case xk_NoRow_NoRow => kit_is)
    (case x_Late => k_exc)
    (case xc0_Late => k_is)
    (case xc1_Late => k_is)
    (case xc2_Late => k_is)
    (case xc3_Late => k_is)
    (case xc4_Late => k_is)
    (case xm_Late => kts_exm)
    (case xv_Late => kit_is)
    (case xe_Late_NoText => kts_exm)
    (case xk_Late_LampError => kit_is)
    (case xk_Late_NoText => kit_is)
    (case xk_Late_NoCue => kit_is)
    (case xk_Late_NoName => kit_is)
    (case xk_Late_Late => kit_is)
    (case xk_Late_NoRow => kit_is)
    (case x_LampError => k_exc)
    (case lx_NoText => k_is)
    (case lx_LampError => k_is)
    (case kp_NoText => k_is)
    (case sa_NoText => k_is)
    (case hd_NoText => k_is)
    (case nr_NoText_row => k_is)
    (case u0_LampError => k_is)
    (case u1_LampError => k_is)
    (case u2_LampError => k_is)
    (case xg_get => k_is)
    (case xg_set => k_is)
    (case z_isinstance => k_is)
    (case z_int => k_is)
    (case z_bool => k_is)
    (case z_str => k_is)
    (case z_tuple => k_is)
    (case z_list => k_is)
    (case z_len => k_is)
    (case z_all => k_is)
    (case z_range => k_is)
    (case z_enumerate => k_is)
    (case z_zip => k_is)
    (case z_sorted => k_is)
    (case z_max => k_is)
    (case z_ValueError => k_is)
    (case gc_MOST_TICKS => k_is)
    (case gc_TICKS_A_SECOND => k_is)
    (case gc_PLACES => k_is)
    (case gc_MOST_FIGURES => k_is)
    (case gc_FIGURES => k_is)
    (case gc_LETTERS => k_is)
    (case gc_MOST_LETTERS => k_is)
    (case gc_MOST_WORTH => k_is)
    (case gc_MOST_NUMBER => k_is)
    (case gc_MOST_PARTS => k_is)
    (case gc_MOST_LEVEL => k_is)
    (case gc_MOST_TICK => k_is)
    (case gs_SIDES => k_is)
    (case ls_SIDES => k_is)
    (case gs_DEEDS => k_is)
    (case ls_DEEDS => k_is)
