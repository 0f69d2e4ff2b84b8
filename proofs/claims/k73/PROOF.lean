import PyProof.Rows.All
import Wide.All
import OpenK.AllK
import Wide.FinOn
import Lean
import PyProof.EqAt
import PyProof.EqKinds
import PyProof.TupleCall
import PySem.SetTable
import PyProof.SetKind
import PyProof.SetNew
import PyProof.SetRoads
import PyProof.TupleKey
import PyProof.IsRules
import PyProof.Rows.SetFrom
import PyProof.CollectWalk
import PyProof.CollectIter
import KE.KSortTup
import PyProof.DictWalks
import PyProof.DictItems
import KE.KDictOf
import KE.KMinKey
import PyProof.Rows.CallKwBuiltin
import PyProof.Rows.Range3
import PyProof.ZipIter
import KE.KEqSeq
import PyProof.NeKinds
import KE.KRevIter
import PyProof.Rows.SortStr
import PyProof.Rows.SortWalk
import PyProof.EnumFor
import PyProof.EnumMake
import PyProof.AutoListH
import PyProof.Rows.StrSplitAre
import PyProof.Rows.StrJoin2
import PyProof.Rows.StrNews
import PyProof.StrCalls
import PyProof.StrLawsTight
import PyProof.Rows.StrItems
import KE.KDictList
import KE.KDictSum
import PyProof.DictFindH
import PyProof.DictKinds
import KE.KItemsList
import PySem.Challenge.RW_lampcues_k73_one_slot
set_option Elab.async false
set_option linter.all false
set_option maxRecDepth 100000
set_option maxHeartbeats 4000000
open PySem.W (Frag InitBack InstAt any_some bind_fn binds_K callWith_K callWith_K0 cellsFrom_some codeIn codeRec_of emptyDict eq_bytes findIn findObj_own fnOf get_value handedIn hasDictIn hideAll hideAll_get hideAll_none hideAll_size instObj isFn kdl_call kdu_collect keepIn ki_setAt ki_setBack kia_one kitOne kitx_bool kitx_dict kitx_float kitx_int kitx_list kitx_none kitx_own kitx_str kitx_tuple lookIn looks_clsIn looks_findIn make_core makesIn makes_of methodCall_KW methodObj method_fn mg_none_of mg_of mroIn ne_bytes nsIn of_hideAll osa_open plainGet plainGet_of plainOver set_plain specialIn takerIn takesIn typeIn)
namespace L2
open PySem PySem.Spec PyProof.Rows
abbrev Key:=Sum Int Str
def ys2:Key -> Value -> Bool
 | .inl k,v=>Value.isInt k v
 | .inr x,v=>Value.isStrOf x v
def keyH (w:World):Key -> Int
 | .inl k=>hashInt k
 | .inr x=>hashStr w x
theorem xe0:∀ {k:Key} {v:Value},ys2 k v = true -> (∃ i t,k = Sum.inl i /\ v = Value.int i t) \/ (∃ x t,k = Sum.inr x /\ v = Value.str x t)
 | .inl i,v,h=>by
  obtain ⟨t,e⟩:=Value.isInt_shape (k:=i) (v:=v) h
  exact .inl ⟨i,t,rfl,e⟩
 | .inr x,v,h=>by
  obtain ⟨t,e⟩:=Value.isStrOf_shape (x:=x) (v:=v) h
  exact .inr ⟨x,t,rfl,e⟩
theorem zi1 (i:Int) (t:Tok):ys2 (.inl i) (.int i t) = true:=by simp [ys2,Value.isInt]
theorem zi0 (x:Str) (t:Tok):ys2 (.inr x) (.str x t) = true:=by simp [ys2,Value.isStrOf]
theorem key_ll (a b:Int):decide ((Sum.inl a:Key) = Sum.inl b) = (a == b):=by
 by_cases e:a = b
 ·subst e; simp
 ·have h:¬ (Sum.inl a:Key) = Sum.inl b:=fun q=>e (Sum.inl.inj q)
  rw [decide_eq_false h]
  exact (beq_eq_false_iff_ne.mpr e).symm
theorem key_rr (a b:Str):decide ((Sum.inr a:Key) = Sum.inr b) = decide (a = b):=by
 by_cases e:a = b
 ·subst e; simp
 ·have h:¬ (Sum.inr a:Key) = Sum.inr b:=fun q=>e (Sum.inr.inj q)
  rw [decide_eq_false h,decide_eq_false e]
theorem key_lr (a:Int) (b:Str):decide ((Sum.inl a:Key) = Sum.inr b) = false:=decide_eq_false (fun q=>nomatch q)
theorem key_rl (a:Str) (b:Int):decide ((Sum.inr a:Key) = Sum.inl b) = false:=decide_eq_false (fun q=>nomatch q)
def xc5 (prog:Program) (w:World):PySem.KeyKind prog w Key where
 is:=ys2
 hash:=keyH w
 inj:=fun v a b ha hb=>by
  rcases xe0 ha with ⟨i,t,rfl,rfl⟩ | ⟨x,t,rfl,rfl⟩
  ·rcases xe0 hb with ⟨j,u,rfl,e⟩ | ⟨y,u,rfl,e⟩
   ·injection e with e1 _; rw [e1]
   ·exact nomatch e
  ·rcases xe0 hb with ⟨j,u,rfl,e⟩ | ⟨y,u,rfl,e⟩
   ·exact nomatch e
   ·injection e with e1 _; rw [e1]
 byValue:=fun k v h=>by
  rcases xe0 h with ⟨i,t,rfl,rfl⟩ | ⟨x,t,rfl,rfl⟩ <;> rfl
 pyHash:=fun hv h=>by
  rcases xe0 hv with ⟨i,t,rfl,rfl⟩ | ⟨x,t,rfl,rfl⟩
  ·exact wpAny_pyHash_int h
  ·exact wpAny_pyHash_str h
 eqBool:=fun hu hv h=>by
  rcases xe0 hu with ⟨i,t,rfl,rfl⟩ | ⟨x,t,rfl,rfl⟩
  ·rcases xe0 hv with ⟨j,u,rfl,rfl⟩ | ⟨y,u,rfl,rfl⟩
   ·rw [key_ll] at h; exact wpAny_eqBool_int h
   ·rw [key_lr] at h; exact SeqAt.EqAt.int_str i t y u _ _ _ _ h
  ·rcases xe0 hv with ⟨j,u,rfl,rfl⟩ | ⟨y,u,rfl,rfl⟩
   ·rw [key_rl] at h; exact SeqAt.EqAt.str_int x t j u _ _ _ _ h
   ·rw [key_rr] at h; exact wpAny_eqBool_str h
 «strs»:=fun k x t v h=>by
  rcases xe0 h with ⟨i,u,rfl,e⟩ | ⟨y,u,rfl,e⟩
  ·exact nomatch e
  ·injection e with e1 _
   subst e1
   cases v <;> rfl
theorem yr9 (prog:Program) (w:World) (i:Int) (t:Tok):(xc5 prog w).is (.inl i) (.int i t) = true:=zi1 i t
theorem yr8 (prog:Program) (w:World) (x:Str) (t:Tok):(xc5 prog w).is (.inr x) (.str x t) = true:=zi0 x t
inductive V where
 | non | bl (b:Bool) | int (i:Int) | str (x:Str) | byt (b:Array UInt8) | flt (b:UInt64) | ref (a:Addr) | ty (n:String)
 deriving DecidableEq
def RelV:V -> Value -> Prop
 | .non,u=>u = Value.none
 | .bl b,u=>u = Value.bool b
 | .int i,u=>∃ t,u = Value.int i t
 | .str x,u=>∃ t,u = Value.str x t
 | .byt b,u=>∃ t,u = Value.bytes b t
 | .flt b,u=>∃ t,u = Value.float b t
 | .ref a,u=>u = Value.ref a
 | .ty n,u=>u = Value.type n
abbrev Vals:List V -> List Value -> Prop:=Paired RelV
theorem Vals.length {xs:List V} {us:List Value} (r:Vals xs us):xs.length = us.length:=Paired.length r
theorem Vals.get:∀ {xs:List V} {us:List Value} {i:Nat} {x:V},Vals xs us -> xs[i]? = some x -> ∃ u,us[i]? = some u /\ RelV x u
 | _,_,_,_,.nil,e=>by simp at e
 | _,_,0,_,.cons r _,e=>by simp at e; subst e; exact ⟨_,rfl,r⟩
 | _,_,i + 1,x,.cons _ t,e=>by
  obtain ⟨u,h1,h2⟩:=Vals.get (i:=i) (x:=x) t (by simpa using e)
  exact ⟨u,by simpa using h1,h2⟩
theorem Vals.set {x:V} {u:Value} (r:RelV x u):∀ {xs:List V} {us:List Value} (i:Nat),Vals xs us -> Vals (xs.set i x) (us.set i u)
 | _,_,_,.nil=>.nil
 | _,_,0,.cons _ t=>.cons r t
 | _,_,i + 1,.cons q t=>.cons q (Vals.set r i t)
theorem Vals.append:∀ {xs ys:List V} {us ws:List Value},Vals xs us -> Vals ys ws -> Vals (xs ++ ys) (us ++ ws)
 | _,_,_,_,.nil,s=>s
 | _,_,_,_,.cons r t,s=>.cons r (Vals.append t s)
theorem Vals.take:∀ {xs:List V} {us:List Value} (n:Nat),Vals xs us -> Vals (xs.take n) (us.take n)
 | _,_,0,_=>.nil
 | _,_,_ + 1,.nil=>.nil
 | _,_,n + 1,.cons r t=>.cons r (Vals.take n t)
theorem Vals.drop:∀ {xs:List V} {us:List Value} (n:Nat),Vals xs us -> Vals (xs.drop n) (us.drop n)
 | _,_,0,r=>r
 | _,_,_ + 1,.nil=>.nil
 | _,_,n + 1,.cons _ t=>Vals.drop n t
def RelO:Option V -> Option Value -> Prop
 | some v,some u=>RelV v u
 | none,none=>True
 | _,_=>False
def KV {κ:Type}:List (κ × V) -> List (κ × Value) -> Prop:=Paired fun (p:κ × V) (q:κ × Value)=>p.1 = q.1 /\ RelV p.2 q.2
def kV:Key -> V
 | .inl i=>.int i
 | .inr x=>.str x
inductive HO where
 | lst (xs:List V)
 | tup (xs:List V)
 | dK (kvs:List (Key × V)) | dT (kvs:List (List Key × V))
 | set (S:Int -> Bool) (n:Nat)
 | ins (C dx:Addr) (fs:List (Str × V))
 | own (x:Addr)
 | xd (fs:List (Str × V))
 | met (f x:Addr)
 | rng (lo hi:Int)
 | frz (o:Obj) (u:HO)
 | tbl (ps:Array Value)
 | ext (φ:Heap -> Prop)
abbrev Hp:=Addr -> Option HO
def upd (H:Hp) (a:Addr) (o:HO):Hp:=fun b=>if b = a then some o else H b
theorem xa0 {H:Hp} {a:Addr} {o:HO}:upd H a o a = some o:=by unfold upd; rw [if_pos rfl]
theorem xa2 {H:Hp} {a b:Addr} {o:HO} (h:b ≠ a):upd H a o b = H b:=by unfold upd; rw [if_neg h]
theorem xb9 {H:Hp} {a b:Addr} {o u:HO} (h:H a = some o) (h':H b = some u) (d:o ≠ u):a ≠ b:=by
 intro e; subst e; rw [h] at h'; exact d (Option.some.inj h')
theorem xa3 {H:Hp} {a b:Addr} {o:HO} (h:H a = some o) (h':H b = none):a ≠ b:=by
 intro e; subst e; rw [h] at h'; cases h'
section
variable (P:Program) (w:World)
def xe7 (H:Hp) (h:Heap) (a:Addr):HO -> Prop
 | .lst xs=>xs.length <= sizeLine /\ ∃ (its:List Value) (n:Nat),Vals xs its /\ h.get? a = some { cls:=.type "list",data:=.seq its.toArray n }
 | .tup xs=>xs.length <= sizeLine /\ ∃ its:List Value,Vals xs its /\ IsTup h a its.toArray
 | .dK kvs=>kvs.length <= sizeLine /\ (a == sysModules) = false /\ ∃ vs,KV kvs vs /\ h.DictOf (xc5 P w) a vs
 | .dT kvs=>kvs.length <= sizeLine /\ (a == sysModules) = false /\ ∃ xs:List (List Key × Addr × Value),
   Paired (fun (p:List Key × V) (q:List Key × Addr × Value)=>p.1 = q.1 /\ H q.2.1 = some (.tup (p.1.map kV)) /\ RelV p.2 q.2.2) kvs xs /\
   ∃ o es ep,h.get? a = some o /\ o.ExactDict /\ o.data = .dict es ep /\ es.toList = xs.map (entryOfKey (tupleKind (xc5 P w))) /\ (xs.map (·.1)).Nodup
 | .set S n=>h.SetOf (intKind P w) a S n
 | .ins C dx fs=>H dx = some (.own a) /\ fs.length <= 1000 /\ dx ≠ a /\ h.get? a = some (instObj C dx) /\
   ∃ mA,h.Ns1 dx mA /\ (∀ f,RelO (fs.lookup f) (mA f)) /\ PySem.Within mA (fs.map (·.1))
 | .own _=>∃ o,h.get? a = some o
 | .xd fs=>∃ mA,h.Ns1 a mA /\ ∀ f,RelO (fs.lookup f) (mA f)
 | .rng lo hi=>∃ t u v,h.get? a = some { cls:=.type "range",data:=.fields #[.int lo t,.int hi u,.int 1 v] }
 | .frz o u=>h.get? a = some o /\ xe7 H h a u
 | .tbl ps=>h.get? a = some { cls:=.none,data:=.fields ps }
 | .met f x=>h.get? a = some (methodObj (.ref f) (.ref x))
 | .ext φ=>φ h /\ (∃ o,h.get? a = some o) /\ ∀ h1 h2:Heap,φ h1 -> (∀ o,h1.get? a = some o -> h2.get? a = some o) -> φ h2
def HOk (H:Hp) (h:Heap):Prop:=∀ a o,H a = some o -> xe7 P w H h a o
end
section
variable {P:Program} {w:World} {H H':Hp} {h h':Heap} {a:Addr} {o:HO}
theorem xe7.lt (x:xe7 P w H h a o):a < h.objs.size:=by
 cases o with
 | lst xs=>obtain ⟨_,_,_,_,e⟩:=x; exact Heap.lt_size e
 | tup xs=>obtain ⟨_,_,_,p⟩:=x; exact p.lt
 | dK kvs=>obtain ⟨_,_,_,_,o,_,_,e,_⟩:=x; exact Heap.lt_size e
 | dT kvs=>obtain ⟨_,_,_,_,o,_,_,e,_⟩:=x; exact Heap.lt_size e
 | set S n=>obtain ⟨o,_,_,_,e,_⟩:=x; exact Heap.lt_size e
 | ins C dx fs=>obtain ⟨_,_,_,e,_⟩:=x; exact Heap.lt_size e
 | own y=>obtain ⟨_,e⟩:=x; exact Heap.lt_size e
 | xd fs=>obtain ⟨_,⟨_,_,_,e,_⟩,_⟩:=x; exact Heap.lt_size e
 | rng lo hi=>obtain ⟨_,_,_,e⟩:=x; exact Heap.lt_size e
 | frz ob u=>obtain ⟨e,_⟩:=x; exact Heap.lt_size e
 | tbl ps=>exact Heap.lt_size (show h.get? a = some _ from x)
 | met f y=>exact Heap.lt_size (show h.get? a = some _ from x)
 | ext φ=>obtain ⟨_,⟨_,e⟩,_⟩:=x; exact Heap.lt_size e
theorem Paired.mapP {α β:Type} {F G:α -> β -> Prop}:∀ {l₁:List α} {l₂:List β},Paired F l₁ l₂ -> (∀ a b,F a b -> G a b) -> Paired G l₁ l₂
 | _,_,.nil,_=>.nil
 | _,_,.cons r t,f=>.cons (f _ _ r) (Paired.mapP t f)
theorem xe7.stay (x:xe7 P w H h a o) (k:∀ b u,(b = a \/ H b = some (.own a)) -> h.get? b = some u -> h'.get? b = some u)
  (ho:∀ b,H b = some (.own a) -> H' b = some (.own a)) (ht:∀ b xs,H b = some (.tup xs) -> H' b = some (.tup xs)):xe7 P w H' h' a o:=by
 induction o with
 | lst xs=>obtain ⟨z,its,n,r,e⟩:=x; exact ⟨z,its,n,r,k _ _ (.inl rfl) e⟩
 | tup xs=>obtain ⟨z,its,r,ob,e,c⟩:=x; exact ⟨z,its,r,ob,k _ _ (.inl rfl) e,c⟩
 | dK kvs=>obtain ⟨z,y,vs,r,ob,es,ep,e,c⟩:=x; exact ⟨z,y,vs,r,ob,es,ep,k _ _ (.inl rfl) e,c⟩
 | dT kvs =>
  obtain ⟨z,y,xs,r,ob,es,ep,e,c⟩:=x
  exact ⟨z,y,xs,Paired.mapP r fun p q z=>⟨z.1,ht _ _ z.2.1,z.2.2⟩,ob,es,ep,k _ _ (.inl rfl) e,c⟩
 | set S n=>obtain ⟨ob,es,ep,t,e,c⟩:=x; exact ⟨ob,es,ep,t,k _ _ (.inl rfl) e,c⟩
 | ins C dx fs =>
  obtain ⟨d,z,ne,e,mA,⟨od,es,ep,e2,c⟩,r⟩:=x
  exact ⟨ho _ d,z,ne,k _ _ (.inl rfl) e,mA,⟨od,es,ep,k _ _ (.inr d) e2,c⟩,r⟩
 | own y=>obtain ⟨ob,e⟩:=x; exact ⟨ob,k _ _ (.inl rfl) e⟩
 | xd fs=>obtain ⟨mA,⟨od,es,ep,e,c⟩,r⟩:=x; exact ⟨mA,⟨od,es,ep,k _ _ (.inl rfl) e,c⟩,r⟩
 | rng lo hi=>obtain ⟨t,u,v,e⟩:=x; exact ⟨t,u,v,k _ _ (.inl rfl) e⟩
 | frz ob u ih=>obtain ⟨e,q⟩:=x; exact ⟨k _ _ (.inl rfl) e,ih q⟩
 | tbl ps =>
  have e:h.get? a = some { cls:=.none,data:=.fields ps }:=x
  show h'.get? a = some { cls:=.none,data:=.fields ps }
  exact k a _ (.inl rfl) e
 | met f y =>
  have e:h.get? a = some (methodObj (.ref f) (.ref y)):=x
  show h'.get? a = some (methodObj (.ref f) (.ref y))
  exact k a _ (.inl rfl) e
 | ext φ=>obtain ⟨p,⟨o,e⟩,st⟩:=x; exact ⟨st _ _ p fun o q=>k _ _ (.inl rfl) q,⟨o,k _ _ (.inl rfl) e⟩,st⟩
theorem HOk.lt (x:HOk P w H h) (e:H a = some o):a < h.objs.size:=(x a o e).lt
theorem HOk.fresh (x:HOk P w H h) (e:h.objs.size <= a):H a = none:=by
 cases q:H a with
 | none=>rfl
 | some u=>exact absurd (Nat.lt_of_lt_of_le (x.lt q) e) (Nat.lt_irrefl _)
theorem HOk.kept (x:HOk P w H h) (k:∀ b u,h.get? b = some u -> h'.get? b = some u):HOk P w H h':=fun a o e =>
 (x a o e).stay (fun b u _ q=>k b u q) (fun _ q=>q) fun _ _ q=>q
theorem HOk.laid (x:HOk P w H h) (k:∀ b u,h.get? b = some u -> h'.get? b = some u) (hp:h.objs.size <= a) (new:xe7 P w (upd H a o) h' a o):HOk P w (upd H a o) h':=fun b u e=>by
 have hn:=x.fresh hp
 by_cases hb:b = a
 ·subst hb; rw [xa0] at e; cases e; exact new
 ·rw [xa2 hb] at e
  exact (x b u e).stay (fun c v _ q=>k c v q) (fun c q=>by rw [xa2 (xa3 q hn)]; exact q) fun c xs q=>by rw [xa2 (xa3 q hn)]; exact q
end
def Rd (H:Hp) (a:Addr) (u:HO):Prop:=H a = some u \/ ∃ o,H a = some (.frz o u)
theorem Rd.ok {P:Program} {w:World} {H:Hp} {h:Heap} {a:Addr} {u:HO} (r:Rd H a u) (x:HOk P w H h):xe7 P w H h a u:=by
 rcases r with r | ⟨o,r⟩
 ·exact x a u r
 ·obtain ⟨_,q⟩:=x a _ r
  exact q
def Mut:Option HO -> Prop
 | some (.lst _)=>True
 | some (.dK _)=>True
 | some (.dT _)=>True
 | some (.set _ _)=>True
 | some (.ins _ _ _)=>True
 | some (.ext _)=>True
 | _=>False
section
variable {P:Program} {w:World} {H:Hp} {h h':Heap} {x e:Addr} {o':HO}
theorem HOk.write (ok:HOk P w H h) (mu:Mut (H x)) (he:e = x \/ H e = some (.own x)) (k:∀ b u,b ≠ e -> h.get? b = some u -> h'.get? b = some u) (heo:∃ u,h'.get? e = some u)
  (new:xe7 P w (upd H x o') h' x o'):HOk P w (upd H x o') h':=fun b u q=>by
 have nown:∀ c y,H c = some (.own y) -> c ≠ x:=fun c y r z=>by subst z; rw [r] at mu; exact mu
 have ntup:∀ c xs,H c = some (.tup xs) -> c ≠ x:=fun c xs r z=>by subst z; rw [r] at mu; exact mu
 by_cases hb:b = x
 ·subst hb; rw [xa0] at q; cases q; exact new
 ·rw [xa2 hb] at q
  by_cases hbe:b = e
  ·have q':H b = some (.own x):=by
    rcases he with z | z
    ·exact absurd (hbe.trans z) hb
    ·rw [hbe]; exact z
   rw [q] at q'; cases q'
   obtain ⟨v,hv⟩:=heo
   exact ⟨v,by rw [hbe]; exact hv⟩
  ·refine (ok b u q).stay (fun c v hc r=>k c v ?_ r) (fun c r=>by rw [xa2 (nown c b r)]; exact r) fun c xs r=>by rw [xa2 (ntup c xs r)]; exact r
   rcases hc with rfl | hc
   ·exact hbe
   ·rintro rfl
    rcases he with z | z
    ·exact nown c b hc z
    ·rw [hc] at z; cases z; exact hb rfl
end
structure Un (fs ex:List Addr) (H H':Hp) (h h':Heap):Prop where
 keep:∀ b o,h.get? b = some o -> H b = none -> b ∉ fs -> b ∉ ex -> h'.get? b = some o
 slot:∀ b o,h.get? b = some o -> H b = none -> b ∈ fs -> b ∉ ex -> ∃ sl,h'.get? b = some { o with slots:=sl }
 free:∀ b o,h.get? b = some o -> H b = none -> b ∉ ex -> H' b = none
 there:∀ b o,h.get? b = some o -> b ∉ ex -> ∃ o',h'.get? b = some o'
 tups:∀ b xs,H b = some (.tup xs) -> H' b = some (.tup xs)
 frzs:∀ b o u,H b = some (.frz o u) -> H' b = some (.frz o u)
 tbls:∀ b ps,H b = some (.tbl ps) -> ∃ more,H' b = some (.tbl (ps ++ more))
section
variable {fs fs' ex ex':List Addr} {H H1 H2:Hp} {h h1 h2 h':Heap} {a x e:Addr} {o:HO}
theorem Un.any (u:Un fs ex H H1 h h1) {b:Addr} {ob:Obj} (q:h.get? b = some ob) (n:H b = none) (hx:b ∉ ex):∃ sl,h1.get? b = some { ob with slots:=sl }:=by
 by_cases hb:b ∈ fs
 ·exact u.slot b ob q n hb hx
 ·exact ⟨ob.slots,u.keep b ob q n hb hx⟩
theorem Un.kept (k:∀ b u,h.get? b = some u -> h'.get? b = some u):Un fs ex H H h h' :=
 ⟨fun b ob q _ _ _=>k b ob q,fun b ob q _ _ _=>⟨ob.slots,k b ob q⟩,fun _ _ _ n _=>n,fun b ob q _=>⟨ob,k b ob q⟩,fun _ _ q=>q,fun _ _ _ q=>q,fun _ ps q=>⟨#[],by rw [q]; simp⟩⟩
theorem Un.refl:Un fs ex H H h h:=Un.kept fun _ _ q=>q
theorem Un.laid (k:∀ b u,h.get? b = some u -> h'.get? b = some u) (hp:h.objs.size <= a) (hn:H a = none):Un fs ex H (upd H a o) h h' where
 keep:=fun b u q _ _ _=>k b u q
 slot:=fun b u q _ _ _=>⟨u.slots,k b u q⟩
 free:=fun b u q n _=>by rw [xa2 (Nat.ne_of_lt (Nat.lt_of_lt_of_le (Heap.lt_size q) hp))]; exact n
 there:=fun b u q _=>⟨u,k b u q⟩
 tups:=fun b xs q=>by rw [xa2 (xa3 q hn)]; exact q
 frzs:=fun b u xs q=>by rw [xa2 (xa3 q hn)]; exact q
 tbls:=fun b ps q=>⟨#[],by rw [xa2 (xa3 q hn),q]; simp⟩
theorem Un.write (mu:Mut (H x)) (he:e = x \/ H e = some (.own x)) (k:∀ b u,b ≠ e -> h.get? b = some u -> h'.get? b = some u) (heo:∃ u,h'.get? e = some u):Un fs ex H (upd H x o) h h':=by
 have hx:∀ b,H b = none -> b ≠ x:=fun b n z=>by subst z; rw [n] at mu; exact mu
 have hb:∀ b,H b = none -> b ≠ e:=fun b n z=>by
  subst z
  rcases he with r | r
  ·exact hx b n r
  ·rw [n] at r; cases r
 have hm:∀ b u,H b = some u -> ¬ Mut (some u) -> b ≠ x:=fun b u q nm z=>by subst z; rw [q] at mu; exact nm mu
 refine ⟨fun b u q n _ _=>k b u (hb b n) q,fun b u q n _ _=>⟨u.slots,k b u (hb b n) q⟩,fun b u q n _=>by rw [xa2 (hx b n)]; exact n,fun b u q _=>?_,
  fun b xs q=>by rw [xa2 (hm b _ q fun z=>z)]; exact q,fun b u xs q=>by rw [xa2 (hm b _ q fun z=>z)]; exact q,fun b ps q=>⟨#[],by rw [xa2 (hm b _ q fun z=>z),q]; simp⟩⟩
 by_cases hbe:b = e
 ·subst hbe; exact heo
 ·exact ⟨u,k b u hbe q⟩
end
def trk (h:Heap) (H:Hp):List Addr:=(List.range h.objs.size).filter fun a=>(H a).isSome
def hidT (h:Heap) (H:Hp):Heap:=hideAll h (trk h H)
theorem zj0 (h:Heap) (H:Hp):(hidT h H).objs.size = h.objs.size:=hideAll_size _ _
theorem hidT_get {h:Heap} {H:Hp} {b:Addr} {o:Obj} (e:h.get? b = some o) (n:H b = none):(hidT h H).get? b = some o :=
 hideAll_get _ e fun hm=>by
  have q:(H b).isSome = true:=(List.mem_filter.mp hm).2
  rw [n] at q; simp at q
theorem of_hidT {h:Heap} {H:Hp} {b:Addr} {o:Obj} (e:(hidT h H).get? b = some o):h.get? b = some o /\ H b = none:=by
 have e':h.get? b = some o:=of_hideAll (trk h H) e
 refine ⟨e',?_⟩
 cases q:H b with
 | none=>rfl
 | some x =>
  have hm:b ∈ trk h H:=List.mem_filter.mpr ⟨List.mem_range.mpr (Heap.lt_size e'),by simp [q]⟩
  have z:(hidT h H).get? b = none:=hideAll_none (trk h H) hm
  rw [z] at e; cases e
structure Mod (K:Frag) (mg:Str -> Option Value) (base:Heap):Prop where
 kin:K.In base
 glob:base.Ns mainGlobals mg
 blt:∃ mb,base.Ns builtinsNs mb /\ ∀ x:Str,x ≠ "__name__" -> mb x = bootBuiltins x
 nolimit:base.NoLimit
structure Cx where
 prog:Program
 w:World
 K:Frag
 mg:Str -> Option Value
 base:Heap
 A:Around
 N:List Str
 s₀:Shared
 H₀:Hp
 env:Env
 outer:List Env
 stack:List Env
 ex:List Addr
 fn:Str -> Bool
 calm:Bool
 pn:List (Addr × Obj)
 xe:Value -> Shared -> Prop
def frs (l:List Env):List Addr:=l.filterMap (·.frame)
abbrev Cx.fs (X:Cx):List Addr:=frs X.outer
def Vis (sc:Scope) (x:Str):Prop:=sc.names.lookup x = some .local \/ sc.names.lookup x = some .cell \/ sc.names.lookup x = some .free
def Loc (sc:Scope) (x:Str):Prop:=sc.names.lookup x = some .local \/ sc.names.lookup x = some .cell
def Look (env:Env) (h:Heap) (m:Str -> Option Value) (x:Str) (u:Value):Prop :=
 (env.kindOf x = some .local /\ m x = some u) \/ ((env.kindOf x = some .cell \/ env.kindOf x = some .free) /\ ∃ c,env.cells.lookup x = some c /\ h.IsCell c (some u))
structure Cx.Ok (X:Cx):Prop where
 mod:Mod X.K X.mg X.base
 kind:X.env.scope.kind = .function
 glob:X.env.globals = mainGlobals
 blt:X.env.builtins = builtinsNs
 above:X.s₀.heap.objs.size <= X.env.locals
 inj:∀ x y c,X.env.cells.lookup x = some c -> X.env.cells.lookup y = some c -> x = y
 has:∀ x,(X.env.kindOf x = some .cell \/ X.env.kindOf x = some .free) -> ∃ c,X.env.cells.lookup x = some c
 cab:∀ x c,X.fn x = true -> X.env.cells.lookup x = some c -> X.s₀.heap.objs.size <= c
 hd:X.calm = true -> X.A.handled = none
 frames:X.A.frames = some X.stack
 stk:X.stack = X.outer \/ (X.stack = X.env :: X.outer /\ X.env.frame = some X.env.locals)
 exf:∀ b ∈ X.ex,b ≠ X.env.locals /\ ∀ x c,X.env.cells.lookup x = some c -> c ≠ b
 bs:∀ b o,X.base.get? b = some o -> X.s₀.heap.get? b = some o /\ X.H₀ b = none
 bsz:X.base.objs.size <= X.s₀.heap.objs.size
 noex:∀ b o,X.base.get? b = some o -> b ∉ X.ex
 exfs:∀ b ∈ X.ex,b ∉ X.fs
 funs:X.s₀.heap.FunFrames X.base X.outer
 frf:∀ b ∈ X.fs,X.H₀ b = none
structure Inv (X:Cx) (pins:List (Addr × Obj)) (σ:List (Option V)) (H:Hp) (s:Shared):Prop where
 ok:X.Ok
 os:s.os = X.s₀.os
 bare:AllBare s.gens
 base:Un X.fs X.ex X.H₀ H X.s₀.heap s.heap
 loc:∃ m,s.heap.Ns X.env.locals m /\ ∀ (i:Nat) (x:Str) (v:V),X.N[i]? = some x -> σ[i]? = some (some v) -> Vis X.env.scope x -> ∃ u,RelV v u /\ Look X.env s.heap m x u
 cell:∀ x c,X.env.cells.lookup x = some c -> ∃ v,s.heap.IsCell c v
 free:H X.env.locals = none
 freeC:∀ x c,X.env.cells.lookup x = some c -> H c = none
 pin:∀ p ∈ X.pn ++ pins,s.heap.get? p.1 = some p.2 /\ H p.1 = none /\ p.1 ≠ X.env.locals /\ p.1 ∉ X.fs /\ ∀ v,p.2.data ≠ .cell v
 hok:HOk X.prog X.w H s.heap
 len:σ.length = X.N.length
section
variable {X:Cx} {pins:List (Addr × Obj)} {σ:List (Option V)} {H H':Hp} {s:Shared} {h':Heap}
theorem Cx.Ok.nofr (ok:X.Ok) {b:Addr} {o:Obj} (e:X.base.get? b = some o):b ∉ X.fs:=fun hb=>by
 have:=(ok.funs.mem hb).1
 rw [e] at this; cases this
theorem Inv.bs (I:Inv X pins σ H s):∀ b o,X.base.get? b = some o -> s.heap.get? b = some o /\ H b = none:=fun b o e =>
 ⟨I.base.keep b o (I.ok.bs b o e).1 (I.ok.bs b o e).2 (I.ok.nofr e) (I.ok.noex b o e),I.base.free b o (I.ok.bs b o e).1 (I.ok.bs b o e).2 (I.ok.noex b o e)⟩
theorem Inv.bk (I:Inv X pins σ H s):∀ b o,X.base.get? b = some o -> s.heap.get? b = some o:=fun b o e=>(I.bs b o e).1
theorem Inv.mod (I:Inv X pins σ H s):Mod X.K X.mg X.base:=I.ok.mod
theorem Inv.kIn (I:Inv X pins σ H s):X.K.In s.heap:=I.ok.mod.kin.keeps I.bk
theorem Inv.lt (I:Inv X pins σ H s):X.env.locals < s.heap.objs.size:=let ⟨_,hn,_⟩:=I.loc; hn.lt
theorem Inv.sz (I:Inv X pins σ H s):X.s₀.heap.objs.size <= s.heap.objs.size:=Nat.le_trans I.ok.above (Nat.le_of_lt I.lt)
theorem Inv.nofs (I:Inv X pins σ H s) {a:Addr} (h:s.heap.objs.size <= a):a ∉ X.fs:=fun hb=>by
 obtain ⟨_,o,ho,_⟩:=I.ok.funs.mem hb
 exact absurd (Nat.lt_of_lt_of_le (Heap.lt_size ho) (Nat.le_trans I.sz h)) (Nat.lt_irrefl _)
theorem Inv.cne (I:Inv X pins σ H s):∀ x c,X.env.cells.lookup x = some c -> c ≠ X.env.locals:=fun x c e z=>by
 obtain ⟨v,o,ho,hd⟩:=I.cell x c e
 obtain ⟨m,⟨o',es,ep,ho',hd',_⟩,_⟩:=I.loc
 rw [z,ho'] at ho; cases ho; rw [hd'] at hd; cases hd
theorem Inv.funs (I:Inv X pins σ H s):s.heap.FunFrames X.base X.outer:=by
 have all:∀ (l:List Env),(∀ b ∈ frs l,b ∈ X.fs) -> X.s₀.heap.FunFrames X.base l -> s.heap.FunFrames X.base l:=by
  intro l
  induction l with
  | nil=>intro _ _; trivial
  | cons env r ih =>
   intro hs hl
   obtain ⟨hk,⟨L,o,hf,hn,ho,hd⟩,hr⟩:=hl
   have hL:L ∈ X.fs:=hs L (by unfold frs; rw [List.filterMap_cons,hf]; exact List.mem_cons_self)
   obtain ⟨sl,e⟩:=I.base.slot L o ho (I.ok.frf L hL) hL fun z=>I.ok.exfs L z hL
   exact ⟨hk,⟨L,_,hf,hn,e,hd⟩,ih (fun b hb=>hs b (by unfold frs; rw [List.filterMap_cons,hf]; exact List.mem_cons_of_mem _ hb)) hr⟩
 exact all X.outer (fun _ hb=>hb) I.ok.funs
theorem Inv.stack (I:Inv X pins σ H s):s.heap.FunFrames X.base X.stack:=by
 rcases I.ok.stk with e | ⟨e,hf⟩
 ·rw [e]; exact I.funs
 ·rw [e]
  obtain ⟨m,hn,_⟩:=I.loc
  refine .cons (by rw [I.ok.kind]; decide) hf hn ?_ I.funs
  exact Heap.get?_none_of_le (Nat.le_trans I.ok.bsz I.ok.above)
theorem Inv.stkSub (I:Inv X pins σ H s):∀ b ∈ frs X.stack,b ∈ X.env.locals :: X.fs:=fun b hb=>by
 rcases I.ok.stk with e | ⟨e,hf⟩
 ·rw [e] at hb; exact List.mem_cons_of_mem _ hb
 ·rw [e] at hb
  unfold frs at hb
  rw [List.filterMap_cons,hf] at hb
  exact hb
theorem Inv.stkFree (I:Inv X pins σ H s):∀ b ∈ frs X.stack,H b = none:=fun b hb=>by
 rcases List.mem_cons.mp (I.stkSub b hb) with e | hb
 ·rw [e]; exact I.free
 ·obtain ⟨_,o,ho,_⟩:=I.ok.funs.mem hb
  exact I.base.free b o ho (I.ok.frf b hb) fun z=>I.ok.exfs b z hb
theorem Inv.step {g':Array GenState} {t':Nat} {d':Drawn} {ch:List Addr} (I:Inv X pins σ H s)
  (hch:∀ b ∈ ch,(b ∈ X.ex \/ X.s₀.heap.objs.size <= b) /\ b ≠ X.env.locals /\ (∀ x c,X.env.cells.lookup x = some c -> c ≠ b) /\ ∀ p ∈ X.pn ++ pins,p.1 ≠ b)
  (keep:∀ b o,b ≠ X.env.locals -> b ∉ X.fs -> b ∉ ch -> s.heap.get? b = some o -> H b = none -> h'.get? b = some o)
  (slot:∀ b o,b ≠ X.env.locals -> b ∈ X.fs -> b ∉ ch -> s.heap.get? b = some o -> H b = none -> ∃ sl,h'.get? b = some { o with slots:=sl }) (free:∀ b o,b ∉ ch -> s.heap.get? b = some o -> H b = none -> H' b = none)
  (there:∀ b o,b ∉ ch -> s.heap.get? b = some o -> ∃ o',h'.get? b = some o')
  (tups:∀ b xs,H b = some (.tup xs) -> H' b = some (.tup xs)) (frzs:∀ b o u,H b = some (.frz o u) -> H' b = some (.frz o u)) (tbls:∀ b ps,H b = some (.tbl ps) -> ∃ more,H' b = some (.tbl (ps ++ more)))
  (ns:∀ m,s.heap.Ns X.env.locals m -> h'.Ns X.env.locals m) (hok:HOk X.prog X.w H' h') (hg:AllBare g') :
  Inv X pins σ H' { s with heap:=h',gens:=g',drawn:=d',toks:=t' }:=by
 have neL:∀ b o,X.s₀.heap.get? b = some o -> b ≠ X.env.locals:=fun b o e=>Nat.ne_of_lt (Nat.lt_of_lt_of_le (Heap.lt_size e) I.ok.above)
 have neC:∀ b o,X.s₀.heap.get? b = some o -> b ∉ X.ex -> b ∉ ch:=fun b o e hx hb=>by
  rcases (hch b hb).1 with z | z
  ·exact hx z
  ·exact absurd (Nat.lt_of_lt_of_le (Heap.lt_size e) z) (Nat.lt_irrefl _)
 have cellK:∀ x c,X.env.cells.lookup x = some c -> ∀ v,s.heap.IsCell c v -> h'.IsCell c v:=fun x c e v ⟨o,ho,hd⟩=>by
  have nch:c ∉ ch:=fun z=>(hch c z).2.2.1 x c e rfl
  by_cases hc:c ∈ X.fs
  ·obtain ⟨sl,q⟩:=slot c o (I.cne x c e) hc nch ho (I.freeC x c e)
   exact ⟨_,q,hd⟩
  ·exact ⟨o,keep c o (I.cne x c e) hc nch ho (I.freeC x c e),hd⟩
 refine ⟨I.ok,I.os,hg,⟨fun b o e n hb hx=>?_,fun b o e n hb hx=>?_,fun b o e n hx=>?_,fun b o e hx=>?_,fun b xs e=>tups b xs (I.base.tups b xs e),fun b o xs e=>frzs b o xs (I.base.frzs b o xs e),fun b ps e=>?_⟩,?_,fun x c e=>?_,?_,fun x c e=>?_,fun p hp=>?_,hok,I.len⟩
 ·exact keep b o (neL b o e) hb (neC b o e hx) (I.base.keep b o e n hb hx) (I.base.free b o e n hx)
 ·obtain ⟨sl,e1⟩:=I.base.slot b o e n hb hx
  obtain ⟨sl',e2⟩:=slot b _ (neL b o e) hb (neC b o e hx) e1 (I.base.free b o e n hx)
  exact ⟨sl',e2⟩
 ·obtain ⟨o',e1⟩:=I.base.there b o e hx
  exact free b o' (neC b o e hx) e1 (I.base.free b o e n hx)
 ·obtain ⟨o',e1⟩:=I.base.there b o e hx
  exact there b o' (neC b o e hx) e1
 ·obtain ⟨m1,e1⟩:=I.base.tbls b ps e
  obtain ⟨m2,e2⟩:=tbls b _ e1
  exact ⟨m1 ++ m2,by rw [e2,Array.append_assoc]⟩
 ·obtain ⟨m,hn,hl⟩:=I.loc
  refine ⟨m,ns m hn,fun i x v e1 e2 e3=>?_⟩
  obtain ⟨u,r,l⟩:=hl i x v e1 e2 e3
  refine ⟨u,r,?_⟩
  rcases l with l | ⟨k,c,e,z⟩
  ·exact .inl l
  ·exact .inr ⟨k,c,e,cellK x c e _ z⟩
 ·obtain ⟨v,z⟩:=I.cell x c e
  exact ⟨v,cellK x c e v z⟩
 ·obtain ⟨m,⟨o,_,_,ho,_⟩,_⟩:=I.loc
  exact free _ o (fun z=>(hch _ z).2.1 rfl) ho I.free
 ·obtain ⟨v,o,ho,hd⟩:=I.cell x c e
  exact free c o (fun z=>(hch c z).2.2.1 x c e rfl) ho (I.freeC x c e)
 ·obtain ⟨e,n,ne,nf,d⟩:=I.pin p hp
  have nch:p.1 ∉ ch:=fun z=>(hch p.1 z).2.2.2 p hp rfl
  exact ⟨keep p.1 p.2 ne nf nch e n,free p.1 p.2 nch e n,ne,nf,d⟩
theorem Inv.un {t':Nat} (I:Inv X pins σ H s) (u:Un X.fs [] H H' s.heap h') (hok:HOk X.prog X.w H' h'):Inv X pins σ H' { s with heap:=h',toks:=t' }:=by
 obtain ⟨m,⟨o,es,ep,ho,r⟩,_⟩:=id I.loc
 obtain ⟨sl,hL⟩:=u.any ho I.free (by simp)
 exact I.step (g':=s.gens) (d':=s.drawn) (ch:=[]) (fun _ z=>nomatch z) (fun b o _ hb _ e n=>u.keep b o e n hb (by simp)) (fun b o _ hb _ e n=>u.slot b o e n hb (by simp)) (fun b o _ e n=>u.free b o e n (by simp)) (fun b o _ e=>u.there b o e (by simp)) u.tups u.frzs u.tbls (fun m' hm=>by
  obtain ⟨o',es',ep',ho',r'⟩:=hm
  rw [ho] at ho'; cases ho'
  exact ⟨_,es',ep',hL,r'⟩) hok I.bare
theorem Inv.call {g':Array GenState} {t':Nat} {d':Drawn} {ch:List Addr} (I:Inv X pins σ H s) (u:Un (frs X.stack) ch H H' s.heap h') (hok:HOk X.prog X.w H' h') (hg:AllBare g')
  (hch:∀ b ∈ ch,(b ∈ X.ex \/ X.s₀.heap.objs.size <= b) /\ b ≠ X.env.locals /\ (∀ x c,X.env.cells.lookup x = some c -> c ≠ b) /\ ∀ p ∈ X.pn ++ pins,p.1 ≠ b) :
  Inv X pins σ H' { s with heap:=h',gens:=g',drawn:=d',toks:=t' }:=by
 obtain ⟨m,⟨o,es,ep,ho,r⟩,_⟩:=id I.loc
 obtain ⟨sl,hL⟩:=u.any ho I.free fun z=>(hch _ z).2.1 rfl
 exact I.step (ch:=ch) hch (fun b o hL hb hc e n=>u.keep b o e n (fun z=>(List.mem_cons.mp (I.stkSub b z)).elim hL hb) hc) (fun b o _ _ hc e n=>u.any e n hc) (fun b o hc e n=>u.free b o e n hc) (fun b o hc e=>u.there b o e hc) u.tups u.frzs u.tbls (fun m' hm=>by
  obtain ⟨o',es',ep',ho',r'⟩:=hm
  rw [ho] at ho'; cases ho'
  exact ⟨_,es',ep',hL,r'⟩) hok hg
theorem Inv.turned {t':Nat} {it:Addr} (I:Inv X pins σ H s) (k:∀ b o,b ≠ it -> s.heap.get? b = some o -> h'.get? b = some o) (hn:H it = none) (hL:it ≠ X.env.locals)
  (h1:it ∈ X.ex \/ X.s₀.heap.objs.size <= it) (h2:∀ x c,X.env.cells.lookup x = some c -> c ≠ it) (h3:∀ p ∈ X.pn ++ pins,p.1 ≠ it):Inv X pins σ H { s with heap:=h',toks:=t' }:=by
 have nit:∀ b u,H b = some u -> b ≠ it:=fun b u e z=>by rw [z,hn] at e; cases e
 refine I.step (g':=s.gens) (d':=s.drawn) (ch:=[it]) (fun b hb=>?_) (fun b o _ _ hc e _=>k b o (fun z=>hc (by simp [z])) e) (fun b o _ _ hc e _=>⟨o.slots,k b o (fun z=>hc (by simp [z])) e⟩) (fun _ _ _ _ n=>n)
  (fun b o hc e=>⟨o,k b o (fun z=>hc (by simp [z])) e⟩) (fun _ _ e=>e) (fun _ _ _ e=>e) (fun b ps e=>⟨#[],by rw [e]; simp⟩) (fun m hm=>?_) (fun b u e=>?_) I.bare
 ·have e:b = it:=by simpa using hb
  subst e
  exact ⟨h1,hL,h2,h3⟩
 ·obtain ⟨o,es,ep,ho,r⟩:=hm
  exact ⟨o,es,ep,k _ o (Ne.symm hL) ho,r⟩
 ·refine (I.hok b u e).stay (fun c v hc q=>k c v ?_ q) (fun _ q=>q) fun _ _ q=>q
  rcases hc with z | z
  ·rw [z]; exact nit b u e
  ·exact nit c _ z
theorem Inv.tok (I:Inv X pins σ H s) (t:Nat):Inv X pins σ H { s with toks:=t }:=I.un (h':=s.heap) (t':=t) Un.refl I.hok
theorem Inv.kept {t':Nat} (I:Inv X pins σ H s) (k:∀ b u,s.heap.get? b = some u -> h'.get? b = some u):Inv X pins σ H { s with heap:=h',toks:=t' }:=I.un (Un.kept k) (I.hok.kept k)
theorem Inv.laid {a:Addr} {o:HO} {t':Nat} (I:Inv X pins σ H s) (k:∀ b u,s.heap.get? b = some u -> h'.get? b = some u) (hp:s.heap.objs.size <= a) (new:xe7 X.prog X.w (upd H a o) h' a o) :
  Inv X pins σ (upd H a o) { s with heap:=h',toks:=t' }:=I.un (Un.laid k hp (I.hok.fresh hp)) (I.hok.laid k hp new)
theorem Inv.write {x e:Addr} {o:HO} {t':Nat} (I:Inv X pins σ H s) (mu:Mut (H x)) (he:e = x \/ H e = some (.own x)) (k:∀ b u,b ≠ e -> s.heap.get? b = some u -> h'.get? b = some u) (heo:∃ u,h'.get? e = some u)
  (new:xe7 X.prog X.w (upd H x o) h' x o):Inv X pins σ (upd H x o) { s with heap:=h',toks:=t' }:=I.un (Un.write mu he k heo) (I.hok.write mu he k heo new)
theorem Inv.pins_of {pins':List (Addr × Obj)} (I:Inv X pins σ H s) (h:∀ p ∈ pins',s.heap.get? p.1 = some p.2 /\ H p.1 = none /\ p.1 ≠ X.env.locals /\ p.1 ∉ X.fs /\ ∀ v,p.2.data ≠ .cell v):Inv X pins' σ H s :=
 ⟨I.ok,I.os,I.bare,I.base,I.loc,I.cell,I.free,I.freeC,fun p hp=>(List.mem_append.mp hp).elim (fun z=>I.pin p (List.mem_append_left _ z)) (h p),I.hok,I.len⟩
theorem yv0 {N:List Str} (hN:N.Nodup) {i j:Nat} {x:Str} (a:N[i]? = some x) (b:N[j]? = some x):i = j:=by
 obtain ⟨h1,e1⟩:=List.getElem?_eq_some_iff.mp a
 obtain ⟨h2,e2⟩:=List.getElem?_eq_some_iff.mp b
 exact (List.getElem_inj hN).mp (e1.trans e2.symm)
theorem yk6 {M:Model} {A:Around} {E:Value -> Shared -> Prop} {i:Nat} {x:Str} {v:V} {u:Value} {Q:Unit -> Shared -> Prop} (I:Inv X pins σ H s) (hN:X.N.Nodup) (hi:X.N[i]? = some x) (hx:Loc X.env.scope x) (r:RelV v u)
  (h:∀ s',Inv X pins (σ.set i (some v)) H s' -> (∃ a,Heap.SameBut a s.heap s'.heap /\ (a = X.env.locals \/ X.env.cells.lookup x = some a)) -> Q () s') (hf:X.fn x = true \/ X.env.scope.names.lookup x = some .local:=by first | exact .inl rfl | exact .inr rfl | assumption):wpAny M A (storeName X.env x u) Q E s:=by
 obtain ⟨m,hn,hl⟩:=id I.loc
 have hcls:(X.env.scope.kind == .class || (X.env.scope.kind == .module && X.env.locals != X.env.globals)) = false:=by rw [I.ok.kind]; rfl
 have hiσ:i < σ.length:=by rw [I.len]; exact (List.getElem?_eq_some_iff.mp hi).1
 have cne:=I.cne
 have tracked:∀ {a:Addr} {h':Heap},(∃ o,s.heap.get? a = some o /\ H a = none) -> Heap.SameBut a s.heap h' -> HOk X.prog X.w H h':=fun {a h'} ha hs b ob e=>by
  obtain ⟨_,_,hfree⟩:=ha
  refine (I.hok b ob e).stay (fun c w' hc q=>(hs.2 c ?_).trans q) (fun _ q=>q) fun _ _ q=>q
  rintro rfl
  rcases hc with rfl | hc
  ·rw [hfree] at e; cases e
  ·rw [hfree] at hc; cases hc
 rcases hx with hk | hk
 ·refine wpAny_storeName_local hk hn (fun h' hn' hs=>?_) hcls
  obtain ⟨oL,_,_,hoL,_⟩:=id hn
  refine h _ ⟨I.ok,I.os,I.bare,⟨fun b o e n hb hx=>?_,fun b o e n hb hx=>?_,I.base.free,fun b o e hx=>?_,I.base.tups,I.base.frzs,I.base.tbls⟩,⟨_,hn',fun j y v' e1 e2 e3=>?_⟩,fun y c e=>?_,I.free,I.freeC,fun p hp=>?_,tracked ⟨oL,hoL,I.free⟩ hs,by simpa using I.len⟩ ⟨_,hs,.inl rfl⟩
  ·exact (hs.2 b (Nat.ne_of_lt (Nat.lt_of_lt_of_le (Heap.lt_size e) I.ok.above))).trans (I.base.keep b o e n hb hx)
  ·obtain ⟨sl,e1⟩:=I.base.slot b o e n hb hx
   exact ⟨sl,(hs.2 b (Nat.ne_of_lt (Nat.lt_of_lt_of_le (Heap.lt_size e) I.ok.above))).trans e1⟩
  ·obtain ⟨o',e1⟩:=I.base.there b o e hx
   exact ⟨o',(hs.2 b (Nat.ne_of_lt (Nat.lt_of_lt_of_le (Heap.lt_size e) I.ok.above))).trans e1⟩
  ·by_cases hj:j = i
   ·subst hj
    rw [hi] at e1; cases e1
    rw [List.getElem?_set_self hiσ] at e2
    cases e2
    exact ⟨u,r,.inl ⟨hk,by simp⟩⟩
   ·rw [List.getElem?_set_ne (Ne.symm hj)] at e2
    obtain ⟨u',r',q⟩:=hl j y v' e1 e2 e3
    refine ⟨u',r',?_⟩
    rcases q with ⟨k,e⟩ | ⟨k,c,e,z⟩
    ·refine .inl ⟨k,?_⟩
     have:y ≠ x:=fun e=>hj (yv0 hN e1 (e ▸ hi))
     simp [this,e]
    ·exact .inr ⟨k,c,e,z.sameBut hs (cne y c e)⟩
  ·obtain ⟨w',z⟩:=I.cell y c e
   exact ⟨w',z.sameBut hs (cne y c e)⟩
  ·obtain ⟨e,n,ne,nf,d⟩:=I.pin p hp
   exact ⟨(hs.2 p.1 ne).trans e,n,ne,nf,d⟩
 ·have hfn:X.fn x = true:=by
   rcases hf with z | z
   ·exact z
   ·rw [z] at hk; cases hk
  obtain ⟨c,hc⟩:=I.ok.has x (.inl hk)
  obtain ⟨w',z⟩:=I.cell x c hc
  refine wpAny_storeName_cell I.ok.kind hk hc z (fun h' hc' hs=>?_)
  obtain ⟨oc,hoc,hocd⟩:=id z
  refine h { s with heap:=h' } ⟨I.ok,I.os,I.bare,⟨fun b o e n hb hx=>?_,fun b o e n hb hx=>?_,I.base.free,fun b o e hx=>?_,I.base.tups,I.base.frzs,I.base.tbls⟩,⟨m,hn.sameBut hs (Ne.symm (cne x c hc)),fun j y v' e1 e2 e3=>?_⟩,fun y c' e=>?_,I.free,I.freeC,fun p hp=>?_,tracked ⟨oc,hoc,I.freeC x c hc⟩ hs,by simpa using I.len⟩ ⟨c,hs,.inr hc⟩
  ·exact (hs.2 b (Nat.ne_of_lt (Nat.lt_of_lt_of_le (Heap.lt_size e) (I.ok.cab x c hfn hc)))).trans (I.base.keep b o e n hb hx)
  ·obtain ⟨sl,e1⟩:=I.base.slot b o e n hb hx
   exact ⟨sl,(hs.2 b (Nat.ne_of_lt (Nat.lt_of_lt_of_le (Heap.lt_size e) (I.ok.cab x c hfn hc)))).trans e1⟩
  ·obtain ⟨o',e1⟩:=I.base.there b o e hx
   exact ⟨o',(hs.2 b (Nat.ne_of_lt (Nat.lt_of_lt_of_le (Heap.lt_size e) (I.ok.cab x c hfn hc)))).trans e1⟩
  ·by_cases hj:j = i
   ·subst hj
    rw [hi] at e1; cases e1
    rw [List.getElem?_set_self hiσ] at e2
    cases e2
    exact ⟨u,r,.inr ⟨.inl hk,c,hc,hc'⟩⟩
   ·rw [List.getElem?_set_ne (Ne.symm hj)] at e2
    obtain ⟨u',r',q⟩:=hl j y v' e1 e2 e3
    refine ⟨u',r',?_⟩
    rcases q with q | ⟨k,c',e,z'⟩
    ·exact .inl q
    ·refine .inr ⟨k,c',e,z'.sameBut hs ?_⟩
     rintro rfl
     exact hj (yv0 hN e1 (I.ok.inj _ _ _ e hc ▸ hi))
  ·by_cases hcc:c' = c
   ·subst hcc; exact ⟨_,hc'⟩
   ·obtain ⟨w2,z2⟩:=I.cell y c' e
    exact ⟨w2,z2.sameBut hs hcc⟩
  ·obtain ⟨e,n,ne,nf,d⟩:=I.pin p hp
   refine ⟨(hs.2 p.1 ?_).trans e,n,ne,nf,d⟩
   intro q
   rw [q,hoc] at e
   have q':oc = p.2:=Option.some.inj e
   exact d w' (by rw [<- q']; exact hocd)
theorem yg0 {M:Model} {A:Around} {E:Value -> Shared -> Prop} {i:Nat} {x:Str} {v:V} {u:Value} {Q:Unit -> Shared -> Prop} (I:Inv X pins σ H s) (hN:X.N.Nodup) (hi:X.N[i]? = some x) (hx:Loc X.env.scope x) (r:RelV v u)
  (h:∀ s',Inv X pins (σ.set i (some v)) H s' -> Q () s') (hf:X.fn x = true \/ X.env.scope.names.lookup x = some .local:=by first | exact .inl rfl | exact .inr rfl | assumption):wpAny M A (storeName X.env x u) Q E s :=
 yk6 I hN hi hx r (fun s' I' _=>h s' I') hf
theorem Inv.call' {s':Shared} {ch:List Addr} (I:Inv X pins σ H s) (ho:s'.os = s.os) (u:Un (frs X.stack) ch H H' s.heap s'.heap) (hok:HOk X.prog X.w H' s'.heap) (hg:AllBare s'.gens)
  (hch:∀ b ∈ ch,(b ∈ X.ex \/ X.s₀.heap.objs.size <= b) /\ b ≠ X.env.locals /\ (∀ x c,X.env.cells.lookup x = some c -> c ≠ b) /\ ∀ p ∈ X.pn ++ pins,p.1 ≠ b):Inv X pins σ H' s':=by
 obtain ⟨h',g',d',t',o'⟩:=s'
 have e:o' = s.os:=ho
 subst e
 exact I.call (g':=g') (t':=t') (d':=d') u hok hg hch
end
abbrev XK:=Value -> Option Addr -> Hp -> Prop
abbrev St:=List (Option V)
abbrev VK:=V -> Hp -> Prop
abbrev TE:=St -> Hp -> VK -> Prop
abbrev TT:=St -> Hp -> (Bool -> Hp -> Prop) -> Prop
abbrev TA:=St -> Hp -> (List V -> Hp -> Prop) -> Prop
structure Ends where
 nx:St -> Hp -> Prop
 rt:VK
 bk:St -> Hp -> Prop:=fun _ _=>False
 ct:St -> Hp -> Prop:=fun _ _=>False
abbrev TS:=Ends -> St -> Hp -> Prop
def EP (X:Cx) (pins:List (Addr × Obj)) (σ:St) (Q:VK) (u:Value) (s':Shared):Prop:=∃ v H',Inv X pins σ H' s' /\ RelV v u /\ Q v H'
def TP (X:Cx) (pins:List (Addr × Obj)) (σ:St) (Q:Bool -> Hp -> Prop) (b:Bool) (s':Shared):Prop:=∃ H',Inv X pins σ H' s' /\ Q b H'
def AP (X:Cx) (pins:List (Addr × Obj)) (σ:St) (Q:List V -> Hp -> Prop) (us:List Value) (s':Shared):Prop:=∃ vs H',Inv X pins σ H' s' /\ Vals vs us /\ Q vs H'
def SP (X:Cx) (pins:List (Addr × Obj)) (D:Ends) (f:Flow) (s':Shared):Prop :=
 match f with
 | .next=>∃ σ' H',Inv X pins σ' H' s' /\ D.nx σ' H'
 | .brk=>∃ σ' H',Inv X pins σ' H' s' /\ D.bk σ' H'
 | .cont=>∃ σ' H',Inv X pins σ' H' s' /\ D.ct σ' H'
 | .ret u=>∃ v σ' H',Inv X pins σ' H' s' /\ RelV v u /\ D.rt v H'
def PE (X:Cx) (e:Expr) (t:TE):Prop :=
 ∀ (pins:List (Addr × Obj)) (s:Shared) (σ:St) (H:Hp) (Q:VK),Inv X pins σ H s -> t σ H Q -> wpAny (model X.prog X.w) X.A (eval e X.env) (EP X pins σ Q) X.xe s
def PT (X:Cx) (e:Expr) (t:TT):Prop :=
 ∀ (pins:List (Addr × Obj)) (s:Shared) (σ:St) (H:Hp) (Q:Bool -> Hp -> Prop),Inv X pins σ H s -> t σ H Q -> wpAny (model X.prog X.w) X.A (isTrue e X.env (eval e X.env)) (TP X pins σ Q) X.xe s
def PW (X:Cx) (e:Expr) (t:TT):Prop :=
 ∀ (whole:Sem Value) (pins:List (Addr × Obj)) (s:Shared) (σ:St) (H:Hp) (Q:Bool -> Hp -> Prop),Inv X pins σ H s -> t σ H Q -> wpAny (model X.prog X.w) X.A (isTrue e X.env whole) (TP X pins σ Q) X.xe s
theorem PW.pt {X:Cx} {e:Expr} {t:TT} (h:PW X e t):PT X e t:=h _
def PA (X:Cx) (es:List Expr) (t:TA):Prop :=
 ∀ (pos:Pos) (pins:List (Addr × Obj)) (s:Shared) (σ:St) (H:Hp) (Q:List V -> Hp -> Prop),Inv X pins σ H s -> t σ H Q -> wpAny (model X.prog X.w) X.A (spliced (backTo pos (starEach es X.env))) (AP X pins σ Q) X.xe s
def PS (X:Cx) (st:Stmt) (t:TS):Prop :=
 ∀ (pins:List (Addr × Obj)) (s:Shared) (σ:St) (H:Hp) (D:Ends),Inv X pins σ H s -> t D σ H -> wpAny (model X.prog X.w) X.A (exec st X.env) (SP X pins D) X.xe s
def PSs (X:Cx) (st:List Stmt) (t:TS):Prop :=
 ∀ (pins:List (Addr × Obj)) (s:Shared) (σ:St) (H:Hp) (D:Ends),Inv X pins σ H s -> t D σ H -> wpAny (model X.prog X.w) X.A (execs st X.env) (SP X pins D) X.xe s
theorem thn {α:Type} {t:Sem α} {Q Q':α -> Shared -> Prop} {M:Model} {A:Around} {E:Value -> Shared -> Prop} {s:Shared} (h:wpAny M A t Q E s) (hQ:∀ a s,Q a s -> Q' a s):wpAny M A t Q' E s:=wpAny_mono h hQ fun _ _ x=>x
section
variable {X:Cx}
def tVar (i:Nat):TE:=fun σ H Q=>∃ v,σ[i]? = some (some v) /\ Q v H
def tC (v:V):TE:=fun _ H Q=>Q v H
theorem pe_var {i:Nat} {x:Str} {pos:Pos} (hN:X.N[i]? = some x) (hv:Vis X.env.scope x) (hd:(x == ("__debug__" : Str)) = false:=by decide) (hcd:(x == ("__classdict__" : Str)) = false:=by decide):PE X (.Name x pos) (tVar i):=by
 intro pins s σ H Q I h
 obtain ⟨v,e,h⟩:=h
 obtain ⟨m,hn,hl⟩:=I.loc
 obtain ⟨u,r,l⟩:=hl i x v hN e hv
 have fin:EP X pins σ Q u s:=⟨v,H,I,r,h⟩
 rcases l with ⟨hk,hm⟩ | ⟨hk,c,hc,hcell⟩
 ·exact wpAny_Name (wpAny_loadName_local I.ok.kind hk hn hm fin) hd
 ·rcases hk with hk | hk
  ·exact wpAny_Name (wpAny_loadName_cell I.ok.kind hk hc hcell fin) hd
  ·exact wpAny_Name (wpAny_loadName_free I.ok.kind hk hc hcell fin hcd) hd
theorem xa8 {i j pos}:PE X (.Constant (.int i) j pos) (tC (.int i)):=fun _ _ _ H _ I h=>wpAny_Constant_int ⟨.int i,H,I.tok _,⟨_,rfl⟩,h⟩
theorem xs2 {b j pos}:PE X (.Constant (.bool b) j pos) (tC (.bl b)):=fun _ _ _ H _ I h=>Constant_bool ⟨.bl b,H,I,rfl,h⟩
theorem yl9 {x j pos}:PE X (.Constant (.str x) j pos) (tC (.str x)):=fun _ _ _ H _ I h=>Calls.Constant_str ⟨.str x,H,I.tok _,⟨_,rfl⟩,h⟩
def Gl (X:Cx) (x:Str):Prop:=X.env.kindOf x = some .globalImplicit
theorem ys0 {E:Value -> Shared -> Prop} {pins:List (Addr × Obj)} {s:Shared} {σ:St} {H:Hp} {x:Str} {u:Value} {pos:Pos} {Q:Value -> Shared -> Prop} (I:Inv X pins σ H s) (hg:Gl X x) (hm:X.mg x = some u) (h:Q u s)
  (hd:(x == ("__debug__" : Str)) = false:=by decide):wpAny (model X.prog X.w) X.A (eval (.Name x pos) X.env) Q E s :=
 Calls.Name_function_global I.ok.kind hg (Calls.loadGlobal_global (by rw [I.ok.glob]; exact I.mod.glob.keeps I.bk) hm h) hd
theorem ya6 {E:Value -> Shared -> Prop} {pins:List (Addr × Obj)} {s:Shared} {σ:St} {H:Hp} {x:Str} {u:Value} {pos:Pos} {Q:Value -> Shared -> Prop} (I:Inv X pins σ H s) (hg:Gl X x) (hm:X.mg x = none) (hv:bootBuiltins x = some u) (h:Q u s)
  (hn:x ≠ "__name__":=by decide) (hd:(x == ("__debug__" : Str)) = false:=by decide):wpAny (model X.prog X.w) X.A (eval (.Name x pos) X.env) Q E s:=by
 obtain ⟨mb,h1,h2⟩:=I.mod.blt
 exact Calls.Name_function_global I.ok.kind hg (Calls.loadGlobal_builtin (by rw [I.ok.glob]; exact I.mod.glob.keeps I.bk) hm (by rw [I.ok.blt]; exact h1.keeps I.bk) ((h2 x hn).trans hv) h) hd
theorem xq7 {x:Str} {v:V} {u:Value} {pos:Pos} (hg:Gl X x) (hm:X.mg x = some u) (r:RelV v u) (hd:(x == ("__debug__" : Str)) = false:=by decide):PE X (.Name x pos) (tC v) :=
 fun _ _ _ H _ I h=>ys0 I hg hm ⟨v,H,I,r,h⟩ hd
theorem pe_bltn {x:Str} {v:V} {u:Value} {pos:Pos} (hg:Gl X x) (hm:X.mg x = none) (hv:bootBuiltins x = some u) (r:RelV v u) (hn:x ≠ "__name__":=by decide) (hd:(x == ("__debug__" : Str)) = false:=by decide):PE X (.Name x pos) (tC v) :=
 fun _ _ _ H _ I h=>ya6 I hg hm hv ⟨v,H,I,r,h⟩ hn hd
variable {a b:Expr} {ta tb:TE} {pos:Pos}
def PC (X:Cx) (op:CmpOp) (a b:Expr) (t:TE):Prop :=
 ∀ (pins:List (Addr × Obj)) (s:Shared) (σ:St) (H:Hp) (Q:VK),Inv X pins σ H s -> t σ H Q ->
  wpAny (model X.prog X.w) X.A (eval a X.env) (fun v s₁=>wpAny (model X.prog X.w) X.A (eval b X.env) (fun u s₂=>wpAny (model X.prog X.w) X.A (compareOp op v u) (EP X pins σ Q) X.xe s₂) X.xe s₁) X.xe s
theorem nobehind (b:Expr) {op:CmpOp} (h:op ≠ .In) (h2:op ≠ .NotIn):behindInMarks op b = false:=by
 have e1:(op == CmpOp.In) = false:=by cases op <;> first | rfl | exact absurd rfl h
 have e2:(op == CmpOp.NotIn) = false:=by cases op <;> first | rfl | exact absurd rfl h2
 cases b <;> simp [behindInMarks,e1,e2]
def tNotN (ta:TE):TE:=fun σ H Q=>ta σ H fun x H1=>Q (.bl (!decide (x = .non))) H1
theorem RelV.none_iff {x:V} {v:Value} (r:RelV x v):(v == Value.none) = decide (x = .non):=by
 cases x with
 | non=>cases r; rfl
 | bl _=>cases r; rfl
 | int _=>obtain ⟨t,rfl⟩:=r; rfl
 | str _=>obtain ⟨t,rfl⟩:=r; rfl
 | byt _=>obtain ⟨t,rfl⟩:=r; rfl
 | flt _=>obtain ⟨t,rfl⟩:=r; rfl
 | ref _=>cases r; rfl
 | ty _=>cases r; rfl
theorem pc_notN {j pos'} (ha:PE X a ta):PC X .IsNot a (.Constant .none j pos') (tNotN ta):=by
 intro pins s σ H Q I h
 refine thn (ha pins s σ H _ I h) fun v s1 ⟨x,H1,I1,r1,q1⟩=>?_
 exact Constant_none (isnot_none_gen ⟨.bl _,H1,I1,by rw [r1.none_iff]; rfl,q1⟩)
def tB (t:TE):TT:=fun σ H Q=>t σ H fun x H1=>∃ c,x = .bl c /\ Q c H1
theorem ye2 {op:CmpOp} {t:TE} (h:PC X op a b t) (h1:behindInMarks op b = false:=by first | exact nobehind _ (by decide) (by decide) | rfl):PT X (.Compare a [op] [b] pos) (tB t):=by
 intro pins s σ H Q I hw
 refine wpAny_isTrue_Compare1 (thn (h pins s σ H _ I hw) fun v s1 h1=>thn h1 fun u s2 h2=>thn h2 fun c s3 ⟨x,H1,I1,r1,q1⟩=>?_) h1
 obtain ⟨d,rfl,q⟩:=q1
 cases r1
 exact wpAny_truthy_bool ⟨H1,I1,q⟩
theorem xf7 {e:Expr} {t:TE} (h:PE X e t) (he:∀ whole,isTrue e X.env whole = (do let v <- whole; standAt e.pos; holding [v] (truthy v)):=by intro _; rfl):PT X e (tB t):=by
 intro pins s σ H Q I hw
 refine isTrue_plain (thn (h pins s σ H _ I hw) fun v s1 ⟨x,H1,I1,r1,q1⟩=>?_) (he _)
 obtain ⟨d,rfl,q⟩:=q1
 cases r1
 exact wpAny_truthy_bool ⟨H1,I1,q⟩
variable {tA tB':TT} {rest:List Expr}
def tAnd (t u:TT):TT:=fun σ H Q=>t σ H fun c H1=>if c = true then u σ H1 Q else Q false H1
def tOr (t u:TT):TT:=fun σ H Q=>t σ H fun c H1=>if c = true then Q true H1 else u σ H1 Q
def tNot (t:TT):TT:=fun σ H Q=>t σ H fun c H1=>Q (!c) H1
theorem yq7 (ha:PT X a tA):PW X (.BoolOp .And [a] pos) tA:=by
 intro wh pins s σ H Q I h
 refine isTrue_and (thn (ha pins s σ H Q I h) fun c s1 e=>?_)
 cases c with
 | true=>exact isTrue_and_nil e
 | false=>exact e
theorem xv5 (ha:PT X a tA):PW X (.BoolOp .Or [a] pos) tA:=by
 intro wh pins s σ H Q I h
 refine isTrue_or (thn (ha pins s σ H Q I h) fun c s1 e=>?_)
 cases c with
 | false=>exact isTrue_or_nil e
 | true=>exact e
theorem ze5 (ha:PT X a tA) (hb:PW X (.BoolOp .And (b :: rest) pos) tB'):PW X (.BoolOp .And (a :: b :: rest) pos) (tAnd tA tB'):=by
 intro wh pins s σ H Q I h
 refine isTrue_and (thn (ha pins s σ H _ I h) fun c s1 ⟨H1,I1,q1⟩=>?_)
 cases c with
 | true=>exact hb wh pins s1 σ H1 Q I1 q1
 | false=>exact ⟨H1,I1,q1⟩
theorem yg5 (ha:PT X a tA) (hb:PW X (.BoolOp .Or (b :: rest) pos) tB'):PW X (.BoolOp .Or (a :: b :: rest) pos) (tOr tA tB'):=by
 intro wh pins s σ H Q I h
 refine isTrue_or (thn (ha pins s σ H _ I h) fun c s1 ⟨H1,I1,q1⟩=>?_)
 cases c with
 | true=>exact ⟨H1,I1,q1⟩
 | false=>exact hb wh pins s1 σ H1 Q I1 q1
theorem xf8 (ha:PT X a tA):PT X (.UnaryOp .Not a pos) (tNot tA):=by
 intro pins s σ H Q I h
 exact isTrue_not (ha pins s σ H (fun c H1=>Q (!c) H1) I h)
def tAndV (ta tb:TE):TE:=fun σ H Q=>ta σ H fun x H1=>∃ c,x = .bl c /\ if c = true then tb σ H1 Q else Q (.bl false) H1
def tOrV (ta tb:TE):TE:=fun σ H Q=>ta σ H fun x H1=>∃ c,x = .bl c /\ if c = true then Q (.bl true) H1 else tb σ H1 Q
def tNotV (ta:TE):TE:=fun σ H Q=>ta σ H fun x H1=>∃ c,x = .bl c /\ Q (.bl (!c)) H1
theorem xq3 {op} {t:TE} (h:PE X a t):PE X (.BoolOp op [a] pos) t:=fun pins s σ H Q I hw=>BoolOp_one (h pins s σ H Q I hw)
theorem xp0 (ha:PE X a ta) (hb:PE X (.BoolOp .And (b :: rest) pos) tb):PE X (.BoolOp .And (a :: b :: rest) pos) (tAndV ta tb):=by
 intro pins s σ H Q I h
 refine BoolOp_and (thn (ha pins s σ H _ I h) fun v s1 ⟨x,H1,I1,r1,q1⟩=>?_)
 obtain ⟨c,rfl,q1⟩:=q1
 cases r1
 refine wpAny_truthy_bool ?_
 cases c with
 | true=>exact hb pins s1 σ H1 Q I1 q1
 | false=>exact ⟨.bl false,H1,I1,rfl,q1⟩
theorem pe_not (ha:PE X a ta):PE X (.UnaryOp .Not a pos) (tNotV ta):=by
 intro pins s σ H Q I h
 refine UnaryOp_ (thn (ha pins s σ H _ I h) fun v s1 ⟨x,H1,I1,r1,q1⟩=>?_)
 obtain ⟨c,rfl,q1⟩:=q1
 cases r1
 exact not_of (wpAny_truthy_bool ⟨.bl (!c),H1,I1,rfl,q1⟩)
end
def SqL (K:Frag) (H:Hp) (a:Addr) (xs:List V):Prop :=
 Rd H a (.lst xs) \/
  ∃ (o:Obj) (its:Array Value) (n:Nat),K.lookup a = some o /\ o.cls = .type "list" /\ o.dict = none /\ o.data = .seq its n /\ its.size <= sizeLine /\ Vals xs its.toList
def SqT (K:Frag) (H:Hp) (a:Addr) (xs:List V):Prop :=
 Rd H a (.tup xs) \/
  ∃ (o:Obj) (its:Array Value) (n:Nat),K.lookup a = some o /\ o.cls = .type "tuple" /\ o.data = .seq its n /\ its.size <= sizeLine /\ Vals xs its.toList
def absV:Value -> Option V
 | .none=>some .non
 | .bool b=>some (.bl b)
 | .int i _=>some (.int i)
 | .str x _=>some (.str x)
 | .bytes b _=>some (.byt b)
 | .float b _=>some (.flt b)
 | .ref a=>some (.ref a)
 | .type n=>some (.ty n)
 | _=>none
theorem RelV.abs {x:V} {u:Value} (r:RelV x u):absV u = some x:=by
 cases x with
 | non=>cases r; rfl
 | bl _=>cases r; rfl
 | int _=>obtain ⟨t,rfl⟩:=r; rfl
 | str _=>obtain ⟨t,rfl⟩:=r; rfl
 | byt _=>obtain ⟨t,rfl⟩:=r; rfl
 | flt _=>obtain ⟨t,rfl⟩:=r; rfl
 | ref _=>cases r; rfl
 | ty _=>cases r; rfl
theorem RelV.inj {x y:V} {u:Value} (r:RelV x u) (q:RelV y u):x = y:=Option.some.inj (r.abs.symm.trans q.abs)
theorem Vals.inj:∀ {xs ys:List V} {us:List Value},Vals xs us -> Vals ys us -> xs = ys
 | _,_,_,.nil,.nil=>rfl
 | _,_,_,.cons r t,.cons r' t'=>by rw [r.inj r',Vals.inj t t']
section
variable {X:Cx} {pins:List (Addr × Obj)} {σ:St} {H:Hp} {s:Shared} {a:Addr} {xs ys:List V}
theorem SqL.of {K:Frag} (h:H a = some (.lst xs)):SqL K H a xs:=.inl (.inl h)
theorem SqT.of {K:Frag} (h:H a = some (.tup xs)):SqT K H a xs:=.inl (.inl h)
theorem Inv.list (I:Inv X pins σ H s) (h:SqL X.K H a xs):∃ its:List Value,Vals xs its /\ PlainL s.heap a its.toArray /\ xs.length <= sizeLine:=by
 rcases h with h | ⟨o,its,n,hk,hc,hd,hs,hz,r⟩
 ·obtain ⟨z,its,n,r,e⟩:=h.ok I.hok
  exact ⟨its,r,⟨_,n,e,rfl,rfl,rfl⟩,z⟩
 ·refine ⟨its.toList,r,⟨o,n,I.kIn a o hk,hc,hd,by simpa using hs⟩,?_⟩
  have e:=r.length
  simp only [Array.length_toList] at e
  omega
theorem Inv.tuple (I:Inv X pins σ H s) (h:SqT X.K H a xs):∃ its:List Value,Vals xs its /\ IsTup s.heap a its.toArray /\ xs.length <= sizeLine:=by
 rcases h with h | ⟨o,its,n,hk,hc,hs,hz,r⟩
 ·obtain ⟨z,its,r,p⟩:=h.ok I.hok
  exact ⟨its,r,p,z⟩
 ·refine ⟨its.toList,r,⟨o,I.kIn a o hk,hc,n,by simpa using hs⟩,?_⟩
  have e:=r.length
  simp only [Array.length_toList] at e
  omega
theorem Inv.list_inj (I:Inv X pins σ H s) (h:SqL X.K H a xs) (h':SqL X.K H a ys):xs = ys:=by
 obtain ⟨its,r,⟨o,n,e,_,_,d⟩,_⟩:=I.list h
 obtain ⟨its',r',⟨o',n',e',_,_,d'⟩,_⟩:=I.list h'
 rw [e] at e'; cases e'
 rw [d] at d'
 injection d' with d1 _
 have:its = its':=by simpa using congrArg Array.toList d1
 subst this
 exact r.inj r'
theorem Inv.tuple_inj (I:Inv X pins σ H s) (h:SqT X.K H a xs) (h':SqT X.K H a ys):xs = ys:=by
 obtain ⟨its,r,⟨o,e,_,n,d⟩,_⟩:=I.tuple h
 obtain ⟨its',r',⟨o',e',_,n',d'⟩,_⟩:=I.tuple h'
 rw [e] at e'; cases e'
 rw [d] at d'
 injection d' with d1 _
 have:its = its':=by simpa using congrArg Array.toList d1
 subst this
 exact r.inj r'
end
abbrev Cx.wish (X:Cx) (E:Value -> Shared -> Prop):Cx:={ X with xe:=E }
abbrev Cx.nox (X:Cx):Cx:=X.wish fun _ _=>False
theorem Cx.Ok.wish {X:Cx} (ok:X.Ok) (E:Value -> Shared -> Prop):(X.wish E).Ok :=
 ⟨ok.mod,ok.kind,ok.glob,ok.blt,ok.above,ok.inj,ok.has,ok.cab,ok.hd,ok.frames,ok.stk,ok.exf,ok.bs,ok.bsz,ok.noex,ok.exfs,ok.funs,ok.frf⟩
theorem Cx.Ok.unwish {X:Cx} {E:Value -> Shared -> Prop} (ok:(X.wish E).Ok):X.Ok :=
 ⟨ok.mod,ok.kind,ok.glob,ok.blt,ok.above,ok.inj,ok.has,ok.cab,ok.hd,ok.frames,ok.stk,ok.exf,ok.bs,ok.bsz,ok.noex,ok.exfs,ok.funs,ok.frf⟩
section
variable {X:Cx} {pins:List (Addr × Obj)} {σ:St} {H:Hp} {s:Shared} {E:Value -> Shared -> Prop}
theorem Inv.wish (I:Inv X pins σ H s) (E:Value -> Shared -> Prop):Inv (X.wish E) pins σ H s:=⟨I.ok.wish E,I.os,I.bare,I.base,I.loc,I.cell,I.free,I.freeC,I.pin,I.hok,I.len⟩
theorem Inv.unwish (I:Inv (X.wish E) pins σ H s):Inv X pins σ H s:=⟨I.ok.unwish,I.os,I.bare,I.base,I.loc,I.cell,I.free,I.freeC,I.pin,I.hok,I.len⟩
theorem SP.unwish {D:Ends} {f:Flow} {s':Shared} (h:SP (X.wish E) pins D f s'):SP X pins D f s':=by
 cases f with
 | next=>obtain ⟨σ',H',I,q⟩:=h; exact ⟨σ',H',I.unwish,q⟩
 | brk=>obtain ⟨σ',H',I,q⟩:=h; exact ⟨σ',H',I.unwish,q⟩
 | cont=>obtain ⟨σ',H',I,q⟩:=h; exact ⟨σ',H',I.unwish,q⟩
 | ret u=>obtain ⟨v,σ',H',I,r,q⟩:=h; exact ⟨v,σ',H',I.unwish,r,q⟩
theorem PSs.nox {st:List Stmt} {t:TS} (h:PSs X.nox st t):PSs X st t:=fun pins s σ H D I hw =>
 wpAny_mono (h pins s σ H D (I.wish _) hw) (fun _ _ q=>q.unwish) fun _ _ z=>False.elim z
end
section
variable {X:Cx} {st:Stmt} {rest:List Stmt} {t u:TS} {e:Expr} {te:TE} {pos:Pos}
def tNext:TS:=fun D σ H=>D.nx σ H
def tSeq (t u:TS):TS:=fun D σ H=>t { D with nx:=u D } σ H
theorem xc7:PSs X [] tNext:=fun _ _ σ H _ I h=>wpAny_execs_nil ⟨σ,H,I,h⟩
theorem xa4 (h1:PS X st t) (h2:PSs X rest u):PSs X (st :: rest) (tSeq t u):=by
 intro pins s σ H D I h
 refine wpAny_execs_cons (thn (h1 pins s σ H { D with nx:=u D } I h) fun f s1 q=>?_)
 cases f with
 | next =>
  obtain ⟨σ',H',I',q⟩:=q
  exact h2 pins s1 σ' H' D I' q
 | ret v=>exact q
 | brk=>exact q
 | cont=>exact q
theorem xa6 (h1:PS X st t):PSs X [st] t:=by
 intro pins s σ H D I h
 refine wpAny_execs_cons (thn (h1 pins s σ H D I h) fun f s1 q=>?_)
 cases f with
 | next=>exact wpAny_execs_nil q
 | ret v=>exact q
 | brk=>exact q
 | cont=>exact q
theorem Inv.quiet {pins:List (Addr × Obj)} {σ:St} {H:Hp} {s:Shared} (I:Inv X pins σ H s):interactive X.env = false:=by simp [interactive,I.ok.kind]
def zd1 (te:TE):TS:=fun D σ H=>te σ H fun _ H1=>D.nx σ H1
theorem xh5 (he:PE X e te) (hs:swapsWith e none pos.line X.env = pure false:=by rfl):PS X (.Expr e pos) (zd1 te):=by
 intro pins s σ H D I h
 exact wpAny_Expr_any (thn (he pins s σ H _ I h) fun v s1 ⟨x,H1,I1,r1,q1⟩=>⟨σ,H1,I1,q1⟩) I.quiet hs
def tRet (te:TE):TS:=fun D σ H=>te σ H D.rt
theorem xc3 (he:PE X e te):PS X (.Return (some e) pos) (tRet te):=by
 intro pins s σ H D I h
 exact wpAny_Return_some (thn (he pins s σ H _ I h) fun v s1 ⟨x,H1,I1,r1,q1⟩=>⟨x,σ,H1,I1,r1,q1⟩)
def tRetN:TS:=fun D _ H=>D.rt .non H
def tIfS (c:TT) (t u:TS):TS:=fun D σ H=>c σ H fun b H1=>if b = true then t D σ H1 else u D σ H1
theorem xh1 {c:Expr} {a b:List Stmt} {tc:TT} (hc:PT X c tc) (ha:PSs X a t) (hb:PSs X b u):PS X (.If c a b pos) (tIfS tc t u):=by
 intro pins s σ H D I h
 refine wpAny_If (thn (hc pins s σ H _ I h) fun d s1 ⟨H1,I1,q1⟩=>?_)
 cases d with
 | true=>exact ha pins s1 σ H1 D I1 q1
 | false=>exact hb pins s1 σ H1 D I1 q1
end
abbrev TG:=V -> St -> Hp -> (St -> Hp -> Prop) -> Prop
abbrev TGs:=List V -> St -> Hp -> (St -> Hp -> Prop) -> Prop
def PG (X:Cx) (target:Expr) (t:TG):Prop :=
 ∀ (pins:List (Addr × Obj)) (s:Shared) (σ:St) (H:Hp) (v:V) (u:Value) (Q:St -> Hp -> Prop),Inv X pins σ H s -> RelV v u -> t v σ H Q ->
  wpAny (model X.prog X.w) X.A (assign target X.env u) (fun _ s'=>∃ σ' H',Inv X pins σ' H' s' /\ Q σ' H') X.xe s
def PGs (X:Cx) (ts:List Expr) (t:TGs):Prop :=
 ∀ (pins:List (Addr × Obj)) (s:Shared) (σ:St) (H:Hp) (vs:List V) (us:List Value) (Q:St -> Hp -> Prop),Inv X pins σ H s -> Vals vs us -> t vs σ H Q ->
  wpAny (model X.prog X.w) X.A (assignInOrder ((assignEach ts X.env).map (·.2)) us) (fun _ s'=>∃ σ' H',Inv X pins σ' H' s' /\ Q σ' H') X.xe s
abbrev TSet:=V -> V -> V -> Hp -> (Hp -> Prop) -> Prop
def PSet (X:Cx) (t:TSet):Prop :=
 ∀ (pins:List (Addr × Obj)) (s:Shared) (σ:St) (H:Hp) (o i v:V) (ov iv u:Value) (Q:Hp -> Prop),Inv X pins σ H s -> RelV o ov -> RelV i iv -> RelV v u -> t o i v H Q ->
  wpAny (model X.prog X.w) X.A (setItem ov iv u) (fun _ s'=>∃ H',Inv X pins σ H' s' /\ Q H') X.xe s
abbrev TIp:=V -> V -> Hp -> VK -> Prop
def PIp (X:Cx) (op:Operator) (t:TIp):Prop :=
 ∀ (pins:List (Addr × Obj)) (s:Shared) (σ:St) (H:Hp) (x y:V) (v u:Value) (Q:VK),Inv X pins σ H s -> RelV x v -> RelV y u -> t x y H Q ->
  wpAny (model X.prog X.w) X.A (inplaceOp op v u) (EP X pins σ Q) X.xe s
section
variable {X:Cx} {pos:Pos}
def za8 (i:Nat):TG:=fun v σ H Q=>Q (σ.set i (some v)) H
theorem xa9 {i:Nat} {x:Str} (hN:X.N.Nodup) (hi:X.N[i]? = some x) (hx:Loc X.env.scope x) (hf:X.fn x = true \/ X.env.scope.names.lookup x = some .local:=by first | exact .inl rfl | exact .inr rfl | assumption):PG X (.Name x pos) (za8 i):=by
 intro pins s σ H v u Q I r h
 exact wpAny_assign_Name (yg0 I hN hi hx r (fun s' I'=>⟨_,H,I',h⟩) hf)
def gNil:TGs:=fun vs σ H Q=>vs = [] /\ Q σ H
def gCons (t:TG) (u:TGs):TGs:=fun vs σ H Q=>∃ v r,vs = v :: r /\ t v σ H fun σ' H'=>u r σ' H' Q
theorem xo8:PGs X [] gNil:=by
 intro pins s σ H vs us Q I r h
 obtain ⟨e,h⟩:=h
 subst e
 cases r
 exact assignInOrder_nil ⟨σ,H,I,h⟩
theorem xe1 {e:Expr} {es:List Expr} {t:TG} {u:TGs} (h1:PG X e t) (h2:PGs X es u)
  (hs:(assignEach (e :: es) X.env).map (·.2) = assign e X.env :: (assignEach es X.env).map (·.2):=by rfl):PGs X (e :: es) (gCons t u):=by
 intro pins s σ H vs us Q I r h
 obtain ⟨v,vr,e1,h⟩:=h
 subst e1
 cases r with
 | cons r rr =>
  rw [hs]
  refine assignInOrder_cons (thn (h1 pins s σ H _ _ _ I r h) fun _ s1 ⟨σ1,H1,I1,q1⟩=>?_)
  exact h2 pins s1 σ1 H1 _ _ Q I1 rr q1
def gTup (K:Frag) (n:Nat) (t:TGs):TG:=fun v σ H Q=>∃ a xs,v = .ref a /\ SqT K H a xs /\ xs.length = n /\ t xs σ H Q
theorem pg_tup {es:List Expr} {k:Nat} {t:TGs} {n:Nat} (hc:X.calm = true) (h:PGs X es t)
  (hn:(assignEach es X.env).length = n:=by rfl) (hst:(assignEach es X.env).findIdx? (·.1) = none:=by rfl):PG X (.Tuple es k pos) (gTup X.K n t):=by
 intro pins s σ H v u Q I r hw
 obtain ⟨a,xs,e1,hq,hl,hw⟩:=hw
 subst e1
 cases r
 obtain ⟨its,rv,ht,hz⟩:=I.tuple hq
 refine assign_Tuple_tuple (I.ok.hd hc) ht (by simp [hn,<- hl,rv.length]) hst fun h' hx=>?_
 have I1:Inv X pins σ H { s with heap:=h' }:=I.kept (t':=s.toks) fun b o e=>hx b o (Nat.ne_of_lt (Heap.lt_size e)) e
 exact h pins _ σ H xs _ Q I1 (by simpa using rv) hw
def gSub (to ti:TE) (t:TSet):TG:=fun v σ H Q=>to σ H fun o H1=>ti σ H1 fun i H2=>t o i v H2 fun H3=>Q σ H3
theorem zf0 {o i:Expr} {to ti:TE} {t:TSet} (ho:PE X o to) (hi:PE X i ti) (hs:PSet X t)
  (ha:∀ v,assign (.Subscript o i pos) X.env v = (do
   let ov <- holding [v] (eval o X.env)
   let iv <- holding [v,ov] (eval i X.env)
   standAt pos
   holding [v,ov,iv] (setItem ov iv v)
   release [v,ov,iv] []):=by intro _; rfl):PG X (.Subscript o i pos) (gSub to ti t):=by
 intro pins s σ H v u Q I r h
 rw [ha]
 refine wpAny_bind (wpAny_holding (thn (ho pins s σ H _ I h) fun ov s1 ⟨x,H1,I1,r1,q1⟩=>?_))
 refine wpAny_bind (wpAny_holding (thn (hi pins s1 σ H1 _ I1 q1) fun iv s2 ⟨y,H2,I2,r2,q2⟩=>?_))
 refine wpAny_bind (wpAny_standAt (wpAny_bind (wpAny_holding (thn (hs pins s2 σ H2 x y v ov iv u _ I2 r1 r2 r q2) fun _ s3 ⟨H3,I3,q3⟩=>?_))))
 exact wpAny_release ⟨σ,H3,I3,q3⟩
def tAsg (te:TE) (g:TG):TS:=fun D σ H=>te σ H fun x H1=>g x σ H1 D.nx
theorem ze7 {tg e:Expr} {te:TE} {g:TG} (he:PE X e te) (hg:PG X tg g) (hs:swapsWithSole [tg] e pos.line X.env = pure false:=by rfl) (hw:swappedStores [tg] e X.env = pure none:=by rfl)
  (h1:(assignEach [tg] X.env).map (·.2) = [assign tg X.env]:=by rfl):PS X (.Assign [tg] e pos) (tAsg te g):=by
 intro pins s σ H D I h
 refine wpAny_Assign_stores (thn (he pins s σ H _ I h) fun v s1 ⟨x,H1,I1,r1,q1⟩=>?_) hs hw
 rw [h1]
 exact thn (hg pins s1 σ H1 x v _ I1 r1 q1) fun _ s2 q=>q
theorem xb6 {i:Nat} {x:Str} {e:Expr} {te:TE} {pos':Pos} (hN:X.N.Nodup) (hi:X.N[i]? = some x) (hx:Loc X.env.scope x) (he:PE X e te) (hs:swapsWith e (some (.Name x pos')) pos.line X.env = pure false:=by rfl) (hf:X.fn x = true \/ X.env.scope.names.lookup x = some .local:=by first | exact .inl rfl | exact .inr rfl | assumption) :
  PS X (.Assign [.Name x pos'] e pos) (tAsg te (za8 i)):=by
 intro pins s σ H D I h
 refine wpAny_Assign_Name (thn (he pins s σ H _ I h) fun v s1 ⟨y,H1,I1,r1,q1⟩=>?_) hs
 exact yg0 I1 hN hi hx r1 (fun s2 I2=>⟨_,H1,I2,q1⟩) hf
def tAug (i:Nat) (te:TE) (ti:TIp):TS:=fun D σ H=>∃ x,σ[i]? = some (some x) /\ te σ H fun y H1=>ti x y H1 fun z H2=>D.nx (σ.set i (some z)) H2
theorem ze6 {i:Nat} {x:Str} {e:Expr} {te:TE} {op:Operator} {ti:TIp} {pos':Pos} (hN:X.N.Nodup) (hi:X.N[i]? = some x) (hx:Loc X.env.scope x) (he:PE X e te) (ho:PIp X op ti) (hf:X.fn x = true \/ X.env.scope.names.lookup x = some .local:=by first | exact .inl rfl | exact .inr rfl | assumption) :
  PS X (.AugAssign (.Name x pos') op e pos) (tAug i te ti):=by
 intro pins s σ H D I h
 obtain ⟨v,e1,h⟩:=h
 obtain ⟨m,hn,hl⟩:=I.loc
 have vis:Vis X.env.scope x:=by rcases hx with k | k; exact .inl k; exact .inr (.inl k)
 obtain ⟨u,r,l⟩:=hl i x v hi e1 vis
 refine wpAny_AugAssign_Name ?_
 have go:wpAny (model X.prog X.w) X.A (eval e X.env) (fun w s₂=>wpAny (model X.prog X.w) X.A (inplaceOp op u w) (fun r s₃=>wpAny (model X.prog X.w) X.A (storeName X.env x r) (fun _=>SP X pins D .next) X.xe s₃) X.xe s₂) X.xe s:=by
  refine thn (he pins s σ H _ I h) fun w s1 ⟨y,H1,I1,r1,q1⟩=>?_
  refine thn (ho pins s1 σ H1 v y u w _ I1 r r1 q1) fun z s2 ⟨zv,H2,I2,r2,q2⟩=>?_
  exact yg0 I2 hN hi hx r2 (fun s3 I3=>⟨_,H2,I3,q2⟩) hf
 rcases l with ⟨hk,hm⟩ | ⟨hk,c,hc,hcell⟩
 ·exact wpAny_loadName_local I.ok.kind hk hn hm go
 ·rcases hk with hk | hk
  ·exact wpAny_loadName_cell I.ok.kind hk hc hcell go
  ·rcases hx with k | k
   ·have:X.env.scope.names.lookup x = some .free:=hk
    rw [k] at this; cases this
   ·have:X.env.scope.names.lookup x = some .free:=hk
    rw [k] at this; cases this
def tAugS (to ti te:TE) (tget:V -> V -> Hp -> VK -> Prop) (tip:TIp) (tset:TSet):TS:=fun D σ H=>to σ H fun o H1=>ti σ H1 fun i H2=>tget o i H2 fun x H3=>te σ H3 fun y H4=>tip x y H4 fun z H5=>tset o i z H5 fun H6=>D.nx σ H6
def PGet (X:Cx) (t:V -> V -> Hp -> VK -> Prop):Prop :=
 ∀ (pins:List (Addr × Obj)) (s:Shared) (σ:St) (H:Hp) (o i:V) (ov iv:Value) (Q:VK),Inv X pins σ H s -> RelV o ov -> RelV i iv -> t o i H Q ->
  wpAny (model X.prog X.w) X.A (getItem ov iv) (EP X pins σ Q) X.xe s
theorem ps_augS {o i e:Expr} {to ti te:TE} {tget:V -> V -> Hp -> VK -> Prop} {tip:TIp} {tset:TSet} {op:Operator} {tpos:Pos} (ho:PE X o to) (hi:PE X i ti) (hg:PGet X tget) (he:PE X e te) (hp:PIp X op tip) (hs:PSet X tset)
  (ha:∀ ov iv new,augStore i ov iv new = (do holding [new,ov,iv] (setItem ov iv new); release [new,ov,iv] []; pure .next):=by intros; rfl):PS X (.AugAssign (.Subscript o i tpos) op e pos) (tAugS to ti te tget tip tset):=by
 intro pins s σ H D I h
 refine wpAny_AugAssign_SubscriptAny (thn (ho pins s σ H _ I h) fun ov s1 ⟨x1,H1,I1,r1,q1⟩=>?_) ha
 refine thn (hi pins s1 σ H1 _ I1 q1) fun iv s2 ⟨x2,H2,I2,r2,q2⟩=>?_
 refine thn (hg pins s2 σ H2 x1 x2 ov iv _ I2 r1 r2 q2) fun old s3 ⟨x3,H3,I3,r3,q3⟩=>?_
 refine thn (he pins s3 σ H3 _ I3 q3) fun v s4 ⟨x4,H4,I4,r4,q4⟩=>?_
 refine thn (hp pins s4 σ H4 x3 x4 old v _ I4 r3 r4 q4) fun new s5 ⟨x5,H5,I5,r5,q5⟩=>?_
 exact thn (hs pins s5 σ H5 x1 x2 x5 ov iv new _ I5 r1 r2 r5 q5) fun _ s6 ⟨H6,I6,q6⟩=>⟨σ,H6,I6,q6⟩
def ipI (f:Int -> Int -> Int):TIp:=fun x y H Q=>∃ i j,x = .int i /\ y = .int j /\ Q (.int (f i j)) H
theorem yv9:PIp X .Add (ipI fun i j=>i + j):=by
 intro pins s σ H x y v u Q I r1 r2 h
 obtain ⟨i,j,e1,e2,q⟩:=h
 subst e1; subst e2
 obtain ⟨t,rfl⟩:=r1
 obtain ⟨t',rfl⟩:=r2
 exact iadd_int ⟨.int _,H,I.tok _,⟨_,rfl⟩,q⟩
end
section
variable {X:Cx} {pos:Pos}
def tWhile (c:TT) (tb:TS):TS:=fun D σ H=>∃ W:Nat -> St -> Hp -> Prop,(∃ m,W m σ H) /\ ∀ m σ H,W m σ H ->
 c σ H fun b H1=>if b = true then ∃ N:St -> Hp -> Prop,(∀ σ' H',N σ' H' -> ∃ m',m' < m /\ W m' σ' H') /\ tb { D with nx:=N,ct:=N,bk:=D.nx } σ H1 else D.nx σ H1
theorem ps_while {c:Expr} {body:List Stmt} {tc:TT} {tb:TS} (hp:PassesOwn (model X.prog X.w) X.A X.env X.xe) (hc:PT X c tc) (hb:PSs X body tb):PS X (.While c body [] pos) (tWhile tc tb):=by
 intro pins s σ H D I h
 obtain ⟨W,⟨m0,w0⟩,turn⟩:=h
 refine wpAny_While (codeAny_whileLoop (fun n s'=>∃ σ' H',Inv X pins σ' H' s' /\ W n σ' H') ?_ m0 ⟨σ,H,I,w0⟩)
 rintro n s1 ⟨σ1,H1,I1,w1⟩
 refine wpAny_passesOwn hp (thn (hc pins s1 σ1 H1 _ I1 (turn n σ1 H1 w1)) fun b s2 ⟨H2,I2,q2⟩=>?_)
 cases b with
 | true =>
  obtain ⟨N,hN,q2⟩:=q2
  rw [if_pos rfl]
  refine wpAny_passesOwn hp (thn (hb pins s2 σ1 H2 _ I2 q2) fun f s3 q3=>?_)
  cases f with
  | next =>
   obtain ⟨σ3,H3,I3,n3⟩:=q3
   obtain ⟨m',hm,w3⟩:=hN σ3 H3 n3
   exact ⟨m',hm,σ3,H3,I3,w3⟩
  | cont =>
   obtain ⟨σ3,H3,I3,n3⟩:=q3
   obtain ⟨m',hm,w3⟩:=hN σ3 H3 n3
   exact ⟨m',hm,σ3,H3,I3,w3⟩
  | brk=>exact q3
  | ret v=>exact q3
 | false =>
  rw [if_neg Bool.false_ne_true]
  exact wpAny_execs_nil ⟨σ1,H2,I2,q2⟩
end
structure It where
 go:Nat -> Hp -> Prop
 yld:Nat -> Hp -> V -> Hp -> Prop
 stop:Nat -> Hp -> Prop
def FpOk (X:Cx) (pins:List (Addr × Obj)) (H:Hp) (b:Addr):Prop :=
 H b = none /\ b ≠ X.env.locals /\ b ∉ X.fs /\ (b ∈ X.ex \/ X.s₀.heap.objs.size <= b) /\ (∀ x c,X.env.cells.lookup x = some c -> c ≠ b) /\ ∀ p ∈ X.pn ++ pins,p.1 ≠ b
theorem Inv.fpOk {X:Cx} {pins:List (Addr × Obj)} {σ:St} {H H':Hp} {s:Shared} {b:Addr} (I:Inv X pins σ H s) (hb:s.heap.objs.size <= b) (hn:H' b = none):FpOk X pins H' b:=by
 refine ⟨hn,Nat.ne_of_gt (Nat.lt_of_lt_of_le I.lt hb),I.nofs hb,.inr (Nat.le_trans I.sz hb),fun x c e z=>?_,fun p hp z=>?_⟩
 ·obtain ⟨v,q⟩:=I.cell x c e
  exact absurd (Nat.lt_of_lt_of_le q.lt (by rw [z]; exact hb)) (Nat.lt_irrefl _)
 ·exact absurd (Nat.lt_of_lt_of_le (Heap.lt_size (I.pin p hp).1) (by rw [z]; exact hb)) (Nat.lt_irrefl _)
structure Turn (P:Program) (w:World) (K:Frag) (tg:Expr) (J:It) (fp:List Addr) (it:Addr) (tn:Nat -> Heap -> Prop):Prop where
 mem:it ∈ fp
 obj:∀ i h,tn i h -> ∀ b ∈ fp,∃ o,h.get? b = some o /\ ∀ v,o.data ≠ .cell v
 keep:∀ i h h',tn i h -> (∀ b ∈ fp,∀ o,h.get? b = some o -> h'.get? b = some o) -> tn i h'
 item:∀ (X:Cx),X.prog = P -> X.w = w -> X.K = K -> X.calm = true -> ∀ (i:Nat) (pins:List (Addr × Obj)) (s:Shared) (σ:St) (H:Hp) (E:Value -> Shared -> Prop),Inv X pins σ H s -> (∀ b ∈ fp,FpOk X pins H b) -> tn i s.heap -> J.go i H ->
  wpAny (model P w) X.A (pyNext (.ref it)) (fun r s1=>∃ u,r = some u /\
   wpAny (model P w) X.A (letOwnedTupleGo tg (.ref it) u) (fun _ s2=>∃ x H',Inv X pins σ H' s2 /\ RelV x u /\ J.yld i H x H' /\ tn (i + 1) s2.heap /\ ∀ b ∈ fp,H' b = none) E s1) E s
 done:∀ (X:Cx),X.prog = P -> X.w = w -> X.K = K -> X.calm = true -> ∀ (i:Nat) (pins:List (Addr × Obj)) (s:Shared) (σ:St) (H:Hp) (E:Value -> Shared -> Prop),Inv X pins σ H s -> (∀ b ∈ fp,FpOk X pins H b) -> tn i s.heap -> J.stop i H ->
  wpAny (model P w) X.A (pyNext (.ref it)) (fun r s1=>r = none /\ Inv X pins σ H s1) E s
 self:∀ (A:Around) (i:Nat) (s:Shared) (Q:Value -> Shared -> Prop) (E:Value -> Shared -> Prop),tn i s.heap -> Q (.ref it) s -> wpAny (model P w) A (pyIter (.ref it)) Q E s
abbrev TI:=St -> Hp -> (It -> Hp -> Prop) -> Prop
def PIE (X:Cx) (pins:List (Addr × Obj)) (σ:St) (tg:Expr) (R:It -> Hp -> Prop) (itv:Value) (s2:Shared):Prop :=
 ∃ (it:Addr) (fp:List Addr) (tn:Nat -> Heap -> Prop) (J:It) (H':Hp),itv = .ref it /\ Inv X pins σ H' s2 /\ Turn X.prog X.w X.K tg J fp it tn /\ tn 0 s2.heap /\ (∀ b ∈ fp,FpOk X pins H' b) /\ R J H'
def PI (X:Cx) (tg iter:Expr) (wi:TI):Prop :=
 ∀ (pins:List (Addr × Obj)) (s:Shared) (σ:St) (H:Hp) (R:It -> Hp -> Prop),Inv X pins σ H s -> wi σ H R ->
  wpAny (model X.prog X.w) X.A (eval iter X.env) (fun v s1=>wpAny (model X.prog X.w) X.A (pyIter v) (PIE X pins σ tg R) X.xe s1) X.xe s
theorem yn2 {M:Model} {A:Around} {E:Value -> Shared -> Prop} {s:Shared} {tg:Expr} {it:Addr} {u:Value} {o:Obj} {n:String} {vs:Array Value} {Q:Unit -> Shared -> Prop} (ho:s.heap.get? it = some o) (hc:o.cls = .type n) (hd:o.data = .fields vs)
    (hn:["enumerate","zip","dict_itemiterator","dict_reverseitemiterator","odict_iterator","itertools.zip_longest","itertools.pairwise"].contains n = false) (hQ:Q () s):wpAny M A (letOwnedTupleGo tg (.ref it) u) Q E s:=by
  unfold letOwnedTupleGo
  cases tg <;> first
    | exact wpAny_pure hQ
    | (cases u <;> first
        | exact wpAny_pure hQ
        | (refine wpAny_bind (wpAny_load ho ?_)
           rw [hc,hd]
           show wpAny M A (if (["enumerate","zip","dict_itemiterator","dict_reverseitemiterator","odict_iterator","itertools.zip_longest","itertools.pairwise"].contains n && vs[0]? == some (rawInt _)) = true then _ else _) Q E s
           rw [if_neg (by intro h; rw [hn,Bool.false_and] at h; cases h)]
           exact wpAny_pure hQ))
def Itl (K:Frag) (a:Addr):It :=
 ⟨fun i H=>∃ xs x,SqL K H a xs /\ xs[i]? = some x,fun i H x H'=>H' = H /\ ∀ xs,SqL K H a xs -> xs[i]? = some x,fun i H=>∃ xs,SqL K H a xs /\ xs.length <= i⟩
def Itt (K:Frag) (a:Addr):It :=
 ⟨fun i H=>∃ xs x,SqT K H a xs /\ xs[i]? = some x,fun i H x H'=>H' = H /\ ∀ xs,SqT K H a xs -> xs[i]? = some x,fun i H=>∃ xs,SqT K H a xs /\ xs.length <= i⟩
def Itr (lo:Int) (n:Nat):It:=⟨fun i _=>i < n,fun i H x H'=>H' = H /\ x = .int (lo + i),fun i _=>n <= i⟩
theorem zc2 {P:Program} {w:World} {K:Frag} {tg:Expr} (a it:Addr):Turn P w K tg (Itl K a) [it] it (fun i h=>h.IsListIter it a i) where
 mem:=by simp
 obj:=fun i h st b hb=>by
  have e:b = it:=by simpa using hb
  subst e
  obtain ⟨o,e,c,d⟩:=st
  exact ⟨o,e,fun v z=>by rw [d] at z; cases z⟩
 keep:=fun i h h' st k=>st.at fun o e=>k it (by simp) o e
 item:=by
  intro X hP hw hK hc i pins s σ H E I hf st hg
  subst hP hw hK
  obtain ⟨xs,x,hq,hx⟩:=hg
  obtain ⟨its,rv,p,hz⟩:=I.list hq
  obtain ⟨u,hu,ru⟩:=rv.get hx
  obtain ⟨f0,f1,f2,f3,f4,f5⟩:=hf it (by simp)
  refine wpAny_pyNext_list_item st p.isList (x:=u) (by simpa using hu) fun h' st' sb=>?_
  have I1:Inv X pins σ H { s with heap:=h' }:=I.turned (t':=s.toks) (fun b o hb e=>(sb.2 b hb).trans e) f0 f1 f3 f4 f5
  obtain ⟨o,e,c,d⟩:=id st'
  exact ⟨u,rfl,yn2 (s:={ s with heap:=h' }) e c d (by decide) ⟨x,H,I1,ru,⟨rfl,fun ys hy=>by rw [I.list_inj hy hq]; exact hx⟩,st',fun b hb=>(hf b hb).1⟩⟩
 done:=by
  intro X hP hw hK hc i pins s σ H E I hf st hg
  subst hP hw hK
  obtain ⟨xs,hq,hx⟩:=hg
  obtain ⟨its,rv,p,hz⟩:=I.list hq
  obtain ⟨f0,f1,f2,f3,f4,f5⟩:=hf it (by simp)
  have hl:=rv.length
  exact wpAny_pyNext_list_end (I.ok.hd hc) st p.isList (by simp; omega) fun h' eb=>⟨rfl,I.turned (t':=s.toks) (fun b o hb e=>eb b o hb e) f0 f1 f3 f4 f5⟩
 self:=fun _ _ _ _ _ st h=>wpAny_pyIter_listiter st h
theorem yx5 {P:Program} {w:World} {K:Frag} {tg:Expr} (a it:Addr):Turn P w K tg (Itt K a) [it] it (fun i h=>h.IsTupleIter it a i) where
 mem:=by simp
 obj:=fun i h st b hb=>by
  have e:b = it:=by simpa using hb
  subst e
  obtain ⟨o,e,c,d⟩:=st
  exact ⟨o,e,fun v z=>by rw [d] at z; cases z⟩
 keep:=fun i h h' st k=>st.at fun o e=>k it (by simp) o e
 item:=by
  intro X hP hw hK hc i pins s σ H E I hf st hg
  subst hP hw hK
  obtain ⟨xs,x,hq,hx⟩:=hg
  obtain ⟨its,rv,p,hz⟩:=I.tuple hq
  obtain ⟨u,hu,ru⟩:=rv.get hx
  obtain ⟨f0,f1,f2,f3,f4,f5⟩:=hf it (by simp)
  refine wpAny_pyNext_tuple_item st (show s.heap.IsTuple a its.toArray from p) (x:=u) (by simpa using hu) fun h' st' sb=>?_
  have I1:Inv X pins σ H { s with heap:=h' }:=I.turned (t':=s.toks) (fun b o hb e=>(sb.2 b hb).trans e) f0 f1 f3 f4 f5
  obtain ⟨o,e,c,d⟩:=id st'
  exact ⟨u,rfl,yn2 (s:={ s with heap:=h' }) e c d (by decide) ⟨x,H,I1,ru,⟨rfl,fun ys hy=>by rw [I.tuple_inj hy hq]; exact hx⟩,st',fun b hb=>(hf b hb).1⟩⟩
 done:=by
  intro X hP hw hK hc i pins s σ H E I hf st hg
  subst hP hw hK
  obtain ⟨xs,hq,hx⟩:=hg
  obtain ⟨its,rv,p,hz⟩:=I.tuple hq
  obtain ⟨f0,f1,f2,f3,f4,f5⟩:=hf it (by simp)
  have hl:=rv.length
  exact wpAny_pyNext_tuple_end (I.ok.hd hc) st (show s.heap.IsTuple a its.toArray from p) (by simp; omega) fun h' eb=>⟨rfl,I.turned (t':=s.toks) (fun b o hb e=>eb b o hb e) f0 f1 f3 f4 f5⟩
 self:=fun _ _ _ _ _ st h=>wpAny_pyIter_tupleiter st h
theorem yx6 {P:Program} {w:World} {K:Frag} {tg:Expr} (it:Addr) (lo:Int) (n:Nat):Turn P w K tg (Itr lo n) [it] it (fun i h=>IsRangeIter h it (lo + (i:Nat) * 1) ((n:Int) - (i:Nat)) 1) where
 mem:=by simp
 obj:=fun i h st b hb=>by
  have e:b = it:=by simpa using hb
  subst e
  exact ⟨_,st,fun v z=>by
   have z':Data.fields _ = Data.cell v:=z
   cases z'⟩
 keep:=fun i h h' st k=>k it (by simp) _ st
 item:=by
  intro X hP hw hK hc i pins s σ H E I hf st hg
  subst hP hw hK
  obtain ⟨f0,f1,f2,f3,f4,f5⟩:=hf it (by simp)
  have W:=Walks.range (prog:=X.prog) (w:=X.w) (I.ok.hd hc) it lo 1 n
  refine W.item i s _ _ hg st fun v h' tk hv st' kk=>?_
  obtain ⟨t,rfl⟩:=hv
  have I1:Inv X pins σ H { s with heap:=h',toks:=tk }:=I.turned (fun b o hb e=>kk b o (by simpa using hb) e) f0 f1 f3 f4 f5
  refine ⟨_,rfl,yn2 (s:={ s with heap:=h',toks:=tk }) (n:="range_iterator") st' rfl rfl (by decide) ⟨.int (lo + i),H,I1,⟨t,?_⟩,⟨rfl,rfl⟩,st',fun b hb=>(hf b hb).1⟩⟩
  rw [Int.mul_one]
 done:=by
  intro X hP hw hK hc i pins s σ H E I hf st hg
  subst hP hw hK
  obtain ⟨f0,f1,f2,f3,f4,f5⟩:=hf it (by simp)
  exact wpAny_pyNext_range_end (I.ok.hd hc) st (by have:n <= i:=hg; omega) fun h' eb=>⟨rfl,I.turned (t':=s.toks) (fun b o hb e=>eb b o hb e) f0 f1 f3 f4 f5⟩
 self:=fun _ _ _ _ _ st h=>wpAny_pyIter_rangeiter st h
section
variable {X:Cx} {tg:Expr}
def iList (K:Frag) (tl:TE):TI:=fun σ H R=>tl σ H fun x H1=>∃ a,x = .ref a /\ (∃ xs,SqL K H1 a xs) /\ R (Itl K a) H1
def iTup (K:Frag) (tl:TE):TI:=fun σ H R=>tl σ H fun x H1=>∃ a,x = .ref a /\ (∃ xs,SqT K H1 a xs) /\ R (Itt K a) H1
theorem pi_list {l:Expr} {tl:TE} (hl:PE X l tl):PI X tg l (iList X.K tl):=by
 intro pins s σ H R I h
 refine thn (hl pins s σ H _ I h) fun v s1 ⟨x,H1,I1,r1,q1⟩=>?_
 obtain ⟨a,e,⟨xs,hq⟩,q⟩:=q1
 subst e
 cases r1
 obtain ⟨its,rv,p,hz⟩:=I1.list hq
 refine wpAny_pyIter_list p.isList ?_
 refine ⟨s1.heap.objs.size,[s1.heap.objs.size],_,_,H1,rfl,I1.kept (t':=s1.toks) fun b o e=>Heap.get?_push_of_some _ e,zc2 a _,⟨_,Heap.get?_push_size _ rfl,rfl,rfl⟩,fun b hb=>?_,q⟩
 have e:b = s1.heap.objs.size:=by simpa using hb
 subst e
 exact I1.fpOk (Nat.le_refl _) (I1.hok.fresh (Nat.le_refl _))
theorem pi_tup {l:Expr} {tl:TE} (hl:PE X l tl):PI X tg l (iTup X.K tl):=by
 intro pins s σ H R I h
 refine thn (hl pins s σ H _ I h) fun v s1 ⟨x,H1,I1,r1,q1⟩=>?_
 obtain ⟨a,e,⟨xs,hq⟩,q⟩:=q1
 subst e
 cases r1
 obtain ⟨its,rv,p,hz⟩:=I1.tuple hq
 refine wpAny_pyIter_tuple (show s1.heap.IsTuple a its.toArray from p) ?_
 refine ⟨s1.heap.objs.size,[s1.heap.objs.size],_,_,H1,rfl,I1.kept (t':=s1.toks) fun b o e=>Heap.get?_push_of_some _ e,yx5 a _,⟨_,Heap.get?_push_size _ rfl,rfl,rfl⟩,fun b hb=>?_,q⟩
 have e:b = s1.heap.objs.size:=by simpa using hb
 subst e
 exact I1.fpOk (Nat.le_refl _) (I1.hok.fresh (Nat.le_refl _))
theorem yu2 {pins:List (Addr × Obj)} {σ:St} {H:Hp} {s:Shared} {R:It -> Hp -> Prop} {E:Value -> Shared -> Prop} {lo hi:Int} {t u v:Tok} {tk:Nat} (I:Inv X pins σ H s) (h1:-(2 ^ 62) <= lo) (h2:lo < 2 ^ 62) (h3:-(2 ^ 62) <= hi) (h4:hi < 2 ^ 62)
  (q:R (Itr lo (hi - lo).toNat) H):wpAny (model X.prog X.w) X.A (pyIter (.ref s.heap.objs.size)) (PIE X pins σ tg R) E { s with heap:=s.heap.push { cls:=.type "range",data:=.fields #[.int lo t,.int hi u,.int 1 v] },toks:=tk }:=by
 refine wpAny_pyIter_range (IsRange.new ..) (small_one h1 h2 h3 h4) ?_
 have I1:Inv X pins σ H { s with heap:=s.heap.push { cls:=.type "range",data:=.fields #[.int lo t,.int hi u,.int 1 v] },toks:=tk }:=I.kept fun b o e=>Heap.get?_push_of_some _ e
 refine ⟨(s.heap.push { cls:=.type "range",data:=.fields #[.int lo t,.int hi u,.int 1 v] }).objs.size,[(s.heap.push { cls:=.type "range",data:=.fields #[.int lo t,.int hi u,.int 1 v] }).objs.size],_,_,H,rfl,
  I1.kept (t':=tk) fun b o e=>Heap.get?_push_of_some _ e,yx6 _ lo (hi - lo).toNat,?_,fun b hb=>?_,q⟩
 ·have e1:lo + ((0:Nat):Int) * 1 = lo:=by simp
  have e2:(((hi - lo).toNat:Nat):Int) - ((0:Nat):Int) = Builtin.Range.rangeSize lo hi 1:=by rw [rangeSize_one]; split <;> omega
  show IsRangeIter _ _ (lo + ((0:Nat):Int) * 1) ((((hi - lo).toNat:Nat):Int) - ((0:Nat):Int)) 1
  rw [e1,e2]
  exact Heap.get?_push_size _ rfl
 ·have e:b = (s.heap.push { cls:=.type "range",data:=.fields #[.int lo t,.int hi u,.int 1 v] }).objs.size:=by simpa using hb
  subst e
  exact I1.fpOk (Nat.le_refl _) (I1.hok.fresh (Nat.le_refl _))
def iRng1 (ta:TA):TI:=fun σ H R=>ta σ H fun vs H1=>∃ j:Int,vs = [.int j] /\ -(2 ^ 62) <= j /\ j < 2 ^ 62 /\ R (Itr 0 j.toNat) H1
def iRng2 (ta:TA):TI:=fun σ H R=>ta σ H fun vs H1=>∃ i j:Int,vs = [.int i,.int j] /\ (-(2 ^ 62) <= i /\ i < 2 ^ 62 /\ -(2 ^ 62) <= j /\ j < 2 ^ 62) /\ R (Itr i (j - i).toNat) H1
theorem xr9 {a:Expr} {ta:TA} {p pos:Pos} (hg:Gl X "range") (hm:X.mg "range" = none) (ha:PA X [a] ta) (hs:starEach [a] X.env = [(false,eval a X.env)]:=by rfl):PI X tg (.Call (.Name "range" p) [a] [] pos) (iRng1 ta):=by
 intro pins s σ H R I h
 refine Call_ (ya6 I hg hm boot_range (PyProof.Rows.callWith_type1 (thn (ha pos pins s σ H _ I h) fun us s1 ⟨vs,H1,I1,r1,q1⟩=>?_) hs rfl))
 obtain ⟨j,e,q1,q2,q⟩:=q1
 subst e
 cases r1 with
 | cons r rr =>
  cases rr
  obtain ⟨t,rfl⟩:=r
  exact call_range_1 (yu2 I1 (by omega) (by omega) q1 q2 (by simpa using q))
theorem xy9 {a b:Expr} {ta:TA} {p pos:Pos} (hg:Gl X "range") (hm:X.mg "range" = none) (ha:PA X [a,b] ta) (hs:starEach [a,b] X.env = [(false,eval a X.env),(false,eval b X.env)]:=by rfl) (hs2:starEach [b] X.env = [(false,eval b X.env)]:=by rfl) :
  PI X tg (.Call (.Name "range" p) [a,b] [] pos) (iRng2 ta):=by
 intro pins s σ H R I h
 refine Call_ (ya6 I hg hm boot_range (PyProof.Rows.callWith_type1 (thn (ha pos pins s σ H _ I h) fun us s1 ⟨vs,H1,I1,r1,q1⟩=>?_) (by rw [hs,hs2]) (by rw [hs2]; rfl)))
 obtain ⟨i,j,e,⟨q1,q2,q3,q4⟩,q⟩:=q1
 subst e
 cases r1 with
 | cons r rr =>
  cases rr with
  | cons r' rr =>
   cases rr
   obtain ⟨t,rfl⟩:=r
   obtain ⟨t',rfl⟩:=r'
   exact call_range_2 (yu2 I1 q1 q2 q3 q4 q)
def tFor (wi:TI) (g:TG) (tb:TS):TS:=fun D σ H=>wi σ H fun J H1=>∃ W:Nat -> Nat -> St -> Hp -> Prop,(∃ m,W 0 m σ H1) /\ ∀ i m σ H,W i m σ H ->
 (J.stop i H /\ D.nx σ H) \/ (J.go i H /\ ∃ N:St -> Hp -> Prop,(∀ σ' H',N σ' H' -> ∃ m',m' < m /\ W (i + 1) m' σ' H') /\ ∀ x H',J.yld i H x H' -> g x σ H' fun σ2 H2=>tb { D with nx:=N,ct:=N,bk:=D.nx } σ2 H2)
def yu4 (fp:List Addr) (h:Heap):List (Addr × Obj):=fp.filterMap fun b=>(h.get? b).map fun o=>(b,o)
theorem xi1 {fp:List Addr} {h:Heap} {b:Addr} {o:Obj} (hb:b ∈ fp) (e:h.get? b = some o):(b,o) ∈ yu4 fp h:=List.mem_filterMap.mpr ⟨b,hb,by rw [e]; rfl⟩
theorem zg4 {fp:List Addr} {h:Heap} {p:Addr × Obj} (hp:p ∈ yu4 fp h):p.1 ∈ fp /\ h.get? p.1 = some p.2:=by
 obtain ⟨b,hb,e⟩:=List.mem_filterMap.mp hp
 cases q:h.get? b with
 | none=>rw [q] at e; cases e
 | some o =>
  rw [q] at e
  have e':(b,o) = p:=Option.some.inj e
  subst e'
  exact ⟨hb,q⟩
theorem Inv.pinned {pins:List (Addr × Obj)} {σ:St} {H:Hp} {s:Shared} {fp:List Addr} (I:Inv X pins σ H s) (hf:∀ b ∈ fp,FpOk X pins H b) (ho:∀ b ∈ fp,∃ o,s.heap.get? b = some o /\ ∀ v,o.data ≠ .cell v):Inv X (pins ++ yu4 fp s.heap) σ H s :=
 I.pins_of fun p hp=>(List.mem_append.mp hp).elim (fun z=>I.pin p (List.mem_append_right _ z)) fun z=>by
  obtain ⟨hb,e⟩:=zg4 z
  obtain ⟨f0,f1,f2,_⟩:=hf p.1 hb
  obtain ⟨o,e',d⟩:=ho p.1 hb
  rw [e] at e'; cases e'
  exact ⟨e,f0,f1,f2,d⟩
theorem Inv.unpinned {pins pl:List (Addr × Obj)} {σ:St} {H:Hp} {s:Shared} (I:Inv X (pins ++ pl) σ H s):Inv X pins σ H s:=I.pins_of fun p hp=>I.pin p (List.mem_append_right _ (List.mem_append_left _ hp))
theorem xd0 {iter:Expr} {body:List Stmt} {wi:TI} {g:TG} {tb:TS} {pos:Pos} (hp:PassesOwn (model X.prog X.w) X.A X.env X.xe) (hc:X.calm = true) (hi:PI X tg iter wi) (hg:PG X tg g) (hb:PSs X body tb)
  (hs:∀ x,foldedSetIterable iter X.env x = pure x:=by intro _; rfl):PS X (.For tg iter body [] pos) (tFor wi g tb):=by
 intro pins s σ H D I h
 refine wpAny_For (thn (hi pins s σ H _ I h) fun v s1 h1=>thn h1 fun itv s2 h2=>?_) hs
 obtain ⟨it,fp,tn,J,H2,e,I2,T,st2,f2,W,⟨m0,w0⟩,turn⟩:=h2
 subst e
 have stat:∀ {H':Hp},(∀ b ∈ fp,H' b = none) -> ∀ b ∈ fp,FpOk X pins H' b:=fun hn b hb=>⟨hn b hb,(f2 b hb).2⟩
 refine codeAny_forLoop_any (fun n s'=>∃ i σ' H',Inv X pins σ' H' s' /\ tn i s'.heap /\ (∀ b ∈ fp,H' b = none) /\ W i n σ' H') ?_ m0 ⟨0,σ,H2,I2,st2,fun b hb=>(f2 b hb).1,w0⟩
 rintro n s3 ⟨i,σ3,H3,I3,st3,fr3,w3⟩
 rcases turn i n σ3 H3 w3 with ⟨stop,qn⟩ | ⟨go,N,hN,step⟩
 ·refine wpAny_passesOwn hp (thn (T.done X rfl rfl rfl hc i pins s3 σ3 H3 X.xe I3 (stat fr3) st3 stop) fun r s4 ⟨hr,I4⟩=>?_)
  subst hr
  exact wpAny_execs_nil ⟨σ3,H3,I4,qn⟩
 ·refine wpAny_passesOwn hp (thn (T.item X rfl rfl rfl hc i pins s3 σ3 H3 X.xe I3 (stat fr3) st3 go) fun r s4 ⟨u,hr,h4⟩=>?_)
  subst hr
  refine wpAny_passesOwn hp (thn h4 fun _ s5 ⟨x,H5,I5,r5,y5,st5,fr5⟩=>?_)
  have I5':=I5.pinned (stat fr5) (T.obj _ _ st5)
  refine wpAny_passesOwn hp (thn (hg _ s5 σ3 H5 x u _ I5' r5 (step x H5 y5)) fun _ s6 ⟨σ6,H6,I6,q6⟩=>?_)
  refine wpAny_passesOwn hp (thn (hb _ s6 σ6 H6 _ I6 q6) fun f s7 q7=>?_)
  have again:∀ {σ7:St} {H7:Hp},Inv X (pins ++ yu4 fp s5.heap) σ7 H7 s7 -> N σ7 H7 -> ∃ m,m < n /\ ∃ i σ' H',Inv X pins σ' H' s7 /\ tn i s7.heap /\ (∀ b ∈ fp,H' b = none) /\ W i m σ' H':=fun {σ7 H7} I7 n7=>by
   obtain ⟨m',hm,w7⟩:=hN σ7 H7 n7
   refine ⟨m',hm,i + 1,σ7,H7,I7.unpinned,T.keep _ _ _ st5 fun b hb o e=>(I7.pin (b,o) (List.mem_append_right _ (List.mem_append_right _ (xi1 hb e)))).1,fun b hb=>?_,w7⟩
   obtain ⟨o,e,d⟩:=T.obj _ _ st5 b hb
   exact (I7.pin (b,o) (List.mem_append_right _ (List.mem_append_right _ (xi1 hb e)))).2.1
  cases f with
  | next=>obtain ⟨σ7,H7,I7,n7⟩:=q7; exact again I7 n7
  | cont=>obtain ⟨σ7,H7,I7,n7⟩:=q7; exact again I7 n7
  | brk=>obtain ⟨σ7,H7,I7,q7⟩:=q7; exact ⟨σ7,H7,I7.unpinned,q7⟩
  | ret v=>obtain ⟨x7,σ7,H7,I7,r7,q7⟩:=q7; exact ⟨x7,σ7,H7,I7.unpinned,r7,q7⟩
end
theorem xf1 {K:Frag} {a:Addr} {xs:List V} {g:TG} {tb:TS} {D:Ends} {σ:St} {H:Hp} (Pv:Nat -> St -> Hp -> Prop) (h0:Pv 0 σ H) (hl:∀ i σ H,i <= xs.length -> Pv i σ H -> SqL K H a xs)
  (hs:∀ i x σ H,xs[i]? = some x -> Pv i σ H -> g x σ H fun σ2 H2=>tb { D with nx:=Pv (i + 1),ct:=Pv (i + 1),bk:=D.nx } σ2 H2) (hd:∀ σ H,Pv xs.length σ H -> D.nx σ H) :
  ∃ W:Nat -> Nat -> St -> Hp -> Prop,(∃ m,W 0 m σ H) /\ ∀ i m σ H,W i m σ H ->
   ((Itl K a).stop i H /\ D.nx σ H) \/ ((Itl K a).go i H /\ ∃ N:St -> Hp -> Prop,(∀ σ' H',N σ' H' -> ∃ m',m' < m /\ W (i + 1) m' σ' H') /\ ∀ x H',(Itl K a).yld i H x H' -> g x σ H' fun σ2 H2=>tb { D with nx:=N,ct:=N,bk:=D.nx } σ2 H2):=by
 refine ⟨fun i m σ H=>m = xs.length - i /\ i <= xs.length /\ Pv i σ H,⟨xs.length,by simp,Nat.zero_le _,h0⟩,?_⟩
 rintro i m σ H ⟨rfl,hi,p⟩
 have q:=hl i σ H hi p
 by_cases hlt:i < xs.length
 ·refine .inr ⟨⟨xs,xs[i],q,by simp [hlt]⟩,Pv (i + 1),fun σ' H' p'=>⟨xs.length - (i + 1),by omega,rfl,hlt,p'⟩,fun x H' y=>?_⟩
  obtain ⟨e,y⟩:=y
  subst e
  exact hs i x σ _ (y xs q) p
 ·have e:i = xs.length:=by omega
  subst e
  exact .inl ⟨⟨xs,q,Nat.le_refl _⟩,hd σ H p⟩
theorem zj5 {K:Frag} {a:Addr} {xs:List V} {g:TG} {tb:TS} {D:Ends} {σ:St} {H:Hp} (Pv:Nat -> St -> Hp -> Prop) (h0:Pv 0 σ H) (hl:∀ i σ H,i <= xs.length -> Pv i σ H -> SqT K H a xs)
  (hs:∀ i x σ H,xs[i]? = some x -> Pv i σ H -> g x σ H fun σ2 H2=>tb { D with nx:=Pv (i + 1),ct:=Pv (i + 1),bk:=D.nx } σ2 H2) (hd:∀ σ H,Pv xs.length σ H -> D.nx σ H) :
  ∃ W:Nat -> Nat -> St -> Hp -> Prop,(∃ m,W 0 m σ H) /\ ∀ i m σ H,W i m σ H ->
   ((Itt K a).stop i H /\ D.nx σ H) \/ ((Itt K a).go i H /\ ∃ N:St -> Hp -> Prop,(∀ σ' H',N σ' H' -> ∃ m',m' < m /\ W (i + 1) m' σ' H') /\ ∀ x H',(Itt K a).yld i H x H' -> g x σ H' fun σ2 H2=>tb { D with nx:=N,ct:=N,bk:=D.nx } σ2 H2):=by
 refine ⟨fun i m σ H=>m = xs.length - i /\ i <= xs.length /\ Pv i σ H,⟨xs.length,by simp,Nat.zero_le _,h0⟩,?_⟩
 rintro i m σ H ⟨rfl,hi,p⟩
 have q:=hl i σ H hi p
 by_cases hlt:i < xs.length
 ·refine .inr ⟨⟨xs,xs[i],q,by simp [hlt]⟩,Pv (i + 1),fun σ' H' p'=>⟨xs.length - (i + 1),by omega,rfl,hlt,p'⟩,fun x H' y=>?_⟩
  obtain ⟨e,y⟩:=y
  subst e
  exact hs i x σ _ (y xs q) p
 ·have e:i = xs.length:=by omega
  subst e
  exact .inl ⟨⟨xs,q,Nat.le_refl _⟩,hd σ H p⟩
theorem xl2 {lo:Int} {n:Nat} {g:TG} {tb:TS} {D:Ends} {σ:St} {H:Hp} (Pv:Nat -> St -> Hp -> Prop) (h0:Pv 0 σ H)
  (hs:∀ i σ H,i < n -> Pv i σ H -> g (.int (lo + i)) σ H fun σ2 H2=>tb { D with nx:=Pv (i + 1),ct:=Pv (i + 1),bk:=D.nx } σ2 H2) (hd:∀ σ H,Pv n σ H -> D.nx σ H) :
  ∃ W:Nat -> Nat -> St -> Hp -> Prop,(∃ m,W 0 m σ H) /\ ∀ i m σ H,W i m σ H ->
   ((Itr lo n).stop i H /\ D.nx σ H) \/ ((Itr lo n).go i H /\ ∃ N:St -> Hp -> Prop,(∀ σ' H',N σ' H' -> ∃ m',m' < m /\ W (i + 1) m' σ' H') /\ ∀ x H',(Itr lo n).yld i H x H' -> g x σ H' fun σ2 H2=>tb { D with nx:=N,ct:=N,bk:=D.nx } σ2 H2):=by
 refine ⟨fun i m σ H=>m = n - i /\ i <= n /\ Pv i σ H,⟨n,by simp,Nat.zero_le _,h0⟩,?_⟩
 rintro i m σ H ⟨rfl,hi,p⟩
 by_cases hlt:i < n
 ·refine .inr ⟨hlt,Pv (i + 1),fun σ' H' p'=>⟨n - (i + 1),by omega,rfl,hlt,p'⟩,fun x H' y=>?_⟩
  obtain ⟨e,y⟩:=y
  subst e y
  exact hs i σ _ hlt p
 ·have e:i = n:=by omega
  subst e
  exact .inl ⟨Nat.le_refl _,hd σ H p⟩
abbrev R2:=V -> V -> Hp -> VK -> Prop
def OpR (X:Cx) (f:Value -> Value -> Sem Value) (r:R2):Prop :=
 ∀ (pins:List (Addr × Obj)) (s:Shared) (σ:St) (H:Hp) (x y:V) (v u:Value) (Q:VK),Inv X pins σ H s -> RelV x v -> RelV y u -> r x y H Q ->
  wpAny (model X.prog X.w) X.A (f v u) (EP X pins σ Q) X.xe s
def UnR (X:Cx) (f:Value -> Sem Value) (r:V -> Hp -> VK -> Prop):Prop :=
 ∀ (pins:List (Addr × Obj)) (s:Shared) (σ:St) (H:Hp) (x:V) (v:Value) (Q:VK),Inv X pins σ H s -> RelV x v -> r x H Q ->
  wpAny (model X.prog X.w) X.A (f v) (EP X pins σ Q) X.xe s
def xj5 (X:Cx) (f:Value) (r:List V -> Hp -> VK -> Prop):Prop :=
 ∀ (pins:List (Addr × Obj)) (s:Shared) (σ:St) (H:Hp) (xs:List V) (us:List Value) (Q:VK),Inv X pins σ H s -> Vals xs us -> r xs H Q ->
  wpAny (model X.prog X.w) X.A (call f us) (EP X pins σ Q) X.xe s
def tOp (r:R2) (ta tb:TE):TE:=fun σ H Q=>ta σ H fun x H1=>tb σ H1 fun y H2=>r x y H2 Q
def tUn (r:V -> Hp -> VK -> Prop) (ta:TE):TE:=fun σ H Q=>ta σ H fun x H1=>r x H1 Q
def rI (C:Int -> Int -> Prop) (g:Int -> Int -> V):R2:=fun x y H Q=>∃ i j,x = .int i /\ y = .int j /\ C i j /\ Q (g i j) H
def rI0 (g:Int -> Int -> V):R2:=fun x y H Q=>∃ i j,x = .int i /\ y = .int j /\ Q (g i j) H
def rU (g:Int -> V):V -> Hp -> VK -> Prop:=fun x H Q=>∃ i,x = .int i /\ Q (g i) H
section
variable {X:Cx} {a b c:Expr} {ta tb tc:TE} {pos:Pos}
theorem binT (ha:PE X a ta) (hb:PE X b tb) {pins:List (Addr × Obj)} {s:Shared} {σ:St} {H:Hp} {R:V -> V -> Hp -> Prop} (I:Inv X pins σ H s)
  (h:ta σ H fun x H1=>tb σ H1 fun y H2=>R x y H2) {Q:Value -> Shared -> Prop} {f:Value -> Value -> Sem Value}
  (hf:∀ v u s2 x y H2,Inv X pins σ H2 s2 -> RelV x v -> RelV y u -> R x y H2 -> wpAny (model X.prog X.w) X.A (f v u) Q X.xe s2) :
  wpAny (model X.prog X.w) X.A (eval a X.env) (fun v s₁=>wpAny (model X.prog X.w) X.A (eval b X.env) (fun u s₂=>wpAny (model X.prog X.w) X.A (f v u) Q X.xe s₂) X.xe s₁) X.xe s:=by
 refine thn (ha pins s σ H _ I h) fun v s1 ⟨x,H1,I1,r1,q1⟩=>?_
 refine thn (hb pins s1 σ H1 _ I1 q1) fun u s2 ⟨y,H2,I2,r2,q2⟩=>?_
 exact hf v u s2 x y H2 I2 r1 r2 q2
theorem xc4 {op:Operator} {r:R2} (ho:OpR X (binaryOp op) r) (ha:PE X a ta) (hb:PE X b tb):PE X (.BinOp a op b pos) (tOp r ta tb):=by
 intro pins s σ H Q I h
 exact wpAny_BinOp (binT ha hb I h fun v u s2 x y H2 I2 rx ry q=>ho pins s2 σ H2 x y v u Q I2 rx ry q)
theorem yr1 {op:UnaryOp} {r:V -> Hp -> VK -> Prop} (ho:UnR X (unaryOp op) r) (ha:PE X a ta):PE X (.UnaryOp op a pos) (tUn r ta):=by
 intro pins s σ H Q I h
 exact UnaryOp_ (thn (ha pins s σ H _ I h) fun v s1 ⟨x,H1,I1,r1,q1⟩=>ho pins s1 σ H1 x v Q I1 r1 q1)
theorem opI {f:Value -> Value -> Sem Value} {C:Int -> Int -> Prop} {g:Int -> Int -> Int}
  (rule:∀ (i j:Int) (t u:Tok) (s:Shared) (Q:Value -> Shared -> Prop) (E:Value -> Shared -> Prop),C i j -> Q (.int (g i j) s.toks) { s with toks:=s.toks + 1 } -> wpAny (model X.prog X.w) X.A (f (.int i t) (.int j u)) Q E s) :
  OpR X f (rI C fun i j=>.int (g i j)):=by
 intro pins s σ H x y v u Q I rx ry h
 obtain ⟨i,j,rfl,rfl,hc,q⟩:=h
 obtain ⟨t,rfl⟩:=rx
 obtain ⟨t',rfl⟩:=ry
 exact rule i j t t' s _ _ hc ⟨.int (g i j),H,I.tok _,⟨_,rfl⟩,q⟩
theorem opI0 {f:Value -> Value -> Sem Value} {g:Int -> Int -> Int}
  (rule:∀ (i j:Int) (t u:Tok) (s:Shared) (Q:Value -> Shared -> Prop) (E:Value -> Shared -> Prop),Q (.int (g i j) s.toks) { s with toks:=s.toks + 1 } -> wpAny (model X.prog X.w) X.A (f (.int i t) (.int j u)) Q E s) :
  OpR X f (rI0 fun i j=>.int (g i j)):=by
 intro pins s σ H x y v u Q I rx ry h
 obtain ⟨i,j,rfl,rfl,q⟩:=h
 obtain ⟨t,rfl⟩:=rx
 obtain ⟨t',rfl⟩:=ry
 exact rule i j t t' s _ _ ⟨.int (g i j),H,I.tok _,⟨_,rfl⟩,q⟩
theorem opB0 {f:Value -> Value -> Sem Value} {g:Int -> Int -> Bool}
  (rule:∀ (i j:Int) (t u:Tok) (s:Shared) (Q:Value -> Shared -> Prop) (E:Value -> Shared -> Prop),Q (.bool (g i j)) s -> wpAny (model X.prog X.w) X.A (f (.int i t) (.int j u)) Q E s) :
  OpR X f (rI0 fun i j=>.bl (g i j)):=by
 intro pins s σ H x y v u Q I rx ry h
 obtain ⟨i,j,rfl,rfl,q⟩:=h
 obtain ⟨t,rfl⟩:=rx
 obtain ⟨t',rfl⟩:=ry
 exact rule i j t t' s _ _ ⟨.bl (g i j),H,I,rfl,q⟩
def CMul (i j:Int):Prop:=(-(2 ^ 64) < i /\ i < 2 ^ 64) \/ (-(2 ^ 64) < j /\ j < 2 ^ 64)
theorem CMul.ok {i j:Int} (h:CMul i j):IntMulOk i j:=by
 rcases h with ⟨h1,h2⟩ | ⟨h1,h2⟩
 ·exact .of_left (intBits_le_64 h1 h2)
 ·exact .of_right (intBits_le_64 h1 h2)
theorem yx4 (k:Nat):(0:Int) <= 2 ^ k:=by
 rw [two_pow_cast]
 exact Int.natCast_nonneg _
theorem xf9:OpR X (binaryOp .Add) (rI0 fun i j=>.int (i + j)):=opI0 fun _ _ _ _ _ _ _ q=>add_int q
theorem xv6:OpR X (binaryOp .Sub) (rI0 fun i j=>.int (i - j)):=opI0 fun _ _ _ _ _ _ _ q=>sub_int q
theorem ye4:OpR X (binaryOp .Mult) (rI CMul fun i j=>.int (i * j)):=opI fun _ _ _ _ _ _ _ hc q=>mul_int q hc.ok
theorem xl6:OpR X (binaryOp .Mod) (rI (fun _ j=>0 < j) fun i j=>.int (i % j)):=opI fun i j _ _ _ _ _ hc q=>by
 have h1:(0:Int) < j:=hc
 exact mod_int' (by omega) (by rw [Int.fmod_eq_emod_of_nonneg i (by omega)]; exact q)
theorem op_shr:OpR X (binaryOp .RShift) (rI (fun _ j=>0 <= j) fun i j=>.int (i / 2 ^ j.toNat)):=opI fun i j _ _ _ _ _ hc q =>
 rshift_int hc (by rw [Int.fdiv_eq_ediv_of_nonneg i (yx4 _)]; exact q)
theorem unI {f:Value -> Sem Value} {g:Int -> Int}
  (rule:∀ (i:Int) (t:Tok) (s:Shared) (Q:Value -> Shared -> Prop) (E:Value -> Shared -> Prop),Q (.int (g i) s.toks) { s with toks:=s.toks + 1 } -> wpAny (model X.prog X.w) X.A (f (.int i t)) Q E s) :
  UnR X f (rU fun i=>.int (g i)):=by
 intro pins s σ H x v Q I rx h
 obtain ⟨i,rfl,q⟩:=h
 obtain ⟨t,rfl⟩:=rx
 exact rule i t s _ _ ⟨.int (g i),H,I.tok _,⟨_,rfl⟩,q⟩
theorem xx8:UnR X (unaryOp .USub) (rU fun i=>.int (-i)):=unI fun _ _ _ _ _ q=>neg_int q
end
def scal:V -> V -> Bool
 | .non,.non=>true | .non,.int _=>true | .int _,.non=>true | .non,.bl _=>true | .bl _,.non=>true | .non,.str _=>true | .str _,.non=>true
 | .int _,.int _=>true | .bl _,.bl _=>true | .str _,.str _=>true | .byt _,.byt _=>true
 | .int _,.str _=>true | .str _,.int _=>true | .bl _,.str _=>true | .str _,.bl _=>true
 | _,_=>false
def rEq:R2:=fun x y H Q=>scal x y = true /\ Q (.bl (decide (x = y))) H
def rNe:R2:=fun x y H Q=>scal x y = true /\ Q (.bl (!decide (x = y))) H
theorem zk6 {i j:Int}:decide (V.int i = V.int j) = (i == j):=by
 rw [Bool.eq_iff_iff]
 simp
theorem dec_bl {i j:Bool}:decide (V.bl i = V.bl j) = (i == j):=by
 rw [Bool.eq_iff_iff]
 simp
theorem zk5 {i j:Str}:decide (V.str i = V.str j) = (i == j):=by
 rw [Bool.eq_iff_iff]
 simp
theorem zk7 {i j:Array UInt8}:decide (V.byt i = V.byt j) = (i.toList == j.toList):=by
 rw [Bool.eq_iff_iff]
 cases i
 cases j
 simp
section
variable {X:Cx} {a b c:Expr} {ta tb tc:TE} {pos:Pos}
theorem xd7 {pins:List (Addr × Obj)} {σ:St} {H:Hp} {s:Shared} {Q:VK} {k k':Bool} (I:Inv X pins σ H s) (q:Q (.bl k) H) (e:k = k'):EP X pins σ Q (.bool k') s:=by
 subst e
 exact ⟨.bl k,H,I,rfl,q⟩
theorem yz2:OpR X (compareOp .Eq) rEq:=by
 intro pins s σ H x y v u Q I rx ry h
 obtain ⟨hs,q⟩:=h
 cases x with
 | non =>
  cases rx
  cases y with
  | non=>cases ry; exact PySem.EqNone.eq_none_none (xd7 I q (by simp))
  | bl j=>cases ry; exact PySem.EqNone.eq_none_bool (xd7 I q (by simp))
  | int j=>obtain ⟨t',rfl⟩:=ry; exact PySem.EqNone.eq_none_int (xd7 I q (by simp))
  | str j=>obtain ⟨t',rfl⟩:=ry; exact PySem.EqNone.eq_none_str (xd7 I q (by simp))
  | _=>exact absurd (show false = true from hs) Bool.false_ne_true
 | bl i =>
  cases rx
  cases y with
  | non=>cases ry; exact PySem.EqNone.eq_bool_none (xd7 I q (by simp))
  | bl j=>cases ry; exact eq_bool (xd7 I q dec_bl)
  | str j=>obtain ⟨t',rfl⟩:=ry; exact PySem.EqMixed.eq_bool_str (xd7 I q (by simp))
  | _=>exact absurd (show false = true from hs) Bool.false_ne_true
 | int i =>
  obtain ⟨t,rfl⟩:=rx
  cases y with
  | non=>cases ry; exact PySem.EqNone.eq_int_none (xd7 I q (by simp))
  | int j=>obtain ⟨t',rfl⟩:=ry; exact eq_int (xd7 I q zk6)
  | str j=>obtain ⟨t',rfl⟩:=ry; exact PySem.EqMixed.eq_int_str (xd7 I q (by simp))
  | _=>exact absurd (show false = true from hs) Bool.false_ne_true
 | str i =>
  obtain ⟨t,rfl⟩:=rx
  cases y with
  | non=>cases ry; exact PySem.EqNone.eq_str_none (xd7 I q (by simp))
  | bl j=>cases ry; exact PySem.EqMixed.eq_str_bool (xd7 I q (by simp))
  | int j=>obtain ⟨t',rfl⟩:=ry; exact PySem.EqMixed.eq_str_int (xd7 I q (by simp))
  | str j=>obtain ⟨t',rfl⟩:=ry; exact eq_str (xd7 I q zk5)
  | _=>exact absurd (show false = true from hs) Bool.false_ne_true
 | byt i =>
  obtain ⟨t,rfl⟩:=rx
  cases y with
  | byt j=>obtain ⟨t',rfl⟩:=ry; exact eq_bytes (xd7 I q zk7)
  | _=>exact absurd (show false = true from hs) Bool.false_ne_true
 | _=>cases y <;> exact absurd (show false = true from hs) Bool.false_ne_true
theorem op_ne:OpR X (compareOp .NotEq) rNe:=by
 intro pins s σ H x y v u Q I rx ry h
 obtain ⟨hs,q⟩:=h
 cases x with
 | non =>
  cases rx
  cases y with
  | non=>cases ry; exact PySem.EqNone.ne_none_none (xd7 I q (by simp))
  | bl j=>cases ry; exact PySem.EqNone.ne_none_bool (xd7 I q (by simp))
  | int j=>obtain ⟨t',rfl⟩:=ry; exact PySem.EqNone.ne_none_int (xd7 I q (by simp))
  | str j=>obtain ⟨t',rfl⟩:=ry; exact PySem.EqNone.ne_none_str (xd7 I q (by simp))
  | _=>exact absurd (show false = true from hs) Bool.false_ne_true
 | bl i =>
  cases rx
  cases y with
  | non=>cases ry; exact PySem.EqNone.ne_bool_none (xd7 I q (by simp))
  | bl j=>cases ry; exact ne_bool (xd7 I q (congrArg not dec_bl))
  | str j=>obtain ⟨t',rfl⟩:=ry; exact PySem.EqMixed.ne_bool_str (xd7 I q (by simp))
  | _=>exact absurd (show false = true from hs) Bool.false_ne_true
 | int i =>
  obtain ⟨t,rfl⟩:=rx
  cases y with
  | non=>cases ry; exact PySem.EqNone.ne_int_none (xd7 I q (by simp))
  | int j=>obtain ⟨t',rfl⟩:=ry; exact ne_int (xd7 I q (congrArg not zk6))
  | str j=>obtain ⟨t',rfl⟩:=ry; exact PySem.EqMixed.ne_int_str (xd7 I q (by simp))
  | _=>exact absurd (show false = true from hs) Bool.false_ne_true
 | str i =>
  obtain ⟨t,rfl⟩:=rx
  cases y with
  | non=>cases ry; exact PySem.EqNone.ne_str_none (xd7 I q (by simp))
  | bl j=>cases ry; exact PySem.EqMixed.ne_str_bool (xd7 I q (by simp))
  | int j=>obtain ⟨t',rfl⟩:=ry; exact PySem.EqMixed.ne_str_int (xd7 I q (by simp))
  | str j=>obtain ⟨t',rfl⟩:=ry; exact ne_str (xd7 I q (congrArg not zk5))
  | _=>exact absurd (show false = true from hs) Bool.false_ne_true
 | byt i =>
  obtain ⟨t,rfl⟩:=rx
  cases y with
  | byt j=>obtain ⟨t',rfl⟩:=ry; exact ne_bytes (xd7 I q (congrArg not zk7))
  | _=>exact absurd (show false = true from hs) Bool.false_ne_true
 | _=>cases y <;> exact absurd (show false = true from hs) Bool.false_ne_true
theorem zf8:OpR X (compareOp .Lt) (rI0 fun i j=>.bl (decide (i < j))):=opB0 fun _ _ _ _ _ _ _ q=>lt_int q
theorem xw5:OpR X (compareOp .LtE) (rI0 fun i j=>.bl (decide (i <= j))):=opB0 fun _ _ _ _ _ _ _ q=>le_int q
theorem op_gt:OpR X (compareOp .Gt) (rI0 fun i j=>.bl (decide (j < i))):=opB0 fun _ _ _ _ _ _ _ q=>gt_int q
theorem zf9:OpR X (compareOp .In) (fun x y H Q=>∃ i j,x = .str i /\ y = .str j /\ Q (.bl (!(Builtin.Str.occurrences j i 0 j.length 1).isEmpty)) H):=by
 intro pins s σ H x y v u Q I rx ry h
 obtain ⟨i,j,rfl,rfl,q⟩:=h
 obtain ⟨t,rfl⟩:=rx
 obtain ⟨t',rfl⟩:=ry
 exact in_str (xd7 I q rfl)
theorem xi4 (b:Expr) {op:CmpOp} (h:op ≠ .In:=by decide) (h2:op ≠ .NotIn:=by decide):behindInMarks op b = false:=by
 have e1:(op == CmpOp.In) = false:=by cases op <;> first | rfl | exact absurd rfl h
 have e2:(op == CmpOp.NotIn) = false:=by cases op <;> first | rfl | exact absurd rfl h2
 cases b <;> simp [behindInMarks,e1,e2]
theorem xu1 {op:CmpOp} {r:R2} (ho:OpR X (compareOp op) r) (ha:PE X a ta) (hb:PE X b tb) (hm:behindInMarks op b = false):PE X (.Compare a [op] [b] pos) (tOp r ta tb):=by
 intro pins s σ H Q I h
 exact wpAny_Compare1 (binT ha hb I h fun v u s2 x y H2 I2 rx ry q=>ho pins s2 σ H2 x y v u Q I2 rx ry q) hm
def zc8 (t:TE):TT:=fun σ H Q=>t σ H fun x H'=>∃ k,x = .bl k /\ Q k H'
theorem xh0 {op:CmpOp} {r:R2} (ho:OpR X (compareOp op) r) (ha:PE X a ta) (hb:PE X b tb) (hm:behindInMarks op b = false):PT X (.Compare a [op] [b] pos) (zc8 (tOp r ta tb)):=by
 intro pins s σ H Q I h
 refine wpAny_isTrue_Compare1 (thn (ha pins s σ H _ I h) fun v s1 ⟨x,H1,I1,r1,q1⟩=>thn (hb pins s1 σ H1 _ I1 q1) fun u s2 ⟨y,H2,I2,r2,q2⟩ =>
  thn (ho pins s2 σ H2 x y v u _ I2 r1 r2 q2) fun c s3 ⟨z,H3,I3,r3,k,e,q3⟩=>?_) hm
 subst e
 cases r3
 exact wpAny_truthy_bool ⟨H3,I3,q3⟩
def tChain (r r':R2) (ta tb tc:TE):TE:=fun σ H Q=>ta σ H fun x H1=>tb σ H1 fun y H2=>r x y H2 fun z H3=>∃ k,z = .bl k /\
 (if k = true then tc σ H3 fun w' H4=>r' y w' H4 Q else Q (.bl false) H3)
theorem xx2 {op op':CmpOp} {r r':R2} (ho:OpR X (compareOp op) r) (ho':OpR X (compareOp op') r') (ha:PE X a ta) (hb:PE X b tb) (hc:PE X c tc)
  (hm:lastMarks [op,op'] [b,c] = false:=by with_unfolding_all rfl):PE X (.Compare a [op,op'] [b,c] pos) (tChain r r' ta tb tc):=by
 intro pins s σ H Q I h
 refine Compare_chain (thn (ha pins s σ H _ I h) fun v s1 ⟨x,H1,I1,r1,q1⟩=>chain_link (thn (hb pins s1 σ H1 _ I1 q1) fun u s2 ⟨y,H2,I2,r2,q2⟩ =>
  thn (ho pins s2 σ H2 x y v u _ I2 r1 r2 q2) fun d s3 ⟨z,H3,I3,r3,k,e,q3⟩=>?_)) hm
 subst e
 cases r3
 refine wpAny_truthy_bool ?_
 cases k with
 | false=>exact ite_ff ⟨.bl false,H3,I3,rfl,q3⟩
 | true=>exact ite_tt (chain_last (thn (hc pins s3 σ H3 _ I3 q3) fun w' s4 ⟨z',H4,I4,r4,q4⟩=>ho' pins s4 σ H4 y z' u w' Q I4 r2 r4 q4))
theorem yu3 {op op':CmpOp} {r r':R2} (ho:OpR X (compareOp op) r) (ho':OpR X (compareOp op') r') (ha:PE X a ta) (hb:PE X b tb) (hc:PE X c tc)
  (hm:lastMarks [op,op'] [b,c] = false:=by with_unfolding_all rfl):PT X (.Compare a [op,op'] [b,c] pos) (zc8 (tChain r r' ta tb tc)):=by
 intro pins s σ H Q I h
 refine isTrue_chain (thn (ha pins s σ H _ I h) fun v s1 ⟨x,H1,I1,r1,q1⟩=>test_link (thn (hb pins s1 σ H1 _ I1 q1) fun u s2 ⟨y,H2,I2,r2,q2⟩ =>
  thn (ho pins s2 σ H2 x y v u _ I2 r1 r2 q2) fun d s3 ⟨z,H3,I3,r3,k,e,q3⟩=>?_)) hm
 subst e
 cases r3
 refine wpAny_truthy_bool ?_
 cases k with
 | false =>
  obtain ⟨k',e',q'⟩:=q3
  cases e'
  exact ite_ff ⟨H3,I3,q'⟩
 | true =>
  refine ite_tt (test_last (thn (hc pins s3 σ H3 _ I3 q3) fun w' s4 ⟨z',H4,I4,r4,q4⟩=>thn (ho' pins s4 σ H4 y z' u w' _ I4 r2 r4 q4) fun d' s5 ⟨z2,H5,I5,r5,k2,e2,q5⟩=>?_))
  subst e2
  cases r5
  exact wpAny_truthy_bool ⟨H5,I5,q5⟩
theorem ya3:(sizeLine:Nat) < 2 ^ 63:=by rw [sizeLine_eq]; decide
theorem yz3:OpR X (binaryOp .Add) (fun x y H Q=>∃ i j,x = .str i /\ y = .str j /\ i.length + j.length <= sizeLine /\ Q (.str (i ++ j)) H):=by
 intro pins s σ H x y v u Q I rx ry h
 obtain ⟨i,j,rfl,rfl,hz,q⟩:=h
 obtain ⟨t,rfl⟩:=rx
 obtain ⟨t',rfl⟩:=ry
 exact add_str (fun t' tk=>⟨.str (i ++ j),H,I.tok _,⟨_,rfl⟩,q⟩) hz
theorem xn3 {x:V} {us:List Value} (r:Vals [x] us):∃ u,us = [u] /\ RelV x u:=by
 cases r with
 | cons r1 r2=>cases r2; exact ⟨_,rfl,r1⟩
theorem vals2 {x y:V} {us:List Value} (r:Vals [x,y] us):∃ u w',us = [u,w'] /\ RelV x u /\ RelV y w':=by
 cases r with
 | cons r1 r2 =>
  cases r2 with
  | cons r3 r4=>cases r4; exact ⟨_,_,rfl,r1,r3⟩
theorem zl4 (hc:X.calm = true):xj5 X (.builtin "min") (fun xs H Q=>∃ i j,xs = [.int i,.int j] /\ Q (.int (if j < i then j else i)) H):=by
 intro pins s σ H xs us Q I r h
 obtain ⟨i,j,rfl,q⟩:=h
 obtain ⟨u,w',rfl,⟨t,rfl⟩,⟨t',rfl⟩⟩:=vals2 r
 refine min_two_ints (I.ok.hd hc) fun h' tk k=>⟨_,H,I.kept k,?_,q⟩
 by_cases hj:j < i
 ·rw [if_pos hj,if_pos hj]; exact ⟨_,rfl⟩
 ·rw [if_neg hj,if_neg hj]; exact ⟨_,rfl⟩
theorem zl6:xj5 X (.type "int") (fun xs H Q=>(∃ i,xs = [.int i] /\ Q (.int i) H) \/ ∃ k,xs = [.bl k] /\ Q (.int (if k then 1 else 0)) H):=by
 intro pins s σ H xs us Q I r h
 rcases h with ⟨i,rfl,q⟩ | ⟨k,rfl,q⟩
 ·obtain ⟨u,rfl,t,rfl⟩:=xn3 r
  exact call_int_int ⟨.int i,H,I,⟨_,rfl⟩,q⟩
 ·obtain ⟨u,rfl,r1⟩:=xn3 r
  cases r1
  exact call_int_bool ⟨.int (if k then 1 else 0),H,I.tok _,⟨_,rfl⟩,q⟩
end
structure ObjM (h:Heap) (x dx C:Addr) (mA:Str -> Option Value):Prop where
 obj:h.get? x = some (instObj C dx)
 ns:h.Ns1 dx mA
 ne:dx ≠ x
theorem zh4 {h:Heap} {dx:Addr} {mA:Str -> Option Value} (n:h.Ns1 dx mA):∃ od,h.get? dx = some od /\ ∀ name,lookIn name od = some (mA name):=by
 obtain ⟨o,es,ep,ho,hd,hk,_,hm⟩:=n
 refine ⟨o,ho,fun name=>?_⟩
 have e:=hm name
 unfold nsFind findBy at e
 rw [<- Array.find?_toList] at e
 unfold lookIn
 rw [hd]
 dsimp only
 split
 ·rename_i y q
  rw [q] at e
  exact congrArg some e
 ·rename_i q
  rw [q] at e
  have a:es.toList.any (·.refKey) = false:=by
   rw [List.any_eq_false]
   intro y hy
   obtain ⟨z,t,hkey⟩:=hk y (Array.mem_toList_iff.mp hy)
   simp [DictEntry.refKey,hkey]
  have a':¬ es.toList.any (·.refKey) = true:=by rw [a]; exact Bool.false_ne_true
  rw [if_neg a']
  exact congrArg some e
theorem ObjM.look {h:Heap} {x dx C:Addr} {mA:Str -> Option Value} (I:ObjM h x dx C mA):∃ od,InstAt h x (instObj C dx) C (some od) /\ ∀ name,lookIn name od = some (mA name) :=
 let ⟨od,ho,hl⟩:=zh4 I.ns
 ⟨od,⟨I.obj,rfl,rfl,ho⟩,hl⟩
section
variable {prog:Program} {w:World} {A:Around} {E:Value -> Shared -> Prop} {s:Shared} {K:Frag} {x dx C f:Addr} {mA:Str -> Option Value} {name:Str} {v:Value}
theorem get_map {expr:Bool} {Q:Value -> Shared -> Prop} (X:K.In s.heap) (I:ObjM s.heap x dx C mA) (hg:plainGet K C name = true) (hh:hasDictIn K C = true)
  (ha:findIn K (.ref C) name = some none) (hv:mA name = some v) (hv':handedIn v = true) (h:Q v { s with toks:=s.toks + 1 }) :
  wpAny (model prog w) A (getAttr (.ref x) name expr) Q E s:=by
 obtain ⟨od,J,hl⟩:=I.look
 exact get_value X J (plainGet_of hg).1 (findObj_own hh ha rfl (by rw [hl,hv])) hv' h
theorem get_meth {pl:Sem Bool} {Q:Value × List Value -> Shared -> Prop} (X:K.In s.heap) (I:ObjM s.heap x dx C mA) (hg:plainGet K C name = true)
  (hf:findIn K (.ref C) name = some (some (.ref f))) (ht:isFn K (.ref f) = true) (hv:mA name = none) (h:Q (.ref f,[.ref x]) s) :
  wpAny (model prog w) A (getMethod (.ref x) name pl) Q E s:=by
 obtain ⟨od,J,hl⟩:=I.look
 exact method_fn X J (plainGet_of hg).1 (plainGet_of hg).2 hf (beq_iff_eq.mp ht) (by show (lookIn name od).map (·.isSome) = some false; rw [hl,hv]; rfl) h
theorem set_map {ns:List Str} {Q:Unit -> Shared -> Prop} (X:K.In s.heap) (I:ObjM s.heap x dx C mA)
  (hs:findIn K (.ref C) "__setattr__" = some (some (.builtin "object.__setattr__"))) (hp:plainOver K C = true) (ht:takerIn K C name = some none) (hh:hasDictIn K C = true)
  (hw:PySem.Within mA ns) (hsz:ns.length <= sizeLine)
  (h:∀ h',ObjM h' x dx C (fun y=>if y = name then some v else mA y) -> Heap.SameBut dx s.heap h' -> Q () { s with heap:=h',toks:=s.toks + 2 }) :
  wpAny (model prog w) A (setAttr (.ref x) name v) Q E s:=by
 obtain ⟨od,J,hl⟩:=I.look
 refine set_plain X J hs (osa_open (s:={ s with toks:=s.toks + 1 }) (r:=none) X J hp ht fun b=>?_)
 obtain ⟨cd,hc,hd'⟩:=any_some hh
 have hx:s.heap.get? x = some ⟨.ref C,some dx,.plain,#[]⟩:=I.obj
 refine wpAny_bind (wpAny_pure (wpAny_bind (wpAny_bind (wpAny_loadPart hx (wpAny_bind (PySem.W.Looks.here (s:={ s with toks:=s.toks + 1 }) (looks_clsIn X hc) ?_))))))
 rw [hd']
 refine wpAny_pure (a:=some dx) (wpAny_bind (wpAny_pure (wpAny_bind ?_)))
 refine wpAny_nsSet1 (s:={ s with toks:=s.toks + 1 }) I.ns fun h' hn2 hs2=>?_
 obtain ⟨oD,esD,epD,hoD,hdD,hcD⟩:=hn2.count (PySem.Within.cons name v hw)
 refine wpAny_bind (wpAny_lookBehind hoD (by rw [hdD]; exact pastItsLine_dict (Nat.le_trans hcD (by rw [List.length_cons]; omega))) ?_)
 exact wpAny_pure (h _ ⟨(hs2.2 _ (Ne.symm I.ne)).trans I.obj,hn2,I.ne⟩ hs2)
theorem make_map {R:Result -> Shared -> Prop} {vs:List Value} {kw:List (Str × Value)} (X:K.In s.heap) (hm:makesIn K C = true)
  (hi:findIn K (.ref C) "__init__" = some (some (.ref f))) (hf:typeIn K (.ref f) = some (.type "function"))
  (h:codeAny (model prog w) (A.under (.builtin "type.__call__" ⟨.ref C :: vs,kw⟩)) (.call (.ref f) ⟨.ref (s.heap.objs.size + 1) :: vs,kw⟩) (InitBack (s.heap.objs.size + 1) R)
   { s with heap:=(s.heap.push emptyDict).push (instObj C s.heap.objs.size) }) :
  codeAny (model prog w) A (.call (.ref C) ⟨vs,kw⟩) R s:=by
 obtain ⟨hh,g,d,t,os⟩:=s
 exact make_core (makes_of X hm) (looks_findIn X hi) (fun self=>bind_fn X self hf) (.inl rfl) h
end
def putF (f:Str) (v:V):List (Str × V) -> List (Str × V)
 | []=>[(f,v)]
 | (g,x) :: r=>if g = f then (g,v) :: r else (g,x) :: putF f v r
theorem ya2 (f g:Str) (v:V):∀ fs:List (Str × V),(putF f v fs).lookup g = if g = f then some v else fs.lookup g
 | []=>by
  show List.lookup g [(f,v)] = _
  by_cases h:g = f
  ·have hb:(g == f) = true:=beq_iff_eq.mpr h
   simp only [List.lookup,hb,if_pos h]
  ·have hb:(g == f) = false:=beq_eq_false_iff_ne.mpr h
   simp only [List.lookup,hb,if_neg h]
 | (k,x) :: r=>by
  have ih:=ya2 f g v r
  rw [show putF f v ((k,x) :: r) = (if k = f then (k,v) :: r else (k,x) :: putF f v r) from rfl]
  by_cases hk:k = f
  ·rw [if_pos hk]
   by_cases h:g = k
   ·have hb:(g == k) = true:=beq_iff_eq.mpr h
    simp only [List.lookup,hb,if_pos (h.trans hk)]
   ·have hb:(g == k) = false:=beq_eq_false_iff_ne.mpr h
    simp only [List.lookup,hb,if_neg (fun e:g = f=>h (e.trans hk.symm))]
  ·rw [if_neg hk]
   by_cases h:g = k
   ·have hb:(g == k) = true:=beq_iff_eq.mpr h
    simp only [List.lookup,hb,if_neg (fun e:g = f=>hk (h.symm.trans e))]
   ·have hb:(g == k) = false:=beq_eq_false_iff_ne.mpr h
    simp only [List.lookup,hb]
    exact ih
theorem ya7 (f:Str) (v:V):∀ fs:List (Str × V),f ∈ (putF f v fs).map (·.1) /\ ∀ g,g ∈ fs.map (·.1) -> g ∈ (putF f v fs).map (·.1)
 | []=>⟨by simp [putF],fun g h=>by simp at h⟩
 | (k,x) :: r=>by
  obtain ⟨i1,i2⟩:=ya7 f v r
  rw [show putF f v ((k,x) :: r) = (if k = f then (k,v) :: r else (k,x) :: putF f v r) from rfl]
  by_cases hk:k = f
  ·rw [if_pos hk]
   subst hk
   exact ⟨by simp,fun g h=>by simpa using h⟩
  ·rw [if_neg hk]
   refine ⟨?_,fun g h=>?_⟩
   ·rw [List.map_cons]
    exact List.mem_cons_of_mem _ i1
   ·rw [List.map_cons] at h ⊢
    rcases List.mem_cons.mp h with e | e
    ·exact List.mem_cons.mpr (.inl e)
    ·exact List.mem_cons_of_mem _ (i2 g e)
theorem ya4 (f:Str) (v:V):∀ fs:List (Str × V),(putF f v fs).length <= fs.length + 1
 | []=>by simp [putF]
 | (k,x) :: r=>by
  have ih:=ya4 f v r
  rw [show putF f v ((k,x) :: r) = (if k = f then (k,v) :: r else (k,x) :: putF f v r) from rfl]
  by_cases hk:k = f
  ·rw [if_pos hk,List.length_cons,List.length_cons]; omega
  ·rw [if_neg hk,List.length_cons,List.length_cons]; omega
theorem RelO.some_of {v:V} {o:Option Value} (r:RelO (some v) o):∃ u,o = some u /\ RelV v u:=by
 cases o with
 | none=>exact (show False from r).elim
 | some u=>exact ⟨u,rfl,r⟩
theorem RelO.none_of {o:Option Value} (r:RelO none o):o = none:=by
 cases o with
 | none=>rfl
 | some u=>exact (show False from r).elim
theorem zj2 {v:V} {u:Value} (r:RelV v u):handedIn u = true:=by
 cases v with
 | non=>cases (show u = Value.none from r); rfl
 | bl b=>cases (show u = Value.bool b from r); rfl
 | int i=>obtain ⟨t,e⟩:=(show ∃ t,u = Value.int i t from r); cases e; rfl
 | str x=>obtain ⟨t,e⟩:=(show ∃ t,u = Value.str x t from r); cases e; rfl
 | byt b=>obtain ⟨t,e⟩:=(show ∃ t,u = Value.bytes b t from r); cases e; rfl
 | flt b=>obtain ⟨t,e⟩:=(show ∃ t,u = Value.float b t from r); cases e; rfl
 | ref a=>cases (show u = Value.ref a from r); rfl
 | ty n=>cases (show u = Value.type n from r); rfl
section
variable {P:Program} {w:World} {H H':Hp} {h h':Heap} {a C dx:Addr} {fs fs':List (Str × V)}
theorem yi3 (hok:HOk P w H h) (e:H a = some (.ins C dx fs)):∃ mA,ObjM h a dx C mA /\ (∀ f,RelO (fs.lookup f) (mA f)) /\ PySem.Within mA (fs.map (·.1)) /\ fs.length <= 1000 /\ H dx = some (.own a):=by
 obtain ⟨d,z,ne,ob,mA,n,r,q⟩:=(show xe7 P w H h a (.ins C dx fs) from hok a _ e)
 exact ⟨mA,⟨ob,n,ne⟩,r,q,z,d⟩
end
structure Cls (K:Frag) (C:Addr):Prop where
 pg:plainGet K C Str.empty = true
 hd:hasDictIn K C = true
 po:plainOver K C = true
 sa:findIn K (.ref C) "__setattr__" = some (some (.builtin "object.__setattr__"))
theorem Cls.get {K:Frag} {C:Addr} (c:Cls K C) (f:Str):plainGet K C f = true:=c.pg
def xl3 (K:Frag) (C:Addr) (f:Str):Prop:=findIn K (.ref C) f = some none
theorem xl3.taker {K:Frag} {C:Addr} {f:Str} (n:xl3 K C f):takerIn K C f = some none:=by
 unfold takerIn
 rw [show findIn K (.ref C) f = some none from n]
 rfl
structure Meth (K:Frag) (C:Addr) (m:Str) (f:Addr):Prop where
 at_:findIn K (.ref C) m = some (some (.ref f))
 fn:isFn K (.ref f) = true
 kp:keepIn K (.ref f) = true
section
variable {X:Cx} {pins:List (Addr × Obj)} {σ:St} {H:Hp} {s:Shared} {a C dx:Addr} {fs:List (Str × V)} {f:Str} {v:V} {A:Around} {E:Value -> Shared -> Prop}
theorem za7 {b:Bool} {Q:Value -> Shared -> Prop} (I:Inv X pins σ H s) (e:H a = some (.ins C dx fs)) (c:Cls X.K C) (n:xl3 X.K C f) (l:fs.lookup f = some v)
  (h:∀ u s',Inv X pins σ H s' -> RelV v u -> Q u s'):wpAny (model X.prog X.w) A (getAttr (.ref a) f b) Q E s:=by
 obtain ⟨mA,O,r,_,_,_⟩:=yi3 I.hok e
 obtain ⟨u,hu,ru⟩:=RelO.some_of (v:=v) (o:=mA f) (by rw [<- l]; exact r f)
 exact get_map I.kIn O (c.get f) c.hd n hu (zj2 ru) (h u _ (I.tok _) ru)
theorem za6 {m:Str} {g:Addr} {pl:Sem Bool} {Q:Value × List Value -> Shared -> Prop} (I:Inv X pins σ H s) (e:H a = some (.ins C dx fs)) (c:Cls X.K C) (k:Meth X.K C m g) (l:fs.lookup m = none)
  (h:Q (.ref g,[.ref a]) s):wpAny (model X.prog X.w) A (getMethod (.ref a) m pl) Q E s:=by
 obtain ⟨mA,O,r,_,_,_⟩:=yi3 I.hok e
 have hn:mA m = none:=RelO.none_of (by rw [<- l]; exact r m)
 exact get_meth I.kIn O (c.get m) k.at_ k.fn hn h
theorem yy1 {y:V} {u:Value} {Q:Unit -> Shared -> Prop} (I:Inv X pins σ H s) (e:H a = some (.ins C dx fs)) (c:Cls X.K C) (n:xl3 X.K C f) (hl:fs.length < 1000) (ry:RelV y u)
  (h:∀ s',Inv X pins σ (upd H a (.ins C dx (putF f y fs))) s' -> Q () s'):wpAny (model X.prog X.w) A (setAttr (.ref a) f u) Q E s:=by
 obtain ⟨mA,O,r,wi,_,ho⟩:=yi3 I.hok e
 have hz:(fs.map (·.1)).length <= sizeLine:=by rw [List.length_map,sizeLine_eq]; omega
 refine set_map I.kIn O c.sa c.po n.taker c.hd wi hz fun h' O' sb=>h _ ?_
 have hd:∃ o,h'.get? dx = some o:=let ⟨o,_,_,e',_⟩:=O'.ns; ⟨o,e'⟩
 refine I.write (x:=a) (e:=dx) (by rw [e]; exact True.intro) (.inr ho) (fun b q hb z=>(sb.2 b hb).trans z) hd ?_
 refine ⟨by rw [xa2 O.ne]; exact ho,?_,O.ne,O'.obj,_,O'.ns,fun g=>?_,fun g hg=>?_⟩
 ·have:=ya4 f y fs; omega
 ·show RelO ((putF f y fs).lookup g) (if g = f then some u else mA g)
  rw [ya2]
  by_cases q:g = f
  ·rw [if_pos q,if_pos q]; exact ry
  ·rw [if_neg q,if_neg q]; exact r g
 ·by_cases q:g = f
  ·rw [q]; exact (ya7 f y fs).1
  ·refine (ya7 f y fs).2 g (wi g fun z=>hg ?_)
   show (if g = f then some u else mA g) = none
   rw [if_neg q]; exact z
theorem Inv.made (I:Inv X pins σ H s):Inv X pins σ (upd (upd H s.heap.objs.size (.own (s.heap.objs.size + 1))) (s.heap.objs.size + 1) (.ins C s.heap.objs.size []))
  { s with heap:=(s.heap.push emptyDict).push (instObj C s.heap.objs.size) }:=by
 have e1:(s.heap.push emptyDict).get? s.heap.objs.size = some emptyDict:=Heap.get?_push_size s.heap rfl
 have e2:((s.heap.push emptyDict).push (instObj C s.heap.objs.size)).get? (s.heap.objs.size + 1) = some (instObj C s.heap.objs.size):=by
  have:=Heap.get?_push_size (s.heap.push emptyDict) (o:=instObj C s.heap.objs.size) rfl
  rwa [Heap.size_push] at this
 have e3:(s.heap.push emptyDict).Ns s.heap.objs.size (fun _=>none):=⟨emptyDict,#[],_,e1,rfl,(fun e he=>absurd he (by simp)),fun _=>rfl⟩
 have I1:=I.laid (a:=s.heap.objs.size) (o:=.own (s.heap.objs.size + 1)) (h':=s.heap.push emptyDict) (t':=s.toks) (fun b u q=>Heap.get?_push_of_some _ q) (Nat.le_refl _) ⟨_,e1⟩
 refine I1.laid (a:=s.heap.objs.size + 1) (o:=.ins C s.heap.objs.size []) (t':=s.toks) (fun b u q=>Heap.get?_push_of_some _ q) (Nat.le_of_eq (Heap.size_push _ _)) ?_
 have ne:s.heap.objs.size ≠ s.heap.objs.size + 1:=Nat.ne_of_lt (Nat.lt_succ_self _)
 refine ⟨by rw [xa2 ne,xa0],Nat.zero_le _,ne,e2,fun _=>none,(Heap.Ns1.of_empty e3).at fun o q=>Heap.get?_push_of_some _ q,fun _=>True.intro,fun y hy=>absurd rfl hy⟩
theorem attr_of {prog:Program} {w:World} {env:Env} {e:Expr} {f:Str} {pos:Pos} {s:Shared} {Q:Value -> Shared -> Prop} (hb:attributeBase e f env (eval e env) = eval e env)
  (h:wpAny (model prog w) A (eval e env) (fun o s₁=>wpAny (model prog w) A (getAttr o f true) Q E s₁) E s):wpAny (model prog w) A (eval (.Attribute e f pos) env) Q E s :=
 Attribute_any_ h (by rw [arm_eval_Attribute,hb])
end
def tFld (K:Frag) (ta:TE) (f:Str):TE:=fun σ H Q=>ta σ H fun x H1=>∃ a C dx fs v,x = .ref a /\ H1 a = some (.ins C dx fs) /\ Cls K C /\ xl3 K C f /\ fs.lookup f = some v /\ Q v H1
def sFld (K:Frag) (ta tv:TE) (f:Str):TS:=fun D σ H=>tv σ H fun y H1=>ta σ H1 fun x H2=>∃ a C dx fs,x = .ref a /\ H2 a = some (.ins C dx fs) /\ Cls K C /\ xl3 K C f /\ fs.length < 1000 /\
 D.nx σ (upd H2 a (.ins C dx (putF f y fs)))
section
variable {X:Cx} {o e value:Expr} {f:Str} {pos pos' tpos:Pos} {ta tv:TE}
theorem pe_fld (he:PE X e ta) (hb:attributeBase e f X.env (eval e X.env) = eval e X.env):PE X (.Attribute e f pos) (tFld X.K ta f):=by
 intro pins s σ H Q I h
 refine attr_of hb (thn (he pins s σ H _ I h) fun u s1 ⟨x,H1,I1,rx,a,C,dx,fs,v,ex,ea,c,n,l,q⟩=>?_)
 subst ex
 obtain rfl:u = Value.ref a:=rx
 exact za7 I1 ea c n l fun u' s2 I2 ru=>⟨v,H1,I2,ru,q⟩
theorem xr7 (ha:PE X o ta) (hv:PE X value tv) (hs:swapsWith value (some (.Attribute o f pos')) pos.line X.env = pure false):PS X (.Assign [.Attribute o f pos'] value pos) (sFld X.K ta tv f):=by
 intro pins s σ H D I h
 refine plainObj_wpAny_Assign_Attribute (thn (hv pins s σ H _ I h) fun u s1 ⟨y,H1,I1,ry,q⟩=>thn (ha pins s1 σ H1 _ I1 q) fun ov s2 ⟨x,H2,I2,rx,a,C,dx,fs,ex,ea,c,n,l,q2⟩=>?_) hs
 subst ex
 obtain rfl:ov = Value.ref a:=rx
 exact yy1 I2 ea c n l ry fun s3 I3=>⟨σ,_,I3,q2⟩
end
section
variable {X:Cx} {pins:List (Addr × Obj)} {σ:St} {H:Hp} {s:Shared} {A:Around} {E:Value -> Shared -> Prop} {Q:Value -> Shared -> Prop} {c:Value} {b:Bool}
inductive TyOf (K:Frag) (H:Hp):V -> Value -> Prop where
 | non:TyOf K H .non (.type "NoneType")
 | bl (x:Bool):TyOf K H (.bl x) (.type "bool")
 | int (i:Int):TyOf K H (.int i) (.type "int")
 | str (x:Str):TyOf K H (.str x) (.type "str")
 | flt (x:UInt64):TyOf K H (.flt x) (.type "float")
 | lst {a:Addr} {xs:List V} (e:H a = some (.lst xs)):TyOf K H (.ref a) (.type "list")
 | frz {a:Addr} {o:Obj} {xs:List V} (e:H a = some (.frz o (.lst xs))):TyOf K H (.ref a) (.type "list")
 | tup {a:Addr} {xs:List V} (e:H a = some (.tup xs)):TyOf K H (.ref a) (.type "tuple")
 | dK {a:Addr} {kvs:List (Key × V)} (e:H a = some (.dK kvs)):TyOf K H (.ref a) (.type "dict")
 | dT {a:Addr} {kvs:List (List Key × V)} (e:H a = some (.dT kvs)):TyOf K H (.ref a) (.type "dict")
 | ins {a C dx:Addr} {fs:List (Str × V)} (e:H a = some (.ins C dx fs)) (cl:Cls K C) (ha:findIn K (.ref C) "__class__" = some (some (.builtin "object.__class__")))
   (hn:specialIn K (.builtin "object.__class__") "__get__" = some (some (.builtin "getset_descriptor.__get__"))) (htk:takesIn K (.builtin "object.__class__") = some true)
   (hm:mroIn K C (.type "object") = some true):TyOf K H (.ref a) (.ref C)
theorem ym9 {x:V} {u t:Value} (I:Inv X pins σ H s) (rx:RelV x u) (ty:TyOf X.K H x t) (e:kitOne X.K t c = some b) (h:∀ tk,Q (.bool b) { s with toks:=tk }) :
  wpAny (model X.prog X.w) A (call (.builtin "isinstance") [u,c]) Q E s:=by
 cases ty with
 | non=>cases (show u = Value.none from rx); exact kia_one kitx_none I.kIn True.intro e (fun z=>nomatch z) h
 | bl y=>cases (show u = Value.bool y from rx); exact kia_one kitx_bool I.kIn True.intro e (fun z=>nomatch z) h
 | int i=>obtain ⟨t,q⟩:=(show ∃ t,u = Value.int i t from rx); cases q; exact kia_one kitx_int I.kIn True.intro e (fun z=>nomatch z) h
 | str y=>obtain ⟨t,q⟩:=(show ∃ t,u = Value.str y t from rx); cases q; exact kia_one kitx_str I.kIn True.intro e (fun z=>nomatch z) h
 | flt y=>obtain ⟨t,q⟩:=(show ∃ t,u = Value.float y t from rx); cases q; exact kia_one kitx_float I.kIn True.intro e (fun z=>nomatch z) h
 | @lst a xs ea =>
  cases (show u = Value.ref a from rx)
  obtain ⟨_,_,n,_,h1⟩:=(show xe7 X.prog X.w H s.heap a (.lst xs) from I.hok a _ ea)
  exact kia_one kitx_list I.kIn ⟨_,h1,rfl⟩ e (fun z=>nomatch z) h
 | @frz a ob xs ea =>
  cases (show u = Value.ref a from rx)
  obtain ⟨_,_,_,n,_,h1⟩:=(show xe7 X.prog X.w H s.heap a (.frz ob (.lst xs)) from I.hok a _ ea)
  exact kia_one kitx_list I.kIn ⟨_,h1,rfl⟩ e (fun z=>nomatch z) h
 | @tup a xs ea =>
  cases (show u = Value.ref a from rx)
  obtain ⟨_,_,_,p⟩:=(show xe7 X.prog X.w H s.heap a (.tup xs) from I.hok a _ ea)
  obtain ⟨o,h1,h2,_⟩:=p
  exact kia_one kitx_tuple I.kIn ⟨o,h1,h2⟩ e (fun z=>nomatch z) h
 | @dK a kvs ea =>
  cases (show u = Value.ref a from rx)
  obtain ⟨_,_,vs,_,p⟩:=(show xe7 X.prog X.w H s.heap a (.dK kvs) from I.hok a _ ea)
  obtain ⟨o,es,ep,h1,h2,_⟩:=p
  exact kia_one kitx_dict I.kIn ⟨o,h1,h2.1⟩ e (fun z=>nomatch z) h
 | @dT a kvs ea =>
  cases (show u = Value.ref a from rx)
  obtain ⟨_,_,xs,_,o,es,ep,h1,h2,_⟩:=(show xe7 X.prog X.w H s.heap a (.dT kvs) from I.hok a _ ea)
  exact kia_one kitx_dict I.kIn ⟨o,h1,h2.1⟩ e (fun z=>nomatch z) h
 | @ins a C dx fs ea cl ha hn htk hm =>
  cases (show u = Value.ref a from rx)
  obtain ⟨mA,O,_⟩:=yi3 I.hok ea
  obtain ⟨od,J,_⟩:=O.look
  exact kia_one (kitx_own (cl.get _) cl.hd ha hn htk hm) I.kIn J e (fun z=>nomatch z) h
end
structure Room (k:Nat) (A:Around):Prop where
 hd:A.handled = none
 dp:A.depth + 3 * k + 5 < recursionLimit
 un:A.units + 16 * k + 200 < cLine
theorem Room.mono {j k:Nat} {A:Around} (r:Room k A) (h:j <= k):Room j A:=⟨r.hd,by have:=r.dp; omega,by have:=r.un; omega⟩
theorem Room.deeper {k:Nat} {A:Around} (r:Room (k + 1) A) (env:Env):Room k (A.deeper env) :=
 ⟨r.hd,by have:=r.dp; show A.depth + 1 + 3 * k + 5 < _; omega,by have:=r.un; show A.units + 3 + 16 * k + 200 < _; omega⟩
theorem za0 {A:Around} {C:Addr} {us:List Value} {kw:List (Str × Value)}:(A.under (.builtin "type.__call__" ⟨.ref C :: us,kw⟩)).depth = A.depth + 1:=by
 first | rfl | simp [Around.under,Code.weight,Code.isCreation,Code.isGuard,Code.isCaller,Code.frames,Code.isFrame,guardIds]
theorem yz9 {A:Around} {C:Addr} {us:List Value} {kw:List (Str × Value)}:(A.under (.builtin "type.__call__" ⟨.ref C :: us,kw⟩)).units = A.units + 1:=by
 first | rfl | simp [Around.under,Code.cUnits,Code.frames,Code.isFrame]
theorem Room.make {k:Nat} {A:Around} (r:Room (k + 1) A) (C:Addr) (us:List Value) (kw:List (Str × Value)):Room k (A.under (.builtin "type.__call__" ⟨.ref C :: us,kw⟩)) :=
 ⟨r.hd,by have:=r.dp; rw [za0]; omega,by have:=r.un; rw [yz9]; omega⟩
theorem Room.depth {k:Nat} {A:Around} (r:Room k A):A.depth < recursionLimit:=by have:=r.dp; omega
theorem Room.units {k:Nat} {A:Around} (r:Room k A):A.units + 64 < cLine:=by have:=r.un; omega
def tNil:TA:=fun _ H Q=>Q [] H
def zd2 (ta:TE) (tr:TA):TA:=fun σ H Q=>ta σ H fun x H1=>tr σ H1 fun xs H2=>Q (x :: xs) H2
section
variable {X:Cx} {e:Expr} {es:List Expr} {te:TE} {t:TA} {pos:Pos}
theorem xa5:PA X [] tNil:=fun _ _ _ _ H Q I h=>Calls.spliced_nil ⟨[],H,I,.nil,h⟩
theorem xa1 (ha:PE X e te) (hr:PA X es t) (hs:starEach (e :: es) X.env = (false,eval e X.env) :: starEach es X.env:=by rfl):PA X (e :: es) (zd2 te t):=by
 intro pos pins s σ H Q I h
 rw [hs]
 show wpAny _ _ (spliced ((false,eval e X.env) :: backTo pos (starEach es X.env))) _ _ s
 refine Calls.spliced_cons (thn (ha pins s σ H _ I h) fun u s1 ⟨x,H1,I1,r1,q1⟩=>?_)
 exact thn (hr pos pins s1 σ H1 _ I1 q1) fun us s2 ⟨xs,H2,I2,r2,q2⟩=>⟨x :: xs,H2,I2,.cons r1 r2,q2⟩
end
abbrev Sp:=List V -> Hp -> VK -> XK -> Prop
abbrev CXT:=List Env -> Hp -> Shared -> XK -> Value -> Shared -> Prop
structure Env0 (P:Program) (w:World) (K:Frag) (mg:Str -> Option Value) (base:Heap) (A:Around) (outer:List Env) (s:Shared) (H:Hp):Prop where
 frames:A.frames = some outer
 mod:Mod K mg base
 bs:∀ b o,base.get? b = some o -> s.heap.get? b = some o /\ H b = none
 bsz:base.objs.size <= s.heap.objs.size
 funs:s.heap.FunFrames base outer
 frf:∀ b ∈ frs outer,H b = none
 hok:HOk P w H s.heap
 bare:AllBare s.gens
def CE (outer:List Env) (P:Program) (w:World) (H:Hp) (s:Shared) (Q:VK) (u:Value) (s':Shared):Prop :=
 ∃ v H',s'.os = s.os /\ AllBare s'.gens /\ Un (frs outer) [] H H' s.heap s'.heap /\ HOk P w H' s'.heap /\ RelV v u /\ Q v H'
def CR (CX:CXT) (outer:List Env) (P:Program) (w:World) (H:Hp) (s:Shared) (Q:VK) (E:XK) (r:Result) (s':Shared):Prop :=
 match r with
 | .ok (.ret u)=>CE outer P w H s Q u s'
 | .ok _=>False
 | .error e=>CX outer H s E e s'
structure FnOk (P:Program) (w:World) (K:Frag) (mg:Str -> Option Value) (base:Heap) (CX:CXT) (k:Nat) (f:Addr) (fd:FuncData) (ps:List Str) (sp:Sp):Prop where
 len:∀ vs H Q E,sp vs H Q E -> vs.length = ps.length
 run:∀ (A:Around) (outer:List Env) (s:Shared) (H:Hp) (args:Args) (us:List Value) (vs:List V) (Q:VK) (E:XK),Room k A -> Env0 P w K mg base A outer s H -> BindsTo s fd args (ps.zip us) -> Vals vs us -> sp vs H Q E ->
  codeAny (model P w) A (.call (.ref f) args) (CR CX outer P w H s Q E) s
theorem Env0.make {P:Program} {w:World} {K:Frag} {mg:Str -> Option Value} {base:Heap} {A:Around} {outer:List Env} {s:Shared} {H:Hp} (e:Env0 P w K mg base A outer s H) (C:Addr) (us:List Value) (kw:List (Str × Value)) :
  Env0 P w K mg base (A.under (.builtin "type.__call__" ⟨.ref C :: us,kw⟩)) outer s H:=⟨by first | exact e.frames | (simpa [Around.under,Code.envs,Code.isFrame,pushEnvs] using e.frames),e.mod,e.bs,e.bsz,e.funs,e.frf,e.hok,e.bare⟩
section
variable {X:Cx} {pins:List (Addr × Obj)} {σ:St} {H:Hp} {s s':Shared}
theorem Inv.env0 (I:Inv X pins σ H s):Env0 X.prog X.w X.K X.mg X.base X.A X.stack s H :=
 ⟨I.ok.frames,I.ok.mod,I.bs,Nat.le_trans I.ok.bsz I.sz,I.stack,I.stkFree,I.hok,I.bare⟩
theorem Inv.after {Q:VK} {u:Value} (I:Inv X pins σ H s) (h:CE X.stack X.prog X.w H s Q u s'):EP X pins σ Q u s':=by
 obtain ⟨v,H',os,bare,un,hok,r,q⟩:=h
 obtain ⟨hh,g,d,t,os'⟩:=s'
 obtain rfl:os' = s.os:=os
 exact ⟨v,H',I.call (h':=hh) (g':=g) (d':=d) (t':=t) (ch:=[]) un hok bare (fun b z=>absurd z (by simp)),r,q⟩
end
def tCall (sp:Sp) (dvs:List V) (E:XK) (t:TA):TE:=fun σ H Q=>t σ H fun vs H1=>sp (vs ++ dvs) H1 Q E
def tMeth (C:Addr) (m:Str) (sp:Sp) (dvs:List V) (E:XK) (ta:TE) (t:TA):TE:=fun σ H Q=>ta σ H fun x H1=>∃ a dx fs,x = .ref a /\ H1 a = some (.ins C dx fs) /\ fs.lookup m = none /\
 t σ H1 fun vs H2=>sp (x :: (vs ++ dvs)) H2 Q E
def tMake (C:Addr) (sp:Sp) (dvs:List V) (E:XK) (t:TA):TE:=fun σ H Q=>t σ H fun vs H1=>∀ x dx,H1 x = none -> H1 dx = none -> dx ≠ x ->
 sp (.ref x :: (vs ++ dvs)) (upd (upd H1 dx (.own x)) x (.ins C dx [])) (fun v H2=>v = .non /\ Q (.ref x) H2) E
def xd2 (K:Frag) (fd:FuncData) (ps:List Str) (ds:List Value):Prop :=
 ∀ (s:Shared) (us:List Value),K.In s.heap -> (us ++ ds).length = ps.length -> BindsTo s fd ⟨us,[]⟩ (ps.zip (us ++ ds))
theorem xd2.all {K:Frag} {fd:FuncData} {ps:List Str} (h:∀ us:List Value,us.length = ps.length -> bindArgs fd ⟨us,[]⟩ = pure (ps.zip us)):xd2 K fd ps []:=fun s us _ hl=>by
 rw [List.append_nil] at hl ⊢
 exact .of_eq (h us hl)
def yf7 (CX:CXT) (X:Cx) (E:XK):Prop:=∀ (pins:List (Addr × Obj)) (σ:St) (H:Hp) (s:Shared) (e:Value) (s':Shared),Inv X pins σ H s -> CX X.stack H s E e s' -> X.xe e s'
section
variable {X:Cx} {CX:CXT} {k:Nat} {f C:Addr} {fd:FuncData} {ps:List Str} {sp:Sp} {dvs:List V} {ds:List Value} {E:XK} {x m:Str} {p pos apos:Pos} {e o:Expr} {es:List Expr} {ta:TE} {t:TA}
theorem run_fn {pins:List (Addr × Obj)} {σ:St} {H:Hp} {s:Shared} {Q:VK} {us:List Value} {vs:List V} (F:FnOk X.prog X.w X.K X.mg X.base CX k f fd ps sp) (hr:Room k X.A) (hb:xd2 X.K fd ps ds) (hd:Vals dvs ds) (hx:yf7 CX X E)
  (I:Inv X pins σ H s) (r:Vals vs us) (h:sp (vs ++ dvs) H Q E):wpAny (model X.prog X.w) X.A (call (.ref f) us) (EP X pins σ Q) X.xe s:=by
 have r2:Vals (vs ++ dvs) (us ++ ds):=r.append hd
 have hl:(us ++ ds).length = ps.length:=by rw [<- r2.length]; exact F.len _ _ _ _ h
 refine wpAny_call (codeAny_mono (F.run X.A X.stack s H ⟨us,[]⟩ (us ++ ds) (vs ++ dvs) Q E hr I.env0 (hb s us I.kIn hl) r2 h) fun r s' hq=>?_)
 cases r with
 | error e=>exact hx pins σ H s e s' I hq
 | ok fl =>
  cases fl with
  | ret u=>exact I.after hq
  | next=>exact False.elim hq
  | brk=>exact False.elim hq
  | cont=>exact False.elim hq
theorem xb2 (F:FnOk X.prog X.w X.K X.mg X.base CX k f fd ps sp) (hr:Room k X.A) (hg:Gl X x) (hm:X.mg x = some (.ref f)) (hk:keepIn X.K (.ref f) = true) (hb:xd2 X.K fd ps ds) (hd:Vals dvs ds) (hx:yf7 CX X E)
  (ha:PA X (e :: es) t) (hdb:(x == ("__debug__" : Str)) = false:=by decide) (he:starEach (e :: es) X.env = (false,eval e X.env) :: starEach es X.env:=by rfl) (hpl:(backTo pos (starEach es X.env)).any (·.1) = false:=by rfl) :
  PE X (.Call (.Name x p) (e :: es) [] pos) (tCall sp dvs E t):=by
 intro pins s σ H Q I h
 refine wpAny_Call_Name_kw (ys0 I hg hm ?_ hdb)
 refine callWith_K (h₀:=X.base) I.ok.mod.kin hk (thn (ha pos pins s σ H _ I h) fun us s1 ⟨vs,H1,I1,r,q⟩=>⟨I1.kIn,?_⟩) he hpl
 exact run_fn F hr hb hd hx I1 r q
theorem pe_meth0 {pl:Sem Bool} (he:PE X o ta) (c:Cls X.K C) (hm:Meth X.K C m f) (F:FnOk X.prog X.w X.K X.mg X.base CX k f fd ps sp) (hr:Room k X.A) (hb:xd2 X.K fd ps ds) (hd:Vals dvs ds) (hx:yf7 CX X E)
  (ht:eval (.Call (.Attribute o m apos) [] [] pos) X.env = (do
   let ov <- eval o X.env
   standAt apos.atName
   let (f,first) <- holding [ov] (getMethod ov m pl)
   callWith pos f first (backTo pos (starEach [] X.env)) (backToKw pos (keywordEach [] X.env))):=by rfl) :
  PE X (.Call (.Attribute o m apos) [] [] pos) (tMeth C m sp dvs E ta tNil):=by
 intro pins s σ H Q I h
 refine methodCall_KW (pl:=pl) (thn (he pins s σ H _ I h) fun u s1 ⟨x,H1,I1,rx,a,dx,fs,ex,ea,l,q⟩=>?_) ht
 subst ex
 obtain rfl:u = Value.ref a:=rx
 refine za6 I1 ea c hm l ?_
 exact callWith_K0 (first:=[.ref a]) I1.kIn hm.kp (run_fn (us:=[.ref a]) (vs:=[.ref a]) F hr hb hd hx I1 (.cons rfl .nil) q)
structure Mk (K:Frag) (C f:Addr):Prop where
 makes:makesIn K C = true
 init:findIn K (.ref C) "__init__" = some (some (.ref f))
 fn:isFn K (.ref f) = true
 kp:keepIn K (.ref C) = true
theorem run_make {pins:List (Addr × Obj)} {σ:St} {H:Hp} {s:Shared} {Q:VK} {us:List Value} {vs:List V} (M:Mk X.K C f) (F:FnOk X.prog X.w X.K X.mg X.base CX k f fd ps sp) (hr:Room (k + 1) X.A) (hb:xd2 X.K fd ps ds) (hd:Vals dvs ds)
  (hx:yf7 CX X E) (I:Inv X pins σ H s) (r:Vals vs us)
  (h:∀ x dx,H x = none -> H dx = none -> dx ≠ x -> sp (.ref x :: (vs ++ dvs)) (upd (upd H dx (.own x)) x (.ins C dx [])) (fun v H2=>v = .non /\ Q (.ref x) H2) E) :
  wpAny (model X.prog X.w) X.A (call (.ref C) us) (EP X pins σ Q) X.xe s:=by
 have hq:=h (s.heap.objs.size + 1) s.heap.objs.size (I.hok.fresh (Nat.le_succ _)) (I.hok.fresh (Nat.le_refl _)) (Nat.ne_of_lt (Nat.lt_succ_self _))
 have I2:=Inv.made (C:=C) I
 have r2:Vals (V.ref (s.heap.objs.size + 1) :: (vs ++ dvs)) (Value.ref (s.heap.objs.size + 1) :: (us ++ ds)):=.cons rfl (r.append hd)
 have hl:(Value.ref (s.heap.objs.size + 1) :: us ++ ds).length = ps.length:=by
  have e:=r2.length
  rw [F.len _ _ _ _ hq] at e
  exact e.symm
 refine wpAny_call (make_map (f:=f) I.kIn M.makes M.init (beq_iff_eq.mp M.fn) (codeAny_mono (F.run _ X.stack _ _ ⟨Value.ref (s.heap.objs.size + 1) :: us,[]⟩ (Value.ref (s.heap.objs.size + 1) :: (us ++ ds)) _ _ E (hr.make C us [])
  (I2.env0.make C us []) (hb _ (Value.ref (s.heap.objs.size + 1) :: us) I2.kIn hl) r2 hq) fun r s' hq'=>?_))
 cases r with
 | error e=>exact hx pins σ _ _ e s' I2 hq'
 | ok fl =>
  cases fl with
  | ret u =>
   obtain ⟨v,H',I3,rv,ev,q3⟩:=I2.after hq'
   subst ev
   exact ⟨rv,⟨V.ref (s.heap.objs.size + 1),H',I3,rfl,q3⟩⟩
  | next=>exact False.elim hq'
  | brk=>exact False.elim hq'
  | cont=>exact False.elim hq'
theorem yg8 (M:Mk X.K C f) (F:FnOk X.prog X.w X.K X.mg X.base CX k f fd ps sp) (hr:Room (k + 1) X.A) (hg:Gl X x) (hm:X.mg x = some (.ref C)) (hb:xd2 X.K fd ps ds) (hd:Vals dvs ds) (hx:yf7 CX X E)
  (ha:PA X (e :: es) t) (hdb:(x == ("__debug__" : Str)) = false:=by decide) (he:starEach (e :: es) X.env = (false,eval e X.env) :: starEach es X.env:=by rfl) (hpl:(backTo pos (starEach es X.env)).any (·.1) = false:=by rfl) :
  PE X (.Call (.Name x p) (e :: es) [] pos) (tMake C sp dvs E t):=by
 intro pins s σ H Q I h
 refine wpAny_Call_Name_kw (ys0 I hg hm ?_ hdb)
 refine callWith_K (h₀:=X.base) I.ok.mod.kin M.kp (thn (ha pos pins s σ H _ I h) fun us s1 ⟨vs,H1,I1,r,q⟩=>⟨I1.kIn,?_⟩) he hpl
 exact run_make M F hr hb hd hx I1 r q
end
section
variable {X:Cx} {CX:CXT} {k:Nat} {f C:Addr} {fd:FuncData} {ps ks:List Str} {sp:Sp} {E:XK} {x m:Str} {p pos apos kpos:Pos} {e o:Expr} {es:List Expr} {kws:List Keyword} {te ta:TE} {t tk:TA} {nm:Option Str}
structure KBinds (K:Frag) (fd:FuncData) (ps ks:List Str) (g:List Value -> List Value -> List Value) (gV:List V -> List V -> List V):Prop where
 to:∀ (s:Shared) (us ws:List Value),K.In s.heap -> (g us ws).length = ps.length -> BindsTo s fd ⟨us,ks.zip ws⟩ (ps.zip (g us ws))
 rel:∀ {vs:List V} {us:List Value} {zs:List V} {ws:List Value},Vals vs us -> Vals zs ws -> Vals (gV vs zs) (g us ws)
variable {g:List Value -> List Value -> List Value} {gV:List V -> List V -> List V}
end
structure FnScope (N P:List Str) (sc:Scope):Prop where
 kind:sc.kind = .function
 co:sc.isCoroutine = false
 gen:sc.isGenerator = false
 nd:N.Nodup
 pre:N.take P.length = P
 par:∀ x ∈ P,sc.names.lookup x = some .local \/ sc.names.lookup x = some .cell
 nofree:∀ y ∈ sc.names,y.2 ≠ .free
theorem yp2 {kindOf:Str -> Option NameKind} {x:Str}:∀ {binds:List (Str × Value)} {m:Str -> Option Value},(∀ v,(x,v) ∉ binds) -> bindL kindOf binds m x = m x
 | [],_,_=>rfl
 | (n,v) :: r,m,h=>by
  unfold bindL
  rw [yp2 fun w hw=>h w (List.mem_cons_of_mem _ hw)]
  split
  ·have:x ≠ n:=by rintro rfl; exact h v List.mem_cons_self
   simp [this]
  ·rfl
theorem yp4 {kindOf:Str -> Option NameKind} {x:Str}:∀ {binds:List (Str × Value)} {m:Str -> Option Value},(∀ v,(x,v) ∉ binds) -> bindC kindOf binds m x = m x
 | [],_,_=>rfl
 | (n,v) :: r,m,h=>by
  unfold bindC
  rw [yp4 fun w hw=>h w (List.mem_cons_of_mem _ hw)]
  split
  ·rfl
  ·have:x ≠ n:=by rintro rfl; exact h v List.mem_cons_self
   simp [this]
theorem yp3 {kindOf:Str -> Option NameKind} {x:Str} {v:Value}:∀ {P:List Str} {vs:List Value} {i:Nat} {m:Str -> Option Value},P.Nodup -> P[i]? = some x -> vs[i]? = some v -> kindOf x = some .local ->
  bindL kindOf (P.zip vs) m x = some v
 | [],_,_,_,_,h,_,_=>by simp at h
 | _ :: _,[],_,_,_,_,h,_=>by simp at h
 | p :: P,w :: vs,0,m,nd,h1,h2,hk=>by
  simp at h1 h2; subst h1; subst h2
  show bindL kindOf ((p,w) :: P.zip vs) m p = _
  unfold bindL
  rw [yp2 fun v hv=>(List.nodup_cons.mp nd).1 (List.of_mem_zip hv).1,if_pos hk]
  simp
 | p :: P,w :: vs,i + 1,m,nd,h1,h2,hk=>by
  show bindL kindOf ((p,w) :: P.zip vs) m x = _
  unfold bindL
  exact yp3 (i:=i) (List.nodup_cons.mp nd).2 (by simpa using h1) (by simpa using h2) hk
theorem yp5 {kindOf:Str -> Option NameKind} {x:Str} {v:Value}:∀ {P:List Str} {vs:List Value} {i:Nat} {m:Str -> Option Value},P.Nodup -> P[i]? = some x -> vs[i]? = some v -> kindOf x ≠ some .local ->
  bindC kindOf (P.zip vs) m x = some v
 | [],_,_,_,_,h,_,_=>by simp at h
 | _ :: _,[],_,_,_,_,h,_=>by simp at h
 | p :: P,w :: vs,0,m,nd,h1,h2,hk=>by
  simp at h1 h2; subst h1; subst h2
  show bindC kindOf ((p,w) :: P.zip vs) m p = _
  unfold bindC
  rw [yp4 fun v hv=>(List.nodup_cons.mp nd).1 (List.of_mem_zip hv).1,if_neg hk]
  simp
 | p :: P,w :: vs,i + 1,m,nd,h1,h2,hk=>by
  show bindC kindOf ((p,w) :: P.zip vs) m x = _
  unfold bindC
  exact yp5 (i:=i) (List.nodup_cons.mp nd).2 (by simpa using h1) (by simpa using h2) hk
def start (N:List Str) (vs:List V):St:=vs.map some ++ List.replicate (N.length - vs.length) none
def cxOf (CX:CXT) (P:Program) (w:World) (K:Frag) (mg:Str -> Option Value) (base:Heap) (N:List Str) (qual:Str) (scope:Scope) (f:Addr) (cd:Value) (A:Around) (outer:List Env) (s:Shared) (H:Hp) (E:XK):Cx where
 prog:=P
 w:=w
 K:=K
 mg:=mg
 base:=base
 A:=A.deeper (envOfC qual scope s.heap.objs.size f cd)
 N:=N
 s₀:=s
 H₀:=H
 env:=envOfC qual scope s.heap.objs.size f cd
 outer:=outer
 stack:=envOfC qual scope s.heap.objs.size f cd :: outer
 ex:=[]
 calm:=true
 fn:=fun _=>true
 pn:=[]
 xe:=fun e s'=>wpAny (model P w) (A.deeper (envOfC qual scope s.heap.objs.size f cd)) (leaving (envOfC qual scope s.heap.objs.size f cd) e) (fun _ s''=>CX outer H s E e s'') (fun e' s''=>CX outer H s E e' s'') s'
theorem yx2 {sc:Scope} {n:Nat} {x:Str} (h:sc.names.lookup x = some .cell):∃ c,(cellsFrom n sc.names []).lookup x = some c:=by
 have q:=cellsFrom_some sc.names n [] (.inl h)
 exact Option.isSome_iff_exists.mp q
theorem zi8 {CX:CXT} {P:Program} {w:World} {K:Frag} {mg:Str -> Option Value} {base:Heap} {N ps:List Str} {qual:Str} {scope:Scope} {f:Addr} {cd:Value} {A:Around} {outer:List Env} {s s1:Shared} {H:Hp} {E:XK} {us:List Value} {vs:List V}
  (S:FnScope N ps scope) (hd:A.handled = none) (e0:Env0 P w K mg base A outer s H) (hl:vs.length = ps.length) (r:Vals vs us)
  (x:InCallC s s.heap.objs.size (bindL (envOfC qual scope s.heap.objs.size f cd).kindOf (ps.zip us) fun _=>none) (cellsFrom (s.heap.objs.size + 1) scope.names []) (bindC (envOfC qual scope s.heap.objs.size f cd).kindOf (ps.zip us) fun _=>none) s1) :
  Inv (cxOf CX P w K mg base N qual scope f cd A outer s H E) [] (start N vs) H s1:=by
 have hpl:ps.length <= N.length:=by have:=congrArg List.length S.pre; rw [List.length_take] at this; omega
 obtain ⟨h1,tk,rfl,hk⟩:=x.done
 have noA:∀ b:Addr,b ∉ (cxOf CX P w K mg base N qual scope f cd A outer s H E).ex:=fun b z=>absurd (show b ∈ ([]:List Addr) from z) (by simp)
 refine ⟨⟨e0.mod,S.kind,rfl,rfl,Nat.le_refl _,fun y z c h1 h2=>?_,fun y hy=>?_,fun y c _ h=>?_,fun _=>hd,Around.frames_deeper e0.frames,.inr ⟨rfl,rfl⟩,fun b z=>absurd z (noA b),e0.bs,e0.bsz,fun b _ _=>noA b,fun b z=>absurd z (noA b),e0.funs,e0.frf⟩,
  rfl,e0.bare,Un.kept hk,⟨_,x.toInCall.ns,fun i y v h1 h2 h3=>?_⟩,fun y c h=>⟨_,x.cell y c h⟩,e0.hok.fresh (Nat.le_refl _),fun y c h=>?_,fun p hp=>absurd (show p ∈ ([]:List (Addr × Obj)) from hp) (by simp),e0.hok.kept hk,?_⟩
 ·exact name_of_addr x.apart (PySem.mem_of_lookup h1) (PySem.mem_of_lookup h2)
 ·have hy:scope.names.lookup y = some .cell \/ scope.names.lookup y = some .free:=hy
  rcases hy with hy | hy
  ·exact yx2 hy
  ·exact absurd rfl (S.nofree _ (PySem.mem_of_lookup hy))
 ·exact Nat.le_of_lt (x.above y c (PySem.mem_of_lookup h))
 ·have hi:i < vs.length:=by
   unfold start at h2
   by_cases hi:i < vs.length
   ·exact hi
   ·rw [List.getElem?_append_right (by simpa using hi)] at h2
    rw [List.getElem?_replicate] at h2
    split at h2 <;> cases h2
  have ha:vs[i]? = some v:=by
   unfold start at h2
   rw [List.getElem?_append_left (by simpa using hi),List.getElem?_map] at h2
   cases e:vs[i]? with
   | none=>rw [e] at h2; cases h2
   | some a=>rw [e] at h2; cases h2; rfl
  obtain ⟨u,hu,rv⟩:=r.get ha
  have hp:ps[i]? = some y:=by
   rw [<- S.pre,List.getElem?_take_of_lt (by omega)]; exact h1
  have ndP:ps.Nodup:=by rw [<- S.pre]; exact S.nd.sublist (List.take_sublist _ _)
  refine ⟨u,rv,?_⟩
  rcases S.par y (List.mem_of_getElem? hp) with k | k
  ·exact .inl ⟨k,yp3 ndP hp hu k⟩
  ·obtain ⟨c,e⟩:=yx2 (n:=s.heap.objs.size + 1) k
   refine .inr ⟨.inl k,c,e,?_⟩
   have q:=x.cell y c e
   rw [yp5 ndP hp hu (by show scope.names.lookup y ≠ _; rw [k]; decide)] at q
   exact q
 ·exact e0.hok.fresh (Nat.le_of_lt (x.above y c (PySem.mem_of_lookup h)))
 ·unfold start
  show _ = N.length
  rw [List.length_append,List.length_map,List.length_replicate]
  omega
theorem fn_of {CX:CXT} {P:Program} {w:World} {K:Frag} {mg:Str -> Option Value} {base:Heap} {k:Nat} {f:Addr} {name qual:Str} {params:Arguments} {body:List Stmt} {scope:Scope} {dV kV doc pm cdv ct oc:Value} {an od:Option Addr}
  {osl:Array (Option Value)} {N ps:List Str} {sp:Sp} (lk:K.lookup f = some ⟨oc,od,.func (fnOf name qual params body scope dV kV doc pm an cdv ct),osl⟩) (hcd:codeIn K cdv qual = true) (S:FnScope N ps scope)
  (len:∀ vs H Q E,sp vs H Q E -> vs.length = ps.length)
  (hbody:∀ (A:Around) (outer:List Env) (s:Shared) (H:Hp) (vs:List V) (Q:VK) (E:XK),Room k (A.deeper (envOfC qual scope s.heap.objs.size f cdv)) -> sp vs H Q E ->
   ∃ t,PSs (cxOf CX P w K mg base N qual scope f cdv A outer s H E) body t /\ t { nx:=fun _ H'=>Q .non H',rt:=Q } (start N vs) H) :
  FnOk P w K mg base CX (k + 1) f (fnOf name qual params body scope dV kV doc pm an cdv ct) ps sp:=by
 refine ⟨len,fun A outer s H args us vs Q E hr e0 hb r hsp=>?_⟩
 have hl:=len _ _ _ _ hsp
 have KX:K.In s.heap:=e0.mod.kin.keeps fun b o e=>(e0.bs b o e).1
 have lim:s.heap.NoLimit:=e0.mod.nolimit.keeps fun b o e=>(e0.bs b o e).1
 have hkind:∀ y ∈ ps.zip us,scope.names.lookup y.1 = some .local \/ (scope.names.lookup y.1 = some .cell /\ ((cellsFrom (s.heap.objs.size + 1) scope.names []).lookup y.1).isSome = true):=fun ⟨n,v⟩ hy=>by
  rcases S.par n (List.of_mem_zip hy).1 with q | q
  ·exact .inl q
  ·exact .inr ⟨q,cellsFrom_some _ _ _ (.inl q)⟩
 refine codeAny_call_function hr.depth (KX _ _ lk) rfl S.co S.gen rfl (codeRec_of KX hcd) (hb _ _ _ _ ?_)
 refine wpAny_newFunctionEnv_cells S.kind hkind fun env he s1 x=>?_
 subst he
 refine ⟨lim.keeps x.toInCall.keep,codeAny_func ?_⟩
 obtain ⟨t,ht,hq⟩:=hbody A outer s H vs Q E (hr.deeper _) hsp
 have I:Inv (cxOf CX P w K mg base N qual scope f cdv A outer s H E) [] (start N vs) H s1:=zi8 S hr.hd e0 hl r x
 refine wpAny_mono (ht [] s1 (start N vs) H _ I hq) (fun fl s' hs=>?_) fun e s' hs=>hs
 have fin:∀ {σ':St} {H':Hp} {v:V} {u:Value},Inv (cxOf CX P w K mg base N qual scope f cdv A outer s H E) [] σ' H' s' -> RelV v u -> Q v H' -> CE outer P w H s Q u s' :=
  fun {σ' H' v u} J rv q=>⟨v,H',J.os,J.bare,J.base,J.hok,rv,q⟩
 cases fl with
 | ret u =>
  obtain ⟨v,σ',H',J,rv,q⟩:=hs
  exact fin J rv q
 | next =>
  obtain ⟨σ',H',J,q⟩:=hs
  exact fin (v:=V.non) (u:=Value.none) J rfl q
 | brk =>
  obtain ⟨_,_,_,q⟩:=hs
  exact False.elim q
 | cont =>
  obtain ⟨_,_,_,q⟩:=hs
  exact False.elim q
section
variable {X:Cx} {x:Str} {p pos:Pos} {e:Expr} {es:List Expr} {t:TA} {id T:String} {r:List V -> Hp -> VK -> Prop}
def tCB (r:List V -> Hp -> VK -> Prop) (t:TA):TE:=fun σ H Q=>t σ H fun vs H1=>r vs H1 Q
theorem xb0 (hc:xj5 X (.builtin id) r) (hg:Gl X x) (hm:X.mg x = none) (hv:bootBuiltins x = some (.builtin id)) (ha:PA X (e :: es) t) (hn:x ≠ "__name__":=by decide) (hdb:(x == ("__debug__" : Str)) = false:=by decide)
  (he:starEach (e :: es) X.env = (false,eval e X.env) :: starEach es X.env:=by rfl) (hpl:(backTo pos (starEach es X.env)).any (·.1) = false:=by rfl):PE X (.Call (.Name x p) (e :: es) [] pos) (tCB r t):=by
 intro pins s σ H Q I h
 refine wpAny_Call_Name_kw (ya6 I hg hm hv ?_ hn hdb)
 exact PyProof.Rows.callWith_builtin1 (thn (ha pos pins s σ H _ I h) fun us s1 ⟨vs,H1,I1,r1,q1⟩=>hc pins s1 σ H1 vs us Q I1 r1 q1) he hpl
theorem xd6 (hc:xj5 X (.type T) r) (hg:Gl X x) (hm:X.mg x = none) (hv:bootBuiltins x = some (.type T)) (ha:PA X (e :: es) t) (hn:x ≠ "__name__":=by decide) (hdb:(x == ("__debug__" : Str)) = false:=by decide)
  (he:starEach (e :: es) X.env = (false,eval e X.env) :: starEach es X.env:=by rfl) (hpl:(backTo pos (starEach es X.env)).any (·.1) = false:=by rfl):PE X (.Call (.Name x p) (e :: es) [] pos) (tCB r t):=by
 intro pins s σ H Q I h
 refine wpAny_Call_Name_kw (ya6 I hg hm hv ?_ hn hdb)
 exact PyProof.Rows.callWith_type1 (thn (ha pos pins s σ H _ I h) fun us s1 ⟨vs,H1,I1,r1,q1⟩=>hc pins s1 σ H1 vs us Q I1 r1 q1) he hpl
end
end L2
namespace HT
open PySem PyProof.Rows
section
open PySem.SeqAt
open PySem.AutoSeq1 (wpAny_loadPart')
open PySem.MeetsSeq PySem.MeetsSeq2 PySem.MeetsSeq3
end
section
variable {prog:Program} {w:World} {A:Around} {E:Value -> Shared -> Prop} {s:Shared}
def sIx (n d:Nat):Option Int -> Nat
 | none=>d
 | some v=>if v < 0 then (v + (n:Int)).toNat else min v.toNat n
theorem sIx_none (n d:Nat):sIx n d none = d:=rfl
theorem sIx_nat (n d k:Nat):sIx n d (some (k:Int)) = min k n:=by
 show (if (k:Int) < 0 then ((k:Int) + (n:Int)).toNat else min (k:Int).toNat n) = min k n
 rw [if_neg (by omega),Int.toNat_natCast]
end
end HT
namespace L2
open PySem PySem.Spec PyProof.Rows
abbrev TO:=St -> Hp -> (Option Int -> Hp -> Prop) -> Prop
def PO (X:Cx) (e:Option Expr) (t:TO):Prop :=
 ∀ (pins:List (Addr × Obj)) (s:Shared) (σ:St) (H:Hp) (Q:Option Int -> Hp -> Prop),Inv X pins σ H s -> t σ H Q ->
  wpAny (model X.prog X.w) X.A (evalPart e X.env) (fun u s'=>∃ o H',Inv X pins σ H' s' /\ IsPart u o /\ Q o H') X.xe s
def zd0:TO:=fun _ H Q=>Q none H
def tPart (t:TE):TO:=fun σ H Q=>t σ H fun x H1=>∃ i,x = .int i /\ Q (some i) H1
theorem yf0 {ns:List Int}:∀ {us:List Value},Vals (ns.map V.int) us -> IntsAre us ns:=by
 induction ns with
 | nil=>intro us r; rw [List.map_nil] at r; cases r; exact .nil
 | cons n ns ih =>
  intro us r
  rw [List.map_cons] at r
  cases r with
  | cons r1 r2 =>
   obtain ⟨t,e⟩:=r1
   subst e
   exact .cons n t (ih r2)
section
variable {X:Cx} {e:Expr} {te:TE} {lo hi:Option Expr} {tl th:TO} {pos p2:Pos}
theorem yq9:PO X none zd0:=by
 intro pins s σ H Q I h
 rw [evalPart_none]
 exact wpAny_pure ⟨none,H,I,.none,h⟩
theorem yq8 (h:PE X e te):PO X (some e) (tPart te):=by
 intro pins s σ H Q I hw
 rw [evalPart_some]
 refine thn (h pins s σ H _ I hw) fun u s1 ⟨x,H1,I1,r1,q1⟩=>?_
 obtain ⟨i,rfl,q⟩:=q1
 obtain ⟨t,rfl⟩:=r1
 exact ⟨some i,H1,I1,.int i t,q⟩
def SlR (X:Cx) (r:V -> Option Int -> Option Int -> Hp -> VK -> Prop):Prop :=
 ∀ (pins:List (Addr × Obj)) (s:Shared) (σ:St) (H:Hp) (x:V) (v vl vu:Value) (lo hi:Option Int) (sl:Addr) (Q:VK),Inv X pins σ H s -> RelV x v -> s.heap.IsSliceOf sl vl vu .none -> IsPart vl lo -> IsPart vu hi -> r x lo hi H Q ->
  ∃ T id,typeLookup (.type T) "__getitem__" = pure (some (.builtin id)) /\ s.TypeIs v T /\ wpAny (model X.prog X.w) X.A (getItem v (.ref sl)) (EP X pins σ Q) X.xe s
def tSl (r:V -> Option Int -> Option Int -> Hp -> VK -> Prop) (te:TE) (tl th:TO):TE:=fun σ H Q=>te σ H fun x H1=>tl σ H1 fun l H2=>th σ H2 fun u H3=>r x l u H3 Q
theorem yg7 {r:V -> Option Int -> Option Int -> Hp -> VK -> Prop} (hr:SlR X r) (he:PE X e te) (hl:PO X lo tl) (hu:PO X hi th):PE X (.Subscript e (.Slice lo hi none p2) pos) (tSl r te tl th):=by
 intro pins s σ H Q I h
 refine Subscript_ (thn (he pins s σ H _ I h) fun v s1 ⟨x,H1,I1,r1,q1⟩=>?_)
 refine wpAny_Slice (thn (hl pins s1 σ H1 _ I1 q1) fun vl s2 ⟨l,H2,I2,pl,q2⟩=>thn (hu pins s2 σ H2 _ I2 q2) fun vu s3 ⟨u,H3,I3,pu,q3⟩=>?_)
 rw [evalPart_none]
 refine wpAny_pure ?_
 have I4:Inv X pins σ H3 { s3 with heap:=s3.heap.push { cls:=.type "slice",data:=.fields #[vl,vu,.none] } }:=I3.kept (t':=s3.toks) fun b ob q=>Heap.get?_push_of_some _ q
 obtain ⟨T,id,hT,ht,hg⟩:=hr pins { s3 with heap:=s3.heap.push { cls:=.type "slice",data:=.fields #[vl,vu,.none] } } σ H3 x v vl vu l u s3.heap.objs.size Q I4 r1 (Heap.IsSliceOf.new ..) pl pu q3
 show wpAny (model X.prog X.w) X.A (subscriptTail e (.Slice lo hi none p2) v (.ref s3.heap.objs.size)) (EP X pins σ Q) X.xe { s3 with heap:=s3.heap.push { cls:=.type "slice",data:=.fields #[vl,vu,.none] } }
 exact tail_any (ops:=[.ref s3.heap.objs.size,v]) ht hT hg (by with_unfolding_all rfl)
def cutV (xs:List V) (lo hi:Option Int):List V:=(xs.drop (HT.sIx xs.length 0 lo)).take (HT.sIx xs.length xs.length hi - HT.sIx xs.length 0 lo)
theorem ys9 (xs:List V) (lo hi:Option Int):(cutV xs lo hi).length <= xs.length:=by
 unfold cutV
 rw [List.length_take,List.length_drop]
 omega
end
def ixN (n:Nat) (i:Int):Option Nat:=if 0 <= i then (if i < n then some i.toNat else none) else if -(n:Int) <= i then some (i + n).toNat else none
def atI {α:Type} (xs:List α) (i:Int):Option α:=(ixN xs.length i).bind fun j=>xs[j]?
theorem zi3 {n:Nat} {i:Int} {j:Nat} (h:ixN n i = some j):seqIndex? i n = some j /\ j < n /\ -(n:Int) <= i /\ i < n:=by
 unfold ixN at h
 by_cases h0:0 <= i
 ·rw [if_pos h0] at h
  by_cases h1:i < n
  ·rw [if_pos h1] at h
   have e:i.toNat = j:=Option.some.inj h
   exact ⟨by rw [seqIndex_of h0 h1,e],by omega,by omega,h1⟩
  ·rw [if_neg h1] at h; cases h
 ·rw [if_neg h0] at h
  by_cases h1:-(n:Int) <= i
  ·rw [if_pos h1] at h
   have e:(i + n).toNat = j:=Option.some.inj h
   exact ⟨by rw [seqIndex_neg (by omega) h1,e],by omega,h1,by omega⟩
  ·rw [if_neg h1] at h; cases h
theorem yj5 {α:Type} {xs:List α} {i:Int} {v:α} (h:atI xs i = some v):∃ j,seqIndex? i xs.length = some j /\ xs[j]? = some v /\ j < xs.length /\ -(xs.length:Int) <= i /\ i < xs.length:=by
 unfold atI at h
 cases e:ixN xs.length i with
 | none=>rw [e] at h; cases h
 | some j =>
  rw [e] at h
  obtain ⟨h1,h2,h3,h4⟩:=zi3 e
  exact ⟨j,h1,h,h2,h3,h4⟩
theorem xe6 {α:Type} {xs:List α} {j:Nat} {v:α} (h:xs[j]? = some v):atI xs (j:Int) = some v:=by
 have hj:j < xs.length:=(List.getElem?_eq_some_iff.mp h).1
 have e:ixN xs.length (j:Int) = some j:=by
  unfold ixN
  rw [if_pos (by omega),if_pos (by omega)]; simp
 unfold atI; rw [e]; exact h
theorem atI_last {α:Type} (xs:List α) (v:α):atI (xs ++ [v]) (-1) = some v:=by
 have hl:(xs ++ [v]).length = xs.length + 1:=by simp
 have e:ixN (xs ++ [v]).length (-1) = some xs.length:=by
  unfold ixN
  rw [hl,if_neg (by decide),if_pos (by omega)]
  congr 1
  omega
 unfold atI
 rw [e]
 show (xs ++ [v])[xs.length]? = some v
 simp
def PlainIx (b:Expr):Prop:=∀ o i,subscripted b false o i = operate [o,i] (getItem o i)
def IxR (X:Cx) (r:R2):Prop :=
 ∀ (value slice:Expr) (pins:List (Addr × Obj)) (s:Shared) (σ:St) (H:Hp) (x y:V) (v u:Value) (Q:VK),Inv X pins σ H s -> RelV x v -> RelV y u -> r x y H Q ->
  subscripted slice false v u = operate [v,u] (getItem v u) -> wpAny (model X.prog X.w) X.A (subscriptTail value slice v u) (EP X pins σ Q) X.xe s
def MtR (X:Cx) (id:String) (r:V -> List V -> Hp -> VK -> Prop):Prop :=
 ∀ (pins:List (Addr × Obj)) (s:Shared) (σ:St) (H:Hp) (x:V) (xs:List V) (v:Value) (us:List Value) (Q:VK),Inv X pins σ H s -> RelV x v -> Vals xs us -> r x xs H Q ->
  wpAny (model X.prog X.w) X.A (call (.builtin id) (v :: us)) (EP X pins σ Q) X.xe s
section
variable {X:Cx} {a b:Expr} {ta tb:TE} {pos:Pos}
theorem xi3 {r:R2} (hr:IxR X r) (ha:PE X a ta) (hb:PE X b tb) (hs:PlainIx b):PE X (.Subscript a b pos) (tOp r ta tb):=by
 intro pins s σ H Q I h
 exact Subscript_ (binT ha hb I h fun v u s2 x y H2 I2 rx ry q=>hr a b pins s2 σ H2 x y v u Q I2 rx ry q (hs _ _))
def rIxL (K:Frag):R2:=fun x y H Q=>∃ p xs i v,x = .ref p /\ y = .int i /\ SqL K H p xs /\ atI xs i = some v /\ Q v H
def rIxT (K:Frag):R2:=fun x y H Q=>∃ p xs i v,x = .ref p /\ y = .int i /\ SqT K H p xs /\ atI xs i = some v /\ Q v H
def rIxS:R2:=fun x y H Q=>∃ z i c,x = .str z /\ y = .int i /\ z.length <= sizeLine /\ atI z.cps.toList i = some c /\ Q (.str ⟨#[c]⟩) H
theorem ix_list:IxR X (rIxL X.K):=by
 intro value slice pins s σ H x y v u Q I rx ry h hs
 obtain ⟨p,xs,i,z,rfl,rfl,hq,he,q⟩:=h
 cases rx
 obtain ⟨t,rfl⟩:=ry
 obtain ⟨its,r,pl,hz⟩:=I.list hq
 obtain ⟨j,h1,h2,h3,h4,h5⟩:=yj5 he
 obtain ⟨w,ew,rw'⟩:=r.get h2
 have hl:=r.length
 have hn:=ya3
 have fin:EP X pins σ Q w s:=⟨z,H,I,rw',q⟩
 by_cases h0:0 <= i
 ·have hj:i.toNat = j:=by
   rw [seqIndex_of h0 h5] at h1
   exact Option.some.inj h1
  exact item_listR pl.isList h0 (by omega) (by rw [hj]; simpa using ew) fin hs
 ·have hj:(i + (its.toArray.size:Int)).toNat = j:=by
   rw [seqIndex_neg (by omega) h4] at h1
   rw [List.size_toArray,<- hl]
   exact Option.some.inj h1
  exact subscriptTail_builtinR (x:=w) pl.isList.typeIs slot_list_getitem.lookup
   (wpAny_getItem_list_neg (Q:=fun r s'=>r = w /\ EP X pins σ Q r s') pl.isList (by omega) (by rw [List.size_toArray] <;> omega) (by omega) (by rw [hj]; simpa using ew) ⟨rfl,fin⟩) hs
theorem ix_tup:IxR X (rIxT X.K):=by
 intro value slice pins s σ H x y v u Q I rx ry h hs
 obtain ⟨p,xs,i,z,rfl,rfl,hq,he,q⟩:=h
 cases rx
 obtain ⟨t,rfl⟩:=ry
 obtain ⟨its,r,pl,hz⟩:=I.tuple hq
 obtain ⟨j,h1,h2,h3,h4,h5⟩:=yj5 he
 obtain ⟨w,ew,rw'⟩:=r.get h2
 have hl:=r.length
 have hn:=ya3
 have fin:EP X pins σ Q w s:=⟨z,H,I,rw',q⟩
 exact subscriptTail_builtinR (x:=w) pl.typeIs slot_tuple_getitem.lookup
  (getItem_tuple (j:=j) (Q:=fun r s'=>r = w /\ EP X pins σ Q r s') pl (by omega) (by omega) (by rw [List.size_toArray,<- hl]; exact h1) (by simpa using ew) ⟨rfl,fin⟩) hs
theorem ix_str:IxR X rIxS:=by
 intro value slice pins s σ H x y v u Q I rx ry h hs
 obtain ⟨z,i,c,rfl,rfl,hz,he,q⟩:=h
 obtain ⟨t,rfl⟩:=rx
 obtain ⟨t',rfl⟩:=ry
 obtain ⟨j,h1,h2,h3,h4,h5⟩:=yj5 he
 have hl:z.cps.toList.length = z.length:=by simp [Str.length]
 rw [hl] at h1 h4 h5
 have hn:=ya3
 exact tail_any (typeIs_str s z t) slot_str_getitem.lookup (getItem_str (c:=c) (by
  have e1:decide (i < -(2 ^ 63:Int)) = false:=decide_eq_false (by omega)
  have e2:decide (i >= 2 ^ 63) = false:=decide_eq_false (by omega)
  rw [e1,e2,Bool.or_false]) (by rw [h1]; simpa using h2) ⟨.str ⟨#[c]⟩,H,I.tok _,⟨_,rfl⟩,q⟩) hs
theorem yz8 (its:List Value) (n j:Nat) (u:Value):Obj.mapSeq (·.setIfInBounds j u) { cls:=.type "list",data:=.seq its.toArray n } = { cls:=.type "list",data:=.seq (its.set j u).toArray n }:=by
 simp [Obj.mapSeq]
theorem Inv.lst {pins:List (Addr × Obj)} {σ:St} {H:Hp} {s:Shared} {p:Addr} {xs:List V} (I:Inv X pins σ H s) (h:H p = some (.lst xs)) :
  ∃ (its:List Value) (n:Nat),Vals xs its /\ s.heap.get? p = some { cls:=.type "list",data:=.seq its.toArray n } /\ xs.length <= sizeLine:=by
 obtain ⟨z,its,n,r,e⟩:=I.hok p _ h
 exact ⟨its,n,r,e,z⟩
theorem Inv.lstUpd {pins:List (Addr × Obj)} {σ:St} {H:Hp} {s:Shared} {p:Addr} {xs ys:List V} {its its':List Value} {n n':Nat} {f:Obj -> Obj} (I:Inv X pins σ H s) (h:H p = some (.lst xs))
  (ho:s.heap.get? p = some { cls:=.type "list",data:=.seq its.toArray n }) (hf:f { cls:=.type "list",data:=.seq its.toArray n } = { cls:=.type "list",data:=.seq its'.toArray n' }) (r:Vals ys its') (hz:ys.length <= sizeLine) (t:Nat) :
  Inv X pins σ (upd H p (.lst ys)) { s with heap:=s.heap.update p f,toks:=t }:=by
 have e:(s.heap.update p f).get? p = some { cls:=.type "list",data:=.seq its'.toArray n' }:=by
  rw [Heap.get?_update_self f ho (by rw [hf] <;> rfl),hf]
 refine I.write (x:=p) (e:=p) (by rw [h]; trivial) (.inl rfl) (fun b u hb q=>(Heap.get?_update_other _ _ (Ne.symm hb)).trans q) ⟨_,e⟩ ?_
 exact ⟨hz,its',n',r,e⟩
def rSetL:V -> V -> V -> Hp -> (Hp -> Prop) -> Prop:=fun o i v H Q=>∃ p xs k j,o = .ref p /\ i = .int k /\ H p = some (.lst xs) /\ ixN xs.length k = some j /\ Q (upd H p (.lst (xs.set j v)))
theorem xx0:PSet X rSetL:=by
 intro pins s σ H o i v ov iv u Q I ro ri rv h
 obtain ⟨p,xs,k,j,rfl,rfl,hp,hj,q⟩:=h
 cases ro
 obtain ⟨t,rfl⟩:=ri
 obtain ⟨its,n,r,ho,hz⟩:=I.lst hp
 obtain ⟨h1,h2,h3,h4⟩:=zi3 hj
 have hl:=r.length
 have hn:=ya3
 have I':Inv X pins σ (upd H p (.lst (xs.set j v))) { s with heap:=s.heap.update p (Obj.mapSeq (·.setIfInBounds j u)) } :=
  I.lstUpd hp ho (yz8 its n j u) (r.set rv j) (by rw [List.length_set]; exact hz) s.toks
 by_cases h0:0 <= k
 ·have hk:k.toNat = j:=by
   rw [seqIndex_of h0 h4] at h1
   exact Option.some.inj h1
  exact ki_setAt ho h0 (by omega) (by rw [List.size_toArray,<- hl]; exact h4) (by rw [hk]; exact ⟨_,I',q⟩)
 ·have hk:(k + (its.toArray.size:Int)).toNat = j:=by
   rw [seqIndex_neg (by omega) h3] at h1
   rw [List.size_toArray,<- hl]
   exact Option.some.inj h1
  exact ki_setBack ho (by omega) (by rw [List.size_toArray,<- hl]; exact h3) (by omega) (by rw [hk]; exact ⟨_,I',q⟩)
theorem yk8 (lo hi:Option Int) (n:Nat):(sliceBounds lo hi none n).1 = ((HT.sIx n 0 lo:Nat):Int) /\ (sliceBounds lo hi none n).2.1 = ((HT.sIx n n hi:Nat):Int) /\ (sliceBounds lo hi none n).2.2 = 1:=by
 refine ⟨?_,?_,rfl⟩
 ·cases lo with
  | none=>simp [sliceBounds,HT.sIx]
  | some i =>
   simp only [sliceBounds,HT.sIx,Option.getD_none,show (1:Int) > 0 by decide,if_true]
   by_cases h:i < 0
   ·simp only [h,if_true] <;> omega
   ·simp only [h,if_false] <;> omega
 ·cases hi with
  | none=>simp [sliceBounds,HT.sIx]
  | some i =>
   simp only [sliceBounds,HT.sIx,Option.getD_none,show (1:Int) > 0 by decide,if_true]
   by_cases h:i < 0
   ·simp only [h,if_true] <;> omega
   ·simp only [h,if_false] <;> omega
theorem yg1 (its:List Value) (lo hi:Option Int):slicePick its.toArray lo hi none = ((its.drop (HT.sIx its.length 0 lo)).take (HT.sIx its.length its.length hi - HT.sIx its.length 0 lo)).toArray:=by
 obtain ⟨h1,h2,h3⟩:=yk8 lo hi its.toArray.size
 unfold slicePick
 rw [h1,h2,h3]
 simp only [sliceRange_one,pick_run,List.size_toArray] <;> rfl
def rSlL (K:Frag):V -> Option Int -> Option Int -> Hp -> VK -> Prop:=fun x lo hi H Q=>∃ a xs,x = .ref a /\ SqL K H a xs /\ ∀ p,H p = none -> Q (.ref p) (upd H p (.lst (cutV xs lo hi)))
theorem sl_list:SlR X (rSlL X.K):=by
 intro pins s σ H x v vl vu lo hi sl Q I rx hs pl pu h
 obtain ⟨a,xs,rfl,hx,q⟩:=h
 cases rx
 obtain ⟨its,r,ht,hz⟩:=I.list hx
 have hlen:=r.length
 refine ⟨"list",_,slot_list_getitem.lookup,ht.isList.typeIs,?_⟩
 refine wpAny_getItem_list_slice ht.isList hs pl pu .none (by simp) ?_ (by rw [List.size_toArray] <;> omega)
 rw [yg1,<- hlen]
 refine ⟨.ref s.heap.objs.size,_,I.laid (t':=s.toks) (o:=.lst (cutV xs lo hi)) (fun b ob q=>Heap.get?_push_of_some _ q) (Nat.le_refl _) ?_,rfl,q _ (I.hok.fresh (Nat.le_refl _))⟩
 exact ⟨Nat.le_trans (ys9 xs lo hi) hz,_,0,(r.drop (HT.sIx xs.length 0 lo)).take (HT.sIx xs.length xs.length hi - HT.sIx xs.length 0 lo),Heap.get?_push_size _ rfl⟩
def yn5:V -> Bool
 | .non=>true
 | .bl _=>true
 | .int _=>true
 | .str _=>true
 | _=>false
def eqV:V -> V -> Bool
 | .non,.non=>true
 | .bl a,.bl b=>a == b
 | .bl a,.int b=>(if a then 1 else 0) == b
 | .int a,.bl b=>a == (if b then 1 else 0)
 | .int a,.int b=>a == b
 | .str a,.str b=>a == b
 | _,_=>false
theorem eqAt_V {A:Around} {s:Shared} {y x:V} {u v:Value} (ry:RelV y u) (rx:RelV x v) (fy:yn5 y = true) (fx:yn5 x = true):SeqAt.EqAt A s u v (eqV y x):=by
 cases y with
 | non =>
  cases ry
  cases x with
  | non=>cases rx; exact SeqAt.EqAt.same _
  | bl b=>cases rx; exact SeqAt.EqAt.none_bool b
  | int b=>obtain ⟨t,rfl⟩:=rx; exact SeqAt.EqAt.none_int b t
  | str b=>obtain ⟨t,rfl⟩:=rx; exact SeqAt.EqAt.none_str b t
  | _=>exact absurd (show false = true from fx) Bool.false_ne_true
 | bl a =>
  cases ry
  cases x with
  | non=>cases rx; exact SeqAt.EqAt.bool_none a
  | bl b=>cases rx; exact SeqAt.EqAt.bool_bool a b
  | int b=>obtain ⟨t,rfl⟩:=rx; exact SeqAt.EqAt.bool_int a b t
  | str b=>obtain ⟨t,rfl⟩:=rx; exact SeqAt.EqAt.bool_str a b t
  | _=>exact absurd (show false = true from fx) Bool.false_ne_true
 | int a =>
  obtain ⟨t',rfl⟩:=ry
  cases x with
  | non=>cases rx; exact SeqAt.EqAt.int_none a t'
  | bl b=>cases rx; exact SeqAt.EqAt.int_bool a t' b
  | int b=>obtain ⟨t,rfl⟩:=rx; exact SeqAt.EqAt.int_int a t' b t
  | str b=>obtain ⟨t,rfl⟩:=rx; exact SeqAt.EqAt.int_str a t' b t
  | _=>exact absurd (show false = true from fx) Bool.false_ne_true
 | str a =>
  obtain ⟨t',rfl⟩:=ry
  cases x with
  | non=>cases rx; exact SeqAt.EqAt.str_none a t'
  | bl b=>cases rx; exact SeqAt.EqAt.str_bool a t' b
  | int b=>obtain ⟨t,rfl⟩:=rx; exact SeqAt.EqAt.str_int a t' b t
  | str b=>obtain ⟨t,rfl⟩:=rx; exact SeqAt.EqAt.str_str a t' b t
  | _=>exact absurd (show false = true from fx) Bool.false_ne_true
 | _=>exact absurd (show false = true from fy) Bool.false_ne_true
def eqU (x:V) (u:Value):Bool:=match u with
 | .none=>eqV .non x
 | .bool b=>eqV (.bl b) x
 | .int i _=>eqV (.int i) x
 | .str z _=>eqV (.str z) x
 | _=>false
theorem eqU_of {x y:V} {u:Value} (r:RelV y u) (f:yn5 y = true):eqU x u = eqV y x:=by
 cases y with
 | non=>cases r; rfl
 | bl b=>cases r; rfl
 | int i=>obtain ⟨t,rfl⟩:=r; rfl
 | str z=>obtain ⟨t,rfl⟩:=r; rfl
 | _=>exact absurd (show false = true from f) Bool.false_ne_true
theorem yt5 {x:V}:∀ {xs:List V} {us:List Value},Vals xs us -> xs.all yn5 = true -> us.any (eqU x) = xs.any fun y=>eqV y x
 | _,_,.nil,_=>rfl
 | y :: xs,u :: us,.cons r t,f=>by
  rw [List.all_cons,Bool.and_eq_true] at f
  rw [List.any_cons,List.any_cons,eqU_of r f.1,yt5 t f.2]
theorem yh8 {A:Around} {s:Shared} {x:V} {v:Value} (rx:RelV x v) (fx:yn5 x = true):∀ {xs:List V} {us:List Value},Vals xs us -> xs.all yn5 = true -> ∀ u ∈ us,SeqAt.EqAt A s u v (eqU x u)
 | _,_,.nil,_=>fun u hu=>by cases hu
 | y :: xs,u :: us,.cons r t,f=>fun u' hu=>by
  rw [List.all_cons,Bool.and_eq_true] at f
  rcases List.mem_cons.mp hu with rfl | hu
  ·rw [eqU_of r f.1]; exact eqAt_V r rx f.1 fx
  ·exact yh8 rx fx t f.2 u' hu
def inV (x:V) (xs:List V):Bool:=xs.any fun y=>eqV y x
def rIn (K:Frag) (neg:Bool):R2:=fun x y H Q=>∃ p xs,y = .ref p /\ (SqL K H p xs \/ SqT K H p xs) /\ yn5 x = true /\ xs.all yn5 = true /\ Q (.bl (if neg then !inV x xs else inV x xs)) H
theorem zg0:OpR X (compareOp .In) (rIn X.K false):=by
 intro pins s σ H x y v u Q I rx ry h
 obtain ⟨p,xs,rfl,hq,fx,fs,q⟩:=h
 cases ry
 rcases hq with hq | hq
 ·obtain ⟨its,r,pl,hz⟩:=I.list hq
  refine SeqAt.in_listAt (eqU x) pl.isList (fun w hw=>yh8 rx fx r fs w (by simpa using hw)) ⟨.bl _,H,I,rfl,?_⟩
  rw [show its.toArray.any (eqU x) = its.any (eqU x) by simp,yt5 r fs]
  exact q
 ·obtain ⟨its,r,pl,hz⟩:=I.tuple hq
  refine SeqAt.in_tupleAt (eqU x) pl (fun w hw=>yh8 rx fx r fs w (by simpa using hw)) ⟨.bl _,H,I,rfl,?_⟩
  rw [show its.toArray.any (eqU x) = its.any (eqU x) by simp,yt5 r fs]
  exact q
theorem yo9:xj5 X (.builtin "len") (fun xs H Q=>∃ p ys,xs = [.ref p] /\ (SqL X.K H p ys \/ SqT X.K H p ys) /\ Q (.int ys.length) H):=by
 intro pins s σ H xs us Q I r h
 obtain ⟨p,ys,rfl,hq,q⟩:=h
 obtain ⟨u,rfl,rx⟩:=xn3 r
 cases rx
 have hn:=ya3
 rcases hq with hq | hq
 ·obtain ⟨its,r',pl,hz⟩:=I.list hq
  have hlen:=r'.length
  exact Calls.call_len_list pl.isList (by simp only [List.size_toArray] <;> omega) ⟨.int ys.length,H,I.tok _,⟨s.toks + 1,by rw [List.size_toArray,hlen]⟩,q⟩
 ·obtain ⟨its,r',pl,hz⟩:=I.tuple hq
  have hlen:=r'.length
  exact len_tuple pl (by simp only [List.size_toArray] <;> omega) ⟨.int ys.length,H,I.tok _,⟨s.toks + 1,by rw [List.size_toArray,hlen]⟩,q⟩
theorem yo8:xj5 X (.builtin "len") (fun xs H Q=>∃ z,xs = [.str z] /\ z.length <= sizeLine /\ Q (.int z.length) H):=by
 intro pins s σ H xs us Q I r h
 obtain ⟨z,rfl,hz,q⟩:=h
 obtain ⟨u,rfl,t,rfl⟩:=xn3 r
 have hn:=ya3
 exact len_str (by omega) ⟨.int z.length,H,I.tok _,⟨_,rfl⟩,q⟩
theorem yo7:xj5 X (.type "list") (fun xs H Q=>∃ p ys,xs = [.ref p] /\ (SqL X.K H p ys \/ SqT X.K H p ys) /\ ∀ l,H l = none -> Q (.ref l) (upd H l (.lst ys))):=by
 intro pins s σ H xs us Q I r h
 obtain ⟨p,ys,rfl,hq,q⟩:=h
 obtain ⟨u,rfl,rx⟩:=xn3 r
 cases rx
 have fin:∀ (its:List Value),Vals ys its -> ys.length <= sizeLine -> ∀ (h':Heap) (c':Nat),(∀ b o',s.heap.get? b = some o' -> h'.get? b = some o') ->
   h'.get? s.heap.objs.size = some { cls:=.type "list",dict:=none,data:=.seq its.toArray c',slots:=#[] } -> EP X pins σ Q (.ref s.heap.objs.size) { s with heap:=h' }:=fun its r' hz h' c' kp e =>
  ⟨.ref s.heap.objs.size,_,I.laid (t':=s.toks) kp (Nat.le_refl _) (show xe7 X.prog X.w _ h' _ (.lst ys) from ⟨hz,its,c',r',e⟩),rfl,q _ (I.hok.fresh (Nat.le_refl _))⟩
 rcases hq with hq | hq
 ·obtain ⟨its,r',pl,hz⟩:=I.list hq
  have hlen:=r'.length
  obtain ⟨o,ho,hc,n,hd⟩:=pl.isList
  exact call_list_seq p (.inl rfl) ho hc hd (fun h' c' kp e=>fin its r' hz h' c' kp e) (by simp only [List.size_toArray] <;> omega)
 ·obtain ⟨its,r',pl,hz⟩:=I.tuple hq
  have hlen:=r'.length
  obtain ⟨o,ho,hc,n,hd⟩:=pl
  exact call_list_seq p (.inr rfl) ho hc hd (fun h' c' kp e=>fin its r' hz h' c' kp e) (by simp only [List.size_toArray] <;> omega)
def tyV (K:Frag) (T:String) (x:V) (H:Hp):Prop:=match x with
 | .str _=>T = "str"
 | .int _=>T = "int"
 | .ref p=>(T = "list" /\ ∃ xs,SqL K H p xs) \/ (T = "tuple" /\ ∃ o,K.lookup p = some o /\ o.cls = .type "tuple" /\ o.dict = none) \/
   (T = "dict" /\ ((∃ kvs,H p = some (.dK kvs)) \/ ∃ kvs,H p = some (.dT kvs))) \/ (T = "set" /\ ∃ S n,H p = some (.set S n))
 | _=>False
theorem tyV_is {pins:List (Addr × Obj)} {σ:St} {H:Hp} {s:Shared} {T:String} {x:V} {v:Value} (I:Inv X pins σ H s) (r:RelV x v) (ty:tyV X.K T x H) :
  s.TypeIs v T /\ ∀ a,v = .ref a -> ∃ ob,s.heap.get? a = some ob /\ ob.dict = none:=by
 cases x with
 | str z =>
  obtain ⟨t,rfl⟩:=r
  cases (show T = "str" from ty)
  exact ⟨typeIs_str s z t,fun _ e=>nomatch e⟩
 | int i =>
  obtain ⟨t,rfl⟩:=r
  cases (show T = "int" from ty)
  exact ⟨typeIs_int s i t,fun _ e=>nomatch e⟩
 | ref p =>
  cases r
  rcases ty with ⟨rfl,xs,hq⟩ | ⟨rfl,o,hk,hc,hd⟩ | ⟨rfl,hk⟩ | ⟨rfl,S,n,hk⟩
  ·obtain ⟨its,_,pl,_⟩:=I.list hq
   refine ⟨pl.isList.typeIs,fun a e=>?_⟩
   cases e
   obtain ⟨o,n,e,c,hd,_⟩:=pl
   exact ⟨o,e,hd⟩
  ·refine ⟨⟨o,I.kIn p o hk,hc⟩,fun a e=>?_⟩
   cases e
   exact ⟨o,I.kIn _ o hk,hd⟩
  ·have z:∃ o,s.heap.get? p = some o /\ o.ExactDict:=by
    rcases hk with ⟨kvs,hk⟩ | ⟨kvs,hk⟩
    ·obtain ⟨_,_,_,_,o,_,_,e,ex,_⟩:=I.hok p _ hk
     exact ⟨o,e,ex⟩
    ·obtain ⟨_,_,_,_,o,_,_,e,ex,_⟩:=I.hok p _ hk
     exact ⟨o,e,ex⟩
   obtain ⟨o,e,ex⟩:=z
   refine ⟨⟨o,e,ex.1⟩,fun a e2=>?_⟩
   cases e2
   exact ⟨o,e,ex.2.1⟩
  ·obtain ⟨o,_,_,_,e,ex,_⟩:=I.hok p _ hk
   refine ⟨⟨o,e,ex.1⟩,fun a e2=>?_⟩
   cases e2
   exact ⟨o,e,ex.2.1⟩
 | _=>exact False.elim ty
def tBM (K:Frag) (T:String) (r:V -> List V -> Hp -> VK -> Prop) (to:TE) (t:TA):TE:=fun σ H Q=>to σ H fun x H1=>tyV K T x H1 /\ t σ H1 fun xs H2=>r x xs H2 Q
variable {o e:Expr} {es:List Expr} {to:TE} {t:TA} {name:Str} {apos cpos:Pos} {T id:String} {r:V -> List V -> Hp -> VK -> Prop}
theorem yg9 (pa:PlainAttrs T) (slot:Slot T name id) (hty:typeOf (.builtin id) = pure (.type "method_descriptor")) (hm:MtR X id r) (ho:PE X o to) (ha:PA X (e :: es) t)
  (hbase:attributeBase o name X.env (eval o X.env) = eval o X.env:=by rfl)
  (hfew:((backTo cpos (starEach (e :: es) X.env)).all (fun x=>!x.1) && (backToKw cpos (keywordEach [] X.env)).all (fun x=>x.1.isSome)
   && decide ((e :: es).length + ([]:List Keyword).length + (if ([]:List Keyword).isEmpty then 0 else 1) < 30)) = true:=by rfl)
  (hline:(apos.endLine == cpos.line) = true:=by rfl) (hs:starEach (e :: es) X.env = (false,eval e X.env) :: starEach es X.env:=by rfl) (hplain:(backTo cpos (starEach es X.env)).any (·.1) = false:=by rfl) :
  PE X (.Call (.Attribute o name apos) (e :: es) [] cpos) (tBM X.K T r to t):=by
 intro pins s σ H Q I h
 refine wpAny_Call_method_late hbase hfew hline rfl (thn (ho pins s σ H _ I h) fun v s1 ⟨x,H1,I1,r1,ty,q1⟩=>?_)
 obtain ⟨h1,h2⟩:=tyV_is I1 r1 ty
 refine ⟨T,id,pa,slot,hty,h1,h2,?_⟩
 have hA:=ha cpos pins s1 σ H1 _ I1 q1
 rw [hs] at hA ⊢
 refine Calls.callWith_builtin (by show (false || (backTo cpos (starEach es X.env)).any (·.1)) = false; rw [hplain] <;> rfl) (Calls.evalArgs_plain ?_)
 exact thn hA fun us s2 ⟨vs,H2,I2,r2,q2⟩=>hm pins s2 σ H2 x vs v us Q I2 r1 r2 q2
end
def MtM (X:Cx) (id:String) (r:V -> List V -> Hp -> VK -> Prop):Prop :=
 ∀ (pins:List (Addr × Obj)) (s:Shared) (σ:St) (H:Hp) (x:V) (xs:List V) (v:Value) (us:List Value) (Q:VK),Inv X pins σ H s -> RelV x v -> Vals xs us -> r x xs H Q ->
  wpAny (model X.prog X.w) X.A (call (.builtin id) (v :: us)) (EP X pins σ Q) X.xe s
theorem Vals.one:∀ {x:V} {us:List Value},Vals [x] us -> ∃ u,us = [u] /\ RelV x u
 | _,_,.cons r .nil=>⟨_,rfl,r⟩
theorem Vals.rep {xs:List V} {us:List Value} (h:Vals xs us):∀ k:Nat,Vals (List.replicate k xs).flatten (List.replicate k us).flatten
 | 0=>.nil
 | k + 1=>by
  rw [List.replicate_succ,List.replicate_succ,List.flatten_cons,List.flatten_cons]
  exact Vals.append h (Vals.rep h k)
theorem yn4 (its:List Value):∀ (k:Nat) (acc:List Value),
  List.foldl (fun x1 x2=>x1 ++ x2) acc.toArray (List.replicate k its.toArray) = (acc ++ (List.replicate k its).flatten).toArray
 | 0,acc=>by simp
 | k + 1,acc=>by
  have e:acc.toArray ++ its.toArray = (acc ++ its).toArray:=by simp
  have e2:(acc ++ its) ++ (List.replicate k its).flatten = acc ++ (List.replicate (k + 1) its).flatten:=by
   rw [List.replicate_succ,List.flatten_cons,List.append_assoc]
  rw [<- e2,<- yn4 its k (acc ++ its),<- e,List.replicate_succ,List.foldl_cons]
section
variable {X:Cx} {pins:List (Addr × Obj)} {σ:St} {H:Hp} {s:Shared} {l b:Addr} {xs ys zs:List V}
theorem Inv.lset {its its':List Value} {n:Nat} {f:Array Value -> Array Value} {t':Nat} (I:Inv X pins σ H s) (hH:H l = some (.lst xs))
  (e:s.heap.get? l = some { cls:=.type "list",data:=.seq its.toArray n }) (hf:f its.toArray = its'.toArray) (hv:Vals ys its') (hz:ys.length <= sizeLine) :
  Inv X pins σ (upd H l (.lst ys)) { s with heap:=s.heap.update l (Obj.mapSeq f),toks:=t' }:=by
 have q:=PySem.IsL.update e f
 rw [hf] at q
 refine I.write (x:=l) (e:=l) (by rw [hH]; exact trivial) (.inl rfl) (fun b' u hb hu=>(Heap.get?_update_other s.heap (Obj.mapSeq f) (Ne.symm hb)).trans hu) ⟨_,q⟩ ?_
 exact ⟨hz,its',_,hv,q⟩
theorem Inv.lnew {its:List Value} {t':Nat} (I:Inv X pins σ H s) (hv:Vals ys its) (hz:ys.length <= sizeLine) :
  Inv X pins σ (upd H s.heap.objs.size (.lst ys)) { s with heap:=s.heap.push { cls:=.type "list",data:=.seq its.toArray },toks:=t' } :=
 I.laid (fun _ _ q=>Heap.get?_push_of_some _ q) (Nat.le_refl _) ⟨hz,its,0,hv,Heap.get?_push_size _ rfl⟩
theorem Inv.fresh (I:Inv X pins σ H s):H s.heap.objs.size = none:=I.hok.fresh (Nat.le_refl _)
theorem Inv.lstM (I:Inv X pins σ H s) (hH:H l = some (.lst xs)):xs.length <= sizeLine /\ ∃ (its:List Value) (n:Nat),Vals xs its /\ xs.length = its.length /\ s.heap.get? l = some { cls:=.type "list",data:=.seq its.toArray n }:=by
 obtain ⟨z,its,n,r,e⟩:=I.hok l _ hH
 exact ⟨z,its,n,r,r.length,e⟩
theorem yu9 {n:Nat} (h:n <= sizeLine):Builtin.List.listTooLong n = false:=by
 unfold Builtin.List.listTooLong
 exact decide_eq_false (by omega)
end
section
variable {X:Cx}
def yq6:V -> List V -> Hp -> VK -> Prop:=fun x vs H Q=>∃ l xs y,x = .ref l /\ vs = [y] /\ H l = some (.lst xs) /\ xs.length < sizeLine /\ Q .non (upd H l (.lst (xs ++ [y])))
theorem xh3:MtM X "list.append" yq6:=by
 intro pins s σ H x vs v us Q I rx rv h
 obtain ⟨l,xs,y,rfl,rfl,hH,hz,q⟩:=h
 cases rx
 obtain ⟨u,rfl,ru⟩:=rv.one
 obtain ⟨z,its,n,r,hl,e⟩:=I.lstM hH
 refine call_meets F.slot_list_append ⟨_,e,rfl⟩ F.entry_list_append (F.args_list_append_2 _ _) (PySem.list_append l its.toArray n u (by rw [List.size_toArray]; omega)) ⟨e,?_⟩
 refine ⟨.non,_,I.lset (its':=its ++ [u]) hH e (by simp) (r.append (.cons ru .nil)) ?_,rfl,q⟩
 rw [List.length_append,List.length_singleton]
 omega
def rExtend:V -> List V -> Hp -> VK -> Prop:=fun x vs H Q=>∃ l b xs zs,x = .ref l /\ vs = [.ref b] /\ H l = some (.lst xs) /\ H b = some (.lst zs) /\ xs.length + zs.length <= sizeLine /\ Q .non (upd H l (.lst (xs ++ zs)))
theorem zh2:MtM X "list.extend" rExtend:=by
 intro pins s σ H x vs v us Q I rx rv h
 obtain ⟨l,b,xs,zs,rfl,rfl,hH,hB,hz,q⟩:=h
 cases rx
 obtain ⟨u,rfl,ru⟩:=rv.one
 cases ru
 obtain ⟨z,its,n,r,hl,e⟩:=I.lstM hH
 obtain ⟨z2,its2,n2,r2,hl2,e2⟩:=I.lstM hB
 have hsz:its.toArray.size + its2.toArray.size <= sizeLine:=by rw [List.size_toArray,List.size_toArray]; omega
 have hlong:¬ (!its.toArray.isEmpty && Builtin.List.listTooLong (its.toArray.size + its2.toArray.size)) = true:=by
  rw [yu9 hsz,Bool.and_false]
  exact Bool.false_ne_true
 refine call_meets F.slot_list_extend ⟨_,e,rfl⟩ F.entry_list_extend (F.args_list_extend_2 _ _)
  (AutoSeq1.list_extend_list_list_0 l its.toArray n b its2.toArray n2 hlong (by rw [List.size_toArray]; omega) (by omega)) ⟨e,e2,?_⟩
 refine ⟨.non,_,I.lset (its':=its ++ its2) hH e (by simp) (r.append r2) ?_,rfl,q⟩
 rw [List.length_append]
 omega
def rCat:R2:=fun x y H Q=>∃ l b xs zs,x = .ref l /\ y = .ref b /\ H l = some (.lst xs) /\ H b = some (.lst zs) /\ xs.length + zs.length <= sizeLine /\ ∀ p,H p = none -> Q (.ref p) (upd H p (.lst (xs ++ zs)))
theorem op_cat:OpR X (binaryOp .Add) rCat:=by
 intro pins s σ H x y v u Q I rx ry h
 obtain ⟨l,b,xs,zs,rfl,rfl,hH,hB,hz,q⟩:=h
 cases rx
 cases ry
 obtain ⟨z,its,n,r,hl,e⟩:=I.lstM hH
 obtain ⟨z2,its2,n2,r2,hl2,e2⟩:=I.lstM hB
 refine PySem.P.add_list e e2 ?_ (by rw [List.size_toArray,List.size_toArray]; omega)
 have ea:its.toArray ++ its2.toArray = (its ++ its2).toArray:=by simp
 rw [ea]
 exact ⟨.ref _,_,I.lnew (t':=s.toks) (r.append r2) (by rw [List.length_append]; omega),rfl,q _ I.fresh⟩
def rRep:R2:=fun x y H Q=>∃ l k xs,x = .ref l /\ y = .int k /\ H l = some (.lst xs) /\ -(2 ^ 63) <= k /\ k < 2 ^ 63 /\ xs.length * k.toNat <= sizeLine /\
 ∀ p,H p = none -> Q (.ref p) (upd H p (.lst (List.replicate k.toNat xs).flatten))
theorem len_rep {α:Type} (xs:List α) (k:Nat):(List.replicate k xs).flatten.length = k * xs.length:=by
 induction k with
 | zero=>simp
 | succ k ih=>rw [List.replicate_succ,List.flatten_cons,List.length_append,ih,Nat.succ_mul,Nat.add_comm]
theorem zf7:OpR X (binaryOp .Mult) rRep:=by
 intro pins s σ H x y v u Q I rx ry h
 obtain ⟨l,k,xs,rfl,rfl,hH,h1,h2,hz,q⟩:=h
 cases rx
 obtain ⟨t,rfl⟩:=ry
 obtain ⟨z,its,n,r,hl,e⟩:=I.lstM hH
 have hlen:its.toArray.size * k.toNat <= sizeLine:=by rw [List.size_toArray,<- hl]; exact hz
 have hcap:¬ its.toArray.size * k.toNat > (2 ^ 63 - 1) / 8:=by
  have:(sizeLine:Nat) <= (2 ^ 63 - 1) / 8:=by decide
  omega
 have hfit:¬ (!Builtin.List.listFitsIndex k) = true:=by
  rw [fitsIndex_both h1 h2]
  exact Bool.false_ne_true
 have hlong:¬ Builtin.List.listTooLong (its.toArray.size * k.toNat) = true:=by
  rw [yu9 hlen]
  exact Bool.false_ne_true
 have hnew:List.foldl (fun x1 x2=>x1 ++ x2) #[] (List.replicate (if its.toArray.isEmpty = true then 0 else k.toNat) its.toArray) = (List.replicate k.toNat its).flatten.toArray:=by
  have f0:∀ m:Nat,List.foldl (fun x1 x2=>x1 ++ x2) #[] (List.replicate m its.toArray) = (List.replicate m its).flatten.toArray:=fun m=>by
   have:=yn4 its m []
   rw [List.nil_append] at this
   exact this
  rw [f0]
  cases its with
  | nil=>simp
  | cons a r'=>rw [if_neg (by simp)]
 refine wpAny_binaryOp_repeat_ref (T:="list") (U:="int") (by decide) ⟨_,e,rfl⟩ (fun s'=>typeIs_int s' k t) noFill_list_mul F.fills_int_mul F.slot_int_rmul repeat_list F.slot_int_index.lookup
  (call_meets F.slot_int_rmul (typeIs_int s k t) F.entry_int_rmul (F.args_int_rmul_2 _ _) (int___rmul___int_list k t l its.toArray n)
   ⟨e,rfl,⟨_,e,rfl⟩,call_meets F.slot_list_mul ⟨_,e,rfl⟩ F.entry_list_mul (F.args_list_mul_2 _ _) (AutoListH.list___mul___list_int_3 l its.toArray n k t hfit hcap hlong) ⟨e,?_⟩⟩)
 rw [hnew]
 exact ⟨.ref _,_,I.lnew (t':=s.toks) (r.rep k.toNat) (by rw [len_rep,Nat.mul_comm]; exact hz),rfl,q _ I.fresh⟩
end
section
variable {prog:Program} {w:World} {A:Around} {E:Value -> Shared -> Prop} {s:Shared}
end
section
variable {X:Cx}
end
end L2
namespace Att
open PySem PySem.W PySem.Calls PyProof.Rows
theorem ya8 {P:Params} {h:Heap}:∀ (ns:List Int) (vs:List Value),WellAll P h vs (ns.map WData.int) -> IntsAre vs ns:=by
 intro ns
 induction ns with
 | nil =>
  intro vs w
  rw [List.map_nil] at w
  cases w
  exact .nil
 | cons n ns ih =>
  intro vs w
  rw [List.map_cons] at w
  cases w with
  | cons a b =>
   cases a
   exact .cons _ _ (ih _ b)
theorem ze3 {l:OpenLaw} {n:Nat} (hn:l.most = some n) {P:Params} {h:Heap} {args:List WData} {vals:List Value}
  (hpre:l.row.toRowW.claim.pre args = true) (hwl:WellAll P h vals args) :
  ∃ a vs ns,vals = [Value.ref a] /\ args = [WData.list (ns.map WData.int)] /\ h.get? a = some { cls:=.type "list",data:=.seq vs.toArray } /\ IntsAre vs ns /\ ns.length <= n:=by
 have hsh:WShape.hasAll [] args [.list .int] = true:=(pre_splitW hpre).1
 have hc:l.pre.holds [] { args:=args } = true:=(pre_splitW hpre).2
 obtain ⟨d,r,rfl,h1,h2⟩:=hasAllW_cons hsh
 obtain rfl:=hasAllW_nil h2
 obtain ⟨xs,rfl,h3⟩:=hasW_list h1
 obtain ⟨ns,rfl⟩:=items_int h3
 have hlen:ns.length <= n:=by
  unfold OpenLaw.pre at hc
  have h4:(WTm.not (.lt (.lit (.int (n:Int))) (.len (.arg 0)))).holds [] { args:=[.list (ns.map .int)] } = true:=by
   have h4:=(holds_andW hc).1
   rw [hn] at h4
   exact h4
  have h5:=condW_of h4 (w_not (w_lt w_lit (w_len_list (w_arg rfl))))
  rw [List.length_map] at h5
  refine Nat.le_of_not_lt fun q=>?_
  have q':(n:Int) < ((ns.length:Nat):Int):=by omega
  first
   | (rw [decide_eq_true q'] at h5; exact absurd h5 (by decide))
   | (simp at h5; omega)
 cases hwl with
 | cons w1 w2 =>
  cases w2
  cases w1 with
  | list ho hall=>exact ⟨_,_,ns,rfl,rfl,ho,ya8 ns _ hall,hlen⟩
theorem ze8 (l:OpenLaw) (args:List WData):l.row.toRowW.claim.post args (.bool true) args = true :=
 postW_of (r:=l.row.toRowW) (X:=(true == true))
  (show WShape.has [] (.bool true) .bool = true by first | rfl | decide | simp [WShape.has,WShape.arms,WShape.armsAll])
  (show (WTm.eq .res (.lit (.bool true))).value [] { args:=args,res:=some (.bool true),after:=args } = some (.bool (true == true)) from w_eq_bool (w_res rfl) w_lit) rfl
theorem attach_call {l:OpenLaw} {n:Nat} {q:Program} {loose:List Str} {XP:(Str -> Option Value) -> Heap -> Prop} {YP:World -> Heap -> Prop} {d:DefRec}
  (hn:l.most = some n) (hdf:d.params.defaults = [])
  (call:∀ (w:World) (s₀ s₁:Shared) (mg mb:Str -> Option Value) (fa:Addr) (o:Obj) (pm cd doc:Value) (a:Addr) (vs:List Value) (ns:List Int),
   Ground q loose [] XP w s₀ mg mb s₁.heap -> YP w s₁.heap ->
   s₁.heap.get? fa = some o -> o.data = .func (docDef d.name d.params d.body d.scope pm cd doc) -> s₁.heap.CodeRec cd d.name -> mg d.name = some (.ref fa) ->
   s₁.heap.get? a = some { cls:=.type "list",data:=.seq vs.toArray } -> IntsAre vs ns -> ns.length <= n -> s₁.gens = #[] ->
   codeAny (model l.prog w) callerA (.call (.ref fa) ⟨[.ref a],[]⟩) (fun r s'=>r = .ok (.ret (.bool true)) /\ OldK s₁.heap s'.heap /\ s'.os = s₁.os /\ AllBare s'.gens) s₁) :
  WalkO q loose XP YP l.row.toRowW d [] (fun f vs=>PySem.call f vs):=by
 intro w s₀ s₁ mg mb G Y fa o pm cd doc dV kV ho hd hcd hD hmg hg args vals as hpre hlay hrd hwl hlo
 obtain rfl:dV = .none:=Dflts.none hD hdf
 obtain rfl:kV = .none:=Dflts.noKw hD
 obtain ⟨a,vs,ns,rfl,rfl,hobj,hints,hlen⟩:=ze3 hn hpre hwl
 refine enter_call (codeAny_mono (call w s₀ s₁ mg mb fa o pm cd doc a vs ns G Y ho (fd_plain hd) hcd hmg hobj hints hlen hg) fun r s' hq=>?_)
 obtain ⟨rfl,h2,h3,h4⟩:=hq
 exact ⟨.inl ⟨.bool true,.bool true,[],rfl,fun _=>rfl,.bool true,ze8 l _,fun _=>⟨List.Pairwise.nil,fun _ hm=>(nomatch hm)⟩⟩,h2,h3,h4⟩
section
variable {prog:Program} {w:World} {A:Around} {E:Value -> Shared -> Prop} {s:Shared} {K:Frag}
end
end Att
namespace L2
open PySem PySem.Spec PyProof.Rows
theorem yk1:∀ {vs:List Value} {ns:List Int},IntsAre vs ns -> Vals (ns.map V.int) vs
 | _,_,.nil=>.nil
 | _,_,.cons n t h=>.cons ⟨t,rfl⟩ (yk1 h)
def Only (H:Hp):Prop:=∀ b,H b = none \/ ∃ o xs,H b = some (.frz o (.lst xs))
theorem law_call {P:Program} {w:World} {K:Frag} {mg mb:Str -> Option Value} {CX:CXT} {k:Nat} {fa a:Addr} {fd:FuncData} {x:Str} {sp:Sp} {s₁:Shared} {vs:List Value} {ns:List Int}
  (KX:K.In s₁.heap) (hns:s₁.heap.Ns mainGlobals mg) (hb:s₁.heap.Ns builtinsNs mb) (hbb:∀ x:Str,x ≠ "__name__" -> mb x = bootBuiltins x) (hlim:s₁.heap.NoLimit) (hg:s₁.gens = #[])
  (ha:s₁.heap.get? a = some { cls:=.type "list",data:=.seq vs.toArray }) (hi:IntsAre vs ns) (hl:ns.length <= sizeLine) (hr:Room k callerA)
  (F:∀ base:Heap,K.In base -> base.Ns mainGlobals mg -> FnOk P w K mg base CX k fa fd [x] sp) (hbind:∀ (s:Shared) (u:Value),BindsTo s fd ⟨[u],[]⟩ [(x,u)])
  (hsp:∀ H:Hp,Only H -> SqL K H a (ns.map V.int) -> sp [.ref a] H (fun v _=>v = .bl true) fun _ _ _=>False)
  (hCX:∀ H e s',CX [] H s₁ (fun _ _ _=>False) e s' -> False) :
  codeAny (model P w) callerA (.call (.ref fa) ⟨[.ref a],[]⟩) (fun r s'=>r = .ok (.ret (.bool true)) /\ OldK s₁.heap s'.heap /\ s'.os = s₁.os /\ AllBare s'.gens) s₁:=by
 have rv:=yk1 hi
 have lenV:=hi.length
 have core:∀ H:Hp,Only H -> SqL K H a (ns.map V.int) -> HOk P w H s₁.heap -> (∀ b,H b ≠ none -> b = a) -> (H a ≠ none -> K.lookup a = none) ->
   codeAny (model P w) callerA (.call (.ref fa) ⟨[.ref a],[]⟩) (fun r s'=>r = .ok (.ret (.bool true)) /\ OldK s₁.heap s'.heap /\ s'.os = s₁.os /\ AllBare s'.gens) s₁:=by
  intro H hO hS hok hA hK
  have base_of:∀ {b:Addr} {o:Obj},s₁.heap.get? b = some o -> H b = none -> (hidT s₁.heap H).get? b = some o:=fun e n=>hidT_get e n
  have noA:∀ {b:Addr} {o:Obj} {es:Array DictEntry} {ep:Nat},s₁.heap.get? b = some o -> o.data = .dict es ep -> H b = none:=fun {b o es ep} e d=>by
   cases q:H b with
   | none=>rfl
   | some u =>
    have e':b = a:=hA b (by rw [q]; simp)
    subst e'
    rw [ha] at e; cases e
    have d':Data.seq vs.toArray _ = Data.dict es ep:=d
    cases d'
  have nsK:∀ {b:Addr} {m:Str -> Option Value},s₁.heap.Ns b m -> (hidT s₁.heap H).Ns b m:=fun {b m} ⟨o,es,ep,e,d,r⟩=>⟨o,es,ep,base_of e (noA e d),d,r⟩
  have hKb:K.In (hidT s₁.heap H):=fun b o e=>base_of (KX b o e) (by
   cases q:H b with
   | none=>rfl
   | some u =>
    have e':b = a:=hA b (by rw [q]; simp)
    subst e'
    rw [hK (by rw [q]; simp)] at e; cases e)
  have hM:Mod K mg (hidT s₁.heap H):=⟨hKb,nsK hns,⟨mb,nsK hb,hbb⟩,let ⟨mc,h1,h2⟩:=hlim; ⟨mc,nsK h1,h2⟩⟩
  have e0:Env0 P w K mg (hidT s₁.heap H) callerA [] s₁ H:=⟨rfl,hM,fun b o e=>of_hidT e,Nat.le_of_eq (zj0 _ _),trivial,fun b hb=>absurd (show b ∈ ([]:List Addr) from hb) (by simp),hok,.of_eq hg⟩
  refine codeAny_mono ((F _ hKb (nsK hns)).run callerA [] s₁ H ⟨[.ref a],[]⟩ [.ref a] [.ref a] _ _ hr e0 (hbind s₁ (.ref a)) (.cons rfl .nil) (hsp H hO hS)) fun r s' h=>?_
  cases r with
  | error e=>exact (hCX H e s' h).elim
  | ok fl =>
   cases fl with
   | next=>exact False.elim h
   | brk=>exact False.elim h
   | cont=>exact False.elim h
   | ret u =>
    obtain ⟨v,H',os,bare,un,hok',r',q⟩:=h
    have q':v = .bl true:=q
    subst q'
    obtain rfl:u = Value.bool true:=r'
    refine ⟨rfl,OldK.of_keep fun b o e=>?_,os,bare⟩
    cases q:H b with
    | none=>exact un.keep b o e q (by intro z; exact absurd (show b ∈ ([]:List Addr) from z) (by simp)) (by simp)
    | some u =>
     rcases hO b with z | ⟨ob,xs,z⟩
     ·rw [q] at z; cases z
     ·have z2:=un.frzs b ob _ z
      obtain ⟨e1,_⟩:=hok b _ z
      obtain ⟨e2,_⟩:=hok' b _ z2
      rw [e] at e1; cases e1
      exact e2
 cases hk:K.lookup a with
 | some o =>
  have e:=KX a o hk
  rw [ha] at e
  cases e
  refine core (fun _=>none) (fun _=>.inl rfl) (.inr ⟨_,vs.toArray,_,hk,rfl,rfl,rfl,by rw [List.size_toArray,lenV]; exact hl,by simpa using rv⟩) (fun b u z=>by have z':(none:Option HO) = some u:=z; cases z') (fun b z=>absurd rfl z) fun z=>absurd rfl z
 | none =>
  refine core (fun b=>if b = a then some (.frz { cls:=.type "list",data:=.seq vs.toArray } (.lst (ns.map V.int))) else none) (fun b=>?_) (.inl (.inr ⟨{ cls:=.type "list",data:=.seq vs.toArray },if_pos rfl⟩)) (fun b u z=>?_) (fun b z=>?_) fun _=>hk
  ·by_cases hb:b = a
   ·exact .inr ⟨_,_,if_pos hb⟩
   ·exact .inl (if_neg hb)
  ·by_cases hb:b = a
   ·have z':=(if_pos hb).symm.trans z
    cases z'
    subst hb
    exact ⟨ha,by rw [List.length_map]; exact hl,vs,_,rv,ha⟩
   ·have z':=(if_neg hb).symm.trans z
    cases z'
  ·by_cases hb:b = a
   ·exact hb
   ·exact absurd (if_neg hb) z
theorem walk_of {l:PySem.W.OpenLaw} {n k:Nat} {q:Program} {loose:List Str} {XP:(Str -> Option Value) -> Heap -> Prop} {YP:World -> Heap -> Prop} {d:DefRec} {K:Params -> Frag} {CX:World -> CXT} {sp:World -> Sp} {x:Str}
  (hn:l.most = some n) (hn2:n <= sizeLine) (hdf:d.params.defaults = []) (hr:Room k callerA)
  (hY:∀ (w:World) (h:Heap),YP w h -> (K w.params).In h)
  (F:∀ (w:World) (mg:Str -> Option Value) (fa:Addr) (h:Heap),(K w.params).In h -> h.Ns mainGlobals mg -> mg d.name = some (.ref fa) ->
   ∃ fd:FuncData,(∀ (s:Shared) (u:Value),BindsTo s fd ⟨[u],[]⟩ [(x,u)]) /\
    ∀ base:Heap,(K w.params).In base -> base.Ns mainGlobals mg -> FnOk l.prog w (K w.params) mg base (CX w) k fa fd [x] (sp w))
  (hsp:∀ (w:World) (H:Hp) (a:Addr) (ns:List Int),ns.length <= n -> Only H -> SqL (K w.params) H a (ns.map V.int) -> sp w [.ref a] H (fun v _=>v = .bl true) fun _ _ _=>False)
  (hCX:∀ (w:World) (H:Hp) (s:Shared) (e:Value) (s':Shared),CX w [] H s (fun _ _ _=>False) e s' -> False) :
  PySem.W.WalkO q loose XP YP l.row.toRowW d [] (fun f vs=>PySem.call f vs):=by
 refine Att.attach_call hn hdf fun w s₀ s₁ mg mb fa o pm cd doc a vs ns G Y ho hd hcd hmg hobj hints hlen hg=>?_
 have KX:=hY w _ Y
 obtain ⟨fd,hb,hF⟩:=F w mg fa _ KX G.T.g hmg
 exact law_call KX G.T.g G.T.b G.T.builtins G.T.nolimit hg hobj hints (Nat.le_trans hlen hn2) hr hF hb (fun H hO hS=>hsp w H a ns hlen hO hS) fun H e s'=>hCX w H s₁ e s'
def ys4 (s:Stmt) (j:Nat):Stmt:=match s with
 | .ClassDef _ _ _ body _ _ _ _ _ _ _=>body.getD j (.Pass ⟨0,0,0,0⟩)
 | _=>.Pass ⟨0,0,0,0⟩
def xb4 (s:Stmt):Arguments:=match s with
 | .FunctionDef _ a _ _ _ _ _ _ _ _=>a
 | _=>{ posonlyargs:=[],args:=[],vararg:=none,kwonlyargs:=[],kw_defaults:=[],kwarg:=none,defaults:=[] }
def xb3 (s:Stmt):List Stmt:=match s with
 | .FunctionDef _ _ b _ _ _ _ _ _ _=>b
 | _=>[]
def xa7 (s:Stmt):Scope:=match s with
 | .FunctionDef _ _ _ _ _ _ sc _ _ _=>sc
 | _=>{ kind:=.function,names:=[],isGenerator:=false,isCoroutine:=false }
abbrev CX0:CXT:=fun _ _ _ _ _ _=>False
abbrev E0:XK:=fun _ _ _=>False
theorem xc9 {X:Cx}:yf7 CX0 X E0:=fun _ _ _ _ _ _ _ h=>h.elim
structure Fun (K:Frag) (x qual:Str) (st:Stmt) (f:Addr) (fd:FuncData):Prop where
 ex:∃ (oc:Value) (od:Option Addr) (kV doc pm:Value) (an:Option Addr) (cdv ct:Value) (osl:Array (Option Value)),
  fd = fnOf x qual (xb4 st) (xb3 st) (xa7 st) .none kV doc pm an cdv ct /\ K.lookup f = some ⟨oc,od,.func fd,osl⟩ /\ codeIn K cdv qual = true
 kp:keepIn K (.ref f) = true
section
variable {P:Program} {w:World} {K:Frag} {mg:Str -> Option Value} {base:Heap}
theorem Fun.ok {x qual:Str} {st:Stmt} {f:Addr} {fd:FuncData} {N ps:List Str} {k:Nat} {sp:Sp} (F:Fun K x qual st f fd) (S:FnScope N ps (xa7 st)) (len:∀ vs H Q E,sp vs H Q E -> vs.length = ps.length)
  (hbody:∀ (cdv:Value) (A:Around) (outer:List Env) (s:Shared) (H:Hp) (vs:List V) (Q:VK) (E:XK),Room k (A.deeper (envOfC qual (xa7 st) s.heap.objs.size f cdv)) -> sp vs H Q E ->
   ∃ t,PSs (cxOf CX0 P w K mg base N qual (xa7 st) f cdv A outer s H E).nox (xb3 st) t /\ t { nx:=fun _ H'=>Q .non H',rt:=Q } (start N vs) H):FnOk P w K mg base CX0 (k + 1) f fd ps sp:=by
 obtain ⟨oc,od,kV,doc,pm,an,cdv,ct,osl,rfl,lk,hcd⟩:=F.ex
 refine fn_of lk hcd S len fun A outer s H vs Q E hr hsp=>?_
 obtain ⟨t,h,q⟩:=hbody cdv A outer s H vs Q E hr hsp
 exact ⟨t,h.nox,q⟩
theorem Fun.binds {x qual:Str} {st:Stmt} {f:Addr} {fd:FuncData} {ps:List Str} (F:Fun K x qual st f fd)
  (h:∀ (kV doc pm:Value) (an:Option Addr) (cdv ct:Value) (us:List Value),us.length = ps.length -> bindArgs (fnOf x qual (xb4 st) (xb3 st) (xa7 st) .none kV doc pm an cdv ct) ⟨us,[]⟩ = pure (ps.zip us)):xd2 K fd ps []:=by
 obtain ⟨oc,od,kV,doc,pm,an,cdv,ct,osl,rfl,lk,hcd⟩:=F.ex
 exact .all (h kV doc pm an cdv ct)
theorem xd4 {x qual:Str} {st:Stmt} {f:Addr} {oc:Value} {od an:Option Addr} {osl:Array (Option Value)} {kV doc pm cdv ct:Value} (l:K.lookup f = some ⟨oc,od,.func (fnOf x qual (xb4 st) (xb3 st) (xa7 st) .none kV doc pm an cdv ct),osl⟩)
  (c:codeIn K cdv qual = true) (k:keepIn K (.ref f) = true):Fun K x qual st f (fnOf x qual (xb4 st) (xb3 st) (xa7 st) .none kV doc pm an cdv ct):=⟨⟨oc,od,kV,doc,pm,an,cdv,ct,osl,rfl,l,c⟩,k⟩
end
section
variable {X:Cx}
theorem pv (i:Nat) {x:Str} {pos:Pos} (hN:X.N[i]? = some x:=by rfl) (hv:Vis X.env.scope x:=by first | exact Or.inl rfl | exact Or.inr (Or.inl rfl) | exact Or.inr (Or.inr rfl)) (hd:(x == ("__debug__" : Str)) = false:=by decide)
  (hcd:(x == ("__classdict__" : Str)) = false:=by decide):PE X (.Name x pos) (tVar i):=pe_var hN hv hd hcd
end
theorem iteF {A B:Prop} (h:B):if false = true then A else B:=by
 rw [if_neg Bool.false_ne_true]
 exact h
theorem iteT {A B:Prop} (h:A):if true = true then A else B:=by
 rw [if_pos rfl]
 exact h
theorem ite2 {c A B:Prop} [Decidable c] (h1:c -> A) (h2:¬ c -> B):if c then A else B:=by
 by_cases h:c
 ·rw [if_pos h]
  exact h1 h
 ·rw [if_neg h]
  exact h2 h
def Same (H H':Hp):Prop:=∀ b o,H b = some o -> H' b = some o
theorem Same.refl (H:Hp):Same H H:=fun _ _ h=>h
theorem Same.trans {H H1 H2:Hp} (a:Same H H1) (b:Same H1 H2):Same H H2:=fun c o h=>b c o (a c o h)
theorem Same.free {H H':Hp} (e:Same H H') {l:Addr} (h:H' l = Option.none):H l = Option.none:=by
 cases q:H l with
 | none=>rfl
 | some o =>
  rw [e l o q] at h
  cases h
theorem Same.seq {K:Frag} {H H':Hp} {a:Addr} {xs:List V} (e:Same H H') (h:SqL K H a xs):SqL K H' a xs:=by
 rcases h with (h | ⟨o,h⟩) | h
 ·exact .inl (.inl (e _ _ h))
 ·exact .inl (.inr ⟨o,e _ _ h⟩)
 ·exact .inr h
def xu7 (env:Env):List (Str × NameKind) -> List (Str × Addr) -> List (Str × Addr)
 | [],cs=>cs
 | (n,k) :: r,cs=>xu7 env r (if k == .free then (n,(env.cells.lookup n).getD 0) :: cs else cs)
theorem yb7 {env:Env}:∀ (names:List (Str × NameKind)) (cs:List (Str × Addr)),(∀ p ∈ names,p.2 = .free -> ∃ c,env.cells.lookup p.1 = some c) ->
  (forIn names cs (fun (x:Str × NameKind) (r:List (Str × Addr))=>(do if x.2 == .free then pure (.yield ((x.1,<- cellOf env x.1) :: r)) else pure (.yield r):Sem (ForInStep (List (Str × Addr)))))) = (pure (xu7 env names cs):Sem _)
 | [],cs,_=>rfl
 | (n,k) :: r,cs,h=>by
  rw [List.forIn_cons]
  by_cases hk:(k == NameKind.free) = true
  ·obtain ⟨c,e⟩:=h (n,k) List.mem_cons_self (by simpa using hk)
   have ec:cellOf env n = pure c:=by unfold cellOf; rw [show env.cells.lookup n = some c from e]
   simp only [hk,if_true,ec,pure_bind]
   rw [yb7 r _ fun p hp=>h p (List.mem_cons_of_mem _ hp)]
   simp only [xu7,hk,if_true,show env.cells.lookup n = some c from e,Option.getD_some]
  ·simp only [hk,if_false,pure_bind,Bool.false_eq_true]
   rw [yb7 r _ fun p hp=>h p (List.mem_cons_of_mem _ hp)]
   simp only [xu7,hk,if_false,Bool.false_eq_true]
theorem xw0 {scope:Scope} {env:Env} (h:∀ p ∈ scope.names,p.2 = .free -> ∃ c,env.cells.lookup p.1 = some c):closureFor scope env = pure (xu7 env scope.names []):=by
 rw [<- yb7 scope.names [] h]
 simp only [closureFor]
 rw [bind_pure]
theorem yf3 {env:Env} {x:Str} {c:Addr}:∀ (names:List (Str × NameKind)) (cs:List (Str × Addr)),(∀ p ∈ names,p.2 = .free -> ∃ c,env.cells.lookup p.1 = some c) ->
  (xu7 env names cs).lookup x = some c -> cs.lookup x = some c \/ env.cells.lookup x = some c
 | [],cs,_,h=>.inl h
 | (n,k) :: r,cs,hf,h=>by
  have hf':∀ p ∈ r,p.2 = .free -> ∃ c,env.cells.lookup p.1 = some c:=fun p hp=>hf p (List.mem_cons_of_mem _ hp)
  unfold xu7 at h
  rcases yf3 r _ hf' h with q | q
  ·by_cases hk:(k == NameKind.free) = true
   ·rw [if_pos hk] at q
    obtain ⟨c',e⟩:=hf (n,k) List.mem_cons_self (by simpa using hk)
    have e:env.cells.lookup n = some c':=e
    rw [e,Option.getD_some,List.lookup_cons] at q
    cases hx:(x == n) with
    | true =>
     rw [hx] at q
     have:x = n:=by simpa using hx
     subst this
     cases q
     exact .inr e
    | false=>rw [hx] at q; exact .inl q
   ·rw [if_neg hk] at q; exact .inl q
  ·exact .inr q
theorem yb6 {env:Env} {x:Str}:∀ (names:List (Str × NameKind)) (cs:List (Str × Addr)),((x,NameKind.free) ∈ names \/ ∃ c,cs.lookup x = some c) -> ∃ c,(xu7 env names cs).lookup x = some c
 | [],cs,h=>by
  rcases h with h | h
  ·cases h
  ·exact h
 | (n,k) :: r,cs,h=>by
  unfold xu7
  refine yb6 r _ ?_
  rcases h with h | ⟨c,h⟩
  ·rcases List.mem_cons.mp h with e | h
   ·cases e
    right
    rw [if_pos (by rfl),List.lookup_cons]
    simp
   ·exact .inl h
  ·right
   split
   ·rw [List.lookup_cons]
    cases (x == n) with
    | true=>exact ⟨_,rfl⟩
    | false=>exact ⟨c,h⟩
   ·exact ⟨c,h⟩
theorem xv4 {env:Env}:∀ {names:List (Str × NameKind)} {x:Str},names.lookup x = some .free ->
    ((names.map fun (n,k)=>if (k == NameKind.free && env.scope.kind == .function && env.kindOf n == some .cell) then (n,NameKind.cell) else (n,k)).lookup x = some .cell \/
     (names.map fun (n,k)=>if (k == NameKind.free && env.scope.kind == .function && env.kindOf n == some .cell) then (n,NameKind.cell) else (n,k)).lookup x = some .free)
  | [],_,h=>by simp at h
  | (n,k) :: r,x,h=>by
    have ih:=@xv4 env r x
    rw [List.map_cons]
    cases hx:x == n with
    | true =>
      simp only [List.lookup_cons,hx] at h
      cases h
      dsimp only
      split
      · left; rw [List.lookup_cons,hx]
      · right; rw [List.lookup_cons,hx]
    | false =>
      simp only [List.lookup_cons,hx] at h
      dsimp only
      split
      · simp only [List.lookup_cons,hx]; exact ih h
      · simp only [List.lookup_cons,hx]; exact ih h
theorem xy5 {env:Env}:∀ {names:List (Str × NameKind)} {x:Str} {k:NameKind},k = .cell \/ k = .free ->
  (names.map fun (n,k)=>if (k == NameKind.free && env.scope.kind == .function && env.kindOf n == some .cell) then (n,NameKind.cell) else (n,k)).lookup x = some k -> ∃ k',(k' = .cell \/ k' = .free) /\ (x,k') ∈ names
 | [],_,_,_,h=>by simp at h
 | (n,k) :: r,x,k',hk,h=>by
  have ih:=@xy5 env r x k' hk
  rw [List.map_cons] at h
  cases hx:x == n with
  | true =>
   have:x = n:=by simpa using hx
   subst this
   dsimp only at h
   split at h
   ·rename_i hc
    rw [List.lookup_cons,hx] at h
    refine ⟨k,.inr ?_,List.mem_cons_self⟩
    simp only [Bool.and_eq_true] at hc
    simpa using hc.1.1
   ·rw [List.lookup_cons,hx] at h
    cases h
    exact ⟨_,hk,List.mem_cons_self⟩
  | false =>
   dsimp only at h
   have h':(r.map fun (n,k)=>if (k == NameKind.free && env.scope.kind == .function && env.kindOf n == some .cell) then (n,NameKind.cell) else (n,k)).lookup x = some k':=by
    split at h
    ·simpa only [List.lookup_cons,hx] using h
    ·simpa only [List.lookup_cons,hx] using h
   obtain ⟨k2,a,b⟩:=ih h'
   exact ⟨k2,a,List.mem_cons_of_mem _ b⟩
def xg1 (X:Cx) (scope:Scope) (N:List Str) (fp:List Addr) (s:Shared) (H:Hp):Cx :=
 { X with N:=N,s₀:=s,H₀:=H,env:=compEnvC scope (xu7 X.env scope.names []) s.heap.objs.size X.env,outer:=X.stack,stack:=X.stack,ex:=fp,fn:=fun _=>false,pn:=[],xe:=fun _ _=>False }
def seen (js:List (Option Nat)) (σ:St):St:=js.map fun o=>o.bind fun j=>(σ[j]?).join
def xo0 (X:Cx) (scope:Scope) (N:List Str) (js:List (Option Nat)):Bool :=
 (scope.names.all fun p=>p.2 != .cell && (p.2 != .free || X.env.kindOf p.1 == some .cell) && (p.2 != .local || scope.names.lookup p.1 == some .local)) &&
 (js.length == N.length) && ((N.zip js).all fun p=>match p.2 with | none=>true | some j=>X.N[j]? == some p.1 && scope.names.lookup p.1 == some .free && X.env.kindOf p.1 == some .cell)
section
variable {X:Cx} {tg iter elt:Expr} {scope:Scope} {N:List Str} {js:List (Option Nat)} {pos:Pos}
theorem yf2 {pins:List (Addr × Obj)} {σ:St} {H:Hp} {s:Shared} {h':Heap} {fp:List Addr} {t':Nat} (I:Inv X pins σ H s) (hk:scope.kind = .function) (hck:xo0 X scope N js = true)
  (hf:∀ b ∈ fp,FpOk X pins H b) (hfl:∀ b ∈ fp,b < s.heap.objs.size) (hns:h'.Ns s.heap.objs.size (fun _=>none)) (kp:∀ b o,s.heap.get? b = some o -> h'.get? b = some o) :
  Inv (xg1 X scope N fp s H) [] (seen js σ) H { s with heap:=h',toks:=t' }:=by
 unfold xo0 at hck
 simp only [Bool.and_eq_true] at hck
 obtain ⟨⟨h1,h2⟩,h3⟩:=hck
 have hlen:js.length = N.length:=by simpa using h2
 have g1:∀ p ∈ scope.names,p.2 ≠ .cell /\ (p.2 = .free -> X.env.kindOf p.1 = some .cell):=fun p hp=>by
  have q:=List.all_eq_true.mp h1 p hp
  simp only [Bool.and_eq_true,bne_iff_ne,ne_eq,Bool.or_eq_true,beq_iff_eq] at q
  exact ⟨q.1.1,fun e=>q.1.2.resolve_left fun z=>z e⟩
 have hcl:∀ p ∈ scope.names,p.2 = .free -> ∃ c,X.env.cells.lookup p.1 = some c:=fun p hp e=>I.ok.has _ (.inl ((g1 p hp).2 e))
 have back:∀ x c,(xu7 X.env scope.names []).lookup x = some c -> X.env.cells.lookup x = some c:=fun x c e=>by
  rcases yf3 _ _ hcl e with q | q
  ·cases q
  ·exact q
 refine ⟨⟨I.ok.mod,?_,I.ok.glob,I.ok.blt,Nat.le_refl _,fun x y c h1 h2=>I.ok.inj x y c (back _ _ h1) (back _ _ h2),fun x hx=>?_,fun _ _ z=>(by cases z),I.ok.hd,I.ok.frames,.inl rfl,fun b hb=>⟨?_,fun x c e=>?_⟩,I.bs,Nat.le_trans I.ok.bsz I.sz,fun b o e hb=>?_,fun b hb=>?_,I.stack,I.stkFree⟩,
  rfl,I.bare,Un.kept kp,⟨_,hns,fun i x v e1 e2 e3=>?_⟩,fun x c e=>?_,I.hok.fresh (Nat.le_refl _),fun x c e=>I.freeC x c (back _ _ e),fun p hp=>(by cases hp),I.hok.kept kp,?_⟩
 ·show (relabel scope X.env).kind = _
  exact hk
 ·have hx':∃ k,(k = .cell \/ k = .free) /\ (relabel scope X.env).names.lookup x = some k:=by
   rcases hx with q | q
   ·exact ⟨_,.inl rfl,q⟩
   ·exact ⟨_,.inr rfl,q⟩
  obtain ⟨k,hk2,q⟩:=hx'
  obtain ⟨k',a,b⟩:=xy5 (env:=X.env) hk2 q
  rcases a with a | a
  ·exact absurd a (g1 _ b).1
  ·subst a
   exact yb6 _ _ (.inl b)
 ·exact Nat.ne_of_lt (hfl b hb)
 ·exact (hf b hb).2.2.2.2.1 x c (back _ _ e)
 ·rcases (hf b hb).2.2.2.1 with z | z
  ·exact I.ok.noex b o e z
  ·exact absurd (Nat.lt_of_lt_of_le (Heap.lt_size e) (Nat.le_trans I.ok.bsz z)) (Nat.lt_irrefl _)
 ·intro hb2
  obtain ⟨_,q1,q2,_⟩:=hf b hb
  rcases List.mem_cons.mp (I.stkSub b hb2) with z | z
  ·exact q1 z
  ·exact q2 z
 ·have e1:N[i]? = some x:=e1
  unfold seen at e2
  rw [List.getElem?_map] at e2
  cases ej:js[i]? with
  | none=>rw [ej] at e2; cases e2
  | some o =>
   rw [ej] at e2
   cases o with
   | none=>cases e2
   | some j =>
    have e2:(σ[j]?).join = some v:=by simpa using e2
    have e4:σ[j]? = some (some v):=by
     cases q:σ[j]? with
     | none=>rw [q] at e2; cases e2
     | some w=>rw [q] at e2; cases e2; rfl
    have hz:(N.zip js)[i]? = some (x,some j):=by
     rw [List.getElem?_zip_eq_some]; exact ⟨e1,ej⟩
    have q:=List.all_eq_true.mp h3 _ (List.mem_of_getElem? hz)
    simp only [Bool.and_eq_true,beq_iff_eq] at q
    obtain ⟨⟨q1,q2⟩,q3⟩:=q
    obtain ⟨m,hn,hl⟩:=I.loc
    obtain ⟨u,r,l⟩:=hl j x v q1 e4 (.inr (.inl q3))
    refine ⟨u,r,?_⟩
    rcases l with ⟨l,_⟩ | ⟨_,c,l2,l3⟩
    ·rw [q3] at l; cases l
    ·obtain ⟨c',hc'⟩:=yb6 (env:=X.env) (x:=x) scope.names [] (.inl (PySem.mem_of_lookup q2))
     have e5:=back _ _ hc'
     rw [l2] at e5
     cases e5
     refine .inr ⟨?_,c,hc',?_⟩
     ·exact xv4 q2
     ·obtain ⟨o,ho,hd⟩:=l3
      exact ⟨o,kp _ _ ho,hd⟩
 ·obtain ⟨v,o,ho,hd⟩:=I.cell x c (back _ _ e)
  exact ⟨v,o,kp _ _ ho,hd⟩
 ·show (seen js σ).length = N.length
  unfold seen
  rw [List.length_map,hlen]
theorem yo3 {prog:Program} {w:World} {A:Around} {R:Result -> Shared -> Prop} {s:Shared} {it acc:Value} {env:Env} (I:Nat -> Shared -> Prop)
  (turn:∀ n s,I n s -> wpAny (model prog w) A (pyNext it) (fun r s₁=>match r with
   | none=>R (.ok .next) s₁
   | some v=>wpAny (model prog w) A (letOwnedTupleGo tg it v) (fun _ s₁'=>wpAny (model prog w) A (assign tg env v) (fun _ s₂ =>
     wpAny (model prog w) A (eval elt env) (fun x s₄ =>
       wpAny (model prog w) A (call (.builtin "list.append") [acc,x]) (fun _ s₅=>∃ m,m < n /\ I m s₅) (fun _ _=>False) s₄) (fun _ _=>False) s₂) (fun _ _=>False) s₁') (fun _ _=>False) s₁) (fun _ _=>False) s)
  (n:Nat) (h:I n s) :
  codeAny (model prog w) A (.compLoop (.ListComp elt [⟨tg,iter,[],0⟩] scope pos) 0 it acc env) R s:=by
 refine codeAny_loop rfl I (fun n s hI=>?_) n h
 show wpAny _ A ((compTurn (.ListComp elt [⟨tg,iter,[],0⟩] scope pos) 0 it acc env).onRaise (fun x=>do noteFrame x env; theTreesLotGoes x)) _ _ s
 refine wpAny_noted ?_
 rw [compTurn_list1]
 refine wpAny_bind (wpAny_standAt (wpAny_bind (wpAny_mono (turn n s hI) (fun r s₁ h₁=>?_) fun _ _ h'=>h'.elim)))
 cases r with
 | none=>exact wpAny_pure h₁
 | some v =>
  refine wpAny_bind (wpAny_mono h₁ (fun _ s₁' h₁'=>?_) fun _ _ h'=>h'.elim)
  refine wpAny_bind (wpAny_mono h₁' (fun _ s₂ h₂=>?_) fun _ _ h'=>h'.elim)
  exact wpAny_bind (wpAny_bind (wpAny_mono h₂ (fun x s₄ h₄=>wpAny_bind (wpAny_mono h₄ (fun _ s₅ h₅=>wpAny_pure (wpAny_pure ⟨rfl,h₅⟩)) fun _ _ h'=>h'.elim)) fun _ _ h'=>h'.elim))
def tComp (js:List (Option Nat)) (wi:TI) (g:TG) (te:TE):TE:=fun σ H Q=>wi σ H fun J H1=>∀ D,H1 D = none -> ∃ W:Nat -> Nat -> St -> Hp -> Prop,(∃ m,W 0 m (seen js σ) (upd H1 D (.lst []))) /\
 ∀ i m σ' H',W i m σ' H' -> (J.stop i H' /\ Q (.ref D) H') \/ (J.go i H' /\ ∀ x H2,J.yld i H' x H2 -> g x σ' H2 fun σ3 H3=>te σ3 H3 fun v H4=>∃ xs,H4 D = some (.lst xs) /\ xs.length < sizeLine /\ ∃ m',m' < m /\ W (i + 1) m' σ3 (upd H4 D (.lst (xs ++ [v]))))
theorem yo2 {wi:TI} {g:TG} {te:TE} {use:Option (Value -> Sem Unit)} {Qv:Value -> Shared -> Prop} (hc:X.calm = true) (hi:PI X tg iter wi) (hk:scope.kind = .function) (hck:xo0 X scope N js = true)
  (hg:∀ fp s H,PG (xg1 X scope N fp s H) tg g) (he:∀ fp s H,PE (xg1 X scope N fp s H) elt te)
  (hs:∀ x,foldedSetIterable iter X.env x = pure x)
  {pins:List (Addr × Obj)} {σ:St} {H:Hp} {s:Shared} {Q:VK} (I:Inv X pins σ H s) (h:tComp js wi g te σ H Q)
  (hend:∀ (D C:Addr) (H':Hp) (s':Shared),Inv X pins σ H' s' -> (∃ m,s'.heap.Ns C m) -> FpOk X pins H' C -> Q (.ref D) H' -> compPost (model X.prog X.w) X.A X.xe use Qv (.ref D) C (.ok .next) s') :
  wpAny (model X.prog X.w) X.A (comprehension (.ListComp elt [⟨tg,iter,[],0⟩] scope pos) scope X.env (firstIterPos [⟨tg,iter,[],0⟩] pos) (newList []) false (eval iter X.env) use) Qv X.xe s:=by
 have hck':=hck
 unfold xo0 at hck'
 simp only [Bool.and_eq_true] at hck'
 obtain ⟨⟨h1,_⟩,_⟩:=hck'
 have g1:∀ p ∈ scope.names,p.2 ≠ .cell /\ (p.2 = .free -> X.env.kindOf p.1 = some .cell) /\ (p.2 = .local -> scope.names.lookup p.1 = some .local):=fun p hp=>by
  have q:=List.all_eq_true.mp h1 p hp
  simp only [Bool.and_eq_true,bne_iff_ne,ne_eq,Bool.or_eq_true,beq_iff_eq] at q
  exact ⟨q.1.1,fun e=>q.1.2.resolve_left fun z=>z e,fun e=>q.2.resolve_left fun z=>z e⟩
 have hcl:∀ p ∈ scope.names,p.2 = .free -> ∃ c,X.env.cells.lookup p.1 = some c:=fun p hp e=>I.ok.has _ (.inl ((g1 p hp).2.1 e))
 refine wpAny_comprehension_free (use:=use) (g:=⟨tg,iter,[],0⟩) (gs:=[]) rfl hs (xw0 hcl) hk (fun p hp e=>(g1 p hp).2.2 e) ?_
 refine thn (hi pins s σ H _ I h) fun v s1 h1=>thn h1 fun itv s2 h2=>?_
 obtain ⟨it,fp,tn,J,H2,e,I2,T,st2,f2,hW⟩:=h2
 subst e
 have hfl:∀ b ∈ fp,b < s2.heap.objs.size:=fun b hb=>by
  obtain ⟨o,ho,_⟩:=T.obj _ _ st2 b hb
  exact Heap.lt_size ho
 have hD:H2 s2.heap.objs.size = none:=I2.hok.fresh (Nat.le_refl _)
 obtain ⟨W,⟨m0,w0⟩,turn⟩:=hW _ hD
 refine wpAny_newObj_type (wpAny_newFunctionEnv (fun x hx=>(g1 x hx).1) (by intro y hy; simp at hy) (fun h₁ hns₁ hsb₁=>?_) hk)
 dsimp only at hns₁ hsb₁ ⊢
 have I3:Inv X pins σ (upd H2 s2.heap.objs.size (.lst [])) { s2 with heap:=s2.heap.push { cls:=.type "list",dict:=none,data:=.seq ([]:List Value).toArray },toks:=s2.toks } :=
  I2.laid (t':=s2.toks) (fun b u e=>Heap.get?_push_of_some _ e) (Nat.le_refl _) ⟨Nat.zero_le _,[],0,.nil,Heap.get?_push_size _ rfl⟩
 generalize hs3:({ s2 with heap:=s2.heap.push { cls:=.type "list",dict:=none,data:=.seq ([]:List Value).toArray },toks:=s2.toks }:Shared) = s3 at I3
 have hh3:s3.heap = s2.heap.push { cls:=.type "list",dict:=none,data:=.seq ([]:List Value).toArray }:=by rw [<- hs3]
 have e3:({ s2 with heap:=h₁,toks:=s2.toks + ([]:List (Str × Value)).length }:Shared) = { s3 with heap:=h₁,toks:=s3.toks }:=by rw [<- hs3]; rfl
 rw [e3]
 rw [<- hh3] at hns₁ hsb₁ ⊢
 generalize hH3:upd H2 s2.heap.objs.size (.lst []) = H3 at I3 w0
 generalize hDs:s2.heap.objs.size = D at *
 have f3:∀ b ∈ fp,FpOk X pins H3 b:=fun b hb=>by
  refine ⟨?_,(f2 b hb).2⟩
  rw [<- hH3,xa2 (Nat.ne_of_lt (hfl b hb))]
  exact (f2 b hb).1
 have szD:s3.heap.objs.size = D + 1:=by rw [hh3,Heap.size_push]; rw [<- hDs]
 have hfl3:∀ b ∈ fp,b < s3.heap.objs.size:=fun b hb=>Nat.lt_of_lt_of_le (hfl b hb) (by rw [szD]; exact Nat.le_succ _)
 have kp:∀ b o,s3.heap.get? b = some o -> h₁.get? b = some o:=fun b o e=>by
  rw [hsb₁.2 b (Nat.ne_of_lt (Heap.lt_size e))]
  exact Heap.get?_push_of_some _ e
 have st3:tn 0 h₁:=T.keep 0 _ _ st2 fun b hb o e=>kp b o (by rw [hh3]; exact Heap.get?_push_of_some _ e)
 have J0:Inv (xg1 X scope N fp s3 H3) [] (seen js σ) H3 { s3 with heap:=h₁,toks:=s3.toks }:=yf2 I3 hk hck f3 hfl3 hns₁ kp
 have fpc:∀ {H':Hp},(∀ b ∈ fp,H' b = none) -> ∀ b ∈ fp,FpOk (xg1 X scope N fp s3 H3) [] H' b:=fun hn b hb =>
  ⟨hn b hb,(J0.ok.exf b hb).1,J0.ok.exfs b hb,.inl hb,(J0.ok.exf b hb).2,fun p hp=>by cases hp⟩
 have lp:codeAny (model X.prog X.w) X.A (.compLoop (.ListComp elt [⟨tg,iter,[],0⟩] scope pos) 0 (.ref it) (.ref D) (compEnvC scope (xu7 X.env scope.names []) s3.heap.objs.size X.env))
   (compPost (model X.prog X.w) X.A X.xe use Qv (.ref D) s3.heap.objs.size) { s3 with heap:=h₁,toks:=s3.toks }:=by
  refine yo3 (fun n s'=>∃ i σ' H',Inv (xg1 X scope N fp s3 H3) [] σ' H' s' /\ tn i s'.heap /\ (∀ b ∈ fp,H' b = none) /\ W i n σ' H') ?_ m0 ⟨0,_,H3,J0,st3,fun b hb=>(f3 b hb).1,w0⟩
  rintro n s4 ⟨i,σ4,H4,I4,st4,fr4,w4⟩
  rcases turn i n σ4 H4 w4 with ⟨stop,qn⟩ | ⟨go,step⟩
  ·refine thn (T.done (xg1 X scope N fp s3 H3) rfl rfl rfl hc i [] s4 σ4 H4 (fun _ _=>False) I4 (fpc fr4) st4 stop) fun r s5 ⟨hr,I5⟩=>?_
   subst hr
   have I6:Inv X pins σ H4 s5:=I3.call' (ch:=fp) I5.os I5.base I5.hok I5.bare fun b hb=>⟨(f3 b hb).2.2.2.1,(f3 b hb).2.1,(f3 b hb).2.2.2.2.1,(f3 b hb).2.2.2.2.2⟩
   have fC:FpOk X pins H4 s3.heap.objs.size:=I3.fpOk (Nat.le_refl _) I5.free
   obtain ⟨m,hn,_⟩:=I5.loc
   exact hend D s3.heap.objs.size H4 s5 I6 ⟨m,hn⟩ fC qn
  ·refine thn (T.item (xg1 X scope N fp s3 H3) rfl rfl rfl hc i [] s4 σ4 H4 (fun _ _=>False) I4 (fpc fr4) st4 go) fun r s5 ⟨u,hr,h5⟩=>?_
   subst hr
   refine thn h5 fun _ s6 ⟨x,H6,I6,r6,y6,st6,fr6⟩=>?_
   have I6':=I6.pinned (fpc fr6) (T.obj _ _ st6)
   refine thn (hg fp s3 H3 _ s6 σ4 H6 x u _ I6' r6 (step x H6 y6)) fun _ s7 ⟨σ7,H7,I7,q7⟩=>?_
   refine thn (he fp s3 H3 _ s7 σ7 H7 _ I7 q7) fun u8 s8 ⟨v8,H8,I8,r8,xs,e8,l8,m',hm,w8⟩=>?_
   refine thn (xh3 _ s8 σ7 H8 (.ref D) [v8] (.ref D) [u8] (fun _ H9=>H9 = upd H8 D (.lst (xs ++ [v8]))) I8 rfl (.cons r8 .nil) ⟨D,xs,v8,rfl,rfl,e8,l8,rfl⟩) fun _ s9 ⟨v9,H9,I9,_,e9⟩=>?_
   subst e9
   refine ⟨m',hm,i + 1,σ7,_,I9.unpinned,T.keep _ _ _ st6 fun b hb o e=>(I9.pin (b,o) (List.mem_append_right _ (List.mem_append_right _ (xi1 hb e)))).1,fun b hb=>?_,w8⟩
   obtain ⟨o,e,d⟩:=T.obj _ _ st6 b hb
   exact (I9.pin (b,o) (List.mem_append_right _ (List.mem_append_right _ (xi1 hb e)))).2.1
 exact codeAny_compStart_list lp (T.self _ 0 _ _ _ st3 lp)
theorem xh6 {wi:TI} {g:TG} {te:TE} (N:List Str) (js:List (Option Nat)) (hc:X.calm = true) (hi:PI X tg iter wi)
  (hg:∀ fp s H,PG (xg1 X scope N fp s H) tg g) (he:∀ fp s H,PE (xg1 X scope N fp s H) elt te) (hk:scope.kind = .function:=by rfl) (hck:xo0 X scope N js = true:=by rfl)
  (hs:∀ x,foldedSetIterable iter X.env x = pure x:=by intro _; rfl):PE X (.ListComp elt [⟨tg,iter,[],0⟩] scope pos) (tComp js wi g te):=by
 intro pins s σ H Q I h
 rw [eval_ListComp]
 refine yo2 (use:=none) hc hi hk hck hg he hs I h fun D C H' s' I' hC fC q=>?_
 obtain ⟨m,hn⟩:=hC
 refine ⟨m,hn,fun h' sb=>?_⟩
 obtain ⟨f0,f1,f2,f3,f4,f5⟩:=fC
 exact ⟨.ref D,H',I'.turned (t':=s'.toks) (fun b o hb e=>(sb.2 b hb).trans e) f0 f1 f3 f4 f5,rfl,q⟩
theorem yy9 {wi:TI} {g:TG} {te:TE} (N:List Str) (js:List (Option Nat)) {i:Nat} {y:Str} {py spos:Pos} (hN:X.N.Nodup) (hi':X.N[i]? = some y) (hx:Loc X.env.scope y) (hc:X.calm = true) (hi:PI X tg iter wi)
  (hg:∀ fp s H,PG (xg1 X scope N fp s H) tg g) (he:∀ fp s H,PE (xg1 X scope N fp s H) elt te) (hk:scope.kind = .function:=by rfl) (hck:xo0 X scope N js = true:=by rfl)
  (hs:∀ x,foldedSetIterable iter X.env x = pure x:=by intro _; rfl)
  (hsw:swapsWith (.ListComp elt [⟨tg,iter,[],0⟩] scope pos) (some (.Name y py)) spos.line X.env = pure true:=by rfl)
  (hf:X.fn y = true \/ X.env.scope.names.lookup y = some .local:=by first | exact .inl rfl | exact .inr rfl | assumption) :
  PS X (.Assign [.Name y py] (.ListComp elt [⟨tg,iter,[],0⟩] scope pos) spos) (tAsg (tComp js wi g te) (za8 i)):=by
 intro pins s σ H D I h
 rw [exec_Assign_Name_used _ _ _ _ hsw]
 refine wpAny_bind (wpAny_standAt (wpAny_bind ?_))
 show wpAny _ X.A (do let _ <- comprehension (.ListComp elt [⟨tg,iter,[],0⟩] scope pos) scope X.env _ (newList []) false (eval iter X.env) (some (assign (.Name y py) X.env))) _ _ s
 refine wpAny_bind (wpAny_mono (yo2 (use:=some (assign (.Name y py) X.env)) (Qv:=fun _ s'=>SP X pins D .next s') hc hi hk hck hg he hs I h fun D' C H' s' I' hC fC q=>?_) (fun _ s' hq=>wpAny_pure (wpAny_pure hq)) fun _ _ e=>e)
 obtain ⟨m,hn⟩:=hC
 show wpAny _ X.A (assign (.Name y py) X.env (.ref D')) _ _ _
 refine wpAny_assign_Name (yk6 (v:=.ref D') I' hN hi' hx rfl (fun s2 I2 hch=>?_) hf)
 obtain ⟨a,sb,ha⟩:=hch
 obtain ⟨f0,f1,f2,f3,f4,f5⟩:=fC
 have hCa:C ≠ a:=by
  rcases ha with z | z
  ·rw [z]; exact f1
  ·exact (f4 _ _ z).symm
 refine ⟨m,hn.sameBut sb hCa,fun h' sb'=>?_⟩
 exact ⟨_,H',I2.turned (t':=s2.toks) (fun b o hb e=>(sb'.2 b hb).trans e) f0 f1 f3 f4 f5,q⟩
end
section
variable {X:Cx}
def zl8 (_ j:Int):Prop:=0 < j /\ j < 2 ^ 250
theorem za1 {j:Int} (h0:0 < j) (h:j < 2 ^ 250):j.natAbs.log2 < 9000:=by
 have h1:j.natAbs < 2 ^ 250:=by
  have e:(j.natAbs:Int) = j:=Int.natAbs_of_nonneg (Int.le_of_lt h0)
  have:((j.natAbs:Nat):Int) < ((2 ^ 250:Nat):Int):=by rw [e]; exact h
  exact Int.ofNat_lt.mp this
 have h2:j.natAbs ≠ 0:=by omega
 exact Nat.lt_of_lt_of_le ((Nat.log2_lt h2).mpr h1) (by decide)
theorem yu8:OpR X (binaryOp .FloorDiv) (rI zl8 fun i j=>.int (i / j)):=opI fun i j _ _ _ _ _ hc q=>by
 refine floordiv_int (by have:=hc.1; omega) ?_ (.inl (PyProof.noPylong_of_log2 (za1 hc.1 hc.2)))
 rw [Int.fdiv_eq_ediv_of_nonneg _ (Int.le_of_lt hc.1)]
 exact q
theorem call_sum (hc:X.calm = true):xj5 X (.builtin "sum") (fun xs H Q=>∃ (p:Addr) (ns:List Int),xs = [.ref p] /\ SqL X.K H p (ns.map V.int) /\ Q (.int ns.sum) H):=by
 intro pins s σ H xs us Q I r h
 obtain ⟨p,ns,rfl,hq,q⟩:=h
 obtain ⟨u,rfl,rfl⟩:=xn3 r
 obtain ⟨its,rv,pl,hz⟩:=I.list hq
 have hi:=yf0 rv
 obtain ⟨xs,e⟩:=hi.allInts.items
 have hn:=hi.numsOf
 rw [show its = its.toArray.toList from rfl,e,nums_intItems] at hn
 refine sum_intListG (I.ok.hd hc) (by rw [<- e]; exact pl.isList) fun h' tk t' k=>⟨.int ns.sum,H,I.kept k,⟨t',?_⟩,q⟩
 rw [preSum_eq,List.take_of_length_le (by simp),hn]
def zb9:V -> Option String
 | .non=>some "NoneType" | .bl _=>some "bool" | .int _=>some "int" | .str _=>some "str" | _=>none
def subTy (a b:String):Bool:=a == b || (a == "bool" && b == "int")
theorem xr2 {K:Frag} {t n:String} (ht:t = "NoneType" \/ t = "bool" \/ t = "int" \/ t = "str") (hn:n = "int" \/ n = "bool" \/ n = "str" \/ n = "list" \/ n = "tuple" \/ n = "dict"):kitOne K (.type t) (.type n) = some (subTy t n):=by
 rcases ht with rfl | rfl | rfl | rfl <;> rcases hn with rfl | rfl | rfl | rfl | rfl | rfl <;> kernel_rfl
theorem xw4 {x:Str} {n:String} {pos:Pos} (hg:Gl X x) (hm:X.mg x = none) (hv:bootBuiltins x = some (.type n)) (hn:x ≠ "__name__":=by decide) (hd:(x == ("__debug__" : Str)) = false:=by decide):PE X (.Name x pos) (tC (.ty n)) :=
 pe_bltn hg hm hv rfl hn hd
theorem xb1:bootBuiltins "isinstance" = some (.builtin "isinstance"):=by decide +kernel
theorem boot_sum:bootBuiltins "sum" = some (.builtin "sum"):=by decide +kernel
theorem yj2:bootBuiltins "min" = some (.builtin "min"):=by decide +kernel
theorem yj3:bootBuiltins "int" = some (.type "int"):=by decide +kernel
theorem yb9:bootBuiltins "bool" = some (.type "bool"):=by decide +kernel
theorem yp1:bootBuiltins "str" = some (.type "str"):=by decide +kernel
end
structure FunD (K:Frag) (x qual:Str) (st:Stmt) (dV:Value) (f:Addr) (fd:FuncData):Prop where
 ex:∃ (oc:Value) (od:Option Addr) (kV doc pm:Value) (an:Option Addr) (cdv ct:Value) (osl:Array (Option Value)),
  fd = fnOf x qual (xb4 st) (xb3 st) (xa7 st) dV kV doc pm an cdv ct /\ K.lookup f = some ⟨oc,od,.func fd,osl⟩ /\ codeIn K cdv qual = true
 kp:keepIn K (.ref f) = true
section
variable {P:Program} {w:World} {K:Frag} {mg:Str -> Option Value} {base:Heap}
theorem FunD.ok {x qual:Str} {st:Stmt} {dV:Value} {f:Addr} {fd:FuncData} {N ps:List Str} {k:Nat} {sp:Sp} (F:FunD K x qual st dV f fd) (S:FnScope N ps (xa7 st)) (len:∀ vs H Q E,sp vs H Q E -> vs.length = ps.length)
  (hbody:∀ (cdv:Value) (A:Around) (outer:List Env) (s:Shared) (H:Hp) (vs:List V) (Q:VK) (E:XK),Room k (A.deeper (envOfC qual (xa7 st) s.heap.objs.size f cdv)) -> sp vs H Q E ->
   ∃ t,PSs (cxOf CX0 P w K mg base N qual (xa7 st) f cdv A outer s H E).nox (xb3 st) t /\ t { nx:=fun _ H'=>Q .non H',rt:=Q } (start N vs) H):FnOk P w K mg base CX0 (k + 1) f fd ps sp:=by
 obtain ⟨oc,od,kV,doc,pm,an,cdv,ct,osl,rfl,lk,hcd⟩:=F.ex
 refine fn_of lk hcd S len fun A outer s H vs Q E hr hsp=>?_
 obtain ⟨t,h,q⟩:=hbody cdv A outer s H vs Q E hr hsp
 exact ⟨t,h.nox,q⟩
theorem zj4 {x qual:Str} {st:Stmt} {f:Addr} {oc dV:Value} {od an:Option Addr} {osl:Array (Option Value)} {kV doc pm cdv ct:Value} (l:K.lookup f = some ⟨oc,od,.func (fnOf x qual (xb4 st) (xb3 st) (xa7 st) dV kV doc pm an cdv ct),osl⟩)
  (c:codeIn K cdv qual = true) (k:keepIn K (.ref f) = true):FunD K x qual st dV f (fnOf x qual (xb4 st) (xb3 st) (xa7 st) dV kV doc pm an cdv ct):=⟨⟨oc,od,kV,doc,pm,an,cdv,ct,osl,rfl,l,c⟩,k⟩
theorem FunD.binds {x qual:Str} {st:Stmt} {T f:Addr} {fd:FuncData} {ps:List Str} {ds dvs:List Value} {tc:Value} {td:Option Addr} {n:Nat} {tsl:Array (Option Value)} (m:Nat) (hm:m + ds.length = ps.length) (F:FunD K x qual st (.ref T) f fd) (ht:K.lookup T = some ⟨tc,td,.seq dvs.toArray n,tsl⟩)
  (h:∀ (kV doc pm:Value) (an:Option Addr) (cdv ct:Value) (us:List Value),us.length = m -> ∃ k,bindArgs (fnOf x qual (xb4 st) (xb3 st) (xa7 st) (.ref T) kV doc pm an cdv ct) ⟨us,[]⟩ = seqItems? (.ref T) >>= k /\ k (some dvs.toArray) = pure (ps.zip (us ++ ds))):xd2 K fd ps ds:=by
 obtain ⟨oc,od,kV,doc,pm,an,cdv,ct,osl,rfl,lk,hcd⟩:=F.ex
 intro s us X hl
 rw [List.length_append] at hl
 obtain ⟨k,h1,h2⟩:=h kV doc pm an cdv ct us (by omega)
 exact binds_K X rfl ht rfl h1 h2
def gAB {α:Type} (a b:Nat) (us ws:List α):List α:=if us.length = a /\ ws.length = b then us ++ ws else []
theorem gAB_rel {a b:Nat} {vs:List V} {us:List Value} {zs:List V} {ws:List Value} (r:Vals vs us) (q:Vals zs ws):Vals (gAB a b vs zs) (gAB a b us ws):=by
 unfold gAB
 rw [r.length,q.length]
 split
 ·exact r.append q
 ·exact .nil
theorem FunD.kbinds {x qual:Str} {st:Stmt} {T f:Addr} {fd:FuncData} {ps ks:List Str} {dvs:List Value} {tc:Value} {td:Option Addr} {n:Nat} {tsl:Array (Option Value)} (a b:Nat) (hab:0 < ps.length)
  (F:FunD K x qual st (.ref T) f fd) (ht:K.lookup T = some ⟨tc,td,.seq dvs.toArray n,tsl⟩)
  (h:∀ (kV doc pm:Value) (an:Option Addr) (cdv ct:Value) (us ws:List Value),us.length = a -> ws.length = b -> ∃ k,bindArgs (fnOf x qual (xb4 st) (xb3 st) (xa7 st) (.ref T) kV doc pm an cdv ct) ⟨us,ks.zip ws⟩ = seqItems? (.ref T) >>= k /\ k (some dvs.toArray) = pure (ps.zip (us ++ ws))):KBinds K fd ps ks (gAB a b) (gAB a b):=by
 obtain ⟨oc,od,kV,doc,pm,an,cdv,ct,osl,rfl,lk,hcd⟩:=F.ex
 refine ⟨fun s us ws X hl=>?_,gAB_rel⟩
 have hc:us.length = a /\ ws.length = b:=by
  unfold gAB at hl
  split at hl
  ·assumption
  ·rw [List.length_nil] at hl; omega
 obtain ⟨k,h1,h2⟩:=h kV doc pm an cdv ct us ws hc.1 hc.2
 have e:gAB a b us ws = us ++ ws:=by unfold gAB; rw [if_pos hc]
 rw [e]
 exact binds_K X rfl ht rfl h1 h2
end
section
variable {X:Cx}
def yn0:List V -> Option (List Int)
 | []=>some []
 | .int i :: r=>match yn0 r with
  | some ns=>some (i :: ns)
  | none=>none
 | _ :: _=>none
def menu (ns:List Int) (k:Int):Int:=ns.getD k.toNat 0
def tMenu (t:TA) (ti:TE):TE:=fun σ H Q=>t σ H fun vs H1=>vs.length <= 1000 /\ ti σ H1 fun i H2=>∃ ns k,yn0 vs = some ns /\ i = .int k /\ 0 <= k /\ k < (ns.length:Int) /\ (ns.length:Int) < 1000 /\ Q (.int (menu ns k)) H2
theorem xe5 {n:Nat} (h:n <= 1000):n <= sizeLine:=Nat.le_trans h (by decide)
def CPowS (i j:Int):Prop:=0 <= j /\ j <= 1000000 /\ -(2 ^ 64) < i /\ i < 2 ^ 64
theorem yr4:OpR X (binaryOp .Pow) (rI CPowS fun i j=>.int (i ^ j.toNat)):=opI fun i j _ _ _ _ _ hc q=>pow_int_small hc.1 hc.2.1 (by have:=hc.2.2; omega) q
def tTupS (t:TA):TE:=fun σ H Q=>t σ H fun xs H1=>xs.length <= 1000 /\ ∀ p,H1 p = none -> Q (.ref p) (upd H1 p (.tup xs))
def tLstS (t:TA):TE:=fun σ H Q=>t σ H fun xs H1=>xs.length <= 1000 /\ ∀ p,H1 p = none -> Q (.ref p) (upd H1 p (.lst xs))
theorem xz0 {es:List Expr} {t:TA} {x1} {pos:Pos} (h:PA X es t):PE X (.Tuple es x1 pos) (tTupS t):=by
 intro pins s σ H Q I hq
 refine wpAny_Tuple_spliced (thn (h pos pins s σ H _ I hq) fun us s1 ⟨xs,H1,I1,r,z,q⟩=>⟨by rw [<- r.length]; exact xe5 z,?_⟩)
 have hf:H1 s1.heap.objs.size = none:=I1.hok.fresh (Nat.le_refl _)
 refine ⟨.ref s1.heap.objs.size,upd H1 s1.heap.objs.size (.tup xs),I1.laid (t':=s1.toks) (fun b u e=>Heap.get?_push_of_some _ e) (Nat.le_refl _) ?_,rfl,q _ hf⟩
 exact ⟨xe5 z,us,r,⟨_,Heap.get?_push_size _ rfl,rfl,_,rfl⟩⟩
theorem xj7 {es:List Expr} {t:TA} {pos:Pos} (h:PA X es t):PE X (.List es pos) (tLstS t):=by
 intro pins s σ H Q I hq
 refine wpAny_List_spliced (thn (h pos pins s σ H _ I hq) fun us s1 ⟨xs,H1,I1,r,z,q⟩=>⟨by rw [<- r.length]; exact xe5 z,?_⟩)
 have hf:H1 s1.heap.objs.size = none:=I1.hok.fresh (Nat.le_refl _)
 refine ⟨.ref s1.heap.objs.size,upd H1 s1.heap.objs.size (.lst xs),I1.laid (t':=s1.toks) (fun b u e=>Heap.get?_push_of_some _ e) (Nat.le_refl _) ?_,rfl,q _ hf⟩
 exact ⟨xe5 z,us,0,r,Heap.get?_push_size _ rfl⟩
end
theorem xb5 {t u:TS} {D:Ends} {σ:St} {H:Hp} (M:St -> Hp -> Prop) (h1:∀ N:St -> Hp -> Prop,(∀ σ' H',M σ' H' -> N σ' H') -> t { D with nx:=N } σ H) (h2:∀ σ' H',M σ' H' -> u D σ' H'):tSeq t u D σ H:=h1 (u D) h2
theorem xn5 {t t2 u:TS} {D:Ends} {σ:St} {H:Hp} (M:St -> Hp -> Prop) (h1:∀ N:St -> Hp -> Prop,(∀ σ' H',M σ' H' -> N σ' H') -> tSeq t t2 { D with nx:=N } σ H) (h2:∀ σ' H',M σ' H' -> u D σ' H'):tSeq t (tSeq t2 u) D σ H:=h1 (u D) h2
theorem yu0 {t t2 t3 u:TS} {D:Ends} {σ:St} {H:Hp} (M:St -> Hp -> Prop) (h1:∀ N:St -> Hp -> Prop,(∀ σ' H',M σ' H' -> N σ' H') -> tSeq t (tSeq t2 t3) { D with nx:=N } σ H) (h2:∀ σ' H',M σ' H' -> u D σ' H'):tSeq t (tSeq t2 (tSeq t3 u)) D σ H:=h1 (u D) h2
section
variable {X:Cx}
theorem yg2 (K:Frag) (hK:X.K = K:=by rfl):SlR X (rSlL K):=by subst hK; exact sl_list
theorem xc1 (K:Frag) (hK:X.K = K:=by rfl):IxR X (rIxL K):=by subst hK; exact ix_list
theorem zi2 (K:Frag) (hK:X.K = K:=by rfl):IxR X (rIxT K):=by subst hK; exact ix_tup
theorem zl2 (K:Frag) (hc:X.calm = true) (hK:X.K = K:=by rfl):xj5 X (.builtin "sum") (fun xs H Q=>∃ (p:Addr) (ns:List Int),xs = [.ref p] /\ SqL K H p (ns.map V.int) /\ Q (.int ns.sum) H):=by subst hK; exact call_sum hc
theorem xi2 (K:Frag) (hK:X.K = K:=by rfl):xj5 X (.builtin "len") (fun xs H Q=>∃ p ys,xs = [.ref p] /\ (SqL K H p ys \/ SqT K H p ys) /\ Q (.int ys.length) H):=by subst hK; exact yo9
theorem xb8 {tg l:Expr} {tl:TE} (K:Frag) (hl:PE X l tl) (hK:X.K = K:=by rfl):PI X tg l (iList K tl):=by subst hK; exact pi_list hl
theorem yr0 {tg l:Expr} {tl:TE} (K:Frag) (hl:PE X l tl) (hK:X.K = K:=by rfl):PI X tg l (iTup K tl):=by subst hK; exact pi_tup hl
theorem xo9 {es:List Expr} {k:Nat} {t:TGs} {n:Nat} {pos:Pos} (K:Frag) (hc:X.calm = true) (h:PGs X es t) (hn:(assignEach es X.env).length = n:=by rfl) (hst:(assignEach es X.env).findIdx? (·.1) = none:=by rfl) (hK:X.K = K:=by rfl):PG X (.Tuple es k pos) (gTup K n t):=by subst hK; exact pg_tup hc h hn hst
theorem xb7 {e:Expr} {ta:TE} {f:Str} {pos:Pos} (K:Frag) (he:PE X e ta) (hb:attributeBase e f X.env (eval e X.env) = eval e X.env:=by rfl) (hK:X.K = K:=by rfl):PE X (.Attribute e f pos) (tFld K ta f):=by subst hK; exact pe_fld he hb
end
def xp6 (H H':Hp):Prop:=∀ b xs,H b = some (.tup xs) -> H' b = some (.tup xs)
theorem Same.tup {H H':Hp} (h:Same H H'):xp6 H H':=fun b xs e=>h b _ e
theorem xp6.trans {H H1 H2:Hp} (a:xp6 H H1) (b:xp6 H1 H2):xp6 H H2:=fun c o h=>b c o (a c o h)
theorem Same.upd {H H':Hp} {p:Addr} {o:HO} (s:Same H H') (h:H p = none):Same H (upd H' p o):=fun b u e=>by
 rw [xa2 (xa3 e h)]; exact s b u e
theorem Same.new {H:Hp} {p:Addr} {o:HO} (h:H p = none):Same H (L2.upd H p o):=(Same.refl H).upd h
theorem comp_rel {K:Frag} {a D:Addr} {xs:List V} {g:TG} {te:TE} {σ0:St} {H1:Hp} {Q:Hp -> Prop} (R:V -> V -> Hp -> Prop) (ok:St -> Prop) (mono:∀ H H' x v,xp6 H H' -> R x v H -> R x v H')
  (sq:SqL K H1 a xs) (hD:H1 D = none) (hz:xs.length <= 1000) (h0:ok σ0)
  (hs:∀ x σ' H (N:St -> V -> Hp -> Prop),x ∈ xs -> ok σ' -> Same H1 H -> (∀ σ3 v H4,R x v H4 -> Same H H4 -> ok σ3 -> N σ3 v H4) -> g x σ' H fun σ3 H3=>te σ3 H3 fun v H4=>N σ3 v H4)
  (hd:∀ ys H',Same H1 H' -> H' D = some (.lst ys) -> Paired (fun x v=>R x v H') xs ys -> Q H') :
  ∃ W:Nat -> Nat -> St -> Hp -> Prop,(∃ m,W 0 m σ0 (upd H1 D (.lst []))) /\
   ∀ i m σ' H',W i m σ' H' -> ((Itl K a).stop i H' /\ Q H') \/ ((Itl K a).go i H' /\ ∀ x H2,(Itl K a).yld i H' x H2 -> g x σ' H2 fun σ3 H3=>te σ3 H3 fun v H4=>∃ xs,H4 D = some (.lst xs) /\ xs.length < sizeLine /\ ∃ m',m' < m /\ W (i + 1) m' σ3 (upd H4 D (.lst (xs ++ [v])))):=by
 refine ⟨fun i m σ' H'=>m = xs.length - i /\ i <= xs.length /\ ok σ' /\ Same H1 H' /\ ∃ ys,H' D = some (.lst ys) /\ Paired (fun x v=>R x v H') (xs.take i) ys,⟨xs.length,by simp,Nat.zero_le _,h0,Same.new hD,[],xa0,by rw [List.take_zero]; exact .nil⟩,?_⟩
 rintro i m σ' H' ⟨rfl,hi,hok,hsm,ys,hy,hp⟩
 have sq':=hsm.seq sq
 have hyl:ys.length = i:=by rw [<- Paired.length hp,List.length_take,Nat.min_eq_left hi]
 by_cases hlt:i < xs.length
 ·refine .inr ⟨⟨xs,xs[i],sq',by simp [hlt]⟩,fun x H2 y=>?_⟩
  obtain ⟨e,y⟩:=y
  subst e
  have hx:=y xs sq'
  refine hs x σ' _ (fun σ3 v H4=>∃ xs',H4 D = some (.lst xs') /\ xs'.length < sizeLine /\ ∃ m',m' < xs.length - i /\ _) (List.mem_of_getElem? hx) hok hsm fun σ3 v H4 r s4 ok3=>?_
  have tD:xp6 H4 (upd H4 D (.lst (ys ++ [v]))):=fun b zs e=>by
   rw [xa2 (xb9 e (s4 _ _ hy) (by intro z; cases z))]; exact e
  refine ⟨ys,s4 _ _ hy,Nat.lt_of_lt_of_le (show ys.length < 1001 by omega) (by decide),xs.length - (i + 1),by omega,rfl,hlt,ok3,(hsm.trans s4).upd hD,ys ++ [v],xa0,?_⟩
  have e2:xs.take (i + 1) = xs.take i ++ [x]:=by
   rw [List.take_add_one,hx]; rfl
  rw [e2]
  exact Paired.snoc (Paired.mapP hp fun b w q=>mono _ _ _ _ (s4.tup.trans tD) q) (mono _ _ _ _ tD r)
 ·have e:i = xs.length:=by omega
  subst e
  rw [List.take_length] at hp
  exact .inl ⟨⟨xs,sq',Nat.le_refl _⟩,hd ys H' hsm hy hp⟩
theorem ye3 {α β:Type} {f:α -> β}:∀ {xs:List α} {ys:List β},Paired (fun x y=>y = f x) xs ys -> ys = xs.map f
 | _,_,.nil=>rfl
 | _,_,.cons h t=>by rw [h,ye3 t]; rfl
theorem yi9 {K:Frag} {a D:Addr} {xs:List V} {g:TG} {te:TE} {σ0:St} {H1:Hp} {Q:Hp -> Prop} (f:V -> V) (ok:St -> Prop)
  (sq:SqL K H1 a xs) (hD:H1 D = none) (hz:xs.length <= 1000) (h0:ok σ0)
  (hs:∀ x σ' H (N:St -> V -> Hp -> Prop),x ∈ xs -> ok σ' -> Same H1 H -> (∀ σ3 H4,Same H H4 -> ok σ3 -> N σ3 (f x) H4) -> g x σ' H fun σ3 H3=>te σ3 H3 fun v H4=>N σ3 v H4)
  (hd:∀ H',Same H1 H' -> H' D = some (.lst (xs.map f)) -> Q H') :
  ∃ W:Nat -> Nat -> St -> Hp -> Prop,(∃ m,W 0 m σ0 (upd H1 D (.lst []))) /\
   ∀ i m σ' H',W i m σ' H' -> ((Itl K a).stop i H' /\ Q H') \/ ((Itl K a).go i H' /\ ∀ x H2,(Itl K a).yld i H' x H2 -> g x σ' H2 fun σ3 H3=>te σ3 H3 fun v H4=>∃ xs,H4 D = some (.lst xs) /\ xs.length < sizeLine /\ ∃ m',m' < m /\ W (i + 1) m' σ3 (upd H4 D (.lst (xs ++ [v])))) :=
 comp_rel (fun x v _=>v = f x) ok (fun _ _ _ _ _ h=>h) sq hD hz h0 (fun x σ' H N hx ho sm q=>hs x σ' H N hx ho sm fun σ3 H4 s4 o3=>q σ3 _ H4 rfl s4 o3) fun ys H' sm hy hp=>hd H' sm (by rw [<- ye3 hp]; exact hy)
theorem cut_take (xs:List V) (n:Nat):cutV xs none (some (n:Int)) = xs.take n:=by
 unfold cutV
 rw [HT.sIx_none,List.drop_zero,Nat.sub_zero]
 rw [HT.sIx_nat]
 by_cases h:n <= xs.length
 ·rw [Nat.min_eq_left h]
 ·rw [Nat.min_eq_right (by omega),List.take_length,List.take_of_length_le (by omega)]
theorem atI_0 {α:Type} (a:α) (l:List α):atI (a :: l) 0 = some a:=by exact xe6 (j:=0) rfl
theorem atI_1 {α:Type} (a b:α) (l:List α):atI (a :: b :: l) 1 = some b:=by exact xe6 (j:=1) rfl
section
variable {X:Cx}
theorem yo6 (K:Frag) (hc:X.calm = true) (hK:X.K = K:=by rfl):xj5 X (.builtin "min") (fun xs H Q=>∃ (p:Addr) (ns:List Int),xs = [.ref p] /\ SqL K H p (ns.map V.int) /\ ns ≠ [] /\ ∀ M,M ∈ ns -> (∀ a ∈ ns,M <= a) -> Q (.int M) H):=by
 subst hK
 intro pins s σ H xs us Q I r h
 obtain ⟨p,ns,rfl,hq,hne,q⟩:=h
 obtain ⟨u,rfl,rfl⟩:=xn3 r
 obtain ⟨its,rv,pl,hz⟩:=I.list hq
 have hi:=yf0 rv
 obtain ⟨xs,e⟩:=hi.allInts.items
 have hn:=hi.numsOf
 rw [show its = its.toArray.toList from rfl,e,nums_intItems] at hn
 have hsz:0 < xs.size:=by
  rcases Nat.eq_zero_or_pos xs.size with z | z
  ·exfalso
   apply hne
   rw [<- hn]
   have:xs = #[]:=Array.eq_empty_of_size_eq_zero z
   rw [this]; rfl
  ·exact z
 refine min_intList (I.ok.hd hc) (by rw [<- e]; exact pl.isList) hsz fun v h' tk hv hk=>?_
 obtain ⟨t,rfl⟩:=intItems_at hv
 obtain ⟨h1,h2⟩:=argBest_lt (numAt xs) (xs.size - 1)
 refine ⟨.int _,H,I.kept hk,⟨t,rfl⟩,q _ ?_ fun a ha=>?_⟩
 ·rw [<- hn,numAt_eq]; exact getD_mem (by rw [List.length_map,Array.length_toList]; omega)
 ·rw [<- hn] at ha
  obtain ⟨j,hj,rfl⟩:=mem_getD ha
  rw [List.length_map,Array.length_toList] at hj
  rw [<- numAt_eq]; exact h2 j (by omega)
end
section
variable {M:Model} {A:Around} {E:Value -> Shared -> Prop} {s:Shared} {env:Env} {outer:List Env} {base:Heap} {L ea T:Addr} {cls fl:Value} {dx:Option Addr} {Q:Unit -> Shared -> Prop}
end
section
variable {X:Cx} {pins:List (Addr × Obj)} {σ:St} {H:Hp} {s:Shared} {h':Heap}
structure Apart (X:Cx) (pins:List (Addr × Obj)) (H:Hp) (b:Addr):Prop where
 trk:H b = none
 old:X.s₀.heap.get? b = none
 loc:b ≠ X.env.locals
 cell:∀ x c,X.env.cells.lookup x = some c -> c ≠ b
 pin:∀ p ∈ X.pn ++ pins,p.1 ≠ b
end
section
variable {P:Program} {w:World} {K:Frag} {mg:Str -> Option Value} {base:Heap} {N:List Str} {qual:Str} {scope:Scope} {f:Addr} {cd:Value} {A:Around} {outer:List Env} {s₀:Shared} {H₀:Hp} {E:XK}
end
section
variable {P:Program} {w:World} {K:Frag} {mg:Str -> Option Value} {base:Heap} {N:List Str} {qual:Str} {scope:Scope} {f:Addr} {cd:Value} {A:Around} {outer:List Env} {s₀:Shared} {H₀:Hp} {E:XK}
end
section
variable {X:Cx} {k:Nat} {f C:Addr} {fd:FuncData} {ps:List Str} {sp:Sp} {dvs:List V} {ds:List Value} {x m:Str} {p pos apos:Pos} {e o:Expr} {es:List Expr} {ta:TE} {t:TA}
end
section
variable {X:Cx} {pins:List (Addr × Obj)} {σ:St} {H:Hp} {s:Shared} {ea:Addr}
end
section
variable {prog:Program} {w:World} {A:Around} {E:Value -> Shared -> Prop} {s:Shared} {K:Frag} {ea C:Addr} {oe:Obj} {od:Option Obj}
end
section
variable {X:Cx}
end
def Its (x:Str):It:=⟨fun i _=>i < x.cps.size,fun i H v H'=>H' = H /\ ∃ c,x.cps[i]? = some c /\ v = .str ⟨#[c]⟩,fun i _=>x.cps.size <= i⟩
theorem yx8 {P:Program} {w:World} {K:Frag} {tg:Expr} (x:Str) (t:Tok) (it:Addr):Turn P w K tg (Its x) [it] it (fun i h=>h.IsStrIter it "str_ascii_iterator" x t i) where
 mem:=by simp
 obj:=fun i h st b hb=>by
  obtain rfl:b = it:=by simpa using hb
  obtain ⟨o,e,c,d⟩:=st
  exact ⟨o,e,fun v z=>by rw [d] at z; cases z⟩
 keep:=fun i h h' st k=>by
  obtain ⟨o,e,c,d⟩:=st
  exact ⟨o,k it (by simp) o e,c,d⟩
 item:=by
  intro X hP hw hK hc i pins s σ H E I hf st hg
  subst hP hw hK
  have hg:i < x.cps.size:=hg
  obtain ⟨f0,f1,f2,f3,f4,f5⟩:=hf it (by simp)
  refine wpAny_pyNext_ascii_item st (c:=x.cps[i]) (by simp [hg]) fun h' st' sb=>?_
  have I1:Inv X pins σ H { s with heap:=h',toks:=s.toks + 1 }:=I.turned (t':=s.toks + 1) (fun b o hb e=>(sb.2 b hb).trans e) f0 f1 f3 f4 f5
  obtain ⟨o,e1,c,d⟩:=id st'
  exact ⟨_,rfl,yn2 (s:={ s with heap:=h',toks:=s.toks + 1 }) e1 c d (by decide) ⟨.str ⟨#[x.cps[i]]⟩,H,I1,⟨_,rfl⟩,⟨rfl,x.cps[i],by simp [hg],rfl⟩,st',fun b hb=>(hf b hb).1⟩⟩
 done:=by
  intro X hP hw hK hc i pins s σ H E I hf st hg
  subst hP hw hK
  have hg:x.cps.size <= i:=hg
  obtain ⟨f0,f1,f2,f3,f4,f5⟩:=hf it (by simp)
  exact wpAny_pyNext_ascii_end (I.ok.hd hc) st (by simp [hg]) fun h' eb=>⟨rfl,I.turned (t':=s.toks) (fun b o hb e=>eb b o hb e) f0 f1 f3 f4 f5⟩
 self:=fun _ _ _ _ _ st h=>wpAny_pyIter_striter_ascii st h
theorem zc0 {P:Program} {w:World} {K:Frag} {tg:Expr} (x:Str) (t:Tok) (it:Addr):Turn P w K tg (Its x) [it] it (fun i h=>h.IsStrIter it "str_iterator" x t i) where
 mem:=by simp
 obj:=fun i h st b hb=>by
  obtain rfl:b = it:=by simpa using hb
  obtain ⟨o,e,c,d⟩:=st
  exact ⟨o,e,fun v z=>by rw [d] at z; cases z⟩
 keep:=fun i h h' st k=>by
  obtain ⟨o,e,c,d⟩:=st
  exact ⟨o,k it (by simp) o e,c,d⟩
 item:=by
  intro X hP hw hK hc i pins s σ H E I hf st hg
  subst hP hw hK
  have hg:i < x.cps.size:=hg
  obtain ⟨f0,f1,f2,f3,f4,f5⟩:=hf it (by simp)
  refine wpAny_pyNext_wide_item st (c:=x.cps[i]) (by simp [hg]) fun h' st' sb=>?_
  have I1:Inv X pins σ H { s with heap:=h',toks:=s.toks + 1 }:=I.turned (t':=s.toks + 1) (fun b o hb e=>(sb.2 b hb).trans e) f0 f1 f3 f4 f5
  obtain ⟨o,e1,c,d⟩:=id st'
  exact ⟨_,rfl,yn2 (s:={ s with heap:=h',toks:=s.toks + 1 }) e1 c d (by decide) ⟨.str ⟨#[x.cps[i]]⟩,H,I1,⟨_,rfl⟩,⟨rfl,x.cps[i],by simp [hg],rfl⟩,st',fun b hb=>(hf b hb).1⟩⟩
 done:=by
  intro X hP hw hK hc i pins s σ H E I hf st hg
  subst hP hw hK
  have hg:x.cps.size <= i:=hg
  obtain ⟨f0,f1,f2,f3,f4,f5⟩:=hf it (by simp)
  exact wpAny_pyNext_wide_end (I.ok.hd hc) st (by simp [hg]) fun h' eb=>⟨rfl,I.turned (t':=s.toks) (fun b o hb e=>eb b o hb e) f0 f1 f3 f4 f5⟩
 self:=fun _ _ _ _ _ st h=>wpAny_pyIter_striter_wide st h
def iStr (tl:TE):TI:=fun σ H R=>tl σ H fun v H1=>∃ x,v = .str x /\ R (Its x) H1
theorem pi_str {X:Cx} {tg l:Expr} {tl:TE} (hl:PE X l tl):PI X tg l (iStr tl):=by
 intro pins s σ H R I h
 refine thn (hl pins s σ H _ I h) fun v s1 ⟨y,H1,I1,r1,q1⟩=>?_
 obtain ⟨x,rfl,q⟩:=q1
 obtain ⟨t,rfl⟩:=r1
 have fp:∀ b ∈ [s1.heap.objs.size],FpOk X pins H1 b:=fun b hb=>by
  obtain rfl:b = s1.heap.objs.size:=by simpa using hb
  exact I1.fpOk (Nat.le_refl _) (I1.hok.fresh (Nat.le_refl _))
 cases ha:x.cps.all (· < 128)
 ·exact wpAny_pyIter_wide ha ⟨s1.heap.objs.size,[s1.heap.objs.size],_,_,H1,rfl,I1.kept (t':=s1.toks) fun b o e=>Heap.get?_push_of_some _ e,zc0 x t _,⟨_,Heap.get?_push_size _ rfl,rfl,rfl⟩,fp,q⟩
 ·exact wpAny_pyIter_ascii ha ⟨s1.heap.objs.size,[s1.heap.objs.size],_,_,H1,rfl,I1.kept (t':=s1.toks) fun b o e=>Heap.get?_push_of_some _ e,yx8 x t _,⟨_,Heap.get?_push_size _ rfl,rfl,rfl⟩,fp,q⟩
section
variable {X:Cx}
theorem xf2 (K:Frag) (hK:X.K = K:=by rfl):xj5 X (.builtin "isinstance") (fun xs H Q=>∃ x n t b,xs = [x,.ty n] /\ TyOf K H x (.type t) /\ kitOne K (.type t) (.type n) = some b /\ Q (.bl b) H):=by
 subst hK
 intro pins s σ H xs us Q I r h
 obtain ⟨x,n,t,b,rfl,ht,hb,q⟩:=h
 obtain ⟨u,w',rfl,r1,r2⟩:=vals2 r
 cases r2
 exact ym9 I r1 ht hb fun tk=>⟨.bl b,H,I.tok tk,rfl,q⟩
end
theorem xz2 {X:Cx} {x:Str} {i:Int} {pos:Pos} (hg:Gl X x) (hm:∃ t,X.mg x = some (.int i t)) (hd:(x == ("__debug__" : Str)) = false:=by decide):PE X (.Name x pos) (tC (.int i)):=by
 obtain ⟨t,h⟩:=hm
 exact xq7 hg h ⟨_,rfl⟩ hd
theorem pe_gstr {X:Cx} {x z:Str} {pos:Pos} (hg:Gl X x) (hm:∃ t,X.mg x = some (.str z t)) (hd:(x == ("__debug__" : Str)) = false:=by decide):PE X (.Name x pos) (tC (.str z)):=by
 obtain ⟨t,h⟩:=hm
 exact xq7 hg h ⟨_,rfl⟩ hd
def tDead:TS:=fun _ _ _=>False
theorem xl9 {X:Cx} {st:Stmt}:PS X st tDead:=fun _ _ _ _ _ _ h=>h.elim
open PySem PySem.NumText PyProof.Rows
abbrev cs (x:Str):List Nat:=x.cps.toList
theorem cs_app (a b:Str):cs (a ++ b) = cs a ++ cs b:=PySem.W.KT.app_list a b
theorem yx1 (a:Str):(cs a).length = a.length:=by simp [cs,Str.length]
section
variable {prog:Program} {w:World} {A:Around} {E:Value -> Shared -> Prop} {s:Shared} {K:Frag} {ea C CL f:Addr} {oe:Obj} {od:Option Obj}
end
section
variable {X:Cx} {pins:List (Addr × Obj)} {σ:St} {H:Hp} {s:Shared} {ea C CL f:Addr}
end
section
variable {P:Program} {w:World} {K:Frag} {mg:Str -> Option Value} {base:Heap} {N:List Str} {qual:Str} {scope:Scope} {f:Addr} {cd:Value} {A:Around} {outer:List Env} {s₀:Shared} {H₀:Hp} {E:XK}
end
section
variable {X:Cx} {pins:List (Addr × Obj)} {σ:St} {H:Hp} {s:Shared} {ea:Addr}
end
section
variable {X:Cx} {o e value:Expr} {es:List Expr} {f x:Str} {pos pos' apos np:Pos} {ta tv:TE} {t:TA}
end
section
variable {P:Program} {w:World} {K:Frag} {mg:Str -> Option Value} {base:Heap} {qual:Str} {f:Addr}
end
open PySem PySem.Spec PySem.NumText PyProof.Rows
section
variable {X:Cx}
theorem xp4 (K:Frag) (hc:X.calm = true) (hK:X.K = K:=by rfl):xj5 X (.builtin "all") (fun xs H Q=>∃ (p:Addr) (bs:List Bool),xs = [.ref p] /\ SqL K H p (bs.map V.bl) /\ Q (.bl (bs.all id)) H):=by
 subst hK
 intro pins s σ H xs us Q I r h
 obtain ⟨p,bs,rfl,hq,q⟩:=h
 obtain ⟨u,rfl,rfl⟩:=xn3 r
 obtain ⟨its,rv,pl,hz⟩:=I.list hq
 have nth:∀ (i:Nat) (v:Value),its.toArray[i]? = some v -> v = Value.bool (bs.getD i true):=fun i v e=>by
  have e:its[i]? = some v:=by simpa using e
  have hi:i < bs.length:=by
   have:=(List.getElem?_eq_some_iff.mp e).1
   have h2:=rv.length
   simp at h2
   omega
  obtain ⟨u,e2,r2⟩:=rv.get (i:=i) (x:=V.bl bs[i]) (by simp [hi])
  rw [e] at e2
  cases e2
  cases r2
  rw [List.getD_eq_getElem?_getD,List.getElem?_eq_getElem hi]
  rfl
 refine call_all_walk (wpAny_pyIter_list pl.isList ?_)
 have hne:p ≠ s.heap.objs.size:=by
  obtain ⟨o,e,_⟩:=pl.isList
  exact Nat.ne_of_lt (Heap.lt_size e)
 refine ⟨s.heap.objs.size,_,_,_,_,_,fun i=>bs.getD i true,rfl,Walks.list (A:=X.A.in1) (I.ok.hd hc) s.heap.objs.size p hne its.toArray,⟨?_,?_⟩,?_,?_⟩
 ·exact ⟨_,Heap.get?_push_size _ rfl,rfl,rfl⟩
 ·obtain ⟨o,e,r⟩:=pl.isList
  exact ⟨o,Heap.get?_push_of_some _ e,r⟩
 ·intro i v s1 Q1 E1 hP hQ
  rw [nth i v hP]
  exact wpAny_truthy_bool hQ
 ·intro h' tk hk
  refine ⟨.bl _,H,I.kept (t':=tk) (h':=h') fun b o e=>hk b o (fun z=>?_) (Heap.get?_push_of_some _ e),rfl,?_⟩
  ·rw [List.mem_singleton] at z
   rw [z] at e
   exact absurd (Heap.lt_size e) (Nat.lt_irrefl _)
  ·have hl:its.toArray.size = bs.length:=by have:=rv.length; simp at this ⊢; omega
   rw [hl]
   have:((List.range bs.length).all fun i=>bs.getD i true) = bs.all id:=by
    clear q rv nth hl hq hz
    induction bs with
    | nil=>rfl
    | cons b bs ih=>rw [List.length_cons,List.range_succ_eq_map,List.all_cons,List.all_map,List.all_cons,<- ih]; rfl
   rw [this]; exact q
end
theorem xt6:bootBuiltins "all" = some (.builtin "all"):=by decide +kernel
theorem comp_str {x:Str} {D:Addr} {g:TG} {te:TE} {σ0:St} {H1:Hp} {Q:Hp -> Prop} (f:Nat -> Bool) (ok:St -> Prop) (hD:H1 D = none) (hz:x.length <= 1000) (h0:ok σ0)
  (hs:∀ c σ' H (N:St -> V -> Hp -> Prop),c ∈ cs x -> ok σ' -> (∀ σ3,ok σ3 -> N σ3 (.bl (f c)) H) -> g (.str ⟨#[c]⟩) σ' H fun σ3 H3=>te σ3 H3 fun v H4=>N σ3 v H4)
  (hd:∀ H',Same H1 H' -> H' D = some (.lst (((cs x).map f).map V.bl)) -> Q H') :
  ∃ W:Nat -> Nat -> St -> Hp -> Prop,(∃ m,W 0 m σ0 (upd H1 D (.lst []))) /\
   ∀ i m σ' H',W i m σ' H' -> ((Its x).stop i H' /\ Q H') \/ ((Its x).go i H' /\ ∀ y H2,(Its x).yld i H' y H2 -> g y σ' H2 fun σ3 H3=>te σ3 H3 fun v H4=>∃ xs,H4 D = some (.lst xs) /\ xs.length < sizeLine /\ ∃ m',m' < m /\ W (i + 1) m' σ3 (upd H4 D (.lst (xs ++ [v])))):=by
 have sz:x.cps.size = (cs x).length:=by simp [cs]
 have hz2:(cs x).length <= 1000:=by rw [yx1]; exact hz
 refine ⟨fun i m σ' H'=>m = (cs x).length - i /\ i <= (cs x).length /\ ok σ' /\ Same H1 H' /\ H' D = some (.lst ((((cs x).take i).map f).map V.bl)),⟨_,rfl,Nat.zero_le _,h0,Same.new hD,xa0⟩,?_⟩
 rintro i m σ' H' ⟨rfl,hi,ho,sm,hl⟩
 by_cases hlt:i < (cs x).length
 ·refine .inr ⟨by show i < x.cps.size; omega,fun y H2 yl=>?_⟩
  obtain ⟨e1,c,e2,e3⟩:=yl
  subst e1 e3
  have e2':(cs x)[i]? = some c:=by simpa [cs] using e2
  refine hs c σ' _ (fun σ3 v H4=>∃ xs',H4 D = some (.lst xs') /\ xs'.length < sizeLine /\ ∃ m',m' < (cs x).length - i /\ _) (List.mem_of_getElem? e2') ho fun σ3 ho3=>?_
  refine ⟨_,hl,Nat.lt_of_lt_of_le (show _ < 1001 by simp; omega) (by decide),(cs x).length - (i + 1),by omega,rfl,hlt,ho3,sm.upd hD,?_⟩
  rw [xa0,List.take_add_one,e2',List.map_append,List.map_append]
  rfl
 ·have e:i = (cs x).length:=by omega
  subst e
  refine .inl ⟨by show x.cps.size <= _; omega,hd H' sm ?_⟩
  rw [List.take_length] at hl
  exact hl
section
variable {X:Cx}
theorem zb6:bootBuiltins "tuple" = some (.type "tuple"):=by decide +kernel
theorem xg2:bootBuiltins "list" = some (.type "list"):=by decide +kernel
theorem xt5:bootBuiltins "dict" = some (.type "dict"):=by decide +kernel
theorem xu3 (K:Frag) (hK:X.K = K:=by rfl):OpR X (compareOp .In) (rIn K false):=by subst hK; exact zg0
theorem sqt_of {K:Frag} {a:Addr} {od:Option Addr} {n:Nat} {sl:Array (Option Value)} {us:List Value} {xs:List V} (h:K.lookup a = some ⟨.type "tuple",od,.seq us.toArray n,sl⟩) (hl:us.length <= 1000) (r:Vals xs us) (H:Hp):SqT K H a xs :=
 .inr ⟨_,_,_,h,rfl,rfl,by rw [List.size_toArray]; exact xe5 hl,r⟩
end
def lets:Str:=Str.ofString "abcdefghijklmnopqrstuvwxyz"
def xs9 (c:Nat):Bool:=decide (97 <= c) && decide (c <= 122)
theorem lets_are:cs lets = List.range' 97 26:=by decide +kernel
theorem in_lets (c:Nat):(!(Builtin.Str.occurrences lets ⟨#[c]⟩ 0 lets.length 1).isEmpty) = xs9 c:=by
 rw [StrLaws.found_one,Bool.eq_iff_iff,decide_eq_true_eq]
 show c ∈ cs lets ↔ _
 rw [lets_are,List.mem_range'_1]
 unfold xs9
 simp only [Bool.and_eq_true,decide_eq_true_eq]
 omega
theorem tyKeep {K:Frag} {H H':Hp} {x:V} {t:Value} (h:TyOf K H x t) (s:Same H H'):TyOf K H' x t:=by
 cases h with
 | non=>exact .non
 | bl b=>exact .bl b
 | int i=>exact .int i
 | str z=>exact .str z
 | flt z=>exact .flt z
 | lst e=>exact .lst (s _ _ e)
 | frz e=>exact .frz (s _ _ e)
 | tup e=>exact .tup (s _ _ e)
 | dK e=>exact .dK (s _ _ e)
 | dT e=>exact .dT (s _ _ e)
 | ins e a1 a2 a3 a4 a5=>exact .ins (s _ _ e) a1 a2 a3 a4 a5
section
variable {κ:Type} [DecidableEq κ]
def valV (kvs:List (κ × V)) (k:κ):Option V:=(kvs.find? fun kv=>decide (kv.1 = k)).map (·.2)
def putK (kvs:List (κ × V)) (k:κ) (v:V):List (κ × V) :=
 if (kvs.any fun kv=>decide (kv.1 = k)) = true then kvs.map (fun kv=>if kv.1 = k then (kv.1,v) else kv) else kvs ++ [(k,v)]
theorem yf9 {k:κ}:valV ([]:List (κ × V)) k = none:=rfl
theorem xd8 {p:κ × V} {r:List (κ × V)} {k:κ} (e:p.1 = k):valV (p :: r) k = some p.2:=by simp [valV,List.find?_cons,e]
theorem xg3 {p:κ × V} {r:List (κ × V)} {k:κ} (e:¬ p.1 = k):valV (p :: r) k = valV r k:=by simp [valV,List.find?_cons,e]
theorem xr4 (k:κ):∀ kvs:List (κ × V),(kvs.any fun kv=>decide (kv.1 = k)) = (valV kvs k).isSome
 | []=>rfl
 | p :: r=>by
  rw [List.any_cons]
  by_cases e:p.1 = k
  ·simp only [xd8 e,decide_eq_true e,Bool.true_or,Option.isSome_some]
  ·rw [xg3 e,decide_eq_false e,Bool.false_or]; exact xr4 k r
theorem yt7 (k j:κ) (y:V):∀ kvs:List (κ × V),valV (kvs.map fun kv=>if kv.1 = k then (kv.1,y) else kv) j = (valV kvs j).map fun x=>if j = k then y else x
 | []=>rfl
 | p :: r=>by
  have ih:=yt7 k j y r
  rw [List.map_cons]
  by_cases h:p.1 = k
  ·rw [if_pos h]
   by_cases e:p.1 = j
   ·rw [xd8 (p:=(p.1,y)) e,xd8 e,Option.map_some,if_pos (e.symm.trans h)]
   ·rw [xg3 (p:=(p.1,y)) e,xg3 e,ih]
  ·rw [if_neg h]
   by_cases e:p.1 = j
   ·rw [xd8 (p:=p) e,xd8 e,Option.map_some,if_neg (fun z=>h (e.trans z))]
   ·rw [xg3 (p:=p) e,xg3 e,ih]
theorem yk2 (k j:κ) (y:V):∀ kvs:List (κ × V),valV kvs k = none -> valV (kvs ++ [(k,y)]) j = if j = k then some y else valV kvs j
 | [],_=>by
  by_cases e:k = j
  ·rw [if_pos e.symm]; exact xd8 (p:=(k,y)) e
  ·rw [if_neg (fun z=>e z.symm)]; exact xg3 (p:=(k,y)) e
 | p :: r,hn=>by
  rw [List.cons_append]
  have hk:¬ p.1 = k:=fun z=>by rw [xd8 z] at hn; cases hn
  rw [xg3 hk] at hn
  have ih:=yk2 k j y r hn
  by_cases e:p.1 = j
  ·rw [xd8 e,xd8 e,if_neg (fun z=>hk (e.trans z))]
  ·rw [xg3 e,xg3 e,ih]
theorem xj0 (kvs:List (κ × V)) (k j:κ) (y:V):valV (putK kvs k y) j = if j = k then some y else valV kvs j:=by
 unfold putK
 by_cases a:(kvs.any fun kv=>decide (kv.1 = k)) = true
 ·rw [if_pos a,yt7]
  rw [xr4] at a
  by_cases e:j = k
  ·obtain ⟨x,hx⟩:=Option.isSome_iff_exists.mp a
   rw [if_pos e,e,hx,Option.map_some,if_pos rfl]
  ·rw [if_neg e]
   cases valV kvs j with
   | none=>rfl
   | some x=>rw [Option.map_some,if_neg e]
 ·rw [if_neg a]
  refine yk2 k j y kvs ?_
  rw [xr4] at a
  cases q:valV kvs k with
  | none=>rfl
  | some x=>rw [q] at a; exact (a rfl).elim
theorem xg0 (kvs:List (κ × V)) (k:κ) (v:V):(putK kvs k v).length <= kvs.length + 1:=by
 unfold putK
 split
 ·rw [List.length_map]; omega
 ·rw [List.length_append,List.length_cons,List.length_nil]; omega
theorem putK_new {kvs:List (κ × V)} {k:κ} (v:V) (h:valV kvs k = none):putK kvs k v = kvs ++ [(k,v)]:=by
 unfold putK
 rw [xr4,h]
 exact if_neg (by decide)
theorem RelO.isSome_eq {o:Option V} {u:Option Value} (r:RelO o u):o.isSome = u.isSome:=by
 cases o with
 | none=>cases u with
  | none=>rfl
  | some _=>exact (show False from r).elim
 | some _=>cases u with
  | none=>exact (show False from r).elim
  | some _=>rfl
theorem RelO.getD {o:Option V} {u:Option Value} {d:V} {d':Value} (r:RelO o u) (rd:RelV d d'):RelV (o.getD d) (u.getD d'):=by
 cases o with
 | none=>cases u with
  | none=>exact rd
  | some _=>exact (show False from r).elim
 | some _=>cases u with
  | none=>exact (show False from r).elim
  | some _=>exact r
theorem KV.val {kvs:List (κ × V)} {vs:List (κ × Value)} (r:KV kvs vs) (k:κ):RelO (valV kvs k) (valueAt vs k):=by
 unfold KV at r
 induction r with
 | nil=>exact True.intro
 | @cons p q ps qs h t ih =>
  obtain ⟨h1,h2⟩:=h
  by_cases e:p.1 = k
  ·have e':q.1 = k:=h1.symm.trans e
   have b:valueAt (q :: qs) k = some q.2:=by simp [valueAt,List.find?_cons,e']
   rw [xd8 e,b]; exact h2
  ·have e':¬ q.1 = k:=fun z=>e (h1.trans z)
   have b:valueAt (q :: qs) k = valueAt qs k:=by simp [valueAt,List.find?_cons,e']
   rw [xg3 e,b]; exact ih
theorem KV.any {kvs:List (κ × V)} {vs:List (κ × Value)} (r:KV kvs vs) (k:κ):(kvs.any fun kv=>decide (kv.1 = k)) = vs.any fun kv=>decide (kv.1 = k):=by
 unfold KV at r
 induction r with
 | nil=>rfl
 | cons h t ih=>rw [List.any_cons,List.any_cons,ih,h.1]
theorem KV.repl {kvs:List (κ × V)} {vs:List (κ × Value)} (r:KV kvs vs) (k:κ) {y:V} {u:Value} (ry:RelV y u) :
  KV (kvs.map fun kv=>if kv.1 = k then (kv.1,y) else kv) (vs.map fun kv=>if kv.1 = k then (kv.1,u) else kv):=by
 unfold KV at r ⊢
 induction r with
 | nil=>exact .nil
 | @cons p q ps qs h t ih =>
  rw [List.map_cons,List.map_cons]
  refine .cons ?_ ih
  obtain ⟨h1,h2⟩:=h
  by_cases e:p.1 = k
  ·rw [if_pos e,if_pos (h1.symm.trans e)]; exact ⟨h1,ry⟩
  ·rw [if_neg e,if_neg (fun z=>e (h1.trans z))]; exact ⟨h1,h2⟩
theorem KV.put {kvs:List (κ × V)} {vs:List (κ × Value)} (r:KV kvs vs) (k:κ) {y:V} {u:Value} (ry:RelV y u):KV (putK kvs k y) (stored vs k u):=by
 unfold putK stored
 rw [r.any k]
 by_cases e:(vs.any fun kv=>decide (kv.1 = k)) = true
 ·rw [if_pos e,if_pos e]; exact r.repl k ry
 ·rw [if_neg e,if_neg e]; exact Paired.snoc r ⟨rfl,ry⟩
theorem KV.length {kvs:List (κ × V)} {vs:List (κ × Value)} (r:KV kvs vs):kvs.length = vs.length:=Paired.length r
end
theorem ys3 {P:Program} {w:World} {k:Key} {u:Value} (r:RelV (kV k) u):(xc5 P w).is k u = true:=by
 cases k with
 | inl i=>obtain ⟨t,e⟩:=(show ∃ t,u = Value.int i t from r); subst e; exact yr9 P w i t
 | inr x=>obtain ⟨t,e⟩:=(show ∃ t,u = Value.str x t from r); subst e; exact yr8 P w x t
theorem ym8 {P:Program} {w:World}:∀ {ks:List Key} {us:List Value},Vals (ks.map kV) us -> ItemsAre (xc5 P w) ks us
 | [],_,r=>by rw [List.map_nil] at r; cases r; exact .nil
 | k :: ks,_,r=>by
  rw [List.map_cons] at r
  cases r with
  | cons h t=>exact .cons (ys3 h) (ym8 t)
abbrev KT (H:Hp):List (List Key × V) -> List (List Key × Addr × Value) -> Prop:=Paired fun p q=>p.1 = q.1 /\ H q.2.1 = some (.tup (p.1.map kV)) /\ RelV p.2 q.2.2
theorem KT.val {H:Hp} {kvs:List (List Key × V)} {xs:List (List Key × Addr × Value)} (r:KT H kvs xs) (k:List Key):RelO (valV kvs k) ((atKey xs k).map (·.2)):=by
 induction r with
 | nil=>exact True.intro
 | @cons p q ps qs h t ih =>
  obtain ⟨h1,_,h2⟩:=h
  by_cases e:p.1 = k
  ·have e':q.1 = k:=h1.symm.trans e
   have b:atKey (q :: qs) k = some q.2:=by simp [atKey,List.find?_cons,e']
   rw [xd8 e,b]; exact h2
  ·have e':¬ q.1 = k:=fun z=>e (h1.trans z)
   have b:atKey (q :: qs) k = atKey qs k:=by simp [atKey,List.find?_cons,e']
   rw [xg3 e,b]; exact ih
theorem KT.repl {H:Hp} {kvs:List (List Key × V)} {xs:List (List Key × Addr × Value)} (r:KT H kvs xs) (k:List Key) {y:V} {u:Value} (ry:RelV y u) :
  KT H (kvs.map fun kv=>if kv.1 = k then (kv.1,y) else kv) (xs.map (putAt k u)):=by
 induction r with
 | nil=>exact .nil
 | @cons p q ps qs h t ih =>
  rw [List.map_cons,List.map_cons]
  refine .cons ?_ ih
  obtain ⟨h1,h2,h3⟩:=h
  unfold putAt
  by_cases e:p.1 = k
  ·rw [if_pos e,if_pos (h1.symm.trans e)]; exact ⟨h1,h2,ry⟩
  ·rw [if_neg e,if_neg (fun z=>e (h1.trans z))]; exact ⟨h1,h2,h3⟩
theorem KT.put {H:Hp} {kvs:List (List Key × V)} {xs:List (List Key × Addr × Value)} (r:KT H kvs xs) (k:List Key) {b:Addr} {y:V} {u:Value} (hb:H b = some (.tup (k.map kV))) (ry:RelV y u) :
  KT H (putK kvs k y) (storedH xs k b u):=by
 have e:(kvs.any fun kv=>decide (kv.1 = k)) = (atKey xs k).isSome:=by
  rw [xr4,(r.val k).isSome_eq,Option.isSome_map]
 unfold putK storedH
 rw [e]
 by_cases q:(atKey xs k).isSome = true
 ·rw [if_pos q,if_pos q]; exact r.repl k ry
 ·rw [if_neg q,if_neg q]; exact Paired.snoc r ⟨rfl,hb,ry⟩
theorem KT.keeps {H H':Hp} {kvs:List (List Key × V)} {xs:List (List Key × Addr × Value)} (r:KT H kvs xs) (ht:∀ b ys,H b = some (.tup ys) -> H' b = some (.tup ys)):KT H' kvs xs :=
 Paired.mapP r fun _ _ z=>⟨z.1,ht _ _ z.2.1,z.2.2⟩
section
variable {P:Program} {w:World} {H:Hp} {h:Heap} {a:Addr}
theorem rd_of {u:HO} (ok:HOk P w H h) (e:Rd H a u):xe7 P w H h a u:=e.ok ok
theorem ys7 {kvs:List (Key × V)} (ok:HOk P w H h) (e:Rd H a (.dK kvs)):kvs.length <= sizeLine /\ (a == sysModules) = false /\ ∃ vs,KV kvs vs /\ h.DictOf (xc5 P w) a vs :=
 show xe7 P w H h a (.dK kvs) from rd_of ok e
theorem dk_of {kvs:List (Key × V)} (ok:HOk P w H h) (e:H a = some (.dK kvs)):kvs.length <= sizeLine /\ (a == sysModules) = false /\ ∃ vs,KV kvs vs /\ h.DictOf (xc5 P w) a vs:=ys7 ok (.inl e)
theorem xp2 {ks:List Key} (ok:HOk P w H h) (e:H a = some (.tup (ks.map kV))):(tupleKind (xc5 P w)).is h ks a:=by
 obtain ⟨_,its,r,o,h1,h2,n,h3⟩:=(show xe7 P w H h a (.tup (ks.map kV)) from ok a _ e)
 exact ⟨o,its.toArray,n,h1,h2,h3,by simpa using ym8 r⟩
theorem ys6 {kvs:List (List Key × V)} (ok:HOk P w H h) (e:Rd H a (.dT kvs)):kvs.length <= sizeLine /\ (a == sysModules) = false /\
  ∃ xs,KT H kvs xs /\ h.DictOfH (tupleKind (xc5 P w)) a xs:=by
 obtain ⟨z,y,xs,r,o,es,ep,h1,h2,h3,h4,h5⟩:=(show xe7 P w H h a (.dT kvs) from rd_of ok e)
 refine ⟨z,y,xs,r,o,es,ep,h1,h2,h3,h4,fun x hx=>?_,h5⟩
 have all:∀ {l:List (List Key × V)} {m:List (List Key × Addr × Value)},KT H l m -> ∀ x ∈ m,(tupleKind (xc5 P w)).is h x.1 x.2.1:=by
  intro l m q
  induction q with
  | nil=>intro x hx; exact nomatch hx
  | @cons p q ps qs hq t ih =>
   intro x hx
   rcases List.mem_cons.mp hx with e | hx
   ·subst e
    exact xp2 ok (by rw [<- hq.1]; exact hq.2.1)
   ·exact ih x hx
 exact all r x hx
theorem yn9 {kvs:List (List Key × V)} (ok:HOk P w H h) (e:H a = some (.dT kvs)):kvs.length <= sizeLine /\ (a == sysModules) = false /\
  ∃ xs,KT H kvs xs /\ h.DictOfH (tupleKind (xc5 P w)) a xs:=ys6 ok (.inl e)
end
def DGet (H:Hp) (a:Addr) (y:V) (r:Option V):Prop :=
 (∃ kvs k,Rd H a (.dK kvs) /\ y = kV k /\ r = valV kvs k) \/ ∃ kvs k b,Rd H a (.dT kvs) /\ y = .ref b /\ H b = some (.tup (k.map kV)) /\ r = valV kvs k
def DPut (H:Hp) (a:Addr) (y v:V) (H':Hp):Prop :=
 (∃ kvs k,H a = some (.dK kvs) /\ y = kV k /\ kvs.length < sizeLine /\ H' = upd H a (.dK (putK kvs k v))) \/
 ∃ kvs k b,H a = some (.dT kvs) /\ y = .ref b /\ H b = some (.tup (k.map kV)) /\ kvs.length < sizeLine /\ H' = upd H a (.dT (putK kvs k v))
theorem DGet.k {H:Hp} {a:Addr} {kvs:List (Key × V)} {k:Key} (e:H a = some (.dK kvs)):DGet H a (kV k) (valV kvs k):=.inl ⟨kvs,k,.inl e,rfl,rfl⟩
theorem DGet.t {H:Hp} {a b:Addr} {kvs:List (List Key × V)} {k:List Key} (e:H a = some (.dT kvs)) (eb:H b = some (.tup (k.map kV))):DGet H a (.ref b) (valV kvs k):=.inr ⟨kvs,k,b,.inl e,rfl,eb,rfl⟩
theorem DPut.k {H:Hp} {a:Addr} {kvs:List (Key × V)} {k:Key} {v:V} (e:H a = some (.dK kvs)) (hl:kvs.length < sizeLine):DPut H a (kV k) v (upd H a (.dK (putK kvs k v))):=.inl ⟨kvs,k,e,rfl,hl,rfl⟩
theorem DPut.t {H:Hp} {a b:Addr} {kvs:List (List Key × V)} {k:List Key} {v:V} (e:H a = some (.dT kvs)) (eb:H b = some (.tup (k.map kV))) (hl:kvs.length < sizeLine) :
  DPut H a (.ref b) v (upd H a (.dT (putK kvs k v))):=.inr ⟨kvs,k,b,e,rfl,eb,hl,rfl⟩
section
variable {X:Cx} {pins:List (Addr × Obj)} {σ:St} {H:Hp} {s:Shared} {a:Addr} {y v:V} {u r:Value} {o:Option V} {A:Around} {E:Value -> Shared -> Prop}
theorem Inv.big (I:Inv X pins σ H s):sysModules < s.heap.objs.size:=by
 have h:mainGlobals < s.heap.objs.size:=(I.mod.glob.keeps I.bk).lt
 exact Nat.lt_trans (by decide) h
theorem zk9 {Q:Value -> Shared -> Prop} (hu:A.units + 1 < cLine) (I:Inv X pins σ H s) (g:DGet H a y (some v)) (ry:RelV y u) (h:∀ w' s',Inv X pins σ H s' -> RelV v w' -> Q w' s') :
  wpAny (model X.prog X.w) A (getItem (.ref a) u) Q E s:=by
 rcases g with ⟨kvs,k,e,ey,l⟩ | ⟨kvs,k,b,e,ey,eb,l⟩
 ·subst ey
  obtain ⟨z,hd,vs,rel,dd⟩:=ys7 I.hok e
  obtain ⟨w',hw,rw'⟩:=RelO.some_of (v:=v) (o:=valueAt vs k) (by rw [l]; exact rel.val k)
  exact wpAny_getItem_of (ys3 ry) dd.mapOf hw (h w' _ (I.tok _) rw')
 ·subst ey
  cases (show u = Value.ref b from ry)
  obtain ⟨z,hd,xs,rel,dd⟩:=ys6 I.hok e
  obtain ⟨w',hw,rw'⟩:=RelO.some_of (v:=v) (o:=(atKey xs k).map (·.2)) (by rw [l]; exact rel.val k)
  obtain ⟨p,hp,hp2⟩:=Option.map_eq_some_iff.mp hw
  refine wpAny_getItem_heap (tupleKind_room_in1 hu) (xp2 I.hok eb) dd hp ?_
  rw [hp2]
  exact h w' _ (I.tok _) rw'
theorem d_in {Q:Value -> Shared -> Prop} (hu:A.units + 1 < cLine) (I:Inv X pins σ H s) (g:DGet H a y o) (ry:RelV y u) (h:∀ s',Inv X pins σ H s' -> Q (.bool o.isSome) s') :
  wpAny (model X.prog X.w) A (compareOp .In u (.ref a)) Q E s:=by
 rcases g with ⟨kvs,k,e,ey,l⟩ | ⟨kvs,k,b,e,ey,eb,l⟩
 ·subst ey
  obtain ⟨z,hd,vs,rel,dd⟩:=ys7 I.hok e
  refine wpAny_in_of (ys3 ry) hd dd.mapOf ?_
  rw [<- (rel.val k).isSome_eq,<- l]
  exact h _ (I.tok _)
 ·subst ey
  cases (show u = Value.ref b from ry)
  obtain ⟨z,hd,xs,rel,dd⟩:=ys6 I.hok e
  refine wpAny_in_heap (tupleKind_room_in1 hu) (xp2 I.hok eb) hd dd ?_
  have q:=(rel.val k).isSome_eq
  rw [Option.isSome_map] at q
  rw [<- q,<- l]
  exact h _ (I.tok _)
theorem d_notIn {Q:Value -> Shared -> Prop} (hu:A.units + 1 < cLine) (I:Inv X pins σ H s) (g:DGet H a y o) (ry:RelV y u) (h:∀ s',Inv X pins σ H s' -> Q (.bool (!o.isSome)) s') :
  wpAny (model X.prog X.w) A (compareOp .NotIn u (.ref a)) Q E s:=by
 rcases g with ⟨kvs,k,e,ey,l⟩ | ⟨kvs,k,b,e,ey,eb,l⟩
 ·subst ey
  obtain ⟨z,hd,vs,rel,dd⟩:=ys7 I.hok e
  refine wpAny_notIn_of (ys3 ry) hd dd.mapOf ?_
  rw [<- (rel.val k).isSome_eq,<- l]
  exact h _ (I.tok _)
 ·subst ey
  cases (show u = Value.ref b from ry)
  obtain ⟨z,hd,xs,rel,dd⟩:=ys6 I.hok e
  refine wpAny_notIn_heap (tupleKind_room_in1 hu) (xp2 I.hok eb) hd dd ?_
  have q:=(rel.val k).isSome_eq
  rw [Option.isSome_map] at q
  rw [<- q,<- l]
  exact h _ (I.tok _)
theorem xu6 {h':Heap} {t':Nat} {ob:HO} (I:Inv X pins σ H s) (mu:Mut (H a)) (hs:Heap.SameBut a s.heap h') (he:∃ q,h'.get? a = some q) (new:xe7 X.prog X.w (upd H a ob) h' a ob) :
  Inv X pins σ (upd H a ob) { s with heap:=h',toks:=t' } :=
 I.write (x:=a) (e:=a) mu (.inl rfl) (fun b q hb z=>(hs.2 b hb).trans z) he new
theorem dk_new {P:Program} {w:World} {H':Hp} {h':Heap} {kvs:List (Key × V)} {vs:List (Key × Value)} (z:kvs.length <= sizeLine) (hd:(a == sysModules) = false) (rel:KV kvs vs) (dd:h'.DictOf (xc5 P w) a vs) :
  xe7 P w H' h' a (.dK kvs):=⟨z,hd,vs,rel,dd⟩
theorem zk8 {H':Hp} {Q:Unit -> Shared -> Prop} (hu:A.units + 1 < cLine) (I:Inv X pins σ H s) (g:DPut H a y v H') (ry:RelV y u) (rv:RelV v r) (h:∀ s',Inv X pins σ H' s' -> Q () s') :
  wpAny (model X.prog X.w) A (setItem (.ref a) u r) Q E s:=by
 rcases g with ⟨kvs,k,e,ey,l,eH⟩ | ⟨kvs,k,b,e,ey,eb,l,eH⟩
 ·subst ey eH
  obtain ⟨z,hd,vs,rel,dd⟩:=dk_of I.hok e
  have hz:vs.length <= sizeLine:=by rw [<- rel.length]; exact z
  have hl:(putK kvs k v).length <= sizeLine:=by have:=xg0 kvs k v; omega
  refine wpAny_setItem_pairs (hsz:=hz) (ys3 ry) dd fun h' dd' hs=>h _ ?_
  have he:∃ q,h'.get? a = some q:=let ⟨q,_,_,hq,_⟩:=dd'; ⟨q,hq⟩
  exact xu6 I (by rw [e]; exact True.intro) hs he (dk_new hl hd (rel.put k rv) dd')
 ·subst ey eH
  cases (show u = Value.ref b from ry)
  obtain ⟨z,hd,xs,rel,dd⟩:=yn9 I.hok e
  have hz:xs.length <= sizeLine:=by rw [<- Paired.length rel]; exact z
  have hl:(putK kvs k v).length <= sizeLine:=by have:=xg0 kvs k v; omega
  refine wpAny_setItem_heap (hsz:=hz) (tupleKind_room_in1 hu) (xp2 I.hok eb) dd fun h' dd' hs=>h _ ?_
  obtain ⟨q,es,ep,hq,h2,h3,h4,_,h5⟩:=dd'
  refine xu6 I (by rw [e]; exact True.intro) hs ⟨q,hq⟩ ⟨hl,hd,_,(rel.put k eb rv).keeps fun c ys ec=>?_,q,es,ep,hq,h2,h3,h4,h5⟩
  rw [xa2 (xb9 ec e (fun z=>nomatch z))]
  exact ec
end
section
variable {X:Cx} {pins:List (Addr × Obj)} {σ:St} {H:Hp} {s:Shared} {a:Addr} {kvs:List (Key × V)} {k:Key} {u:Value} {A:Around} {E:Value -> Shared -> Prop}
end
def NoSl (i:Expr):Prop:=∀ ov iv,subscripted i false ov iv = operate [ov,iv] (getItem ov iv)
theorem subD_of {prog:Program} {w:World} {A:Around} {E:Value -> Shared -> Prop} {s:Shared} {env:Env} {value slice:Expr} {pos:Pos} {T id:String} {Q:Value -> Shared -> Prop}
  (hl:typeLookup (.type T) "__getitem__" = pure (some (.builtin id))) (hs:NoSl slice)
  (h:wpAny (model prog w) A (eval value env) (fun o s₁=>wpAny (model prog w) A (eval slice env) (fun i s₂=>s₂.TypeIs o T /\ wpAny (model prog w) A (getItem o i) Q E s₂) E s₁) E s) :
  wpAny (model prog w) A (eval (.Subscript value slice pos) env) Q E s:=by
 refine Subscript_ (wpAny_mono h (fun o s₁ h₁=>wpAny_mono h₁ (fun i s₂ h₂=>?_) fun _ _ x=>x) fun _ _ x=>x)
 obtain ⟨hT,h₂⟩:=h₂
 unfold subscriptTail
 refine wpAny_bind ?_
 rw [getitemInPython_of_ne hT.not_modules]
 refine wpAny_bind (wpAny_specialOf hT hl ?_)
 have fin:wpAny (model prog w) A (subscripted slice false o i) (fun r s₃=>wpAny (model prog w) A (letTemporaryGo value o r >>= fun _=>pure r) Q E s₃) E s₂:=by
  rw [hs o i]
  exact wpAny_operating (wpAny_mono h₂ (fun r s₃ h₃=>wpAny_bind (wpAny_letTemporaryGo (wpAny_pure h₃))) fun _ _ x=>x)
 first
  | exact wpAny_pure (wpAny_bind fin)
  | exact wpAny_bind (wpAny_pure (wpAny_bind fin))
  | exact wpAny_bind fin
theorem ys8 {X:Cx} {pins:List (Addr × Obj)} {σ:St} {H:Hp} {s:Shared} {a:Addr} {y:V} {o:Option V} (I:Inv X pins σ H s) (g:DGet H a y o):s.TypeIs (.ref a) "dict":=by
 rcases g with ⟨kvs,k,e,_,_⟩ | ⟨kvs,k,b,e,_,_,_⟩
 ·obtain ⟨_,_,vs,_,dd⟩:=ys7 I.hok e
  exact dd.typeIs
 ·obtain ⟨_,_,xs,_,dd⟩:=ys6 I.hok e
  exact dd.typeIs
def tDGet (td ty:TE):TE:=fun σ H Q=>td σ H fun x H1=>ty σ H1 fun y H2=>∃ a v,x = .ref a /\ DGet H2 a y (some v) /\ Q v H2
def tDIn (ty td:TE):TE:=fun σ H Q=>ty σ H fun y H1=>td σ H1 fun x H2=>∃ a o,x = .ref a /\ DGet H2 a y o /\ Q (.bl o.isSome) H2
def tDNotIn (ty td:TE):TE:=fun σ H Q=>ty σ H fun y H1=>td σ H1 fun x H2=>∃ a o,x = .ref a /\ DGet H2 a y o /\ Q (.bl (!o.isSome)) H2
def sDPut (td ty tv:TE):TS:=fun D σ H=>tv σ H fun v H1=>td σ H1 fun x H2=>ty σ H2 fun y H3=>∃ a H4,x = .ref a /\ DPut H3 a y v H4 /\ D.nx σ H4
section
variable {X:Cx} {o i e value:Expr} {pos pos' tpos:Pos} {td ty tv:TE}
theorem yr2 (hu:X.A.units + 1 < cLine) (ho:PE X o td) (hi:PE X i ty) (hs:NoSl i):PE X (.Subscript o i pos) (tDGet td ty):=by
 intro pins s σ H Q I h
 refine subD_of PySem.F.slot_dict_getitem.lookup hs (thn (ho pins s σ H _ I h) fun u s1 ⟨x,H1,I1,rx,q1⟩=>thn (hi pins s1 σ H1 _ I1 q1) fun iv s2 ⟨y,H2,I2,ry,a,v,ex,g,q2⟩=>?_)
 subst ex
 obtain rfl:u = Value.ref a:=rx
 exact ⟨ys8 I2 g,zk9 hu I2 g ry fun w' s3 I3 rw'=>⟨v,H2,I3,rw',q2⟩⟩
theorem yu7 (hu:X.A.units + 1 < cLine) (hi:PE X i ty) (ho:PE X o td):PC X .In i o (tDIn ty td):=by
 intro pins s σ H Q I h
 refine thn (hi pins s σ H _ I h) fun iv s1 ⟨y,H1,I1,ry,q1⟩=>thn (ho pins s1 σ H1 _ I1 q1) fun u s2 ⟨x,H2,I2,rx,a,ov,ex,g,q2⟩=>?_
 subst ex
 obtain rfl:u = Value.ref a:=rx
 exact d_in hu I2 g ry fun s3 I3=>⟨.bl ov.isSome,H2,I3,rfl,q2⟩
theorem zf5 (hu:X.A.units + 1 < cLine) (hi:PE X i ty) (ho:PE X o td):PC X .NotIn i o (tDNotIn ty td):=by
 intro pins s σ H Q I h
 refine thn (hi pins s σ H _ I h) fun iv s1 ⟨y,H1,I1,ry,q1⟩=>thn (ho pins s1 σ H1 _ I1 q1) fun u s2 ⟨x,H2,I2,rx,a,ov,ex,g,q2⟩=>?_
 subst ex
 obtain rfl:u = Value.ref a:=rx
 exact d_notIn hu I2 g ry fun s3 I3=>⟨.bl (!ov.isSome),H2,I3,rfl,q2⟩
theorem xl8 (hu:X.A.units + 1 < cLine) (ho:PE X o td) (hi:PE X i ty) (hv:PE X value tv) (hs:swapsWith value (some (.Subscript o i pos')) pos.line X.env = pure false) :
  PS X (.Assign [.Subscript o i pos'] value pos) (sDPut td ty tv):=by
 intro pins s σ H D I h
 refine wpAny_Assign_Subscript (thn (hv pins s σ H _ I h) fun r s1 ⟨v,H1,I1,rv,q1⟩=>thn (ho pins s1 σ H1 _ I1 q1) fun u s2 ⟨x,H2,I2,rx,q2⟩=>thn (hi pins s2 σ H2 _ I2 q2) fun iv s3 ⟨y,H3,I3,ry,a,H4,ex,g,q3⟩=>?_) hs
 subst ex
 obtain rfl:u = Value.ref a:=rx
 exact zk8 hu I3 g ry rv fun s4 I4=>⟨σ,H4,I4,q3⟩
end
theorem yw9 {P:Program} {w:World} {H:Hp} (h:Heap) (hb:sysModules < h.objs.size):xe7 P w H (h.push { cls:=.type "dict",data:=.dict #[] }) h.objs.size (.dK []) :=
 ⟨Nat.zero_le _,beq_eq_false_iff_ne.mpr (Ne.symm (Nat.ne_of_lt hb)),[],.nil,Heap.DictOf.new h⟩
theorem yw8 {P:Program} {w:World} {H:Hp} (h:Heap) (hb:sysModules < h.objs.size):xe7 P w H (h.push { cls:=.type "dict",data:=.dict #[] }) h.objs.size (.dT []) :=
 ⟨Nat.zero_le _,beq_eq_false_iff_ne.mpr (Ne.symm (Nat.ne_of_lt hb)),[],.nil,_,#[],0,Heap.get?_push_size _ rfl,⟨rfl,rfl,rfl⟩,rfl,rfl,List.nodup_nil⟩
def tDNewK:TE:=fun _ H Q=>∀ p,H p = none -> Q (.ref p) (upd H p (.dK []))
def tDNewT:TE:=fun _ H Q=>∀ p,H p = none -> Q (.ref p) (upd H p (.dT []))
section
variable {X:Cx} {pos:Pos}
theorem yu6:PE X (.Dict [] [] pos) tDNewK:=fun pins s σ H Q I h =>
 wpAny_Dict_empty ⟨.ref s.heap.objs.size,_,I.laid (a:=s.heap.objs.size) (o:=.dK []) (t':=s.toks) (fun _ _ q=>Heap.get?_push_of_some _ q) (Nat.le_refl _) (yw9 s.heap I.big),rfl,h _ (I.hok.fresh (Nat.le_refl _))⟩
theorem xj2:PE X (.Dict [] [] pos) tDNewT:=fun pins s σ H Q I h =>
 wpAny_Dict_empty ⟨.ref s.heap.objs.size,_,I.laid (a:=s.heap.objs.size) (o:=.dT []) (t':=s.toks) (fun _ _ q=>Heap.get?_push_of_some _ q) (Nat.le_refl _) (yw8 s.heap I.big),rfl,h _ (I.hok.fresh (Nat.le_refl _))⟩
end
def zc9:List (TE × TE) -> St -> Hp -> (List (V × V) -> Hp -> Prop) -> Prop
 | [],_,H,Q=>Q [] H
 | (tk,tv) :: r,σ,H,Q=>tk σ H fun x H1=>tv σ H1 fun y H2=>zc9 r σ H2 fun ps H3=>Q ((x,y) :: ps) H3
abbrev VV:List (V × V) -> List (Value × Value) -> Prop:=Paired fun p q=>RelV p.1 q.1 /\ RelV p.2 q.2
def PPs (X:Cx) (pos:Pos) (keys:List (Option Expr)) (values:List Expr) (trs:List (TE × TE)):Prop :=
 ∀ (pins:List (Addr × Obj)) (s:Shared) (σ:St) (H:Hp) (Q:List (V × V) -> Hp -> Prop),Inv X pins σ H s -> zc9 trs σ H Q ->
  wpAny (model X.prog X.w) X.A (evalPairs (pairTrees keys values X.env pos)) (fun vs s'=>∃ ps H',Inv X pins σ H' s' /\ VV ps vs /\ Q ps H') X.xe s
theorem xy8 {X:Cx} {pos:Pos}:PPs X pos [] [] []:=fun pins s σ H Q I h=>pairTrees_nil_walk ⟨[],H,I,.nil,h⟩
theorem xr8 {X:Cx} {pos:Pos} {k v:Expr} {ks:List (Option Expr)} {vs:List Expr} {tk tv:TE} {trs:List (TE × TE)} (hk:PE X k tk) (hv:PE X v tv) (hr:PPs X pos ks vs trs) :
  PPs X pos (some k :: ks) (v :: vs) ((tk,tv) :: trs):=fun pins s σ H Q I h =>
 pairTrees_cons_walk (thn (hk pins s σ H _ I h) fun u s1 ⟨x,H1,I1,rx,q1⟩=>thn (hv pins s1 σ H1 _ I1 q1) fun w2 s2 ⟨y,H2,I2,ry,q2⟩ =>
  thn (hr pins s2 σ H2 _ I2 q2) fun ws s3 ⟨ps,H3,I3,rel,q3⟩=>⟨(x,y) :: ps,H3,I3,.cons ⟨rx,ry⟩ rel,q3⟩)
def ya1 (kvs more:List (Key × V)):List (Key × V):=more.foldl (fun acc kv=>putK acc kv.1 kv.2) kvs
theorem KV.merge:∀ {more:List (Key × V)} {rs:List (Key × Value)} {kvs:List (Key × V)} {vs:List (Key × Value)},KV more rs -> KV kvs vs -> KV (ya1 kvs more) (merged vs rs):=by
 intro more rs kvs vs r
 unfold KV at r
 induction r generalizing kvs vs with
 | nil=>intro q; exact q
 | @cons p q ps qs h t ih =>
  intro r0
  have e:KV (putK kvs p.1 p.2) (stored vs q.1 q.2):=by
   have:=r0.put p.1 h.2
   rw [<- h.1]; exact this
  exact ih e
theorem xs6:∀ (more kvs:List (Key × V)),(ya1 kvs more).length <= kvs.length + more.length
 | [],kvs=>by show kvs.length <= kvs.length + 0; omega
 | p :: r,kvs=>by
  have h1:=xs6 r (putK kvs p.1 p.2)
  have h2:=xg0 kvs p.1 p.2
  show (ya1 (putK kvs p.1 p.2) r).length <= _
  rw [List.length_cons]; omega
theorem yf4 {P:Program} {w:World}:∀ {kvs:List (Key × V)} {ws:List (Value × Value)},VV (kvs.map fun kv=>(kV kv.1,kv.2)) ws -> ∃ rs,Carries (xc5 P w) ws rs /\ KV kvs rs
 | [],_,r=>by rw [List.map_nil] at r; cases r; exact ⟨[],True.intro,.nil⟩
 | p :: kvs,_,r=>by
  rw [List.map_cons] at r
  cases r with
  | @cons a b as bs h t =>
   obtain ⟨rs,c,q⟩:=yf4 (P:=P) (w:=w) t
   obtain ⟨b1,b2⟩:=b
   exact ⟨(p.1,b2) :: rs,⟨ys3 h.1,rfl,c⟩,.cons ⟨rfl,h.2⟩ q⟩
def tDisp (trs:List (TE × TE)):TE:=fun σ H Q=>∀ p,H p = none -> zc9 trs σ (upd H p (.dK [])) fun ps H2=>H2 p = some (.dK []) /\ ∃ kvs:List (Key × V),ps = kvs.map (fun kv=>(kV kv.1,kv.2)) /\ kvs.length <= 15 /\ Q (.ref p) (upd H2 p (.dK (ya1 [] kvs)))
theorem xz3 {X:Cx} {pos:Pos} {keys:List (Option Expr)} {values:List Expr} {trs:List (TE × TE)} (h:PPs X pos keys values trs) (hall:keys.all (·.isSome) = true) (hl:keys.length = values.length) (h0:keys ≠ [])
  (h15:keys.length <= 15):PE X (.Dict keys values pos) (tDisp trs):=by
 intro pins s σ H Q I q
 have hn:=I.hok.fresh (Nat.le_refl s.heap.objs.size)
 have I1:=I.laid (a:=s.heap.objs.size) (o:=.dK []) (h':=s.heap.push { cls:=.type "dict",data:=.dict #[] }) (t':=s.toks) (fun _ _ q=>Heap.get?_push_of_some _ q) (Nat.le_refl _) (yw9 s.heap I.big)
 refine wpAny_Dict_walk (knd:=xc5 X.prog X.w) hall hl h0 h15 (thn (h pins _ σ _ _ I1 (q _ hn)) fun ws s2 ⟨ps,H2,I2,rel,e,kvs,ep,lk,q2⟩=>?_)
 subst ep
 obtain ⟨rs,c,rk⟩:=yf4 (P:=X.prog) (w:=X.w) rel
 obtain ⟨z,hd,vs0,r0,dd⟩:=dk_of I2.hok e
 cases r0
 refine ⟨rs,c,dd,fun h' dd' hs=>⟨.ref s.heap.objs.size,_,?_,rfl,q2⟩⟩
 have hz:(ya1 [] kvs).length <= sizeLine:=by
  have h1:=xs6 kvs []
  rw [List.length_nil] at h1
  rw [sizeLine_eq]; omega
 have he:∃ q,h'.get? s.heap.objs.size = some q:=let ⟨q,_,_,hq,_⟩:=dd'; ⟨q,hq⟩
 exact xu6 I2 (by rw [e]; exact True.intro) hs he (dk_new hz hd (rk.merge .nil) dd')
structure M1 (X:Cx) (o:Expr) (m:Str) (apos:Pos) (e:Expr) (cpos:Pos):Prop where
 base:attributeBase o m X.env (eval o X.env) = eval o X.env
 few:((backTo cpos (starEach [e] X.env)).all (fun x=>!x.1) && (backToKw cpos (keywordEach [] X.env)).all (fun x=>x.1.isSome)
  && decide (([e]:List Expr).length + ([]:List Keyword).length + (if ([]:List Keyword).isEmpty then 0 else 1) < 30)) = true
 line:(apos.endLine == cpos.line) = true
 trees:backTo cpos (starEach [e] X.env) = [(false,eval e X.env)]
structure M2 (X:Cx) (o:Expr) (m:Str) (apos:Pos) (e f:Expr) (cpos:Pos):Prop where
 base:attributeBase o m X.env (eval o X.env) = eval o X.env
 few:((backTo cpos (starEach [e,f] X.env)).all (fun x=>!x.1) && (backToKw cpos (keywordEach [] X.env)).all (fun x=>x.1.isSome)
  && decide (([e,f]:List Expr).length + ([]:List Keyword).length + (if ([]:List Keyword).isEmpty then 0 else 1) < 30)) = true
 line:(apos.endLine == cpos.line) = true
 trees:backTo cpos (starEach [e,f] X.env) = [(false,eval e X.env),(false,eval f X.env)]
def IsD (H:Hp) (a:Addr):Prop:=(∃ kvs,Rd H a (.dK kvs)) \/ ∃ kvs,Rd H a (.dT kvs)
theorem yv8 {X:Cx} {pins:List (Addr × Obj)} {σ:St} {H:Hp} {s:Shared} {a:Addr} (I:Inv X pins σ H s) (d:IsD H a) :
  s.TypeIs (.ref a) "dict" /\ (∀ b,Value.ref a = .ref b -> ∃ ob,s.heap.get? b = some ob /\ ob.dict = none) /\ (a == sysModules) = false:=by
 rcases d with ⟨kvs,e⟩ | ⟨kvs,e⟩
 ·obtain ⟨_,hd,vs,_,dd⟩:=ys7 I.hok e
  refine ⟨dd.typeIs,fun b q=>?_,hd⟩
  cases q
  obtain ⟨ob,_,_,h1,h2,_⟩:=dd
  exact ⟨ob,h1,h2.2.1⟩
 ·obtain ⟨_,hd,xs,_,dd⟩:=ys6 I.hok e
  refine ⟨dd.typeIs,fun b q=>?_,hd⟩
  cases q
  obtain ⟨ob,_,_,h1,h2,_⟩:=dd
  exact ⟨ob,h1,h2.2.1⟩
section
variable {X:Cx} {pins:List (Addr × Obj)} {σ:St} {H:Hp} {s:Shared} {a:Addr} {y d:V} {u r:Value} {o:Option V} {A:Around} {E:Value -> Shared -> Prop}
theorem d_get2 {Q:Value -> Shared -> Prop} (hu:A.units + 1 < cLine) (I:Inv X pins σ H s) (g:DGet H a y o) (ry:RelV y u) (rd:RelV d r) (h:∀ w' s',Inv X pins σ H s' -> RelV (o.getD d) w' -> Q w' s') :
  wpAny (model X.prog X.w) A (call (.builtin "dict.get") [.ref a,u,r]) Q E s:=by
 rcases g with ⟨kvs,k,e,ey,l⟩ | ⟨kvs,k,b,e,ey,eb,l⟩
 ·subst ey
  obtain ⟨z,hd,vs,rel,dd⟩:=ys7 I.hok e
  refine call_meetsIn PySem.F.slot_dict_get dd.typeIs PySem.F.entry_dict_get (PySem.F.args_dict_get_3 _ _ _) (meets_dict_get_default (xc5 X.prog X.w) a (ys3 ry) hd r) ⟨_,dd.mapOf,h _ _ (I.tok _) ?_⟩
  rw [l]
  exact (rel.val k).getD rd
 ·subst ey
  cases (show u = Value.ref b from ry)
  obtain ⟨z,hd,xs,rel,dd⟩:=ys6 I.hok e
  refine call_meetsIn PySem.F.slot_dict_get dd.typeIs PySem.F.entry_dict_get (PySem.F.args_dict_get_3 _ _ _) (meetsH_dict_get_default (tupleKind (xc5 X.prog X.w)) a b hd r) ⟨tupleKind_room_in1 hu,k,xs,xp2 I.hok eb,dd,h _ _ (I.tok _) ?_⟩
  rw [l]
  exact (rel.val k).getD rd
end
def tDGet2 (td ty tx:TE):TE:=fun σ H Q=>td σ H fun x H1=>∃ a,x = .ref a /\ IsD H1 a /\ ty σ H1 fun y H2=>tx σ H2 fun z H3=>∃ o,DGet H3 a y o /\ Q (o.getD z) H3
section
variable {X:Cx} {o e f:Expr} {apos cpos:Pos} {td ty tx:TE}
theorem pe_dget2 (hu:X.A.units + 1 < cLine) (ho:PE X o td) (he:PE X e ty) (hf:PE X f tx) (m:M2 X o "get" apos e f cpos):PE X (.Call (.Attribute o "get" apos) [e,f] [] cpos) (tDGet2 td ty tx):=by
 intro pins s σ H Q I h
 refine wpAny_Call_method m.base m.few m.line PySem.F.plainAttrs_dict PySem.F.slot_dict_get PySem.F.type_dict_get (thn (ho pins s σ H _ I h) fun u s1 ⟨x,H1,I1,rx,a,ex,d,q1⟩=>?_)
 subst ex
 obtain rfl:u = Value.ref a:=rx
 obtain ⟨t1,t2,_⟩:=yv8 I1 d
 refine ⟨t1,t2,?_⟩
 rw [m.trees]
 refine Calls.callWith_builtin rfl (Calls.evalArgs_plain (Calls.spliced_cons (thn (he pins s1 σ H1 _ I1 q1) fun iv s2 ⟨y,H2,I2,ry,q2⟩ =>
  Calls.spliced_cons (thn (hf pins s2 σ H2 _ I2 q2) fun fv s3 ⟨z,H3,I3,rz,ov,g,q3⟩=>Calls.spliced_nil ?_))))
 exact d_get2 hu I3 g ry rz fun w' s4 I4 rw'=>⟨_,H3,I4,rw',q3⟩
end
section
variable {X:Cx} {pins:List (Addr × Obj)} {σ:St} {H:Hp} {s:Shared} {a:Addr} {kvs:List (Key × V)} {A:Around} {E:Value -> Shared -> Prop}
end
section
variable {X:Cx} {pins:List (Addr × Obj)} {σ:St} {H:Hp} {s:Shared} {a:Addr} {y:V} {u:Value} {A:Around} {E:Value -> Shared -> Prop}
end
end L2
namespace LS
open PySem
def Lo (l:List Nat) (j r:Nat):Prop:=r <= l.length /\ (∀ (k v:Nat),k < r -> l[k]? = some v -> v < j) /\ ∀ (k v:Nat),r <= k -> l[k]? = some v -> j <= v
theorem below_go {xs:Array Nat} {j:Nat} (hp:xs.toList.Pairwise (· < ·)):∀ (fuel lo hi:Nat),lo <= hi -> hi <= xs.size -> hi - lo <= fuel ->
  (∀ (k v:Nat),k < lo -> xs.toList[k]? = some v -> v < j) -> (∀ (k v:Nat),hi <= k -> xs.toList[k]? = some v -> j <= v) -> Lo xs.toList j (SetTable.below.go xs j fuel lo hi):=by
 intro fuel
 induction fuel with
 | zero =>
  intro lo hi h1 h2 h3 h4 h5
  unfold SetTable.below.go
  exact ⟨by simp; omega,h4,fun k v hk=>h5 k v (by omega)⟩
 | succ fuel ih =>
  intro lo hi h1 h2 h3 h4 h5
  unfold SetTable.below.go
  by_cases c:lo < hi
  ·rw [if_pos c]
   have hm:(lo + hi) / 2 < xs.size:=by omega
   have eg:xs.toList[(lo + hi) / 2]? = some (xs.getD ((lo + hi) / 2) j):=by
    rw [Array.getD_eq_getD_getElem?,Array.getElem?_eq_getElem hm]
    simp [hm]
   have mono:∀ (a b u v:Nat),a < b -> xs.toList[a]? = some u -> xs.toList[b]? = some v -> u < v:=fun a b u v hab ha hb=>by
    obtain ⟨la,ea⟩:=List.getElem?_eq_some_iff.mp ha
    obtain ⟨lb,eb⟩:=List.getElem?_eq_some_iff.mp hb
    have:=List.pairwise_iff_getElem.mp hp a b la lb hab
    rw [ea,eb] at this
    exact this
   dsimp only
   by_cases d:xs.getD ((lo + hi) / 2) j < j
   ·rw [if_pos d]
    refine ih _ _ (by omega) h2 (by omega) (fun k v hk e=>?_) h5
    by_cases kk:k = (lo + hi) / 2
    ·subst kk; rw [eg] at e; cases e; exact d
    ·exact Nat.lt_trans (mono _ _ _ _ (by omega) e eg) d
   ·rw [if_neg d]
    refine ih _ _ (by omega) (by omega) (by omega) h4 (fun k v hk e=>?_)
    by_cases kk:k = (lo + hi) / 2
    ·subst kk; rw [eg] at e; cases e; omega
    ·have:=mono _ _ _ _ (show (lo + hi) / 2 < k by omega) eg e
     omega
  ·rw [if_neg c]
   exact ⟨by simp; omega,h4,fun k v hk=>h5 k v (by omega)⟩
theorem xx6 {xs:Array Nat} (hp:xs.toList.Pairwise (· < ·)) (j:Nat):Lo xs.toList j (SetTable.below xs j):=by
 unfold SetTable.below
 refine below_go hp _ _ _ (Nat.zero_le _) (Nat.le_refl _) (by omega) (fun k v hk=>absurd hk (by omega)) (fun k v hk e=>?_)
 have:=(List.getElem?_eq_some_iff.mp e).1
 simp at this
 omega
theorem below_at {xs:Array Nat} (hp:xs.toList.Pairwise (· < ·)) {i j:Nat} (h:xs.toList[i]? = some j):SetTable.below xs j = i:=by
 obtain ⟨h1,h2,h3⟩:=xx6 hp j
 rcases Nat.lt_trichotomy (SetTable.below xs j) i with c | c | c
 ·-- the one at r is at least j,the one at i above it
  obtain ⟨li,ei⟩:=List.getElem?_eq_some_iff.mp h
  have lr:SetTable.below xs j < xs.toList.length:=by omega
  have:=h3 _ _ (Nat.le_refl _) (List.getElem?_eq_getElem lr)
  have q:=List.pairwise_iff_getElem.mp hp _ _ lr li c
  omega
 ·exact c
 ·exact absurd (h2 _ _ c h) (by omega)
theorem xx9 {t:SetTable} (hp:t.place.toList.Pairwise (· < ·)) {i j:Nat} (h:t.place.toList[i]? = some j):t.slot j = .live i:=by
 unfold SetTable.slot
 dsimp only
 rw [below_at hp h]
 have:t.place[i]? = some j:=by rw [<- h]; simp
 rw [this]
 simp
theorem zd8 {t:SetTable} (hd:t.dummies = #[]) {j:Nat} (h:j ∉ t.place.toList):t.slot j = .empty:=by
 unfold SetTable.slot
 dsimp only
 have a:(t.place[SetTable.below t.place j]? == some j) = false:=by
  rw [Bool.eq_false_iff]
  intro e
  have e:=eq_of_beq e
  exact h (List.mem_of_getElem? (i:=SetTable.below t.place j) (by rw [<- e]; simp))
 rw [a,hd]
 simp [SetTable.has]
theorem xt0 {α:Type} (xs:Array α) (p:Nat) (x:α) (hp:p <= xs.size):(SetTable.insertAt xs p x).toList = xs.toList.take p ++ x :: xs.toList.drop p:=by
 unfold SetTable.insertAt
 simp [Array.toList_extract]; exact List.take_of_length_le (by simp)
theorem ym0 {l:List Nat} {j r:Nat} (hp:l.Pairwise (· < ·)) (lo:Lo l j r) (hj:j ∉ l):(l.take r ++ j :: l.drop r).Pairwise (· < ·):=by
 obtain ⟨h1,h2,h3⟩:=lo
 have a:∀ x ∈ l.take r,x < j:=fun x hx=>by
  obtain ⟨k,hk⟩:=List.getElem?_of_mem hx
  rw [List.getElem?_take] at hk
  split at hk
  ·exact h2 k x (by assumption) hk
  ·cases hk
 have b:∀ x ∈ l.drop r,j < x:=fun x hx=>by
  obtain ⟨k,hk⟩:=List.getElem?_of_mem hx
  rw [List.getElem?_drop] at hk
  have:=h3 _ x (by omega) hk
  rcases Nat.lt_or_eq_of_le this with z | z
  ·exact z
  ·exact absurd (by rw [z]; exact List.mem_of_getElem? hk) hj
 rw [List.pairwise_append]
 refine ⟨hp.sublist (List.take_sublist _ _),List.pairwise_cons.mpr ⟨fun x hx=>b x hx,hp.sublist (List.drop_sublist _ _)⟩,fun x hx y hy=>?_⟩; rcases List.mem_cons.mp hy with rfl | hy
 ·exact a x hx
 ·exact Nat.lt_trans (a x hx) (b y hy)
def adv (mask:Nat) (p:SetTable.Probe):SetTable.Probe:=SetTable.advance { SetTable.fresh 0 0 false with mask:=mask } p
def advs (mask:Nat) (p:SetTable.Probe):Nat -> SetTable.Probe
 | 0=>p
 | n + 1=>adv mask (advs mask p n)
theorem xt7 (mask:Nat) (p:SetTable.Probe) (n:Nat):∀ m,advs mask (advs mask p n) m = advs mask p (n + m)
 | 0=>rfl
 | m + 1=>by rw [advs,xt7 mask p n m]; rfl
theorem yj7 (mask:Nat) (p:SetTable.Probe):∀ n,n <= p.more -> advs mask p n = { p with j:=p.j + n,more:=p.more - n }
 | 0,_=>rfl
 | n + 1,h=>by
  rw [advs,yj7 mask p n (by omega)]
  unfold adv SetTable.advance; dsimp only
  rw [if_pos (show p.more - n > 0 by omega)]
  congr 1
def at0 (mask i pt:Nat) (d:Option Nat):SetTable.Probe:={ j:=i,more:=SetTable.runEnd mask i - i,i:=i,perturb:=pt,dummy:=d }
theorem run9 (mask i:Nat):SetTable.runEnd mask i - i <= 9:=by
 unfold SetTable.runEnd
 split <;> omega
def xk0 (mask i pt:Nat):Nat -> Nat × Nat
 | 0=>(i,pt)
 | n + 1=>SetTable.leap mask (xk0 mask i pt n).1 (xk0 mask i pt n).2
theorem yc0 (mask:Nat) (p:SetTable.Probe):advs mask p (p.more + 1) = at0 mask (SetTable.leap mask p.i p.perturb).1 (SetTable.leap mask p.i p.perturb).2 p.dummy:=by
 rw [advs,yj7 mask p p.more (Nat.le_refl _)]
 unfold adv SetTable.advance; dsimp only
 rw [if_neg (by simp)]
 rfl
theorem yf6 (mask:Nat) (p:SetTable.Probe) (hm:p.more <= 9):∀ n,∃ k,k <= 10 * (n + 1) /\ advs mask p k = at0 mask (xk0 mask p.i p.perturb (n + 1)).1 (xk0 mask p.i p.perturb (n + 1)).2 p.dummy
 | 0=>⟨p.more + 1,by omega,yc0 mask p⟩
 | n + 1=>by
  obtain ⟨k,hk,e⟩:=yf6 mask p hm n
  generalize hl:xk0 mask p.i p.perturb (n + 1) = l at e
  have:=yc0 mask (at0 mask l.1 l.2 p.dummy)
  refine ⟨k + ((at0 mask l.1 l.2 p.dummy).more + 1),?_,?_⟩
  ·have:=run9 mask l.1
   show k + (SetTable.runEnd mask l.1 - l.1 + 1) <= _
   omega
  ·rw [<- xt7,e,this,xk0,hl]
   rfl
theorem yv4 (mask i pt:Nat):∀ n,(xk0 mask i pt n).2 = pt / 32 ^ n
 | 0=>by simp [xk0]
 | n + 1=>by
  rw [xk0]
  show (xk0 mask i pt n).2 / 32 = _
  rw [yv4 mask i pt n,Nat.div_div_eq_div_mul,Nat.pow_succ]
theorem za2 (mask i pt:Nat) (h:pt < 2 ^ 64) {n:Nat} (hn:13 <= n):(xk0 mask i pt n).2 = 0:=by
 rw [yv4]
 refine Nat.div_eq_of_lt (Nat.lt_of_lt_of_le h ?_)
 exact Nat.le_trans (show 2 ^ 64 <= 32 ^ 13 by decide) (Nat.pow_le_pow_right (by decide) hn)
def cyc (N i:Nat):Nat -> Nat
 | 0=>i
 | n + 1=>(cyc N i n * 5 + 1) % N
theorem yb5 (N i n:Nat):∀ m,cyc N (cyc N i n) m = cyc N i (n + m)
 | 0=>rfl
 | m + 1=>by rw [cyc,yb5 N i n m]; rfl
theorem ya5 (mask i pt:Nat) (h:pt < 2 ^ 64):∀ n,(xk0 mask i pt (13 + n)).1 = cyc (mask + 1) (xk0 mask i pt 13).1 n
 | 0=>rfl
 | n + 1=>by
  rw [show 13 + (n + 1) = (13 + n) + 1 by omega,xk0,cyc,<- ya5 mask i pt h n]
  show (_ * 5 + 1 + (xk0 mask i pt (13 + n)).2 / 32) % (mask + 1) = _
  rw [za2 mask i pt h (by omega)]
def xl7 (m:Nat):Prop:=m = 7 \/ m = 15 \/ m = 31 \/ m = 63 \/ m = 127
def yz1 (N:Nat):Nat -> Nat -> List Nat
 | 0,_=>[]
 | n + 1,i=>i :: yz1 N n ((i * 5 + 1) % N)
def xz4 (N:Nat):Bool:=((List.range N).all fun j=>(yz1 N N 0).contains j) && (cyc N 0 N == 0)
theorem orb_all:xz4 8 = true /\ xz4 16 = true /\ xz4 32 = true /\ xz4 64 = true /\ xz4 128 = true:=by decide +kernel
theorem ym1 (N:Nat):∀ (n i k v:Nat),(yz1 N n i)[k]? = some v -> k < n /\ v = cyc N i k
 | 0,i,k,v,h=>by simp [yz1] at h
 | n + 1,i,0,v,h=>by simp [yz1] at h; exact ⟨by omega,h.symm⟩
 | n + 1,i,k + 1,v,h=>by
  simp [yz1] at h
  obtain ⟨h1,h2⟩:=ym1 N n _ k v h
  refine ⟨by omega,?_⟩
  rw [h2,show (i * 5 + 1) % N = cyc N i 1 from rfl,yb5]
  congr 1
  omega
theorem xl7.orb {m:Nat} (h:xl7 m):xz4 (m + 1) = true:=by
 obtain ⟨a,b,c,d,e⟩:=orb_all
 rcases h with rfl | rfl | rfl | rfl | rfl <;> assumption
theorem yo0 {m:Nat} (h:xl7 m) {i j:Nat} (hi:i <= m) (hj:j <= m):∃ n,n <= m /\ cyc (m + 1) i n = j:=by
 have o:=h.orb
 unfold xz4 at o
 rw [Bool.and_eq_true] at o
 have fnd:∀ x,x <= m -> ∃ a,a < m + 1 /\ x = cyc (m + 1) 0 a:=fun x hx=>by
  have:=List.all_eq_true.mp o.1 x (List.mem_range.mpr (by omega))
  rw [List.contains_iff_mem] at this
  obtain ⟨a,ha⟩:=List.getElem?_of_mem this
  exact ⟨a,ym1 _ _ _ _ _ ha⟩
 obtain ⟨a,ha,ea⟩:=fnd i hi
 obtain ⟨b,hb,eb⟩:=fnd j hj
 by_cases c:a <= b
 ·exact ⟨b - a,by omega,by rw [ea,yb5,eb]; congr 1; omega⟩
 ·refine ⟨m + 1 - a + b,by omega,?_⟩
  rw [ea,yb5,show a + (m + 1 - a + b) = (m + 1) + b by omega,<- yb5,eq_of_beq o.2,eb]
theorem cover {m:Nat} (hm:xl7 m) {p:SetTable.Probe} (h9:p.more <= 9) (hp:p.perturb < 2 ^ 64) {j:Nat} (hj:j <= m):∃ n,n < 10 * SetTable.turns m /\ (advs m p n).j = j:=by
 have hi:(xk0 m p.i p.perturb 13).1 <= m:=by
  have:∀ n,(xk0 m p.i p.perturb (n + 1)).1 <= m:=fun n=>Nat.le_of_lt_succ (Nat.mod_lt _ (by omega))
  exact this 12
 obtain ⟨n,hn,e⟩:=yo0 hm hi hj
 obtain ⟨k,hk,ek⟩:=yf6 m p h9 (12 + n)
 refine ⟨k,?_,?_⟩
 ·unfold SetTable.turns
  omega
 ·rw [ek]
  show (xk0 m p.i p.perturb (12 + n + 1)).1 = j
  rw [show 12 + n + 1 = 13 + n by omega,ya5 m _ _ hp,e]
theorem xz8:∀ {l m:List Nat},l.Nodup -> (∀ x ∈ l,x ∈ m) -> l.length <= m.length
 | [],m,_,_=>Nat.zero_le _
 | x :: l,m,hn,hs=>by
  rw [List.nodup_cons] at hn
  have hx:=hs x (by simp)
  have:=xz8 (l:=l) (m:=m.erase x) hn.2 fun y hy=>(List.mem_erase_of_ne (fun e=>hn.1 (by rw [<- e]; exact hy))).mpr (hs y (by simp [hy]))
  rw [List.length_erase_of_mem hx] at this
  have:=List.length_pos_of_mem hx
  simp only [List.length_cons]
  omega
def start (mask:Nat) (h:Int):SetTable.Probe:=at0 mask (SetTable.bits h % (mask + 1)) (SetTable.bits h) none
def pos (mask:Nat) (h:Int) (n:Nat):SetTable.Probe:=advs mask (start mask h) n
structure Good (p:SetTable.Probe):Prop where
 more:p.more <= 9
 pt:p.perturb < 2 ^ 64
 dum:p.dummy = none
theorem Good.adv {mask:Nat} {p:SetTable.Probe} (g:Good p):Good (adv mask p):=by
 unfold LS.adv SetTable.advance; dsimp only
 split
 ·exact ⟨by have:=g.more; show p.more - 1 <= 9; omega,g.pt,g.dum⟩
 ·exact ⟨run9 _ _,Nat.lt_of_le_of_lt (Nat.div_le_self _ _) g.pt,g.dum⟩
theorem good (mask:Nat) (h:Int):∀ n,Good (pos mask h n)
 | 0=>⟨run9 _ _,by
   show SetTable.bits h < _
   unfold SetTable.bits
   have:=Int.emod_lt_of_pos h (show (0:Int) < 2 ^ 64 by decide)
   have:=Int.emod_nonneg h (show (2 ^ 64:Int) ≠ 0 by decide)
   omega,rfl⟩
 | n + 1=>(good mask h n).adv
def Way (mask:Nat) (l:List Nat) (h:Int) (j:Nat):Prop:=∃ n,(pos mask h n).j = j /\ ∀ k,k < n -> (pos mask h k).j ∈ l
theorem Way.more {mask:Nat} {l l':List Nat} {h:Int} {j:Nat} (x:Way mask l h j) (s:∀ y ∈ l,y ∈ l'):Way mask l' h j:=let ⟨n,a,b⟩:=x; ⟨n,a,fun k hk=>s _ (b k hk)⟩
structure Tab (t:SetTable) (hs:List Int):Prop where
 mask:xl7 t.mask
 dum:t.dummies = #[]
 pw:t.place.toList.Pairwise (· < ·)
 le:∀ j ∈ t.place.toList,j <= t.mask
 len:t.place.toList.length = hs.length
 room:hs.length <= t.mask
 way:∀ (i j:Nat) (h:Int),hs[i]? = some h -> t.place.toList[i]? = some j -> Way t.mask t.place.toList h j
theorem Tab.nd {t:SetTable} {hs:List Int} (T:Tab t hs):t.place.toList.Nodup:=T.pw.imp fun h=>Nat.ne_of_lt h
theorem Tab.free {t:SetTable} {hs:List Int} (T:Tab t hs):∃ j,j <= t.mask /\ j ∉ t.place.toList:=by
 apply Classical.byContradiction
 intro no
 have all:∀ x ∈ List.range (t.mask + 1),x ∈ t.place.toList:=fun x hx=>by
  have:=List.mem_range.mp hx
  exact Classical.byContradiction fun n=>no ⟨x,by omega,n⟩
 have:=xz8 List.nodup_range all
 rw [List.length_range,T.len] at this
 have:=T.room
 omega
theorem Tab.first {t:SetTable} {hs:List Int} (T:Tab t hs) (h:Int):∃ e,e < 1420 /\ (pos t.mask h e).j ∉ t.place.toList /\ ∀ k,k < e -> (pos t.mask h k).j ∈ t.place.toList:=by
 obtain ⟨j,hj,hf⟩:=T.free
 obtain ⟨n,hn,e⟩:=cover T.mask (good t.mask h 0).more (good t.mask h 0).pt hj
 have hb:10 * SetTable.turns t.mask <= 1420:=by
  unfold SetTable.turns
  rcases T.mask with z | z | z | z | z <;> omega
 have ex:∃ n,(pos t.mask h n).j ∉ t.place.toList:=⟨n,by rw [show (pos t.mask h n).j = j from e]; exact hf⟩
 have key:∀ n,(pos t.mask h n).j ∉ t.place.toList -> ∃ e,e <= n /\ (pos t.mask h e).j ∉ t.place.toList /\ ∀ k,k < e -> (pos t.mask h k).j ∈ t.place.toList:=by
  intro n
  induction n using Nat.strongRecOn with
  | _ n ih =>
   intro hn
   by_cases c:∃ k,k < n /\ (pos t.mask h k).j ∉ t.place.toList
   ·obtain ⟨k,hk,hk'⟩:=c
    obtain ⟨e,he,r⟩:=ih k hk hk'
    exact ⟨e,by omega,r⟩
   ·exact ⟨n,Nat.le_refl _,hn,fun k hk=>Classical.byContradiction fun z=>c ⟨k,hk,z⟩⟩
 obtain ⟨e',he',r⟩:=key n (by rw [show (pos t.mask h n).j = j from e]; exact hf)
 exact ⟨e',by omega,r⟩
theorem Tab.go {t:SetTable} {hs:List Int} (T:Tab t hs) {hashAt:Nat -> Int} {h:Int}:∀ (fuel n m:Nat),m < fuel -> (pos t.mask h (n + m)).j ∉ t.place.toList ->
  ∃ n1,n <= n1 /\ (∀ k,n <= k -> k < n1 -> ∃ i:Nat,t.place.toList[i]? = some (pos t.mask h k).j /\ hashAt i ≠ h) /\
   (((pos t.mask h n1).j ∉ t.place.toList /\ SetTable.probe.go t hashAt h fuel (pos t.mask h n) = some (.empty (pos t.mask h n1).j none)) \/
    ∃ i:Nat,t.place.toList[i]? = some (pos t.mask h n1).j /\ hashAt i = h /\ SetTable.probe.go t hashAt h fuel (pos t.mask h n) = some (.candidate (pos t.mask h n1).j i (pos t.mask h (n1 + 1)))):=by
 intro fuel
 induction fuel with
 | zero=>intro n m hm; omega
 | succ fuel ih =>
  intro n m hm hf
  unfold SetTable.probe.go
  by_cases c:(pos t.mask h n).j ∈ t.place.toList
  ·obtain ⟨i,hi⟩:=List.getElem?_of_mem c
   rw [xx9 T.pw hi]
   dsimp only
   by_cases d:(hashAt i == h) = true
   ·rw [if_pos d]
    exact ⟨n,Nat.le_refl _,fun k h1 h2=>by omega,.inr ⟨i,hi,eq_of_beq d,rfl⟩⟩
   ·rw [if_neg d]
    cases m with
    | zero=>exact absurd c hf
    | succ m =>
     obtain ⟨n1,h1,h2,h3⟩:=ih (n + 1) m (by omega) (by rw [show n + 1 + m = n + (m + 1) by omega]; exact hf)
     refine ⟨n1,by omega,fun k a b=>?_,h3⟩
     by_cases e:k = n
     ·subst e; exact ⟨i,hi,fun z=>d (by rw [z]; simp)⟩
     ·exact h2 k (by omega) b
  ·rw [zd8 T.dum c]
   refine ⟨n,Nat.le_refl _,fun k h1 h2=>by omega,.inl ⟨c,?_⟩⟩
   dsimp only
   rw [(good t.mask h n).dum]
theorem Tab.probe {t:SetTable} {hs:List Int} (T:Tab t hs) (hashAt:Nat -> Int) (h:Int) (n:Nat) :
  ∃ n1,n <= n1 /\ (∀ k,n <= k -> k < n1 -> ∃ i:Nat,t.place.toList[i]? = some (pos t.mask h k).j /\ hashAt i ≠ h) /\
   (((pos t.mask h n1).j ∉ t.place.toList /\ t.probe hashAt h (pos t.mask h n) = some (.empty (pos t.mask h n1).j none)) \/
    ∃ i:Nat,t.place.toList[i]? = some (pos t.mask h n1).j /\ hashAt i = h /\ t.probe hashAt h (pos t.mask h n) = some (.candidate (pos t.mask h n1).j i (pos t.mask h (n1 + 1)))):=by
 obtain ⟨j,hj,hf⟩:=T.free
 obtain ⟨m,hm,e⟩:=cover T.mask (good t.mask h n).more (good t.mask h n).pt hj
 refine T.go _ n m hm ?_
 rw [show (pos t.mask h (n + m)).j = j by rw [<- e]; unfold pos; rw [xt7]]
 exact hf
theorem Tab.put {t:SetTable} {hs:List Int} (T:Tab t hs) {h:Int} {j:Nat} (hj:j ∉ t.place.toList) (hl:j <= t.mask) (w:Way t.mask t.place.toList h j) (hr:hs.length + 1 <= t.mask) :
  ∃ p,p <= hs.length /\ (t.put j).2 = p /\ Tab (t.put j).1 (hs.take p ++ h :: hs.drop p):=by
 have lo:=xx6 T.pw j
 have hp:SetTable.below t.place j <= t.place.toList.length:=lo.1
 have ep:(t.put j).1.place.toList = t.place.toList.take (SetTable.below t.place j) ++ j :: t.place.toList.drop (SetTable.below t.place j):=xt0 _ _ _ (by simpa using hp)
 have sub:∀ y ∈ t.place.toList,y ∈ (t.put j).1.place.toList:=fun y hy=>by
  rw [ep]
  rw [<- List.take_append_drop (SetTable.below t.place j) t.place.toList] at hy
  rcases List.mem_append.mp hy with z | z
  ·exact List.mem_append.mpr (.inl z)
  ·exact List.mem_append_right _ (by simp [z])
 refine ⟨SetTable.below t.place j,by rw [<- T.len]; exact hp,rfl,?_⟩
 generalize hpp:SetTable.below t.place j = p at *
 have hlen:p <= hs.length:=by rw [<- T.len]; exact hp
 have hsz:t.place.size = t.place.toList.length:=by simp
 refine ⟨T.mask,?_,by rw [ep]; exact ym0 T.pw lo hj,?_,?_,?_,?_⟩
 ·show (if SetTable.has t.dummies j = true then _ else t.dummies) = #[]
  rw [T.dum]
  simp [SetTable.has]
 ·intro y hy
  rw [ep] at hy
  rcases List.mem_append.mp hy with z | z
  ·exact T.le y (List.mem_of_mem_take z)
  ·rcases List.mem_cons.mp z with rfl | z
   ·exact hl
   ·exact T.le y (List.mem_of_mem_drop z)
 ·rw [ep]
  have:=T.len
  simp at this ⊢
  omega
 ·show _ <= t.mask
  simp
  omega
 ·intro i j' h' e1 e2
  show Way t.mask _ h' j'
  rw [ep] at e2
  by_cases c:i < p
  ·rw [List.getElem?_append_left (by simp; omega),List.getElem?_take_of_lt c] at e1
   rw [List.getElem?_append_left (by simp; omega),List.getElem?_take_of_lt c] at e2
   exact (T.way i j' h' e1 e2).more sub
  ·rw [List.getElem?_append_right (by simp; omega)] at e1 e2
   have l1:(hs.take p).length = p:=by simp; omega
   have l2:(t.place.toList.take p).length = p:=by simp; omega
   rw [l1] at e1
   rw [l2] at e2
   by_cases d:i = p
   ·subst d
    rw [Nat.sub_self] at e1 e2
    simp at e1 e2
    subst e1 e2
    exact w.more sub
   ·obtain ⟨q,hq⟩:∃ q,i - p = q + 1:=⟨i - p - 1,by omega⟩
    rw [hq,List.getElem?_cons_succ,List.getElem?_drop] at e1 e2
    exact (T.way _ j' h' e1 e2).more sub
theorem Tab.fresh (f m:Nat) (led:Bool):Tab (SetTable.fresh f m led) [] :=
 ⟨.inl rfl,rfl,List.Pairwise.nil,fun j hj=>by simp [SetTable.fresh] at hj,rfl,Nat.zero_le _,fun i j h e=>by simp at e⟩
def occ (mask:Nat) (owner:Array (Option Nat)):List Nat:=(List.range (mask + 1)).filter fun j=>(owner.getD j none).isSome
theorem xr0 {mask:Nat} {owner:Array (Option Nat)} {j:Nat}:j ∈ occ mask owner ↔ j <= mask /\ ∃ k,owner[j]? = some (some k):=by
 unfold occ
 rw [List.mem_filter,List.mem_range,Array.getD_eq_getD_getElem?]
 constructor
 ·rintro ⟨h1,h2⟩
  refine ⟨by omega,?_⟩
  cases e:owner[j]? with
  | none=>rw [e] at h2; simp at h2
  | some o =>
   cases o with
   | none=>rw [e] at h2; simp at h2
   | some k=>exact ⟨k,rfl⟩
 ·rintro ⟨h1,k,e⟩
  rw [e]
  exact ⟨by omega,rfl⟩
theorem yl5 {mask i:Nat} (h:i <= mask):SetTable.runEnd mask i <= mask:=by
 unfold SetTable.runEnd
 split <;> omega
theorem yl6 (mask i:Nat):i <= SetTable.runEnd mask i:=by
 unfold SetTable.runEnd
 split <;> omega
theorem pos_le {mask:Nat} (hm:xl7 mask) (h:Int) (n:Nat):(pos mask h n).j <= mask:=by
 have key:∀ n,(pos mask h n).j + (pos mask h n).more <= mask:=by
  intro n
  have st:∀ i,i <= mask -> i + (SetTable.runEnd mask i - i) <= mask:=fun i hi=>by
   have:=yl5 hi
   have:=yl6 mask i
   omega
  induction n with
  | zero=>exact st _ (Nat.le_of_lt_succ (Nat.mod_lt _ (by omega)))
  | succ n ih =>
   show (adv mask (pos mask h n)).j + (adv mask (pos mask h n)).more <= mask
   generalize pos mask h n = p at ih ⊢
   unfold adv SetTable.advance; dsimp only
   split
   ·show p.j + 1 + (p.more - 1) <= mask
    omega
   ·exact st _ (Nat.le_of_lt_succ (Nat.mod_lt _ (by omega)))
 have:=key n
 omega
theorem free_go {mask:Nat} {owner:Array (Option Nat)} (hz:owner.size = mask + 1) (h:Int):∀ (fuel L n0 i pt:Nat),L < fuel -> i <= mask -> pos mask h n0 = at0 mask i pt none -> (∀ k,k < n0 -> (pos mask h k).j ∈ occ mask owner) ->
  (xk0 mask i pt L).1 ∉ occ mask owner -> ∃ j,SetTable.layClean.free mask owner fuel i pt = some j /\ j <= mask /\ j ∉ occ mask owner /\ Way mask (occ mask owner) h j:=by
 intro fuel
 induction fuel with
 | zero=>intro L n0 i pt hL; omega
 | succ fuel ih =>
  intro L n0 i pt hL hi hp hw hf
  unfold SetTable.layClean.free
  have hre:=yl5 hi
  have hrg:=yl6 mask i
  have run:∀ k,k <= SetTable.runEnd mask i - i -> (pos mask h (n0 + k)).j = i + k:=fun k hk=>by
   have:pos mask h (n0 + k) = advs mask (pos mask h n0) k:=by unfold pos; rw [xt7]
   rw [this,hp,yj7 _ _ _ (by exact hk)]
   rfl
  have isocc:∀ k,k <= SetTable.runEnd mask i - i -> (owner.getD (i + k) (some 0)).isNone = false -> i + k ∈ occ mask owner:=fun k hk e=>by
   refine xr0.mpr ⟨by omega,?_⟩
   rw [Array.getD_eq_getD_getElem?] at e; have hb:i + k < owner.size:=by omega
   rw [Array.getElem?_eq_getElem hb] at e ⊢
   cases e2:owner[i + k] with
   | none=>rw [e2] at e; simp at e
   | some v=>exact ⟨v,rfl⟩
  cases e:(List.range (SetTable.runEnd mask i + 1 - i)).find? fun k=>(owner.getD (i + k) (some 0)).isNone with
  | some k =>
   dsimp only
   obtain ⟨h1,h2,h3⟩:=List.find?_range_eq_some.mp e
   rw [List.mem_range] at h2
   refine ⟨i + k,rfl,by omega,?_,n0 + k,run k (by omega),fun k' hk'=>?_⟩
   ·intro m
    obtain ⟨_,v,ev⟩:=xr0.mp m
    rw [Array.getD_eq_getD_getElem?,ev] at h1
    simp at h1
   ·by_cases c:k' < n0
    ·exact hw k' c
    ·obtain ⟨q,rfl⟩:∃ q,k' = n0 + q:=⟨k' - n0,by omega⟩
     rw [run q (by omega)]
     refine isocc q (by omega) ?_
     have:=h3 q (by omega)
     simpa using this
  | none =>
   dsimp only
   have all:∀ k,k <= SetTable.runEnd mask i - i -> i + k ∈ occ mask owner:=fun k hk=>by
    refine isocc k hk ?_
    have:=List.find?_eq_none.mp e k (List.mem_range.mpr (by omega))
    exact Bool.eq_false_iff.mpr this
   cases L with
   | zero=>exact absurd (all 0 (by omega)) (by simpa [xk0] using hf)
   | succ L =>
    have step:pos mask h (n0 + (SetTable.runEnd mask i - i + 1)) = at0 mask (SetTable.leap mask i pt).1 (SetTable.leap mask i pt).2 none:=by
     have:pos mask h (n0 + (SetTable.runEnd mask i - i + 1)) = advs mask (pos mask h n0) (SetTable.runEnd mask i - i + 1):=by unfold pos; rw [xt7]
     rw [this,hp]
     exact yc0 mask (at0 mask i pt none)
    refine ih L _ (SetTable.leap mask i pt).1 (SetTable.leap mask i pt).2 (by omega) (Nat.le_of_lt_succ (Nat.mod_lt _ (by omega))) step (fun k hk=>?_) ?_
    ·by_cases c:k < n0
     ·exact hw k c
     ·obtain ⟨q,rfl⟩:∃ q,k = n0 + q:=⟨k - n0,by omega⟩
      rw [run q (by omega)]
      exact all q (by omega)
    ·have sh:∀ n,xk0 mask (SetTable.leap mask i pt).1 (SetTable.leap mask i pt).2 n = xk0 mask i pt (n + 1):=by
      intro n
      induction n with
      | zero=>rfl
      | succ n ihn=>rw [xk0,ihn]; rfl
     rw [sh]
     exact hf
theorem free_at {mask:Nat} (hm:xl7 mask) {owner:Array (Option Nat)} (hz:owner.size = mask + 1) (h:Int) {f:Nat} (hf:f <= mask) (hfo:f ∉ occ mask owner) :
  ∃ j,SetTable.layClean.free mask owner (SetTable.turns mask) (SetTable.bits h % (mask + 1)) (SetTable.bits h) = some j /\ j <= mask /\ j ∉ occ mask owner /\ Way mask (occ mask owner) h j:=by
 have g:=good mask h 0
 have hi:(xk0 mask (SetTable.bits h % (mask + 1)) (SetTable.bits h) 13).1 <= mask:=Nat.le_of_lt_succ (Nat.mod_lt _ (by omega))
 obtain ⟨n,hn,e⟩:=yo0 hm hi hf
 refine free_go hz h _ (13 + n) 0 _ _ (by unfold SetTable.turns; omega) (Nat.le_of_lt_succ (Nat.mod_lt _ (by omega))) rfl (fun k hk=>by omega) ?_
 rw [ya5 mask _ _ (show SetTable.bits h < 2 ^ 64 from g.pt),e]
 exact hfo
structure Own (mask:Nat) (hs:List Int) (owner:Array (Option Nat)):Prop where
 sz:owner.size = mask + 1
 lt:∀ (j k:Nat),owner[j]? = some (some k) -> k < hs.length
 inj:∀ (j j' k:Nat),owner[j]? = some (some k) -> owner[j']? = some (some k) -> j = j'
 at_:∀ (k:Nat) (h:Int),hs[k]? = some h -> ∃ j,owner[j]? = some (some k) /\ Way mask (occ mask owner) h j
theorem Own.free {mask:Nat} {hs:List Int} {owner:Array (Option Nat)} (O:Own mask hs owner) (hl:hs.length <= mask):∃ f,f <= mask /\ f ∉ occ mask owner:=by
 apply Classical.byContradiction
 intro no
 have all:∀ j,j <= mask -> ∃ k,owner[j]? = some (some k):=fun j hj=>by
  have:j ∈ occ mask owner:=Classical.byContradiction fun n=>no ⟨j,hj,n⟩
  exact (xr0.mp this).2
 have nd:((List.range (mask + 1)).map fun j=>(owner.getD j none).getD 0).Nodup:=by
  rw [List.nodup_iff_pairwise_ne,List.pairwise_map]
  refine List.Pairwise.imp_of_mem (R:=(· < ·)) (fun {a b} ha hb hab=>?_) List.pairwise_lt_range
  rw [List.mem_range] at ha hb
  obtain ⟨k,hk⟩:=all a (by omega)
  obtain ⟨k',hk'⟩:=all b (by omega)
  rw [Array.getD_eq_getD_getElem?,Array.getD_eq_getD_getElem?,hk,hk']
  intro e
  have e:k = k':=e
  subst e
  have:=O.inj _ _ _ hk hk'
  omega
 have:=xz8 (m:=List.range hs.length) nd fun x hx=>by
  obtain ⟨j,hj,e⟩:=List.mem_map.mp hx
  rw [List.mem_range] at hj
  obtain ⟨k,hk⟩:=all j (by omega)
  rw [Array.getD_eq_getD_getElem?,hk] at e
  have e:k = x:=e
  subst e
  exact List.mem_range.mpr (O.lt j k hk)
 simp at this
 omega
theorem Own.step {mask:Nat} (hm:xl7 mask) {hs:List Int} {owner:Array (Option Nat)} (O:Own mask hs owner) (hl:hs.length <= mask) (h:Int) :
  ∃ j,SetTable.layClean.free mask owner (SetTable.turns mask) (SetTable.bits h % (mask + 1)) (SetTable.bits h) = some j /\ Own mask (hs ++ [h]) (owner.setIfInBounds j (some hs.length)):=by
 obtain ⟨f,hf,hfo⟩:=O.free hl
 obtain ⟨j,e,hj,hjo,w⟩:=free_at hm O.sz h hf hfo
 have hb:j < owner.size:=by rw [O.sz]; omega
 have get:∀ i,(owner.setIfInBounds j (some hs.length))[i]? = if i = j then some (some hs.length) else owner[i]?:=fun i=>by
  rw [Array.getElem?_setIfInBounds]; by_cases c:j = i
  ·subst c; rw [if_pos rfl,if_pos rfl,if_pos hb]
  ·rw [if_neg c,if_neg (fun z=>c z.symm)]
 have more:∀ y ∈ occ mask owner,y ∈ occ mask (owner.setIfInBounds j (some hs.length)):=fun y hy=>by
  obtain ⟨h1,k,hk⟩:=xr0.mp hy
  refine xr0.mpr ⟨h1,?_⟩
  rw [get]
  split
  ·exact ⟨_,rfl⟩
  ·exact ⟨k,hk⟩
 refine ⟨j,e,⟨by simp [O.sz],fun i k q=>?_,fun i i' k q q'=>?_,fun k h' q=>?_⟩⟩
 ·rw [get] at q
  rw [List.length_append]
  split at q
  ·cases q; simp
  ·have:=O.lt i k q; omega
 ·rw [get] at q q'
  split at q <;> split at q'
  ·omega
  ·cases q; have:=O.lt _ _ q'; omega
  ·cases q'; have:=O.lt _ _ q; omega
  ·exact O.inj _ _ _ q q'
 ·by_cases c:k < hs.length
  ·rw [List.getElem?_append_left c] at q
   obtain ⟨i,hi,wi⟩:=O.at_ k h' q
   refine ⟨i,?_,wi.more more⟩
   rw [get,if_neg ?_]
   ·exact hi
   ·rintro rfl
    exact hjo (xr0.mpr ⟨hj,_,hi⟩)
  ·rw [List.getElem?_append_right (by omega)] at q
   have:k - hs.length = 0:=by
    have:=(List.getElem?_eq_some_iff.mp q).1
    simp at this
    omega
   rw [this] at q
   have q:h = h':=by simpa using q
   subst q
   have:k = hs.length:=by omega
   subst this
   exact ⟨j,by rw [get,if_pos rfl],w.more more⟩
theorem zf1:∀ {l m:List Nat},l.Nodup -> m.Nodup -> (∀ x,x ∈ l ↔ x ∈ m) -> l.Perm m
 | [],m,_,_,h=>by
  cases m with
  | nil=>exact .nil
  | cons x r=>exact absurd ((h x).mpr (by simp)) (by simp)
 | x :: l,m,hl,hm,h=>by
  have hx:x ∈ m:=(h x).mp (by simp)
  rw [List.nodup_cons] at hl
  refine List.Perm.trans (.cons x (zf1 hl.2 (hm.erase x) fun y=>?_)) (List.perm_cons_erase hx).symm
  constructor
  ·intro hy
   exact (List.mem_erase_of_ne (fun e=>hl.1 (by rw [<- e]; exact hy))).mpr ((h y).mp (by simp [hy]))
  ·intro hy
   have hne:y ≠ x:=fun e=>by subst e; exact (hm.not_mem_erase) hy
   have:=(h y).mpr (List.mem_of_mem_erase hy)
   simpa [hne] using this
theorem xy6 {α:Type}:∀ l:List α,(List.range l.length).filterMap (fun k=>l[k]?) = l
 | []=>rfl
 | a :: l=>by
  rw [List.length_cons,List.range_succ_eq_map,List.filterMap_cons]
  simp only [List.getElem?_cons_zero,List.filterMap_map]
  have:((fun k=>(a :: l)[k]?) ∘ Nat.succ) = fun k=>l[k]?:=by funext k; simp
  rw [this,xy6 l]
def layF (mask:Nat) (acc:Option (Array (Option Nat) × Nat)) (h:Int):Option (Array (Option Nat) × Nat):=do
 let (owner,k) <- acc
 let j <- SetTable.layClean.free mask owner (SetTable.turns mask) (SetTable.bits h % (mask + 1)) (SetTable.bits h)
 pure (owner.setIfInBounds j (some k),k + 1)
theorem yv5 {mask:Nat} (hm:xl7 mask):∀ (todo done:List Int) (owner:Array (Option Nat)),Own mask done owner -> (done ++ todo).length <= mask + 1 ->
  ∃ o,todo.foldl (layF mask) (some (owner,done.length)) = some (o,(done ++ todo).length) /\ Own mask (done ++ todo) o
 | [],done,owner,O,_=>⟨owner,by simp,by simpa using O⟩
 | h :: todo,done,owner,O,hl=>by
  simp only [List.length_append,List.length_cons] at hl
  obtain ⟨j,e,O'⟩:=O.step hm (by omega) h
  obtain ⟨o,e2,O2⟩:=yv5 hm todo (done ++ [h]) _ O' (by simp; omega)
  refine ⟨o,?_,by simpa using O2⟩
  rw [List.foldl_cons]
  have:layF mask (some (owner,done.length)) h = some (owner.setIfInBounds j (some done.length),(done ++ [h]).length):=by
   unfold layF
   simp [e]
  rw [this,e2]
  simp
theorem own_nil (mask:Nat):Own mask [] (Array.replicate (mask + 1) none):=by
 have no:∀ j k,(Array.replicate (mask + 1) (none:Option Nat))[j]? ≠ some (some k):=fun j k e=>by
  rw [Array.getElem?_replicate] at e
  split at e <;> cases e
 exact ⟨by simp,fun j k e=>absurd e (no j k),fun j j' k e=>absurd e (no j k),fun k h e=>by simp at e⟩
theorem ys1 {mask:Nat} (hm:xl7 mask) (hs:Array Int) (hl:hs.size <= mask):∃ o,SetTable.layClean mask hs = some o /\ Own mask hs.toList o:=by
 obtain ⟨o,e,O⟩:=yv5 hm hs.toList [] _ (own_nil mask) (by simp; omega)
 refine ⟨o,?_,by simpa using O⟩
 unfold SetTable.layClean
 rw [<- Array.foldl_toList]
 rw [show (hs.toList.foldl _ (some (Array.replicate (mask + 1) none,0))) = some (o,([] ++ hs.toList).length) from e]
 rfl
theorem zh8 {α:Type} {mask:Nat} (hm:xl7 mask) (es:Array (Int × α)) (hl:es.size <= mask) (f mv:Nat) (led plain:Bool) :
  ∃ t order,SetTable.laid mask f mv led plain (es.map (·.1)) = some (t,order) /\ t.mask = mask /\ t.led = led /\ t.plain = plain /\ t.finger = f /\ t.moves = mv /\
   (order.filterMap (fun k=>es[k]?)).toList.Perm es.toList /\ Tab t ((order.filterMap (fun k=>es[k]?)).toList.map (·.1)):=by
 obtain ⟨o,e,O⟩:=ys1 hm (es.map (·.1)) (by simpa using hl)
 have hlen:(es.map (·.1)).toList.length = es.size:=by simp
 generalize hv:((List.range (mask + 1)).filterMap fun j=>(o.getD j none).map (j,·)) = live
 have mem:∀ j k,(j,k) ∈ live ↔ j <= mask /\ o[j]? = some (some k):=fun j k=>by
  rw [<- hv,List.mem_filterMap]
  constructor
  ·rintro ⟨i,hi,e⟩
   rw [List.mem_range] at hi; rw [Array.getD_eq_getD_getElem?] at e
   cases q:o[i]? with
   | none=>rw [q] at e; simp at e
   | some w =>
    rw [q] at e
    cases w with
    | none=>simp at e
    | some k'=>simp at e; obtain ⟨rfl,rfl⟩:=e; exact ⟨by omega,q⟩
  ·rintro ⟨h1,h2⟩
   refine ⟨j,List.mem_range.mpr (by omega),?_⟩
   rw [Array.getD_eq_getD_getElem?,h2]
   rfl
 have pw:live.Pairwise fun a b=>a.1 < b.1:=by
  rw [<- hv,List.pairwise_filterMap]
  refine List.pairwise_lt_range.imp fun {a b} hab c hc d hd=>?_
  have e1:c.1 = a:=by
   cases q:o.getD a none with
   | none=>rw [q] at hc; simp at hc
   | some k=>rw [q] at hc; simp at hc; rw [<- hc]
  have e2:d.1 = b:=by
   cases q:o.getD b none with
   | none=>rw [q] at hd; simp at hd
   | some k=>rw [q] at hd; simp at hd; rw [<- hd]
  rw [e1,e2]
  exact hab
 have nd2:(live.map (·.2)).Nodup:=by
  rw [List.nodup_iff_pairwise_ne,List.pairwise_map]
  refine List.Pairwise.imp_of_mem (fun {a b} ha hb hab=>?_) pw
  intro z
  have h1:=((mem a.1 a.2).mp ha).2
  have h2:=((mem b.1 b.2).mp hb).2
  rw [<- z] at h2
  have:=O.inj _ _ _ h1 h2
  omega
 have mem2:∀ k,k ∈ live.map (·.2) ↔ k ∈ List.range es.size:=fun k=>by
  rw [List.mem_map,List.mem_range]
  constructor
  ·rintro ⟨⟨j,k'⟩,hj,rfl⟩
   have:=O.lt j k' ((mem j k').mp hj).2
   rw [hlen] at this
   exact this
  ·intro hk
   obtain ⟨j,hj,w⟩:=O.at_ k _ (List.getElem?_eq_getElem (by rw [hlen]; exact hk))
   refine ⟨(j,k),(mem j k).mpr ⟨?_,hj⟩,rfl⟩
   have:=(Array.getElem?_eq_some_iff.mp hj).1
   rw [O.sz] at this
   omega
 have perm:=zf1 nd2 List.nodup_range mem2
 have toL:((live.map (·.2)).toArray.filterMap (fun k=>es[k]?)).toList = (live.map (·.2)).filterMap (fun k=>es.toList[k]?):=by simp
 refine ⟨_,_,by unfold SetTable.laid; rw [e]; simp only [Option.bind_eq_bind,Option.bind_some]; rw [hv]; rfl,rfl,rfl,rfl,rfl,rfl,?_,?_⟩
 ·rw [toL]
  have:=perm.filterMap (fun k=>es.toList[k]?)
  rw [show es.size = es.toList.length by simp,xy6] at this
  exact this
 ·rw [toL]
  have item:∀ p ∈ live,∃ x,es.toList[p.2]? = some x:=fun p hp=>by
   have:=(mem2 p.2).mp (List.mem_map.mpr ⟨p,hp,rfl⟩)
   rw [List.mem_range] at this
   exact ⟨_,List.getElem?_eq_getElem (by simpa using this)⟩
  have row:∀ l:List (Nat × Nat),(∀ p ∈ l,∃ x,es.toList[p.2]? = some x) -> ((l.map (·.2)).filterMap (fun k=>es.toList[k]?)).length = l.length /\
    ∀ (i:Nat) (x:Int × α),((l.map (·.2)).filterMap (fun k=>es.toList[k]?))[i]? = some x -> ∃ p,l[i]? = some p /\ es.toList[p.2]? = some x:=by
   intro l
   induction l with
   | nil=>intro _; exact ⟨rfl,fun i x h=>by simp at h⟩
   | cons p l ih =>
    intro hl
    obtain ⟨y,hy⟩:=hl p (by simp)
    obtain ⟨h1,h2⟩:=ih fun q hq=>hl q (by simp [hq])
    rw [List.map_cons,List.filterMap_cons,hy]
    refine ⟨by rw [List.length_cons,List.length_cons,h1],fun i x h=>?_⟩
    cases i with
    | zero=>simp at h; subst h; exact ⟨p,rfl,hy⟩
    | succ i =>
     rw [List.getElem?_cons_succ] at h
     obtain ⟨q,hq,hx⟩:=h2 i x h
     exact ⟨q,by simpa using hq,hx⟩
  obtain ⟨r1,r2⟩:=row live item
  have ll:live.length = es.size:=by
   have:=perm.length_eq
   simpa using this
  refine ⟨hm,rfl,?_,?_,?_,?_,?_⟩
  ·show (live.map (·.1)).toArray.toList.Pairwise _
   rw [List.toList_toArray,List.pairwise_map]
   exact pw
  ·intro j hj
   have hj:j ∈ live.map (·.1):=by simpa using hj
   obtain ⟨⟨j',k⟩,hp,rfl⟩:=List.mem_map.mp hj
   exact ((mem j' k).mp hp).1
  ·show (live.map (·.1)).toArray.toList.length = _
   rw [List.toList_toArray,List.length_map,List.length_map,r1]
  ·rw [List.length_map,r1,ll]
   exact hl
  ·intro i j h e1 e2
   rw [List.getElem?_map] at e1
   obtain ⟨x,hx,rfl⟩:=Option.map_eq_some_iff.mp e1
   obtain ⟨p,hp,hpx⟩:=r2 i x hx
   have e2:(live.map (·.1))[i]? = some j:=by simpa using e2
   rw [List.getElem?_map,hp] at e2
   have e2:p.1 = j:=by simpa using e2
   have hm2:=(mem p.1 p.2).mp (List.mem_of_getElem? hp)
   obtain ⟨j',hj',w⟩:=O.at_ p.2 x.1 (by
    have:(es.map (·.1)).toList[p.2]? = (es.toList[p.2]?).map (·.1):=by simp
    rw [this,hpx]; rfl)
   have:=O.inj _ _ _ hj' hm2.2
   rw [this,e2] at w
   refine w.more fun y hy=>?_
   obtain ⟨hy1,k,hk⟩:=xr0.mp hy
   show y ∈ (live.map (·.1)).toArray.toList
   rw [List.toList_toArray]
   exact List.mem_map.mpr ⟨(y,k),(mem y k).mpr ⟨hy1,hk⟩,rfl⟩
section
variable {prog:Program} {w:World} {K:Type} [DecidableEq K] {kn:KeyKind prog w K} {A:Around} {E:Value -> Shared -> Prop} {s:Shared}
theorem unseen {ks:List K} {a:Addr} {Q:Bool -> Shared -> Prop} (hk:IsTupleKey kn s.heap ks a) (h:Q false s):wpAny (model prog w) A (ofAClassStatement 8 (.ref a)) Q E s:=by
 have hT:=hk.typeIs
 obtain ⟨o,items,n,ho,hc,hd,hi⟩:=hk
 unfold ofAClassStatement
 refine wpAny_bind (wpAny_typeOf hT ?_); show wpAny _ _ (_ >>= _) _ _ _
 simp only [beq_self_eq_true,if_true]; refine wpAny_bind (wpAny_pure ?_)
 simp only [Bool.not_true,Bool.false_eq_true,if_false]; refine wpAny_bind (wpAny_seqItems ho hd ?_)
 refine wpAny_bind ?_
 show wpAny _ _ (forIn items _ _) _ _ s; rw [<- Array.forIn_toList]; refine wpAny_forIn_list _ (fun rest r s'=>r.1 = none /\ s' = s /\ ∀ v ∈ rest,carriedByValue v = true) _ ?_ ?_ _ _ ⟨rfl,rfl,hi.byValue⟩
 ·rintro v rest r s' ⟨hr,rfl,hall⟩; have hv:=hall v List.mem_cons_self
  have e:ofAClassStatement 7 v = pure false:=by
   cases v with
   | ref b=>simp [carriedByValue] at hv
   | _=>rfl
  rw [e]
  refine wpAny_bind (wpAny_pure ?_); simp only [Bool.false_eq_true,if_false]; exact wpAny_pure ⟨rfl,rfl,fun u hu'=>hall u (List.mem_cons_of_mem _ hu')⟩
 ·rintro ⟨r1,r2⟩ s' ⟨hr,rfl,_⟩; simp only at hr
  subst hr
  exact wpAny_pure h
theorem yj0 {o:Obj} {a:Addr} {items:Array Value} {n:Nat} {Q:Bool -> Shared -> Prop} (ho:s.heap.get? a = some o) (hc:o.cls = .type "tuple") (hd:o.data = .seq items n) (hall:∀ v ∈ items.toList,v.scannable = true)
  (h:Q (items.toList.all plainKind) s):wpAny (model prog w) A (hashByValue 8 (.ref a)) Q E s:=by
 have hT:s.TypeIs (.ref a) "tuple":=⟨o,ho,hc⟩
 unfold hashByValue
 refine wpAny_bind (wpAny_specialOf hT F.slot_tuple_hash.lookup ?_); show wpAny _ _ (seqItems? (.ref a) >>= _) _ _ _
 refine wpAny_bind (wpAny_seqItems ho hd ?_); refine wpAny_bind ?_
 show wpAny _ _ (forIn items _ _) _ _ s; rw [<- Array.forIn_toList]
 refine wpAny_forIn_list _ (fun rest r s'=>s' = s /\ ((r.1 = none /\ (∀ v ∈ rest,v.scannable = true) /\ rest.all plainKind = items.toList.all plainKind))) _ ?_ ?_ _ _ ⟨rfl,rfl,hall,rfl⟩
 ·rintro v rest r s' ⟨rfl,hr,hall,he⟩
  rw [hashByValue_scannable 7 (hall v List.mem_cons_self)]
  refine wpAny_bind (wpAny_pure ?_); rw [List.all_cons] at he
  cases hp:plainKind v with
  | true =>
   simp only [Bool.not_true,Bool.false_eq_true,if_false]; rw [hp,Bool.true_and] at he
   exact wpAny_pure ⟨rfl,rfl,fun u hu'=>hall u (List.mem_cons_of_mem _ hu'),he⟩
  | false =>
   rw [hp,Bool.false_and] at he
   rw [<- he] at h
   simp only [Bool.not_false,if_true]; first | exact wpAny_pure (wpAny_pure h) | exact wpAny_bind (wpAny_pure (wpAny_pure h))
 ·rintro ⟨r1,r2⟩ s' ⟨rfl,hr,_,he⟩
  simp only at hr
  subst hr
  rw [<- he] at h
  exact wpAny_pure h
theorem notSeen {x:Value} {ks:List K} {b:Addr} {Q:Bool -> Shared -> Prop} (hk:IsTupleKey kn s.heap ks b) (l:List Value) (hl:∀ v ∈ l,∃ ks' a,v = .ref a /\ IsTupleKey kn s.heap ks' a) (h:Q false s):wpAny (model prog w) A (searchCouldBeSeen (.ref b) l) Q E s:=by
 unfold searchCouldBeSeen
 refine wpAny_bind ?_
 refine wpAny_forIn_list _ (fun rest r s'=>r.1 = none /\ s' = s /\ ∀ v ∈ rest,∃ ks' a,v = .ref a /\ IsTupleKey kn s.heap ks' a) _ ?_ ?_ _ _ ⟨rfl,rfl,hl⟩
 ·rintro v rest r s' ⟨hr,rfl,hall⟩; obtain ⟨ks',a,rfl,hk'⟩:=hall v List.mem_cons_self
  have hall':∀ v ∈ rest,∃ ks' a,v = .ref a /\ IsTupleKey kn s'.heap ks' a:=fun u hu'=>hall u (List.mem_cons_of_mem _ hu')
  dsimp only
  split
  ·exact wpAny_pure ⟨rfl,rfl,hall'⟩
  ·refine wpAny_bind (wpAny_eqIsQuiet_tuple hk ?_)
   simp only [Bool.not_true,Bool.false_eq_true,if_false]; refine wpAny_bind (wpAny_eqIsQuiet_tuple hk' ?_)
   simp only [Bool.not_true,Bool.false_eq_true,if_false]; refine wpAny_bind (unseen hk ?_)
   simp only [Bool.false_eq_true,if_false]; refine wpAny_bind (unseen hk' ?_)
   simp only [Bool.false_eq_true,if_false]; exact wpAny_pure ⟨rfl,rfl,hall'⟩
 ·rintro ⟨r1,r2⟩ s' ⟨hr,rfl,_⟩; simp only at hr
  subst hr
  exact wpAny_pure h
structure SetAt (kn:KeyKind prog w K) (h:Heap) (xs:List (List K × Addr)) (es:Array (Int × Value)) (t:SetTable):Prop where
 es:es.toList = xs.map fun x=>(tupleKeyHash kn x.1,Value.ref x.2)
 is:∀ x ∈ xs,IsTupleKey kn h x.1 x.2
 nd:(xs.map (·.1)).Nodup
 tab:Tab t (xs.map fun x=>tupleKeyHash kn x.1)
 cap:xs.length * 5 < t.mask * 3
theorem SetAt.size {h:Heap} {xs:List (List K × Addr)} {es:Array (Int × Value)} {t:SetTable} (S:SetAt kn h xs es t):es.size = xs.length:=by
 rw [<- Array.length_toList,S.es,List.length_map]
theorem SetAt.fits {h:Heap} {xs:List (List K × Addr)} {es:Array (Int × Value)} {t:SetTable} (S:SetAt kn h xs es t):t.fits es.size = true:=by
 unfold SetTable.fits SetTable.fill
 have h1:=S.tab.len
 have h2:=S.tab.room
 have h3:=S.size
 rw [S.tab.dum]
 simp only [Array.length_toList,List.length_map] at h1 h2
 simp only [Bool.and_eq_true,beq_iff_eq,decide_eq_true_eq,List.size_toArray,List.length_nil]
 omega
theorem SetAt.odd {h:Heap} {xs:List (List K × Addr)} {es:Array (Int × Value)} {t:SetTable} (S:SetAt kn h xs es t):t.gaveWay = false:=by
 unfold SetTable.gaveWay
 rcases S.tab.mask with e | e | e | e | e <;> rw [e] <;> rfl
theorem SetAt.get {h:Heap} {xs:List (List K × Addr)} {es:Array (Int × Value)} {t:SetTable} (S:SetAt kn h xs es t) {i:Nat} {x:List K × Addr} (e:xs[i]? = some x):es[i]? = some (tupleKeyHash kn x.1,Value.ref x.2):=by
 rw [<- Array.getElem?_toList,S.es,List.getElem?_map,e]
 rfl
theorem ze2 {a b:Addr} {o:Obj} {es:Array (Int × Value)} {ep:Nat} {t:SetTable} {xs:List (List K × Addr)} {k:List K} {adding:Bool} {Q:SetFound -> Shared -> Prop} (hu:A.units < cLine)
  (ho:s.heap.get? a = some o) (hd:o.data = .set es ep t) (S:SetAt kn s.heap xs es t) (hk:IsTupleKey kn s.heap k b) {e:Nat} (he1:(pos t.mask (tupleKeyHash kn k) e).j ∉ t.place.toList) (he2:∀ m,m < e -> (pos t.mask (tupleKeyHash kn k) m).j ∈ t.place.toList)
  (there:k ∈ xs.map (·.1) -> ∀ i,Q (.there i) s) (free:k ∉ xs.map (·.1) -> ∀ j,j <= t.mask -> j ∉ t.place.toList -> Way t.mask t.place.toList (tupleKeyHash kn k) j -> Q (.free j false) s) :
  ∀ (fuel n:Nat) (stand:Option SetTable.Probe),n <= e -> e - n < fuel -> stand.getD (t.probeStart (tupleKeyHash kn k)) = pos t.mask (tupleKeyHash kn k) n ->
   (∀ (m i:Nat) (x:List K × Addr),m < n -> t.place.toList[i]? = some (pos t.mask (tupleKeyHash kn k) m).j -> xs[i]? = some x -> x.1 ≠ k) ->
   wpAny (model prog w) A (setSearchFrom a (.ref b) (tupleKeyHash kn k) adding fuel stand) Q E s:=by
 intro fuel
 induction fuel with
 | zero=>intro n stand _ h; omega
 | succ fuel ih =>
  intro n stand hne hf hst hn
  unfold setSearchFrom
  refine wpAny_bind (wpAny_setState_of ho hd S.fits ?_)
  dsimp only
  rw [S.odd,hst]
  simp only [Bool.false_eq_true,if_false]; generalize hh:tupleKeyHash kn k = h at *
  have hashAt:∀ (i:Nat) (x:List K × Addr),xs[i]? = some x -> ((es[i]?.map (·.1)).getD 0) = tupleKeyHash kn x.1:=fun i x e=>by rw [S.get e]; rfl
  obtain ⟨n1,hn1,mid,end_⟩:=S.tab.probe (fun i=>(es[i]?.map (·.1)).getD 0) h n
  have inx:∀ (i j:Nat),t.place.toList[i]? = some j -> ∃ x,xs[i]? = some x:=fun i j e=>by
   have h1:=(List.getElem?_eq_some_iff.mp e).1
   have h2:=S.tab.len
   rw [List.length_map] at h2
   exact ⟨_,List.getElem?_eq_getElem (by omega)⟩
  rcases end_ with ⟨hem,ep⟩ | ⟨i,hi,hhi,ep⟩
  ·erw [ep]
   dsimp only
   have live:∀ m,m < n1 -> (pos t.mask h m).j ∈ t.place.toList:=fun m hm=>by
    by_cases c:m < n
    ·exact he2 m (by omega)
    ·obtain ⟨i,hi,_⟩:=mid m (by omega) hm
     exact List.mem_of_getElem? hi
   refine wpAny_pure (free (fun hin=>?_) _ ?_ hem ⟨n1,rfl,live⟩)
   ·obtain ⟨x,hx,rfl⟩:=List.mem_map.mp hin
    obtain ⟨i,hi⟩:=List.getElem?_of_mem hx
    have hlen:=S.tab.len
    rw [List.length_map] at hlen
    obtain ⟨j,hj⟩:∃ j,t.place.toList[i]? = some j:=⟨_,List.getElem?_eq_getElem (by have:=(List.getElem?_eq_some_iff.mp hi).1; omega)⟩
    obtain ⟨n',e',l'⟩:=S.tab.way i j h (by rw [List.getElem?_map,hi,<- hh]; rfl) hj
    have lt:n' < n1:=by
     rcases Nat.lt_trichotomy n' n1 with z | z | z
     ·exact z
     ·subst z; rw [e'] at hem; exact absurd (List.mem_of_getElem? hj) hem
     ·exact absurd (l' n1 z) hem
    by_cases c:n' < n
    ·exact hn n' i x c (by rw [e']; exact hj) hi rfl
    ·obtain ⟨i',hi',hne'⟩:=mid n' (by omega) lt
     rw [e'] at hi'
     have:i' = i:=by
      have l1:=(List.getElem?_eq_some_iff.mp hi').1
      exact (List.getElem?_inj l1 S.tab.nd).mp (hi'.trans hj.symm)
     subst this
     exact hne' ((hashAt _ x hi).trans hh)
   ·-- the slot lies in the table
    have key:∀ n,(pos t.mask h n).j <= t.mask:=pos_le S.tab.mask h
    exact key n1
  ·erw [ep]
   dsimp only
   have lt:n1 < e:=by
    rcases Nat.lt_trichotomy n1 e with z | z | z
    ·exact z
    ·subst z; exact absurd (List.mem_of_getElem? hi) he1
    ·obtain ⟨i',hi',_⟩:=mid e (by omega) z
     exact absurd (List.mem_of_getElem? hi') he1
   obtain ⟨x,hx⟩:=inx i _ hi
   have hxk:=S.is x (List.mem_of_getElem? hx)
   have side:∀ v ∈ (es.filter (·.1 == h)).toList.map (·.2),∃ ks' c,v = .ref c /\ IsTupleKey kn s.heap ks' c:=fun v hv=>by
    obtain ⟨en,hen,rfl⟩:=List.mem_map.mp hv
    have hen:en ∈ es.toList:=Array.mem_toList_iff.mpr (Array.mem_filter.mp (Array.mem_toList_iff.mp hen)).1
    rw [S.es] at hen
    obtain ⟨y,hy,rfl⟩:=List.mem_map.mp hen
    exact ⟨y.1,y.2,rfl,S.is y hy⟩
   rcases Bool.eq_false_or_eq_true (!t.led) with cl | cl
   all_goals first
    | rw [if_pos cl]; refine wpAny_bind (notSeen (x:=.none) hk _ side ?_); rw [if_neg Bool.false_ne_true]
    | rw [if_neg (by rw [cl]; exact Bool.false_ne_true)]
   all_goals
    rw [S.get hx]
    dsimp only
    refine wpAny_bind (wpAny_holding (wpAny_eqBool_tuple hu hxk hk ?_))
    refine wpAny_bind (wpAny_setState_of ho hd S.fits ?_)
    dsimp only
    by_cases c:x.1 = k
    ·rw [decide_eq_true c]
     have hin:k ∈ xs.map (·.1):=by rw [<- c]; exact List.mem_map.mpr ⟨x,List.mem_of_getElem? hx,rfl⟩
     cases adding with
     | true=>exact wpAny_pure (there hin none)
     | false =>
      simp only [Bool.false_and,Bool.false_eq_true,if_false]
      have sm:t.sameMemory t.moves t.mask = some true:=by unfold SetTable.sameMemory; simp
      rw [sm]
      dsimp only
      simp only [if_true]
      rw [xx9 S.tab.pw hi]
      dsimp only
      rw [S.get hx]
      dsimp only
      refine wpAny_bind (wpAny_isSame_ref_self ?_)
      simp only [if_true]
      exact wpAny_bind (wpAny_pure (wpAny_pure (there hin _)))
    ·rw [decide_eq_false c,Bool.and_false]
     simp only [Bool.false_eq_true,if_false]; have sm:t.sameMemory t.moves t.mask = some true:=by unfold SetTable.sameMemory; simp
     rw [sm]
     dsimp only
     simp only [if_true]
     rw [xx9 S.tab.pw hi]
     dsimp only
     rw [S.get hx]
     dsimp only
     refine wpAny_bind (wpAny_isSame_ref_self ?_)
     simp only [if_true]
     refine wpAny_bind (wpAny_pure ?_); dsimp only
     refine ih (n1 + 1) _ (by omega) (by omega) rfl fun m i' y hm hi' hy=>?_
     by_cases c1:m < n
     ·exact hn m i' y c1 hi' hy
     ·by_cases c2:m = n1
      ·subst c2
       have:i' = i:=by
        have l1:=(List.getElem?_eq_some_iff.mp hi').1
        exact (List.getElem?_inj l1 S.tab.nd).mp (hi'.trans hi.symm)
       subst this
       rw [hx] at hy
       cases hy
       exact c
      ·obtain ⟨i2,hi2,hne2⟩:=mid m (by omega) (by omega)
       have:i' = i2:=by
        have l1:=(List.getElem?_eq_some_iff.mp hi').1
        exact (List.getElem?_inj l1 S.tab.nd).mp (hi'.trans hi2.symm)
       subst this
       intro z
       exact hne2 ((hashAt _ y hy).trans (by rw [z,hh]))
theorem yy3 {a b:Addr} {o:Obj} {es:Array (Int × Value)} {ep:Nat} {t:SetTable} {xs:List (List K × Addr)} {k:List K} {adding:Bool} {Q:SetFound -> Shared -> Prop} (hu:A.units < cLine)
  (ho:s.heap.get? a = some o) (hd:o.data = .set es ep t) (S:SetAt kn s.heap xs es t) (hk:IsTupleKey kn s.heap k b)
  (there:k ∈ xs.map (·.1) -> ∀ i,Q (.there i) s) (free:k ∉ xs.map (·.1) -> ∀ j,j <= t.mask -> j ∉ t.place.toList -> Way t.mask t.place.toList (tupleKeyHash kn k) j -> Q (.free j false) s) :
  wpAny (model prog w) A (setSearch a (.ref b) (tupleKeyHash kn k) adding) Q E s:=by
 obtain ⟨e,he,h1,h2⟩:=S.tab.first (tupleKeyHash kn k)
 unfold setSearch
 exact ze2 hu ho hd S hk h1 h2 there free _ 0 none (Nat.zero_le _) (by omega) rfl fun m i x hm=>by omega
theorem xl5 {α β:Type} {f:α -> β}:∀ {l:List β} {m:List α},l.Perm (m.map f) -> ∃ l':List α,l = l'.map f /\ l'.Perm m:=by
 intro l m h
 generalize hm:m.map f = m' at h
 induction h generalizing m with
 | nil=>exact ⟨[],rfl,by cases m with | nil=>exact .nil | cons a r=>simp at hm⟩
 | @cons x l1 l2 p ih =>
  cases m with
  | nil=>simp at hm
  | cons a r =>
   rw [List.map_cons] at hm
   obtain ⟨rfl,hr⟩:=List.cons.inj hm
   obtain ⟨l',e,q⟩:=ih hr
   exact ⟨a :: l',by rw [e]; rfl,q.cons a⟩
 | @swap x y l1 =>
  match m,hm with
  | a :: b :: r,hm =>
   simp at hm
   obtain ⟨rfl,rfl,rfl⟩:=hm
   exact ⟨b :: a :: r,rfl,.swap _ _ _⟩
 | @trans l1 l2 l3 p q ih1 ih2 =>
  obtain ⟨l',e,q'⟩:=ih2 hm
  obtain ⟨l'',e2,q2⟩:=ih1 e.symm
  exact ⟨l'',e2,q2.trans q'⟩
def yp6 (w:World) (n:Nat) (t:SetTable):Prop:=(n <= 1 \/ t.plain = false) /\ t.led = !(w.params.followText "set-order")
def xd1 (kn:KeyKind prog w K) (h:Heap) (a:Addr) (xs:List (List K × Addr)):Prop:=∃ o es ep t,h.get? a = some o /\ o.ExactSet /\ o.data = .set es ep t /\ SetAt kn h xs es t /\ yp6 w xs.length t
theorem xn8 {h h':Heap} {a:Addr} {o:Obj} {es:Array (Int × Value)} {ep:Nat} {t:SetTable} {ks:List K} {b:Addr} (ho:h.get? a = some o) (hd:o.data = .set es ep t) (hs:Heap.SameBut a h h') (k:IsTupleKey kn h ks b):IsTupleKey kn h' ks b:=by
 obtain ⟨o',items,n,h1,h2,h3,h4⟩:=k
 have ne:b ≠ a:=by
  rintro rfl
  rw [ho] at h1
  cases h1
  rw [hd] at h3
  cases h3
 exact ⟨o',items,n,(hs.2 b ne).trans h1,h2,h3,h4⟩
theorem za5 {n:Nat} (h:n <= 31):xl7 (SetTable.sizeAbove (4 * n) - 1) /\ 4 * n < SetTable.sizeAbove (4 * n) /\ SetTable.sizeAbove (4 * n) <= 128:=by
 have key:(List.range 32).all (fun n=>(decide (SetTable.sizeAbove (4 * n) - 1 = 7 \/ SetTable.sizeAbove (4 * n) - 1 = 15 \/ SetTable.sizeAbove (4 * n) - 1 = 31 \/ SetTable.sizeAbove (4 * n) - 1 = 63 \/ SetTable.sizeAbove (4 * n) - 1 = 127)) && decide (4 * n < SetTable.sizeAbove (4 * n)) && decide (SetTable.sizeAbove (4 * n) <= 128)) = true:=by decide +kernel
 have:=List.all_eq_true.mp key n (List.mem_range.mpr (by omega))
 simp only [Bool.and_eq_true,decide_eq_true_eq] at this
 exact ⟨this.1.1,this.1.2,this.2⟩
theorem yb4 {n:Nat} (h:n <= 60):xl7 (SetTable.sizeAbove (n * 2) - 1) /\ n * 2 < SetTable.sizeAbove (n * 2) /\ SetTable.sizeAbove (n * 2) <= 128:=by
 have key:(List.range 61).all (fun n=>(decide (SetTable.sizeAbove (n * 2) - 1 = 7 \/ SetTable.sizeAbove (n * 2) - 1 = 15 \/ SetTable.sizeAbove (n * 2) - 1 = 31 \/ SetTable.sizeAbove (n * 2) - 1 = 63 \/ SetTable.sizeAbove (n * 2) - 1 = 127)) && decide (n * 2 < SetTable.sizeAbove (n * 2)) && decide (SetTable.sizeAbove (n * 2) <= 128)) = true:=by decide +kernel
 have:=List.all_eq_true.mp key n (List.mem_range.mpr (by omega))
 simp only [Bool.and_eq_true,decide_eq_true_eq] at this
 exact ⟨this.1.1,this.1.2,this.2⟩
theorem stored {h:Heap} {a:Addr} {o:Obj} {es:Array (Int × Value)} {ep:Nat} {t:SetTable} (ho:h.get? a = some o) (hd:o.data = .set es ep t) (es':Array (Int × Value)) (t':SetTable) :
  (h.update a (Obj.putSet es' t')).get? a = some { o with data:=.set es' (ep + 1) t' }:=by
 have:=Heap.get?_update_self (Obj.putSet es' t') ho (by rw [putSet_of es' t' hd]; rfl); rwa [putSet_of es' t' hd] at this
theorem xy1 {a:Addr} {o:Obj} {es:Array (Int × Value)} {ep:Nat} {t:SetTable} {xs:List (List K × Addr)} {wanted:Nat} {Q:Unit -> Shared -> Prop}
  (ho:s.heap.get? a = some o) (hex:o.ExactSet) (hd:o.data = .set es ep t) (hes:es.toList = xs.map fun x=>(tupleKeyHash kn x.1,Value.ref x.2)) (hfit:t.fits es.size = true) (his:∀ x ∈ xs,IsTupleKey kn s.heap x.1 x.2) (hnd:(xs.map (·.1)).Nodup)
  (hm:xl7 (SetTable.sizeAbove wanted - 1)) (hsz:SetTable.sizeAbove wanted <= 128) (hcap:xs.length * 5 < (SetTable.sizeAbove wanted - 1) * 3) (hle:xs.length <= SetTable.sizeAbove wanted - 1)
  (h:∀ h' o' es' ep' t' xs',Heap.SameBut a s.heap h' -> h'.get? a = some o' -> o'.ExactSet -> o'.data = .set es' ep' t' -> xs'.Perm xs -> SetAt kn h' xs' es' t' -> t'.plain = t.plain -> t'.led = t.led -> t'.mask = SetTable.sizeAbove wanted - 1 -> Q () { s with heap:=h' }) :
  wpAny (model prog w) A (setRelay a wanted) Q E s:=by
 have hsize:es.size = xs.length:=by rw [<- Array.length_toList,hes,List.length_map]
 unfold setRelay
 refine wpAny_bind (wpAny_setState_of ho hd hfit ?_)
 dsimp only
 rw [if_neg (Nat.not_lt.mpr (Nat.le_trans hsz (by rw [sizeLine_eq]; decide)))]
 obtain ⟨t',order,e,e1,e2,e3,e4,e5,perm,tab⟩:=zh8 hm es (by omega) t.finger (t.movedTo (SetTable.sizeAbove wanted - 1)) t.led t.plain
 have e':t.relaid (es.map (·.1)) wanted = some (t',order):=e
 rw [e']
 have hs':(order.filterMap (fun k=>es[k]?)).size = es.size:=by rw [<- Array.length_toList,perm.length_eq,Array.length_toList]
 obtain ⟨xs',px,ex⟩:∃ xs':List (List K × Addr),xs'.Perm xs /\ (order.filterMap (fun k=>es[k]?)).toList = xs'.map fun x=>(tupleKeyHash kn x.1,Value.ref x.2):=by
  rw [hes] at perm
  obtain ⟨l,h1,h2⟩:=xl5 perm
  exact ⟨l,h2,h1⟩
 refine wpAny_bind ?_
 refine wpAny_mono (Q:=fun r s'=>r = (order.filterMap (fun k=>es[k]?),t') /\ s = s') ?_ ?_ (fun _ _ x=>x)
 ·show wpAny _ _ (if ((order.filterMap (fun k=>es[k]?)).size != es.size) = true then _ else _) _ _ _
  rw [if_neg (by rw [hs']; simp)]
  exact wpAny_pure ⟨rfl,rfl⟩
 ·rintro _ _ ⟨rfl,rfl⟩
  dsimp only
  refine wpAny_storeSet_of ho hd ?_ (by rw [hs',hsize,sizeLine_eq]; omega)
  have sb:=Heap.SameBut.update s.heap a (Obj.putSet (order.filterMap (fun k=>es[k]?)) t')
  refine h _ _ _ _ _ xs' sb (stored ho hd _ _) hex rfl px ⟨ex,fun x hx=>xn8 ho hd sb (his x (px.mem_iff.mp hx)),?_,?_,?_⟩ e3 e2 e1
  ·exact (px.map _).nodup_iff.mpr hnd
  ·rw [ex,List.map_map] at tab
   exact tab
  ·rw [px.length_eq,e1]
   exact hcap
end
theorem Tab.plain {t:SetTable} {hs:List Int} (T:Tab t hs) (b:Bool):Tab { t with plain:=b } hs:=⟨T.mask,T.dum,T.pw,T.le,T.len,T.room,T.way⟩
section
variable {prog:Program} {w:World} {K:Type} [DecidableEq K] {kn:KeyKind prog w K} {A:Around} {E:Value -> Shared -> Prop} {s:Shared}
def xo1 (h:Heap) (b:Addr):Prop:=∃ o items n,h.get? b = some o /\ o.cls = .type "tuple" /\ o.data = .seq items n /\ (∀ v ∈ items.toList,v.scannable = true) /\ items.toList.all plainKind = false
theorem yq0 {a b:Addr} {xs:List (List K × Addr)} {k:List K} {Q:Bool -> Shared -> Prop} (hu:A.units < cLine) (hS:xd1 kn s.heap a xs) (hk:IsTupleKey kn s.heap k b) (hv:xo1 s.heap b) (hl:xs.length <= 36)
  (h:∀ r h' xs',Heap.SameBut a s.heap h' -> xd1 kn h' a xs' -> (k ∈ xs.map (·.1) -> xs' = xs) -> (k ∉ xs.map (·.1) -> xs'.Perm ((k,b) :: xs)) -> Q r { s with heap:=h' }) :
  wpAny (model prog w) A (setAddHashed a (.ref b) (tupleKeyHash kn k)) Q E s:=by
 obtain ⟨o,es,ep,t,ho,hex,hd,S,hpl⟩:=hS
 unfold setAddHashed setAddHashedIn; refine wpAny_holding (wpAny_bind (wpAny_setState_of ho hd S.fits ?_))
 dsimp only
 have hb:byScan (Value.ref b) es = false:=rfl
 rw [hb]
 simp only [Bool.false_eq_true,if_false]; refine wpAny_bind (yy3 hu ho hd S hk (fun hin i=>?_) fun hnin j hj hjn hway=>?_)
 ·dsimp only
  refine wpAny_pure ?_
  have:=h false s.heap xs (Heap.SameBut.refl a s.heap) ⟨o,es,ep,t,ho,hex,hd,S,hpl⟩ (fun _=>rfl) (fun z=>absurd hin z)
  have e:s = { s with heap:=s.heap }:=(by cases s; rfl); rw [e]; exact this
 ·dsimp only
  refine wpAny_bind (wpAny_setState_of ho hd S.fits ?_)
  dsimp only
  have hcap:=S.cap
  have hlen:=S.tab.len
  rw [List.length_map] at hlen
  have hm7:7 <= t.mask:=by rcases S.tab.mask with z | z | z | z | z <;> omega
  obtain ⟨p,hp,ep2,T1⟩:=S.tab.put hjn hj hway (by rw [List.length_map]; omega)
  rw [List.length_map] at hp
  generalize hput:t.put j = tp at ep2 T1
  obtain ⟨t1,p'⟩:=tp
  dsimp only at ep2 T1 ⊢
  subst ep2
  have hm1:t1.mask = t.mask:=by have:=congrArg (fun q:SetTable × Nat=>q.1.mask) hput; exact this.symm
  have hld1:t1.led = t.led:=by have:=congrArg (fun q:SetTable × Nat=>q.1.led) hput; exact this.symm
  have hp1:t1.plain = t.plain:=by have:=congrArg (fun q:SetTable × Nat=>q.1.plain) hput; exact this.symm
  have hes1:(SetTable.insertAt es p' (tupleKeyHash kn k,Value.ref b)).toList = (xs.take p' ++ (k,b) :: xs.drop p').map fun x=>(tupleKeyHash kn x.1,Value.ref x.2):=by
   rw [xt0 _ _ _ (by rw [S.size]; exact hp),S.es,List.map_append,List.map_cons,List.map_take,List.map_drop]
  have perm:(xs.take p' ++ (k,b) :: xs.drop p').Perm ((k,b) :: xs):=by
   refine List.perm_middle.trans (.cons _ ?_)
   rw [List.take_append_drop]
  have hnd1:((xs.take p' ++ (k,b) :: xs.drop p').map (·.1)).Nodup:=by
   refine (perm.map _).nodup_iff.mpr ?_
   rw [List.map_cons,List.nodup_cons]; exact ⟨hnin,S.nd⟩
  have T2:Tab t1 ((xs.take p' ++ (k,b) :: xs.drop p').map fun x=>tupleKeyHash kn x.1):=by
   rw [List.map_append,List.map_cons,List.map_take,List.map_drop]
   exact T1
  generalize hx1:xs.take p' ++ (k,b) :: xs.drop p' = xs1 at hes1 perm hnd1 T2
  have hl1:xs1.length = xs.length + 1:=by rw [perm.length_eq,List.length_cons]
  have hsz1:(SetTable.insertAt es p' (tupleKeyHash kn k,Value.ref b)).size = xs1.length:=by rw [<- Array.length_toList,hes1,List.length_map]
  have his1:∀ x ∈ xs1,IsTupleKey kn s.heap x.1 x.2:=fun x hx=>by
   rcases List.mem_cons.mp (perm.mem_iff.mp hx) with rfl | z
   ·exact hk
   ·exact S.is x z
  have tail:∀ t2:SetTable,t2.mask = t1.mask -> t2.plain = false -> t2.led = t1.led -> Tab t2 (xs1.map fun x=>tupleKeyHash kn x.1) ->
    wpAny (model prog w) A (do
     storeSet a (SetTable.insertAt es p' (tupleKeyHash kn k,Value.ref b)) t2
     if (!false && t2.tooFull) = true then do
       setRelay a (SetTable.grown (es.size + 1))
       pure true
      else pure true) Q E s:=by
   intro t2 hm2 hp2 hl2 Tt
   have hled:t2.led = !(w.params.followText "set-order"):=by rw [hl2,hld1]; exact hpl.2
   refine wpAny_bind (wpAny_storeSet_of ho hd ?_ (by rw [hsz1,sizeLine_eq]; omega))
   have ho1:=stored ho hd (SetTable.insertAt es p' (tupleKeyHash kn k,Value.ref b)) t2
   have sb:=Heap.SameBut.update s.heap a (Obj.putSet (SetTable.insertAt es p' (tupleKeyHash kn k,Value.ref b)) t2)
   generalize s.heap.update a (Obj.putSet (SetTable.insertAt es p' (tupleKeyHash kn k,Value.ref b)) t2) = h1 at ho1 sb ⊢
   have his2:∀ x ∈ xs1,IsTupleKey kn h1 x.1 x.2:=fun x hx=>xn8 ho hd sb (his1 x hx)
   have hfill:t2.fill = xs1.length:=by
    unfold SetTable.fill
    rw [Tt.dum]
    have:=Tt.len
    rw [List.length_map] at this
    simp at this ⊢
    exact this
   have hfit:t2.fits (SetTable.insertAt es p' (tupleKeyHash kn k,Value.ref b)).size = true:=by
    unfold SetTable.fits
    have h1:=Tt.len
    have h2:=Tt.room
    rw [List.length_map] at h1 h2
    rw [hfill,hsz1]
    simp only [Array.length_toList] at h1
    simp only [Bool.and_eq_true,beq_iff_eq,decide_eq_true_eq]
    exact ⟨h1,h2⟩
   by_cases full:(!false && t2.tooFull) = true
   ·rw [if_pos full]
    have tf:t2.fill * 5 >= t2.mask * 3:=by simpa [SetTable.tooFull] using full
    have mm:t2.mask = t.mask:=hm2.trans hm1
    have sm:xs1.length <= 31:=by
     rw [hfill,mm] at tf
     rcases S.tab.mask with z | z | z | z | z <;> omega
    have gr:SetTable.grown (es.size + 1) = 4 * xs1.length:=by
     unfold SetTable.grown
     rw [S.size,hl1,if_neg (by omega)]
     omega
    obtain ⟨g1,g2,g3⟩:=za5 (n:=xs1.length) (by omega)
    rw [gr]
    refine wpAny_bind (xy1 (s:={ s with heap:=h1 }) (kn:=kn) (xs:=xs1) ho1 hex rfl hes1 hfit his2 hnd1 g1 g3 (by omega) (by omega) fun h' o' es' ep' t' xs' sb' ho' hex' hd' px S' pl' led' mk'=>wpAny_pure ?_)
    exact h true h' xs' (sb.trans sb') ⟨o',es',ep',t',ho',hex',hd',S',.inr (by rw [pl']; exact hp2),by rw [led']; exact hled⟩ (fun z=>absurd z hnin) (fun _=>px.trans perm)
   ·rw [if_neg full]
    refine wpAny_pure (h true h1 xs1 sb ⟨_,_,_,t2,ho1,hex,rfl,⟨hes1,his2,hnd1,Tt,?_⟩,.inr hp2,hled⟩ (fun z=>absurd z hnin) (fun _=>perm))
    have:¬ (t2.fill * 5 >= t2.mask * 3):=fun z=>full (by unfold SetTable.tooFull; simp [z])
    rw [hfill] at this
    omega
  obtain ⟨ob,items,n,hb1,hb2,hb3,hb4,hb5⟩:=hv
  by_cases cp:t1.plain = true
  ·rw [if_pos cp]
   refine wpAny_bind (yj0 hb1 hb2 hb3 hb4 ?_)
   rw [hb5]
   simp only [Bool.false_eq_true,if_false]; exact tail _ rfl rfl rfl (T2.plain false)
  ·rw [if_neg cp]
   refine wpAny_bind (wpAny_pure ?_); simp only [if_true]
   exact tail t1 rfl (by simpa using cp) rfl T2
end
open PySem PyProof.Rows
abbrev xc2 (led:Bool):Obj:={ cls:=.type "set",dict:=none,data:=.set #[] 0 (.fresh 0 0 led) }
section
variable {w:World} {prog:Program} {A:Around} {E:Value -> Shared -> Prop} {s:Shared}
theorem new_code (x:Value) {Q₁:Value -> Shared -> Prop} (h:Q₁ (.ref s.heap.objs.size) { s with heap:=s.heap.push (xc2 (!(w.params.followText "set-order"))) }) :
  codeAny (model prog w) A (.call (.builtin "set.__new__") ⟨[.type "set",x],[]⟩) (wants Q₁ E) s:=by
 refine codeAny_of_tree ?_
 have step:=PySem.F.newCall_set_1 x
 show wpAny _ A.in1 (checkBuiltinCall "set.__new__" ⟨[.type "set",x],[]⟩ >>= fun _=>again (.builtin "set.__new__" ⟨[.type "set",x],[]⟩)) _ _ s
 refine wpAny_bind (wpAny_of_eq step (wpAny_pure ⟨plainId_quiet PySem.F.plain_set_new _,?_⟩))
 refine codeAny_builtin PySem.F.entry_set_new ?_
 rw [Around.under_plainId PySem.F.plain_set_new _]
 delta Builtin.«set.__new__»; unfold Builtin.Frozenset.newClass
 have self:=sub_set_self
 cases s with
 | mk hp g d tk os =>
  dsimp only at h ⊢
  wp_walk
  refine wpAny_askSetting (wpAny_pure ?_); simp only [newObj]
  exact wpAny_bind (wpAny_alloc (wpAny_pure (wpAny_pure h)))
theorem set_of {x:Value} {Q:Value -> Shared -> Prop}
  (upd:∀ (led:Bool) (A':Around),led = (!(w.params.followText "set-order")) -> A'.units <= A.units + 8 -> A'.handled = A.handled -> wpAny (model prog w) A' (Builtin.Frozenset.updateFrom "set.__init__" s.heap.objs.size x) (fun _ s₂=>Q (.ref s.heap.objs.size) s₂) E { s with heap:=s.heap.push (xc2 led) }) :
  wpAny (model prog w) A (call (.type "set") [x]) Q E s:=by
 obtain ⟨c,tl,hmro⟩:=PySem.F.called_set.mro
 have hmade:=PySem.F.called_set.made
 have hsub:=PySem.F.called_set.sub
 refine wpAny_call (codeAny_of_tree ?_); show wpAny _ _ (callAny (.type "set") _) _ _ _
 refine wpAny_pure ⟨Code.quiet_builtin _ (by decide +kernel),codeAny_builtin PySem.F.entry_type_call ?_⟩
 rw [Around.under_plain (weight_type_call_type "set" [x] []) rfl]
 have h1:=PySem.F.called_set.notType
 have h2:=PySem.F.called_set.canCreate
 have hct:=PySem.F.typeCall_set_1 x
 (repeat (any_goals (first | assumption | wp_step))); refine codeAny_mono (new_code x (E:=E) (Q₁:=fun obj s₁=>∃ led:Bool,led = (!(w.params.followText "set-order")) /\ obj = .ref s.heap.objs.size /\ s₁ = { s with heap:=s.heap.push (xc2 led) }) ⟨_,rfl,rfl,rfl⟩) fun r s₁ hr=>?_
 cases r with
 | error e=>exact hr
 | ok fl =>
  cases fl with
  | ret obj =>
   obtain ⟨led,hled,rfl,rfl⟩:=hr
   have hS:(s.heap.push (xc2 led)).get? s.heap.objs.size = some (xc2 led):=Heap.get?_push_size _ rfl
   have hT:Shared.TypeIs { s with heap:=s.heap.push (xc2 led) } (.ref s.heap.objs.size) "set":=⟨_,hS,rfl⟩
   have hli:=PySem.F.called_set.init.lookup
   have hbi:=PySem.F.called_set.init.bind (.ref s.heap.objs.size)
   (repeat (any_goals (first | assumption | wp_step))); refine codeAny_mono (codeAny_call_builtin (R:=wants (fun r s₂=>r = .none /\ Q (.ref s.heap.objs.size) s₂) E) PySem.F.called_set.init.plain PySem.F.entry_set_init (check_set_init_1 hT ?_)) fun r₂ s₂ hr₂=>?_
   ·unfold Builtin.«set.__init__» noKeywords; generalize hPI:Builtin.Frozenset.updateFrom = PI
    wp_walk
    subst hPI
    exact wpAny_mono (upd led A.in1.in1 hled (by simp [Around.in1_units]) (by simp)) (fun r s' q=>wpAny_pure ⟨rfl,q⟩) (fun e s' x=>x)
   ·cases r₂ with
    | error e=>exact hr₂
    | ok fl₂ =>
     cases fl₂ with
     | ret r =>
      obtain ⟨rfl,hq⟩:=hr₂; repeat (any_goals (first | assumption | wp_step))
     | _=>exact hr₂.elim
  | _=>exact hr.elim
end
section
variable {prog:Program} {w:World} {K:Type} [DecidableEq K] {kn:KeyKind prog w K} {A:Around} {E:Value -> Shared -> Prop} {s:Shared}
theorem yk4:isSubtype (Value.type "dict") (.type "set") = pure false:=by rw [isSubtype_type]; kernel_rfl
theorem yk5:isSubtype (.type "dict") (.type "frozenset") = pure false:=by rw [isSubtype_type]; kernel_rfl
theorem set_room {S:Addr} {led:Bool} {n m:Nat} {Q:Unit -> Shared -> Prop} (hled:led = !(w.params.followText "set-order")) (hS:s.heap.get? S = some (xc2 led)) (hl:n <= 36) (hm:m = n) (h:∀ h',Heap.SameBut S s.heap h' -> xd1 kn h' S [] -> Q () { s with heap:=h' }) :
  wpAny (model prog w) A (setRoomFor S m) Q E s:=by
 subst hm
 have T0:=Tab.fresh 0 0 led
 have S0:SetAt kn s.heap [] #[] (SetTable.fresh 0 0 led):=⟨rfl,fun x hx=>by simp at hx,List.nodup_nil,T0,by show 0 * 5 < 7 * 3; decide⟩
 unfold setRoomFor
 refine wpAny_bind (wpAny_setState_of hS rfl S0.fits ?_)
 dsimp only
 cases e:(SetTable.fresh 0 0 led).roomFor m with
 | none =>
  dsimp only
  refine wpAny_pure ?_
  have:=h s.heap (Heap.SameBut.refl _ _) ⟨_,_,_,_,hS,⟨rfl,rfl,rfl⟩,rfl,S0,(Or.inl (Nat.zero_le 1)),hled⟩
  have e:s = { s with heap:=s.heap }:=(by cases s; rfl); rw [e]; exact this
 | some wanted =>
  dsimp only
  have hw:wanted = m * 2 /\ 4 < m:=by
   unfold SetTable.roomFor at e
   split at e
   ·rename_i c
    have c:(0 + m) * 5 >= 7 * 3:=c
    cases e
    exact ⟨by show (0 + m) * 2 = m * 2; omega,by omega⟩
   ·cases e
  obtain ⟨g1,g2,g3⟩:=yb4 (n:=m) (by omega)
  rw [hw.1]
  refine xy1 (kn:=kn) (xs:=[]) hS ⟨rfl,rfl,rfl⟩ rfl rfl S0.fits (fun x hx=>by simp at hx) List.nodup_nil g1 g3 (by simp; omega) (Nat.zero_le _) fun h' o' es' ep' t' xs' sb ho' hex' hd' px S' pl ld mk=>?_
  have:xs' = []:=List.Perm.eq_nil px
  subst this
  exact h h' sb ⟨o',es',ep',t',ho',hex',hd',S',Or.inl (Nat.zero_le 1),by rw [ld]; exact hled⟩
theorem upd_dict {d S:Addr} {xs:List (List K × Addr × Value)} {led:Bool} {Q:Unit -> Shared -> Prop} (hu:A.units < cLine) (hled:led = !(w.params.followText "set-order")) (hS:s.heap.get? S = some (xc2 led)) (hd:s.heap.DictOfH (tupleKind kn) d xs) (hm:(d == sysModules) = false) (hl:xs.length <= 36)
  (htx:∀ x ∈ xs,xo1 s.heap x.2.1) (h:∀ h' ys,Heap.SameBut S s.heap h' -> xd1 kn h' S ys -> ys.Perm (xs.map fun x=>(x.1,x.2.1)) -> Q () { s with heap:=h' }) :
  wpAny (model prog w) A (Builtin.Frozenset.updateFrom "set.__init__" S (.ref d)) Q E s:=by
 have hT:=hd.typeIs
 unfold Builtin.Frozenset.updateFrom Builtin.Frozenset.isAnySet
 have h1:=yk4
 have h2:=yk5
 generalize hPI:setRoomFor = PI
 wp_walk
 subst hPI
 have hd0:=hd
 obtain ⟨od,es,ep,hod,hxd,hdd,hes,hik,hnd⟩:=hd
 refine wpAny_loadPart hod ?_
 rw [hdd]
 dsimp only
 refine wpAny_pure ?_
 have hsz:es.size = xs.length:=(by rw [<- Array.length_toList,hes,List.length_map]); refine wpAny_bind (wpAny_dictEntries hod hdd ?_)
 have hne:d ≠ S:=by
  rintro rfl
  rw [hod] at hS
  cases hS
  cases hdd
 refine wpAny_bind (set_room (kn:=kn) hled hS hl hsz fun h1 sb1 S1=>?_)
 have hod1:h1.get? d = some od:=(sb1.2 d hne).trans hod
 refine wpAny_bind (wpAny_dictEntries (s:={ s with heap:=h1 }) hod1 hdd ?_)
 rw [hsz]
 refine wpAny_bind ?_
 rw [Std.Legacy.Range.forIn_eq_forIn_range']; simp only [Std.Legacy.Range.size,Nat.sub_zero,Nat.add_sub_cancel,Nat.div_one]
 refine wpAny_forIn_list _
  (fun rest _ s'=>∃ h' i ys,s' = { s with heap:=h' } /\ rest = List.range' i (xs.length - i) /\ i <= xs.length /\ Heap.SameBut S s.heap h' /\ xd1 kn h' S ys /\ ys.Perm ((xs.take i).map fun x=>(x.1,x.2.1)))
  _ ?_ ?_ _ _ ⟨h1,0,[],rfl,by simp,Nat.zero_le _,sb1,S1,by simp⟩
 ·rintro x rest b s' ⟨h',i,ys,rfl,hr,hi,hs',hSy,hp⟩
  have hlt:i < xs.length:=by
   rcases Nat.lt_or_ge i xs.length with h | h
   ·exact h
   ·simp [Nat.sub_eq_zero_of_le h] at hr
  obtain ⟨rfl,hrest⟩:x = i /\ rest = List.range' (i + 1) (xs.length - (i + 1)):=by
   have e:xs.length - i = (xs.length - (i + 1)) + 1:=by omega
   rw [e,List.range'_succ] at hr; injection hr with h1 h2
   exact ⟨h1,h2⟩
  have hod':h'.get? d = some od:=(hs'.2 d hne).trans hod
  refine wpAny_bind (wpAny_dictEntries (s:={ s with heap:=h' }) hod' hdd ?_)
  have hxi:xs[x]? = some xs[x]:=List.getElem?_eq_getElem hlt
  have hex:es[x]? = some (entryOfKey (tupleKind kn) xs[x]):=by rw [<- Array.getElem?_toList,hes,List.getElem?_map,hxi]; rfl
  rw [hex]
  dsimp only
  have hmem:xs[x] ∈ xs:=List.getElem_mem hlt
  have tup':∀ y ∈ xs,IsTupleKey kn h' y.1 y.2.1:=fun y hy=>by
   obtain ⟨o1,it,n1,a1,a2,a3,a4⟩:=hik y hy
   have ne:y.2.1 ≠ S:=by
    intro e
    rw [e,hS] at a1
    cases a1
    cases a3
   exact ⟨o1,it,n1,(hs'.2 _ ne).trans a1,a2,a3,a4⟩
  have txt':∀ y ∈ xs,xo1 h' y.2.1:=fun y hy=>by
   obtain ⟨o1,it,n1,a1,a2,a3,a4⟩:=htx y hy
   have ne:y.2.1 ≠ S:=by
    intro e
    rw [e,hS] at a1
    cases a1
    cases a3
   exact ⟨o1,it,n1,(hs'.2 _ ne).trans a1,a2,a3,a4⟩
  have hlen:ys.length = x:=by
   rw [hp.length_eq,List.length_map,List.length_take]
   omega
  have hnin:xs[x].1 ∉ ys.map (·.1):=by
   intro hin
   have:xs[x].1 ∈ (xs.take x).map (·.1):=by
    have:=(hp.map (·.1)).mem_iff.mp hin
    rw [List.map_map] at this
    exact this
   obtain ⟨y,hy,e⟩:=List.mem_map.mp this
   obtain ⟨m,hm⟩:=List.getElem?_of_mem hy
   rw [List.getElem?_take] at hm
   split at hm
   ·rename_i lt
    have l1:m < xs.length:=by omega
    rw [List.getElem?_eq_getElem l1] at hm
    cases hm
    have:=List.pairwise_iff_getElem.mp (List.nodup_iff_pairwise_ne.mp hnd) m x (by simpa using l1) (by simpa using hlt) lt
    simp only [List.getElem_map] at this
    exact this e
   ·cases hm
  show wpAny _ _ (holding [Value.ref xs[x].2.1] (setAddHashed S (.ref xs[x].2.1) (tupleKeyHash kn xs[x].1)) >>= _) _ _ _
  refine wpAny_bind (wpAny_holding (yq0 (s:={ s with heap:=h' }) hu hSy (tup' _ hmem) (txt' _ hmem) (by omega) fun r h'' ys' sb'' hSy' _ hperm=>?_))
  have hod'':h''.get? d = some od:=(sb''.2 d hne).trans hod'
  refine wpAny_bind (wpAny_dictEpoch (s:={ s with heap:=h'' }) hod'' hdd ?_)
  rw [if_neg (by simp)]
  refine wpAny_pure ⟨h'',x + 1,ys',rfl,hrest,hlt,hs'.trans sb'',hSy',?_⟩
  refine (hperm hnin).trans ?_
  rw [List.take_succ,hxi,Option.toList_some,List.map_append,List.map_cons,List.map_nil]
  exact (List.perm_append_comm (l₁:=[(xs[x].1,xs[x].2.1)]) (l₂:=ys)).trans (hp.append_right _)
 ·rintro b s' ⟨h',i,ys,rfl,hr,hi,hs',hSy,hp⟩
  have hin:i = xs.length:=by
   rcases Nat.lt_or_ge i xs.length with hlt | h
   ·rw [show xs.length - i = (xs.length - (i + 1)) + 1 by omega,List.range'_succ] at hr
    simp at hr
   ·omega
  subst hin
  rw [List.take_length] at hp
  exact wpAny_pure (h h' ys hs' hSy hp)
end
theorem xk1 {α:Type}:∀ {l:List α} {i:Nat} {x:α},l[i]? = some x -> l.Perm (x :: l.eraseIdx i)
 | [],i,x,h=>by simp at h
 | a :: l,0,x,h=>by simp at h; subst h; exact .refl _
 | a :: l,i + 1,x,h=>by
  have h:l[i]? = some x:=by simpa using h
  exact ((xk1 h).cons a).trans (.swap _ _ _)
section
variable {A:Around} {M:Model} {E:Value -> Shared -> Prop} {s:Shared}
theorem zb7 {src:Source} {n:Nat} {Q:Nat -> Shared -> Prop} (hn:n ≠ 0) (h:∀ i d',i < n -> Q i { s with drawn:=d' }):wpAny M A (choose src n) Q E s :=
 fun Γ p _=>⟨hn,h _ _ (Nat.mod_lt _ (Nat.pos_of_ne_zero hn))⟩
theorem yb3 {α:Type}:∀ (n:Nat) (xs:List α) {s:Shared} {Q:List α -> Shared -> Prop},xs.length <= n -> (∀ l d',l.Perm xs -> Q l { s with drawn:=d' }) -> wpAny M A (drawOrder n xs) Q E s
 | 0,xs,s,Q,hl,h=>by
  have:xs = []:=List.length_eq_zero_iff.mp (by omega)
  subst this
  unfold drawOrder
  exact wpAny_pure (h [] s.drawn (.refl _))
 | n + 1,[],s,Q,hl,h=>by
  unfold drawOrder
  exact wpAny_pure (h [] s.drawn (.refl _))
 | n + 1,x :: xs,s,Q,hl,h=>by
  unfold drawOrder
  refine wpAny_bind (zb7 (by simp) fun i d' hi=>?_)
  obtain ⟨y,hy⟩:∃ y,(x :: xs)[i]? = some y:=⟨_,List.getElem?_eq_getElem hi⟩
  rw [hy]
  dsimp only
  have hlen:((x :: xs).eraseIdx i).length <= n:=by
   have:=(xk1 hy).length_eq
   simp only [List.length_cons] at this hl
   omega
  refine wpAny_bind (yb3 n _ hlen fun l d'' hp=>wpAny_pure ?_)
  exact h (y :: l) d'' ((hp.cons y).trans (xk1 hy).symm)
end
theorem ze9 {α:Type} (next:Nat -> Nat):∀ (fuel k:Nat) (left:List α) (out:Array α),left.length <= fuel -> (pickOrder.go next fuel k left out).toList.Perm (out.toList ++ left)
 | 0,k,left,out,h=>by
  have:left = []:=List.length_eq_zero_iff.mp (by omega)
  subst this
  unfold pickOrder.go
  simp
 | fuel + 1,k,left,out,h=>by
  unfold pickOrder.go
  cases left with
  | nil=>simp
  | cons a r =>
   have hi:next k % (a :: r).length < (a :: r).length:=Nat.mod_lt _ (by simp)
   rw [List.getElem?_eq_getElem hi]
   dsimp only
   have hp:=xk1 (List.getElem?_eq_getElem hi)
   refine (ze9 next fuel (k + 1) _ _ (by have:=hp.length_eq; simp only [List.length_cons] at this h ⊢; omega)).trans ?_
   rw [Array.toList_push,List.append_assoc]
   exact (hp.symm).append_left _
theorem yl7 {α:Type} (next:Nat -> Nat) (xs:Array α):(pickOrder next xs).toList.Perm xs.toList:=by
 have:=ze9 next xs.size 0 xs.toList #[] (by simp)
 simpa [pickOrder] using this
section
variable {prog:Program} {w:World} {K:Type} [DecidableEq K] {kn:KeyKind prog w K} {A:Around} {E:Value -> Shared -> Prop} {s:Shared}
theorem yt9 {a:Addr} {o:Obj} {es:Array (Int × Value)} {ep:Nat} {t:SetTable} {xs:List (List K × Addr)} {Q:Array (Int × Value) -> Shared -> Prop} (ho:s.heap.get? a = some o) (hd:o.data = .set es ep t) (S:SetAt kn s.heap xs es t) (hpl:yp6 w xs.length t)
  (h:∀ es' d',es'.toList.Perm es.toList -> Q es' { s with drawn:=d' }):wpAny (model prog w) A (setWalk a) Q E s:=by
 unfold setWalk setsByText
 refine wpAny_bind (wpAny_setState_of ho hd S.fits ?_)
 dsimp only
 refine wpAny_bind (wpAny_bind (wpAny_askSetting (wpAny_pure ?_))); split
 ·refine wpAny_bind (wpAny_askSetting (wpAny_pure ?_))
  have:=h (pickOrder (w.params.setOrder a ep) es) s.drawn (yl7 _ _)
  exact this
 ·show wpAny _ _ (if (!t.plain && decide (es.size > 1)) = true then _ else _) _ _ _
  by_cases c:(!t.plain && decide (es.size > 1)) = true
  ·rw [if_pos c]
   refine wpAny_bind (yb3 _ _ (by simp) fun l d' hp=>wpAny_pure ?_)
   exact h l.toArray d' (by simpa using hp)
  ·rw [if_neg c]
   have small:¬ es.size > 1:=fun z=>by
    rcases hpl.1 with q | q
    ·rw [S.size] at z; omega
    ·rw [q] at c; simp at c; omega
   show wpAny _ _ ((if (!t.led && decide (es.size > 1)) = true then (unsupported "set:maker-not-led" : Sem Unit) else pure ()) >>= fun _=>pure es) _ _ _
   rw [if_neg (by simp [small])]
   refine wpAny_bind (wpAny_pure (wpAny_pure ?_)); exact h es s.drawn (.refl _)
theorem zd9 {a f:Addr} {o:Obj} {es:Array (Int × Value)} {ep:Nat} {t:SetTable} {xs:List (List K × Addr)} {Q:Array (Int × Value) -> Shared -> Prop} (ho:s.heap.get? a = some o) (hd:o.data = .set es ep t) (S:SetAt kn s.heap xs es t) (hpl:yp6 w xs.length t)
  (h:∀ es' d',es'.toList.Perm es.toList -> Q es' { s with drawn:=d' }):wpAny (model prog w) A (setWalkUnseen a [f] (some f)) Q E s:=by
 unfold setWalkUnseen setsByText
 refine wpAny_bind (wpAny_setState_of ho hd S.fits ?_)
 dsimp only
 refine wpAny_bind (wpAny_bind (wpAny_askSetting (wpAny_pure ?_))); split
 ·exact yt9 ho hd S hpl h
 ·rename_i c
  have big:1 < es.size:=by
   apply Classical.byContradiction
   intro z
   apply c
   simp
   omega
  have quiet:wpAny (model prog w) A (setsQuiet [a,f]) (fun r s'=>r = false /\ s' = s) E s:=by
   unfold setsQuiet
   refine wpAny_bind ?_
   simp only [List.forIn_cons]
   refine wpAny_bind ?_
   refine wpAny_bind (wpAny_setEntries_of ho hd S.fits ?_)
   rw [<- Array.forIn_toList,S.es]
   cases xs with
   | nil=>rw [S.size] at big; simp at big
   | cons x0 r0 =>
    rw [List.map_cons,List.forIn_cons]
    refine wpAny_bind (wpAny_bind ?_); dsimp only
    have hT:=(S.is x0 (by simp)).typeIs
    refine wpAny_bind (wpAny_specialOf hT PySem.F.slot_tuple_eq.lookup ?_)
    rw [if_pos (by decide +kernel)]
    refine wpAny_pure ?_
    dsimp only
    refine wpAny_pure ?_
    dsimp only
    refine wpAny_pure ?_
    dsimp only
    refine wpAny_pure ?_
    dsimp only
    exact wpAny_pure ⟨rfl,rfl⟩
  refine wpAny_bind (wpAny_mono quiet (fun r s' ⟨h1,h2⟩=>?_) (fun _ _ x=>x))
  subst h1 h2
  simp only [Bool.not_false,if_true]; exact yt9 ho hd S hpl h
theorem ze1 {a:Addr} {o:Obj} {es:Array (Int × Value)} {ep:Nat} {t:SetTable} {xs:List (List K × Addr)} {m:Nat} {Q:Unit -> Shared -> Prop} (ho:s.heap.get? a = some o) (hex:o.ExactSet) (hd:o.data = .set es ep t) (S:SetAt kn s.heap xs es t) (hl:xs.length + m <= 60)
  (h:∀ h' o' es' ep' t' xs',Heap.SameBut a s.heap h' -> h'.get? a = some o' -> o'.ExactSet -> o'.data = .set es' ep' t' -> xs'.Perm xs -> SetAt kn h' xs' es' t' -> t'.plain = t.plain -> t'.led = t.led -> (xs.length + m) * 5 < t'.mask * 3 -> Q () { s with heap:=h' }) :
  wpAny (model prog w) A (setRoomFor a m) Q E s:=by
 unfold setRoomFor
 refine wpAny_bind (wpAny_setState_of ho hd S.fits ?_)
 dsimp only
 have hlen:=S.tab.len
 rw [List.length_map] at hlen
 have hfill:t.fill = xs.length:=by
  unfold SetTable.fill
  rw [S.tab.dum]
  simp at hlen ⊢
  exact hlen
 cases e:t.roomFor m with
 | none =>
  dsimp only
  refine wpAny_pure ?_
  have big:(xs.length + m) * 5 < t.mask * 3:=by
   unfold SetTable.roomFor at e
   split at e
   ·cases e
   ·rename_i c
    rw [hfill] at c
    omega
  have:=h s.heap o es ep t xs (Heap.SameBut.refl _ _) ho hex hd (.refl _) S rfl rfl big
  have e:s = { s with heap:=s.heap }:=(by cases s; rfl); rw [e]; exact this
 | some wanted =>
  dsimp only
  have hw:wanted = (xs.length + m) * 2 /\ t.mask * 3 <= (xs.length + m) * 5:=by
   unfold SetTable.roomFor at e
   split at e
   ·rename_i c
    rw [hfill] at c
    cases e
    refine ⟨?_,c⟩
    rw [show t.place.size = xs.length by simpa using hlen]
   ·cases e
  have hm7:7 <= t.mask:=by rcases S.tab.mask with z | z | z | z | z <;> omega
  obtain ⟨g1,g2,g3⟩:=yb4 (n:=xs.length + m) (by omega)
  rw [hw.1]
  refine xy1 (kn:=kn) (xs:=xs) ho hex hd S.es S.fits S.is S.nd g1 g3 (by omega) (by omega) fun h' o' es' ep' t' xs' sb ho' hex' hd' px S' pl ld mk=>?_
  exact h h' o' es' ep' t' xs' sb ho' hex' hd' px S' pl ld (by rw [mk]; omega)
end
structure Both {K:Type} (zs xs ys:List (List K × Addr)):Prop where
 from_:∀ z ∈ zs,z ∈ xs \/ z ∈ ys
 keys:∀ k,k ∈ zs.map (·.1) ↔ k ∈ xs.map (·.1) \/ k ∈ ys.map (·.1)
section
variable {prog:Program} {w:World} {K:Type} [DecidableEq K] {kn:KeyKind prog w K} {A:Around} {E:Value -> Shared -> Prop} {s:Shared}
theorem keep_set {h h':Heap} {a b:Addr} {xs:List (List K × Addr)} {oa:Obj} {ea:Array (Int × Value)} {pa:Nat} {ta:SetTable} (hoa:h.get? a = some oa) (hda:oa.data = .set ea pa ta) (hb:xd1 kn h b xs) (hab:a ≠ b) (sb:Heap.SameBut a h h'):xd1 kn h' b xs:=by
 obtain ⟨o,es,ep,t,h1,h2,h3,S,h5⟩:=hb
 exact ⟨o,es,ep,t,(sb.2 b (Ne.symm hab)).trans h1,h2,h3,⟨S.es,fun x hx=>xn8 hoa hda sb (S.is x hx),S.nd,S.tab,S.cap⟩,h5⟩
theorem yv6 {h h':Heap} {a:Addr} {o:Obj} {es:Array (Int × Value)} {ep:Nat} {t:SetTable} {b:Addr} (ho:h.get? a = some o) (hd:o.data = .set es ep t) (hs:Heap.SameBut a h h') (k:xo1 h b):xo1 h' b:=by
 obtain ⟨o',items,n,h1,h2,h3,h4⟩:=k
 have ne:b ≠ a:=by
  rintro rfl
  rw [ho] at h1
  cases h1
  rw [hd] at h3
  cases h3
 exact ⟨o',items,n,(hs.2 b ne).trans h1,h2,h3,h4⟩
theorem yl3 {a b:Addr} {xs ys:List (List K × Addr)} {each:Sem Unit} {Q:Unit -> Shared -> Prop} (hu:A.units < cLine) (ha:xd1 kn s.heap a xs) (hb:xd1 kn s.heap b ys) (hab:a ≠ b) (htx:∀ y ∈ ys,xo1 s.heap y.2) (hl:xs.length + ys.length <= 36)
  (heach:∀ (s':Shared) (R:Unit -> Shared -> Prop),s'.heap.get? b = s.heap.get? b -> R () s' -> wpAny (model prog w) A each R E s')
  (h:∀ h' d' zs,Heap.SameBut a s.heap h' -> xd1 kn h' a zs -> Both zs xs ys -> Q () { s with heap:=h',drawn:=d' }) :
  wpAny (model prog w) A (setMerge a b each) Q E s:=by
 obtain ⟨oa,ea,pa,ta,hoa,hxa,hda,Sa,hpa⟩:=ha
 have hb0:=hb
 obtain ⟨ob,eb,pb,tb,hob,hxb,hdb,Sb,hpb⟩:=hb
 have same:s = { s with heap:=s.heap,drawn:=s.drawn }:=by cases s; rfl
 unfold setMerge
 rw [if_neg (by simpa using hab)]
 refine wpAny_bind (wpAny_setState_of hob hdb Sb.fits ?_)
 dsimp only
 have hsz:=Sb.size
 cases ys with
 | nil =>
  have:eb = #[]:=Array.eq_empty_of_size_eq_zero (by simpa using hsz)
  subst this
  simp only [Array.isEmpty_empty,if_true]
  refine wpAny_pure ?_
  rw [same]
  exact h s.heap s.drawn xs (Heap.SameBut.refl _ _) ⟨oa,ea,pa,ta,hoa,hxa,hda,Sa,hpa⟩ ⟨fun z hz=>.inl hz,fun k=>by simp⟩
 | cons y0 yr =>
  generalize hys:y0 :: yr = ys at *
  have hyl:0 < ys.length:=by rw [<- hys]; simp
  have hne:eb.isEmpty = false:=by
   rw [Bool.eq_false_iff]
   intro z
   have:=Array.isEmpty_iff_size_eq_zero.mp z
   omega
  rw [hne]
  simp only [Bool.false_eq_true,if_false]; rw [hsz]
  refine wpAny_bind (ze1 hoa hxa hda Sa (m:=ys.length) (by omega) fun h1 o1 e1 p1 t1 xs1 sb1 ho1 hx1 hd1 px S1 pl1 ld1 big=>?_)
  have hb1:xd1 kn h1 b ys:=keep_set hoa hda hb0 hab sb1
  have hob1:h1.get? b = some ob:=(sb1.2 b (Ne.symm hab)).trans hob
  have tx1:∀ y ∈ ys,xo1 h1 y.2:=fun y hy=>yv6 hoa hda sb1 (htx y hy)
  have is1:∀ y ∈ ys,IsTupleKey kn h1 y.1 y.2:=fun y hy=>xn8 hoa hda sb1 (Sb.is y hy)
  have SB1:SetAt kn h1 ys eb tb:=⟨Sb.es,is1,Sb.nd,Sb.tab,Sb.cap⟩
  refine wpAny_bind (wpAny_setState_of (s:={ s with heap:=h1 }) ho1 hd1 S1.fits ?_)
  dsimp only
  have hlen:=S1.tab.len
  rw [List.length_map] at hlen
  have hfill:t1.fill = xs1.length:=by
   unfold SetTable.fill
   rw [S1.tab.dum]
   simp at hlen ⊢
   exact hlen
  have hpl1:yp6 w xs1.length t1:=by unfold yp6; rw [px.length_eq,pl1,ld1]; exact hpa
  by_cases empty:xs1 = []
  ·-- a new one: laid over,or laid anew
   subst empty
   have hxs:xs = []:=px.symm.eq_nil
   subst hxs
   have hf0:(t1.fill != 0) = false:=by rw [hfill]; rfl
   have both:∀ zs:List (List K × Addr),zs.Perm ys -> Both zs [] ys:=fun zs hp=>⟨fun z hz=>.inr (hp.mem_iff.mp hz),fun k=>by
    rw [(hp.map (·.1)).mem_iff]; simp⟩
   unfold SetTable.road
   rw [hf0]
   simp only [Bool.false_eq_true,if_false]; by_cases c:(t1.mask == tb.mask && tb.dummies.isEmpty) = true
   ·rw [if_pos c]
    dsimp only
    refine wpAny_storeSet_of ho1 hd1 ?_ (by rw [hsz,sizeLine_eq]; omega)
    have sb2:=Heap.SameBut.update h1 a (Obj.putSet eb { tb with finger:=t1.finger,led:=t1.led && tb.led,moves:=t1.moves,plain:=t1.plain && tb.plain })
    have T2:Tab { tb with finger:=t1.finger,led:=t1.led && tb.led,moves:=t1.moves,plain:=t1.plain && tb.plain } (ys.map fun x=>tupleKeyHash kn x.1) :=
     ⟨Sb.tab.mask,Sb.tab.dum,Sb.tab.pw,Sb.tab.le,Sb.tab.len,Sb.tab.room,Sb.tab.way⟩
    refine h _ s.drawn ys (sb1.trans sb2) ⟨_,eb,_,_,stored ho1 hd1 _ _,hx1,rfl,⟨Sb.es,fun x hx=>xn8 ho1 hd1 sb2 (is1 x hx),Sb.nd,T2,Sb.cap⟩,?_⟩ (both ys (.refl _))
    refine ⟨?_,by show (t1.led && tb.led) = _; rw [hpl1.2,hpb.2,Bool.and_self]⟩
    rcases hpb.1 with q | q
    ·exact .inl q
    ·exact .inr (by show (t1.plain && tb.plain) = false; rw [q,Bool.and_false])
   ·rw [if_neg c]
    dsimp only
    simp only [List.length_nil,Nat.zero_add] at big
    have hm7:7 <= t1.mask:=by rcases S1.tab.mask with z | z | z | z | z <;> omega
    obtain ⟨t',order,e,e1',e2,e3,e4,e5,perm,tab⟩:=zh8 S1.tab.mask eb (by omega) t1.finger t1.moves (t1.led && tb.led) (t1.plain && tb.plain)
    rw [e]
    have hs':(order.filterMap (fun k=>eb[k]?)).size = eb.size:=by rw [<- Array.length_toList,perm.length_eq,Array.length_toList]
    obtain ⟨ys',py,ey⟩:∃ ys':List (List K × Addr),ys'.Perm ys /\ (order.filterMap (fun k=>eb[k]?)).toList = ys'.map fun x=>(tupleKeyHash kn x.1,Value.ref x.2):=by
     rw [Sb.es] at perm
     obtain ⟨l,q1,q2⟩:=xl5 perm
     exact ⟨l,q2,q1⟩
    refine wpAny_bind ?_
    refine wpAny_mono (Q:=fun r s'=>r = (order.filterMap (fun k=>eb[k]?),t') /\ { s with heap:=h1 } = s') ?_ ?_ (fun _ _ x=>x)
    ·show wpAny _ _ (if ((order.filterMap (fun k=>eb[k]?)).size != eb.size) = true then _ else _) _ _ _
     rw [if_neg (by rw [hs']; simp)]
     exact wpAny_pure ⟨rfl,rfl⟩
    ·rintro _ _ ⟨rfl,rfl⟩
     dsimp only
     refine wpAny_storeSet_of (s:={ s with heap:=h1 }) ho1 hd1 ?_ (by rw [hs',hsz,sizeLine_eq]; omega)
     have sb2:=Heap.SameBut.update h1 a (Obj.putSet (order.filterMap (fun k=>eb[k]?)) t')
     refine h _ s.drawn ys' (sb1.trans sb2) ⟨_,_,_,_,stored ho1 hd1 _ _,hx1,rfl,⟨ey,fun x hx=>xn8 ho1 hd1 sb2 (is1 x (py.mem_iff.mp hx)),(py.map _).nodup_iff.mpr Sb.nd,?_,?_⟩,?_⟩ (both ys' py)
     ·rw [ey,List.map_map] at tab
      exact tab
     ·rw [py.length_eq,e1']
      exact big
     ·rw [py.length_eq]
      refine ⟨?_,by rw [e2,hpl1.2,hpb.2,Bool.and_self]⟩
      rcases hpb.1 with q | q
      ·exact .inl q
      ·exact .inr (by rw [e3,q,Bool.and_false])
  ·-- one by one
   have hf0:(t1.fill != 0) = true:=by
    rw [hfill]
    have:0 < xs1.length:=List.length_pos_iff.mpr empty
    simp
    omega
   have er:t1.road tb = .oneByOne:=by unfold SetTable.road; rw [if_pos hf0]
   rw [er]
   dsimp only
   refine wpAny_bind (zd9 (s:={ s with heap:=h1 }) hob1 hdb SB1 hpb fun es' d1 hp=>?_)
   rw [Sb.es] at hp
   obtain ⟨ys',ey,py⟩:=xl5 hp
   rw [<- Array.forIn_toList,ey]
   have ylen:=py.length_eq
   refine wpAny_bind (wpAny_mono (wpAny_forIn_list _
    (fun rest _ s'=>∃ h' i zs,s' = { s with heap:=h',drawn:=d1 } /\ rest = (ys'.drop i).map (fun x=>(tupleKeyHash kn x.1,Value.ref x.2)) /\ i <= ys'.length /\ Heap.SameBut a s.heap h' /\ xd1 kn h' a zs /\ Both zs xs (ys'.take i) /\ zs.length <= xs.length + i)
    (fun _ s'=>∃ h' zs,s' = { s with heap:=h',drawn:=d1 } /\ Heap.SameBut a s.heap h' /\ xd1 kn h' a zs /\ Both zs xs ys') ?_ ?_ _ _ ⟨h1,0,xs1,rfl,rfl,Nat.zero_le _,sb1,⟨o1,e1,p1,t1,ho1,hx1,hd1,S1,hpl1⟩,⟨fun z hz=>.inl (px.mem_iff.mp hz),fun k=>by rw [(px.map (·.1)).mem_iff]; simp⟩,by rw [px.length_eq]; omega⟩) ?_ (fun _ _ x=>x))
   ·rintro x rest b' s' ⟨h',i,zs,rfl,hr,hi,hs',hSz,bth,zl⟩
    have hlt:i < ys'.length:=by
     rcases Nat.lt_or_ge i ys'.length with q | q
     ·exact q
     ·rw [List.drop_eq_nil_of_le q] at hr; simp at hr
    rw [List.drop_eq_getElem_cons hlt,List.map_cons] at hr
    obtain ⟨rfl,hrest⟩:=List.cons.inj hr
    dsimp only
    have hmem:ys'[i] ∈ ys:=py.mem_iff.mp (List.getElem_mem hlt)
    have hk:IsTupleKey kn h' ys'[i].1 ys'[i].2:=xn8 hoa hda hs' (Sb.is _ hmem)
    have hv:xo1 h' ys'[i].2:=yv6 hoa hda hs' (htx _ hmem)
    refine wpAny_bind (wpAny_holding (yq0 (s:={ s with heap:=h',drawn:=d1 }) hu hSz hk hv (by omega) fun r h'' zs' sb'' hSz' hin hnin=>?_))
    have hob2:h''.get? b = some ob:=(sb''.2 b (Ne.symm hab)).trans ((hs'.2 b (Ne.symm hab)).trans hob)
    refine wpAny_bind (heach _ _ (by show h''.get? b = _; rw [hob2,hob]) ?_)
    refine wpAny_bind (wpAny_setState_of (s:={ s with heap:=h'',drawn:=d1 }) hob2 hdb Sb.fits ?_)
    dsimp only
    rw [if_neg (by simp)]
    refine wpAny_pure ⟨h'',i + 1,zs',rfl,hrest,hlt,hs'.trans sb'',hSz',?_,?_⟩
    ·rw [List.take_succ,List.getElem?_eq_getElem hlt,Option.toList_some]
     by_cases c:ys'[i].1 ∈ zs.map (·.1)
     ·rw [hin c]
      refine ⟨fun z hz=>?_,fun k=>?_⟩
      ·rcases bth.from_ z hz with q | q
       ·exact .inl q
       ·exact .inr (List.mem_append_left _ q)
      ·rw [bth.keys k,List.map_append,List.mem_append,List.map_cons,List.map_nil,List.mem_singleton]
       constructor
       ·rintro (q | q)
        ·exact .inl q
        ·exact .inr (.inl q)
       ·rintro (q | q | q)
        ·exact .inl q
        ·exact .inr q
        ·subst q; exact (bth.keys _).mp c
     ·have pz:=hnin c
      refine ⟨fun z hz=>?_,fun k=>?_⟩
      ·rcases List.mem_cons.mp (pz.mem_iff.mp hz) with q | q
       ·exact .inr (List.mem_append_right _ (by rw [q]; simp))
       ·rcases bth.from_ z q with q | q
        ·exact .inl q
        ·exact .inr (List.mem_append_left _ q)
      ·rw [(pz.map (·.1)).mem_iff,List.map_cons,List.mem_cons,bth.keys k,List.map_append,List.mem_append,List.map_cons,List.map_nil,List.mem_singleton]
       constructor
       ·rintro (q | q | q)
        ·exact .inr (.inr q)
        ·exact .inl q
        ·exact .inr (.inl q)
       ·rintro (q | q | q)
        ·exact .inr (.inl q)
        ·exact .inr (.inr q)
        ·exact .inl q
    ·by_cases c:ys'[i].1 ∈ zs.map (·.1)
     ·rw [hin c]; omega
     ·rw [(hnin c).length_eq,List.length_cons]; omega
   ·rintro b' s' ⟨h',i,zs,rfl,hr,hi,hs',hSz,bth,zl⟩
    have hin:i = ys'.length:=by
     rcases Nat.lt_or_ge i ys'.length with q | q
     ·rw [List.drop_eq_getElem_cons q,List.map_cons] at hr; cases hr
     ·omega
    subst hin
    rw [List.take_length] at bth
    exact ⟨h',zs,rfl,hs',hSz,bth⟩
   ·rintro _ s' ⟨h',zs,rfl,hs',hSz,bth⟩
    refine wpAny_pure ?_
    exact h h' d1 zs hs' hSz ⟨fun z hz=>(bth.from_ z hz).imp id fun q=>py.mem_iff.mp q,fun k=>by rw [bth.keys k,(py.map (·.1)).mem_iff]⟩
end
theorem yn6:entryFor table "set.__or__" = some Builtin.«frozenset.__or__» :=
 entryFor_alias (id':="frozenset.__or__") (by kernel_rfl) rfl (by decide +kernel) (by kernel_rfl)
theorem xx3 {α:Type} [DecidableEq α]:∀ {l m:List α},l.Nodup -> (∀ x ∈ l,x ∈ m) -> l.length <= m.length
 | [],m,_,_=>Nat.zero_le _
 | x :: l,m,hn,hs=>by
  rw [List.nodup_cons] at hn
  have hx:=hs x (by simp)
  have:=xx3 (l:=l) (m:=m.erase x) hn.2 fun y hy=>(List.mem_erase_of_ne (fun e=>hn.1 (by rw [<- e]; exact hy))).mpr (hs y (by simp [hy]))
  rw [List.length_erase_of_mem hx] at this
  have:=List.length_pos_of_mem hx
  simp only [List.length_cons]
  omega
section
variable {prog:Program} {w:World} {K:Type} [DecidableEq K] {kn:KeyKind prog w K} {A:Around} {E:Value -> Shared -> Prop} {s:Shared}
theorem xd1.typeIs {a:Addr} {xs:List (List K × Addr)} (h:xd1 kn s.heap a xs):s.TypeIs (.ref a) "set":=let ⟨o,_,_,_,ho,hx,_⟩:=h; ⟨o,ho,hx.1⟩
theorem isSet {a:Addr} {Q:Bool -> Shared -> Prop} (hT:s.TypeIs (.ref a) "set") (h:Q true s):wpAny (model prog w) A (Builtin.Frozenset.isAnySet (.ref a)) Q E s:=by
 unfold Builtin.Frozenset.isAnySet
 have h1:=sub_set_self
 wp_walk
 exact h
theorem yw3 {h h':Heap} {a:Addr} {xs:List (List K × Addr)} (k:∀ b o,h.get? b = some o -> h'.get? b = some o) (hs:xd1 kn h a xs):xd1 kn h' a xs:=by
 obtain ⟨o,es,ep,t,h1,h2,h3,S,h5⟩:=hs
 refine ⟨o,es,ep,t,k _ _ h1,h2,h3,⟨S.es,fun x hx=>?_,S.nd,S.tab,S.cap⟩,h5⟩
 obtain ⟨o',it,n,a1,a2⟩:=S.is x hx
 exact ⟨o',it,n,k _ _ a1,a2⟩
theorem yw1 {h h':Heap} {a:Addr} (k:∀ b o,h.get? b = some o -> h'.get? b = some o) (hs:xo1 h a):xo1 h' a:=by
 obtain ⟨o',it,n,a1,a2⟩:=hs
 exact ⟨o',it,n,k _ _ a1,a2⟩
theorem yn3 {h:Heap} {a:Addr} {led:Bool} (hled:led = !(w.params.followText "set-order")) (e:h.get? a = some (xc2 led)):xd1 kn h a [] :=
 ⟨_,_,_,_,e,⟨rfl,rfl,rfl⟩,rfl,⟨rfl,fun x hx=>by simp at hx,List.nodup_nil,Tab.fresh 0 0 led,by show 0 * 5 < 7 * 3; decide⟩,Or.inl (Nat.zero_le 1),hled⟩
theorem new_set {Q:Value -> Shared -> Prop} (h:∀ led:Bool,led = (!(w.params.followText "set-order")) -> Q (.ref s.heap.objs.size) { s with heap:=s.heap.push (xc2 led) }):wpAny (model prog w) A (newSet (.type "set")) Q E s:=by
 unfold newSet setsByText
 refine wpAny_bind (wpAny_bind (wpAny_askSetting (wpAny_pure ?_))); dsimp only
 simp only [newObj]
 exact wpAny_bind (wpAny_alloc (wpAny_pure (h _ rfl)))
theorem xu0 {h h' h0:Heap} {a:Addr} (k:∀ b o,h0.get? b = some o -> h.get? b = some o) (hn:h0.get? a = none) (sb:Heap.SameBut a h h'):∀ b o,h0.get? b = some o -> h'.get? b = some o:=fun b o e=>by
 have ne:b ≠ a:=by rintro rfl; rw [hn] at e; cases e
 exact (sb.2 b ne).trans (k b o e)
theorem xm8 (h:Heap):h.get? h.objs.size = none:=by
 cases e:h.get? h.objs.size with
 | none=>rfl
 | some o=>exact (Nat.lt_irrefl _ (Heap.lt_size e)).elim
theorem set_copy {l:Addr} {xs:List (List K × Addr)} {Q:Value -> Shared -> Prop} (hu:A.units < cLine) (hl:xd1 kn s.heap l xs) (htx:∀ y ∈ xs,xo1 s.heap y.2) (hn:xs.length <= 36)
  (h:∀ h' d' zs,(∀ b o,s.heap.get? b = some o -> h'.get? b = some o) -> xd1 kn h' s.heap.objs.size zs -> Both zs [] xs -> Q (.ref s.heap.objs.size) { s with heap:=h',drawn:=d' }) :
  wpAny (model prog w) A (Builtin.Frozenset.copyOf l) Q E s:=by
 have hT:=hl.typeIs
 unfold Builtin.Frozenset.copyOf Builtin.Frozenset.baseOf
 refine wpAny_bind (wpAny_bind (wpAny_isInstance hT sub_set_self ?_))
 simp only [if_true]
 refine wpAny_pure ?_
 refine wpAny_bind (new_set fun led hled=>?_)
 have k0:∀ b o,s.heap.get? b = some o -> (s.heap.push (xc2 led)).get? b = some o:=fun b o e=>Heap.get?_push_of_some _ e
 have hS:(s.heap.push (xc2 led)).get? s.heap.objs.size = some (xc2 led):=Heap.get?_push_size _ rfl
 show wpAny _ _ (pure s.heap.objs.size >>= _) _ _ _
 refine wpAny_bind (wpAny_pure ?_); have hll:l < s.heap.objs.size:=by obtain ⟨o,_,_,_,ho,_⟩:=hl; exact Heap.lt_size ho
 refine wpAny_bind (yl3 (s:={ s with heap:=s.heap.push (xc2 led) }) (xs:=[]) hu (yn3 hled hS) (yw3 k0 hl) (Nat.ne_of_gt hll) (fun y hy=>yw1 k0 (htx y hy)) (by simpa using hn) (fun s' R _ hR=>wpAny_pure hR) fun h' d' zs sb hz bth=>wpAny_pure ?_)
 exact h h' d' zs (xu0 k0 (xm8 _) sb) hz bth
theorem yy2 {a r:Addr} {xs ys:List (List K × Addr)} {id:String} {Q:Unit -> Shared -> Prop} (hu:A.units < cLine) (ha:xd1 kn s.heap a xs) (hr:xd1 kn s.heap r ys) (har:a ≠ r) (hty:∀ y ∈ ys,xo1 s.heap y.2) (hn:xs.length + ys.length <= 36)
  (h:∀ h' d' zs,Heap.SameBut a s.heap h' -> xd1 kn h' a zs -> Both zs xs ys -> Q () { s with heap:=h',drawn:=d' }) :
  wpAny (model prog w) A (Builtin.Frozenset.updateFrom id a (.ref r)) Q E s:=by
 unfold Builtin.Frozenset.updateFrom
 refine wpAny_bind (isSet hr.typeIs ?_)
 simp only [if_true]
 show wpAny _ _ (pure r >>= _) _ _ _
 refine wpAny_bind (wpAny_pure ?_); unfold Builtin.Frozenset.merge
 have hr2:=hr
 obtain ⟨o,es,ep,t,ho,hx,hd,S,hp⟩:=hr2
 refine wpAny_bind (wpAny_setEpoch_of ho hd S.fits ?_)
 refine yl3 hu ha hr har hty hn (fun s' R e hR=>?_) h
 unfold Builtin.Frozenset.unchanged
 refine wpAny_bind (wpAny_setEpoch_of (e.trans ho) hd S.fits ?_)
 rw [if_neg (by simp)]
 exact wpAny_pure hR
theorem ze0 {l r:Addr} {xs ys:List (List K × Addr)} {Q:Value -> Shared -> Prop} (hu:A.units + 8 < cLine) (hl:xd1 kn s.heap l xs) (hr:xd1 kn s.heap r ys) (hlr:l ≠ r) (htx:∀ y ∈ xs,xo1 s.heap y.2) (hty:∀ y ∈ ys,xo1 s.heap y.2) (hn:xs.length + ys.length <= 36)
  (h:∀ h' d' zs,(∀ b o,s.heap.get? b = some o -> h'.get? b = some o) -> xd1 kn h' s.heap.objs.size zs -> Both zs xs ys -> Q (.ref s.heap.objs.size) { s with heap:=h',drawn:=d' }) :
  wpAny (model prog w) A (binaryOp .BitOr (.ref l) (.ref r)) Q E s:=by
 have hTl:=hl.typeIs
 have hTr:=hr.typeIs
 refine wpAny_binaryOp_same (T:="set") (op:=.BitOr) hTl hTr PySem.F.fills_set_or PySem.F.slot_set_or (wpAny_call_entry PySem.F.slot_set_or hTl yn6 ?_ (PySem.F.args_set_or_2 _ _))
 show wpAny _ _ (Builtin.Frozenset.slot1 "__or__" ⟨[.ref l,.ref r],[]⟩ >>= _) _ _ _
 unfold Builtin.Frozenset.slot1 slotArgs
 simp only [List.isEmpty_nil,Bool.not_true,Bool.false_eq_true,↓reduceIte,bind_assoc,List.length_cons,List.length_nil,Nat.zero_add,bne_self_eq_false]
 refine wpAny_bind (wpAny_pure ?_); dsimp only
 refine wpAny_bind (wpAny_pure ?_); dsimp only
 refine wpAny_bind ?_
 unfold andM
 refine wpAny_bind (isSet hTl ?_)
 show wpAny _ _ (Builtin.Frozenset.isAnySet (.ref r)) _ _ _
 refine isSet hTr ?_
 simp only [Bool.not_true,Bool.false_eq_true,if_false]; show wpAny _ _ (pure l >>= _) _ _ _
 refine wpAny_bind (wpAny_pure ?_); refine wpAny_bind ?_
 show wpAny _ _ (Builtin.Frozenset.copyOf l >>= _) _ _ _
 have hu1:A.in1.units < cLine:=by rw [Around.in1_units]; omega
 refine wpAny_bind (set_copy hu1 hl htx (by omega) fun h1 d1 zs k1 hz bz=>?_)
 have hr1:=yw3 k1 hr
 have hrl:r < s.heap.objs.size:=by obtain ⟨o,_,_,_,ho,_⟩:=hr; exact Heap.lt_size ho
 have zl:zs.length <= xs.length:=by
  have:=hz
  obtain ⟨_,_,_,_,_,_,_,Sz,_⟩:=hz
  have nd:=Sz.nd
  have:(zs.map (·.1)).length <= (xs.map (·.1)).length:=xx3 nd fun k hk=>by simpa using (bz.keys k).mp hk
  simpa using this
 rw [if_pos (by
  have:r ≠ l:=Ne.symm hlr
  simpa using this)]
 show wpAny _ _ (pure s.heap.objs.size >>= _) _ _ _
 refine wpAny_bind (wpAny_pure ?_); refine wpAny_bind (wpAny_holding (yy2 (s:={ s with heap:=h1,drawn:=d1 }) hu1 hz hr1 (Nat.ne_of_gt hrl) (fun y hy=>yw1 k1 (hty y hy)) (by omega) fun h2 d2 ws sb hw bw=>wpAny_pure ?_))
 refine wpAny_pure ⟨_,rfl,(by intro z; cases z),h h2 d2 ws (xu0 k1 (xm8 _) sb) hw ⟨fun z hz'=>?_,fun k=>?_⟩⟩
 ·rcases bw.from_ z hz' with q | q
  ·rcases bz.from_ z q with q | q
   ·simp at q
   ·exact .inl q
  ·exact .inr q
 ·rw [bw.keys k,bz.keys k]
  simp
end
theorem xc6:Slot "set_iterator" "__next__" "set_iterator.__next__" :=
 .of (owner:="set_iterator") (n:="__next__") (by rw [typeLookup_type,builtinLookup_eq_fast]; kernel_rfl) (by decide +kernel) (by decide +kernel) (by decide +kernel) (by first | exact .inl (by decide +kernel) | exact .inr (by decide +kernel)) (by rw [isSubtype_type]; kernel_rfl)
theorem xj3:entryFor table "set_iterator.__next__" = some Builtin.«set_iterator.__next__»:=entryFor_of_tree (by kernel_rfl)
theorem xk2 (a:Value):argsOk "set_iterator.__next__" ⟨[a],[]⟩:=by
 unfold argsOk
 first | kernel_rfl | decide +kernel | (simp only []; kernel_rfl)
theorem xr5:Slot "set_iterator" "__iter__" "set_iterator.__iter__" :=
 .of (owner:="set_iterator") (n:="__iter__") (by rw [typeLookup_type,builtinLookup_eq_fast]; kernel_rfl) (by decide +kernel) (by decide +kernel) (by decide +kernel) (by first | exact .inl (by decide +kernel) | exact .inr (by decide +kernel)) (by rw [isSubtype_type]; kernel_rfl)
theorem yd3:entryFor table "set_iterator.__iter__" = some Builtin.«dict_keyiterator.__iter__»:=entryFor_alias (id':="dict_keyiterator.__iter__") (by kernel_rfl) rfl (by decide +kernel) (by kernel_rfl)
theorem yj6 (a:Value):argsOk "set_iterator.__iter__" ⟨[a],[]⟩:=by
 unfold argsOk
 first | kernel_rfl | decide +kernel | (simp only []; kernel_rfl)
abbrev xs8 (first:Value) (i:Nat) (S:Addr) (n ep:Nat):Obj:={ cls:=.type "set_iterator",data:=.fields #[first,.int i 0,.ref S,.int n 0,.int ep 0] }
section
variable {w:World} {prog:Program} {A:Around} {E:Value -> Shared -> Prop} {s:Shared}
theorem zi7 {h:Heap} {first:Value} {I S:Addr} {i n ep:Nat} (hI:h.get? I = some (xs8 first i S n ep)):(h.update I (Obj.mapFields fun x=>x.setIfInBounds 1 (rawInt (↑i + 1)))).get? I = some (xs8 first (i + 1) S n ep):=by
 refine (Heap.get?_update_self _ hI (Obj.isFreed_of_fields (Obj.data_mapFields rfl _))).trans ?_
 simp [Obj.mapFields,rawInt]
theorem yz7 {I S T:Addr} {o oT:Obj} {es:Array (Int × Value)} {ep i n place:Nat} {t:SetTable} {items:Array Value} {nn:Nat} {x:Value} {hx:Int} {Q:Option Value -> Shared -> Prop} (hI:s.heap.get? I = some (xs8 (.ref T) i S n ep)) (hS:s.heap.get? S = some o) (hd:o.data = .set es ep t) (hf:t.fits es.size = true) (hn:es.size = n)
  (hT:s.heap.get? T = some oT) (hTd:oT.data = .seq items nn) (hit:items[i]? = some (.int place 0)) (hp:es[place]? = some (hx,x))
  (h:∀ h',h'.get? I = some (xs8 (.ref T) (i + 1) S n ep) -> Heap.SameBut I s.heap h' -> Q (some x) { s with heap:=h' }):wpAny (model prog w) A (pyNext (.ref I)) Q E s:=by
 have hTy:s.TypeIs (.ref I) "set_iterator":=⟨_,hI,rfl⟩
 unfold pyNext
 refine wpAny_bind (wpAny_attempt (wpAny_callSpecial?_slot (name:=Str.ofString "__next__") hTy xc6 (wpAny_call_entry xc6 hTy xj3 ?_ (xk2 _))))
 unfold Builtin.«set_iterator.__next__» slotArgs
 simp only [List.isEmpty_nil,Bool.not_true,Bool.false_eq_true,↓reduceIte,bind_assoc,List.length_nil,bne_self_eq_false]; refine wpAny_bind (wpAny_pure ?_)
 dsimp only
 refine wpAny_bind (wpAny_fieldsOf hI rfl ?_)
 dsimp only
 refine wpAny_bind (wpAny_setEntries_of hS hd hf ?_)
 rw [if_neg (by rw [hn]; simp)]
 refine wpAny_bind (wpAny_seqItems hT hTd ?_)
 simp only [Int.toNat_natCast,hit]
 unfold setNextDrawn
 refine wpAny_bind (wpAny_bind (wpAny_setState_of hS hd hf ?_))
 dsimp only
 rw [if_neg (by simp),hp]
 dsimp only
 refine wpAny_pure ?_
 refine wpAny_bind (wpAny_setField hI rfl (by simp) (wpAny_pure ⟨x,rfl,wpAny_pure (h _ ?_ (Heap.SameBut.update ..))⟩))
 exact zi7 hI
theorem yd9 {I S:Addr} {o:Obj} {es:Array (Int × Value)} {ep i n:Nat} {t:SetTable} {slot:Int} {x:Value} {next:Nat} {tk:Tok} {Q:Option Value -> Shared -> Prop} (hI:s.heap.get? I = some (xs8 (.int slot tk) i S n ep)) (hS:s.heap.get? S = some o) (hd:o.data = .set es ep t) (hf:t.fits es.size = true) (hn:es.size = n)
  (hnext:∀ (R:Option (Value × Nat) -> Shared -> Prop) (E':Value -> Shared -> Prop),R (some (x,next)) s -> wpAny (model prog w) A.in1 (setNext S slot.toNat i ep) R E' s)
  (h:∀ h',h'.get? I = some (xs8 (.int next 0) (i + 1) S n ep) -> Heap.SameBut I s.heap h' -> Q (some x) { s with heap:=h' }):wpAny (model prog w) A (pyNext (.ref I)) Q E s:=by
 have hTy:s.TypeIs (.ref I) "set_iterator":=⟨_,hI,rfl⟩
 unfold pyNext
 refine wpAny_bind (wpAny_attempt (wpAny_callSpecial?_slot (name:=Str.ofString "__next__") hTy xc6 (wpAny_call_entry xc6 hTy xj3 ?_ (xk2 _))))
 unfold Builtin.«set_iterator.__next__» slotArgs
 simp only [List.isEmpty_nil,Bool.not_true,Bool.false_eq_true,↓reduceIte,bind_assoc,List.length_nil,bne_self_eq_false]; refine wpAny_bind (wpAny_pure ?_)
 dsimp only
 refine wpAny_bind (wpAny_fieldsOf hI rfl ?_)
 dsimp only
 refine wpAny_bind (wpAny_setEntries_of hS hd hf ?_)
 rw [if_neg (by rw [hn]; simp)]
 simp only [Int.toNat_natCast]
 refine wpAny_bind (hnext _ _ ?_)
 dsimp only
 refine wpAny_bind (wpAny_setField hI rfl (by simp) ?_)
 have hI1:(s.heap.update I (Obj.mapFields fun x=>x.setIfInBounds 0 (rawInt ↑next))).get? I = some (xs8 (.int next 0) i S n ep):=by
  refine (Heap.get?_update_self _ hI (Obj.isFreed_of_fields (Obj.data_mapFields rfl _))).trans ?_
  simp [Obj.mapFields,rawInt]
 have sb1:=Heap.SameBut.update s.heap I (Obj.mapFields fun x=>x.setIfInBounds 0 (rawInt ↑next))
 generalize s.heap.update I (Obj.mapFields fun x=>x.setIfInBounds 0 (rawInt ↑next)) = h1 at hI1 sb1 ⊢
 exact wpAny_bind (wpAny_setField (s:={ s with heap:=h1 }) hI1 rfl (by simp) (wpAny_pure ⟨x,rfl,wpAny_pure (h _ (zi7 hI1) (sb1.trans (Heap.SameBut.update ..)))⟩))
theorem zi6 {I S:Addr} {first:Value} {i n ep:Nat} {R:PySem.Fin -> Shared -> Prop} {Q:Option Value -> Shared -> Prop} (hh:A.handled = none) (hI:s.heap.get? I = some (xs8 first i S n ep)) (h:∀ h',Heap.ExtBut I s.heap h' -> Q none { s with heap:=h' }) :
  wpAny (model prog w) A.in1 (do
    setField (Value.ref I) 2 Value.none
    let e <- newExc (Value.type "StopIteration") []
    raiseNew e) R (fun e s'=>wpAny (model prog w) A (do
     let b <- isInstance e (Value.type "StopIteration")
     if b = true then pure none else throw e) Q E s') s:=by
 refine wpAny_bind (wpAny_setField hI rfl (by simp) ?_)
 refine wpAny_bind ?_
 simp only [newTuple,newExc]
 refine wpAny_bind (wpAny_newObj_type ?_ (by size_fits)); have none1:firstArgMember (.type "StopIteration") [] = pure Value.none:=by first | rfl | (simp only [firstArgMember]; rfl)
 refine wpAny_bind (wpAny_of_eq none1 ?_)
 refine wpAny_newObj_type ?_ (by size_fits); simp only [raiseNew]
 refine wpAny_bind (wpAny_handled ?_); rw [show A.in1.handled = none from hh]
 refine wpAny_bind (wpAny_pure (wpAny_throw ?_)); have isStop:=isSubtype_stop
 refine wpAny_bind (wpAny_isInstance ⟨_,Heap.get?_push_size _ rfl,rfl⟩ isStop ?_)
 exact wpAny_pure (h _ (((Heap.SameBut.update ..).extBut.push _).push _))
theorem zk3 {I S T:Addr} {o oT:Obj} {es:Array (Int × Value)} {ep i n:Nat} {t:SetTable} {items:Array Value} {nn:Nat} {Q:Option Value -> Shared -> Prop} (hh:A.handled = none) (hI:s.heap.get? I = some (xs8 (.ref T) i S n ep)) (hS:s.heap.get? S = some o) (hd:o.data = .set es ep t) (hf:t.fits es.size = true) (hn:es.size = n)
  (hT:s.heap.get? T = some oT) (hTd:oT.data = .seq items nn) (hit:items[i]? = none)
  (h:∀ h',Heap.ExtBut I s.heap h' -> Q none { s with heap:=h' }):wpAny (model prog w) A (pyNext (.ref I)) Q E s:=by
 have hTy:s.TypeIs (.ref I) "set_iterator":=⟨_,hI,rfl⟩
 unfold pyNext
 refine wpAny_bind (wpAny_attempt (wpAny_callSpecial?_slot (name:=Str.ofString "__next__") hTy xc6 (wpAny_call_entry xc6 hTy xj3 ?_ (xk2 _))))
 unfold Builtin.«set_iterator.__next__» slotArgs
 simp only [List.isEmpty_nil,Bool.not_true,Bool.false_eq_true,↓reduceIte,bind_assoc,List.length_nil,bne_self_eq_false]; refine wpAny_bind (wpAny_pure ?_)
 dsimp only
 refine wpAny_bind (wpAny_fieldsOf hI rfl ?_)
 dsimp only
 refine wpAny_bind (wpAny_setEntries_of hS hd hf ?_)
 rw [if_neg (by rw [hn]; simp)]
 refine wpAny_bind (wpAny_seqItems hT hTd ?_)
 simp only [Int.toNat_natCast,hit]
 refine wpAny_bind (wpAny_setField hI rfl (by simp) ?_)
 have hI1:(s.heap.update I (Obj.mapFields fun x=>x.setIfInBounds 0 (rawInt 0))).get? I = some (xs8 (.int 0 0) i S n ep):=by
  refine (Heap.get?_update_self _ hI (Obj.isFreed_of_fields (Obj.data_mapFields rfl _))).trans ?_
  simp [Obj.mapFields,rawInt]
 have sb1:=Heap.SameBut.update s.heap I (Obj.mapFields fun x=>x.setIfInBounds 0 (rawInt 0))
 generalize s.heap.update I (Obj.mapFields fun x=>x.setIfInBounds 0 (rawInt 0)) = h1 at hI1 sb1 ⊢
 exact zi6 (s:={ s with heap:=h1 }) hh hI1 fun h' e=>h h' (sb1.extBut.trans e)
theorem yn7 {I S:Addr} {o:Obj} {es:Array (Int × Value)} {ep i n:Nat} {t:SetTable} {slot:Int} {tk:Tok} {Q:Option Value -> Shared -> Prop} (hh:A.handled = none) (hI:s.heap.get? I = some (xs8 (.int slot tk) i S n ep)) (hS:s.heap.get? S = some o) (hd:o.data = .set es ep t) (hf:t.fits es.size = true) (hn:es.size = n)
  (hnext:∀ (R:Option (Value × Nat) -> Shared -> Prop) (E':Value -> Shared -> Prop),R none s -> wpAny (model prog w) A.in1 (setNext S slot.toNat i ep) R E' s)
  (h:∀ h',Heap.ExtBut I s.heap h' -> Q none { s with heap:=h' }):wpAny (model prog w) A (pyNext (.ref I)) Q E s:=by
 have hTy:s.TypeIs (.ref I) "set_iterator":=⟨_,hI,rfl⟩
 unfold pyNext
 refine wpAny_bind (wpAny_attempt (wpAny_callSpecial?_slot (name:=Str.ofString "__next__") hTy xc6 (wpAny_call_entry xc6 hTy xj3 ?_ (xk2 _))))
 unfold Builtin.«set_iterator.__next__» slotArgs
 simp only [List.isEmpty_nil,Bool.not_true,Bool.false_eq_true,↓reduceIte,bind_assoc,List.length_nil,bne_self_eq_false]; refine wpAny_bind (wpAny_pure ?_)
 dsimp only
 refine wpAny_bind (wpAny_fieldsOf hI rfl ?_)
 dsimp only
 refine wpAny_bind (wpAny_setEntries_of hS hd hf ?_)
 rw [if_neg (by rw [hn]; simp)]
 simp only [Int.toNat_natCast]
 refine wpAny_bind (hnext _ _ ?_)
 dsimp only
 exact zi6 hh hI h
def Way3 (w:World) (S T:Addr) (es:Array (Int × Value)) (ep:Nat) (t:SetTable) (vs:List Value) (i:Nat) (first:Value) (h:Heap):Prop :=
 (∃ (oT:Obj) (items:Array Value) (nn:Nat),first = .ref T /\ h.get? T = some oT /\ oT.data = .seq items nn /\ items.size = vs.length /\ ∀ (j:Nat) (x:Value),vs[j]? = some x -> ∃ (place:Nat) (hx:Int),items[j]? = some (Value.int (place:Int) 0) /\ es[place]? = some (hx,x)) \/
 (w.params.followText "set-order" = true /\ (∃ (k:Nat),first = .int k 0) /\ vs = (pickOrder (w.params.setOrder S ep) es).toList.map (·.2)) \/
 (w.params.followText "set-order" = false /\ t.led = true /\ es.size <= 1 /\ vs = es.toList.map (·.2) /\ ∃ (k:Nat),first = .int k 0 /\ (i = 0 -> k = 0) /\ ∀ j,t.place.toList[0]? = some j -> 0 < i -> j < k)
structure ItSt (w:World) (I S T:Addr) (o:Obj) (es:Array (Int × Value)) (ep:Nat) (t:SetTable) (vs:List Value) (i:Nat) (h:Heap):Prop where
 at_:∃ first,h.get? I = some (xs8 first i S es.size ep) /\ Way3 w S T es ep t vs i first h
 set:h.get? S = some o
theorem yd8 {S:Addr} {o:Obj} {es:Array (Int × Value)} {ep:Nat} {t:SetTable} {k i:Nat} {R:Option (Value × Nat) -> Shared -> Prop} (hS:s.heap.get? S = some o) (hd:o.data = .set es ep t) (hf:t.fits es.size = true) (hb:w.params.followText "set-order" = false) (hled:t.led = true) (h1:es.size <= 1)
  (h:R (match es[SetTable.below t.place k]?,t.place[SetTable.below t.place k]? with | some (_,x),some j=>some (x,j + 1) | _,_=>none) s):wpAny (model prog w) A (setNext S k i ep) R E s:=by
 unfold setNext setsByText
 refine wpAny_bind (wpAny_setState_of hS hd hf ?_)
 dsimp only
 refine wpAny_bind (wpAny_bind (wpAny_askSetting (wpAny_pure ?_))); rw [if_neg (by show ¬ w.params.followText "set-order" = true; rw [hb]; decide)]
 show wpAny _ _ (if (!t.plain && decide (es.size > 1)) = true then _ else _) _ _ _
 rw [if_neg (by simp; omega)]
 show wpAny _ _ ((if (!t.led && !es.isEmpty) = true then (unsupported "set:maker-not-led" : Sem Unit) else pure ()) >>= _) _ _ _
 rw [if_neg (by rw [hled]; simp)]
 refine wpAny_bind (wpAny_pure ?_); exact wpAny_pure h
theorem yk3 {S:Addr} {o:Obj} {es:Array (Int × Value)} {ep:Nat} {t:SetTable} {k i:Nat} {R:Option (Value × Nat) -> Shared -> Prop} (hS:s.heap.get? S = some o) (hd:o.data = .set es ep t) (hf:t.fits es.size = true) (hb:w.params.followText "set-order" = true)
  (h:R (((pickOrder (w.params.setOrder S ep) es)[i]?).map fun e=>(e.2,k)) s):wpAny (model prog w) A (setNext S k i ep) R E s:=by
 unfold setNext setsByText
 refine wpAny_bind (wpAny_setState_of hS hd hf ?_)
 dsimp only
 refine wpAny_bind (wpAny_bind (wpAny_askSetting (wpAny_pure ?_))); rw [if_pos (by exact hb),if_neg (by simp)]
 unfold setWalk setsByText
 refine wpAny_bind (wpAny_bind (wpAny_setState_of hS hd hf ?_))
 dsimp only
 refine wpAny_bind (wpAny_bind (wpAny_askSetting (wpAny_pure ?_))); rw [if_pos (by exact hb)]
 refine wpAny_bind (wpAny_askSetting (wpAny_pure ?_))
 exact wpAny_pure h
theorem walk_set {I S T:Addr} {o:Obj} {es:Array (Int × Value)} {ep:Nat} {t:SetTable} {vs:List Value} {fp:List Addr} (hh:A.handled = none) (hd:o.data = .set es ep t) (hf:t.fits es.size = true) (hvl:vs.length = es.size) (hIS:S ≠ I) (hpw:es.size <= 1 -> t.place.toList.Pairwise (· < ·)) (hIf:I ∈ fp) (hSf:S ∈ fp) (hTf:T ∈ fp) (hTI:T ≠ I) :
  WalksS prog w A I fp [I] (fun a b=>b = a) vs.length (fun i v=>vs[i]? = some v) (fun i s=>ItSt w I S T o es ep t vs i s.heap) where
 sub:=fun b hb=>by rw [List.mem_singleton.mp hb]; exact hIf
 grefl:=fun _=>rfl; gtrans:=fun _ _ _ h1 h2=>h2.trans h1
 frame:=fun i s h' tk st _ hk=>by
  obtain ⟨⟨first,h1,h2⟩,h3⟩:=st
  refine ⟨⟨first,hk I hIf _ h1,?_⟩,hk S hSf _ h3⟩
  rcases h2 with ⟨oT,items,nn,rfl,e1,e2⟩ | q | q
  ·exact .inl ⟨oT,items,nn,rfl,hk T hTf _ e1,e2⟩
  ·exact .inr (.inl q)
  ·exact .inr (.inr q)
 item:=fun i s Q E hi st (hQ)=>by
  obtain ⟨⟨first,hI,hw⟩,hS⟩:=st
  have hv:vs[i]? = some vs[i]:=List.getElem?_eq_getElem hi
  have mv:∀ h',Heap.SameBut I s.heap h' -> Moved [I] (fun a b=>b = a) s { s with heap:=h' }:=fun h' sb=>⟨fun b ob hb e=>(sb.2 b (fun z=>hb (by simp [z]))).trans e,rfl,rfl,rfl,Nat.le_refl _⟩
  rcases hw with ⟨oT,items,nn,rfl,e1,e2,e3,e4⟩ | ⟨hb,⟨k,rfl⟩,rfl⟩ | ⟨hb,hled,h1,rfl,k,rfl,hk0,hk1⟩
  ·obtain ⟨place,hx,p1,p2⟩:=e4 i _ hv
   refine yz7 hI hS hd hf rfl e1 e2 p1 p2 fun h' hI' sb=>hQ _ _ hv ⟨⟨_,hI',.inl ⟨oT,items,nn,rfl,(sb.2 T hTI).trans e1,e2,e3,e4⟩⟩,(sb.2 S hIS).trans hS⟩ (mv h' sb)
  ·have hv2:(pickOrder (w.params.setOrder S ep) es)[i]?.map (fun e=>(e.2,k)) = some (((pickOrder (w.params.setOrder S ep) es).toList.map (·.2))[i],k):=by
    rw [List.getElem?_map,Array.getElem?_toList] at hv
    cases q:(pickOrder (w.params.setOrder S ep) es)[i]? with
    | none=>rw [q] at hv; cases hv
    | some e=>rw [q] at hv; simp at hv; simp [hv]
   refine yd9 hI hS hd hf rfl (x:=((pickOrder (w.params.setOrder S ep) es).toList.map (·.2))[i]) (next:=k) (fun R E' r=>yk3 hS hd hf hb (by rw [Int.toNat_natCast,hv2]; exact r)) fun h' hI' sb=>hQ _ _ hv ⟨⟨_,hI',.inr (.inl ⟨hb,⟨k,rfl⟩,rfl⟩)⟩,(sb.2 S hIS).trans hS⟩ (mv h' sb)
  ·simp only [List.length_map,Array.length_toList] at hi
   have i0:i = 0:=by omega
   subst i0
   have k0:=hk0 rfl
   subst k0
   have hfit:=hf
   unfold SetTable.fits at hfit
   simp only [Bool.and_eq_true,beq_iff_eq,decide_eq_true_eq] at hfit
   obtain ⟨j,hj⟩:∃ j,t.place.toList[0]? = some j:=⟨_,List.getElem?_eq_getElem (by simp; omega)⟩
   have hb0:SetTable.below t.place 0 = 0:=by
    obtain ⟨_,l2,_⟩:=xx6 (hpw h1) 0
    apply Classical.byContradiction
    intro z
    have:=l2 0 j (by omega) hj
    omega
   have hj':t.place[0]? = some j:=by rw [<- Array.getElem?_toList]; exact hj
   obtain ⟨e,he⟩:∃ e,es[0]? = some e:=⟨_,Array.getElem?_eq_getElem hi⟩
   have hve:(es.toList.map (·.2))[0]? = some e.2:=by rw [List.getElem?_map,Array.getElem?_toList,he]; rfl
   refine yd9 hI hS hd hf rfl (x:=e.2) (next:=j + 1) (fun R E' r=>yd8 hS hd hf hb hled h1 (by rw [Int.toNat_natCast,hb0,he,hj']; exact r)) fun h' hI' sb=>hQ _ _ hve ⟨⟨_,hI',.inr (.inr ⟨hb,hled,h1,rfl,j + 1,rfl,fun z=>by omega,fun j' hj2 _=>?_⟩)⟩,(sb.2 S hIS).trans hS⟩ (mv h' sb)
   rw [hj] at hj2
   cases hj2
   omega
 done:=fun s Q E st hQ=>by
  obtain ⟨⟨first,hI,hw⟩,hS⟩:=st
  have mv:∀ h',Heap.ExtBut I s.heap h' -> Moved [I] (fun a b=>b = a) s { s with heap:=h' }:=fun h' sb=>⟨fun b ob hb e=>sb b ob (fun z=>hb (by simp [z])) e,rfl,rfl,rfl,Nat.le_refl _⟩
  rcases hw with ⟨oT,items,nn,rfl,e1,e2,e3,e4⟩ | ⟨hb,⟨k,rfl⟩,hvs⟩ | ⟨hb,hled,h1,hvs,k,rfl,hk0,hk1⟩
  ·exact zk3 hh hI hS hd hf rfl e1 e2 (Array.getElem?_eq_none (by omega)) fun h' e=>hQ _ (mv h' e)
  ·refine yn7 hh hI hS hd hf rfl (fun R E' r=>yk3 hS hd hf hb ?_) fun h' e=>hQ _ (mv h' e)
   have:(pickOrder (w.params.setOrder S ep) es).size = vs.length:=by rw [hvs]; simp
   rw [Array.getElem?_eq_none (by omega)]
   exact r
  ·refine yn7 hh hI hS hd hf rfl (fun R E' r=>yd8 hS hd hf hb hled h1 ?_) fun h' e=>hQ _ (mv h' e)
   have hfit:=hf
   unfold SetTable.fits at hfit
   simp only [Bool.and_eq_true,beq_iff_eq,decide_eq_true_eq] at hfit
   have big:es.size <= SetTable.below t.place k:=by
    rcases Nat.eq_zero_or_pos es.size with z | z
    ·omega
    ·have one:es.size = 1:=by omega
     obtain ⟨j,hj⟩:∃ j,t.place.toList[0]? = some j:=⟨_,List.getElem?_eq_getElem (by simp; omega)⟩
     have lt:=hk1 j hj (by omega)
     obtain ⟨_,_,l3⟩:=xx6 (hpw h1) k
     apply Classical.byContradiction
     intro c
     have:=l3 0 j (by omega) hj
     omega
   rw [Int.toNat_natCast,Array.getElem?_eq_none big]
   exact r
 self:=fun i s Q E st hQ=>by
  obtain ⟨⟨first,hI,_⟩,_⟩:=st
  have hTy:s.TypeIs (.ref I) "set_iterator":=⟨_,hI,rfl⟩
  refine wpAny_pyIter_slot hTy xr5 (wpAny_call_entry xr5 hTy yd3 ?_ (yj6 _))
  show wpAny _ _ (ret (.ref I)) _ _ s
  exact wpAny_pure ⟨_,rfl,"set_iterator",_,hTy,xc6.lookup,hQ⟩
end
section
variable {prog:Program} {w:World} {K:Type} [DecidableEq K] {kn:KeyKind prog w K} {A:Around} {E:Value -> Shared -> Prop} {s:Shared}
theorem yd4:entryFor table "set.__iter__" = some Builtin.«frozenset.__iter__»:=entryFor_alias (id':="frozenset.__iter__") (by kernel_rfl) rfl (by decide +kernel) (by kernel_rfl)
theorem rel_list {α β:Type} {f:α -> β} {l:List α} {i:Nat} {y:β} (h:(l.map f)[i]? = some y):∃ x,l[i]? = some x /\ y = f x:=by
 rw [List.getElem?_map] at h
 obtain ⟨x,h1,h2⟩:=Option.map_eq_some_iff.mp h
 exact ⟨x,h1,h2.symm⟩
theorem fm_get {α β:Type} {f:α -> Option β}:∀ l:List α,(∀ k ∈ l,∃ y,f k = some y) -> (l.filterMap f).length = l.length /\ ∀ (j:Nat) (y:β),(l.filterMap f)[j]? = some y -> ∃ k,l[j]? = some k /\ f k = some y
 | [],_=>⟨rfl,fun j y h=>by simp at h⟩
 | a :: l,h=>by
  obtain ⟨y,hy⟩:=h a (by simp)
  obtain ⟨h1,h2⟩:=fm_get l fun k hk=>h k (by simp [hk])
  rw [List.filterMap_cons,hy]
  refine ⟨by rw [List.length_cons,List.length_cons,h1],fun j z hz=>?_⟩
  cases j with
  | zero=>simp at hz; subst hz; exact ⟨a,rfl,hy⟩
  | succ j =>
   rw [List.getElem?_cons_succ] at hz
   obtain ⟨k,q1,q2⟩:=h2 j z hz
   exact ⟨k,by simpa using q1,q2⟩
theorem iter_set {S:Addr} {o:Obj} {es:Array (Int × Value)} {ep:Nat} {t:SetTable} {Q:Value -> Shared -> Prop} (ho:s.heap.get? S = some o) (hex:o.ExactSet) (hd:o.data = .set es ep t) (hf:t.fits es.size = true) (hsz:es.size <= 1000) (hpl:yp6 w es.size t)
  (h:∀ h' d' I T vs,(∀ b ob,s.heap.get? b = some ob -> h'.get? b = some ob) -> s.heap.objs.size <= I -> I < h'.objs.size -> (T = S \/ s.heap.objs.size <= T) -> T ≠ I -> vs.Perm (es.toList.map (·.2)) -> ItSt w I S T o es ep t vs 0 h' -> Q (.ref I) { s with heap:=h',drawn:=d' }) :
  wpAny (model prog w) A (pyIter (.ref S)) Q E s:=by
 have hTy:s.TypeIs (.ref S) "set":=⟨o,ho,hex.1⟩
 have hlt:=Heap.lt_size ho
 refine wpAny_pyIter_slot hTy PySem.F.slot_set_iter (wpAny_call_entry PySem.F.slot_set_iter hTy yd4 ?_ (PySem.F.args_set_iter_1 _))
 unfold Builtin.«frozenset.__iter__» Builtin.Frozenset.slot0 slotArgs
 simp only [List.isEmpty_nil,Bool.not_true,Bool.false_eq_true,↓reduceIte,bind_assoc,List.length_nil,bne_self_eq_false]; refine wpAny_bind (wpAny_pure ?_)
 show wpAny _ _ (pure S >>= _) _ _ _
 refine wpAny_bind (wpAny_pure ?_); unfold Builtin.Frozenset.sizeOf
 refine wpAny_bind (wpAny_bind (wpAny_setEntries_of ho hd hf (wpAny_pure ?_)))
 unfold setDrawn setsByText
 refine wpAny_bind (wpAny_bind (wpAny_setState_of ho hd hf ?_))
 dsimp only
 refine wpAny_bind (wpAny_bind (wpAny_askSetting (wpAny_pure ?_))); refine wpAny_pure ?_
 show wpAny _ _ (if (!(w.params.followText "set-order") && (!t.plain && decide (es.size > 1))) = true then _ else _) _ _ _
 by_cases c:(!(w.params.followText "set-order") && (!t.plain && decide (es.size > 1))) = true
 ·rw [if_pos c]
  refine wpAny_bind (yb3 _ _ (by simp) fun order d' hp=>?_)
  simp only [newTuple]
  have hol:order.length = es.size:=by rw [hp.length_eq,List.length_range]
  obtain ⟨fm1,fm2⟩:=fm_get (f:=fun k=>(es.toList.map (·.2))[k]?) order fun k hk=>by
   have:=List.mem_range.mp (hp.mem_iff.mp hk)
   exact ⟨_,List.getElem?_eq_getElem (by simpa using this)⟩
  refine wpAny_bind (wpAny_newObj_type ?_ (by
   show (order.map _).toArray.size <= _
   rw [List.size_toArray,List.length_map,hol,sizeLine_eq]
   omega))
  generalize hob:({ cls:=Value.type "tuple",data:=Data.seq (order.map fun (i:Nat)=>rawInt ↑i).toArray }:Obj) = oT
  have hoT:(s.heap.push oT).get? s.heap.objs.size = some oT:=Heap.get?_push_size _ (by rw [<- hob]; rfl)
  have ho1:(s.heap.push oT).get? S = some o:=Heap.get?_push_of_some _ ho
  refine wpAny_bind (wpAny_setEpoch_of (s:={ s with heap:=s.heap.push oT,drawn:=d' }) ho1 hd hf ?_)
  refine wpAny_bind (wpAny_newObj_type ?_); generalize hoi:({ cls:=Value.type "set_iterator",data:=Data.fields [Value.ref s.heap.objs.size,rawInt 0,Value.ref S,rawInt ↑es.size,rawInt ↑ep].toArray }:Obj) = oI
  have hI:((s.heap.push oT).push oI).get? (s.heap.push oT).objs.size = some (xs8 (.ref s.heap.objs.size) 0 S es.size ep):=(Heap.get?_push_size _ (by rw [<- hoi]; rfl)).trans (by rw [<- hoi]; rfl)
  have hsz:(s.heap.push oT).objs.size = s.heap.objs.size + 1:=Heap.size_push _ _
  have hsz2:((s.heap.push oT).push oI).objs.size = s.heap.objs.size + 2:=by rw [Heap.size_push,hsz]
  refine wpAny_pure ⟨_,rfl,"set_iterator",_,⟨_,hI,rfl⟩,xc6.lookup,?_⟩
  refine h _ d' _ s.heap.objs.size (order.filterMap fun k=>(es.toList.map (·.2))[k]?) (fun b ob e=>Heap.get?_push_of_some _ (Heap.get?_push_of_some _ e)) (by rw [hsz]; exact Nat.le_succ _) (by rw [hsz2,hsz]; exact Nat.lt_succ_self _) (.inr (Nat.le_refl _)) (by rw [hsz]; exact Nat.ne_of_lt (Nat.lt_succ_self _)) ?_ ⟨⟨_,hI,.inl ⟨oT,_,0,rfl,Heap.get?_push_of_some _ hoT,by rw [<- hob],?_,?_⟩⟩,Heap.get?_push_of_some _ ho1⟩
  ·have:=hp.filterMap (fun k=>(es.toList.map (·.2))[k]?)
   refine this.trans ?_
   rw [show es.size = (es.toList.map (·.2)).length by simp,xy6]
  ·rw [List.size_toArray,List.length_map,fm1]
  ·intro j x hx
   obtain ⟨k,hk1,hk2⟩:=fm2 j x hx
   obtain ⟨e,he1,he2⟩:=rel_list hk2
   refine ⟨k,e.1,?_,?_⟩
   ·rw [<- Array.getElem?_toList,List.toList_toArray,List.getElem?_map,hk1]; rfl
   ·rw [<- Array.getElem?_toList,he1,he2]
 ·rw [if_neg c]
  refine wpAny_bind (wpAny_pure ?_); refine wpAny_bind (wpAny_setEpoch_of ho hd hf ?_)
  refine wpAny_bind (wpAny_newObj_type ?_); generalize hoi:({ cls:=Value.type "set_iterator",data:=Data.fields [rawInt 0,rawInt 0,Value.ref S,rawInt ↑es.size,rawInt ↑ep].toArray }:Obj) = oI
  have hI:(s.heap.push oI).get? s.heap.objs.size = some (xs8 (.int ((0:Nat):Int) 0) 0 S es.size ep):=(Heap.get?_push_size _ (by rw [<- hoi]; rfl)).trans (by rw [<- hoi]; rfl)
  refine wpAny_pure ⟨_,rfl,"set_iterator",_,⟨_,hI,rfl⟩,xc6.lookup,?_⟩
  have hS1:(s.heap.push oI).get? S = some o:=Heap.get?_push_of_some _ ho
  have hsz:(s.heap.push oI).objs.size = s.heap.objs.size + 1:=Heap.size_push _ _
  have keep:∀ b ob,s.heap.get? b = some ob -> (s.heap.push oI).get? b = some ob:=fun b ob e=>Heap.get?_push_of_some _ e
  cases hb:w.params.followText "set-order" with
  | true =>
   exact h _ s.drawn _ S ((pickOrder (w.params.setOrder S ep) es).toList.map (·.2)) keep (Nat.le_refl _) (by omega) (.inl rfl) (Nat.ne_of_lt hlt) ((yl7 _ _).map _) ⟨⟨_,hI,.inr (.inl ⟨hb,⟨0,rfl⟩,rfl⟩)⟩,hS1⟩
  | false =>
   have small:es.size <= 1:=by
    apply Classical.byContradiction
    intro z
    rcases hpl.1 with q | q
    ·omega
    ·rw [hb,q] at c; simp at c; omega
   exact h _ s.drawn _ S (es.toList.map (·.2)) keep (Nat.le_refl _) (by omega) (.inl rfl) (Nat.ne_of_lt hlt) (.refl _) ⟨⟨_,hI,.inr (.inr ⟨hb,by rw [hpl.2,hb]; rfl,small,rfl,0,rfl,fun _=>rfl,fun j _ z=>by omega⟩)⟩,hS1⟩
end
section
variable {prog:Program} {w:World} {K:Type} [DecidableEq K] {kn:KeyKind prog w K} {A:Around} {E:Value -> Shared -> Prop} {s:Shared}
theorem yt3 {S:Addr} {o:Obj} {es:Array (Int × Value)} {ep:Nat} {t:SetTable} {Q:List Value -> Shared -> Prop} (hh:A.handled = none) (ho:s.heap.get? S = some o) (hex:o.ExactSet) (hd:o.data = .set es ep t) (hfs:t.fits es.size = true) (hsz:es.size <= 1000) (hpl:yp6 w es.size t) (hpw:es.size <= 1 -> t.place.toList.Pairwise (· < ·))
  (h:∀ s' vs,(∀ b ob,s.heap.get? b = some ob -> s'.heap.get? b = some ob) -> s.heap.objs.size <= s'.heap.objs.size -> s'.gens = s.gens -> s'.os = s.os -> vs.Perm (es.toList.map (·.2)) -> Q vs s') :
  wpAny (model prog w) A (collect (.ref S)) Q E s:=by
 have hTy:s.TypeIs (.ref S) "set":=⟨o,ho,hex.1⟩
 have hlt:=Heap.lt_size ho
 unfold collect
 refine wpAny_bind (wpAny_runValue (codeAny_builtin PySem.F.entry_proto_collect ?_))
 rw [Around.under_plainId PySem.F.plain_proto_collect _]; show wpAny _ A.in1 (newList [] >>= fun l=>again (.builtin "list.__iadd__" ⟨[l,.ref S],[]⟩)) _ _ s
 refine wpAny_bind (wpAny_newObj_type ?_); refine wpAny_pure ⟨plainId_quiet PySem.F.plain_list_iadd _,codeAny_builtin PySem.F.entry_list_iadd ?_⟩
 rw [Around.under_plainId PySem.F.plain_list_iadd _]; generalize hL:({ cls:=Value.type "list",data:=Data.seq ([]:List Value).toArray }:Obj) = oL
 have k1:∀ b ob,s.heap.get? b = some ob -> (s.heap.push oL).get? b = some ob:=fun b ob e=>Heap.get?_push_of_some _ e
 have hL1:(s.heap.push oL).get? s.heap.objs.size = some oL:=Heap.get?_push_size _ (by rw [<- hL]; rfl)
 have ho1:=k1 _ _ ho
 have sz1:(s.heap.push oL).objs.size = s.heap.objs.size + 1:=Heap.size_push _ _
 have hTy1:Shared.TypeIs { s with heap:=s.heap.push oL } (.ref S) "set":=⟨o,ho1,hex.1⟩
 show wpAny _ A.in1 (Builtin.List.listExtendWith (.ref s.heap.objs.size) (.ref S) (.ref s.heap.objs.size)) _ _ _
 unfold Builtin.List.listExtendWith; refine wpAny_bind (wpAny_typeOf hTy1 ?_)
 have q1:Builtin.List.listSameRef (.ref s.heap.objs.size) (.ref S) = false:=by
  have:s.heap.objs.size ≠ S:=Nat.ne_of_gt hlt
  simp [Builtin.List.listSameRef,this]
 rw [if_neg (by rw [q1]; decide)]
 refine wpAny_bind (iter_set (s:={ s with heap:=s.heap.push oL }) ho1 hex hd hfs hsz hpl fun h2 d2 I T vs k2 hI1 hI2 hTa hTI hp st=>?_)
 have hI1:s.heap.objs.size + 1 <= I:=by rw [<- sz1]; exact hI1
 have ho2:=k2 _ _ ho1
 have hTy2:Shared.TypeIs { s with heap:=h2,drawn:=d2 } (.ref S) "set":=⟨o,ho2,hex.1⟩
 refine wpAny_bind (wpAny_holding ?_); unfold Builtin.List.listLengthHint
 refine wpAny_bind (wpAny_specialOf hTy2 PySem.F.slot_set_len.lookup ?_)
 generalize hid:("set.__len__" : String) = name0
 wp_delta
 have hsp:splitId name0 = some ("set","__len__"):=by subst hid; decide +kernel
 rw [hsp]
 subst hid
 show wpAny _ _ (isInstance (Value.ref S) (Value.type "set") >>= _) _ _ _
 refine wpAny_bind (wpAny_isInstance hTy2 sub_set_self ?_)
 show wpAny _ _ (typeOf (Value.ref S) >>= _) _ _ _
 refine wpAny_bind (wpAny_typeOf hTy2 ?_)
 refine wpAny_pure ?_
 show wpAny _ A.in1 (rule "list.extend.makes-room" >>= fun _=>Builtin.List.listTouch (.ref s.heap.objs.size) >>= fun _=>again (.builtin "list.extend.loop" ⟨[.ref s.heap.objs.size,.ref I,.ref s.heap.objs.size],[]⟩)) _ _ _
 refine wpAny_bind (wpAny_rule ?_); have hL2:h2.get? s.heap.objs.size = some oL:=k2 _ _ hL1
 refine wpAny_bind ?_
 show wpAny _ A.in1 (updateSeq s.heap.objs.size (·.push .none) >>= fun _=>updateSeq s.heap.objs.size (·.pop)) _ _ _; refine wpAny_bind (wpAny_updateSeq (s:={ s with heap:=h2,drawn:=d2 }) hL2 (by rw [<- hL]) ?_)
 have hL3:=Heap.get?_update_self (Obj.mapSeq (·.push Value.none)) hL2 (by rw [<- hL]; rfl)
 have sb3:=Heap.SameBut.update h2 s.heap.objs.size (Obj.mapSeq (·.push Value.none))
 generalize h2.update s.heap.objs.size (Obj.mapSeq (·.push Value.none)) = h3 at hL3 sb3 ⊢
 refine wpAny_updateSeq (s:={ s with heap:=h3,drawn:=d2 }) hL3 (by rw [<- hL]; rfl) ?_
 have hL4:=Heap.get?_update_self (Obj.mapSeq (·.pop)) hL3 (by rw [<- hL]; rfl)
 have sb4:=Heap.SameBut.update h3 s.heap.objs.size (Obj.mapSeq (·.pop))
 generalize h3.update s.heap.objs.size (Obj.mapSeq (·.pop)) = h4 at hL4 sb4 ⊢
 have sb:=sb3.trans sb4
 have hvl:vs.length = es.size:=by rw [hp.length_eq]; simp
 have hIL:I ≠ s.heap.objs.size:=Nat.ne_of_gt (Nat.lt_of_lt_of_le (Nat.lt_succ_self _) hI1)
 have hSL:S ≠ s.heap.objs.size:=Nat.ne_of_lt hlt
 have hTL:T ≠ s.heap.objs.size:=by
  rcases hTa with z | z
  ·rw [z]; exact hSL
  ·have:s.heap.objs.size + 1 <= T:=by rw [<- sz1]; exact z
   exact Nat.ne_of_gt (Nat.lt_of_lt_of_le (Nat.lt_succ_self _) this)
 have hSI:S ≠ I:=Nat.ne_of_lt (Nat.lt_of_lt_of_le hlt (by omega))
 have W:=walk_set (prog:=prog) (w:=w) (A:=A.in1) (T:=T) (fp:=[I,S,T]) hh hd hfs hvl hSI hpw (by simp) (by simp) (by simp) hTI
 have st4:ItSt w I S T o es ep t vs 0 h4:=W.frame 0 { s with heap:=h2,drawn:=d2 } h4 s.toks st (Nat.le_refl _) fun b hb ob e=>by
  have ne:b ≠ s.heap.objs.size:=by
   simp only [List.mem_cons,List.not_mem_nil,or_false] at hb; rcases hb with rfl | rfl | rfl <;> assumption
  exact (sb.2 b ne).trans e
 subst hL
 have small:es.size <= sizeLine:=by rw [sizeLine_eq]; omega
 refine wpAny_pure ⟨plainId_quiet PySem.F.plain_extend_loop _,codeAny_extend_loopS W (by rw [hvl]; exact small) s.heap.objs.size (by simp only [List.mem_cons,List.not_mem_nil,or_false,not_or]; exact ⟨Ne.symm hIL,Ne.symm hSL,Ne.symm hTL⟩) _ vs.length 0 { s with heap:=h4,drawn:=d2 } #[] _ rfl (Nat.zero_le _) st4 (hL4.trans rfl) (ItemsOf.nil _) fun s' acc c hm hS' hacc=>?_⟩
 show wpAny _ A (load s.heap.objs.size >>= _) _ _ s'; refine wpAny_bind (wpAny_load hS' (wpAny_pure ?_))
 have eacc:acc.toList = vs:=by
  refine List.ext_getElem? fun j=>?_
  by_cases c:j < vs.length
  ·obtain ⟨v,hv⟩:∃ v,acc[j]? = some v:=⟨_,Array.getElem?_eq_getElem (by rw [hacc.1]; exact c)⟩
   rw [Array.getElem?_toList,hv,hacc.2 j v hv]
  ·have l1:acc.toList.length <= j:=by rw [Array.length_toList,hacc.1]; omega
   have l2:vs.length <= j:=by omega
   rw [List.getElem?_eq_none l1,List.getElem?_eq_none l2]
 rw [eacc]
 refine h s' vs (fun b ob e=>?_) (Nat.le_of_lt (Heap.lt_size hS')) hm.gens hm.os ?_
 ·have hb:=Heap.lt_size e
  refine hm.heap b ob ?_ ((sb.2 b (Nat.ne_of_lt hb)).trans (k2 _ _ (k1 _ _ e)))
  simp only [List.mem_cons,List.not_mem_nil,or_false,not_or]
  exact ⟨Nat.ne_of_lt hb,Nat.ne_of_lt (Nat.lt_of_lt_of_le hb (by omega))⟩
 ·exact hp
theorem yt2 {S:Addr} {xs:List (List K × Addr)} {Q:List Value -> Shared -> Prop} (hh:A.handled = none) (hS:xd1 kn s.heap S xs)
  (h:∀ s' vs,(∀ b ob,s.heap.get? b = some ob -> s'.heap.get? b = some ob) -> s.heap.objs.size <= s'.heap.objs.size -> s'.gens = s.gens -> s'.os = s.os -> vs.Perm (xs.map fun x=>Value.ref x.2) -> Q vs s') :
  wpAny (model prog w) A (collect (.ref S)) Q E s:=by
 obtain ⟨o,es,ep,t,ho,hex,hd,Sa,hpl⟩:=hS
 have hz:es.size <= 1000:=by
  rw [Sa.size]
  have:=Sa.cap
  rcases Sa.tab.mask with z | z | z | z | z <;> omega
 refine yt3 hh ho hex hd Sa.fits hz (by rw [Sa.size]; exact hpl) (fun _=>Sa.tab.pw) fun s' vs k1 k2 k3 k4 hp=>h s' vs k1 k2 k3 k4 ?_
 rw [Sa.es,List.map_map] at hp
 exact hp
end
open PySem PySem.W PyProof.Rows
def xv0 {α:Type} (n:Nat) (P:α -> Prop):KasT α -> Prop
 | .ret a=>P a
 | .ask i j k=>i < n /\ j < n /\ ∀ b,xv0 n P (k b)
theorem xn1 {α β:Type} {n:Nat} {P:α -> Prop} {R:β -> Prop} {f:α -> KasT β}:∀ t:KasT α,xv0 n P t -> (∀ a,P a -> xv0 n R (f a)) -> xv0 n R (t.bind f)
 | .ret a,h,hf=>hf a h
 | .ask i j k,h,hf=>⟨h.1,h.2.1,fun b=>xn1 (k b) (h.2.2 b) hf⟩
theorem zj9 {α:Type} {n:Nat} {P:α -> Prop} {cmp:Nat -> Nat -> (Bool -> Shared -> Prop) -> Shared -> Prop} {Q:α -> Shared -> Prop} {s:Shared} (hc:∀ i j C,i < n -> j < n -> (∀ b,C b s) -> cmp i j C s) (hq:∀ a,P a -> Q a s):∀ t:KasT α,xv0 n P t -> t.kasWp cmp Q s
 | .ret a,h=>hq a h
 | .ask i j k,h=>hc i j _ h.1 h.2.1 fun b=>zj9 hc hq (k b) (h.2.2 b)
def xm0 (n:Nat) (p:Array Nat):Prop:=p.Perm (List.range n).toArray
theorem xm0.get {n:Nat} {p:Array Nat} (h:xm0 n p) (hn:0 < n) (i:Nat):p.getD i 0 < n:=by
 by_cases c:i < p.size
 ·have:p[i] ∈ (List.range n).toArray:=h.mem_iff.mp (Array.getElem_mem c)
  simp at this
  simp [Array.getD,c]
  exact this
 ·simp [Array.getD,c]
  exact hn
theorem xm0.rev {n:Nat} {p:Array Nat} (h:xm0 n p) (i j:Nat):xm0 n (kas_rev p i j):=(mirror_perm _ _ _ _).trans h
section
variable {n:Nat} (hn:0 < n)
include hn
theorem yi8 {p:Array Nat} (h:xm0 n p):∀ f m,xv0 n (fun _=>True) (kas_asc p f m)
 | 0,m=>trivial
 | f + 1,m=>⟨h.get hn _,h.get hn _,fun b=>by
  cases b with
  | true=>exact trivial
  | false=>exact yi8 h f (m + 1)⟩
theorem xt3:∀ f p m q,xm0 n p -> xv0 n (fun r=>xm0 n r.1) (kas_desc f p m q)
 | 0,p,m,q,h=>h
 | f + 1,p,m,q,h=>⟨h.get hn _,h.get hn _,fun b=>by
  cases b with
  | true =>
   simp only [if_true]
   split
   ·exact xt3 f _ _ _ (h.rev _ _)
   ·exact xt3 f _ _ _ h
  | false =>
   refine ⟨h.get hn _,h.get hn _,fun d=>?_⟩
   cases d with
   | true=>exact h
   | false=>exact xt3 f _ _ _ h⟩
theorem yf1 {m nrem:Nat} {p:Array Nat} (h:xm0 n p):xv0 n (fun r=>xm0 n r.2) (kas_tail3 m nrem p) :=
 xn1 _ (yi8 hn (h.rev _ _) _ _) fun a _=>h.rev _ _
theorem xt2 {m nrem:Nat} {p:Array Nat} (h:xm0 n p):xv0 n (fun r=>xm0 n r.2) (kas_descPart m nrem p):=by
 refine xn1 _ (xt3 hn _ _ _ _ h) fun r hr=>?_
 split
 ·exact yf1 hn (hr.rev _ _)
 ·exact yf1 hn hr
theorem za9 {nrem:Nat} {p:Array Nat} (h:xm0 n p):xv0 n (fun r=>xm0 n r.2) (kas_count nrem p):=by
 refine xn1 _ (yi8 hn h _ _) fun m _=>?_
 split
 ·exact h
 ·split
  ·refine ⟨h.get hn _,h.get hn _,fun b=>?_⟩
   cases b with
   | true=>exact h
   | false=>exact xt2 hn (h.rev _ _)
  ·exact xt2 hn h
theorem xu5 {p:Array Nat} (h:xm0 n p) (k:Nat):∀ f l r,xv0 n (fun _=>True) (kas_place p k f l r)
 | 0,l,r=>trivial
 | f + 1,l,r=>by
  unfold kas_place
  split
  ·exact trivial
  ·refine ⟨h.get hn _,h.get hn _,fun b=>?_⟩
   cases b with
   | true=>exact xu5 h k f _ _
   | false=>exact xu5 h k f _ _
theorem yw7:∀ f p k,xm0 n p -> xv0 n (xm0 n) (kas_bin f p k)
 | 0,p,k,h=>h
 | f + 1,p,k,h=>xn1 _ (xu5 hn h k _ _ _) fun l _=>yw7 f _ _ ((bubble_perm _ _ _).trans h)
theorem zk0:xv0 n (xm0 n) (kas_sort n):=by
 refine xn1 _ (za9 hn (Array.Perm.refl _)) fun r hr=>?_
 split
 ·exact yw7 hn _ _ _ hr
 ·exact hr
end
section
variable {w:World} {prog:Program} {A:Around} {E:Value -> Shared -> Prop} {s:Shared}
def xp5 (h:Heap) (b:Addr):Prop:=∃ o x t r n,h.get? b = some o /\ o.cls = .type "tuple" /\ o.data = .seq (Value.str x t :: r).toArray n /\ ∀ v ∈ r,∃ y u,v = Value.str y u
theorem zh6 {b fin:Bool} {Q:Bool -> Shared -> Prop} (hq:∀ c,Q c s):∀ (l:List (Value × Value)) (i:Nat),(∀ p ∈ l,(∃ x t,p.1 = Value.str x t) /\ ∃ y u,p.2 = Value.str y u) -> KatLex prog w A b fin Q l i s
 | [],i,_=>kat_nil (hq fin)
 | (p,q) :: r,i,h=>by
  obtain ⟨⟨x,t,e1⟩,y,u,e2⟩:=h (p,q) (by simp)
  simp only at e1 e2
  subst e1 e2
  refine kat_cons (wpAny_eqBool_str ?_)
  refine kat_go (fun _=>kat_yes (zh6 hq r (i + 1) fun z hz=>h z (by simp [hz]))) (fun _=>kat_no ?_)
  cases (b && i == 0) with
  | true=>exact oneLt_str (hq _)
  | false=>exact kat_one _ _ (lt_str (hq _))
theorem cmp_any {b:Bool} {x y:Addr} {Q:Bool -> Shared -> Prop} (hx:xp5 s.heap x) (hy:xp5 s.heap y) (hq:∀ c,Q c s):wpAny (model prog w) A (keyLt' (tuples' b) (.ref x) (.ref y)) Q E s:=by
 obtain ⟨o1,x1,t1,r1,n1,a1,a2,a3,a4⟩:=hx
 obtain ⟨o2,x2,t2,r2,n2,b1,b2,b3,b4⟩:=hy
 refine kat_lt a1 a3 b1 b3 (zh6 hq _ _ fun p hp=>?_)
 have h1:=(List.of_mem_zip hp).1
 have h2:=(List.of_mem_zip hp).2
 simp only [List.mem_cons] at h1 h2
 exact ⟨by rcases h1 with z | z; exact ⟨x1,t1,z⟩; exact a4 _ z,by rcases h2 with z | z; exact ⟨x2,t2,z⟩; exact b4 _ z⟩
theorem zc4 {h:Heap}:∀ vs:List Value,(∀ v ∈ vs,∃ b,v = Value.ref b /\ xp5 h b) -> ∃ fs,KatTups h vs fs /\ fs.length = vs.length /\ ∀ f ∈ fs,∃ x t,f = Value.str x t
 | [],_=>⟨[],KatTups.nil,rfl,fun f hf=>by simp at hf⟩
 | v :: vs,hv=>by
  obtain ⟨fs,h1,h2,h3⟩:=zc4 vs fun u hu=>hv u (by simp [hu])
  obtain ⟨b,rfl,o,x,t,r,n,a1,a2,a3,a4⟩:=hv v (by simp)
  refine ⟨Value.str x t :: fs,KatTups.cons a1 a2 a3 (by simp) h1,by simp [h2],fun f hf=>?_⟩
  rcases List.mem_cons.mp hf with rfl | hf
  ·exact ⟨x,t,rfl⟩
  ·exact h3 f hf
theorem yz0 {vs:List Value} {p:Array Nat} (h:xm0 vs.length p):((p.map (kas_item (pairsOf vs))).map (·.2)).toList.Perm vs:=by
 have e:((p.map (kas_item (pairsOf vs))).map (·.2)).toList = p.toList.map fun i=>vs.getD i Value.none:=by
  rw [Array.toList_map,Array.toList_map,List.map_map]
  refine List.map_congr_left fun i _=>?_; show (kas_item (pairsOf vs) i).2 = _
  rw [kas_item_eq]
 rw [e]
 have hp:p.toList.Perm (List.range vs.length):=by simpa using Array.perm_iff_toList_perm.mp h
 refine (hp.map _).trans ?_
 have:(List.range vs.length).map (fun i=>vs.getD i Value.none) = vs:=by
  refine List.ext_getElem (by simp) fun i h1 h2=>?_
  simp at h1
  simp [h1]
 rw [this]
theorem yk7 {a:Addr} {vs:List Value} {n:Nat} {P:PySem.Fin -> Shared -> Prop} (ho:s.heap.get? a = some (seqObj "list" vs.toArray n)) (hv:∀ v ∈ vs,∃ b,v = Value.ref b /\ xp5 s.heap b) (h64:vs.length < 64)
  (h:∀ h' out e,Heap.ExtBut a s.heap h' -> h'.get? a = some (seqObj "list" out e) -> out.toList.Perm vs -> P (.done (.ret .none)) { s with heap:=h' }):wpAny (model prog w) A (Builtin.«list.sort» ⟨[.ref a],[]⟩) P E s:=by
 rw [list_sort_plain]
 have ha:a < s.heap.objs.size:=Heap.lt_size ho; refine wpAny_bind (listItems_at ho rfl ?_)
 refine wpAny_bind (listUpdate_at ho rfl ?_ (by rw [List.size_toArray,sizeLine_eq]; omega) (Nat.zero_le _)); obtain ⟨e1,ho1⟩:∃ e1,(s.heap.update a (Obj.mapSeq fun _=>(#[]:Array Value))).get? a = some (seqObj "list" #[] e1):=⟨_,get?_update_seq ho fun _=>#[]⟩
 have sb1:=Heap.SameBut.update s.heap a (Obj.mapSeq fun _=>(#[]:Array Value))
 generalize s.heap.update a (Obj.mapSeq fun _=>(#[]:Array Value)) = h1 at ho1 sb1 ⊢
 refine wpAny_bind (seqEpoch_at (s:={ s with heap:=h1 }) ho1 rfl ?_)
 refine wpAny_bind (wpAny_newTuple ?_ (by show vs.length <= _; rw [sizeLine_eq]; omega)); refine wpAny_bind (wpAny_newList ?_ (by show 0 <= _; exact Nat.zero_le _))
 refine wpAny_holding ?_
 dsimp only
 generalize hot:({ cls:=Value.type "tuple",data:=Data.seq vs.toArray.toList.toArray }:Obj) = oT
 generalize hol:({ cls:=Value.type "list",data:=Data.seq ([]:List Value).toArray }:Obj) = oL
 have k2:∀ b o,h1.get? b = some o -> ((h1.push oT).push oL).get? b = some o:=fun b o e=>Heap.get?_push_of_some _ (Heap.get?_push_of_some _ e)
 have ho2:=k2 _ _ ho1
 have ext:Heap.ExtBut a s.heap ((h1.push oT).push oL):=fun b o hb e=>k2 b o ((sb1.2 b hb).trans e)
 generalize (h1.push oT).push oL = h2 at k2 ho2 ext ⊢
 have hv2:∀ v ∈ vs,∃ b,v = Value.ref b /\ xp5 h2 b:=fun v hvv=>by
  obtain ⟨b,rfl,o,x,t,r,m,a1,a2,a3,a4⟩:=hv v hvv
  have ne:b ≠ a:=by
   rintro rfl
   rw [ho] at a1
   cases a1
   exact absurd (show Value.type "list" = Value.type "tuple" from a2) (by decide)
  exact ⟨b,rfl,o,x,t,r,m,ext b o ne a1,a2,a3,a4⟩
 have hsz:vs.toArray.size = vs.length:=(by simp); have fin:∀ (st:SortSt),failedOf st = none -> ((arrOf st).map (·.2)).toList.Perm vs -> wpAny (model prog w) A (do
   let ep <- seqEpoch a
   have touched:Bool:=ep != e1
   Builtin.List.listUpdate (Value.ref a) fun _=>(arrOf st).map (·.2)
   if touched = true then do
     rule "list.sort.modified"
     let r <- (raiseErrorWords "ValueError" "list modified during sort" : Sem Unit)
     ret Value.none
    else ret Value.none) P E { s with heap:=h2 }:=by
  intro st hf hp
  refine wpAny_bind (seqEpoch_at (s:={ s with heap:=h2 }) ho2 rfl ?_)
  refine wpAny_bind (listUpdate_at (s:={ s with heap:=h2 }) ho2 rfl ?_ (Nat.zero_le _) (by
   rw [<- Array.length_toList,hp.length_eq,sizeLine_eq]; omega))
  simp only [bne_self_eq_false,Bool.false_eq_true,if_false]; obtain ⟨e3,ho3⟩:∃ e3,(h2.update a (Obj.mapSeq fun _=>(arrOf st).map (·.2))).get? a = some (seqObj "list" ((arrOf st).map (·.2)) e3):=⟨_,get?_update_seq ho2 fun _=>(arrOf st).map (·.2)⟩
  have sb3:=Heap.SameBut.update h2 a (Obj.mapSeq fun _=>(arrOf st).map (·.2))
  exact wpAny_pure (h _ _ e3 (ext.trans sb3.extBut) ho3 hp)
 by_cases h2':vs.toArray.size < 2
 ·rw [if_pos h2']
  refine wpAny_bind (wpAny_pure ?_); rw [if_pos h2',StateT.run_pure]
  refine wpAny_bind (wpAny_pure ?_); dsimp only
  exact fin (SortSt.mk' general' (vs.toArray.zip vs.toArray) #[] 7 none) rfl (by
   show ((vs.toArray.zip vs.toArray).map (·.2)).toList.Perm vs
   have:((vs.toArray.zip vs.toArray).map (·.2)).toList = vs:=by
    rw [Array.toList_map,Array.toList_zip,List.map_snd_zip (by simp)]
   rw [this])
 ·rw [if_neg h2']
  obtain ⟨fs,t1,t2,t3⟩:=zc4 vs hv2
  refine wpAny_bind (kat_kind (s:={ s with heap:=h2 }) (T:=.type "str") t1 (by omega) (fun v hvv=>?_) (by decide) ?_)
  ·obtain ⟨x,t,rfl⟩:=t3 v hvv
   exact Looks.of_pure rfl
  rw [if_neg h2']
  have start:SortSt.mk' (tuples' (Value.type "str" != Value.type "tuple")) (vs.toArray.zip vs.toArray) #[] 7 none = kas_st (tuples' (Value.type "str" != Value.type "tuple")) (pairsOf vs) (List.range vs.length).toArray:=by
   unfold kas_st
   rw [show vs.length = (pairsOf vs).size from (pairsOf_size vs).symm,kas_range]
   rfl
  rw [start]
  refine wpAny_bind (wpAny_mono (kas_runs (Q:=fun _ st s'=>failedOf st = none /\ ((arrOf st).map (·.2)).toList.Perm vs /\ s' = { s with heap:=h2 }) (G:=fun p s'=>xm0 vs.length p /\ s' = { s with heap:=h2 }) (by omega) h64 (fun p st s' _ e1 e2 hg=>⟨e2,by rw [e1]; exact yz0 hg.1,hg.2⟩) ?_) ?_ (fun _ _ x=>x))
  ·refine zj9 (P:=xm0 vs.length) (n:=vs.length) (fun i j C hi hj hC=>?_) (fun p hp=>⟨hp,rfl⟩) _ (zk0 (by omega))
   rw [<- kas_ask_eq]
   unfold kas_ask
   rw [List.getD_eq_getElem?_getD,List.getD_eq_getElem?_getD,List.getElem?_eq_getElem hi,List.getElem?_eq_getElem hj]; obtain ⟨x,ex,hx⟩:=hv2 _ (List.getElem_mem hi)
   obtain ⟨y,ey,hy⟩:=hv2 _ (List.getElem_mem hj)
   show wpAny _ _ (keyLt' _ vs[i] vs[j]) _ _ _
   rw [ex,ey]
   exact cmp_any hx hy hC
  ·rintro ⟨⟨⟩,st⟩ s' ⟨hf,hp,rfl⟩
   dsimp only
   have:=fin st hf hp
   rw [hf]
   exact this
end
section
variable {prog:Program} {w:World} {K:Type} [DecidableEq K] {kn:PySem.KeyKind prog w K} {A:Around} {E:Value -> Shared -> Prop} {s:Shared}
theorem yw2 {h h':Heap} {a:Addr} (k:∀ b o,h.get? b = some o -> h'.get? b = some o) (hs:xp5 h a):xp5 h' a:=by
 obtain ⟨o,x,t,r,n,a1,a2⟩:=hs
 exact ⟨o,x,t,r,n,k _ _ a1,a2⟩
theorem yx9 {S:Addr} {xs:List (List K × Addr)} {Q:Value -> Shared -> Prop} (hh:A.handled = none) (hS:xd1 kn s.heap S xs) (htt:∀ x ∈ xs,xp5 s.heap x.2) (h64:xs.length < 64)
  (h:∀ s' l out e,(∀ b ob,s.heap.get? b = some ob -> s'.heap.get? b = some ob) -> s'.gens = s.gens -> s'.os = s.os -> s.heap.objs.size <= l -> s'.heap.get? l = some (seqObj "list" out e) -> out.toList.Perm (xs.map fun x=>Value.ref x.2) -> Q (.ref l) s') :
  wpAny (model prog w) A (call (.builtin "sorted") [.ref S]) Q E s:=by
 refine Calls.call_function_entry kind_sorted plain_sorted entry_sorted (args_sorted1 _) ?_; unfold Builtin.«sorted»
 refine wpAny_bind (m:=checkCount "sorted" 1 1 _) (wpAny_pure ?_); refine wpAny_bind (yt2 (A:=A.in1) hh hS fun s1 vs k1 le1 g1 o1 hp=>?_)
 have hvl:vs.length = xs.length:=by rw [hp.length_eq,List.length_map]
 refine wpAny_bind (wpAny_newList ?_ (by rw [hvl,sizeLine_eq]; omega))
 have hoL:(s1.heap.push (seqObj "list" vs.toArray 0)).get? s1.heap.objs.size = some (seqObj "list" vs.toArray 0):=Heap.get?_push_size _ rfl
 have k2:∀ b ob,s.heap.get? b = some ob -> (s1.heap.push (seqObj "list" vs.toArray 0)).get? b = some ob:=fun b ob e=>Heap.get?_push_of_some _ (k1 b ob e)
 have hnone:s.heap.get? s1.heap.objs.size = none:=by
  cases e:s.heap.get? s1.heap.objs.size with
  | none=>rfl
  | some o=>have:=k1 _ _ e; rw [xm8] at this; cases this
 have hv:∀ v ∈ vs,∃ b,v = Value.ref b /\ xp5 (s1.heap.push (seqObj "list" vs.toArray 0)) b:=fun v hvv=>by
  obtain ⟨x,hx,rfl⟩:=List.mem_map.mp (hp.mem_iff.mp hvv)
  exact ⟨x.2,rfl,yw2 k2 (htt x hx)⟩
 refine wpAny_bind (wpAny_holding (wpAny_call_entry slot_list_sort ⟨_,hoL,rfl⟩ entry_list_sort (yk7 (s:={ s1 with heap:=s1.heap.push (seqObj "list" vs.toArray 0) }) hoL hv (by omega) fun h' out e ext ho' hp'=>⟨_,rfl,?_⟩) (args_list_sort _)))
 refine wpAny_pure ⟨_,rfl,h _ _ out e (fun b ob eb=>?_) g1 o1 le1 ho' (hp'.trans hp)⟩
 have ne:b ≠ s1.heap.objs.size:=by rintro rfl; rw [hnone] at eb; cases eb
 exact ext b ob ne (k2 b ob eb)
end
structure Firsts {K:Type} (zs l:List (List K × Addr)):Prop where
 from_:∀ z ∈ zs,z ∈ l
 keys:∀ k,k ∈ zs.map (·.1) ↔ k ∈ l.map (·.1)
section
variable {prog:Program} {w:World} {K:Type} [DecidableEq K] {kn:PySem.KeyKind prog w K} {A:Around} {E:Value -> Shared -> Prop} {s:Shared} {R:Result -> Shared -> Prop}
theorem zj8 {S I p:Addr} {items:Array Value} {l:List (List K × Addr)} (hi:items.toList = l.map fun x=>Value.ref x.2) (hh:A.handled = none) (hu:A.units + 2 < cLine) (hIp:p ≠ I) (hSI:S ≠ I) (hSp:S ≠ p) (hb:∀ zs:List (List K × Addr),(∀ z ∈ zs,z ∈ l) -> (zs.map (·.1)).Nodup -> zs.length <= 36) :
  ∀ (k i:Nat) (s:Shared) (zs:List (List K × Addr)),l.length - i = k -> i <= l.length -> s.heap.IsListIter I p i /\ s.heap.IsList p items -> xd1 kn s.heap S zs -> Firsts zs (l.take i) -> zs.length <= i -> (∀ x ∈ l,IsTupleKey kn s.heap x.1 x.2 /\ xo1 s.heap x.2 /\ x.2 ≠ I /\ x.2 ≠ S) ->
   (∀ s' zs',(∀ b o,b ≠ S -> b ≠ I -> s.heap.get? b = some o -> s'.heap.get? b = some o) -> s'.gens = s.gens -> s'.os = s.os -> s'.drawn = s.drawn -> xd1 kn s'.heap S zs' -> Firsts zs' l -> R (.ok (.ret .none)) s') ->
   codeAny (model prog w) A (Code.builtin "set.update.loop" ⟨[.ref S,.ref I],[]⟩) R s:=by
 have W:WalksS prog w A.in1 I [I,p] [I] (fun a b=>b = a) items.size (fun i v=>items[i]? = some v) (fun i s=>s.heap.IsListIter I p i /\ s.heap.IsList p items):=(Walks.list (A:=A.in1) hh I p hIp items).toS
 have hn:items.size = l.length:=by rw [<- Array.length_toList,hi,List.length_map]
 intro k
 induction k with
 | zero =>
  intro i s zs hk hil hst hS hF hz hl hR
  have hin:i = l.length:=by omega
  subst hin
  refine codeAny_builtin PyProof.Rows.F.entry_set_update_loop ?_
  rw [Around.under_plainId PyProof.Rows.F.plain_set_update_loop _]
  show wpAny _ A.in1 (pyNext (.ref I) >>= _) _ _ s; refine wpAny_bind (W.done s _ _ (by rw [hn]; exact hst) fun s' hm=>?_)
  refine wpAny_pure (hR s' zs (fun b o _ hb e=>hm.heap b o (by simpa using hb) e) hm.gens hm.os hm.drawn ?_ (by rw [List.take_length] at hF; exact hF))
  obtain ⟨o,es,ep,t,h1,h2,h3,Sa,h5⟩:=hS
  have kp:∀ b o,b ≠ I -> s.heap.get? b = some o -> s'.heap.get? b = some o:=fun b o hb e=>hm.heap b o (by simpa using hb) e
  refine ⟨o,es,ep,t,kp _ _ hSI h1,h2,h3,⟨Sa.es,fun x hx=>?_,Sa.nd,Sa.tab,Sa.cap⟩,h5⟩
  obtain ⟨o',it,n',a1,a2⟩:=Sa.is x hx
  have hx':x ∈ l:=by have:=hF.from_ x hx; rwa [List.take_length] at this
  exact ⟨o',it,n',kp _ _ (hl x hx').2.2.1 a1,a2⟩
 | succ k ih =>
  intro i s zs hk hil hst hS hF hz hl hR
  have hlt:i < l.length:=(by omega); refine codeAny_builtin PyProof.Rows.F.entry_set_update_loop ?_
  rw [Around.under_plainId PyProof.Rows.F.plain_set_update_loop _]
  show wpAny _ A.in1 (pyNext (.ref I) >>= _) _ _ s; refine wpAny_bind (W.item i s _ _ (by omega) hst fun v s' hP hst' hm=>?_)
  have hv:v = Value.ref l[i].2:=by
   have:items.toList[i]? = some v:=by rw [Array.getElem?_toList]; exact hP
   rw [hi,List.getElem?_map,List.getElem?_eq_getElem hlt] at this; exact (Option.some.inj this).symm
  subst hv
  have kp:∀ b o,b ≠ I -> s.heap.get? b = some o -> s'.heap.get? b = some o:=fun b o hb e=>hm.heap b o (by simpa using hb) e
  have hl':∀ x ∈ l,IsTupleKey kn s'.heap x.1 x.2 /\ xo1 s'.heap x.2 /\ x.2 ≠ I /\ x.2 ≠ S:=fun x hx=>by
   obtain ⟨⟨o1,it1,n1,a1,a2⟩,⟨o2,it2,n2,b1,b2⟩,h3,h4⟩:=hl x hx
   exact ⟨⟨o1,it1,n1,kp _ _ h3 a1,a2⟩,⟨o2,it2,n2,kp _ _ h3 b1,b2⟩,h3,h4⟩
  have hS':xd1 kn s'.heap S zs:=by
   obtain ⟨o,es,ep,t,h1,h2,h3,Sa,h5⟩:=hS
   refine ⟨o,es,ep,t,kp _ _ hSI h1,h2,h3,⟨Sa.es,fun x hx=>?_,Sa.nd,Sa.tab,Sa.cap⟩,h5⟩
   obtain ⟨o',it,n',a1,a2⟩:=Sa.is x hx
   exact ⟨o',it,n',kp _ _ (hl x (List.mem_of_mem_take (hF.from_ x hx))).2.2.1 a1,a2⟩
  have hm1:=hl' l[i] (List.getElem_mem hlt)
  show wpAny _ A.in1 (holding [Value.ref l[i].2] (setAdd S (.ref l[i].2)) >>= _) _ _ s'
  refine wpAny_bind (wpAny_holding ?_); unfold setAdd
  refine wpAny_holding ?_
  have hu1:A.in1.units < cLine:=by rw [Around.in1_units]; omega
  refine wpAny_bind (wpAny_pyHash_tuple hu1 hm1.1 ?_)
  obtain ⟨_,_,_,_,_,_,_,Sn,_⟩:=id hS'
  refine yq0 (s:={ s' with toks:=s'.toks + (l[i].1.length + 1) }) hu1 hS' hm1.1 hm1.2.1 (hb zs (fun z hz=>List.mem_of_mem_take (hF.from_ z hz)) Sn.nd) fun r h'' zs' sb hz' hin hnin=>?_
  refine wpAny_pure ⟨plainId_quiet PyProof.Rows.F.plain_set_update_loop _,ih (i + 1) _ zs' (by omega) hlt ?_ hz' ?_ ?_ ?_ ?_⟩
  ·exact W.frame (i + 1) s' h'' _ hst' (Nat.le_add_right _ _) fun b hb o e=>by
    have ne:b ≠ S:=by
     simp only [List.mem_cons,List.not_mem_nil,or_false] at hb; rcases hb with rfl | rfl
     ·exact Ne.symm hSI
     ·exact Ne.symm hSp
    exact (sb.2 b ne).trans e
  ·rw [List.take_succ,List.getElem?_eq_getElem hlt,Option.toList_some]
   by_cases c:l[i].1 ∈ zs.map (·.1)
   ·rw [hin c]
    refine ⟨fun z hzz=>List.mem_append_left _ (hF.from_ z hzz),fun k=>?_⟩
    rw [hF.keys k,List.map_append,List.mem_append,List.map_cons,List.map_nil,List.mem_singleton]
    constructor
    ·exact .inl
    ·rintro (q | q)
     ·exact q
     ·subst q; exact (hF.keys _).mp c
   ·have pz:=hnin c
    refine ⟨fun z hzz=>?_,fun k=>?_⟩
    ·rcases List.mem_cons.mp (pz.mem_iff.mp hzz) with q | q
     ·exact List.mem_append_right _ (by rw [q]; simp)
     ·exact List.mem_append_left _ (hF.from_ z q)
    ·rw [(pz.map (·.1)).mem_iff,List.map_cons,List.mem_cons,hF.keys k,List.map_append,List.mem_append,List.map_cons,List.map_nil,List.mem_singleton]
     constructor
     ·rintro (q | q)
      ·exact .inr q
      ·exact .inl q
     ·rintro (q | q)
      ·exact .inr q
      ·exact .inl q
  ·by_cases c:l[i].1 ∈ zs.map (·.1)
   ·rw [hin c]; omega
   ·rw [(hnin c).length_eq,List.length_cons]; omega
  ·intro x hx
   obtain ⟨⟨o1,it1,n1,a1,a2⟩,⟨o2,it2,n2,b1,b2⟩,h3,h4⟩:=hl' x hx
   exact ⟨⟨o1,it1,n1,(sb.2 _ h4).trans a1,a2⟩,⟨o2,it2,n2,(sb.2 _ h4).trans b1,b2⟩,h3,h4⟩
  ·intro s'' zs'' k2 g2 o2 d2 hz2 hf2
   exact hR s'' zs'' (fun b o hb hbI e=>k2 b o hb hbI ((sb.2 b hb).trans (kp b o hbI e))) (g2.trans hm.gens) (o2.trans hm.os) (d2.trans hm.drawn) hz2 hf2
theorem upd_list {p S:Addr} {items:Array Value} {l:List (List K × Addr)} {led:Bool} {Q:Unit -> Shared -> Prop} (hh:A.handled = none) (hu:A.units + 4 < cLine) (hled:led = !(w.params.followText "set-order")) (hS:s.heap.get? S = some (xc2 led)) (hp:s.heap.IsList p items) (hi:items.toList = l.map fun x=>Value.ref x.2) (hb:∀ zs:List (List K × Addr),(∀ z ∈ zs,z ∈ l) -> (zs.map (·.1)).Nodup -> zs.length <= 36)
  (htx:∀ x ∈ l,IsTupleKey kn s.heap x.1 x.2 /\ xo1 s.heap x.2) (h:∀ s' zs,(∀ b o,b ≠ S -> s.heap.get? b = some o -> s'.heap.get? b = some o) -> s'.gens = s.gens -> s'.os = s.os -> s'.drawn = s.drawn -> xd1 kn s'.heap S zs -> Firsts zs l -> Q () s') :
  wpAny (model prog w) A (Builtin.Frozenset.updateFrom "set.__init__" S (.ref p)) Q E s:=by
 have hT:=hp.typeIs
 have hp0:=hp
 obtain ⟨op,hop,hcp,np,hdp⟩:=hp
 have hlt:=Heap.lt_size hop
 have hSlt:=Heap.lt_size hS
 unfold Builtin.Frozenset.updateFrom Builtin.Frozenset.isAnySet
 have q1:=PySem.F.sub_list_set
 have q2:=PySem.F.sub_list_frozenset
 have q3:(Value.type "list" == Value.type "dict") = false:=by decide
 generalize hPI:pyIter = PI
 wp_walk
 subst hPI
 refine wpAny_pyIter_list hp0 ?_
 refine wpAny_bind (wpAny_runValue ?_); generalize hoi:({ cls:=Value.type "list_iterator",data:=Data.fields #[Value.ref p,Value.int 0 0] }:Obj) = oI
 have k1:∀ b o,s.heap.get? b = some o -> (s.heap.push oI).get? b = some o:=fun b o e=>Heap.get?_push_of_some _ e
 have ne:∀ b o,s.heap.get? b = some o -> b ≠ s.heap.objs.size:=fun b o e=>Nat.ne_of_lt (Heap.lt_size e)
 have hSp:S ≠ p:=by
  rintro rfl
  rw [hS] at hop
  cases hop
  cases hdp
 have neS:∀ x ∈ l,x.2 ≠ S:=fun x hx z=>by
  obtain ⟨⟨o1,it1,n1,a1,a2,a3,a4⟩,_⟩:=htx x hx
  rw [z,hS] at a1
  cases a1
  cases a3
 refine zj8 (kn:=kn) (I:=s.heap.objs.size) (p:=p) (items:=items) hi hh (by omega) (Nat.ne_of_lt hlt) (Nat.ne_of_lt hSlt) hSp hb l.length 0 { s with heap:=s.heap.push oI } [] (by omega) (Nat.zero_le _) ⟨⟨oI,Heap.get?_push_size _ (by rw [<- hoi]; rfl),by rw [<- hoi],by rw [<- hoi]; rfl⟩,⟨op,k1 _ _ hop,hcp,np,hdp⟩⟩ (yn3 hled (k1 _ _ hS)) ⟨fun z hz=>by simp at hz,fun k=>by simp⟩ (Nat.zero_le _) (fun x hx=>?_) fun s' zs' kp g o d hz hf=>?_
 ·obtain ⟨⟨o1,it1,n1,a1,a2⟩,⟨o2,it2,n2,b1,b2⟩⟩:=htx x hx
  exact ⟨⟨o1,it1,n1,k1 _ _ a1,a2⟩,⟨o2,it2,n2,k1 _ _ b1,b2⟩,ne _ _ a1,neS x hx⟩
 ·refine wpAny_pure ?_
  exact h s' zs' (fun b ob hb e=>kp b ob hb (ne _ _ e) (k1 _ _ e)) g o d hz hf
end
end LS
namespace L2
open PySem PySem.Spec PyProof.Rows LS
def setO (P:Program) (w:World) (a:Addr) (zs:List (List Key × Addr)):HO:=.ext fun h=>∃ o es ep t,h.get? a = some o /\ o.ExactSet /\ o.data = .set es ep t /\ es.toList = (zs.map fun x=>(tupleKeyHash (xc5 P w) x.1,Value.ref x.2)) /\ (zs.map (·.1)).Nodup /\
 Tab t (zs.map fun x=>tupleKeyHash (xc5 P w) x.1) /\ zs.length * 5 < t.mask * 3 /\ yp6 w zs.length t
def xo4 (H:Hp) (zs:List (List Key × Addr)):Prop:=∀ z ∈ zs,H z.2 = some (.tup (z.1.map kV))
def xi5 (k:List Key):Prop:=k ≠ [] /\ ∀ x ∈ k,∃ y:Str,x = Sum.inr y
section
variable {X:Cx} {pins:List (Addr × Obj)} {σ:St} {H:Hp} {s:Shared}
theorem Inv.redrawn (I:Inv X pins σ H s) (d:Drawn):Inv X pins σ H { s with drawn:=d }:=⟨I.ok,I.os,I.bare,I.base,I.loc,I.cell,I.free,I.freeC,I.pin,I.hok,I.len⟩
theorem yq1 {P:Program} {w:World} {H':Hp} {h:Heap} {a:Addr} {zs:List (List Key × Addr)} (x:xd1 (xc5 P w) h a zs):xe7 P w H' h a (setO P w a zs):=by
 obtain ⟨o,es,ep,t,h1,h2,h3,S,h5⟩:=x
 refine ⟨⟨o,es,ep,t,h1,h2,h3,S.es,S.nd,S.tab,S.cap,h5⟩,⟨o,h1⟩,fun g1 g2 ⟨o',es',ep',t',q1,q⟩ k=>⟨o',es',ep',t',k _ q1,q⟩⟩
theorem yg4 {P:Program} {w:World} {h:Heap} {a:Addr} {zs:List (List Key × Addr)} (ok:HOk P w H h) (e:H a = some (setO P w a zs)) (hk:xo4 H zs):xd1 (xc5 P w) h a zs:=by
 obtain ⟨o,es,ep,t,h1,h2,h3,h4,h5,h6,h7,h8⟩:=(ok _ _ e).1
 exact ⟨o,es,ep,t,h1,h2,h3,⟨h4,fun x hx=>xp2 ok (hk x hx),h5,h6,h7⟩,h8⟩
theorem yt8:∀ {k:List Key} {us:List Value},Vals (k.map kV) us -> (∀ x ∈ k,∃ y:Str,x = Sum.inr y) -> ∀ u ∈ us,∃ y t,u = Value.str y t
 | [],_,r,_=>by rw [List.map_nil] at r; cases r; intro u hu; simp at hu
 | x :: k,_,r,h=>by
  rw [List.map_cons] at r
  cases r with
  | cons h1 t1 =>
   intro u hu
   rcases List.mem_cons.mp hu with rfl | hu
   ·obtain ⟨y,rfl⟩:=h x (by simp)
    obtain ⟨t,e⟩:=(show ∃ t,u = Value.str y t from h1)
    exact ⟨y,t,e⟩
   ·exact yt8 t1 (fun z hz=>h z (by simp [hz])) u hu
theorem xo5 {P:Program} {w:World} {h:Heap} {b:Addr} {k:List Key} (ok:HOk P w H h) (e:H b = some (.tup (k.map kV))) (hk:xi5 k):xp5 h b /\ xo1 h b:=by
 obtain ⟨_,its,r,o,h1,h2,n,h3⟩:=(show xe7 P w H h b (.tup (k.map kV)) from ok b _ e)
 have tx:=yt8 r hk.2
 obtain ⟨u,us,rfl⟩:∃ u us,its = u :: us:=by
  cases its with
  | nil=>have:=r.length; simp at this; exact absurd this hk.1
  | cons u us=>exact ⟨u,us,rfl⟩
 obtain ⟨y,t,rfl⟩:=tx u (by simp)
 refine ⟨⟨o,y,t,us,n,h1,h2,h3,fun v hv=>tx v (by simp [hv])⟩,⟨o,_,n,h1,h2,h3,fun v hv=>?_,?_⟩⟩
 ·obtain ⟨y',t',rfl⟩:=tx v (by simpa using hv)
  rfl
 ·simp [plainKind]
def rSetD:(P:Program) -> (w:World) -> List V -> Hp -> VK -> Prop:=fun P w xs H Q=>∃ d kvs,xs = [V.ref d] /\ H d = some (.dT kvs) /\ kvs.length <= 36 /\ (∀ kv ∈ kvs,xi5 kv.1) /\
 ∀ p zs,H p = none -> (zs.map (·.1)).Perm (kvs.map (·.1)) -> xo4 H zs -> Q (.ref p) (upd H p (setO P w p zs))
theorem yo5 (hu:X.A.units + 64 < cLine):xj5 X (.type "set") (rSetD X.prog X.w):=by
 intro pins s σ H xs us Q I r h
 obtain ⟨d,kvs,rfl,hd,hl,htk,q⟩:=h
 obtain ⟨u,rfl,rx⟩:=xn3 r
 cases rx
 obtain ⟨z1,z2,ys,rel,dd⟩:=yn9 I.hok hd
 have keys:∀ {l:List (List Key × V)} {m:List (List Key × Addr × Value)},KT H l m -> l.map (·.1) = m.map (·.1) /\ ∀ x ∈ m,H x.2.1 = some (.tup (x.1.map kV)):=by
  intro l m k
  induction k with
  | nil=>exact ⟨rfl,fun x hx=>by simp at hx⟩
  | @cons p q ps qs hq t ih =>
   refine ⟨by rw [List.map_cons,List.map_cons,hq.1,ih.1],fun x hx=>?_⟩; rcases List.mem_cons.mp hx with e | hx
   ·subst e; rw [<- hq.1]; exact hq.2.1
   ·exact ih.2 x hx
 obtain ⟨ke,kh⟩:=keys rel
 have tk:∀ x ∈ ys,xi5 x.1:=fun x hx=>by
  have:x.1 ∈ kvs.map (·.1):=by rw [ke]; exact List.mem_map.mpr ⟨x,hx,rfl⟩
  obtain ⟨kv,h1,h2⟩:=List.mem_map.mp this
  rw [<- h2]; exact htk kv h1
 have hlen:ys.length <= 36:=by rw [<- Paired.length rel]; exact hl
 refine set_of fun led A' hled hA hH=>?_
 have k0:∀ b o,s.heap.get? b = some o -> (s.heap.push (xc2 led)).get? b = some o:=fun b o e=>Heap.get?_push_of_some _ e
 have hS:(s.heap.push (xc2 led)).get? s.heap.objs.size = some (xc2 led):=Heap.get?_push_size _ rfl
 have I0:Inv X pins σ H { s with heap:=s.heap.push (xc2 led) }:=I.kept (t':=s.toks) k0
 obtain ⟨z1',z2',ys',rel',dd'⟩:=yn9 I0.hok hd
 obtain ⟨ke',kh'⟩:=keys rel'
 have tk':∀ x ∈ ys',xi5 x.1:=fun x hx=>by
  have:x.1 ∈ kvs.map (·.1):=by rw [ke']; exact List.mem_map.mpr ⟨x,hx,rfl⟩
  obtain ⟨kv,h1,h2⟩:=List.mem_map.mp this
  rw [<- h2]; exact htk kv h1
 have hlen':ys'.length <= 36:=by rw [<- Paired.length rel']; exact hl
 refine upd_dict (s:={ s with heap:=s.heap.push (xc2 led) }) (kn:=xc5 X.prog X.w) (by omega) hled hS dd' z2' hlen' (fun x hx=>(xo5 I0.hok (kh' x hx) (tk' x hx)).2) fun h' zs sb hz hp=>?_
 have keep:=xu0 k0 (xm8 s.heap) sb
 refine ⟨.ref s.heap.objs.size,_,I.laid (t':=s.toks) keep (Nat.le_refl _) (yq1 hz),rfl,q _ zs (I.hok.fresh (Nat.le_refl _)) ?_ fun z hzz=>?_⟩
 ·rw [ke']
  have:=hp.map (·.1)
  rw [List.map_map] at this
  exact this
 ·obtain ⟨x,hx,rfl⟩:=List.mem_map.mp (hp.mem_iff.mp hzz)
  exact kh' x hx
def rSetOr (P:Program) (w:World):R2:=fun x y H Q=>∃ a b zs ws,x = V.ref a /\ y = V.ref b /\ H a = some (setO P w a zs) /\ H b = some (setO P w b ws) /\ a ≠ b /\ xo4 H zs /\ xo4 H ws /\ (∀ z ∈ zs,xi5 z.1) /\ (∀ z ∈ ws,xi5 z.1) /\ zs.length + ws.length <= 36 /\
 ∀ p vs,H p = none -> Both vs zs ws -> (vs.map (·.1)).Nodup -> Q (.ref p) (upd H p (setO P w p vs))
theorem op_setOr (hu:X.A.units + 64 < cLine):OpR X (binaryOp .BitOr) (rSetOr X.prog X.w):=by
 intro pins s σ H x y v u Q I rx ry h
 obtain ⟨a,b,zs,ws,rfl,rfl,ha,hb,hab,ka,kb,ta,tb,hn,q⟩:=h
 cases rx
 cases ry
 have tx:∀ {l:List (List Key × Addr)},xo4 H l -> (∀ z ∈ l,xi5 z.1) -> ∀ y ∈ l,xo1 s.heap y.2:=fun k t y hy=>(xo5 I.hok (k y hy) (t y hy)).2
 refine ze0 (by omega) (yg4 I.hok ha ka) (yg4 I.hok hb kb) hab (tx ka ta) (tx kb tb) hn fun h' d' vs keep hz bth=>?_
 refine ⟨.ref s.heap.objs.size,_,(I.redrawn d').laid (t':=s.toks) (h':=h') keep (Nat.le_refl _) (yq1 hz),rfl,q _ vs (I.hok.fresh (Nat.le_refl _)) bth ?_⟩
 obtain ⟨_,_,_,_,_,_,_,S,_⟩:=hz
 exact S.nd
def rSortS (P:Program) (w:World):List V -> Hp -> VK -> Prop:=fun xs H Q=>∃ a zs,xs = [V.ref a] /\ H a = some (setO P w a zs) /\ xo4 H zs /\ (∀ z ∈ zs,xi5 z.1) /\ zs.length < 64 /\ ∀ (p:Addr) (bs:List Addr),H p = none -> bs.Perm (zs.map (·.2)) -> Q (.ref p) (upd H p (.lst (bs.map V.ref)))
theorem refs_of:∀ {vs:List Value} {bs:List Addr},vs.Perm (bs.map Value.ref) -> ∃ cs:List Addr,vs = cs.map Value.ref /\ cs.Perm bs:=fun h=>xl5 h
theorem yk0:∀ cs:List Addr,Vals (cs.map V.ref) (cs.map Value.ref)
 | []=>.nil
 | c :: cs=>.cons rfl (yk0 cs)
theorem zb2 (hc:X.calm = true):xj5 X (.builtin "sorted") (rSortS X.prog X.w):=by
 intro pins s σ H xs us Q I r h
 obtain ⟨a,zs,rfl,ha,ka,ta,hn,q⟩:=h
 obtain ⟨u,rfl,rx⟩:=xn3 r
 cases rx
 refine yx9 (I.ok.hd hc) (yg4 I.hok ha ka) (fun x hx=>(xo5 I.hok (ka x hx) (ta x hx)).1) hn fun s' l out e keep hg hos hl hol hp=>?_
 rw [show (zs.map fun x=>Value.ref x.2) = (zs.map (·.2)).map Value.ref by rw [List.map_map]; rfl] at hp
 obtain ⟨bs,eb,pb⟩:=refs_of hp
 have hlen:bs.length = zs.length:=by rw [pb.length_eq,List.length_map]
 have I1:Inv X pins σ (upd H l (.lst (bs.map V.ref))) { s with heap:=s'.heap,toks:=s'.toks }:=I.laid (t':=s'.toks) keep hl ⟨xe5 (by rw [List.length_map,hlen]; omega),bs.map Value.ref,e,yk0 bs,by
  rw [hol]
  have:out = (bs.map Value.ref).toArray:=by rw [<- eb]
  rw [this]⟩
 have es:s' = { ({ s with heap:=s'.heap,toks:=s'.toks }:Shared) with drawn:=s'.drawn }:=by
  cases s'
  simp only at hg hos ⊢
  rw [hg,hos]
 refine ⟨.ref l,_,?_,rfl,q l bs (I.hok.fresh hl) pb⟩
 rw [es]
 exact I1.redrawn _
theorem zl5:xj5 X (.builtin "len") (fun xs H Q=>∃ a zs,xs = [V.ref a] /\ H a = some (setO X.prog X.w a zs) /\ xo4 H zs /\ Q (.int zs.length) H):=by
 intro pins s σ H xs us Q I r h
 obtain ⟨a,zs,rfl,ha,ka,q⟩:=h
 obtain ⟨u,rfl,rx⟩:=xn3 r
 cases rx
 obtain ⟨o,es,ep,t,h1,h2,h3,S,h5⟩:=yg4 I.hok ha ka
 have hs:=S.size
 have small:es.size < 128:=by
  have:=S.cap
  rcases S.tab.mask with z | z | z | z | z <;> omega
 refine call_len_set h1 h2 h3 S.fits (by omega) ⟨.int zs.length,H,I.tok _,⟨s.toks + 1,by rw [hs]⟩,q⟩
end
theorem yj1:bootBuiltins "set" = Option.some (Value.type "set"):=by decide +kernel
end L2
namespace LS
open PySem
section
variable {w:World} {prog:Program} {A:Around} {E:Value -> Shared -> Prop} {s:Shared}
def RawD (h:Heap) (d:Addr) (es:Array DictEntry) (ep:Nat):Prop:=∃ o,h.get? d = some o /\ o.ExactDict /\ o.data = .dict es ep
theorem RawD.typeIs {d:Addr} {es:Array DictEntry} {ep:Nat} (x:RawD s.heap d es ep):s.TypeIs (.ref d) "dict":=let ⟨o,a,b,_⟩:=x; ⟨o,a,b.1⟩
theorem RawD.keep {h h':Heap} {d:Addr} {es:Array DictEntry} {ep:Nat} (x:RawD h d es ep) (k:∀ o,h.get? d = some o -> h'.get? d = some o):RawD h' d es ep:=let ⟨o,a,b⟩:=x; ⟨o,k o a,b⟩
theorem yv7 {d:Addr} {es:Array DictEntry} {ep:Nat} {Q:Value -> Shared -> Prop} (hd:(d == sysModules) = false) (hm:RawD s.heap d es ep)
  (hQ:Q (.ref s.heap.objs.size) { s with heap:=s.heap.push { cls:=.type "dict_keyiterator",data:=.fields #[.ref d,.int 0 0,.int es.size 0,.int ep 0] } }):wpAny (model prog w) A (pyIter (.ref d)) Q E s:=by
 have hT:=hm.typeIs
 obtain ⟨o,ho,hc,hdat⟩:=hm
 refine wpAny_pyIter_slot hT F.slot_dict_iter (wpAny_call_entry F.slot_dict_iter hT F.entry_dict_iter ?_ (F.args_dict_iter_1 _)); unfold Builtin.«dict.__iter__» Builtin.Dict.dictSlotNone
 refine wpAny_bind (wpAny_bind (wpAny_notOrdered_dict hT ?_))
 show wpAny _ _ (pure (Value.ref d)) _ _ s; refine wpAny_pure ?_
 show wpAny _ _ (Builtin.Dict.showsAll d >>= _) _ _ s; unfold Builtin.Dict.showsAll
 rw [hd,if_neg Bool.false_ne_true]
 refine wpAny_bind (wpAny_pure (wpAny_bind (wpAny_dictEntries ho hdat (wpAny_bind (wpAny_dictEpoch ho hdat ?_)))))
 exact wpAny_bind (wpAny_newObj_type (wpAny_pure ⟨_,rfl,"dict_keyiterator",_,⟨_,Heap.get?_push_size _ rfl,rfl⟩,F.slot_dict_keyiterator_next.lookup,hQ⟩))
theorem yv2 {it d:Addr} {i ep:Nat} {es:Array DictEntry} {e:DictEntry} {Q:Option Value -> Shared -> Prop} (hit:s.heap.IsKeyIter it d i es.size ep) (hm:RawD s.heap d es ep) (hx:es[i]? = some e)
  (hQ:∀ h',h'.IsKeyIter it d (i + 1) es.size ep -> Heap.SameBut it s.heap h' -> Q (some e.key) { s with heap:=h' }):wpAny (model prog w) A (pyNext (.ref it)) Q E s:=by
 have hT:=hit.typeIs
 obtain ⟨o,ho,hc,hd⟩:=id hit; obtain ⟨od,hod,hcd,hdd⟩:=hm
 unfold pyNext
 refine wpAny_bind (wpAny_attempt (wpAny_callSpecial?_slot (name:=Str.ofString "__next__") hT F.slot_dict_keyiterator_next (wpAny_call_entry F.slot_dict_keyiterator_next hT F.entry_dict_keyiterator_next ?_ (F.args_dict_keyiterator_next_1 _))))
 refine wpAny_bind (wpAny_pure (wpAny_bind (wpAny_bind (wpAny_bind (wpAny_typeNameOfWhole_keyiter hT (wpAny_pure (wpAny_bind (wpAny_fieldsOf ho hd ?_))))))))
 simp only [show Builtin.Dict_items.ownsTuple "dict_keyiterator" = false from by decide,Bool.false_eq_true,if_false]
 show wpAny _ _ (if (Value.ref d == Value.none) = true then _ else _) _ _ s; rw [show (Value.ref d == Value.none) = false from rfl,if_neg Bool.false_ne_true]
 refine wpAny_bind (wpAny_pure (wpAny_bind (wpAny_dictEntries hod hdd ?_)))
 rw [if_neg (by simp)]
 refine wpAny_bind (wpAny_pure (wpAny_bind (wpAny_dictEpoch hod hdd ?_)))
 rw [if_neg (by simp)]
 have hlt:i < es.size:=(Array.getElem?_eq_some_iff.mp hx).1
 have he:es[i] = e:=(Array.getElem?_eq_some_iff.mp hx).2
 refine wpAny_pure ?_
 simp only [show ¬ ((i:Int) < 0) from by omega,if_false,Int.toNat_natCast,hx]
 refine wpAny_bind (wpAny_bind (wpAny_typeNameOfWhole_keyiter hT (wpAny_pure (wpAny_bind (wpAny_isOneOf_keyiter hT ?_)))))
 show wpAny _ _ (setField (.ref it) 1 (rawInt ((i:Int) + 1)) >>= _) _ _ s; refine wpAny_bind (wpAny_setField ho hd (by simp) ?_)
 generalize hh:s.heap.update it (Obj.mapFields (·.setIfInBounds 1 (rawInt ((i:Int) + 1)))) = h1
 have hit':h1.IsKeyIter it d (i + 1) es.size ep:=⟨_,by rw [<- hh]; exact Heap.get?_update_self _ ho (Obj.isFreed_of_fields (Obj.data_mapFields hd _)),(Obj.cls_mapFields ..).trans hc,by rw [Obj.data_mapFields hd]; simp [rawInt]⟩
 have sb:Heap.SameBut it s.heap h1:=by rw [<- hh]; exact Heap.SameBut.update ..
 have hT1:Shared.TypeIs { s with heap:=h1 } (.ref it) "dict_keyiterator":=hit'.typeIs
 refine wpAny_bind (wpAny_holding (wpAny_bind (wpAny_isOneOf_keyiter hT1 ?_)))
 show wpAny _ _ (pure e.key) _ _ _; exact wpAny_pure (wpAny_pure ⟨_,rfl,wpAny_pure (hQ h1 hit' sb)⟩)
theorem zk2 {it d:Addr} {i ep:Nat} {es:Array DictEntry} {Q:Option Value -> Shared -> Prop} (hh:A.handled = none) (hit:s.heap.IsKeyIter it d i es.size ep) (hm:RawD s.heap d es ep) (hx:es.size <= i) (hQ:∀ h',Heap.ExtBut it s.heap h' -> Q none { s with heap:=h' }):wpAny (model prog w) A (pyNext (.ref it)) Q E s:=by
 have hT:=hit.typeIs
 obtain ⟨o,ho,hc,hd⟩:=id hit; obtain ⟨od,hod,hcd,hdd⟩:=hm
 unfold pyNext
 refine wpAny_bind (wpAny_attempt (wpAny_callSpecial?_slot (name:=Str.ofString "__next__") hT F.slot_dict_keyiterator_next (wpAny_call_entry F.slot_dict_keyiterator_next hT F.entry_dict_keyiterator_next ?_ (F.args_dict_keyiterator_next_1 _))))
 refine wpAny_bind (wpAny_pure (wpAny_bind (wpAny_bind (wpAny_bind (wpAny_typeNameOfWhole_keyiter hT (wpAny_pure (wpAny_bind (wpAny_fieldsOf ho hd ?_))))))))
 simp only [show Builtin.Dict_items.ownsTuple "dict_keyiterator" = false from by decide,Bool.false_eq_true,if_false]
 show wpAny _ _ (if (Value.ref d == Value.none) = true then _ else _) _ _ s; rw [show (Value.ref d == Value.none) = false from rfl,if_neg Bool.false_ne_true]
 refine wpAny_bind (wpAny_pure (wpAny_bind (wpAny_dictEntries hod hdd ?_)))
 rw [if_neg (by simp)]
 refine wpAny_bind (wpAny_pure (wpAny_bind (wpAny_dictEpoch hod hdd ?_)))
 rw [if_neg (by simp)]
 refine wpAny_pure ?_
 simp only [show ¬ ((i:Int) < 0) from by omega,if_false,Int.toNat_natCast,Array.getElem?_eq_none hx]
 refine wpAny_bind (wpAny_bind (wpAny_typeNameOfWhole_keyiter hT (wpAny_pure ?_)))
 show wpAny _ _ (setField (.ref it) 0 .none >>= _) _ _ s; refine wpAny_bind (wpAny_setField ho hd (by simp) ?_)
 show wpAny _ _ (newExc (.type "StopIteration") [] >>= _) _ _ _; refine wpAny_bind ?_
 simp only [newExc,newTuple]; refine wpAny_bind (wpAny_newObj_type ?_ (by size_fits))
 refine wpAny_bind (m:=firstArgMember _ _) (wpAny_of_eq (a:=Value.none) (by first | rfl | (simp only [firstArgMember]; rfl)) (wpAny_newObj_type ?_ (by size_fits)))
 simp only [raiseNew]; refine wpAny_bind (wpAny_handled ?_); rw [show A.in1.handled = none from hh]
 refine wpAny_bind (wpAny_pure (wpAny_throw ?_)); refine wpAny_bind (wpAny_isInstance (b:=true) (T:="StopIteration") ⟨_,Heap.get?_push_size _ rfl,rfl⟩ isSubtype_stop (wpAny_pure ?_))
 exact hQ _ (((Heap.SameBut.update ..).extBut.push _).push _)
theorem yv1 {it d:Addr} {i ep:Nat} {es:Array DictEntry} {e:DictEntry} {Q:Option Value -> Shared -> Prop} (hit:s.heap.IsValIter it d i es.size ep) (hm:RawD s.heap d es ep) (hx:es[i]? = some e)
  (hQ:∀ h',h'.IsValIter it d (i + 1) es.size ep -> Heap.SameBut it s.heap h' -> Q (some e.val) { s with heap:=h' }):wpAny (model prog w) A (pyNext (.ref it)) Q E s:=by
 have hT:=hit.typeIs
 obtain ⟨o,ho,hc,hd⟩:=id hit; obtain ⟨od,hod,hcd,hdd⟩:=hm
 unfold pyNext
 refine wpAny_bind (wpAny_attempt (wpAny_callSpecial?_slot (name:=Str.ofString "__next__") hT F.slot_dict_valueiterator_next (wpAny_call_entry F.slot_dict_valueiterator_next hT F.entry_dict_valueiterator_next ?_ (F.args_dict_valueiterator_next_1 _))))
 refine wpAny_bind (wpAny_pure (wpAny_bind (wpAny_bind (wpAny_bind (wpAny_typeNameOfWhole_valiter hT (wpAny_pure (wpAny_bind (wpAny_fieldsOf ho hd ?_))))))))
 simp only [show Builtin.Dict_items.ownsTuple "dict_valueiterator" = false from by decide,Bool.false_eq_true,if_false]
 show wpAny _ _ (if (Value.ref d == Value.none) = true then _ else _) _ _ s; rw [show (Value.ref d == Value.none) = false from rfl,if_neg Bool.false_ne_true]
 refine wpAny_bind (wpAny_pure (wpAny_bind (wpAny_dictEntries hod hdd ?_)))
 rw [if_neg (by simp)]
 refine wpAny_bind (wpAny_pure (wpAny_bind (wpAny_dictEpoch hod hdd ?_)))
 rw [if_neg (by simp)]
 have hlt:i < es.size:=(Array.getElem?_eq_some_iff.mp hx).1
 have he:es[i] = e:=(Array.getElem?_eq_some_iff.mp hx).2
 refine wpAny_pure ?_
 simp only [show ¬ ((i:Int) < 0) from by omega,if_false,Int.toNat_natCast,hx]
 refine wpAny_bind (wpAny_bind (wpAny_typeNameOfWhole_valiter hT (wpAny_pure (wpAny_bind (wpAny_isOneOf_valiter hT ?_)))))
 show wpAny _ _ (setField (.ref it) 1 (rawInt ((i:Int) + 1)) >>= _) _ _ s; refine wpAny_bind (wpAny_setField ho hd (by simp) ?_)
 generalize hh:s.heap.update it (Obj.mapFields (·.setIfInBounds 1 (rawInt ((i:Int) + 1)))) = h1
 have hit':h1.IsValIter it d (i + 1) es.size ep:=⟨_,by rw [<- hh]; exact Heap.get?_update_self _ ho (Obj.isFreed_of_fields (Obj.data_mapFields hd _)),(Obj.cls_mapFields ..).trans hc,by rw [Obj.data_mapFields hd]; simp [rawInt]⟩
 have sb:Heap.SameBut it s.heap h1:=by rw [<- hh]; exact Heap.SameBut.update ..
 have hT1:Shared.TypeIs { s with heap:=h1 } (.ref it) "dict_valueiterator":=hit'.typeIs
 refine wpAny_bind (wpAny_holding (wpAny_bind (wpAny_isOneOf_valiter hT1 (wpAny_bind (wpAny_isOneOf_valiter hT1 ?_)))))
 show wpAny _ _ (pure e.val) _ _ _; exact wpAny_pure (wpAny_pure ⟨_,rfl,wpAny_pure (hQ h1 hit' sb)⟩)
theorem zk1 {it d:Addr} {i ep:Nat} {es:Array DictEntry} {Q:Option Value -> Shared -> Prop} (hh:A.handled = none) (hit:s.heap.IsValIter it d i es.size ep) (hm:RawD s.heap d es ep) (hx:es.size <= i) (hQ:∀ h',Heap.ExtBut it s.heap h' -> Q none { s with heap:=h' }):wpAny (model prog w) A (pyNext (.ref it)) Q E s:=by
 have hT:=hit.typeIs
 obtain ⟨o,ho,hc,hd⟩:=id hit; obtain ⟨od,hod,hcd,hdd⟩:=hm
 unfold pyNext
 refine wpAny_bind (wpAny_attempt (wpAny_callSpecial?_slot (name:=Str.ofString "__next__") hT F.slot_dict_valueiterator_next (wpAny_call_entry F.slot_dict_valueiterator_next hT F.entry_dict_valueiterator_next ?_ (F.args_dict_valueiterator_next_1 _))))
 refine wpAny_bind (wpAny_pure (wpAny_bind (wpAny_bind (wpAny_bind (wpAny_typeNameOfWhole_valiter hT (wpAny_pure (wpAny_bind (wpAny_fieldsOf ho hd ?_))))))))
 simp only [show Builtin.Dict_items.ownsTuple "dict_valueiterator" = false from by decide,Bool.false_eq_true,if_false]
 show wpAny _ _ (if (Value.ref d == Value.none) = true then _ else _) _ _ s; rw [show (Value.ref d == Value.none) = false from rfl,if_neg Bool.false_ne_true]
 refine wpAny_bind (wpAny_pure (wpAny_bind (wpAny_dictEntries hod hdd ?_)))
 rw [if_neg (by simp)]
 refine wpAny_bind (wpAny_pure (wpAny_bind (wpAny_dictEpoch hod hdd ?_)))
 rw [if_neg (by simp)]
 refine wpAny_pure ?_
 simp only [show ¬ ((i:Int) < 0) from by omega,if_false,Int.toNat_natCast,Array.getElem?_eq_none hx]
 refine wpAny_bind (wpAny_bind (wpAny_typeNameOfWhole_valiter hT (wpAny_pure ?_)))
 show wpAny _ _ (setField (.ref it) 0 .none >>= _) _ _ s; refine wpAny_bind (wpAny_setField ho hd (by simp) ?_)
 show wpAny _ _ (newExc (.type "StopIteration") [] >>= _) _ _ _; refine wpAny_bind ?_
 simp only [newExc,newTuple]; refine wpAny_bind (wpAny_newObj_type ?_ (by size_fits))
 refine wpAny_bind (m:=firstArgMember _ _) (wpAny_of_eq (a:=Value.none) (by first | rfl | (simp only [firstArgMember]; rfl)) (wpAny_newObj_type ?_ (by size_fits)))
 simp only [raiseNew]; refine wpAny_bind (wpAny_handled ?_); rw [show A.in1.handled = none from hh]
 refine wpAny_bind (wpAny_pure (wpAny_throw ?_)); refine wpAny_bind (wpAny_isInstance (b:=true) (T:="StopIteration") ⟨_,Heap.get?_push_size _ rfl,rfl⟩ isSubtype_stop (wpAny_pure ?_))
 exact hQ _ (((Heap.SameBut.update ..).extBut.push _).push _)
theorem vals_raw {d:Addr} {es:Array DictEntry} {ep:Nat} {Q:Value -> Shared -> Prop} (hd:(d == sysModules) = false) (hm:RawD s.heap d es ep)
  (h:Q (.ref s.heap.objs.size) { s with heap:=s.heap.push { cls:=.type "dict_values",data:=.fields #[.ref d] } }):wpAny (model prog w) A (call (.builtin "dict.values") [.ref d]) Q E s:=by
 have hT:=hm.typeIs
 refine wpAny_call_entry F.slot_dict_values hT F.entry_dict_values ?_ (F.args_dict_values_1 _)
 refine wpAny_bind ?_; unfold Builtin.Dict.noArgs; refine wpAny_bind (wpAny_notOrdered_dict hT ?_); show wpAny _ _ (pure d) _ _ s
 refine wpAny_pure ?_
 show wpAny _ _ (Builtin.Dict.showsAll d >>= _) _ _ s; unfold Builtin.Dict.showsAll
 rw [hd,if_neg Bool.false_ne_true]
 exact wpAny_bind (wpAny_pure (wpAny_bind (wpAny_newObj_type (wpAny_pure ⟨_,rfl,h⟩))))
theorem zi5 {d:Addr} {es:Array DictEntry} {ep:Nat} {Q:Value -> Shared -> Prop} (hd:(d == sysModules) = false) (hm:RawD s.heap d es ep)
  (h:Q (.ref s.heap.objs.size) { s with heap:=s.heap.push { cls:=.type "dict_items",data:=.fields #[.ref d] } }):wpAny (model prog w) A (call (.builtin "dict.items") [.ref d]) Q E s:=by
 have hT:=hm.typeIs
 refine wpAny_call_entry F.slot_dict_items hT F.entry_dict_items ?_ (F.args_dict_items_1 _)
 unfold Builtin.«dict.items» Builtin.Dict.noArgs
 refine wpAny_bind (wpAny_bind (wpAny_notOrdered_dict hT ?_)); show wpAny _ _ (pure d) _ _ s
 refine wpAny_pure ?_
 show wpAny _ _ (Builtin.Dict.showsAll d >>= _) _ _ s; unfold Builtin.Dict.showsAll
 rw [hd,if_neg Bool.false_ne_true]
 exact wpAny_bind (wpAny_pure (wpAny_bind (wpAny_newObj_type (wpAny_pure ⟨_,rfl,h⟩))))
theorem ye8 {v d:Addr} {es:Array DictEntry} {ep:Nat} {Q:Value -> Shared -> Prop} (hv:s.heap.IsItemsView v d) (hm:RawD s.heap d es ep)
  (hQ:Q (.ref s.heap.objs.size) { s with heap:=s.heap.push { cls:=.type "dict_itemiterator",data:=.fields #[.none,.bool false,.ref d,.int 0 0,.int es.size 0,.int ep 0,.none,.none] } }):wpAny (model prog w) A (pyIter (.ref v)) Q E s:=by
 have hT:=hv.typeIs
 obtain ⟨ov,hov,hcv,hdv⟩:=hv
 obtain ⟨o,ho,hc,hdat⟩:=hm
 refine wpAny_pyIter_slot hT F.slot_dict_items_iter (wpAny_call_entry F.slot_dict_items_iter hT F.entry_dict_items_iter ?_ (F.args_dict_items_iter_1 _))
 unfold Builtin.«dict_items.__iter__» Builtin.Dict_items.dictOf
 refine wpAny_bind (wpAny_pure (wpAny_bind (wpAny_bind (wpAny_field hov hdv (x:=.ref d) rfl (wpAny_pure (wpAny_bind ?_))))))
 unfold Builtin.Dict_items.newIterator; refine wpAny_bind (wpAny_dictEntries ho hdat (wpAny_bind (wpAny_dictEpoch ho hdat ?_)))
 simp only [show Builtin.Dict_items.ownsTuple "dict_itemiterator" = true from by decide,if_true]
 refine wpAny_newObj_type (wpAny_pure ⟨_,rfl,"dict_itemiterator",_,⟨_,Heap.get?_push_size _ rfl,rfl⟩,F.slot_dict_itemiterator_next.lookup,?_⟩) (by simp only [sizeOk,Builtin.Dict_items.ownedTupleFields,List.size_toArray,List.length_append,List.length_cons,List.length_nil,sizeLine_eq]; omega)
 exact hQ
theorem ye7 {it d:Addr} {i ep:Nat} {es:Array DictEntry} {e:DictEntry} {ok ov:Value} {Q:Option Value -> Shared -> Prop} (hit:IsItemIter s.heap it d i es.size ep ok ov) (hm:RawD s.heap d es ep) (hx:es[i]? = some e)
  (hQ:∀ h',IsItemIterOut h' it d (i + 1) es.size ep e.key e.val s.heap.objs.size -> h'.get? s.heap.objs.size = some { cls:=.type "tuple",data:=.seq #[e.key,e.val] } -> h'.objs.size = s.heap.objs.size + 1 -> (∀ b o,b ≠ it -> s.heap.get? b = some o -> h'.get? b = some o) -> Q (some (.ref s.heap.objs.size)) { s with heap:=h' }):wpAny (model prog w) A (pyNext (.ref it)) Q E s:=by
 have hT:s.TypeIs (.ref it) "dict_itemiterator":=⟨_,hit,rfl⟩; obtain ⟨od,hod,hcd,hdd⟩:=hm
 unfold pyNext
 refine wpAny_bind (wpAny_attempt (wpAny_callSpecial?_slot (name:=Str.ofString "__next__") hT F.slot_dict_itemiterator_next (wpAny_call_entry F.slot_dict_itemiterator_next hT F.entry_dict_itemiterator_next ?_ (F.args_dict_itemiterator_next_1 _))))
 refine wpAny_bind (wpAny_pure (wpAny_bind (wpAny_bind (wpAny_bind (wpAny_typeNameOfWhole_itemiter hT (wpAny_pure (wpAny_bind (wpAny_fieldsOf hit rfl ?_))))))))
 simp only [show Builtin.Dict_items.ownsTuple "dict_itemiterator" = true from by decide,if_true]
 show wpAny _ _ (if (Value.ref d == Value.none) = true then _ else _) _ _ s; rw [show (Value.ref d == Value.none) = false from rfl,if_neg Bool.false_ne_true]
 refine wpAny_bind (wpAny_pure (wpAny_bind (wpAny_dictEntries hod hdd ?_)))
 rw [if_neg (by simp)]
 refine wpAny_bind (wpAny_pure (wpAny_bind (wpAny_dictEpoch hod hdd ?_)))
 rw [if_neg (by simp)]
 refine wpAny_pure ?_
 simp only [show ¬ ((i:Int) < 0) from by omega,if_false,Int.toNat_natCast,hx]
 refine wpAny_bind (wpAny_bind (wpAny_typeNameOfWhole_itemiter hT (wpAny_pure (wpAny_bind (wpAny_isOneOf_itemiter hT ?_)))))
 show wpAny _ _ (setField (.ref it) 3 (rawInt ((i:Int) + 1)) >>= _) _ _ s
 refine wpAny_bind (wpAny_setField_rec hit (by simp) fun h1 q1 sb1=>?_)
 have e1:IsItemIter h1 it d (i + 1) es.size ep ok ov:=by
  show h1.get? it = _
  rw [show ((i + 1:Nat):Int) = (i:Int) + 1 from by omega]; simpa [rawInt] using q1
 have sb1:Heap.SameBut it s.heap h1:=sb1
 have hT1:Shared.TypeIs { s with heap:=h1 } (.ref it) "dict_itemiterator":=⟨_,e1,rfl⟩
 refine wpAny_bind (wpAny_holding (wpAny_bind (wpAny_isOneOf_itemiter hT1 (wpAny_bind (wpAny_isOneOf_itemiter hT1 ?_)))))
 show wpAny _ _ (Builtin.Dict_items.pairFromOwner (.ref it) 6 e.key e.val) _ _ { s with heap:=h1 }
 unfold Builtin.Dict_items.pairFromOwner Builtin.Dict_items.ownedTupleIsFree
 refine wpAny_bind (wpAny_newTuple ?_); have e2:IsItemIter (h1.push { cls:=.type "tuple",data:=.seq #[e.key,e.val] }) it d (i + 1) es.size ep ok ov:=Heap.get?_push_of_some _ e1
 have z1:h1.objs.size = s.heap.objs.size:=sb1.1
 have t2:(h1.push { cls:=.type "tuple",data:=.seq #[e.key,e.val] }).get? s.heap.objs.size = some { cls:=.type "tuple",data:=.seq #[e.key,e.val] }:=by rw [<- z1]; exact Heap.get?_push_size _ rfl
 have z2:(h1.push { cls:=.type "tuple",data:=.seq #[e.key,e.val] }).objs.size = s.heap.objs.size + 1:=by rw [Heap.size_push,z1]
 have k2:∀ b o,b ≠ it -> s.heap.get? b = some o -> (h1.push { cls:=.type "tuple",data:=.seq #[e.key,e.val] }).get? b = some o:=fun b o hb x=>Heap.get?_push_of_some _ (sb1.extBut b o hb x)
 generalize hh2:h1.push { cls:=.type "tuple",data:=.seq #[e.key,e.val] } = h2 at e2 t2 z2 k2
 have ne:s.heap.objs.size ≠ it:=Nat.ne_of_gt (Heap.lt_size hit)
 dsimp only
 rw [z1]
 refine wpAny_bind (wpAny_bind (wpAny_field e2 rfl (x:=.none) rfl (wpAny_pure ?_)))
 simp only [if_true]
 refine wpAny_bind (wpAny_field e2 rfl (x:=ok) rfl (wpAny_bind (wpAny_field e2 rfl (x:=ov) rfl ?_)))
 refine wpAny_bind (wpAny_setField_rec e2 (by simp) fun h3 q3 sb3=>?_)
 have e3:IsItemIter h3 it d (i + 1) es.size ep e.key ov:=q3
 refine wpAny_bind (wpAny_setField_rec e3 (by simp) fun h4 q4 sb4=>?_)
 have e4:IsItemIter h4 it d (i + 1) es.size ep e.key e.val:=q4
 refine wpAny_bind (wpAny_setField_rec e4 (by simp) fun h5 q5 sb5=>?_)
 have e5:IsItemIterOut h5 it d (i + 1) es.size ep e.key e.val s.heap.objs.size:=q5
 refine wpAny_bind (wpAny_setField_rec e5 (by simp) fun h6 q6 sb6=>?_)
 have all:Heap.SameBut it h2 h6:=((sb3.trans sb4).trans sb5).trans sb6
 refine wpAny_bind (wpAny_letGo (wpAny_pure (wpAny_pure ⟨_,rfl,wpAny_pure (hQ h6 q6 (all.extBut _ _ ne t2) ?_ fun b o hb x=>all.extBut b o hb (k2 b o hb x))⟩)))
 exact all.1.trans z2
theorem yn8 {it d:Addr} {i ep:Nat} {es:Array DictEntry} {ok ov:Value} {Q:Option Value -> Shared -> Prop} (hh:A.handled = none) (hit:IsItemIter s.heap it d i es.size ep ok ov) (hm:RawD s.heap d es ep) (hx:es.size <= i) (hQ:∀ h',Heap.ExtBut it s.heap h' -> Q none { s with heap:=h' }):wpAny (model prog w) A (pyNext (.ref it)) Q E s:=by
 have hT:s.TypeIs (.ref it) "dict_itemiterator":=⟨_,hit,rfl⟩; obtain ⟨od,hod,hcd,hdd⟩:=hm
 unfold pyNext
 refine wpAny_bind (wpAny_attempt (wpAny_callSpecial?_slot (name:=Str.ofString "__next__") hT F.slot_dict_itemiterator_next (wpAny_call_entry F.slot_dict_itemiterator_next hT F.entry_dict_itemiterator_next ?_ (F.args_dict_itemiterator_next_1 _))))
 refine wpAny_bind (wpAny_pure (wpAny_bind (wpAny_bind (wpAny_bind (wpAny_typeNameOfWhole_itemiter hT (wpAny_pure (wpAny_bind (wpAny_fieldsOf hit rfl ?_))))))))
 simp only [show Builtin.Dict_items.ownsTuple "dict_itemiterator" = true from by decide,if_true]
 show wpAny _ _ (if (Value.ref d == Value.none) = true then _ else _) _ _ s; rw [show (Value.ref d == Value.none) = false from rfl,if_neg Bool.false_ne_true]
 refine wpAny_bind (wpAny_pure (wpAny_bind (wpAny_dictEntries hod hdd ?_)))
 rw [if_neg (by simp)]
 refine wpAny_bind (wpAny_pure (wpAny_bind (wpAny_dictEpoch hod hdd ?_)))
 rw [if_neg (by simp)]
 refine wpAny_pure ?_
 simp only [show ¬ ((i:Int) < 0) from by omega,if_false,Int.toNat_natCast,Array.getElem?_eq_none hx]
 refine wpAny_bind (wpAny_bind (wpAny_typeNameOfWhole_itemiter hT (wpAny_pure ?_)))
 show wpAny _ _ (setField (.ref it) 2 .none >>= _) _ _ s; refine wpAny_bind (wpAny_setField hit rfl (by simp) ?_)
 show wpAny _ _ (newExc (.type "StopIteration") [] >>= _) _ _ _; refine wpAny_bind ?_
 simp only [newExc,newTuple]; refine wpAny_bind (wpAny_newObj_type ?_ (by size_fits))
 refine wpAny_bind (m:=firstArgMember _ _) (wpAny_of_eq (a:=Value.none) (by first | rfl | (simp only [firstArgMember]; rfl)) (wpAny_newObj_type ?_ (by size_fits)))
 simp only [raiseNew]; refine wpAny_bind (wpAny_handled ?_); rw [show A.in1.handled = none from hh]
 refine wpAny_bind (wpAny_pure (wpAny_throw ?_)); refine wpAny_bind (wpAny_isInstance (b:=true) (T:="StopIteration") ⟨_,Heap.get?_push_size _ rfl,rfl⟩ isSubtype_stop (wpAny_pure ?_))
 exact hQ _ (((Heap.SameBut.update ..).extBut.push _).push _)
theorem ym6 {v d:Addr} {es:Array DictEntry} {ep:Nat} {Q:Value -> Shared -> Prop} (hv:s.heap.IsValuesView v d) (hm:RawD s.heap d es ep)
  (hQ:Q (.ref s.heap.objs.size) { s with heap:=s.heap.push { cls:=.type "dict_valueiterator",data:=.fields #[.ref d,.int 0 0,.int es.size 0,.int ep 0] } }):wpAny (model prog w) A (pyIter (.ref v)) Q E s:=by
 have hT:=hv.typeIs
 obtain ⟨ov,hov,hcv,hdv⟩:=hv
 obtain ⟨o,ho,hc,hdat⟩:=hm
 refine wpAny_pyIter_slot hT F.slot_dict_values_iter (wpAny_call_entry F.slot_dict_values_iter hT F.entry_dict_values_iter ?_ (F.args_dict_values_iter_1 _))
 unfold Builtin.«dict_values.__iter__» Builtin.Dict_items.dictOf
 refine wpAny_bind (wpAny_pure (wpAny_bind (wpAny_bind (wpAny_field hov hdv (x:=.ref d) rfl (wpAny_pure (wpAny_bind ?_))))))
 unfold Builtin.Dict_items.newIterator; refine wpAny_bind (wpAny_dictEntries ho hdat (wpAny_bind (wpAny_dictEpoch ho hdat ?_)))
 simp only [show Builtin.Dict_items.ownsTuple "dict_valueiterator" = false from by decide,Bool.false_eq_true,if_false]
 exact wpAny_newObj_type (wpAny_pure ⟨_,rfl,"dict_valueiterator",_,⟨_,Heap.get?_push_size _ rfl,rfl⟩,F.slot_dict_valueiterator_next.lookup,hQ⟩)
end
end LS
namespace L2
open PySem PySem.Spec PyProof.Rows LS
def held (d:Addr) (o:Obj):HO:=.ext fun h=>h.get? d = some o
def xw2 (n:String) (a d:Addr):HO:=.ext fun h=>∃ o,h.get? a = some o /\ o.cls = .type n /\ o.data = .fields #[.ref d]
structure DIs (P:Program) (w:World) (d:Addr) (o:Obj) (kvs:List (List Key × V)) (xs:List (List Key × Addr × Value)) (es:Array DictEntry) (ep:Nat):Prop where
 len:kvs.length <= sizeLine
 sys:(d == sysModules) = false
 ex:o.ExactDict
 data:o.data = .dict es ep
 es:es.toList = xs.map (entryOfKey (tupleKind (xc5 P w)))
 nd:(xs.map (·.1)).Nodup
theorem zj1 {P:Program} {w:World} {H:Hp} {h:Heap} {d:Addr} {o:Obj} (e:h.get? d = some o):xe7 P w H h d (held d o):=⟨e,⟨o,e⟩,fun h1 h2 q k=>k _ q⟩
theorem xh2 {P:Program} {w:World} {H:Hp} {h:Heap} {d:Addr} {o:Obj} (ok:HOk P w H h) (e:H d = some (held d o)):h.get? d = some o:=(ok d _ e).1
section
variable {X:Cx} {pins:List (Addr × Obj)} {σ:St} {H:Hp} {s:Shared}
theorem zi9 {d:Addr} {kvs:List (List Key × V)} (I:Inv X pins σ H s) (e:H d = some (.dT kvs)):∃ o xs es ep,DIs X.prog X.w d o kvs xs es ep /\ KT H kvs xs /\ Inv X pins σ (upd H d (held d o)) s:=by
 obtain ⟨z1,z2,xs,rel,o,es,ep,h1,h2,h3,h4,h5⟩:=(show xe7 X.prog X.w H s.heap d (.dT kvs) from I.hok d _ e)
 refine ⟨o,xs,es,ep,⟨z1,z2,h2,h3,h4,h5⟩,rel,?_⟩
 have:=I.write (x:=d) (e:=d) (o:=held d o) (t':=s.toks) (h':=s.heap) (by rw [e]; trivial) (.inl rfl) (fun b u _ q=>q) ⟨o,h1⟩ (zj1 h1)
 exact this
theorem yi4 {d:Addr} {o:Obj} {kvs:List (List Key × V)} {xs:List (List Key × Addr × Value)} {es:Array DictEntry} {ep:Nat} (I:Inv X pins σ H s) (e:H d = some (held d o)) (D:DIs X.prog X.w d o kvs xs es ep) (k:KT H kvs xs) :
  Inv X pins σ (upd H d (.dT kvs)) s:=by
 have h1:=xh2 I.hok e
 refine I.write (x:=d) (e:=d) (t':=s.toks) (h':=s.heap) (by rw [e]; trivial) (.inl rfl) (fun b u _ q=>q) ⟨o,h1⟩ ?_
 refine ⟨D.len,D.sys,xs,k.keeps fun b ys q=>?_,o,es,ep,h1,D.ex,D.data,D.es,D.nd⟩
 rw [xa2]
 ·exact q
 ·rintro rfl; rw [e] at q; cases q
def tHold (P:Program) (w:World) (t:TE):TE:=fun σ H Q=>∃ d kvs,H d = some (.dT kvs) /\ ∀ o xs es ep,DIs P w d o kvs xs es ep -> KT H kvs xs -> t σ (upd H d (held d o)) fun v H1=>H1 d = some (held d o) /\ xp6 H H1 /\ Q v (upd H1 d (.dT kvs))
theorem xz1 {e:Expr} {t:TE} (h:PE X e t):PE X e (tHold X.prog X.w t):=by
 intro pins s σ H Q I q
 obtain ⟨d,kvs,hd,q⟩:=q
 obtain ⟨o,xs,es,ep,D,k,I1⟩:=zi9 I hd
 refine thn (h pins s σ _ _ I1 (q o xs es ep D k)) fun u s1 ⟨v,H1,I2,r,e1,ts,q1⟩=>⟨v,_,yi4 I2 e1 D (k.keeps ts),r,q1⟩
def sHold (P:Program) (w:World) (t:TS):TS:=fun D σ H=>∃ d kvs,H d = some (.dT kvs) /\ ∀ o xs es ep,DIs P w d o kvs xs es ep -> KT H kvs xs ->
 t { nx:=fun σ1 H1=>H1 d = some (held d o) /\ xp6 H H1 /\ D.nx σ1 (upd H1 d (.dT kvs)),rt:=fun _ _=>False } σ (upd H d (held d o))
theorem xy7 {e:Stmt} {t:TS} (h:PS X e t):PS X e (sHold X.prog X.w t):=by
 intro pins s σ H D I q
 obtain ⟨d,kvs,hd,q⟩:=q
 obtain ⟨o,xs,es,ep,Dd,k,I1⟩:=zi9 I hd
 refine thn (h pins s σ _ _ I1 (q o xs es ep Dd k)) fun f s1 sp=>?_
 cases f with
 | next=>obtain ⟨σ1,H1,I2,e1,ts,q1⟩:=sp; exact ⟨σ1,_,yi4 I2 e1 Dd (k.keeps ts),q1⟩
 | brk=>obtain ⟨σ1,H1,I2,e1⟩:=sp; exact e1.elim
 | cont=>obtain ⟨σ1,H1,I2,e1⟩:=sp; exact e1.elim
 | ret u=>obtain ⟨v,σ1,H1,I2,r,e1⟩:=sp; exact e1.elim
end
def Itd (d:Addr) (o:Obj) (vs:List V):It:=⟨fun i H=>H d = some (held d o) /\ i < vs.length,fun i H x H'=>H' = H /\ vs[i]? = some x,fun i H=>H d = some (held d o) /\ vs.length <= i⟩
theorem xx7:∀ {vs:List V} {us:List Value},Vals vs us -> ∀ {i:Nat} {u:Value},us[i]? = some u -> ∃ v,vs[i]? = some v /\ RelV v u
 | _,_,.nil,i,u,e=>by simp at e
 | _,_,.cons r t,0,u,e=>by simp only [List.getElem?_cons_zero,Option.some.injEq] at e; subst e; exact ⟨_,rfl,r⟩
 | _,_,.cons r t,i + 1,u,e=>by simp only [List.getElem?_cons_succ] at e ⊢; exact xx7 t e
theorem turn_key {P:Program} {w:World} {K:Frag} {tg:Expr} {d it:Addr} {o:Obj} {vs:List V} {es:Array DictEntry} {ep:Nat} (hex:o.ExactDict) (hdat:o.data = .dict es ep) (hv:Vals vs (es.toList.map (·.key))) :
  Turn P w K tg (Itd d o vs) [it] it (fun i h=>h.IsKeyIter it d i es.size ep) where
 mem:=by simp
 obj:=fun i h st b hb=>by
  obtain rfl:b = it:=by simpa using hb
  obtain ⟨o,e,c,d⟩:=st
  exact ⟨o,e,fun v z=>by rw [d] at z; cases z⟩
 keep:=fun i h h' st k=>by
  obtain ⟨o,e,c,d⟩:=st
  exact ⟨o,k it (by simp) o e,c,d⟩
 item:=by
  intro X hP hw hK hc i pins s σ H E I hf st hg
  subst hP hw hK
  obtain ⟨hd,hg⟩:=hg
  obtain ⟨f0,f1,f2,f3,f4,f5⟩:=hf it (by simp)
  have hl:vs.length = es.size:=by rw [hv.length,List.length_map,Array.length_toList]
  have hi:i < es.size:=by omega
  obtain ⟨v,hv1,hv2⟩:=xx7 hv (i:=i) (u:=es[i].key) (by simp [hi])
  refine yv2 st ⟨o,xh2 I.hok hd,hex,hdat⟩ (e:=es[i]) (by simp [hi]) fun h' st' sb=>?_
  have I1:Inv X pins σ H { s with heap:=h' }:=I.turned (t':=s.toks) (fun b o hb e=>(sb.2 b hb).trans e) f0 f1 f3 f4 f5
  obtain ⟨o',e1,c,d'⟩:=id st'
  exact ⟨_,rfl,yn2 (s:={ s with heap:=h' }) e1 c d' (by decide) ⟨v,H,I1,hv2,⟨rfl,hv1⟩,st',fun b hb=>(hf b hb).1⟩⟩
 done:=by
  intro X hP hw hK hc i pins s σ H E I hf st hg
  subst hP hw hK
  obtain ⟨hd,hg⟩:=hg
  obtain ⟨f0,f1,f2,f3,f4,f5⟩:=hf it (by simp)
  have hl:vs.length = es.size:=by rw [hv.length,List.length_map,Array.length_toList]
  exact zk2 (I.ok.hd hc) st ⟨o,xh2 I.hok hd,hex,hdat⟩ (by omega) fun h' eb=>⟨rfl,I.turned (t':=s.toks) (fun b o hb e=>eb b o hb e) f0 f1 f3 f4 f5⟩
 self:=fun _ _ _ _ _ st h=>wpAny_pyIter_keyiter st h
theorem turn_val {P:Program} {w:World} {K:Frag} {tg:Expr} {d it:Addr} {o:Obj} {vs:List V} {es:Array DictEntry} {ep:Nat} (hex:o.ExactDict) (hdat:o.data = .dict es ep) (hv:Vals vs (es.toList.map (·.val))) :
  Turn P w K tg (Itd d o vs) [it] it (fun i h=>h.IsValIter it d i es.size ep) where
 mem:=by simp
 obj:=fun i h st b hb=>by
  obtain rfl:b = it:=by simpa using hb
  obtain ⟨o,e,c,d⟩:=st
  exact ⟨o,e,fun v z=>by rw [d] at z; cases z⟩
 keep:=fun i h h' st k=>by
  obtain ⟨o,e,c,d⟩:=st
  exact ⟨o,k it (by simp) o e,c,d⟩
 item:=by
  intro X hP hw hK hc i pins s σ H E I hf st hg
  subst hP hw hK
  obtain ⟨hd,hg⟩:=hg
  obtain ⟨f0,f1,f2,f3,f4,f5⟩:=hf it (by simp)
  have hl:vs.length = es.size:=by rw [hv.length,List.length_map,Array.length_toList]
  have hi:i < es.size:=by omega
  obtain ⟨v,hv1,hv2⟩:=xx7 hv (i:=i) (u:=es[i].val) (by simp [hi])
  refine yv1 st ⟨o,xh2 I.hok hd,hex,hdat⟩ (e:=es[i]) (by simp [hi]) fun h' st' sb=>?_
  have I1:Inv X pins σ H { s with heap:=h' }:=I.turned (t':=s.toks) (fun b o hb e=>(sb.2 b hb).trans e) f0 f1 f3 f4 f5
  obtain ⟨o',e1,c,d'⟩:=id st'
  exact ⟨_,rfl,yn2 (s:={ s with heap:=h' }) e1 c d' (by decide) ⟨v,H,I1,hv2,⟨rfl,hv1⟩,st',fun b hb=>(hf b hb).1⟩⟩
 done:=by
  intro X hP hw hK hc i pins s σ H E I hf st hg
  subst hP hw hK
  obtain ⟨hd,hg⟩:=hg
  obtain ⟨f0,f1,f2,f3,f4,f5⟩:=hf it (by simp)
  have hl:vs.length = es.size:=by rw [hv.length,List.length_map,Array.length_toList]
  exact zk1 (I.ok.hd hc) st ⟨o,xh2 I.hok hd,hex,hdat⟩ (by omega) fun h' eb=>⟨rfl,I.turned (t':=s.toks) (fun b o hb e=>eb b o hb e) f0 f1 f3 f4 f5⟩
 self:=fun _ _ _ _ _ st h=>wpAny_pyIter_valiter st h
def iKey (tl:TE):TI:=fun σ H R=>tl σ H fun x H1=>∃ d o vs es ep,x = .ref d /\ H1 d = some (held d o) /\ (d == sysModules) = false /\ o.ExactDict /\ o.data = .dict es ep /\ Vals vs (es.toList.map (·.key)) /\ R (Itd d o vs) H1
theorem pi_key {X:Cx} {tg l:Expr} {tl:TE} (hl:PE X l tl):PI X tg l (iKey tl):=by
 intro pins s σ H R I h
 refine thn (hl pins s σ H _ I h) fun v s1 ⟨y,H1,I1,r1,q1⟩=>?_
 obtain ⟨d,o,vs,es,ep,rfl,hd,hs,hex,hdat,hv,q⟩:=q1
 cases r1
 have fp:∀ b ∈ [s1.heap.objs.size],FpOk X pins H1 b:=fun b hb=>by
  obtain rfl:b = s1.heap.objs.size:=by simpa using hb
  exact I1.fpOk (Nat.le_refl _) (I1.hok.fresh (Nat.le_refl _))
 exact yv7 hs ⟨o,xh2 I1.hok hd,hex,hdat⟩ ⟨s1.heap.objs.size,[s1.heap.objs.size],_,_,H1,rfl,I1.kept (t':=s1.toks) fun b o e=>Heap.get?_push_of_some _ e,turn_key hex hdat hv,⟨_,Heap.get?_push_size _ rfl,rfl,rfl⟩,fp,q⟩
def iVal (tl:TE):TI:=fun σ H R=>tl σ H fun x H1=>∃ p d o vs es ep,x = .ref p /\ H1 p = some (xw2 "dict_values" p d) /\ H1 d = some (held d o) /\ o.ExactDict /\ o.data = .dict es ep /\ Vals vs (es.toList.map (·.val)) /\ R (Itd d o vs) H1
theorem pi_val {X:Cx} {tg l:Expr} {tl:TE} (hl:PE X l tl):PI X tg l (iVal tl):=by
 intro pins s σ H R I h
 refine thn (hl pins s σ H _ I h) fun v s1 ⟨y,H1,I1,r1,q1⟩=>?_
 obtain ⟨p,d,o,vs,es,ep,rfl,hp,hd,hex,hdat,hv,q⟩:=q1
 cases r1
 have fp:∀ b ∈ [s1.heap.objs.size],FpOk X pins H1 b:=fun b hb=>by
  obtain rfl:b = s1.heap.objs.size:=by simpa using hb
  exact I1.fpOk (Nat.le_refl _) (I1.hok.fresh (Nat.le_refl _))
 have hvw:s1.heap.IsValuesView p d:=(I1.hok p _ hp).1
 exact ym6 hvw ⟨o,xh2 I1.hok hd,hex,hdat⟩ ⟨s1.heap.objs.size,[s1.heap.objs.size],_,_,H1,rfl,I1.kept (t':=s1.toks) fun b o e=>Heap.get?_push_of_some _ e,turn_val hex hdat hv,⟨_,Heap.get?_push_size _ rfl,rfl,rfl⟩,fp,q⟩
section
variable {X:Cx} {o:Expr} {to:TE} {apos cpos:Pos}
def tView (n:String) (to:TE):TE:=fun σ H Q=>to σ H fun x H1=>∃ d o es ep,x = .ref d /\ H1 d = some (held d o) /\ (d == sysModules) = false /\ o.ExactDict /\ o.data = .dict es ep /\ ∀ p,H1 p = none -> Q (.ref p) (upd H1 p (xw2 n p d))
theorem yj9 {pins:List (Addr × Obj)} {σ:St} {H:Hp} {s:Shared} {d:Addr} {n:String} (I:Inv X pins σ H s):Inv X pins σ (upd H s.heap.objs.size (xw2 n s.heap.objs.size d)) { s with heap:=s.heap.push { cls:=.type n,data:=.fields #[.ref d] } } :=
 I.laid (t':=s.toks) (fun b u e=>Heap.get?_push_of_some _ e) (Nat.le_refl _) ⟨⟨_,Heap.get?_push_size _ rfl,rfl,rfl⟩,⟨_,Heap.get?_push_size _ rfl⟩,fun h1 h2 ⟨o,q1,q⟩ k=>⟨o,k _ q1,q⟩⟩
theorem xm7 (ho:PE X o to) (hbase:attributeBase o "values" X.env (eval o X.env) = eval o X.env:=by rfl) (hline:(apos.endLine == cpos.line) = true:=by rfl):PE X (.Call (.Attribute o "values" apos) [] [] cpos) (tView "dict_values" to):=by
 intro pins s σ H Q I h
 refine wpAny_Call_method0_late hbase hline (thn (ho pins s σ H _ I h) fun v s1 ⟨x,H1,I1,r1,d,ob,es,ep,e,hd,hs,hex,hdat,q⟩=>?_)
 subst e
 cases r1
 have h1:=xh2 I1.hok hd
 refine ⟨"dict","dict.values",PySem.F.plainAttrs_dict,PySem.F.slot_dict_values,PySem.F.type_dict_values,⟨ob,h1,hex.1⟩,fun a z=>by cases z; exact ⟨ob,h1,hex.2.1⟩,Calls.callWith_builtin rfl (PySem.evalArgs_none ?_)⟩
 exact vals_raw hs ⟨ob,h1,hex,hdat⟩ ⟨.ref s1.heap.objs.size,_,yj9 I1,rfl,q _ (I1.hok.fresh (Nat.le_refl _))⟩
theorem xs0 (ho:PE X o to) (hbase:attributeBase o "items" X.env (eval o X.env) = eval o X.env:=by rfl) (hline:(apos.endLine == cpos.line) = true:=by rfl):PE X (.Call (.Attribute o "items" apos) [] [] cpos) (tView "dict_items" to):=by
 intro pins s σ H Q I h
 refine wpAny_Call_method0_late hbase hline (thn (ho pins s σ H _ I h) fun v s1 ⟨x,H1,I1,r1,d,ob,es,ep,e,hd,hs,hex,hdat,q⟩=>?_)
 subst e
 cases r1
 have h1:=xh2 I1.hok hd
 refine ⟨"dict","dict.items",PySem.F.plainAttrs_dict,PySem.F.slot_dict_items,PySem.F.type_dict_items,⟨ob,h1,hex.1⟩,fun a z=>by cases z; exact ⟨ob,h1,hex.2.1⟩,Calls.callWith_builtin rfl (PySem.evalArgs_none ?_)⟩
 exact zi5 hs ⟨ob,h1,hex,hdat⟩ ⟨.ref s1.heap.objs.size,_,yj9 I1,rfl,q _ (I1.hok.fresh (Nat.le_refl _))⟩
end
theorem Inv.trackF {X:Cx} {pins:List (Addr × Obj)} {σ:St} {H:Hp} {s:Shared} {a:Addr} {o:HO} (I:Inv X pins σ H s) (f:FpOk X pins H a) (hs:X.s₀.heap.objs.size <= a) (new:xe7 X.prog X.w (upd H a o) s.heap a o):Inv X pins σ (upd H a o) s:=by
 obtain ⟨f0,f1,f2,f3,f4,f5⟩:=f
 have ne:∀ {b u},H b = some u -> b ≠ a:=fun e z=>by rw [z,f0] at e; cases e
 refine ⟨I.ok,I.os,I.bare,⟨I.base.keep,I.base.slot,fun b ob q n hx=>?_,I.base.there,fun b xs q=>?_,fun b ob u q=>?_,fun b ps q=>?_⟩,I.loc,I.cell,?_,fun x c e=>?_,fun p hp=>?_,fun b u e=>?_,I.len⟩
 ·rw [xa2 (Nat.ne_of_lt (Nat.lt_of_lt_of_le (Heap.lt_size q) hs))]; exact I.base.free b ob q n hx
 ·have:=I.base.tups b xs q
  rw [xa2 (ne this)]; exact this
 ·have:=I.base.frzs b ob u q
  rw [xa2 (ne this)]; exact this
 ·obtain ⟨m,e⟩:=I.base.tbls b ps q
  exact ⟨m,by rw [xa2 (ne e)]; exact e⟩
 ·rw [xa2 (Ne.symm f1)]; exact I.free
 ·rw [xa2 (f4 x c e)]; exact I.freeC x c e
 ·obtain ⟨p1,p2,p3⟩:=I.pin p hp
  exact ⟨p1,by rw [xa2 (f5 p hp)]; exact p2,p3⟩
 ·by_cases hb:b = a
  ·subst hb; rw [xa0] at e; cases e; exact new
  ·rw [xa2 hb] at e
   exact (I.hok b u e).stay (fun c v _ q=>q) (fun c q=>by rw [xa2 (ne q)]; exact q) fun c xs q=>by rw [xa2 (ne q)]; exact q
theorem yd5:entryFor table "dict_itemiterator.__iter__" = some Builtin.«dict_keyiterator.__iter__»:=entryFor_alias (id':="dict_keyiterator.__iter__") (by kernel_rfl) rfl (by decide +kernel) (by kernel_rfl)
def Itp (d:Addr) (o:Obj) (ks vs:List V):It:=⟨fun i H=>H d = some (held d o) /\ i < ks.length,fun i H x H'=>∃ p k v,x = .ref p /\ H p = none /\ ks[i]? = some k /\ vs[i]? = some v /\ H' = upd H p (.tup [k,v]),fun i H=>H d = some (held d o) /\ ks.length <= i⟩
theorem yx7 {P:Program} {w:World} {K:Frag} {elts:List Expr} {x1} {tpos:Pos} {d it:Addr} {o:Obj} {ks vs:List V} {es:Array DictEntry} {ep:Nat} (hex:o.ExactDict) (hdat:o.data = .dict es ep) (hk:Vals ks (es.toList.map (·.key))) (hv:Vals vs (es.toList.map (·.val))) :
  Turn P w K (.Tuple elts x1 tpos) (Itp d o ks vs) [it] it (fun i h=>∃ ok ov,IsItemIter h it d i es.size ep ok ov) where
 mem:=by simp
 obj:=fun i h st b hb=>by
  obtain rfl:b = it:=by simpa using hb
  obtain ⟨ok,ov,e⟩:=st
  exact ⟨_,e,fun v z=>by cases z⟩
 keep:=fun i h h' st k=>by
  obtain ⟨ok,ov,e⟩:=st
  exact ⟨ok,ov,k it (by simp) _ e⟩
 item:=by
  intro X hP hw hK hc i pins s σ H E I hf st hg
  subst hP hw hK
  obtain ⟨hd,hg⟩:=hg
  obtain ⟨ok,ov,st⟩:=st
  obtain ⟨f0,f1,f2,f3,f4,f5⟩:=hf it (by simp)
  have hl:ks.length = es.size:=by rw [hk.length,List.length_map,Array.length_toList]
  have hi:i < es.size:=by omega
  obtain ⟨k,hk1,hk2⟩:=xx7 hk (i:=i) (u:=es[i].key) (by simp [hi])
  obtain ⟨v,hv1,hv2⟩:=xx7 hv (i:=i) (u:=es[i].val) (by simp [hi])
  refine ye7 st ⟨o,xh2 I.hok hd,hex,hdat⟩ (e:=es[i]) (by simp [hi]) fun h' st' ht hz kp=>?_
  refine ⟨_,rfl,wpAny_letOwnedTupleGo_items (s:={ s with heap:=h' }) st' fun h2 st2 sb2=>?_⟩
  have sb2:Heap.SameBut it h' h2:=sb2
  have nit:s.heap.objs.size ≠ it:=Nat.ne_of_gt (Heap.lt_size st)
  have I1:Inv X pins σ H { s with heap:=h2 }:=I.turned (t':=s.toks) (fun b o hb e=>(sb2.2 b hb).trans (kp b o hb e)) f0 f1 f3 f4 f5
  have ht2:h2.get? s.heap.objs.size = some { cls:=.type "tuple",data:=.seq #[es[i].key,es[i].val] }:=(sb2.2 _ nit).trans ht
  have hn:H s.heap.objs.size = none:=I.hok.fresh (Nat.le_refl _)
  refine ⟨.ref s.heap.objs.size,upd H s.heap.objs.size (.tup [k,v]),?_,rfl,⟨_,k,v,rfl,hn,hk1,hv1,rfl⟩,⟨_,_,st2⟩,fun b hb=>?_⟩
  ·obtain ⟨g0,g1,g2,g3,g4,g5⟩:=I.fpOk (Nat.le_refl _) hn
   refine I1.trackF ⟨g0,g1,g2,g3,g4,g5⟩ (Nat.le_trans I.sz (Nat.le_refl _)) ⟨by show 2 <= sizeLine; decide,[es[i].key,es[i].val],.cons hk2 (.cons hv2 .nil),_,ht2,rfl,_,rfl⟩
  ·obtain rfl:b = it:=by simpa using hb
   rw [xa2 (Ne.symm nit)]; exact f0
 done:=by
  intro X hP hw hK hc i pins s σ H E I hf st hg
  subst hP hw hK
  obtain ⟨hd,hg⟩:=hg
  obtain ⟨ok,ov,st⟩:=st
  obtain ⟨f0,f1,f2,f3,f4,f5⟩:=hf it (by simp)
  have hl:ks.length = es.size:=by rw [hk.length,List.length_map,Array.length_toList]
  exact yn8 (I.ok.hd hc) st ⟨o,xh2 I.hok hd,hex,hdat⟩ (by omega) fun h' eb=>⟨rfl,I.turned (t':=s.toks) (fun b o hb e=>eb b o hb e) f0 f1 f3 f4 f5⟩
 self:=fun _ _ _ _ _ st h=>by
  obtain ⟨ok,ov,st⟩:=st
  have hT:Shared.TypeIs _ (.ref it) "dict_itemiterator":=⟨_,st,rfl⟩
  refine wpAny_pyIter_slot hT F.slot_dict_itemiterator_iter (wpAny_call_entry F.slot_dict_itemiterator_iter hT yd5 ?_ (F.args_dict_itemiterator_iter_1 _))
  show wpAny _ _ (ret (.ref it)) _ _ _; exact wpAny_pure ⟨_,rfl,"dict_itemiterator",_,hT,F.slot_dict_itemiterator_next.lookup,h⟩
def iItems (tl:TE):TI:=fun σ H R=>tl σ H fun x H1=>∃ p d o ks vs es ep,x = .ref p /\ H1 p = some (xw2 "dict_items" p d) /\ H1 d = some (held d o) /\ o.ExactDict /\ o.data = .dict es ep /\ Vals ks (es.toList.map (·.key)) /\ Vals vs (es.toList.map (·.val)) /\ R (Itp d o ks vs) H1
theorem xx1 {X:Cx} {elts:List Expr} {x1} {tpos:Pos} {l:Expr} {tl:TE} (hl:PE X l tl):PI X (.Tuple elts x1 tpos) l (iItems tl):=by
 intro pins s σ H R I h
 refine thn (hl pins s σ H _ I h) fun v s1 ⟨y,H1,I1,r1,q1⟩=>?_
 obtain ⟨p,d,o,ks,vs,es,ep,rfl,hp,hd,hex,hdat,hk,hv,q⟩:=q1
 cases r1
 have fp:∀ b ∈ [s1.heap.objs.size],FpOk X pins H1 b:=fun b hb=>by
  obtain rfl:b = s1.heap.objs.size:=by simpa using hb
  exact I1.fpOk (Nat.le_refl _) (I1.hok.fresh (Nat.le_refl _))
 have hvw:s1.heap.IsItemsView p d:=(I1.hok p _ hp).1
 exact ye8 hvw ⟨o,xh2 I1.hok hd,hex,hdat⟩ ⟨s1.heap.objs.size,[s1.heap.objs.size],_,_,H1,rfl,I1.kept (t':=s1.toks) fun b o e=>Heap.get?_push_of_some _ e,yx7 hex hdat hk hv,⟨.none,.none,Heap.get?_push_size _ rfl⟩,fp,q⟩
theorem xm9 {P:Program} {w:World} {d:Addr} {o:Obj} {kvs:List (List Key × V)} {xs:List (List Key × Addr × Value)} {es:Array DictEntry} {ep:Nat} (D:DIs P w d o kvs xs es ep):Vals (xs.map fun x=>V.ref x.2.1) (es.toList.map (·.key)):=by
 rw [D.es,List.map_map]
 clear D
 induction xs with
 | nil=>exact .nil
 | cons x xs ih=>exact .cons rfl ih
theorem xj4 {P:Program} {w:World} {H:Hp} {d:Addr} {o:Obj} {kvs:List (List Key × V)} {xs:List (List Key × Addr × Value)} {es:Array DictEntry} {ep:Nat} (D:DIs P w d o kvs xs es ep) (k:KT H kvs xs):Vals (kvs.map (·.2)) (es.toList.map (·.val)):=by
 rw [D.es,List.map_map]
 clear D
 induction k with
 | nil=>exact .nil
 | cons hq t ih=>exact .cons hq.2.2 ih
theorem zl1 {d D:Addr} {o:Obj} {vs:List V} {g:TG} {te:TE} {σ0:St} {H1:Hp} {Q:Hp -> Prop} (R:V -> V -> Hp -> Prop) (ok:St -> Prop) (mono:∀ H H' x v,xp6 H H' -> R x v H -> R x v H')
  (hd0:H1 d = some (held d o)) (hD:H1 D = none) (hz:vs.length <= 1000) (h0:ok σ0)
  (hs:∀ x σ' H (N:St -> V -> Hp -> Prop),x ∈ vs -> ok σ' -> Same H1 H -> (∀ σ3 v H4,R x v H4 -> Same H H4 -> ok σ3 -> N σ3 v H4) -> g x σ' H fun σ3 H3=>te σ3 H3 fun v H4=>N σ3 v H4)
  (hd:∀ ys H',Same H1 H' -> H' D = some (.lst ys) -> Paired (fun x v=>R x v H') vs ys -> Q H') :
  ∃ W:Nat -> Nat -> St -> Hp -> Prop,(∃ m,W 0 m σ0 (upd H1 D (.lst []))) /\
   ∀ i m σ' H',W i m σ' H' -> ((Itd d o vs).stop i H' /\ Q H') \/ ((Itd d o vs).go i H' /\ ∀ x H2,(Itd d o vs).yld i H' x H2 -> g x σ' H2 fun σ3 H3=>te σ3 H3 fun v H4=>∃ xs,H4 D = some (.lst xs) /\ xs.length < sizeLine /\ ∃ m',m' < m /\ W (i + 1) m' σ3 (upd H4 D (.lst (xs ++ [v])))):=by
 refine ⟨fun i m σ' H'=>m = vs.length - i /\ i <= vs.length /\ ok σ' /\ Same H1 H' /\ ∃ ys,H' D = some (.lst ys) /\ Paired (fun x v=>R x v H') (vs.take i) ys,⟨vs.length,by simp,Nat.zero_le _,h0,Same.new hD,[],xa0,by rw [List.take_zero]; exact .nil⟩,?_⟩
 rintro i m σ' H' ⟨rfl,hi,hok,hsm,ys,hy,hp⟩
 have hyl:ys.length = i:=by rw [<- Paired.length hp,List.length_take,Nat.min_eq_left hi]
 by_cases hlt:i < vs.length
 ·refine .inr ⟨⟨hsm _ _ hd0,hlt⟩,fun x H2 y=>?_⟩
  obtain ⟨e,hx⟩:=y
  subst e
  refine hs x σ' _ (fun σ3 v H4=>∃ xs',H4 D = some (.lst xs') /\ xs'.length < sizeLine /\ ∃ m',m' < vs.length - i /\ _) (List.mem_of_getElem? hx) hok hsm fun σ3 v H4 r s4 ok3=>?_
  have tD:xp6 H4 (upd H4 D (.lst (ys ++ [v]))):=fun b zs e=>by
   rw [xa2 (xb9 e (s4 _ _ hy) (by intro z; cases z))]; exact e
  refine ⟨ys,s4 _ _ hy,Nat.lt_of_lt_of_le (show ys.length < 1001 by omega) (by decide),vs.length - (i + 1),by omega,rfl,hlt,ok3,(hsm.trans s4).upd hD,ys ++ [v],xa0,?_⟩
  rw [show vs.take (i + 1) = vs.take i ++ [x] by rw [List.take_add_one,hx]; rfl]
  exact Paired.snoc (Paired.mapP hp fun b w q=>mono _ _ _ _ (s4.tup.trans tD) q) (mono _ _ _ _ tD r)
 ·have e:i = vs.length:=by omega
  subst e
  refine .inl ⟨⟨hsm _ _ hd0,Nat.le_refl _⟩,hd ys H' hsm hy (by rw [List.take_length] at hp; exact hp)⟩
section
variable {X:Cx} {tg iter elt tst:Expr} {scope:Scope} {N:List Str} {js:List (Option Nat)} {pos:Pos}
theorem yt0 {prog:Program} {w:World} {A:Around} {R:Result -> Shared -> Prop} {s:Shared} {it acc:Value} {env:Env} (I:Nat -> Shared -> Prop)
  (turn:∀ n s,I n s -> wpAny (model prog w) A (pyNext it) (fun r s1=>match r with
   | none=>R (.ok .next) s1
   | some v=>wpAny (model prog w) A (letOwnedTupleGo tg it v) (fun _ s2=>wpAny (model prog w) A (assign tg env v) (fun _ s3=>wpAny (model prog w) A (isTrue tst env (eval tst env)) (fun b s4=>if b = true then
     wpAny (model prog w) A (eval elt env) (fun x s5=>wpAny (model prog w) A (call (.builtin "list.append") [acc,x]) (fun _ s6=>∃ m,m < n /\ I m s6) (fun _ _=>False) s5) (fun _ _=>False) s4
     else ∃ m,m < n /\ I m s4) (fun _ _=>False) s3) (fun _ _=>False) s2) (fun _ _=>False) s1) (fun _ _=>False) s)
  (n:Nat) (h:I n s):codeAny (model prog w) A (.compLoop (.ListComp elt [⟨tg,iter,[tst],0⟩] scope pos) 0 it acc env) R s:=by
 refine codeAny_loop rfl I (fun n s hI=>?_) n h; show wpAny _ A ((compTurn (.ListComp elt [⟨tg,iter,[tst],0⟩] scope pos) 0 it acc env).onRaise (fun x=>do noteFrame x env; theTreesLotGoes x)) _ _ s
 refine wpAny_noted ?_
 rw [compTurn_list]
 refine wpAny_bind (wpAny_standAt (wpAny_bind (wpAny_mono (turn n s hI) (fun r s1 h1=>?_) fun _ _ h'=>h'.elim)))
 cases r with
 | none=>exact wpAny_pure h1
 | some v =>
  refine wpAny_bind (wpAny_mono h1 (fun _ s2 h2=>wpAny_bind (wpAny_mono h2 (fun _ s3 h3=>wpAny_bind (wpAny_tests_one (wpAny_mono h3 (fun b s4 h4=>?_) fun _ _ h'=>h'.elim))) fun _ _ h'=>h'.elim)) fun _ _ h'=>h'.elim)
  cases b with
  | false=>exact wpAny_pure ⟨rfl,by simpa using h4⟩
  | true =>
   have h4:=by simpa using h4
   exact wpAny_bind (wpAny_bind (wpAny_mono h4 (fun x s5 h5=>wpAny_bind (wpAny_mono h5 (fun _ s6 h6=>wpAny_pure (wpAny_pure ⟨rfl,h6⟩)) fun _ _ h'=>h'.elim)) fun _ _ h'=>h'.elim))
def zd3 (js:List (Option Nat)) (wi:TI) (g:TG) (tt:TT) (te:TE):TE:=fun σ H Q=>wi σ H fun J H1=>∀ D,H1 D = none -> ∃ W:Nat -> Nat -> St -> Hp -> Prop,(∃ m,W 0 m (seen js σ) (upd H1 D (.lst []))) /\
 ∀ i m σ' H',W i m σ' H' -> (J.stop i H' /\ Q (.ref D) H') \/ (J.go i H' /\ ∀ x H2,J.yld i H' x H2 -> g x σ' H2 fun σ3 H3=>tt σ3 H3 fun b H4=>if b = true then te σ3 H4 fun v H5=>∃ xs,H5 D = some (.lst xs) /\ xs.length < sizeLine /\ ∃ m',m' < m /\ W (i + 1) m' σ3 (upd H5 D (.lst (xs ++ [v]))) else ∃ m',m' < m /\ W (i + 1) m' σ3 H4)
theorem yt1 {wi:TI} {g:TG} {tt:TT} {te:TE} {use:Option (Value -> Sem Unit)} {Qv:Value -> Shared -> Prop} (hc:X.calm = true) (hi:PI X tg iter wi) (hk:scope.kind = .function) (hck:xo0 X scope N js = true)
  (hg:∀ fp s H,PG (xg1 X scope N fp s H) tg g) (ht:∀ fp s H,PT (xg1 X scope N fp s H) tst tt) (he:∀ fp s H,PE (xg1 X scope N fp s H) elt te)
  (hs:∀ x,foldedSetIterable iter X.env x = pure x)
  {pins:List (Addr × Obj)} {σ:St} {H:Hp} {s:Shared} {Q:VK} (I:Inv X pins σ H s) (h:zd3 js wi g tt te σ H Q)
  (hend:∀ (D C:Addr) (H':Hp) (s':Shared),Inv X pins σ H' s' -> (∃ m,s'.heap.Ns C m) -> FpOk X pins H' C -> Q (.ref D) H' -> compPost (model X.prog X.w) X.A X.xe use Qv (.ref D) C (.ok .next) s') :
  wpAny (model X.prog X.w) X.A (comprehension (.ListComp elt [⟨tg,iter,[tst],0⟩] scope pos) scope X.env (firstIterPos [⟨tg,iter,[tst],0⟩] pos) (newList []) false (eval iter X.env) use) Qv X.xe s:=by
 have hck':=hck
 unfold xo0 at hck'
 simp only [Bool.and_eq_true] at hck'
 obtain ⟨⟨h1,_⟩,_⟩:=hck'
 have g1:∀ p ∈ scope.names,p.2 ≠ .cell /\ (p.2 = .free -> X.env.kindOf p.1 = some .cell) /\ (p.2 = .local -> scope.names.lookup p.1 = some .local):=fun p hp=>by
  have q:=List.all_eq_true.mp h1 p hp
  simp only [Bool.and_eq_true,bne_iff_ne,ne_eq,Bool.or_eq_true,beq_iff_eq] at q
  exact ⟨q.1.1,fun e=>q.1.2.resolve_left fun z=>z e,fun e=>q.2.resolve_left fun z=>z e⟩
 have hcl:∀ p ∈ scope.names,p.2 = .free -> ∃ c,X.env.cells.lookup p.1 = some c:=fun p hp e=>I.ok.has _ (.inl ((g1 p hp).2.1 e))
 refine wpAny_comprehension_free (use:=use) (g:=⟨tg,iter,[tst],0⟩) (gs:=[]) rfl hs (xw0 hcl) hk (fun p hp e=>(g1 p hp).2.2 e) ?_
 refine thn (hi pins s σ H _ I h) fun v s1 h1=>thn h1 fun itv s2 h2=>?_
 obtain ⟨it,fp,tn,J,H2,e,I2,T,st2,f2,hW⟩:=h2
 subst e
 have hfl:∀ b ∈ fp,b < s2.heap.objs.size:=fun b hb=>by
  obtain ⟨o,ho,_⟩:=T.obj _ _ st2 b hb
  exact Heap.lt_size ho
 have hD:H2 s2.heap.objs.size = none:=I2.hok.fresh (Nat.le_refl _)
 obtain ⟨W,⟨m0,w0⟩,turn⟩:=hW _ hD
 refine wpAny_newObj_type (wpAny_newFunctionEnv (fun x hx=>(g1 x hx).1) (by intro y hy; simp at hy) (fun h₁ hns₁ hsb₁=>?_) hk)
 dsimp only at hns₁ hsb₁ ⊢
 have I3:Inv X pins σ (upd H2 s2.heap.objs.size (.lst [])) { s2 with heap:=s2.heap.push { cls:=.type "list",dict:=none,data:=.seq ([]:List Value).toArray },toks:=s2.toks } :=
  I2.laid (t':=s2.toks) (fun b u e=>Heap.get?_push_of_some _ e) (Nat.le_refl _) ⟨Nat.zero_le _,[],0,.nil,Heap.get?_push_size _ rfl⟩
 generalize hs3:({ s2 with heap:=s2.heap.push { cls:=.type "list",dict:=none,data:=.seq ([]:List Value).toArray },toks:=s2.toks }:Shared) = s3 at I3
 have hh3:s3.heap = s2.heap.push { cls:=.type "list",dict:=none,data:=.seq ([]:List Value).toArray }:=by rw [<- hs3]
 have e3:({ s2 with heap:=h₁,toks:=s2.toks + ([]:List (Str × Value)).length }:Shared) = { s3 with heap:=h₁,toks:=s3.toks }:=by rw [<- hs3]; rfl
 rw [e3]
 rw [<- hh3] at hns₁ hsb₁ ⊢
 generalize hH3:upd H2 s2.heap.objs.size (.lst []) = H3 at I3 w0
 generalize hDs:s2.heap.objs.size = D at *
 have f3:∀ b ∈ fp,FpOk X pins H3 b:=fun b hb=>by
  refine ⟨?_,(f2 b hb).2⟩
  rw [<- hH3,xa2 (Nat.ne_of_lt (hfl b hb))]
  exact (f2 b hb).1
 have szD:s3.heap.objs.size = D + 1:=by rw [hh3,Heap.size_push]; rw [<- hDs]
 have hfl3:∀ b ∈ fp,b < s3.heap.objs.size:=fun b hb=>Nat.lt_of_lt_of_le (hfl b hb) (by rw [szD]; exact Nat.le_succ _)
 have kp:∀ b o,s3.heap.get? b = some o -> h₁.get? b = some o:=fun b o e=>by
  rw [hsb₁.2 b (Nat.ne_of_lt (Heap.lt_size e))]
  exact Heap.get?_push_of_some _ e
 have st3:tn 0 h₁:=T.keep 0 _ _ st2 fun b hb o e=>kp b o (by rw [hh3]; exact Heap.get?_push_of_some _ e)
 have J0:Inv (xg1 X scope N fp s3 H3) [] (seen js σ) H3 { s3 with heap:=h₁,toks:=s3.toks }:=yf2 I3 hk hck f3 hfl3 hns₁ kp
 have fpc:∀ {H':Hp},(∀ b ∈ fp,H' b = none) -> ∀ b ∈ fp,FpOk (xg1 X scope N fp s3 H3) [] H' b:=fun hn b hb =>
  ⟨hn b hb,(J0.ok.exf b hb).1,J0.ok.exfs b hb,.inl hb,(J0.ok.exf b hb).2,fun p hp=>by cases hp⟩
 have lp:codeAny (model X.prog X.w) X.A (.compLoop (.ListComp elt [⟨tg,iter,[tst],0⟩] scope pos) 0 (.ref it) (.ref D) (compEnvC scope (xu7 X.env scope.names []) s3.heap.objs.size X.env))
   (compPost (model X.prog X.w) X.A X.xe use Qv (.ref D) s3.heap.objs.size) { s3 with heap:=h₁,toks:=s3.toks }:=by
  refine yt0 (fun n s'=>∃ i σ' H',Inv (xg1 X scope N fp s3 H3) [] σ' H' s' /\ tn i s'.heap /\ (∀ b ∈ fp,H' b = none) /\ W i n σ' H') ?_ m0 ⟨0,_,H3,J0,st3,fun b hb=>(f3 b hb).1,w0⟩
  rintro n s4 ⟨i,σ4,H4,I4,st4,fr4,w4⟩
  rcases turn i n σ4 H4 w4 with ⟨stop,qn⟩ | ⟨go,step⟩
  ·refine thn (T.done (xg1 X scope N fp s3 H3) rfl rfl rfl hc i [] s4 σ4 H4 (fun _ _=>False) I4 (fpc fr4) st4 stop) fun r s5 ⟨hr,I5⟩=>?_
   subst hr
   have I6:Inv X pins σ H4 s5:=I3.call' (ch:=fp) I5.os I5.base I5.hok I5.bare fun b hb=>⟨(f3 b hb).2.2.2.1,(f3 b hb).2.1,(f3 b hb).2.2.2.2.1,(f3 b hb).2.2.2.2.2⟩
   have fC:FpOk X pins H4 s3.heap.objs.size:=I3.fpOk (Nat.le_refl _) I5.free
   obtain ⟨m,hn,_⟩:=I5.loc
   exact hend D s3.heap.objs.size H4 s5 I6 ⟨m,hn⟩ fC qn
  ·refine thn (T.item (xg1 X scope N fp s3 H3) rfl rfl rfl hc i [] s4 σ4 H4 (fun _ _=>False) I4 (fpc fr4) st4 go) fun r s5 ⟨u,hr,h5⟩=>?_
   subst hr
   refine thn h5 fun _ s6 ⟨x,H6,I6,r6,y6,st6,fr6⟩=>?_
   have I6':=I6.pinned (fpc fr6) (T.obj _ _ st6)
   refine thn (hg fp s3 H3 _ s6 σ4 H6 x u _ I6' r6 (step x H6 y6)) fun _ s7 ⟨σ7,H7,I7,q7⟩=>?_
   refine thn (ht fp s3 H3 _ s7 σ7 H7 _ I7 q7) fun b s7' ⟨H7',I7',q7'⟩=>?_
   cases b with
   | false =>
    obtain ⟨m',hm,w8⟩:=(by simpa using q7':∃ m',m' < n /\ W (i + 1) m' σ7 H7')
    simp only [Bool.false_eq_true,if_false]; refine ⟨m',hm,i + 1,σ7,_,I7'.unpinned,T.keep _ _ _ st6 fun b hb o e=>(I7'.pin (b,o) (List.mem_append_right _ (List.mem_append_right _ (xi1 hb e)))).1,fun b hb=>?_,w8⟩
    obtain ⟨o,e,d⟩:=T.obj _ _ st6 b hb
    exact (I7'.pin (b,o) (List.mem_append_right _ (List.mem_append_right _ (xi1 hb e)))).2.1
   | true =>
   simp only [if_true] at q7' ⊢
   refine thn (he fp s3 H3 _ s7' σ7 H7' _ I7' q7') fun u8 s8 ⟨v8,H8,I8,r8,xs,e8,l8,m',hm,w8⟩=>?_
   refine thn (xh3 _ s8 σ7 H8 (.ref D) [v8] (.ref D) [u8] (fun _ H9=>H9 = upd H8 D (.lst (xs ++ [v8]))) I8 rfl (.cons r8 .nil) ⟨D,xs,v8,rfl,rfl,e8,l8,rfl⟩) fun _ s9 ⟨v9,H9,I9,_,e9⟩=>?_
   subst e9
   refine ⟨m',hm,i + 1,σ7,_,I9.unpinned,T.keep _ _ _ st6 fun b hb o e=>(I9.pin (b,o) (List.mem_append_right _ (List.mem_append_right _ (xi1 hb e)))).1,fun b hb=>?_,w8⟩
   obtain ⟨o,e,d⟩:=T.obj _ _ st6 b hb
   exact (I9.pin (b,o) (List.mem_append_right _ (List.mem_append_right _ (xi1 hb e)))).2.1
 exact codeAny_compStart_list lp (T.self _ 0 _ _ _ st3 lp)
theorem zf4 {wi:TI} {g:TG} {tt:TT} {te:TE} (N:List Str) (js:List (Option Nat)) (hc:X.calm = true) (hi:PI X tg iter wi)
  (hg:∀ fp s H,PG (xg1 X scope N fp s H) tg g) (ht:∀ fp s H,PT (xg1 X scope N fp s H) tst tt) (he:∀ fp s H,PE (xg1 X scope N fp s H) elt te) (hk:scope.kind = .function:=by rfl) (hck:xo0 X scope N js = true:=by rfl)
  (hs:∀ x,foldedSetIterable iter X.env x = pure x:=by intro _; rfl):PE X (.ListComp elt [⟨tg,iter,[tst],0⟩] scope pos) (zd3 js wi g tt te):=by
 intro pins s σ H Q I h
 rw [eval_ListComp]
 refine yt1 (use:=none) hc hi hk hck hg ht he hs I h fun D C H' s' I' hC fC q=>?_
 obtain ⟨m,hn⟩:=hC
 refine ⟨m,hn,fun h' sb=>?_⟩
 obtain ⟨f0,f1,f2,f3,f4,f5⟩:=fC
 exact ⟨.ref D,H',I'.turned (t':=s'.toks) (fun b o hb e=>(sb.2 b hb).trans e) f0 f1 f3 f4 f5,rfl,q⟩
end
section
variable {X:Cx}
theorem zb5:xj5 X (.type "dict") (fun xs H Q=>∃ d,xs = [V.ref d] /\ H d = some (.dT []) /\ ∀ p,H p = none -> Q (.ref p) (upd H p (.dT []))):=by
 intro pins s σ H xs us Q I r h
 obtain ⟨d,rfl,hd,q⟩:=h
 obtain ⟨u,rfl,rx⟩:=xn3 r
 cases rx
 obtain ⟨z1,z2,ys,rel,o,es,ep,h1,h2,h3,h4,h5⟩:=(show xe7 X.prog X.w H s.heap d (.dT []) from I.hok d _ hd)
 cases rel
 have he:es = #[]:=by cases es; simpa using h4
 subst he
 have dd:s.heap.DictOf (xc5 X.prog X.w) d []:=⟨o,#[],ep,h1,h2,h3,fun e hm=>by simp at hm,.nil,List.nodup_nil⟩
 refine kt_call_dict z2 dd (Nat.zero_le _) fun h' dd' hs=>?_
 obtain ⟨o',es',ep',g1,g2,g3,g4,g5,g6⟩:=dd'
 have he':es' = #[]:=by
  have:=g5.length
  cases es'
  simpa using this
 subst he'
 refine ⟨.ref s.heap.objs.size,_,I.laid (o:=.dT []) (t':=s.toks) (fun b q hq=>?_) (Nat.le_refl _) ⟨Nat.zero_le _,beq_eq_false_iff_ne.mpr (Ne.symm (Nat.ne_of_lt I.big)),[],.nil,o',#[],ep',g1,g2,g3,rfl,List.nodup_nil⟩,rfl,q _ (I.hok.fresh (Nat.le_refl _))⟩
 exact (hs.2 b (Nat.ne_of_lt (Heap.lt_size hq))).trans (Heap.get?_push_of_some _ hq)
theorem yu1:∀ {ks:List (List Key × Addr)} {its:List Value},Vals (ks.map fun x=>V.ref x.2) its -> its = ks.map fun x=>Value.ref x.2
 | [],its,rv=>by rw [List.map_nil] at rv; cases rv; rfl
 | k :: ks,its,rv=>by
  rw [List.map_cons] at rv
  cases rv with
  | cons r1 t1=>cases r1; rw [List.map_cons,yu1 t1]
theorem zb3 (hc:X.calm = true) (hu:X.A.units + 64 < cLine):xj5 X (.type "set") (fun xs H Q=>∃ (l:Addr) (ks:List (List Key × Addr)),xs = [V.ref l] /\ H l = some (.lst (ks.map fun x=>V.ref x.2)) /\ xo4 H ks /\ (∀ z ∈ ks,xi5 z.1) /\ (∀ zs:List (List Key × Addr),(∀ z ∈ zs,z ∈ ks) -> (zs.map (·.1)).Nodup -> zs.length <= 36) /\
  ∀ p zs,H p = none -> Firsts zs ks -> (zs.map (·.1)).Nodup -> Q (.ref p) (upd H p (setO X.prog X.w p zs))):=by
 intro pins s σ H xs us Q I r h
 obtain ⟨l,ks,rfl,hl,hk,ht,hn,q⟩:=h
 obtain ⟨u,rfl,rx⟩:=xn3 r
 cases rx
 refine set_of fun led A' hled hA hH=>?_
 have k0:∀ b o,s.heap.get? b = some o -> (s.heap.push (xc2 led)).get? b = some o:=fun b o e=>Heap.get?_push_of_some _ e
 have hS:(s.heap.push (xc2 led)).get? s.heap.objs.size = some (xc2 led):=Heap.get?_push_size _ rfl
 have I0:Inv X pins σ H { s with heap:=s.heap.push (xc2 led) }:=I.kept (t':=s.toks) k0
 obtain ⟨_,its,n,rv,e1⟩:=(show xe7 X.prog X.w H _ l (.lst (ks.map fun x=>V.ref x.2)) from I0.hok l _ hl)
 have hi:its = ks.map fun x=>Value.ref x.2:=yu1 rv
 refine upd_list (s:={ s with heap:=s.heap.push (xc2 led) }) (kn:=xc5 X.prog X.w) (p:=l) (items:=its.toArray) (l:=ks) (by rw [hH]; exact I.ok.hd hc) (by omega) hled hS ⟨_,e1,rfl,_,rfl⟩ (by simpa using hi) hn (fun x hx=>⟨xp2 I0.hok (hk x hx),(xo5 I0.hok (hk x hx) (ht x hx)).2⟩) fun s' zs kp g o d hz hf=>?_
 have nS:s.heap.get? s.heap.objs.size = none:=xm8 _
 have keep:∀ b o,s.heap.get? b = some o -> s'.heap.get? b = some o:=fun b o e=>kp b o (by rintro rfl; rw [nS] at e; cases e) (k0 b o e)
 have I1:Inv X pins σ (upd H s.heap.objs.size (setO X.prog X.w s.heap.objs.size zs)) { s with heap:=s'.heap,toks:=s'.toks }:=I.laid (t':=s'.toks) keep (Nat.le_refl _) (yq1 hz)
 have es:s' = { ({ s with heap:=s'.heap,toks:=s'.toks }:Shared) with drawn:=s'.drawn }:=by
  cases s'
  simp only at g o ⊢
  rw [g,o]
 refine ⟨.ref s.heap.objs.size,_,?_,rfl,q _ zs (I.hok.fresh (Nat.le_refl _)) hf ?_⟩
 ·rw [es]
  exact I1.redrawn _
 ·obtain ⟨_,_,_,_,_,_,_,S,_⟩:=hz
  exact S.nd
theorem zl3 (hc:X.calm = true) (hu:X.A.units + 64 < cLine):xj5 X (.type "set") (fun xs H Q=>∃ (l:Addr) (ks:List (List Key × Addr)),xs = [V.ref l] /\ H l = some (.lst (ks.map fun x=>V.ref x.2)) /\ xo4 H ks /\ (∀ z ∈ ks,xi5 z.1) /\ ks.length <= 36 /\
  ∀ p zs,H p = none -> Firsts zs ks -> (zs.map (·.1)).Nodup -> Q (.ref p) (upd H p (setO X.prog X.w p zs))):=fun pins s σ H xs us Q I r ⟨l,ks,e,hl,hk,ht,hn,q⟩ =>
 zb3 hc hu pins s σ H xs us Q I r ⟨l,ks,e,hl,hk,ht,fun zs hz nd=>Nat.le_trans (List.Nodup.length_le_of_subset ((List.pairwise_map.mp nd).imp fun h e=>h (congrArg _ e)) fun z h=>hz z h) hn,q⟩
end
end L2
namespace LS
open PySem PySem.Spec PyProof.Rows L2
section
variable {prog:Program} {w:World} {A:Around} {E:Value -> Shared -> Prop} {s:Shared} {R:Result -> Shared -> Prop}
end
end LS
namespace L2
open PySem PySem.Spec PyProof.Rows LS
section
variable {X:Cx}
end
theorem xt4 {X:Cx} (K:Frag) (hK:X.K = K:=by rfl):xj5 X (.builtin "isinstance") (fun xs H Q=>∃ x C t b,xs = [x,.ref C] /\ TyOf K H x t /\ kitOne K t (.ref C) = some b /\ Q (.bl b) H):=by
 subst hK
 intro pins s σ H xs us Q I r h
 obtain ⟨x,C,t,b,rfl,ht,hb,q⟩:=h
 obtain ⟨u,w',rfl,r1,r2⟩:=vals2 r
 cases r2
 exact ym9 I r1 ht hb fun tk=>⟨.bl b,H,I.tok tk,rfl,q⟩
theorem yb8:bootBuiltins "sorted" = Option.some (Value.builtin "sorted"):=by decide +kernel
theorem yf5 {X:Cx} (K:Frag) (hK:X.K = K:=by rfl):xj5 X (.type "list") (fun xs H Q=>∃ p ys,xs = [.ref p] /\ SqL K H p ys /\ ∀ l,H l = none -> Q (.ref l) (upd H l (.lst ys))):=by
 subst hK
 intro pins s σ H xs us Q I r h
 obtain ⟨p,ys,e,hq,q⟩:=h
 exact yo7 pins s σ H xs us Q I r ⟨p,ys,e,.inl hq,q⟩
theorem comp_tpm {K:Frag} {a D:Addr} {xs:List V} {g:TG} {te:TE} {σ0:St} {H1:Hp} {Q:Hp -> Prop} (f:V -> V) (ok:St -> Prop)
  (sq:H1 a = some (.tup xs)) (hD:H1 D = none) (hz:xs.length <= 1000) (h0:ok σ0)
  (hs:∀ x σ' H (N:St -> V -> Hp -> Prop),x ∈ xs -> ok σ' -> Same H1 H -> (∀ σ3 H4,Same H H4 -> ok σ3 -> N σ3 (f x) H4) -> g x σ' H fun σ3 H3=>te σ3 H3 fun v H4=>N σ3 v H4)
  (hd:∀ H',Same H1 H' -> H' D = some (.lst (xs.map f)) -> Q H') :
  ∃ W:Nat -> Nat -> St -> Hp -> Prop,(∃ m,W 0 m σ0 (upd H1 D (.lst []))) /\
   ∀ i m σ' H',W i m σ' H' -> ((Itt K a).stop i H' /\ Q H') \/ ((Itt K a).go i H' /\ ∀ x H2,(Itt K a).yld i H' x H2 -> g x σ' H2 fun σ3 H3=>te σ3 H3 fun v H4=>∃ xs,H4 D = some (.lst xs) /\ xs.length < sizeLine /\ ∃ m',m' < m /\ W (i + 1) m' σ3 (upd H4 D (.lst (xs ++ [v])))):=by
 refine ⟨fun i m σ' H'=>m = xs.length - i /\ i <= xs.length /\ ok σ' /\ Same H1 H' /\ H' D = some (.lst ((xs.take i).map f)),⟨xs.length,by simp,Nat.zero_le _,h0,Same.new hD,by rw [List.take_zero]; exact xa0⟩,?_⟩
 rintro i m σ' H' ⟨rfl,hi,hok,hsm,hy⟩
 have sq':SqT K H' a xs:=SqT.of (hsm _ _ sq)
 by_cases hlt:i < xs.length
 ·refine .inr ⟨⟨xs,xs[i],sq',by simp [hlt]⟩,fun x H2 y=>?_⟩
  obtain ⟨e,y⟩:=y
  subst e
  have hx:=y xs sq'
  refine hs x σ' _ (fun σ3 v H4=>∃ xs',H4 D = some (.lst xs') /\ xs'.length < sizeLine /\ ∃ m',m' < xs.length - i /\ _) (List.mem_of_getElem? hx) hok hsm fun σ3 H4 s4 ok3=>?_
  refine ⟨_,s4 _ _ hy,Nat.lt_of_lt_of_le (show _ < 1001 by rw [List.length_map,List.length_take]; omega) (by decide),xs.length - (i + 1),by omega,rfl,hlt,ok3,(hsm.trans s4).upd hD,?_⟩
  rw [xa0,List.take_add_one,hx,List.map_append]; rfl
 ·have e:i = xs.length:=by omega
  subst e
  exact .inl ⟨⟨xs,sq',Nat.le_refl _⟩,hd H' hsm (by rw [List.take_length] at hy; exact hy)⟩
def Itc (lo c:Int) (n:Nat):It:=⟨fun i _=>i < n,fun i H x H'=>H' = H /\ x = .int (lo + i * c),fun i _=>n <= i⟩
theorem zc1 {P:Program} {w:World} {K:Frag} {tg:Expr} (it:Addr) (lo c:Int) (n:Nat):Turn P w K tg (Itc lo c n) [it] it (fun i h=>IsRangeIter h it (lo + (i:Nat) * c) ((n:Int) - (i:Nat)) c) where
 mem:=by simp
 obj:=fun i h st b hb=>by
  obtain rfl:b = it:=by simpa using hb
  exact ⟨_,st,fun v z=>by cases (show Data.fields _ = Data.cell v from z)⟩
 keep:=fun i h h' st k=>k it (by simp) _ st
 item:=by
  intro X hP hw hK hc i pins s σ H E I hf st hg
  subst hP hw hK
  obtain ⟨f0,f1,f2,f3,f4,f5⟩:=hf it (by simp)
  have W:=Walks.range (prog:=X.prog) (w:=X.w) (I.ok.hd hc) it lo c n
  refine W.item i s _ _ hg st fun v h' tk hv st' kk=>?_
  obtain ⟨t,rfl⟩:=hv
  have I1:Inv X pins σ H { s with heap:=h',toks:=tk }:=I.turned (fun b o hb e=>kk b o (by simpa using hb) e) f0 f1 f3 f4 f5
  exact ⟨_,rfl,yn2 (s:={ s with heap:=h',toks:=tk }) (n:="range_iterator") st' rfl rfl (by decide) ⟨.int (lo + i * c),H,I1,⟨t,rfl⟩,⟨rfl,rfl⟩,st',fun b hb=>(hf b hb).1⟩⟩
 done:=by
  intro X hP hw hK hc i pins s σ H E I hf st hg
  subst hP hw hK
  obtain ⟨f0,f1,f2,f3,f4,f5⟩:=hf it (by simp)
  exact wpAny_pyNext_range_end (I.ok.hd hc) st (by have:n <= i:=hg; omega) fun h' eb=>⟨rfl,I.turned (t':=s.toks) (fun b o hb e=>eb b o hb e) f0 f1 f3 f4 f5⟩
 self:=fun _ _ _ _ _ st h=>wpAny_pyIter_rangeiter st h
section
variable {X:Cx} {tg:Expr}
end
theorem yw4 {lo c:Int} {n:Nat} {g:TG} {tb:TS} {D:Ends} {σ:St} {H:Hp} (Pv:Nat -> St -> Hp -> Prop) (h0:Pv 0 σ H)
  (hs:∀ i σ H,i < n -> Pv i σ H -> g (.int (lo + i * c)) σ H fun σ2 H2=>tb { D with nx:=Pv (i + 1),ct:=Pv (i + 1),bk:=D.nx } σ2 H2) (hd:∀ σ H,Pv n σ H -> D.nx σ H) :
  ∃ W:Nat -> Nat -> St -> Hp -> Prop,(∃ m,W 0 m σ H) /\ ∀ i m σ H,W i m σ H ->
   ((Itc lo c n).stop i H /\ D.nx σ H) \/ ((Itc lo c n).go i H /\ ∃ N:St -> Hp -> Prop,(∀ σ' H',N σ' H' -> ∃ m',m' < m /\ W (i + 1) m' σ' H') /\ ∀ x H',(Itc lo c n).yld i H x H' -> g x σ H' fun σ2 H2=>tb { D with nx:=N,ct:=N,bk:=D.nx } σ2 H2):=by
 refine ⟨fun i m σ H=>m = n - i /\ i <= n /\ Pv i σ H,⟨n,by simp,Nat.zero_le _,h0⟩,?_⟩
 rintro i m σ H ⟨rfl,hi,p⟩
 by_cases hlt:i < n
 ·refine .inr ⟨hlt,Pv (i + 1),fun σ' H' p'=>⟨n - (i + 1),by omega,rfl,hlt,p'⟩,fun x H' y=>?_⟩
  obtain ⟨e,y⟩:=y
  subst e y
  exact hs i σ _ hlt p
 ·have e:i = n:=by omega
  subst e
  exact .inl ⟨Nat.le_refl _,hd σ H p⟩
theorem Inv.turnedL {X:Cx} {pins:List (Addr × Obj)} {σ:St} {H:Hp} {s:Shared} {h':Heap} {t':Nat} (ch:List Addr) (I:Inv X pins σ H s) (k:∀ b o,b ∉ ch -> s.heap.get? b = some o -> h'.get? b = some o) (f:∀ b ∈ ch,FpOk X pins H b):Inv X pins σ H { s with heap:=h',toks:=t' }:=by
 have nit:∀ b u,H b = some u -> b ∉ ch:=fun b u e z=>by rw [(f b z).1] at e; cases e
 refine I.step (g':=s.gens) (d':=s.drawn) (ch:=ch) (fun b hb=>⟨(f b hb).2.2.2.1,(f b hb).2.1,(f b hb).2.2.2.2.1,(f b hb).2.2.2.2.2⟩) (fun b o _ _ hc e _=>k b o hc e) (fun b o _ _ hc e _=>⟨o.slots,k b o hc e⟩) (fun _ _ _ _ n=>n)
  (fun b o hc e=>⟨o,k b o hc e⟩) (fun _ _ e=>e) (fun _ _ _ e=>e) (fun b ps e=>⟨#[],by rw [e]; simp⟩) (fun m hm=>?_) (fun b u e=>?_) I.bare
 ·obtain ⟨o,es,ep,ho,r⟩:=hm
  exact ⟨o,es,ep,k _ o (fun z=>(f _ z).2.1 rfl) ho,r⟩
 ·refine (I.hok b u e).stay (fun c v hc q=>k c v ?_ q) (fun _ q=>q) fun _ _ q=>q
  rcases hc with z | z
  ·rw [z]; exact nit b u e
  ·exact nit c _ z
open PySem PySem.Spec PyProof.Rows LS PySem.SeqAt
mutual
inductive IsD8 (K:Frag) (H:Hp):V -> PyData -> Prop
 | non:IsD8 K H .non .none
 | bl (b):IsD8 K H (.bl b) (.bool b)
 | int (i):IsD8 K H (.int i) (.int i)
 | str (x):IsD8 K H (.str x) (.str x)
 | lst {a xs ds}:SqL K H a xs -> AreD8 K H xs ds -> IsD8 K H (.ref a) (.list ds)
 | tup {a xs ds}:SqT K H a xs -> AreD8 K H xs ds -> IsD8 K H (.ref a) (.tuple ds)
inductive AreD8 (K:Frag) (H:Hp):List V -> List PyData -> Prop
 | nil:AreD8 K H [] []
 | cons {x xs d ds}:IsD8 K H x d -> AreD8 K H xs ds -> AreD8 K H (x :: xs) (d :: ds)
end
section
variable {X:Cx} {pins:List (Addr × Obj)} {σ:St} {H:Hp} {s:Shared}
mutual
theorem IsD8.reads (I:Inv X pins σ H s):∀ {v:V} {d:PyData},IsD8 X.K H v d -> ∀ {u:Value},RelV v u -> ∃ as,Reads s.heap u d as
 | _,_,.non,u,r=>by cases (show u = Value.none from r); exact ⟨[],.none⟩
 | _,_,.bl b,u,r=>by cases (show u = Value.bool b from r); exact ⟨[],.bool b⟩
 | _,_,.int i,u,r=>by obtain ⟨t,e⟩:=(show ∃ t,u = Value.int i t from r); subst e; exact ⟨[],.int i t⟩
 | _,_,.str x,u,r=>by obtain ⟨t,e⟩:=(show ∃ t,u = Value.str x t from r); subst e; exact ⟨[],.str x t⟩
 | _,_,.lst sq rs,u,r=>by
  cases r
  obtain ⟨its,rv,p,_⟩:=I.list sq
  obtain ⟨as,ra⟩:=AreD8.reads I rs rv
  obtain ⟨o,ho,hc,n,hd⟩:=p.isList
  exact ⟨_,.list ho hc hd (by simpa using ra)⟩
 | _,_,.tup sq rs,u,r=>by
  cases r
  obtain ⟨its,rv,p,_⟩:=I.tuple sq
  obtain ⟨as,ra⟩:=AreD8.reads I rs rv
  obtain ⟨o,ho,hc,n,hd⟩:=p
  exact ⟨_,.tuple ho hc hd (by simpa using ra)⟩
theorem AreD8.reads (I:Inv X pins σ H s):∀ {vs:List V} {ds:List PyData},AreD8 X.K H vs ds -> ∀ {us:List Value},Vals vs us -> ∃ as,ReadsAll s.heap us ds as
 | _,_,.nil,us,r=>by cases r; exact ⟨[],.nil⟩
 | _,_,.cons h t,us,r=>by
  cases r with
  | cons r1 r2 =>
   obtain ⟨a1,q1⟩:=IsD8.reads I h r1
   obtain ⟨a2,q2⟩:=AreD8.reads I t r2
   exact ⟨_,.cons q1 q2⟩
end
end
theorem op_neD {X:Cx} (K:Frag) (hu:X.A.units + 64 < cLine) (hK:X.K = K:=by rfl):OpR X (compareOp .NotEq) (fun x y H Q=>∃ d e,IsD8 K H x d /\ IsD8 K H y e /\ shaped d = true /\ shaped e = true /\ Q (.bl (!PyData.eqv d e)) H):=by
 subst hK
 intro pins s σ H x y v u Q I rx ry h
 obtain ⟨d,e,h1,h2,s1,s2,q⟩:=h
 obtain ⟨as,ra⟩:=IsD8.reads I h1 rx
 obtain ⟨bs,rb⟩:=IsD8.reads I h2 ry
 exact ne_dataH ra rb s1 s2 hu ⟨.bl _,H,I,rfl,q⟩
section
variable {X:Cx} {pins:List (Addr × Obj)} {σ:St} {H:Hp} {s:Shared}
end
section
variable {X:Cx}
end
theorem zl0 {α:Type} {K:Frag} {a D:Addr} {xs:List V} {us:List α} {g:TG} {te:TE} {σ0:St} {H1:Hp} {Q:Hp -> Prop} (f:α -> V) (ok:St -> Prop)
  (sq:SqL K H1 a xs) (hD:H1 D = none) (hz:xs.length <= 1000) (hlen:us.length = xs.length) (h0:ok σ0)
  (hs:∀ (i:Nat) x u σ' H (N:St -> V -> Hp -> Prop),xs[i]? = some x -> us[i]? = some u -> ok σ' -> Same H1 H -> (∀ σ3 H4,Same H H4 -> ok σ3 -> N σ3 (f u) H4) -> g x σ' H fun σ3 H3=>te σ3 H3 fun v H4=>N σ3 v H4)
  (hd:∀ H',Same H1 H' -> H' D = some (.lst (us.map f)) -> Q H') :
  ∃ W:Nat -> Nat -> St -> Hp -> Prop,(∃ m,W 0 m σ0 (upd H1 D (.lst []))) /\
   ∀ i m σ' H',W i m σ' H' -> ((Itl K a).stop i H' /\ Q H') \/ ((Itl K a).go i H' /\ ∀ x H2,(Itl K a).yld i H' x H2 -> g x σ' H2 fun σ3 H3=>te σ3 H3 fun v H4=>∃ xs,H4 D = some (.lst xs) /\ xs.length < sizeLine /\ ∃ m',m' < m /\ W (i + 1) m' σ3 (upd H4 D (.lst (xs ++ [v])))):=by
 refine ⟨fun i m σ' H'=>m = xs.length - i /\ i <= xs.length /\ ok σ' /\ Same H1 H' /\ H' D = some (.lst ((us.take i).map f)),⟨xs.length,by simp,Nat.zero_le _,h0,Same.new hD,by rw [List.take_zero]; exact xa0⟩,?_⟩
 rintro i m σ' H' ⟨rfl,hi,hok,hsm,hy⟩
 have sq':=hsm.seq sq
 by_cases hlt:i < xs.length
 ·refine .inr ⟨⟨xs,xs[i],sq',by simp [hlt]⟩,fun x H2 y=>?_⟩
  obtain ⟨e,y⟩:=y
  subst e
  have hx:=y xs sq'
  have hu:us[i]? = some us[i]:=List.getElem?_eq_getElem (by omega)
  have tk:us.take (i + 1) = us.take i ++ [us[i]]:=by rw [List.take_add_one,hu]; rfl
  have sml:((us.take i).map f).length < sizeLine:=by
   rw [List.length_map,List.length_take]
   exact Nat.lt_of_lt_of_le (show _ < 1001 by omega) (by decide)
  refine hs i x us[i] σ' _ (fun σ3 v H4=>∃ ys,H4 D = some (.lst ys) /\ ys.length < sizeLine /\ ∃ m',m' < xs.length - i /\ (m' = xs.length - (i + 1) /\ i + 1 <= xs.length /\ ok σ3 /\ Same H1 (upd H4 D (.lst (ys ++ [v]))) /\ (upd H4 D (.lst (ys ++ [v]))) D = some (.lst ((us.take (i + 1)).map f)))) hx hu hok hsm fun σ3 H4 s4 ok3=>?_
  refine ⟨_,s4 _ _ hy,sml,xs.length - (i + 1),by omega,rfl,hlt,ok3,(hsm.trans s4).upd hD,?_⟩
  rw [xa0,tk,List.map_append]
  rfl
 ·have e:i = xs.length:=by omega
  subst e
  refine .inl ⟨⟨xs,sq',Nat.le_refl _⟩,hd H' hsm (by rw [<- hlen,List.take_length] at hy; exact hy)⟩
def hide (H:Hp) (D:Addr):Hp:=fun b=>if b = D then none else H b
theorem xn9 {H:Hp} {b D:Addr} (h:b ≠ D):hide H D b = H b:=by unfold hide; rw [if_neg h]
theorem yi5 {H:Hp} {D:Addr} {o:HO}:hide (upd H D o) D = hide H D:=by
 funext b; unfold hide
 by_cases h:b = D
 ·rw [if_pos h,if_pos h]
 ·rw [if_neg h,if_neg h,xa2 h]
theorem ya9 {H:Hp} {D:Addr}:Same (hide H D) H:=fun b o e=>by
 unfold hide at e
 by_cases h:b = D
 ·rw [if_pos h] at e; cases e
 ·rw [if_neg h] at e; exact e
theorem yb0 {H H':Hp} {D:Addr} (s:Same H H'):Same (hide H D) (hide H' D):=fun b o e=>by
 unfold hide at e ⊢
 by_cases h:b = D
 ·rw [if_pos h] at e; cases e
 ·rw [if_neg h] at e ⊢; exact s b o e
theorem comp_ob {α:Type} {K:Frag} {a D:Addr} {xs:List V} {us:List α} {g:TG} {te:TE} {σ0:St} {H1:Hp} {Q:Hp -> Prop} (R:α -> V -> Hp -> Prop) (ok:St -> Prop) (mono:∀ H H' x v,Same H H' -> R x v H -> R x v H')
  (sq:SqL K H1 a xs) (hD:H1 D = none) (hz:xs.length <= 1000) (hlen:us.length = xs.length) (h0:ok σ0)
  (hs:∀ (i:Nat) x u σ' H (N:St -> V -> Hp -> Prop),xs[i]? = some x -> us[i]? = some u -> ok σ' -> Same H1 H -> (∃ ys,H D = some (.lst ys)) -> (∀ σ3 v H4,R u v (hide H4 D) -> Same H H4 -> ok σ3 -> N σ3 v H4) -> g x σ' H fun σ3 H3=>te σ3 H3 fun v H4=>N σ3 v H4)
  (hd:∀ ys H',Same H1 H' -> H' D = some (.lst ys) -> Paired (fun v u=>R u v H') ys us -> Q H') :
  ∃ W:Nat -> Nat -> St -> Hp -> Prop,(∃ m,W 0 m σ0 (upd H1 D (.lst []))) /\
   ∀ i m σ' H',W i m σ' H' -> ((Itl K a).stop i H' /\ Q H') \/ ((Itl K a).go i H' /\ ∀ x H2,(Itl K a).yld i H' x H2 -> g x σ' H2 fun σ3 H3=>te σ3 H3 fun v H4=>∃ xs,H4 D = some (.lst xs) /\ xs.length < sizeLine /\ ∃ m',m' < m /\ W (i + 1) m' σ3 (upd H4 D (.lst (xs ++ [v])))):=by
 refine ⟨fun i m σ' H'=>m = xs.length - i /\ i <= xs.length /\ ok σ' /\ Same H1 H' /\ ∃ ys,H' D = some (.lst ys) /\ Paired (fun v u=>R u v (hide H' D)) ys (us.take i),⟨xs.length,by simp,Nat.zero_le _,h0,Same.new hD,[],xa0,by rw [List.take_zero]; exact .nil⟩,?_⟩
 rintro i m σ' H' ⟨rfl,hi,hok,hsm,ys,hy,hp⟩
 have sq':=hsm.seq sq
 have hyl:ys.length = i:=by rw [Paired.length hp,List.length_take]; omega
 by_cases hlt:i < xs.length
 ·refine .inr ⟨⟨xs,xs[i],sq',by simp [hlt]⟩,fun x H2 y=>?_⟩
  obtain ⟨e,y⟩:=y
  subst e
  have hx:=y xs sq'
  have hu:us[i]? = some us[i]:=List.getElem?_eq_getElem (by omega)
  refine hs i x us[i] σ' _ (fun σ3 v H4=>∃ xs',H4 D = some (.lst xs') /\ xs'.length < sizeLine /\ ∃ m',m' < xs.length - i /\ _) hx hu hok hsm ⟨_,hy⟩ fun σ3 v H4 r s4 ok3=>?_
  refine ⟨ys,s4 _ _ hy,Nat.lt_of_lt_of_le (show ys.length < 1001 by omega) (by decide),xs.length - (i + 1),by omega,rfl,hlt,ok3,(hsm.trans s4).upd hD,ys ++ [v],xa0,?_⟩
  rw [List.take_add_one,hu,yi5]
  exact Paired.snoc (Paired.mapP hp fun b w q=>mono _ _ _ _ (yb0 s4) q) r
 ·have e:i = xs.length:=by omega
  subst e
  rw [<- hlen,List.take_length] at hp
  exact .inl ⟨⟨xs,sq',Nat.le_refl _⟩,hd ys H' hsm hy (Paired.mapP hp fun b w q=>mono _ _ _ _ ya9 q)⟩
theorem hu1 {A:Around} {k:Nat} (hr:Room k A):A.units + 1 < cLine:=Nat.lt_of_le_of_lt (Nat.add_le_add_left (by decide) _) hr.units
end L2
namespace LS
open PySem PySem.Spec PyProof.Rows L2
section
variable {prog:Program} {w:World} {A:Around} {E:Value -> Shared -> Prop} {s:Shared}
end
end LS
namespace L2
open PySem PySem.Spec PyProof.Rows LS
section
variable {X:Cx} {tg iter elt tst:Expr} {scope:Scope} {pos:Pos}
end
end L2
namespace LS
open PySem PySem.W PyProof.Rows
section
variable {prog:Program} {w:World} {A:Around} {E:Value -> Shared -> Prop} {s:Shared}
end
end LS
namespace L2
open PySem PySem.Spec PyProof.Rows LS
section
variable {X:Cx} {pins:List (Addr × Obj)} {σ:St} {H:Hp} {s:Shared}
end
end L2
namespace LS
open PySem PySem.W PyProof.Rows
section
variable {prog:Program} {w:World} {A:Around} {E:Value -> Shared -> Prop} {s:Shared}
end
section
variable {prog:Program} {w:World} {A:Around} {E:Value -> Shared -> Prop} {s:Shared} {R:Result -> Shared -> Prop}
end
end LS
namespace L2
open PySem PySem.Spec PyProof.Rows LS
section
variable {X:Cx}
end
end L2
namespace LS
open PySem PySem.W PyProof.Rows
section
variable {prog:Program} {w:World} {A:Around} {E:Value -> Shared -> Prop} {s:Shared}
theorem yb2 {id:String} {d k:Addr} {o ok:Obj} {e:DictEntry} {ep:Nat} {Q:Array DictEntry -> Shared -> Prop} (ho:s.heap.get? d = some o) (hd:o.data = .dict #[e] ep) (he:e.key = .ref k) (hk:s.heap.get? k = some ok) (hc:ok.cls = .type "tuple")
  (h:Q #[e] s):wpAny (model prog w) A (Builtin.Dict.entriesForEmpty id d) Q E s:=by
 unfold Builtin.Dict.entriesForEmpty
 refine wpAny_bind (wpAny_dictEntries ho hd ?_)
 refine wpAny_bind ?_
 rw [<- Array.forIn_toList]
 show wpAny _ _ (forIn [e] PUnit.unit _) _ _ _
 rw [List.forIn_cons]
 refine wpAny_bind (wpAny_bind ?_)
 rw [he]
 unfold Builtin.Dict.quietEq
 refine wpAny_bind (wpAny_specialOf ⟨ok,hk,hc⟩ F.slot_tuple_eq.lookup (wpAny_pure ?_))
 rw [if_pos (by decide),if_neg (by simp)]
 refine wpAny_pure ?_
 show wpAny _ _ (forIn [] _ _) _ _ _
 rw [List.forIn_nil]
 exact wpAny_pure (wpAny_pure h)
theorem dict_one {d k:Addr} {o ok:Obj} {e:DictEntry} {ep:Nat} {Q:Value -> Shared -> Prop} (hoS:(d == sysModules) = false) (ho:s.heap.get? d = some o) (hex:o.ExactDict) (hd:o.data = .dict #[e] ep) (he:e.key = .ref k) (hk:s.heap.get? k = some ok) (hc:ok.cls = .type "tuple")
  (h:∀ h' o' ep',h'.get? s.heap.objs.size = some o' -> o'.ExactDict -> o'.data = .dict #[e] ep' -> Heap.SameBut s.heap.objs.size (s.heap.push { cls:=.type "dict",data:=.dict #[] }) h' -> Q (.ref s.heap.objs.size) { s with heap:=h' }) :
  wpAny (model prog w) A (call (.type "dict") [.ref d]) Q E s:=by
 refine callType_codes (Q₁:=fun obj s₁=>obj = .ref s.heap.objs.size /\ s₁ = { s with heap:=s.heap.push { cls:=.type "dict",data:=.dict #[] } }) F.kt_called_dict (F.kt_typeCall_dict_1 _) F.entry_dict_init (kt_code_dict_new _ ⟨rfl,rfl⟩) ?_
 rintro obj s₁ ⟨rfl,rfl⟩
 have hnew:(s.heap.push { cls:=.type "dict",data:=.dict #[] }).get? s.heap.objs.size = some { cls:=.type "dict",data:=.dict #[] }:=Heap.get?_push_size _ rfl
 have ho':(s.heap.push { cls:=.type "dict",data:=.dict #[] }).get? d = some o:=Heap.get?_push_of_some _ ho
 have hk':(s.heap.push { cls:=.type "dict",data:=.dict #[] }).get? k = some ok:=Heap.get?_push_of_some _ hk
 have hdo:s.heap.objs.size ≠ d:=Nat.ne_of_gt (Heap.lt_size ho)
 have hT:Shared.TypeIs { s with heap:=s.heap.push { cls:=.type "dict",data:=.dict #[] } } (.ref d) "dict":=⟨o,ho',hex.1⟩
 have hTn:Shared.TypeIs { s with heap:=s.heap.push { cls:=.type "dict",data:=.dict #[] } } (.ref s.heap.objs.size) "dict":=⟨_,hnew,rfl⟩
 refine ⟨hTn,F.args_dict_init_2 _ _,?_⟩
 unfold Builtin.«dict.__init__»
 refine wpAny_bind ?_
 unfold Builtin.Dict.selfAndRest
 refine wpAny_bind (wpAny_notOrdered_dict hTn ?_)
 show wpAny _ _ (pure (s.heap.objs.size,[Value.ref d])) _ _ _
 refine wpAny_pure ?_
 show wpAny _ _ (Builtin.Dict.updateFrom "dict.__init__" s.heap.objs.size (.ref d) [] .none) _ _ _
 unfold Builtin.Dict.updateFrom
 refine wpAny_bind (wpAny_typeOf hT ?_)
 rw [if_neg (by decide)]
 refine wpAny_bind ?_
 unfold Builtin.Dict.merge
 refine wpAny_bind ?_
 unfold Builtin.Dict.readDirectly
 refine wpAny_bind (wpAny_isInstance hT isSubtype_dict_dict ?_)
 simp only [Bool.not_true,Bool.false_eq_true,if_false]
 refine wpAny_bind (wpAny_specialOf hT F.slot_dict_iter.lookup (wpAny_pure ?_))
 simp only [beq_self_eq_true,if_true]
 refine wpAny_bind (wpAny_pure ?_)
 unfold Builtin.Dict.mergeDict
 rw [if_neg (by simpa using hdo)]
 unfold Builtin.Dict.showsAll
 rw [if_neg (by rw [hoS]; exact Bool.false_ne_true)]
 refine wpAny_bind (wpAny_pure ?_)
 refine wpAny_bind (wpAny_dictEntries ho' hd ?_)
 have few:((#[e]:Array DictEntry).all fun e=>(keyPart e.key).isSome) = false:=by simp [he,keyPart]
 dsimp only
 rw [few,Bool.and_false]
 simp only [Bool.not_false,if_true]
 refine wpAny_bind (wpAny_dictEntries hnew rfl ?_)
 rw [if_pos (by rfl)]
 refine wpAny_bind (yb2 ho' hd he hk' hc ?_)
 rw [if_pos (by rfl)]
 refine wpAny_bind (wpAny_updateDictKeysTo hnew rfl (wpAny_pure ?_) (by show 1 <= _; rw [sizeLine_eq]; decide))
 show wpAny _ _ (Builtin.Dict.addKeywords s.heap.objs.size [] >>= _) _ _ _
 exact wpAny_bind (wpAny_pure (wpAny_pure ⟨rfl,h _ _ _ (Heap.get?_update_self _ hnew (Obj.isFreed_of_dict (Obj.data_mapDictKeys rfl _))) (Obj.ExactDict.mapDictKeys ⟨rfl,rfl,rfl⟩ _) (Obj.data_mapDictKeys rfl _) (Heap.SameBut.update ..)⟩))
end
end LS
namespace L2
open PySem PySem.Spec PyProof.Rows LS
section
variable {X:Cx}
def tDisp1 (tk tv:TE):TE:=fun σ H Q=>∀ p,H p = none -> tk σ (upd H p (.dT [])) fun y H1=>tv σ H1 fun v H2=>∃ k b,y = .ref b /\ H2 b = some (.tup (k.map kV)) /\ H2 p = some (.dT []) /\ Q (.ref p) (upd H2 p (.dT [(k,v)]))
theorem pe_disp1 {pos:Pos} {k v:Expr} {tk tv:TE} (hu:X.A.units + 1 < cLine) (hk:PE X k tk) (hv:PE X v tv):PE X (.Dict [some k] [v] pos) (tDisp1 tk tv):=by
 intro pins s σ H Q I q
 have hn:=I.hok.fresh (Nat.le_refl s.heap.objs.size)
 have I1:=I.laid (a:=s.heap.objs.size) (o:=.dT []) (h':=s.heap.push { cls:=.type "dict",data:=.dict #[] }) (t':=s.toks) (fun _ _ q=>Heap.get?_push_of_some _ q) (Nat.le_refl _) (yw8 s.heap I.big)
 refine wpAny_Dict_any rfl rfl (by simp) (by show 1 <= 15; decide) ?_
 refine pairTrees_cons_walk (thn (hk pins _ σ _ _ I1 (q _ hn)) fun u s1 ⟨y,H1,I2,ry,q1⟩=>thn (hv pins s1 σ H1 _ I2 q1) fun r s2 ⟨v,H2,I3,rv,kk,b,ey,eb,ep,q2⟩=>pairTrees_nil_walk ?_)
 subst ey
 cases (show u = Value.ref b from ry)
 obtain ⟨z,hd,xs,rel,dd⟩:=yn9 I3.hok ep
 have hz:xs.length <= sizeLine:=by rw [<- Paired.length rel]; exact z
 unfold storeAll
 rw [List.forIn_cons]
 refine wpAny_bind (wpAny_bind (wpAny_dictSet_heap (hsz:=hz) (show X.A.units < cLine by omega) (xp2 I3.hok eb) dd fun h' dd' hs=>wpAny_pure ?_))
 show wpAny _ _ (forIn [] _ _) _ _ _
 rw [List.forIn_nil]
 refine wpAny_pure ⟨.ref s.heap.objs.size,_,?_,rfl,q2⟩
 have e1:putK ([]:List (List Key × V)) kk v = [(kk,v)]:=putK_new v rfl
 obtain ⟨qo,es,epo,hq,h2,h3,h4,_,h5⟩:=dd'
 rw [<- e1]
 refine xu6 I3 (by rw [ep]; exact True.intro) hs ⟨qo,hq⟩ ⟨by rw [e1]; show 1 <= _; rw [sizeLine_eq]; decide,hd,_,(rel.put kk eb rv).keeps fun c ys ec=>?_,qo,es,epo,hq,h2,h3,h4,h5⟩
 rw [xa2 (xb9 ec ep (fun z=>nomatch z))]
 exact ec
theorem xu9:xj5 X (.type "dict") (fun xs H Q=>∃ d kvs,xs = [V.ref d] /\ H d = some (.dT kvs) /\ kvs.length <= 1 /\ ∀ p,H p = none -> Q (.ref p) (upd H p (.dT kvs))):=by
 intro pins s σ H xs us Q I r h
 obtain ⟨d,kvs,rfl,hd,hl,q⟩:=h
 cases kvs with
 | nil=>exact zb5 pins s σ H _ _ Q I r ⟨d,rfl,hd,q⟩
 | cons kv rest =>
  have:rest = []:=by cases rest with | nil=>rfl | cons a b=>simp at hl
  subst this
  obtain ⟨u,rfl,rx⟩:=xn3 r
  cases rx
  obtain ⟨z1,z2,ys,rel,o,es,ep,h1,h2,h3,h4,h5⟩:=(show xe7 X.prog X.w H s.heap d (.dT [kv]) from I.hok d _ hd)
  obtain ⟨y,rfl,hy⟩:∃ y,ys = [y] /\ H y.2.1 = some (.tup (kv.1.map kV)):=by
   cases rel with
   | cons hq t=>cases t; exact ⟨_,rfl,hq.2.1⟩
  have he:es = #[entryOfKey (tupleKind (xc5 X.prog X.w)) y]:=by cases es; simpa using h4
  subst he
  obtain ⟨_,its,rv,ok,k1,k2,n,k3⟩:=(show xe7 X.prog X.w H s.heap y.2.1 (.tup (kv.1.map kV)) from I.hok _ _ hy)
  refine dict_one z2 h1 h2 h3 (k:=y.2.1) rfl k1 k2 fun h' o' ep' g1 g2 g3 hs=>?_
  have keep:∀ b ob,s.heap.get? b = some ob -> h'.get? b = some ob:=fun b ob hb=>(hs.2 b (Nat.ne_of_lt (Heap.lt_size hb))).trans (Heap.get?_push_of_some _ hb)
  have hn:=I.hok.fresh (Nat.le_refl s.heap.objs.size)
  refine ⟨.ref s.heap.objs.size,_,I.laid (o:=.dT [kv]) (t':=s.toks) keep (Nat.le_refl _) ⟨z1,beq_eq_false_iff_ne.mpr (Ne.symm (Nat.ne_of_lt I.big)),[y],KT.keeps (show KT H [kv] [y] from rel) fun b zs e=>?_,o',_,ep',g1,g2,g3,h4,h5⟩,rfl,q _ hn⟩
  rw [xa2 (xa3 e hn)]; exact e
end
theorem yw5 {d:Addr} {o:Obj} {vs:List V} {g:TG} {tb:TS} {D:Ends} {σ:St} {H:Hp} (Pv:Nat -> St -> Hp -> Prop) (h0:Pv 0 σ H) (hl:∀ i σ H,i <= vs.length -> Pv i σ H -> H d = some (held d o))
  (hs:∀ i v σ H,vs[i]? = some v -> Pv i σ H -> g v σ H fun σ2 H2=>tb { D with nx:=Pv (i + 1),ct:=Pv (i + 1),bk:=D.nx } σ2 H2) (hd:∀ σ H,Pv vs.length σ H -> D.nx σ H) :
  ∃ W:Nat -> Nat -> St -> Hp -> Prop,(∃ m,W 0 m σ H) /\ ∀ i m σ H,W i m σ H ->
   ((Itd d o vs).stop i H /\ D.nx σ H) \/ ((Itd d o vs).go i H /\ ∃ N:St -> Hp -> Prop,(∀ σ' H',N σ' H' -> ∃ m',m' < m /\ W (i + 1) m' σ' H') /\ ∀ v H',(Itd d o vs).yld i H v H' -> g v σ H' fun σ2 H2=>tb { D with nx:=N,ct:=N,bk:=D.nx } σ2 H2):=by
 refine ⟨fun i m σ H=>m = vs.length - i /\ i <= vs.length /\ Pv i σ H,⟨vs.length,by simp,Nat.zero_le _,h0⟩,?_⟩
 rintro i m σ H ⟨rfl,hi,p⟩
 have qd:=hl i σ H hi p
 by_cases hlt:i < vs.length
 ·refine .inr ⟨⟨qd,hlt⟩,Pv (i + 1),fun σ' H' p'=>⟨vs.length - (i + 1),by omega,rfl,hlt,p'⟩,fun v H' y=>?_⟩
  obtain ⟨e,hv⟩:=y
  subst e
  exact hs i v σ _ hv p
 ·have e:i = vs.length:=by omega
  subst e
  exact .inl ⟨⟨qd,Nat.le_refl _⟩,hd σ H p⟩
theorem xt1 {d:Addr} {o:Obj} {ks vs:List V} {g:TG} {tb:TS} {D:Ends} {σ:St} {H:Hp} (Pv:Nat -> St -> Hp -> Prop) (h0:Pv 0 σ H) (hl:∀ i σ H,i <= ks.length -> Pv i σ H -> H d = some (held d o))
  (hs:∀ i k v p σ H,ks[i]? = some k -> vs[i]? = some v -> Pv i σ H -> H p = none -> g (.ref p) σ (upd H p (.tup [k,v])) fun σ2 H2=>tb { D with nx:=Pv (i + 1),ct:=Pv (i + 1),bk:=D.nx } σ2 H2) (hd:∀ σ H,Pv ks.length σ H -> D.nx σ H) :
  ∃ W:Nat -> Nat -> St -> Hp -> Prop,(∃ m,W 0 m σ H) /\ ∀ i m σ H,W i m σ H ->
   ((Itp d o ks vs).stop i H /\ D.nx σ H) \/ ((Itp d o ks vs).go i H /\ ∃ N:St -> Hp -> Prop,(∀ σ' H',N σ' H' -> ∃ m',m' < m /\ W (i + 1) m' σ' H') /\ ∀ v H',(Itp d o ks vs).yld i H v H' -> g v σ H' fun σ2 H2=>tb { D with nx:=N,ct:=N,bk:=D.nx } σ2 H2):=by
 refine ⟨fun i m σ H=>m = ks.length - i /\ i <= ks.length /\ Pv i σ H,⟨ks.length,by simp,Nat.zero_le _,h0⟩,?_⟩
 rintro i m σ H ⟨rfl,hi,p⟩
 have qd:=hl i σ H hi p
 by_cases hlt:i < ks.length
 ·refine .inr ⟨⟨qd,hlt⟩,Pv (i + 1),fun σ' H' p'=>⟨ks.length - (i + 1),by omega,rfl,hlt,p'⟩,fun v H' y=>?_⟩
  obtain ⟨r,k,v',e,hr,h1,h2,e2⟩:=y
  subst e e2
  exact hs i k v' r σ _ h1 h2 p hr
 ·have e:i = ks.length:=by omega
  subst e
  exact .inl ⟨⟨qd,Nat.le_refl _⟩,hd σ H p⟩
def Ite (K:Frag) (l:Addr):It:=⟨fun i H=>∃ xs x,SqL K H l xs /\ xs[i]? = some x,
 fun i H v H'=>∃ p x,v = .ref p /\ H p = none /\ (∀ xs,SqL K H l xs -> xs[i]? = some x) /\ H' = upd H p (.tup [.int i,x]),
 fun i H=>∃ xs,SqL K H l xs /\ xs.length <= i⟩
def EnSt (e it l:Addr) (i:Nat) (h:Heap):Prop:=(∃ old,IsEnum h e it i old) /\ h.IsListIter it l i
theorem zc3 {P:Program} {w:World} {K:Frag} {elts:List Expr} {x1} {tpos:Pos} {e it l:Addr} (ne:it ≠ e):Turn P w K (.Tuple elts x1 tpos) (Ite K l) [e,it] e (EnSt e it l) where
 mem:=by simp
 obj:=fun i h st b hb=>by
  obtain ⟨⟨old,he⟩,⟨o1,e1,c1,d1⟩⟩:=st
  simp only [List.mem_cons,List.not_mem_nil,or_false] at hb
  rcases hb with rfl | rfl
  ·exact ⟨_,he,fun v z=>by cases z⟩
  ·exact ⟨_,e1,fun v z=>by rw [d1] at z; cases z⟩
 keep:=fun i h h' st k=>by
  obtain ⟨⟨old,he⟩,⟨o1,e1,c1⟩⟩:=st
  exact ⟨⟨old,k _ (by simp) _ he⟩,⟨o1,k _ (by simp) _ e1,c1⟩⟩
 item:=by
  intro X hP hw hK hc i pins s σ H E I hf st hg
  subst hP hw hK
  obtain ⟨xs,x,q1,hx⟩:=hg
  obtain ⟨its,rv,p1,_⟩:=I.list q1
  obtain ⟨u,hu,ru⟩:=rv.get hx
  obtain ⟨⟨old,he⟩,hit⟩:=st
  refine wpAny_pyNext_enum_item he hit p1.isList (x:=u) (by simpa using hu) (Ne.symm ne) fun h' a1 a2 a3 a4 a5=>?_
  refine ⟨_,rfl,wpAny_letOwnedTupleGo_enum (s:={ s with heap:=h',toks:=s.toks + 1 }) a1 fun h2 b1 sb=>?_⟩
  have sb:Heap.SameBut e h' h2:=sb
  have hn:H s.heap.objs.size = none:=I.hok.fresh (Nat.le_refl _)
  have I1:Inv X pins σ H { s with heap:=h2,toks:=s.toks + 1 }:=Inv.turnedL (t':=s.toks + 1) [e,it] I (fun b o hb q=>(sb.2 b (fun z=>hb (by simp [z]))).trans (a5 b o (fun z=>hb (by simp [z])) (fun z=>hb (by simp [z])) q)) hf
  have ht:h2.get? s.heap.objs.size = some { cls:=.type "tuple",data:=.seq #[.int i s.toks,u] }:=(sb.2 _ (Nat.ne_of_gt (Heap.lt_size he))).trans a3
  refine ⟨.ref s.heap.objs.size,upd H s.heap.objs.size (.tup [.int i,x]),?_,rfl,⟨_,x,rfl,hn,fun zs q=>by rw [I.list_inj q q1]; exact hx,rfl⟩,?_,fun b hb=>?_⟩
  ·exact I1.trackF (I.fpOk (Nat.le_refl _) hn) I.sz ⟨by show 2 <= sizeLine; decide,[.int i s.toks,u],.cons ⟨s.toks,rfl⟩ (.cons ru .nil),_,ht,rfl,_,rfl⟩
  ·obtain ⟨o1,e1,c1⟩:=a2
   exact ⟨⟨u,b1⟩,⟨o1,(sb.2 _ ne).trans e1,c1⟩⟩
  ·have old:b ≠ s.heap.objs.size:=by
    obtain ⟨o1,e1,c1⟩:=hit
    simp only [List.mem_cons,List.not_mem_nil,or_false] at hb
    rcases hb with rfl | rfl
    ·exact Nat.ne_of_lt (Heap.lt_size he)
    ·exact Nat.ne_of_lt (Heap.lt_size e1)
   rw [xa2 old]; exact (hf b hb).1
 done:=by
  intro X hP hw hK hc i pins s σ H E I hf st hg
  subst hP hw hK
  obtain ⟨xs,q1,hend⟩:=hg
  obtain ⟨its,rv,p1,_⟩:=I.list q1
  obtain ⟨⟨old,he⟩,hit⟩:=st
  have r1:=rv.length
  refine wpAny_pyNext_enum_end (I.ok.hd hc) he hit p1.isList (Array.getElem?_eq_none (by simp; omega)) fun h' k=>⟨rfl,Inv.turnedL (t':=s.toks) [e,it] I (fun b o hb q=>k b o (fun z=>hb (by simp [z])) q) hf⟩
 self:=fun _ _ _ _ _ st h=>by
  obtain ⟨⟨old,he⟩,_⟩:=st
  exact wpAny_pyIter_enum he h
def iEnum (K:Frag) (ta:TA):TI:=fun σ H R=>ta σ H fun vs H1=>∃ a xs,vs = [.ref a] /\ SqL K H1 a xs /\ R (Ite K a) H1
theorem yd6:bootBuiltins "enumerate" = Option.some (Value.type "enumerate"):=by decide +kernel
theorem yg6 {X:Cx} {elts:List Expr} {x1} {tpos:Pos} {a:Expr} {ta:TA} {p pos:Pos} (K:Frag) (hg:Gl X "enumerate") (hm:X.mg "enumerate" = none) (ha:PA X [a] ta) (hK:X.K = K:=by rfl) (he:starEach [a] X.env = (false,eval a X.env) :: starEach [] X.env:=by rfl) (hp:(backTo pos (starEach [] X.env)).any (·.1) = false:=by rfl) :
  PI X (.Tuple elts x1 tpos) (.Call (.Name "enumerate" p) [a] [] pos) (iEnum K ta):=by
 subst hK
 intro pins s σ H R I h
 refine wpAny_Call_Name_kw (ya6 I hg hm yd6 (PyProof.Rows.callWith_type1 (thn (ha pos pins s σ H _ I h) fun us s1 ⟨vs,H1,I1,r1,q1⟩=>?_) he hp))
 obtain ⟨l1,xs,e,q1,q⟩:=q1
 subst e
 obtain ⟨u,rfl,r⟩:=xn3 r1
 cases r
 obtain ⟨its,rv,p1,_⟩:=I1.list q1
 refine call_enumerate_list p1.isList fun h' a1 a2 a3 a4=>?_
 refine wpAny_pyIter_enum (s:={ s1 with heap:=h' }) a1 ⟨s1.heap.objs.size + 1,[s1.heap.objs.size + 1,s1.heap.objs.size],_,_,H1,rfl,I1.kept (t':=s1.toks) a4,zc3 (l:=l1) (Nat.ne_of_lt (Nat.lt_succ_self _)),⟨⟨_,a1⟩,a2⟩,fun c hc=>?_,q⟩
 have big:s1.heap.objs.size <= c:=by
  simp only [List.mem_cons,List.not_mem_nil,or_false] at hc
  rcases hc with e | e <;> (rw [e]; first | exact Nat.le_add_right _ _ | exact Nat.le_refl _)
 exact I1.fpOk big (I1.hok.fresh big)
theorem yw6 {K:Frag} {a:Addr} {xs:List V} {g:TG} {tb:TS} {D:Ends} {σ:St} {H:Hp} (Pv:Nat -> St -> Hp -> Prop) (h0:Pv 0 σ H) (hl:∀ i σ H,i <= xs.length -> Pv i σ H -> SqL K H a xs)
  (hs:∀ i x p σ H,xs[i]? = some x -> Pv i σ H -> H p = none -> g (.ref p) σ (upd H p (.tup [.int i,x])) fun σ2 H2=>tb { D with nx:=Pv (i + 1),ct:=Pv (i + 1),bk:=D.nx } σ2 H2) (hd:∀ σ H,Pv xs.length σ H -> D.nx σ H) :
  ∃ W:Nat -> Nat -> St -> Hp -> Prop,(∃ m,W 0 m σ H) /\ ∀ i m σ H,W i m σ H ->
   ((Ite K a).stop i H /\ D.nx σ H) \/ ((Ite K a).go i H /\ ∃ N:St -> Hp -> Prop,(∀ σ' H',N σ' H' -> ∃ m',m' < m /\ W (i + 1) m' σ' H') /\ ∀ v H',(Ite K a).yld i H v H' -> g v σ H' fun σ2 H2=>tb { D with nx:=N,ct:=N,bk:=D.nx } σ2 H2):=by
 refine ⟨fun i m σ H=>m = xs.length - i /\ i <= xs.length /\ Pv i σ H,⟨xs.length,by simp,Nat.zero_le _,h0⟩,?_⟩
 rintro i m σ H ⟨rfl,hi,p⟩
 have qa:=hl i σ H hi p
 by_cases hlt:i < xs.length
 ·refine .inr ⟨⟨xs,xs[i],qa,by simp [hlt]⟩,Pv (i + 1),fun σ' H' p'=>⟨xs.length - (i + 1),by omega,rfl,hlt,p'⟩,fun v H' y=>?_⟩
  obtain ⟨r,x,e,hr,h1,e2⟩:=y
  subst e e2
  exact hs i x r σ _ (h1 xs qa) p hr
 ·have e:i = xs.length:=by omega
  subst e
  exact .inl ⟨⟨xs,qa,Nat.le_refl _⟩,hd σ H p⟩
end L2
namespace LS
open PySem PySem.W PyProof.Rows
section
variable {prog:Program} {w:World} {A:Around} {E:Value -> Shared -> Prop} {s:Shared}
end
end LS
namespace L2
open PySem PySem.Spec PyProof.Rows LS
section
variable {X:Cx}
end
section
variable {prog:Program} {w:World} {A:Around} {E:Value -> Shared -> Prop} {s:Shared} {K:Frag} {ea C CL f dx:Addr} {oe:Obj}
end
section
variable {X:Cx} {o e value:Expr} {es:List Expr} {f x:Str} {pos pos' apos np:Pos} {ta tv:TE} {t:TA}
end
section
variable {X:Cx} {CX:CXT} {k:Nat}
end
end L2
namespace LS
open PySem PySem.Spec PySem.Builtin PySem.Builtin.Str PyProof.Rows
section
variable {prog:Program} {w:World} {A:Around} {E:Value -> Shared -> Prop} {s:Shared} {x y:Str} {t u:Tok} {Q:Value -> Shared -> Prop}
end
end LS
namespace L2
open PySem PySem.Spec PyProof.Rows LS
section
variable {X:Cx}
end
section
variable {X:Cx} {e:Expr} {pos:Pos}
end
end L2
namespace LS
open PySem PySem.W PyProof.Rows
section
variable {prog:Program} {w:World} {A:Around}
theorem zb8 (hh:A.handled = none) (I d:Addr) (hne:d ≠ I) (es:Array DictEntry) (ep:Nat) :
  Walks prog w A I [I,d] [I] es.size (fun i v=>∃ e,es[i]? = some e /\ v = e.key) (fun i h=>h.IsKeyIter I d i es.size ep /\ RawD h d es ep) where
 sub:=fun b hb=>by simp at hb; simp [hb]
 frame:=fun _ _ _ st hk=>⟨st.1.at fun o e=>hk I (by simp) o e,st.2.keep fun o e=>hk d (by simp) o e⟩
 item:=fun i s Q E hi st hQ=>by
  obtain ⟨e,hx⟩:∃ e,es[i]? = some e:=⟨es[i],by simp [hi]⟩
  refine yv2 st.1 st.2 hx fun h' hit' hs'=>?_
  exact hQ e.key h' s.toks ⟨e,hx,rfl⟩ ⟨hit',st.2.keep fun o eo=>hs'.extBut d o hne eo⟩ fun b o hb e=>hs'.extBut b o (fun h=>hb (by simp [h])) e
 done:=fun s Q E st hQ=>zk2 hh st.1 st.2 (Nat.le_refl _) fun h' he'=>hQ h' s.toks fun b o hb e=>he' b o (fun h=>hb (by simp [h])) e
 self:=fun _ _ _ _ st hQ=>wpAny_pyIter_keyiter st.1 hQ
theorem kdl_raw {d:Addr} {es:Array DictEntry} {ep:Nat} (lo:(d == sysModules) = false):KdlSrc prog w "dict" d d es.size (fun i v=>∃ e,es[i]? = some e /\ v = e.key) (fun h=>RawD h d es ep) where
 type:=fun _ hm=>hm.typeIs
 there:=fun _ hm=>let ⟨_,ho,_⟩:=hm; ⟨Heap.lt_size ho,Heap.lt_size ho⟩
 keep:=fun _ _ hm hk=>hm.keep fun o e=>hk d (.inl rfl) o e
 notList:=by decide
 notTuple:=by decide
 hint:=fun _ _ _ _ hm hq=>kdl_hint_dict hm.typeIs hq
 iter:=fun _ s hh hm=>⟨_,_,(fun _ _ hq=>yv7 lo hm hq),zb8 hh _ d (Nat.ne_of_lt (let ⟨_,ho,_⟩:=hm; Heap.lt_size ho)) es ep,⟨⟨_,Heap.get?_push_size _ rfl,rfl,rfl⟩,hm.keep fun o e=>Heap.get?_push_of_some _ e⟩⟩
end
theorem ye9 {P:Nat -> Value -> Prop} {acc:Array Value} {vs:List Value} (h:ItemsOf P acc vs.length) (hp:∀ j v,P j v -> vs[j]? = some v):acc.toList = vs:=by
 apply List.ext_getElem?
 intro i
 by_cases c:i < vs.length
 ·have hs:i < acc.size:=by rw [h.1]; exact c
  have e:acc[i]? = some acc[i]:=Array.getElem?_eq_getElem hs
  rw [Array.getElem?_toList,e,hp _ _ (h.2 i _ e)]
 ·rw [List.getElem?_eq_none (by rw [Array.length_toList,h.1]; omega),List.getElem?_eq_none (by omega)]
end LS
namespace L2
open PySem PySem.Spec PyProof.Rows LS
section
variable {X:Cx}
theorem xv1:∀ ks:List (List Key × Addr × Value),Vals (ks.map fun x=>V.ref x.2.1) (ks.map fun x=>Value.ref x.2.1)
 | []=>.nil
 | k :: ks=>.cons rfl (xv1 ks)
theorem keys_at {kvs:List (Key × V)} {vs:List (Key × Value)} (r:KV kvs vs) {j:Nat} {k:Key} {x:Value} (h:vs[j]? = some (k,x)):∃ v,kvs[j]? = some (k,v) /\ RelV v x:=by
 induction r generalizing j with
 | nil=>simp at h
 | @cons p q ps qs a t ih =>
  cases j with
  | zero =>
   simp only [List.getElem?_cons_zero,Option.some.injEq] at h
   subst h
   obtain ⟨pk,pv⟩:=p
   obtain ⟨a1,a2⟩:=a
   simp only at a1
   subst a1
   exact ⟨pv,rfl,a2⟩
  | succ j=>simpa using ih (by simpa using h)
end
section
variable {X:Cx} {pins:List (Addr × Obj)} {σ:St} {H:Hp} {s:Shared}
theorem yp7 {α:Type}:∀ {as:List α} {us:List Value} (f:α -> V),as.length = us.length -> (∀ (i:Nat) a u,as[i]? = some a -> us[i]? = some u -> RelV (f a) u) -> Vals (as.map f) us
 | [],[],_,_,_=>.nil
 | [],_ :: _,_,e,_=>by simp at e
 | _ :: _,[],_,e,_=>by simp at e
 | a :: as,u :: us,f,e,h=>.cons (h 0 a u rfl rfl) (yp7 f (by simpa using e) fun i a' u' x y=>h (i + 1) a' u' (by simpa using x) (by simpa using y))
end
section
variable {X:Cx} {pins:List (Addr × Obj)} {σ:St}
end
section
variable {X:Cx}
end
end L2
namespace LS
open PySem PySem.Builtin PySem.Calls PyProof.Rows PySem.SeqAt PySem.MeetsSeq PySem.MeetsSeq2 PySem.MeetsSeq3
section
variable {prog:Program} {w:World}
section
variable {K:Type} [DecidableEq K] {knd:HeapKind prog w K}
end
end
end LS
namespace L2
open PySem PySem.Spec PyProof.Rows LS
theorem paired_at {α β:Type} {R:α -> β -> Prop} {as:List α} {bs:List β} (h:Paired R as bs):∀ {i:Nat} {a:α},as[i]? = some a -> ∃ b,bs[i]? = some b /\ R a b:=by
 induction h with
 | nil=>intro i a e; simp at e
 | cons r t ih =>
  intro i a e
  cases i with
  | zero=>simp only [List.getElem?_cons_zero,Option.some.injEq] at e; subst e; exact ⟨_,rfl,r⟩
  | succ i=>simpa using ih (by simpa using e)
end L2
namespace LS
open PySem PySem.Calls PyProof.Rows
section
variable {prog:Program} {w:World} {A:Around} {E:Value -> Shared -> Prop} {s:Shared}
end
end LS
namespace L2
open PySem PySem.Spec PyProof.Rows LS
section
variable {X:Cx}
end
section
variable {K:Frag}
end
section
variable {C:Cx -> Prop} {H0:Hp} {S:St -> Prop} {P:Hp -> V -> Prop} {pos:Pos} {e:Expr} {v:V}
end
def iRngD (ta:TA):TI:=fun σ H R=>ta σ H fun vs H1=>∃ i j:Int,vs = [.int i,.int j,.int (-1)] /\ (-10 <= i /\ i <= 1000 /\ -10 <= j /\ j <= 1000) /\ R (Itc i (-1) (i - j).toNat) H1
theorem yk9 {a b:Int}:(Builtin.Range.rangeSize a b (-1)) = ((a - b).toNat:Int):=by
 unfold Builtin.Range.rangeSize
 simp
 omega
theorem yy0 {a b:Int} (h1:-10 <= a) (h2:a <= 1000) (h3:-10 <= b) (h4:b <= 1000):Builtin.Range.small a b (-1) = true:=by
 have hn:Builtin.Range.rangeSize a b (-1) <= 2000 /\ 0 <= Builtin.Range.rangeSize a b (-1):=by rw [yk9]; omega
 unfold Builtin.Range.small
 generalize Builtin.Range.rangeSize a b (-1) = n at hn
 simp only [Builtin.Range.rangeFitsLong,Bool.or_eq_true,Bool.and_eq_true,beq_iff_eq,decide_eq_true_eq,show ¬ (-1:Int) > 0 by decide,if_false]
 omega
section
variable {X:Cx} {tg:Expr}
theorem yl8 {a b c:Expr} {ta:TA} {p pos:Pos} (hg:Gl X "range") (hm:X.mg "range" = none) (ha:PA X [a,b,c] ta) (hs:backTo pos (starEach [a,b,c] X.env) = (false,eval a X.env) :: backTo pos (starEach [b,c] X.env):=by rfl) (he:starEach [a,b,c] X.env = (false,eval a X.env) :: starEach [b,c] X.env:=by rfl) (hp:(backTo pos (starEach [b,c] X.env)).any (·.1) = false:=by rfl) :
  PI X tg (.Call (.Name "range" p) [a,b,c] [] pos) (iRngD ta):=by
 intro pins s σ H R I h
 refine wpAny_Call_Name_kw (ya6 I hg hm boot_range (PyProof.Rows.callWith_type1 (thn (ha pos pins s σ H _ I h) fun us s1 ⟨vs,H1,I1,r1,q1⟩=>?_) he hp))
 obtain ⟨i,j,e,⟨q1,q2,q3,q4⟩,q⟩:=q1
 subst e
 cases r1 with
 | cons r rr =>
  cases rr with
  | cons r' rr =>
   cases rr with
   | cons r2 rr =>
    cases rr
    obtain ⟨t,rfl⟩:=r
    obtain ⟨t',rfl⟩:=r'
    obtain ⟨t2,rfl⟩:=r2
    refine call_range_3 (by decide) ?_ (Or.inl (PyProof.noPylong_small (by omega)))
    have I2:Inv X pins σ H1 { s1 with heap:=s1.heap.push { cls:=.type "range",data:=.fields #[.int i t,.int j t',.int (-1) t2] },toks:=s1.toks }:=I1.kept fun b o e=>Heap.get?_push_of_some _ e
    refine wpAny_pyIter_range (IsRange.new ..) (yy0 q1 q2 q3 q4) ?_
    refine ⟨_,[_],_,_,H1,rfl,I2.kept (t':=s1.toks) fun b o e=>Heap.get?_push_of_some _ e,zc1 _ i (-1) (i - j).toNat,?_,fun b hb=>?_,q⟩
    ·show IsRangeIter _ _ (i + ((0:Nat):Int) * (-1)) ((((i - j).toNat:Nat):Int) - ((0:Nat):Int)) (-1)
     rw [show i + ((0:Nat):Int) * (-1) = i by simp,show ((((i - j).toNat:Nat):Int) - ((0:Nat):Int)) = Builtin.Range.rangeSize i j (-1) by rw [yk9]; simp]
     exact Heap.get?_push_size _ rfl
    ·obtain rfl:=List.mem_singleton.mp hb
     exact I2.fpOk (Nat.le_refl _) (I2.hok.fresh (Nat.le_refl _))
end
end L2
namespace LS
open PySem PySem.Calls PyProof.Rows
section
variable {prog:Program} {w:World} {K:Type} [DecidableEq K] {knd:HeapKind prog w K}
theorem yd2 (d a:Addr):MeetsIn prog w (Builtin.«dict.pop» ⟨[.ref d,.ref a],[]⟩) (fun A R s=>knd.room A.in1 /\ ∃ k b v,knd.is s.heap k a /\ s.heap.DictOfH knd d [(k,b,v)] /\ ∀ h',h'.DictOfH knd d [] -> Heap.SameBut d s.heap h' -> R (.ok (.ret v)) { s with heap:=h',toks:=s.toks + knd.draws k }) :=
 .of_wp fun A R s ⟨hu,k,b,v,hkey,hm,h⟩=>by
  have ty:=hm.typeIs
  obtain ⟨o,es,ep,ho,hc,hd,he,his,hn⟩:=hm
  have hes:es = #[entryOfKey knd (k,b,v)]:=by
   cases es with | mk l=>simpa using he
  have er:es.eraseIdxIfInBounds 0 = #[]:=by rw [hes]; simp [Array.eraseIdxIfInBounds]
  unfold Builtin.«dict.pop»
  refine wpAny_bind ?_
  unfold Builtin.Dict.keyAndDefault
  refine wpAny_bind (wpAny_notOrdered_dict ty ?_)
  show wpAny _ _ (pure (d,Value.ref a,none)) _ _ s
  refine wpAny_pure ?_
  refine wpAny_bind ?_
  refine wpAny_dictEntries ho hd (wpAny_bind (wpAny_pure ?_))
  rw [show es.isEmpty = false by rw [hes]; rfl]
  simp only [Bool.false_eq_true,if_false]
  refine wpAny_bind ?_
  unfold Builtin.Dict.takeOut
  refine wpAny_holding ?_
  refine wpAny_bind (knd.pyHash hu hkey ?_)
  refine wpAny_bind (wpAny_dictFind_heap (s:={ s with toks:=s.toks + knd.draws k }) hu hkey ho hd he his hn (fun no=>absurd rfl (no 0 (b,v))) fun j p hj=>?_)
  have j0:j = 0:=by
   cases j with
   | zero=>rfl
   | succ j=>simp at hj
  subst j0
  refine wpAny_bind (wpAny_dictEntries (s:={ s with toks:=s.toks + knd.draws k }) ho hd ?_)
  rw [show es[0]? = some (entryOfKey knd (k,b,v)) by rw [hes]; rfl]
  refine wpAny_bind (wpAny_updateDictKeys (s:={ s with toks:=s.toks + knd.draws k }) ho hd ?_ (by rw [hes]; show 1 <= sizeLine; rw [sizeLine_eq]; decide) (by rw [er]; exact Nat.zero_le _))
  refine wpAny_pure ?_
  simp only [Option.isNone_some,Bool.false_eq_true,if_false]
  refine wpAny_bind (wpAny_letGo (wpAny_pure ⟨v,rfl,h _ ⟨_,_,ep + 1,Heap.get?_update_self _ ho (Obj.isFreed_of_dict (Obj.data_mapDictKeys hd _)),hc.mapDictKeys _,Obj.data_mapDictKeys hd _,by rw [er]; rfl,fun x hx=>by simp at hx,List.nodup_nil⟩ (Heap.SameBut.update ..)⟩))
end
end LS
namespace L2
open PySem PySem.Spec PyProof.Rows LS
def tDPopT (td ty:TE):TE:=fun σ H Q=>td σ H fun x H1=>∃ a,x = .ref a /\ IsD H1 a /\ ty σ H1 fun y H2=>∃ k b v,y = .ref b /\ H2 a = some (.dT [(k,v)]) /\ H2 b = some (.tup (k.map kV)) /\ Q v (upd H2 a (.dT []))
theorem pe_dpopT {X:Cx} {o e:Expr} {apos cpos:Pos} {td ty:TE} (hu:X.A.units + 1 < cLine) (ho:PE X o td) (he:PE X e ty) (m:M1 X o "pop" apos e cpos):PE X (.Call (.Attribute o "pop" apos) [e] [] cpos) (tDPopT td ty):=by
 intro pins s σ H Q I h
 refine wpAny_Call_method m.base m.few m.line PySem.F.plainAttrs_dict PySem.F.slot_dict_pop PySem.F.type_dict_pop (thn (ho pins s σ H _ I h) fun u s1 ⟨x,H1,I1,rx,a,ex,d,q1⟩=>?_)
 subst ex
 obtain rfl:u = Value.ref a:=rx
 obtain ⟨t1,t2,_⟩:=yv8 I1 d
 refine ⟨t1,t2,?_⟩
 rw [m.trees]
 refine Calls.callWith_builtin rfl (Calls.evalArgs_plain (Calls.spliced_cons (thn (he pins s1 σ H1 _ I1 q1) fun iv s2 ⟨y,H2,I2,ry,k,b,v,ey,ea,eb,q2⟩=>Calls.spliced_nil ?_)))
 subst ey
 cases (show iv = Value.ref b from ry)
 obtain ⟨z,hd,xs,rel,dd⟩:=yn9 I2.hok ea
 cases rel with
 | @cons p q ps qs a1 t =>
  cases t
  obtain ⟨k',b',v'⟩:=q
  obtain ⟨e1,e2,r2⟩:=a1
  simp only at e1 e2 r2
  subst e1
  refine call_meetsIn PySem.F.slot_dict_pop dd.typeIs PySem.F.entry_dict_pop (PySem.F.args_dict_pop_2 _ _) (yd2 (knd:=tupleKind (xc5 X.prog X.w)) a b) ⟨tupleKind_room_in1 hu,k,b',v',xp2 I2.hok eb,dd,fun h' dd' hs=>?_⟩
  refine ⟨v,_,?_,r2,q2⟩
  obtain ⟨q,es,epo,hq,g2,g3,g4,_,g5⟩:=dd'
  exact xu6 I2 (by rw [ea]; exact True.intro) hs ⟨q,hq⟩ ⟨Nat.zero_le _,hd,[],.nil,q,es,epo,hq,g2,g3,g4,g5⟩
end L2
namespace LS
open PySem PySem.Calls PyProof.Rows
section
variable {prog:Program} {w:World} {K:Type} [DecidableEq K] {knd:HeapKind prog w K} {A:Around} {E:Value -> Shared -> Prop} {s:Shared}
theorem yc2 {d a:Addr} {xs:List (K × Addr × Value)} {k:K} {v:Value} {Q:Unit -> Shared -> Prop} (hu:knd.room A) (hkey:knd.is s.heap k a) (hm:s.heap.DictOfH knd d xs) (hsz:xs.length <= sizeLine)
  (hQ:∀ h',h'.DictOfH knd d (storedH xs k a v) -> Heap.SameBut d s.heap h' -> Q () { s with heap:=h' }):wpAny (model prog w) A (dictSetHashed d (.ref a) (knd.hash k) v) Q E s:=by
 obtain ⟨o,es,ep,ho,hc,hd,he,his,hn⟩:=hm
 unfold dictSetHashed
 try with_reducible refine wpAny_holding ?_
 refine wpAny_bind (wpAny_dictFind_heap hu hkey ho hd he his hn ?_ ?_)
 ·intro hno
  have hnot:k ∉ xs.map (·.1):=not_mem_keys_of_get hno
  refine wpAny_bind (wpAny_rule (wpAny_updateDictKeys (hz:=by have e:=size_of_entries he; omega) ho hd (hQ _ ⟨_,_,ep + 1,Heap.get?_update_self _ ho (Obj.isFreed_of_dict (Obj.data_mapDictKeys hd _)),hc.mapDictKeys _,Obj.data_mapDictKeys hd _,?_,?_,?_⟩ (Heap.SameBut.update ..))))
  ·rw [storedH_new (atKey_none_of_get hno)]
   simp [he,entryOfKey]
  ·rw [storedH_new (atKey_none_of_get hno)]
   intro x hx
   rcases List.mem_append.mp hx with hx | hx
   ·exact knd.keeps (his x hx) ho hd (Heap.SameBut.update ..)
   ·cases List.mem_singleton.mp hx
    exact knd.keeps hkey ho hd (Heap.SameBut.update ..)
  ·rw [storedH_new (atKey_none_of_get hno),List.map_append,List.nodup_append]
   refine ⟨hn,by simp,fun x hx y hy=>?_⟩
   rw [List.map_cons,List.map_nil] at hy
   cases List.mem_singleton.mp hy
   exact fun e=>hnot (by have e':x = k:=e; rw [e'] at hx; exact hx)
 ·intro j p hj
  refine wpAny_bind (wpAny_rule (wpAny_bind (wpAny_updateDict ho hd (wpAny_point (hQ _ ⟨_,_,ep,Heap.get?_update_self _ ho (Obj.isFreed_of_dict (Obj.data_mapDict hd _)),hc.mapDict _,Obj.data_mapDict hd _,?_,?_,?_⟩ (Heap.SameBut.update ..))))))
  ·rw [storedH_old (atKey_of_get hn hj)]
   have:=modify_map_putAt (entryOfKey knd) (fun e:DictEntry=>{ e with val:=v }) k v (fun _ _=>rfl) hn hj
   rw [<- he] at this
   obtain ⟨l⟩:=es
   simpa using this
  ·rw [storedH_old (atKey_of_get hn hj)]
   intro x hx
   obtain ⟨y,hy,rfl⟩:=List.mem_map.mp hx
   unfold putAt
   split <;> exact knd.keeps (his y hy) ho hd (Heap.SameBut.update ..)
  ·rw [storedH_old (atKey_of_get hn hj),keys_map_putAt]; exact hn
def yh7 (xs more:List (K × Addr × Value)):List (K × Addr × Value):=more.foldl (fun acc x=>storedH acc x.1 x.2.1 x.2.2) xs
theorem zh3 {nm:String} {d o:Addr} {xs more:List (K × Addr × Value)} {Q:Unit -> Shared -> Prop} (hu:knd.room A) (hdo:d ≠ o) (hoS:(o == sysModules) = false) (hm:s.heap.DictOfH knd d xs) (hm2:s.heap.DictOfH knd o more) (hl:more.length <= 1) (hsz:xs.length <= sizeLine)
  (htup:∀ x ∈ more,∃ ok,s.heap.get? x.2.1 = some ok /\ ok.cls = .type "tuple") (hQ:∀ h',h'.DictOfH knd d (yh7 xs more) -> Heap.SameBut d s.heap h' -> Q () { s with heap:=h' }):wpAny (model prog w) A (Builtin.Dict.mergeDict nm d o) Q E s:=by
 obtain ⟨oo,eso,epo,hoo,hco,hdo',heo,hiso,hno⟩:=hm2
 obtain ⟨od,esd,epd,hod,hcd,hdd,hed,hisd,hnd⟩:=id hm
 unfold Builtin.Dict.mergeDict
 rw [if_neg (by simpa using hdo)]
 unfold Builtin.Dict.showsAll
 rw [if_neg (by rw [hoS]; exact Bool.false_ne_true)]
 refine wpAny_bind (wpAny_pure (wpAny_bind (wpAny_dictEntries hoo hdo' ?_)))
 rcases more with _ | ⟨⟨k,b,v⟩,_ | ⟨_,_⟩⟩
 rotate_right
 ·simp at hl
 ·have e0:eso = #[]:=by cases eso with | mk l=>simpa using heo
  subst e0
  dsimp only
  rw [if_neg (by simp)]
  refine wpAny_bind (wpAny_dictEpoch hoo hdo' ?_)
  refine wpAny_bind (wpAny_dictEntries hoo hdo' ?_)
  rw [Std.Legacy.Range.forIn_eq_forIn_range']
  exact wpAny_pure (hQ _ hm (Heap.SameBut.refl _ _))
 ·have e0:eso = #[entryOfKey knd (k,b,v)]:=by cases eso with | mk l=>simpa using heo
  subst e0
  obtain ⟨ok,hok,hcl⟩:=htup _ (List.mem_cons_self ..)
  have hkey:knd.is s.heap k b:=hiso _ (List.mem_cons_self ..)
  dsimp only
  rw [if_pos (by simp [entryOfKey,keyPart])]
  refine wpAny_bind (wpAny_dictEntries hod hdd ?_)
  split
  ·rename_i hemp
   have e1:esd = #[]:=Array.isEmpty_iff.mp hemp
   have hx:xs = []:=by
    cases xs with
    | nil=>rfl
    | cons a r=>rw [e1] at hed; simp at hed
   subst hx
   refine wpAny_bind (yb2 hoo hdo' rfl hok hcl ?_)
   rw [if_pos (by rfl)]
   refine wpAny_bind (wpAny_updateDictKeysTo hod hdd (wpAny_pure (hQ _ ⟨_,_,epd + 1,Heap.get?_update_self _ hod (Obj.isFreed_of_dict (Obj.data_mapDictKeys hdd _)),hcd.mapDictKeys _,Obj.data_mapDictKeys hdd _,?_,?_,?_⟩ (Heap.SameBut.update ..))) (by show 1 <= sizeLine + 1; omega))
   ·rfl
   ·intro x hx
    have hx:x ∈ [(k,b,v)]:=hx
    cases List.mem_singleton.mp hx
    exact knd.keeps hkey hod hdd (Heap.SameBut.update ..)
   ·exact List.pairwise_singleton _ _
  ·refine wpAny_bind (wpAny_dictEpoch hoo hdo' ?_)
   refine wpAny_bind (wpAny_dictEntries hoo hdo' ?_)
   rw [Std.Legacy.Range.forIn_eq_forIn_range']
   simp only [Std.Legacy.Range.size,Nat.sub_zero,Nat.add_sub_cancel,Nat.div_one]
   refine wpAny_bind ?_
   show wpAny _ _ (forIn [0] _ _) _ _ _
   rw [List.forIn_cons]
   refine wpAny_bind (wpAny_bind (wpAny_dictEntries hoo hdo' ?_))
   show wpAny _ _ (holding [Value.ref b,v] (dictSetHashed d (.ref b) (knd.hash k) v) >>= _) _ _ _
   refine wpAny_bind (wpAny_holding (yc2 hu hkey hm hsz fun h' hm' hs'=>?_))
   have hoo':h'.get? o = some oo:=(hs'.2 o (Ne.symm hdo)).trans hoo
   refine wpAny_bind (wpAny_dictEpoch (s:={ s with heap:=h' }) hoo' hdo' ?_)
   rw [if_neg (by simp)]
   refine wpAny_pure ?_
   show wpAny _ _ (forIn [] _ _) _ _ _
   rw [List.forIn_nil]
   exact wpAny_pure (wpAny_pure (hQ _ hm' hs'))
end
section
variable {prog:Program} {w:World} {K:Type} [DecidableEq K] {knd:HeapKind prog w K}
theorem xu4 (d o:Addr) (hdo:d ≠ o) (hoS:(o == sysModules) = false):MeetsIn prog w (Builtin.«dict.update» ⟨[.ref d,.ref o],[]⟩) (fun A R s=>knd.room A.in1 /\ ∃ xs more,s.heap.DictOfH knd d xs /\ s.heap.DictOfH knd o more /\ more.length <= 1 /\ xs.length <= sizeLine /\
  (∀ x ∈ more,∃ ok,s.heap.get? x.2.1 = some ok /\ ok.cls = .type "tuple") /\ ∀ h',h'.DictOfH knd d (yh7 xs more) -> Heap.SameBut d s.heap h' -> R (.ok (.ret .none)) { s with heap:=h' }) :=
 .of_wp fun A R s ⟨hu,xs,more,hd,ho,hl,hsz,htup,h⟩=>by
  unfold Builtin.«dict.update»
  refine wpAny_bind ?_
  unfold Builtin.Dict.selfAndRest
  refine wpAny_bind (wpAny_notOrdered_dict hd.typeIs ?_)
  show wpAny _ _ (pure (d,[Value.ref o])) _ _ s
  refine wpAny_pure ?_
  show wpAny _ _ (Builtin.Dict.updateFrom "dict.update" d (.ref o) [] .none) _ _ s
  unfold Builtin.Dict.updateFrom
  refine wpAny_bind (wpAny_typeOf ho.typeIs ?_)
  rw [if_neg (by decide)]
  refine wpAny_bind ?_
  unfold Builtin.Dict.merge
  refine wpAny_bind ?_
  unfold Builtin.Dict.readDirectly
  refine wpAny_bind (wpAny_isInstance ho.typeIs isSubtype_dict_dict ?_)
  simp only [Bool.not_true,Bool.false_eq_true,if_false]
  refine wpAny_bind (wpAny_specialOf ho.typeIs F.slot_dict_iter.lookup (wpAny_pure ?_))
  simp only [beq_self_eq_true,if_true]
  refine wpAny_bind (wpAny_pure ?_)
  refine zh3 hu hdo hoS hd ho hl hsz htup fun h' hd' hs'=>?_
  show wpAny _ _ (Builtin.Dict.addKeywords d [] >>= _) _ _ _
  exact wpAny_bind (wpAny_pure (wpAny_pure ⟨.none,rfl,h h' hd' hs'⟩))
end
end LS
namespace L2
open PySem PySem.Spec PyProof.Rows LS
def putA (k1 k2:List (List Key × V)):List (List Key × V):=k2.foldl (fun acc kv=>putK acc kv.1 kv.2) k1
def tUpdT (td ty:TE):TE:=fun σ H Q=>td σ H fun x H1=>∃ a,x = .ref a /\ IsD H1 a /\ ty σ H1 fun y H2=>∃ b k1 k2,y = .ref b /\ a ≠ b /\ H2 a = some (.dT k1) /\ H2 b = some (.dT k2) /\ k2.length <= 1 /\ k1.length <= 900 /\ Q .non (upd H2 a (.dT (putA k1 k2)))
theorem zf2 {X:Cx} {o e:Expr} {apos cpos:Pos} {td ty:TE} (hu:X.A.units + 1 < cLine) (ho:PE X o td) (he:PE X e ty) (m:M1 X o "update" apos e cpos):PE X (.Call (.Attribute o "update" apos) [e] [] cpos) (tUpdT td ty):=by
 intro pins s σ H Q I h
 refine wpAny_Call_method m.base m.few m.line PySem.F.plainAttrs_dict PySem.F.slot_dict_update PySem.F.type_dict_update (thn (ho pins s σ H _ I h) fun u s1 ⟨x,H1,I1,rx,a,ex,d,q1⟩=>?_)
 subst ex
 obtain rfl:u = Value.ref a:=rx
 obtain ⟨t1,t2,_⟩:=yv8 I1 d
 refine ⟨t1,t2,?_⟩
 rw [m.trees]
 refine Calls.callWith_builtin rfl (Calls.evalArgs_plain (Calls.spliced_cons (thn (he pins s1 σ H1 _ I1 q1) fun iv s2 ⟨y,H2,I2,ry,b,k1,k2,ey,nab,ea,eb,l2,l1,q2⟩=>Calls.spliced_nil ?_)))
 subst ey
 cases (show iv = Value.ref b from ry)
 obtain ⟨z,hd,xs,rel,dd⟩:=yn9 I2.hok ea
 obtain ⟨zb,hdb,ys,relb,ddb⟩:=yn9 I2.hok eb
 have lx:xs.length <= 900:=by rw [<- Paired.length rel]; exact l1
 have ly:ys.length <= 1:=by rw [<- Paired.length relb]; exact l2
 refine call_meetsIn PySem.F.slot_dict_update dd.typeIs PySem.F.entry_dict_update (PySem.F.args_dict_update_2 _ _) (xu4 (knd:=tupleKind (xc5 X.prog X.w)) a b nab hdb) ⟨tupleKind_room_in1 hu,xs,ys,dd,ddb,ly,Nat.le_trans lx (by rw [sizeLine_eq]; decide),fun x hx=>?_,fun h' dd' hs=>?_⟩
 ·obtain ⟨_,_,_,_,_,_,_,his,_⟩:=id ddb
  obtain ⟨ok,_,_,g1,g2,_⟩:=his x hx
  exact ⟨ok,g1,g2⟩
 ·have rel':KT (upd H2 a (.dT (putA k1 k2))) (putA k1 k2) (yh7 xs ys):=by
   have r0:KT H2 (putA k1 k2) (yh7 xs ys):=by
    cases relb with
    | nil=>exact rel
    | @cons kv y ks ys' r1 t =>
     cases t with
     | nil =>
      obtain ⟨e1,e2,e3⟩:=r1
      show KT H2 (putK k1 kv.1 kv.2) (storedH xs y.1 y.2.1 y.2.2)
      rw [<- e1]
      exact rel.put kv.1 e2 e3
     | cons _ _=>simp at l2
   exact r0.keeps fun c ws ec=>by rw [xa2 (xb9 ec ea (fun z=>nomatch z))]; exact ec
  obtain ⟨q,es,epo,hq,g2,g3,g4,_,g5⟩:=dd'
  have lp:(putA k1 k2).length <= 1000:=by
   clear rel' relb ddb ly q2 eb
   rcases k2 with _ | ⟨kv,_ | ⟨_,_⟩⟩
   ·exact Nat.le_trans l1 (by decide)
   ·have:=xg0 k1 kv.1 kv.2
    show (putK k1 kv.1 kv.2).length <= 1000
    omega
   ·simp at l2
  have I3:Inv X pins σ (upd H2 a (.dT (putA k1 k2))) { s2 with heap:=h',toks:=s2.toks }:=xu6 (ob:=.dT (putA k1 k2)) I2 (by rw [ea]; exact True.intro) hs ⟨q,hq⟩ ⟨Nat.le_trans lp (by rw [sizeLine_eq]; decide),hd,_,rel',q,es,epo,hq,g2,g3,g4,g5⟩
  exact ⟨.non,_,I3,rfl,q2⟩
end L2
namespace LS
open PySem PySem.W PyProof.Rows
section
variable {prog:Program} {w:World} {A:Around}
theorem yx3 (hh:A.handled = none) (I d:Addr) (hne:d ≠ I) (es:Array DictEntry) (ep:Nat) :
  Walks prog w A I [I,d] [I] es.size (fun i v=>∃ e,es[i]? = some e /\ v = e.val) (fun i h=>h.IsValIter I d i es.size ep /\ RawD h d es ep) where
 sub:=fun b hb=>by simp at hb; simp [hb]
 frame:=fun _ _ _ st hk=>⟨let ⟨o,ho,x⟩:=st.1; ⟨o,hk I (by simp) o ho,x⟩,st.2.keep fun o e=>hk d (by simp) o e⟩
 item:=fun i s Q E hi st hQ=>by
  obtain ⟨e,hx⟩:∃ e,es[i]? = some e:=⟨es[i],by simp [hi]⟩
  refine yv1 st.1 st.2 hx fun h' hit' hs'=>?_
  exact hQ e.val h' s.toks ⟨e,hx,rfl⟩ ⟨hit',st.2.keep fun o eo=>hs'.extBut d o hne eo⟩ fun b o hb e=>hs'.extBut b o (fun h=>hb (by simp [h])) e
 done:=fun s Q E st hQ=>zk1 hh st.1 st.2 (Nat.le_refl _) fun h' he'=>hQ h' s.toks fun b o hb e=>he' b o (fun h=>hb (by simp [h])) e
 self:=fun _ _ _ _ st hQ=>wpAny_pyIter_valiter st.1 hQ
theorem kdl_rawV {r d:Addr} {es:Array DictEntry} {ep:Nat}:KdlSrc prog w "dict_values" r d es.size (fun i v=>∃ e,es[i]? = some e /\ v = e.val) (fun h=>h.IsValuesView r d /\ RawD h d es ep) where
 type:=fun _ hm=>hm.1.typeIs
 there:=fun _ hm=>⟨let ⟨_,ho,_⟩:=hm.1; Heap.lt_size ho,let ⟨_,ho,_⟩:=hm.2; Heap.lt_size ho⟩
 keep:=fun _ _ hm hk=>⟨let ⟨o,ho,x⟩:=hm.1; ⟨o,hk r (.inl rfl) o ho,x⟩,hm.2.keep fun o e=>hk d (.inr rfl) o e⟩
 notList:=by decide
 notTuple:=by decide
 hint:=fun _ _ _ _ hm hq=>kdl_hint_values hm.1.typeIs hq
 iter:=fun _ s hh hm=>⟨_,_,(fun _ _ hq=>ym6 hm.1 hm.2 hq),yx3 hh _ d (Nat.ne_of_lt (let ⟨_,ho,_⟩:=hm.2; Heap.lt_size ho)) es ep,⟨⟨_,Heap.get?_push_size _ rfl,rfl,rfl⟩,hm.2.keep fun o e=>Heap.get?_push_of_some _ e⟩⟩
end
end LS
namespace L2
open PySem PySem.Spec PyProof.Rows LS
section
variable {X:Cx}
theorem xn2 (hc:X.calm = true):xj5 X (.type "list") (fun xs H Q=>∃ p d o es ep vs,xs = [V.ref p] /\ H p = some (xw2 "dict_values" p d) /\ H d = some (held d o) /\ o.ExactDict /\ o.data = .dict es ep /\ Vals vs (es.toList.map (·.val)) /\ vs.length <= 1000 /\ ∀ l,H l = none -> Q (.ref l) (upd H l (.lst vs))):=by
 intro pins s σ H xs us Q I r h
 obtain ⟨p,d,o,es,ep,vs,rfl,hp,hd,hex,hdat,hv,hn,q⟩:=h
 obtain ⟨u,rfl,rx⟩:=xn3 r
 cases rx
 have h1:=xh2 I.hok hd
 have hpv:s.heap.IsValuesView p d:=(I.hok p _ hp).1
 have hsz:es.size = vs.length:=by have:=Paired.length hv; rw [List.length_map,Array.length_toList] at this; exact this.symm
 have hz:vs.length <= sizeLine:=xe5 hn
 refine kdl_call kdl_rawV (I.ok.hd hc) ⟨hpv,o,h1,hex,hdat⟩ (by rw [hsz]; exact hz) fun h' tk acc c kp e hacc=>?_
 have ha:acc.toList = es.toList.map (·.val):=by
  refine ye9 (P:=fun i v=>∃ e,es[i]? = some e /\ v = e.val) (by rw [List.length_map,Array.length_toList]; exact hacc) fun j v ⟨e,he,ev⟩=>?_
  rw [<- Array.getElem?_toList] at he
  rw [List.getElem?_map,he,ev]; rfl
 refine ⟨.ref s.heap.objs.size,_,I.laid (t':=tk) kp (Nat.le_refl _) (show xe7 X.prog X.w _ h' _ (.lst vs) from ⟨hz,acc.toList,c,?_,by simpa using e⟩),rfl,q _ (I.hok.fresh (Nat.le_refl _))⟩
 rw [ha]; exact hv
structure DKv (P:Program) (w:World) (d:Addr) (o:Obj) (kvs:List (Key × V)) (es:Array DictEntry) (ep:Nat):Prop where
 sys:(d == sysModules) = false
 ex:o.ExactDict
 data:o.data = .dict es ep
 keys:Vals (kvs.map fun kv=>kV kv.1) (es.toList.map (·.key))
 vals:Vals (kvs.map (·.2)) (es.toList.map (·.val))
 back:∀ (H:Hp) (h:Heap),h.get? d = some o -> xe7 P w H h d (.dK kvs)
theorem key_rel {P:Program} {w:World} {k:Key} {v:Value} (h:(xc5 P w).is k v = true):RelV (kV k) v:=by
 rcases xe0 (show ys2 k v = true from h) with ⟨i,t,rfl,rfl⟩ | ⟨x,t,rfl,rfl⟩
 ·exact ⟨t,rfl⟩
 ·exact ⟨t,rfl⟩
variable {pins:List (Addr × Obj)} {σ:St} {H:Hp} {s:Shared}
theorem yw0 {d:Addr} {kvs:List (Key × V)} (I:Inv X pins σ H s) (e:H d = some (.dK kvs)):∃ o es ep,DKv X.prog X.w d o kvs es ep /\ Inv X pins σ (upd H d (held d o)) s:=by
 obtain ⟨z,lo,vs,rel,o,es,ep,h1,h2,h3,h4,h5,h6⟩:=dk_of I.hok e
 have hl:es.toList.length = vs.length:=h5.length
 have kl:=KV.length rel
 have at':∀ (i:Nat) (e:DictEntry) (kv:Key × V),es.toList[i]? = some e -> kvs[i]? = some kv -> (xc5 X.prog X.w).is kv.1 e.key = true /\ RelV kv.2 e.val:=by
  intro i e kv he hk
  have hi:i < vs.length:=by have:=(List.getElem?_eq_some_iff.mp he).1; omega
  obtain ⟨k,x,hkx⟩:∃ k x,vs[i]? = some (k,x):=⟨vs[i].1,vs[i].2,by simp [hi]⟩
  obtain ⟨a,b⟩:=h5.get? he hkx
  obtain ⟨v,hv,r⟩:=keys_at rel hkx
  rw [hk] at hv
  cases hv
  rw [b]
  exact ⟨a,r⟩
 refine ⟨o,es,ep,⟨lo,h2,h3,?_,?_,fun H' h q=>⟨z,lo,vs,rel,o,es,ep,q,h2,h3,h4,h5,h6⟩⟩,?_⟩
 ·refine yp7 _ (by rw [List.length_map]; omega) fun i kv u hk hu=>?_
  rw [List.getElem?_map] at hu
  obtain ⟨e,he,rfl⟩:=Option.map_eq_some_iff.mp hu
  exact key_rel (at' i e kv he hk).1
 ·refine yp7 _ (by rw [List.length_map]; omega) fun i kv u hk hu=>?_
  rw [List.getElem?_map] at hu
  obtain ⟨e,he,rfl⟩:=Option.map_eq_some_iff.mp hu
  exact (at' i e kv he hk).2
 ·exact I.write (x:=d) (e:=d) (o:=held d o) (t':=s.toks) (h':=s.heap) (by rw [e]; trivial) (.inl rfl) (fun b u _ q=>q) ⟨o,h1⟩ (zj1 h1)
theorem yn1 {d:Addr} {o:Obj} {kvs:List (Key × V)} {es:Array DictEntry} {ep:Nat} (I:Inv X pins σ H s) (e:H d = some (held d o)) (D:DKv X.prog X.w d o kvs es ep):Inv X pins σ (upd H d (.dK kvs)) s:=by
 have h1:=xh2 I.hok e
 exact I.write (x:=d) (e:=d) (t':=s.toks) (h':=s.heap) (by rw [e]; trivial) (.inl rfl) (fun b u _ q=>q) ⟨o,h1⟩ (D.back _ _ h1)
def tHoldV (P:Program) (w:World) (t:TE):TE:=fun σ H Q=>∃ d kvs,H d = some (.dK kvs) /\ ∀ o es ep,DKv P w d o kvs es ep -> t σ (upd H d (held d o)) fun v H1=>H1 d = some (held d o) /\ Q v (upd H1 d (.dK kvs))
theorem yu5 {e:Expr} {t:TE} (h:PE X e t):PE X e (tHoldV X.prog X.w t):=by
 intro pins s σ H Q I q
 obtain ⟨d,kvs,hd,q⟩:=q
 obtain ⟨o,es,ep,D,I1⟩:=yw0 I hd
 exact thn (h pins s σ _ _ I1 (q o es ep D)) fun u s1 ⟨v,H1,I2,r,e1,q1⟩=>⟨v,_,yn1 I2 e1 D,r,q1⟩
def sHoldV (P:Program) (w:World) (t:TS):TS:=fun D σ H=>∃ d kvs,H d = some (.dK kvs) /\ ∀ o es ep,DKv P w d o kvs es ep ->
 t { nx:=fun σ1 H1=>H1 d = some (held d o) /\ D.nx σ1 (upd H1 d (.dK kvs)),rt:=fun _ _=>False } σ (upd H d (held d o))
theorem ps_holdV {e:Stmt} {t:TS} (h:PS X e t):PS X e (sHoldV X.prog X.w t):=by
 intro pins s σ H D I q
 obtain ⟨d,kvs,hd,q⟩:=q
 obtain ⟨o,es,ep,Dd,I1⟩:=yw0 I hd
 refine thn (h pins s σ _ _ I1 (q o es ep Dd)) fun f s1 sp=>?_
 cases f with
 | next=>obtain ⟨σ1,H1,I2,e1,q1⟩:=sp; exact ⟨σ1,_,yn1 I2 e1 Dd,q1⟩
 | brk=>obtain ⟨σ1,H1,I2,e1⟩:=sp; exact e1.elim
 | cont=>obtain ⟨σ1,H1,I2,e1⟩:=sp; exact e1.elim
 | ret v=>obtain ⟨v',σ1,H1,I2,r,e1⟩:=sp; exact e1.elim
end
theorem get_lst {X:Cx} (K:Frag) (hK:X.K = K:=by rfl):PGet X (rIxL K):=by
 subst hK
 intro pins s σ H x y v u Q I rx ry h
 obtain ⟨p,xs,i,z,rfl,rfl,hq,he,q⟩:=h
 cases rx
 obtain ⟨t,rfl⟩:=ry
 obtain ⟨its,r,pl,hz⟩:=I.list hq
 obtain ⟨j,h1,h2,h3,h4,h5⟩:=yj5 he
 obtain ⟨w,ew,rw'⟩:=r.get h2
 have hl:=r.length
 have hn:=ya3
 have fin:EP X pins σ Q w s:=⟨z,H,I,rw',q⟩
 by_cases h0:0 <= i
 ·have hj:i.toNat = j:=by
   rw [seqIndex_of h0 h5] at h1
   exact Option.some.inj h1
  exact wpAny_getItem_list pl.isList h0 (by omega) (by rw [hj]; simpa using ew) fin
 ·have hj:(i + (its.toArray.size:Int)).toNat = j:=by
   rw [seqIndex_neg (by omega) h4] at h1
   rw [List.size_toArray,<- hl]
   exact Option.some.inj h1
  exact wpAny_getItem_list_neg pl.isList (by omega) (by rw [List.size_toArray] <;> omega) (by omega) (by rw [hj]; simpa using ew) fin
section
variable {X:Cx} {pins:List (Addr × Obj)} {σ:St} {H:Hp} {s:Shared} {A:Around} {E:Value -> Shared -> Prop}
theorem d_get2H {Q:Value -> Shared -> Prop} {a b:Addr} {ob:Obj} {kvs:List (List Key × V)} {xs:List (List Key × Addr × Value)} {es:Array DictEntry} {ep:Nat} {k:List Key} {d:V} {r:Value} (hu:A.units + 1 < cLine) (I:Inv X pins σ H s) (e:H a = some (held a ob)) (D:DIs X.prog X.w a ob kvs xs es ep) (kt:KT H kvs xs) (eb:H b = some (.tup (k.map kV))) (rd:RelV d r)
  (h:∀ w' s',Inv X pins σ H s' -> RelV ((valV kvs k).getD d) w' -> Q w' s'):wpAny (model X.prog X.w) A (call (.builtin "dict.get") [.ref a,.ref b,r]) Q E s:=by
 have I':=yi4 I e D kt
 obtain ⟨z,hd,ys,rel,dd⟩:=yn9 I'.hok xa0
 refine call_meetsIn PySem.F.slot_dict_get dd.typeIs PySem.F.entry_dict_get (PySem.F.args_dict_get_3 _ _ _) (meetsH_dict_get_default (tupleKind (xc5 X.prog X.w)) a b hd r) ⟨tupleKind_room_in1 hu,k,ys,xp2 I.hok eb,dd,h _ _ (I.tok _) ?_⟩
 exact (rel.val k).getD rd
def DGH (P:Program) (w:World) (H:Hp) (a:Addr) (y:V) (r:Option V):Prop:=∃ ob kvs xs es ep k b,H a = some (held a ob) /\ DIs P w a ob kvs xs es ep /\ KT H kvs xs /\ y = .ref b /\ H b = some (.tup (k.map kV)) /\ r = valV kvs k
def IsDH (P:Program) (w:World) (H:Hp) (a:Addr):Prop:=∃ ob kvs xs es ep,H a = some (held a ob) /\ DIs P w a ob kvs xs es ep
def tDGet2H (P:Program) (w:World) (td ty tx:TE):TE:=fun σ H Q=>td σ H fun x H1=>∃ a,x = .ref a /\ (IsD H1 a \/ IsDH P w H1 a) /\ ty σ H1 fun y H2=>tx σ H2 fun z H3=>∃ o,(DGet H3 a y o \/ DGH P w H3 a y o) /\ Q (o.getD z) H3
theorem zf3 {o e f:Expr} {apos cpos:Pos} {td ty tx:TE} (P:Program) (w:World) (hu:X.A.units + 1 < cLine) (ho:PE X o td) (he:PE X e ty) (hf:PE X f tx) (m:M2 X o "get" apos e f cpos) (hP:X.prog = P:=by rfl) (hw:X.w = w:=by rfl):PE X (.Call (.Attribute o "get" apos) [e,f] [] cpos) (tDGet2H P w td ty tx):=by
 subst hP hw
 intro pins s σ H Q I h
 refine wpAny_Call_method m.base m.few m.line PySem.F.plainAttrs_dict PySem.F.slot_dict_get PySem.F.type_dict_get (thn (ho pins s σ H _ I h) fun u s1 ⟨x,H1,I1,rx,a,ex,d,q1⟩=>?_)
 subst ex
 obtain rfl:u = Value.ref a:=rx
 have tt:s1.TypeIs (.ref a) "dict" /\ (∀ b,Value.ref a = .ref b -> ∃ ob,s1.heap.get? b = some ob /\ ob.dict = none):=by
  rcases d with d | ⟨ob,kvs,xs,es,ep,e1,D⟩
  ·obtain ⟨t1,t2,_⟩:=yv8 I1 d; exact ⟨t1,t2⟩
  ·have h1:=xh2 I1.hok e1
   exact ⟨⟨ob,h1,D.ex.1⟩,fun b z=>by cases z; exact ⟨ob,h1,D.ex.2.1⟩⟩
 refine ⟨tt.1,tt.2,?_⟩
 rw [m.trees]
 refine Calls.callWith_builtin rfl (Calls.evalArgs_plain (Calls.spliced_cons (thn (he pins s1 σ H1 _ I1 q1) fun iv s2 ⟨y,H2,I2,ry,q2⟩ =>
  Calls.spliced_cons (thn (hf pins s2 σ H2 _ I2 q2) fun fv s3 ⟨z,H3,I3,rz,ov,g,q3⟩=>Calls.spliced_nil ?_))))
 rcases g with g | ⟨ob,kvs,xs,es,ep,k,b,e1,D,kt,ey,eb,l⟩
 ·exact d_get2 hu I3 g ry rz fun w' s4 I4 rw'=>⟨_,H3,I4,rw',q3⟩
 ·subst ey l
  cases (show iv = Value.ref b from ry)
  exact d_get2H hu I3 e1 D kt eb rz fun w' s4 I4 rw'=>⟨_,H3,I4,rw',q3⟩
end
theorem xx5 {K:Frag} {a D:Addr} {xs:List V} {g:TG} {σ0:St} {H1:Hp} {Q:Hp -> Prop} (ok:St -> Prop) (sq:SqL K H1 a xs) (hD:H1 D = none) (hz:xs.length <= 1000) (h0:ok σ0)
  (hg:∀ x σ' H (R:St -> Hp -> Prop),ok σ' -> (∀ σ3,ok σ3 -> R σ3 H) -> g x σ' H R)
  (hd:∀ (bs:List Addr) H',Same H1 H' -> H' D = some (.lst (bs.map V.ref)) -> bs.length = xs.length -> bs.Nodup -> (∀ b ∈ bs,H' b = some (.dT []) /\ H1 b = none) -> Q H') :
  ∃ W:Nat -> Nat -> St -> Hp -> Prop,(∃ m,W 0 m σ0 (upd H1 D (.lst []))) /\
   ∀ i m σ' H',W i m σ' H' -> ((Itl K a).stop i H' /\ Q H') \/ ((Itl K a).go i H' /\ ∀ x H2,(Itl K a).yld i H' x H2 -> g x σ' H2 fun σ3 H3=>tDNewT σ3 H3 fun v H4=>∃ xs,H4 D = some (.lst xs) /\ xs.length < sizeLine /\ ∃ m',m' < m /\ W (i + 1) m' σ3 (upd H4 D (.lst (xs ++ [v])))):=by
 refine ⟨fun i m σ' H'=>m = xs.length - i /\ i <= xs.length /\ ok σ' /\ Same H1 H' /\ ∃ bs:List Addr,H' D = some (.lst (bs.map V.ref)) /\ bs.length = i /\ bs.Nodup /\ ∀ b ∈ bs,H' b = some (.dT []) /\ H1 b = none,⟨xs.length,by simp,Nat.zero_le _,h0,Same.new hD,[],xa0,rfl,List.nodup_nil,by simp⟩,?_⟩
 rintro i m σ' H' ⟨rfl,hi,hok,hsm,bs,hy,hl,hnd,hb⟩
 have sq':=hsm.seq sq
 by_cases hlt:i < xs.length
 ·refine .inr ⟨⟨xs,xs[i],sq',by simp [hlt]⟩,fun x H2 y=>?_⟩
  obtain ⟨e,y⟩:=y
  subst e
  refine hg x σ' _ _ hok fun σ3 ok3 p hp=>?_
  have nDp:D ≠ p:=xa3 hy hp
  have nbp:∀ b ∈ bs,b ≠ p:=fun b h=>xa3 (hb b h).1 hp
  have nbD:∀ b ∈ bs,b ≠ D:=fun b h=>xb9 (hb b h).1 hy (fun z=>nomatch z)
  refine ⟨bs.map V.ref,by rw [xa2 nDp]; exact hy,Nat.lt_of_lt_of_le (show (bs.map V.ref).length < 1001 by rw [List.length_map]; omega) (by decide),xs.length - (i + 1),by omega,rfl,hlt,ok3,(hsm.trans (Same.new hp)).upd hD,bs ++ [p],by rw [xa0,List.map_append]; rfl,by rw [List.length_append,hl]; rfl,?_,fun b h=>?_⟩
  ·rw [List.nodup_append]
   refine ⟨hnd,by simp,fun c hc d hd'=>?_⟩
   obtain rfl:d = p:=by simpa using hd'
   exact nbp c hc
  ·rcases List.mem_append.mp h with h | h
   ·rw [xa2 (nbD b h),xa2 (nbp b h)]; exact hb b h
   ·obtain rfl:b = p:=by simpa using h
    rw [xa2 (Ne.symm nDp),xa0]
    exact ⟨rfl,hsm.free hp⟩
 ·have e:i = xs.length:=by omega
  subst e
  exact .inl ⟨⟨xs,sq',Nat.le_refl _⟩,hd bs H' hsm hy hl hnd hb⟩
end L2
namespace LS
open PySem PySem.Calls PyProof.Rows
section
variable {prog:Program} {w:World} {A:Around} {E:Value -> Shared -> Prop} {s:Shared} {d:Addr} {es:Array DictEntry} {ep:Nat}
theorem yh9 (hd:(d == sysModules) = false):MeetsIn prog w (Builtin.«dict.__len__» ⟨[.ref d],[]⟩) (fun _ R s=>RawD s.heap d es ep /\ R (.ok (.ret (.int es.size (s.toks)))) { s with toks:=s.toks + 1 }) :=
 .of_wp fun A R s ⟨hm,h⟩=>by
  obtain ⟨o,ho,hc,hdat⟩:=hm
  show wpAny _ _ (dictSize d >>= _) _ _ s
  unfold dictSize
  refine wpAny_bind (wpAny_bind (wpAny_dictEntries ho hdat (wpAny_pure ?_)))
  show wpAny _ _ (Builtin.Dict.pendingCount d >>= _) _ _ s
  refine wpAny_bind (wpAny_pendingCount_other hd ?_)
  refine wpAny_ret_mkInt ?_
  rw [Nat.add_zero]; exact h
theorem ym5 {Q:Value -> Shared -> Prop} (hd:(d == sysModules) = false) (hm:RawD s.heap d es ep) (hfit:(es.size:Int) < 2 ^ 63)
  (h:Q (.int es.size (s.toks + 1)) { s with toks:=s.toks + 1 + 1 }):wpAny (model prog w) A (Builtin.«len» ⟨[.ref d],[]⟩) (fun fin s'=>∃ r,fin = .done (.ret r) /\ Q r s') E s:=by
 unfold Builtin.«len»
 refine wpAny_bind (m:=oneArg "len" _) (wpAny_pure ?_)
 refine wpAny_bind (m:=callSpecial? (.ref d) (Str.ofString "__len__")) (wpAny_callSpecial?_slot (name:=Str.ofString "__len__") hm.typeIs F.slot_dict_len
  (call_meetsIn F.slot_dict_len hm.typeIs F.entry_dict_len (F.args_dict_len_1 _) (yh9 hd) ⟨hm,?_⟩))
 show wpAny _ _ _ _ _ { s with toks:=s.toks + 1 }
 refine wpAny_bind (wpAny_holding (wpAny_pure ?_))
 refine wpAny_bind (wpAny_letGo ?_)
 show wpAny _ _ (if ((es.size:Nat):Int) < 0 then _ else _) _ _ _
 rw [if_neg (by omega)]
 show wpAny _ _ (if ((es.size:Nat):Int) >= 2 ^ 63 then _ else _) _ _ _
 rw [if_neg (by omega)]
 exact wpAny_bind (wpAny_mkInt (wpAny_pure ⟨_,rfl,h⟩))
theorem yp0 {Q:Value -> Shared -> Prop} (hd:(d == sysModules) = false) (hm:RawD s.heap d es ep) (hfit:(es.size:Int) < 2 ^ 63)
  (h:Q (.int es.size (s.toks + 1)) { s with toks:=s.toks + 1 + 1 }):wpAny (model prog w) A (call (.builtin "len") [.ref d]) Q E s :=
 Calls.call_function_entry kind_len plain_len entry_len (args_len1 _) (ym5 hd hm hfit h)
end
end LS
namespace L2
open PySem PySem.Spec PyProof.Rows LS
theorem xp9 {X:Cx}:xj5 X (.builtin "len") (fun xs H Q=>∃ a kvs,xs = [V.ref a] /\ H a = some (.dT kvs) /\ Q (.int kvs.length) H):=by
 intro pins s σ H xs us Q I r h
 obtain ⟨a,kvs,rfl,ha,q⟩:=h
 obtain ⟨u,rfl,ru⟩:=xn3 r
 cases ru
 obtain ⟨z1,z2,ys,rel,o,es,ep,h1,h2,h3,h4,h5⟩:=(show xe7 X.prog X.w H s.heap a (.dT kvs) from I.hok a _ ha)
 have hsz:es.size = kvs.length:=by rw [<- Array.length_toList,h4,List.length_map,Paired.length rel]
 refine yp0 z2 ⟨o,h1,h2,h3⟩ (by rw [hsz]; rw [sizeLine_eq] at z1; omega) ?_
 rw [hsz]
 exact ⟨.int kvs.length,H,I.tok _,⟨_,rfl⟩,q⟩
end L2
namespace LS
open PySem PySem.W PyProof.Rows PySem.Calls
section
variable {prog:Program} {w:World} {A:Around} {E:Value -> Shared -> Prop} {s:Shared}
theorem zf6 {it d:Addr} {i ep:Nat} {es:Array DictEntry} {x0 x1 ok ov:Value} {Q:Option Value -> Shared -> Prop} (hh:A.handled = none)
  (hit:s.heap.get? it = some { cls:=.type "dict_itemiterator",dict:=none,data:=.fields #[x0,x1,.ref d,.int i 0,.int es.size 0,.int ep 0,ok,ov],slots:=#[] }) (hm:RawD s.heap d es ep) (hx:es.size <= i) (hQ:∀ h',Heap.ExtBut it s.heap h' -> Q none { s with heap:=h' }):wpAny (model prog w) A (pyNext (.ref it)) Q E s:=by
 have hT:s.TypeIs (.ref it) "dict_itemiterator":=⟨_,hit,rfl⟩; obtain ⟨od,hod,hcd,hdd⟩:=hm
 unfold pyNext
 refine wpAny_bind (wpAny_attempt (wpAny_callSpecial?_slot (name:=Str.ofString "__next__") hT F.slot_dict_itemiterator_next (wpAny_call_entry F.slot_dict_itemiterator_next hT F.entry_dict_itemiterator_next ?_ (F.args_dict_itemiterator_next_1 _))))
 refine wpAny_bind (wpAny_pure (wpAny_bind (wpAny_bind (wpAny_bind (wpAny_typeNameOfWhole_itemiter hT (wpAny_pure (wpAny_bind (wpAny_fieldsOf hit rfl ?_))))))))
 simp only [show Builtin.Dict_items.ownsTuple "dict_itemiterator" = true from by decide,if_true]
 show wpAny _ _ (if (Value.ref d == Value.none) = true then _ else _) _ _ s; rw [show (Value.ref d == Value.none) = false from rfl,if_neg Bool.false_ne_true]
 refine wpAny_bind (wpAny_pure (wpAny_bind (wpAny_dictEntries hod hdd ?_)))
 rw [if_neg (by simp)]
 refine wpAny_bind (wpAny_pure (wpAny_bind (wpAny_dictEpoch hod hdd ?_)))
 rw [if_neg (by simp)]
 refine wpAny_pure ?_
 simp only [show ¬ ((i:Int) < 0) from by omega,if_false,Int.toNat_natCast,Array.getElem?_eq_none hx]
 refine wpAny_bind (wpAny_bind (wpAny_typeNameOfWhole_itemiter hT (wpAny_pure ?_)))
 show wpAny _ _ (setField (.ref it) 2 .none >>= _) _ _ s; refine wpAny_bind (wpAny_setField hit rfl (by simp) ?_)
 show wpAny _ _ (newExc (.type "StopIteration") [] >>= _) _ _ _; refine wpAny_bind ?_
 simp only [newExc,newTuple]; refine wpAny_bind (wpAny_newObj_type ?_ (by size_fits))
 refine wpAny_bind (m:=firstArgMember _ _) (wpAny_of_eq (a:=Value.none) (by first | rfl | (simp only [firstArgMember]; rfl)) (wpAny_newObj_type ?_ (by size_fits)))
 simp only [raiseNew]; refine wpAny_bind (wpAny_handled ?_); rw [show A.in1.handled = none from hh]
 refine wpAny_bind (wpAny_pure (wpAny_throw ?_)); refine wpAny_bind (wpAny_isInstance (b:=true) (T:="StopIteration") ⟨_,Heap.get?_push_size _ rfl,rfl⟩ isSubtype_stop (wpAny_pure ?_))
 exact hQ _ (((Heap.SameBut.update ..).extBut.push _).push _)
def Got1 (es:Array DictEntry) (lo:Addr) (h:Heap) (as:List Addr):Prop:=as.length = es.size /\ ∀ a ∈ as,lo < a /\ ∃ e,es[0]? = some e /\ h.get? a = some { cls:=.type "tuple",data:=.seq #[e.key,e.val] }
theorem za3 {S I d:Addr} {es:Array DictEntry} {ep:Nat} {R:Result -> Shared -> Prop} (hh:A.handled = none) (hSI:S < I) (hdS:d ≠ S) (hdI:d ≠ I) (hn:es.size <= 1) (res:Value) {h:Heap} {tk c:Nat}
  (hR:∀ h' acc c' as,(∀ b o,b ≠ S -> b ≠ I -> h.get? b = some o -> h'.get? b = some o) -> h'.get? S = some { cls:=.type "list",dict:=none,data:=.seq acc c',slots:=#[] } -> acc.toList = as.map Value.ref -> Got1 es I h' as -> R (.ok (.ret res)) { s with heap:=h',toks:=tk })
  (hit:IsItemIter h I d 0 es.size ep .none .none) (hD:RawD h d es ep) (hS:h.get? S = some { cls:=.type "list",dict:=none,data:=.seq #[] c,slots:=#[] }) :
  codeAny (model prog w) A (.builtin "list.extend.loop" ⟨[.ref S,.ref I,res],[]⟩) R { s with heap:=h,toks:=tk }:=by
 have hne:S ≠ I:=Nat.ne_of_lt hSI
 have hIl:I < h.objs.size:=Heap.lt_size hit
 refine codeAny_builtin F.entry_extend_loop ?_
 rw [Around.under_plainId F.plain_extend_loop _]
 show wpAny _ A.in1 (pyNext (.ref I) >>= _) _ _ _
 rcases Nat.eq_zero_or_pos es.size with z | z
 ·refine wpAny_bind (yn8 (s:={ s with heap:=h,toks:=tk }) (A:=A.in1) hh hit hD (by omega) fun h' he=>?_)
  exact wpAny_pure (hR h' #[] c [] (fun b o _ h2 e=>he b o h2 e) (he S _ hne hS) rfl ⟨by rw [z]; rfl,by simp⟩)
 ·have he:es[0]? = some es[0]:=by simp [z]
  refine wpAny_bind (ye7 (s:={ s with heap:=h,toks:=tk }) hit hD he fun h' st' ht hz kp=>?_)
  dsimp only at ht hz kp st' ⊢
  have hS':=kp S _ hne hS
  have up:∀ b o,b ≠ S -> h'.get? b = some o -> (h'.update S (Obj.mapSeq (·.push (Value.ref h.objs.size)))).get? b = some o:=fun b o hb e=>(Heap.get?_update_other _ _ (Ne.symm hb)).trans e
  have hSl:S < h.objs.size:=Heap.lt_size hS
  show wpAny _ A.in1 (updateSeq S (·.push (Value.ref h.objs.size)) >>= _) _ _ _
  refine wpAny_bind ?_
  refine wpAny_updateSeq hS' rfl (wpAny_pure ⟨plainId_quiet F.plain_extend_loop _,?_⟩) (by show (#[]:Array Value).size <= _; simp) (by simp [sizeLine_eq])
  have hS2:=Heap.get?_update_self (Obj.mapSeq (·.push (Value.ref h.objs.size))) hS' rfl
  refine codeAny_builtin F.entry_extend_loop ?_
  rw [Around.under_plainId F.plain_extend_loop _]
  show wpAny _ A.in1 (pyNext (.ref I) >>= _) _ _ _
  refine wpAny_bind (zf6 (s:={ s with heap:=_,toks:=tk }) (A:=A.in1) hh (up I _ (Ne.symm hne) st') (hD.keep fun o e=>up d o hdS (kp d o hdI e)) (by omega) fun h2 he2=>?_)
  refine wpAny_pure (hR h2 _ _ [h.objs.size] (fun b o h1 h3 e=>he2 b o h3 (up b o h1 (kp b o h3 e))) (he2 S _ hne hS2) rfl ⟨by show 1 = _; omega,fun a ha=>?_⟩)
  obtain rfl:a = h.objs.size:=by simpa using ha
  exact ⟨hIl,_,he,he2 _ _ (Nat.ne_of_gt hIl) (up _ _ (Nat.ne_of_gt hSl) ht)⟩
theorem ym7 {r d S:Addr} {es:Array DictEntry} {ep:Nat} {R:Result -> Shared -> Prop} (hh:A.handled = none) (hv:s.heap.IsItemsView r d) (hm:RawD s.heap d es ep) (hn:es.size <= 1) (hSr:S ≠ r) (hdS:d ≠ S) (res:Value) {c:Nat} (hS:s.heap.get? S = some { cls:=.type "list",data:=.seq #[] c })
  (hR:∀ h' tk acc c' as,(∀ b o,b ≠ S -> s.heap.get? b = some o -> h'.get? b = some o) -> h'.get? S = some { cls:=.type "list",dict:=none,data:=.seq acc c',slots:=#[] } -> acc.toList = as.map Value.ref -> Got1 es S h' as -> R (.ok (.ret res)) { s with heap:=h',toks:=tk }) :
  wpAny (model prog w) A.in1 (Builtin.List.listExtendWith (.ref S) (.ref r) res)
   (fun fin s'=>match fin with | .done f=>R (.ok f) s' | .again c'=>c'.quiet = true /\ codeAny (model prog w) A c' R s') (fun e s'=>R (.error e) s') s:=by
 have hSI:S < s.heap.objs.size:=Heap.lt_size hS
 have hdI:d < s.heap.objs.size:=let ⟨_,ho,_⟩:=hm; Heap.lt_size ho
 have go:∀ (h:Heap) (c₁ tk:Nat),(∀ b o,b ≠ S -> (s.heap.push { cls:=.type "dict_itemiterator",data:=.fields #[.none,.bool false,.ref d,.int 0 0,.int es.size 0,.int ep 0,.none,.none] }).get? b = some o -> h.get? b = some o) ->
   h.get? S = some { cls:=.type "list",data:=.seq #[] c₁ } -> codeAny (model prog w) A (.builtin "list.extend.loop" ⟨[.ref S,.ref s.heap.objs.size,res],[]⟩) R { s with heap:=h,toks:=tk }:=by
  intro h c₁ tk hk hS₁
  have hI:=hk s.heap.objs.size _ (Nat.ne_of_gt hSI) (Heap.get?_push_size _ rfl)
  refine za3 (s:=s) hh hSI hdS (Nat.ne_of_lt hdI) hn res (fun h' acc c' as hk' hS' ha hg=>hR h' tk acc c' as (fun b o hb e=>hk' b o hb (Nat.ne_of_lt (Heap.lt_size e)) (hk b o hb (Heap.get?_push_of_some _ e))) hS' ha ⟨hg.1,fun a h=>⟨Nat.lt_trans hSI (hg.2 a h).1,(hg.2 a h).2⟩⟩) hI (hm.keep fun o e=>hk d o hdS (Heap.get?_push_of_some _ e)) hS₁
 unfold Builtin.List.listExtendWith
 refine wpAny_bind (wpAny_typeOf (T:="dict_items") hv.typeIs ?_)
 simp only [show Builtin.List.listSameRef (.ref S) (.ref r) = false by simp [Builtin.List.listSameRef,hSr],show (Value.type "dict_items" == Value.type "list") = false by decide,show (Value.type "dict_items" == Value.type "tuple") = false by decide,Bool.or_false,Bool.false_eq_true,if_false]
 refine wpAny_bind (ye8 hv hm ?_)
 have hS₁:=Heap.get?_push_of_some { cls:=.type "dict_itemiterator",data:=.fields #[.none,.bool false,.ref d,.int 0 0,.int es.size 0,.int ep 0,.none,.none] } hS
 refine wpAny_bind (wpAny_holding (kdx_hint (let ⟨o,ho,hc,_⟩:=hv; ⟨o,Heap.get?_push_of_some _ ho,hc⟩) ?_))
 refine wpAny_ite_split (fun _=>?_) (fun _=>wpAny_pure ⟨plainId_quiet F.plain_extend_loop _,go _ c _ (fun b o _ e=>e) hS₁⟩)
 refine wpAny_bind (wpAny_rule (wpAny_bind ?_))
 show wpAny _ _ (updateSeq S (·.push .none) >>= fun _=>updateSeq S (·.pop)) _ _ _
 refine wpAny_bind (wpAny_updateSeq hS₁ rfl ?_)
 have hS₂:=Heap.get?_update_self (Obj.mapSeq (·.push Value.none)) hS₁ rfl
 refine wpAny_updateSeq (hz:=by seq_fits) hS₂ rfl ?_
 refine wpAny_pure ⟨plainId_quiet F.plain_extend_loop _,go _ _ _ (fun b o hb e=>?_) (Heap.get?_update_self (Obj.mapSeq (·.pop)) hS₂ rfl)⟩
 exact (Heap.get?_update_other _ _ (Ne.symm hb)).trans ((Heap.get?_update_other _ _ (Ne.symm hb)).trans e)
theorem za4 {r d:Addr} {es:Array DictEntry} {ep:Nat} {Q:Value -> Shared -> Prop} (hh:A.handled = none) (hv:s.heap.IsItemsView r d) (hm:RawD s.heap d es ep) (hn:es.size <= 1)
  (hQ:∀ h' tk acc c as,(∀ b o,s.heap.get? b = some o -> h'.get? b = some o) -> h'.get? s.heap.objs.size = some { cls:=.type "list",dict:=none,data:=.seq acc c,slots:=#[] } -> acc.toList = as.map Value.ref -> Got1 es s.heap.objs.size h' as -> Q (.ref s.heap.objs.size) { s with heap:=h',toks:=tk }) :
  wpAny (model prog w) A (call (.type "list") [.ref r]) Q E s:=by
 refine callType_codes (Q₁:=fun obj s₁=>obj = .ref s.heap.objs.size /\ s₁ = { s with heap:=s.heap.push { cls:=.type "list",data:=.seq #[] } }) F.called_list (F.typeCall_list_1 _) F.entry_list_init (code_list_new _ ⟨rfl,rfl⟩) fun obj s₁ h₁=>?_
 obtain ⟨rfl,rfl⟩:=h₁
 have hS:(s.heap.push { cls:=.type "list",data:=.seq #[] }).get? s.heap.objs.size = some { cls:=.type "list",data:=.seq #[] }:=Heap.get?_push_size _ rfl
 have hr:r < s.heap.objs.size:=let ⟨_,ho,_⟩:=hv; Heap.lt_size ho
 have hd:d < s.heap.objs.size:=let ⟨_,ho,_⟩:=hm; Heap.lt_size ho
 refine ⟨⟨_,hS,rfl⟩,F.args_list_init_2 _ _,?_⟩
 show wpAny _ _ (do let old <- Builtin.List.listItems (.ref s.heap.objs.size); Builtin.List.listUpdate (.ref s.heap.objs.size) (fun _=>#[]); letGo old.toList.reverse; Builtin.List.listExtendWith (.ref s.heap.objs.size) (.ref r) .none) _ _ _
 refine wpAny_bind ?_
 unfold Builtin.List.listItems
 refine wpAny_bind (wpAny_seqItems hS rfl (wpAny_pure ?_))
 show wpAny _ _ (updateSeq s.heap.objs.size (fun _=>#[]) >>= fun _=>letGo (#[]:Array Value).toList.reverse >>= fun _=>Builtin.List.listExtendWith (.ref s.heap.objs.size) (.ref r) .none) _ _ _
 refine wpAny_bind (wpAny_updateSeq hS rfl ?_)
 have oth:∀ b o,b ≠ s.heap.objs.size -> (s.heap.push { cls:=.type "list",data:=.seq #[] }).get? b = some o -> ((s.heap.push { cls:=.type "list",data:=.seq #[] }).update s.heap.objs.size (Obj.mapSeq (fun _=>(#[]:Array Value)))).get? b = some o:=fun b o hb e=>(Heap.get?_update_other _ _ (Ne.symm hb)).trans e
 refine wpAny_bind (wpAny_letGo ?_)
 refine ym7 (A:=A.in1) hh (let ⟨o,ho,x⟩:=hv; ⟨o,oth r o (Nat.ne_of_lt hr) (Heap.get?_push_of_some _ ho),x⟩) (hm.keep fun o e=>oth d o (Nat.ne_of_lt hd) (Heap.get?_push_of_some _ e)) hn (Nat.ne_of_gt hr) (Nat.ne_of_lt hd) .none (Heap.get?_update_self (Obj.mapSeq (fun _=>(#[]:Array Value))) hS rfl) fun h' tk acc c' as hk hS' ha hg=>?_
 exact ⟨rfl,hQ h' tk acc c' as (fun b o e=>hk b o (Nat.ne_of_lt (Heap.lt_size e)) (oth b o (Nat.ne_of_lt (Heap.lt_size e)) (Heap.get?_push_of_some _ e))) hS' ha hg⟩
end
end LS
namespace L2
open PySem PySem.Spec PyProof.Rows LS
section
variable {X:Cx}
theorem zb4 (hc:X.calm = true):xj5 X (.type "list") (fun xs H Q=>∃ p d o es ep ks vs,xs = [V.ref p] /\ H p = some (xw2 "dict_items" p d) /\ H d = some (held d o) /\ o.ExactDict /\ o.data = .dict es ep /\ Vals ks (es.toList.map (·.key)) /\ Vals vs (es.toList.map (·.val)) /\ ks.length <= 1 /\
  (ks = [] -> ∀ l,H l = none -> Q (.ref l) (upd H l (.lst []))) /\ ∀ k v,ks = [k] -> vs = [v] -> ∀ l a,H l = none -> H a = none -> l ≠ a -> Q (.ref l) (upd (upd H a (.tup [k,v])) l (.lst [.ref a]))):=by
 intro pins s σ H xs us Q I r h
 obtain ⟨p,d,o,es,ep,ks,vs,rfl,hp,hd,hex,hdat,hk,hv,hn,q0,q1⟩:=h
 obtain ⟨u,rfl,rx⟩:=xn3 r
 cases rx
 have h1:=xh2 I.hok hd
 have hpv:s.heap.IsItemsView p d:=(I.hok p _ hp).1
 have hsz:es.size = ks.length:=by have:=Paired.length hk; rw [List.length_map,Array.length_toList] at this; exact this.symm
 have hlen:vs.length = ks.length:=by have:=Paired.length hv; rw [List.length_map,Array.length_toList] at this; exact this.trans hsz
 refine za4 (I.ok.hd hc) hpv ⟨o,h1,hex,hdat⟩ (by omega) fun h' tk acc c as kp e hacc hg=>?_
 have hl:=I.hok.fresh (Nat.le_refl s.heap.objs.size)
 have hgl:=hg.1.trans hsz
 by_cases hk0:ks.length = 0
 ·have e1:ks = []:=List.length_eq_zero_iff.mp hk0
  have e2:as = []:=List.length_eq_zero_iff.mp (hgl.trans hk0)
  exact ⟨.ref s.heap.objs.size,_,I.laid (t':=tk) kp (Nat.le_refl _) (show xe7 X.prog X.w _ h' _ (.lst []) from ⟨Nat.zero_le _,acc.toList,c,by rw [hacc,e2]; exact .nil,by simpa using e⟩),rfl,q0 e1 _ hl⟩
 ·have hk1:ks.length = 1:=by omega
  obtain ⟨k,e1⟩:=List.length_eq_one_iff.mp hk1
  obtain ⟨v,e2⟩:=List.length_eq_one_iff.mp (hlen.trans hk1)
  obtain ⟨a,e3⟩:=List.length_eq_one_iff.mp (hgl.trans hk1)
  obtain ⟨en,hi⟩:=List.length_eq_one_iff.mp (show es.toList.length = 1 by rw [Array.length_toList,hsz]; exact hk1)
  obtain ⟨lt,en',he,ha⟩:=hg.2 a (by rw [e3]; simp)
  have een:en = en':=by rw [<- Array.getElem?_toList,hi] at he; simpa using he
  rw [<- een] at ha
  rw [hi,e1] at hk
  rw [hi,e2] at hv
  have ge:s.heap.objs.size <= a:=Nat.le_of_lt lt
  have hna:=I.hok.fresh ge
  have ne:s.heap.objs.size ≠ a:=Nat.ne_of_lt lt
  have I0:Inv X pins σ H { s with heap:=h',toks:=tk }:=I.kept (t':=tk) kp
  have I1:=I0.trackF (a:=a) (o:=.tup [k,v]) (I.fpOk ge hna) (Nat.le_trans I.sz ge) ⟨by show 2 <= sizeLine; decide,[en.key,en.val],by cases hk with | cons a b=>cases hv with | cons c d=>exact .cons a (.cons c .nil),_,ha,rfl,_,rfl⟩
  obtain ⟨f0,f1,f2,f3,f4,f5⟩:=I.fpOk (Nat.le_refl _) hl
  have I2:=I1.trackF (a:=s.heap.objs.size) (o:=.lst [.ref a]) ⟨by rw [xa2 ne]; exact f0,f1,f2,f3,f4,f5⟩ I.sz ⟨by show 1 <= sizeLine; decide,acc.toList,c,by rw [hacc,e3]; exact .cons rfl .nil,by simpa using e⟩
  exact ⟨.ref s.heap.objs.size,_,I2,rfl,q1 k v e1 e2 _ a hl hna ne⟩
theorem yt4 (hc:X.calm = true):xj5 X (.builtin "sorted") (fun xs H Q=>∃ d kvs,xs = [V.ref d] /\ H d = some (.dT kvs) /\ (∀ kv ∈ kvs,xi5 kv.1) /\ kvs.length <= 1 /\
  ∀ l (ks:List (List Key × Addr)),H l = none -> ks.map (·.1) = kvs.map (·.1) -> xo4 H ks -> Q (.ref l) (upd H l (.lst (ks.map fun x=>V.ref x.2)))):=by
 intro pins s σ H xs us Q I r h
 obtain ⟨d,kvs,rfl,hd,ht,hn,q⟩:=h
 obtain ⟨u,rfl,rx⟩:=xn3 r
 cases rx
 obtain ⟨z1,z2,ys,rel,o,es,ep,h1,h2,h3,h4,h5⟩:=(show xe7 X.prog X.w H s.heap d (.dT kvs) from I.hok d _ hd)
 have hl:kvs.length = ys.length:=Paired.length rel
 have hsz:es.size = ys.length:=by rw [<- Array.length_toList,h4,List.length_map]
 have hks:(ys.map fun x=>(x.1,x.2.1)).map (·.1) = kvs.map (·.1):=by
  rw [List.map_map]
  clear q hl hsz z1 h4 h5 hd hn ht
  induction rel with
  | nil=>rfl
  | cons h t ih=>rw [List.map_cons,List.map_cons,ih,h.1]; rfl
 have hka:xo4 H (ys.map fun x=>(x.1,x.2.1)):=by
  intro z hz
  obtain ⟨y,hy,rfl⟩:=List.mem_map.mp hz
  clear q hl hsz z1 h4 h5 hd hn ht hks
  induction rel with
  | nil=>cases hy
  | cons h t ih =>
   rcases List.mem_cons.mp hy with rfl | hy
   ·rw [<- h.1]; exact h.2.1
   ·exact ih hy (List.mem_map.mpr ⟨_,hy,rfl⟩)
 refine Calls.call_function_entry kind_sorted plain_sorted entry_sorted (args_sorted1 _) ?_; unfold Builtin.«sorted»
 refine wpAny_bind (m:=checkCount "sorted" 1 1 _) (wpAny_pure ?_)
 refine wpAny_bind (kdu_collect (A:=X.A.in1) (kdl_raw z2) (I.ok.hd hc) ⟨o,h1,h2,h3⟩ (by rw [hsz,<- hl]; exact z1) fun h' tk acc kp hacc=>?_)
 have ha:acc.toList = ys.map fun x=>Value.ref x.2.1:=by
  refine ye9 (P:=fun i v=>∃ e,es[i]? = some e /\ v = e.key) (by rw [List.length_map,<- hsz]; exact hacc) fun j v ⟨e,he,ev⟩=>?_
  rw [<- Array.getElem?_toList,h4,List.getElem?_map] at he
  obtain ⟨y,hy,rfl⟩:=Option.map_eq_some_iff.mp he
  rw [List.getElem?_map,hy,ev]; rfl
 have hal:acc.toList.length = kvs.length:=by rw [ha,List.length_map,hl]
 refine wpAny_bind (wpAny_newList ?_ (by rw [hal,sizeLine_eq]; omega))
 have hoL:(h'.push (seqObj "list" acc.toList.toArray 0)).get? h'.objs.size = some (seqObj "list" acc.toList.toArray 0):=Heap.get?_push_size _ rfl
 have hv:∀ v ∈ acc.toList,∃ b,v = Value.ref b /\ xp5 (h'.push (seqObj "list" acc.toList.toArray 0)) b:=fun v hvv=>by
  rw [ha] at hvv
  obtain ⟨y,hy,rfl⟩:=List.mem_map.mp hvv
  have hz:(y.1,y.2.1) ∈ ys.map fun x=>(x.1,x.2.1):=List.mem_map.mpr ⟨y,hy,rfl⟩
  have:y.1 ∈ kvs.map (·.1):=by rw [<- hks]; exact List.mem_map.mpr ⟨_,hz,rfl⟩
  obtain ⟨kv,k1,k2⟩:=List.mem_map.mp this
  exact ⟨_,rfl,yw2 (fun b ob e=>Heap.get?_push_of_some _ (kp b ob e)) (xo5 I.hok (hka _ hz) (by rw [<- k2]; exact ht kv k1)).1⟩
 refine wpAny_bind (wpAny_holding (wpAny_call_entry slot_list_sort ⟨_,hoL,rfl⟩ entry_list_sort (yk7 (s:={ s with heap:=h'.push (seqObj "list" acc.toList.toArray 0),toks:=tk }) hoL hv (by omega) fun h2 out e ext ho' hp'=>⟨_,rfl,?_⟩) (args_list_sort _)))
 have I0:Inv X pins σ H { s with heap:=h',toks:=tk }:=I.kept (t':=tk) kp
 have hout:out.toList = acc.toList:=by
  by_cases z:acc.toList.length = 0
  ·have e:=List.length_eq_zero_iff.mp z
   rw [e] at hp' ⊢; exact List.perm_nil.mp hp'
  ·obtain ⟨x,e⟩:=List.length_eq_one_iff.mp (show acc.toList.length = 1 by omega)
   rw [e] at hp' ⊢; exact List.perm_singleton.mp hp'
 refine wpAny_pure ⟨_,rfl,.ref h'.objs.size,_,I0.laid (o:=.lst ((ys.map fun x=>(x.1,x.2.1)).map fun x=>V.ref x.2)) (t':=tk) (fun b ob eb=>?_) (Nat.le_refl _) ⟨xe5 (by rw [List.length_map,List.length_map]; omega),out.toList,e,by rw [hout,ha,List.map_map]; exact xv1 ys,by rw [ho']⟩,rfl,q _ _ (I0.hok.fresh (Nat.le_refl _)) hks hka⟩
 have ne:b ≠ h'.objs.size:=by rintro rfl; rw [xm8] at eb; cases eb
 exact ext b ob ne (Heap.get?_push_of_some _ eb)
end
theorem yo1 {α:Type} {K:Frag} {a D:Addr} {xs:List V} {us:List α} {g:TG} {te:TE} {σ0:St} {H1:Hp} {Q:Hp -> Prop} (R:α -> V -> Hp -> Prop) (ok:St -> Prop) (mono:∀ H H' x v,Same H H' -> R x v H -> R x v H')
  (sq:SqL K H1 a xs) (hD:H1 D = none) (hz:xs.length <= 1000) (hlen:us.length = xs.length) (h0:ok σ0)
  (hs:∀ (i:Nat) x u p σ' H (N:St -> V -> Hp -> Prop),xs[i]? = some x -> us[i]? = some u -> ok σ' -> Same H1 H -> H p = some (.tup [.int i,x]) -> (∃ ys,H D = some (.lst ys)) -> (∀ σ3 v H4,R u v (hide H4 D) -> Same H H4 -> ok σ3 -> N σ3 v H4) -> g (.ref p) σ' H fun σ3 H3=>te σ3 H3 fun v H4=>N σ3 v H4)
  (hd:∀ ys H',Same H1 H' -> H' D = some (.lst ys) -> Paired (fun v u=>R u v H') ys us -> Q H') :
  ∃ W:Nat -> Nat -> St -> Hp -> Prop,(∃ m,W 0 m σ0 (upd H1 D (.lst []))) /\
   ∀ i m σ' H',W i m σ' H' -> ((Ite K a).stop i H' /\ Q H') \/ ((Ite K a).go i H' /\ ∀ x H2,(Ite K a).yld i H' x H2 -> g x σ' H2 fun σ3 H3=>te σ3 H3 fun v H4=>∃ xs,H4 D = some (.lst xs) /\ xs.length < sizeLine /\ ∃ m',m' < m /\ W (i + 1) m' σ3 (upd H4 D (.lst (xs ++ [v])))):=by
 refine ⟨fun i m σ' H'=>m = xs.length - i /\ i <= xs.length /\ ok σ' /\ Same H1 H' /\ ∃ ys,H' D = some (.lst ys) /\ Paired (fun v u=>R u v (hide H' D)) ys (us.take i),⟨xs.length,by simp,Nat.zero_le _,h0,Same.new hD,[],xa0,by rw [List.take_zero]; exact .nil⟩,?_⟩
 rintro i m σ' H' ⟨rfl,hi,hok,hsm,ys,hy,hp⟩
 have sq':=hsm.seq sq
 have hyl:ys.length = i:=by rw [Paired.length hp,List.length_take]; omega
 by_cases hlt:i < xs.length
 ·refine .inr ⟨⟨xs,xs[i],sq',by simp [hlt]⟩,fun x H2 y=>?_⟩
  obtain ⟨p,x',e,hpn,y,e2⟩:=y
  subst e e2
  have hx:=y xs sq'
  have hu:us[i]? = some us[i]:=List.getElem?_eq_getElem (by omega)
  have nDp:D ≠ p:=xa3 hy hpn
  have sp:Same H' (upd H' p (.tup [.int i,x'])):=Same.new hpn
  refine hs i x' us[i] p σ' _ (fun σ3 v H4=>∃ xs',H4 D = some (.lst xs') /\ xs'.length < sizeLine /\ ∃ m',m' < xs.length - i /\ _) hx hu hok (hsm.trans sp) xa0 ⟨_,by rw [xa2 nDp]; exact hy⟩ fun σ3 v H4 r s4 ok3=>?_
  have s5:=sp.trans s4
  refine ⟨ys,s5 _ _ hy,Nat.lt_of_lt_of_le (show ys.length < 1001 by omega) (by decide),xs.length - (i + 1),by omega,rfl,hlt,ok3,(hsm.trans s5).upd hD,ys ++ [v],xa0,?_⟩
  rw [List.take_add_one,hu,yi5]
  exact Paired.snoc (Paired.mapP hp fun b w q=>mono _ _ _ _ (yb0 s5) q) r
 ·have e:i = xs.length:=by omega
  subst e
  rw [<- hlen,List.take_length] at hp
  exact .inl ⟨⟨xs,sq',Nat.le_refl _⟩,hd ys H' hsm hy (Paired.mapP hp fun b w q=>mono _ _ _ _ ya9 q)⟩
end L2
namespace My
open PySem L2
def top (i:Nat):Stmt:=PySem.Challenge.pw_lampcues_k73_one_slot.main.body.getD i (.Pass ⟨0,0,0,0⟩)
abbrev xk7:Stmt:=(top 10)
abbrev xm3:Stmt:=(top 13)
abbrev xm6:Stmt:=(top 21)
abbrev xm5:Stmt:=(top 22)
abbrev xm4:Stmt:=(top 23)
abbrev xk6:Stmt:=(top 24)
abbrev xg6:Stmt:=(top 25)
abbrev xf3:Stmt:=(top 26)
abbrev xe4:Stmt:=(top 27)
abbrev xc8:Stmt:=(top 28)
abbrev xi9:Stmt:=(ys4 (top 29) 0)
abbrev xd5:Stmt:=(ys4 (top 29) 1)
abbrev xf4:Stmt:=(top 30)
abbrev xk9:Stmt:=(ys4 (top 31) 0)
abbrev xk8:Stmt:=(top 32)
abbrev xp8:Stmt:=(top 35)
abbrev xi8:Stmt:=(top 53)
abbrev xe2:Stmt:=(top 41)
abbrev xg9:Stmt:=(top 40)
abbrev xg5:Stmt:=(top 42)
abbrev xi0:Stmt:=(top 39)
abbrev xe3:Stmt:=(top 34)
abbrev xp7:Stmt:=(top 37)
abbrev xh9:Stmt:=(top 49)
abbrev xg8:Stmt:=(top 45)
abbrev xi6:Stmt:=(top 46)
abbrev xk5:Stmt:=(top 47)
abbrev xk3:Stmt:=(top 43)
abbrev xm2:Stmt:=(top 38)
abbrev xk4:Stmt:=(top 51)
abbrev xh8:Stmt:=(top 52)
abbrev xg7:Stmt:=(top 50)
abbrev xi7:Stmt:=(top 48)
abbrev yy8:Stmt:=(top 54)
structure Adr where
 ea:Addr
 eb:FuncData
 ec:Addr
 ed:FuncData
 ee:Addr
 ef:FuncData
 eg:Addr
 eh:FuncData
 ei:Addr
 ej:FuncData
 ek:Addr
 el:FuncData
 em:Addr
 en:FuncData
 eo:Addr
 ep:FuncData
 eq:Addr
 er:FuncData
 es:Addr
 et:FuncData
 eu:Addr
 ev:FuncData
 ew:Addr
 ex:List Value
 ey:Addr
 ez:FuncData
 ea1:Addr
 eb1:FuncData
 ec1:Addr
 ed1:FuncData
 ee1:Addr
 ef1:List Value
 eg1:Addr
 eh1:FuncData
 ei1:Addr
 ej1:FuncData
 ek1:Addr
 el1:FuncData
 em1:Addr
 en1:FuncData
 eo1:Addr
 ep1:FuncData
 eq1:Addr
 er1:FuncData
 es1:Addr
 et1:FuncData
 eu1:Addr
 ev1:FuncData
 ew1:Addr
 ex1:FuncData
 ey1:Addr
 ez1:FuncData
 ea2:Addr
 eb2:FuncData
 ec2:Addr
 ed2:FuncData
 ee2:Addr
 ef2:FuncData
 eg2:Addr
 eh2:FuncData
 ei2:Addr
 ej2:FuncData
 ek2:Addr
 el2:FuncData
 em2:Addr
 en2:FuncData
 eo2:Addr
 ep2:FuncData
 eq2:Addr
 er2:FuncData
 es2:Addr
 et2:FuncData
 eu2:Addr
 ev2:Addr
 ew2:Addr
 ex2:Unit
structure Txt (K:Frag) (mg:Str -> Option Value) (A:Adr):Prop where
 ea:Fun K "is_whole" "is_whole" xk7 A.ea A.eb
 eb:xd2 K A.eb ["thing"] []
 ec:mg "is_whole" = some (.ref A.ea)
 ed:Fun K "is_time" "is_time" xm3 A.ec A.ed
 ee:xd2 K A.ed ["thing"] []
 ef:mg "is_time" = some (.ref A.ec)
 eg:Fun K "is_lamp" "is_lamp" xm6 A.ee A.ef
 eh:xd2 K A.ef ["thing"] []
 ei:mg "is_lamp" = some (.ref A.ee)
 ej:Fun K "is_side" "is_side" xm5 A.eg A.eh
 ek:xd2 K A.eh ["thing"] []
 el:mg "is_side" = some (.ref A.eg)
 em:Fun K "is_slot" "is_slot" xm4 A.ei A.ej
 en:xd2 K A.ej ["thing"] []
 eo:mg "is_slot" = some (.ref A.ei)
 ep:Fun K "is_worth" "is_worth" xk6 A.ek A.el
 eq:xd2 K A.el ["thing"] []
 er:mg "is_worth" = some (.ref A.ek)
 es:Fun K "refuse_slot" "refuse_slot" xg6 A.em A.en
 et:xd2 K A.en ["thing"] []
 eu:mg "refuse_slot" = some (.ref A.em)
 ev:Fun K "refuse_worth" "refuse_worth" xf3 A.eo A.ep
 ew:xd2 K A.ep ["thing"] []
 ex:mg "refuse_worth" = some (.ref A.eo)
 ey:Fun K "is_cue_number" "is_cue_number" xe4 A.eq A.er
 ez:xd2 K A.er ["thing"] []
 ea1:mg "is_cue_number" = some (.ref A.eq)
 eb1:Fun K "has_slots_as_keys" "has_slots_as_keys" xc8 A.es A.et
 ec1:xd2 K A.et ["thing"] []
 ed1:mg "has_slots_as_keys" = some (.ref A.es)
 ee1:FunD K "__init__" "Part.__init__" xi9 (.ref A.ew) A.eu A.ev
 ef1:xd2 K A.ev ["self","tells","alone","rise","fall","wait"] []
 eg1:xd2 K A.ev ["self","tells","alone","rise","fall","wait"] A.ex
 eh1:Vals [V.int 0,V.int 0,V.int 0] A.ex
 ei1:KBinds K A.ev ["self","tells","alone","rise","fall","wait"] ["rise","fall","wait"] (gAB 3 3) (gAB 3 3)
 ej1:Mk K A.eu2 A.eu
 ek1:Fun K "told_slots" "Part.told_slots" xd5 A.ey A.ez
 el1:xd2 K A.ez ["self"] []
 em1:Meth K A.eu2 "told_slots" A.ey
 en1:Fun K "is_part_list" "is_part_list" xf4 A.ea1 A.eb1
 eo1:xd2 K A.eb1 ["thing"] []
 ep1:mg "is_part_list" = some (.ref A.ea1)
 eq1:FunD K "__init__" "Cue.__init__" xk9 (.ref A.ee1) A.ec1 A.ed1
 er1:xd2 K A.ed1 ["self","number","parts","stops","follow"] []
 es1:xd2 K A.ed1 ["self","number","parts","stops","follow"] A.ef1
 et1:Vals [V.bl false,V.non] A.ef1
 eu1:KBinds K A.ed1 ["self","number","parts","stops","follow"] ["stops","follow"] (gAB 3 2) (gAB 3 2)
 ev1:Mk K A.ev2 A.ec1
 ew1:Fun K "cue_list" "cue_list" xk8 A.eg1 A.eh1
 ex1:xd2 K A.eh1 ["cues"] []
 ey1:mg "cue_list" = some (.ref A.eg1)
 ez1:Fun K "retold" "retold" xp8 A.ei1 A.ej1
 ea2:xd2 K A.ej1 ["part","tells","alone"] []
 eb2:mg "retold" = some (.ref A.ei1)
 ec2:Fun K "_law_least" "_law_least" xi8 A.ek1 A.el1
 ed2:xd2 K A.el1 ["_law_worths_here"] []
 ee2:mg "_law_least" = some (.ref A.ek1)
 ef2:Fun K "tellings_from" "tellings_from" xe2 A.em1 A.en1
 eg2:xd2 K A.en1 ["columns","start","count"] []
 eh2:mg "tellings_from" = some (.ref A.em1)
 ei2:Fun K "best_starts" "best_starts" xg9 A.eo1 A.ep1
 ej2:xd2 K A.ep1 ["columns","count"] []
 ek2:mg "best_starts" = some (.ref A.eo1)
 el2:Fun K "tell_column" "tell_column" xg5 A.eq1 A.er1
 em2:xd2 K A.er1 ["tells","alone","slot","column","starts"] []
 en2:mg "tell_column" = some (.ref A.eq1)
 eo2:Fun K "columns_of" "columns_of" xi0 A.es1 A.et1
 ep2:xd2 K A.et1 ["looks"] []
 eq2:mg "columns_of" = some (.ref A.es1)
 er2:Fun K "place_to_tell" "place_to_tell" xe3 A.eu1 A.ev1
 es2:xd2 K A.ev1 ["cue","slot","worth","part"] []
 et2:mg "place_to_tell" = some (.ref A.eu1)
 eu2:Fun K "weight" "weight" xp7 A.ew1 A.ex1
 ev2:xd2 K A.ex1 ["cues"] []
 ew2:mg "weight" = some (.ref A.ew1)
 ex2:Fun K "_law_weight" "_law_weight" xh9 A.ey1 A.ez1
 ey2:xd2 K A.ez1 ["_law_cues"] []
 ez2:mg "_law_weight" = some (.ref A.ey1)
 ea3:Fun K "_law_cell_at" "_law_cell_at" xg8 A.ea2 A.eb2
 eb3:xd2 K A.eb2 ["_law_script","_law_k"] []
 ec3:mg "_law_cell_at" = some (.ref A.ea2)
 ed3:Fun K "_law_whole" "_law_whole" xi6 A.ec2 A.ed2
 ee3:xd2 K A.ed2 ["_law_found"] []
 ef3:mg "_law_whole" = some (.ref A.ec2)
 eg3:Fun K "_law_draw" "_law_draw" xk5 A.ee2 A.ef2
 eh3:xd2 K A.ef2 ["_law_cell","_law_place"] []
 ei3:mg "_law_draw" = some (.ref A.ee2)
 ej3:Fun K "told_cue" "told_cue" xk3 A.eg2 A.eh2
 ek3:xd2 K A.eh2 ["cue","stops","tells","alone"] []
 el3:mg "told_cue" = some (.ref A.eg2)
 em3:Fun K "showing" "showing" xm2 A.ei2 A.ej2
 en3:xd2 K A.ej2 ["cues","looks"] []
 eo3:mg "showing" = some (.ref A.ei2)
 ep3:Fun K "_law_lamp" "_law_lamp" xk4 A.ek2 A.el2
 eq3:xd2 K A.el2 ["_law_cell"] []
 er3:mg "_law_lamp" = some (.ref A.ek2)
 es3:Fun K "_law_worths" "_law_worths" xh8 A.em2 A.en2
 et3:xd2 K A.en2 ["_law_script"] []
 eu3:mg "_law_worths" = some (.ref A.em2)
 ev3:Fun K "_law_is_list" "_law_is_list" xg7 A.eo2 A.ep2
 ew3:xd2 K A.ep2 ["_law_cues"] []
 ex3:mg "_law_is_list" = some (.ref A.eo2)
 ey3:Fun K "_law_looks" "_law_looks" xi7 A.eq2 A.er2
 ez3:xd2 K A.er2 ["_law_cues"] []
 ea4:mg "_law_looks" = some (.ref A.eq2)
 eb4:Fun K "law" "law" yy8 A.es2 A.et2
 ec4:xd2 K A.et2 ["_law_script"] []
 ed4:mg "law" = some (.ref A.es2)
 ee4:Cls K A.eu2
 ef4:mg "Part" = some (.ref A.eu2)
 eg4:xl3 K A.eu2 "tells"
 eh4:xl3 K A.eu2 "alone"
 ei4:xl3 K A.eu2 "rise"
 ej4:xl3 K A.eu2 "fall"
 ek4:xl3 K A.eu2 "wait"
 el4:∀ (H:Hp) (a dx:Addr) (fs:List (Str × V)),H a = some (.ins A.eu2 dx fs) -> TyOf K H (.ref a) (.ref A.eu2)
 em4:kitOne K (.ref A.eu2) (.ref A.eu2) = some true
 en4:Cls K A.ev2
 eo4:mg "Cue" = some (.ref A.ev2)
 ep4:xl3 K A.ev2 "number"
 eq4:xl3 K A.ev2 "parts"
 er4:xl3 K A.ev2 "stops"
 es4:xl3 K A.ev2 "follow"
 et4:∀ (H:Hp) (a dx:Addr) (fs:List (Str × V)),H a = some (.ins A.ev2 dx fs) -> TyOf K H (.ref a) (.ref A.ev2)
 eu4:kitOne K (.ref A.ev2) (.ref A.ev2) = some true
 ev4:mg "isinstance" = none
 ew4:mg "int" = none
 ex4:mg "bool" = none
 ey4:mg "str" = none
 ez4:mg "tuple" = none
 ea5:mg "list" = none
 eb5:mg "dict" = none
 ec5:mg "set" = none
 ed5:mg "sorted" = none
 ee5:mg "len" = none
 ef5:mg "all" = none
 eg5:mg "min" = none
 eh5:mg "range" = none
 ei5:mg "enumerate" = none
 ej5:mg "sum" = none
 ek5:∃ t,mg "MOST_TICKS" = some (.int 1000000000 t)
 el5:∃ t,mg "LETTERS" = some (.str "abcdefghijklmnopqrstuvwxyz" t)
 em5:∃ t,mg "MOST_LETTERS" = some (.int 8 t)
 en5:∃ t,mg "MOST_WORTH" = some (.int 1000000000 t)
 eo5:∃ t,mg "MOST_NUMBER" = some (.int 1000000000 t)
 ep5:∃ t,mg "MOST_PARTS" = some (.int 9 t)
 eq5:mg "SIDES" = some (.ref A.ew2)
 er5:∀ H,SqT K H A.ew2 [.str (Str.ofString "blue"),.str (Str.ofString "bright"),.str (Str.ofString "green"),.str (Str.ofString "pan"),.str (Str.ofString "red"),.str (Str.ofString "tilt")]
theorem yq3:FnScope ["thing"] ["thing"] (xa7 xk7):=⟨rfl,rfl,rfl,by decide +kernel,rfl,by decide +kernel,by decide +kernel⟩
theorem yy4:FnScope ["thing"] ["thing"] (xa7 xm3):=⟨rfl,rfl,rfl,by decide +kernel,rfl,by decide +kernel,by decide +kernel⟩
theorem yy7:FnScope ["thing"] ["thing"] (xa7 xm6):=⟨rfl,rfl,rfl,by decide +kernel,rfl,by decide +kernel,by decide +kernel⟩
theorem yh6:(["sign"]:List Str).Nodup:=by decide +kernel
theorem yy6:FnScope ["thing"] ["thing"] (xa7 xm5):=⟨rfl,rfl,rfl,by decide +kernel,rfl,by decide +kernel,by decide +kernel⟩
theorem yy5:FnScope ["thing"] ["thing"] (xa7 xm4):=⟨rfl,rfl,rfl,by decide +kernel,rfl,by decide +kernel,by decide +kernel⟩
theorem yq2:FnScope ["thing"] ["thing"] (xa7 xk6):=⟨rfl,rfl,rfl,by decide +kernel,rfl,by decide +kernel,by decide +kernel⟩
theorem yc3:FnScope ["thing"] ["thing"] (xa7 xg6):=⟨rfl,rfl,rfl,by decide +kernel,rfl,by decide +kernel,by decide +kernel⟩
theorem xy2:FnScope ["thing"] ["thing"] (xa7 xf3):=⟨rfl,rfl,rfl,by decide +kernel,rfl,by decide +kernel,by decide +kernel⟩
theorem xw3:FnScope ["thing"] ["thing"] (xa7 xe4):=⟨rfl,rfl,rfl,by decide +kernel,rfl,by decide +kernel,by decide +kernel⟩
theorem xq0:FnScope ["thing"] ["thing"] (xa7 xc8):=⟨rfl,rfl,rfl,by decide +kernel,rfl,by decide +kernel,by decide +kernel⟩
theorem xn7:(["key"]:List Str).Nodup:=by decide +kernel
theorem xl4:FnScope ["self","tells","alone","rise","fall","wait","told","worth"] ["self","tells","alone","rise","fall","wait"] (xa7 xi9):=⟨rfl,rfl,rfl,by decide +kernel,rfl,by decide +kernel,by decide +kernel⟩
theorem ya0:(["ticks"]:List Str).Nodup:=by decide +kernel
theorem xr6:FnScope ["self"] ["self"] (xa7 xd5):=⟨rfl,rfl,rfl,by decide +kernel,rfl,by decide +kernel,by decide +kernel⟩
theorem xl1:FnScope ["thing","slots","part"] ["thing"] (xa7 xf4):=⟨rfl,rfl,rfl,by decide +kernel,rfl,by decide +kernel,by decide +kernel⟩
theorem xs5:(["part"]:List Str).Nodup:=by decide +kernel
theorem yq4:FnScope ["self","number","parts","stops","follow"] ["self","number","parts","stops","follow"] (xa7 xk9):=⟨rfl,rfl,rfl,by decide +kernel,rfl,by decide +kernel,by decide +kernel⟩
theorem xy3:FnScope ["cues","place"] ["cues"] (xa7 xk8):=⟨rfl,rfl,rfl,by decide +kernel,rfl,by decide +kernel,by decide +kernel⟩
theorem yd1:(["cue"]:List Str).Nodup:=by decide +kernel
theorem ze4:FnScope ["part","tells","alone"] ["part","tells","alone"] (xa7 xp8):=⟨rfl,rfl,rfl,by decide +kernel,rfl,by decide +kernel,by decide +kernel⟩
theorem xe9:FnScope ["_law_worths_here","_law_spent","_law_worth","_law_behind","_law_least_here","_law_have","_law_cost"] ["_law_worths_here"] (xa7 xi8):=⟨rfl,rfl,rfl,by decide +kernel,rfl,by decide +kernel,by decide +kernel⟩
theorem xc0:FnScope ["columns","start","count","needed","column","tellings","held","place","worth"] ["columns","start","count"] (xa7 xe2):=⟨rfl,rfl,rfl,by decide +kernel,rfl,by decide +kernel,by decide +kernel⟩
theorem xd3:FnScope ["columns","count","best","onward","start","needed","end","tellings","starts"] ["columns","count"] (xa7 xg9):=⟨rfl,rfl,rfl,by decide +kernel,rfl,by decide +kernel,by decide +kernel⟩
theorem xd9:FnScope ["tells","alone","slot","column","starts","held","place","worth","between"] ["tells","alone","slot","column","starts"] (xa7 xg5):=⟨rfl,rfl,rfl,by decide +kernel,rfl,by decide +kernel,by decide +kernel⟩
theorem xj9:FnScope ["looks","columns","look","slot"] ["looks"] (xa7 xi0):=⟨rfl,rfl,rfl,by decide +kernel,rfl,by decide +kernel,by decide +kernel⟩
theorem xw9:(["other","slot"]:List Str).Nodup:=by decide +kernel
theorem xj6:FnScope ["cue","slot","worth","part","place","other"] ["cue","slot","worth","part"] (xa7 xe3):=⟨rfl,rfl,rfl,by decide +kernel,rfl,by decide +kernel,by decide +kernel⟩
theorem xm1:FnScope ["cues","tellings","cue","part"] ["cues"] (xa7 xp7):=⟨rfl,rfl,rfl,by decide +kernel,rfl,by decide +kernel,by decide +kernel⟩
theorem xg4:FnScope ["_law_cues","_law_found","_law_cue","_law_part"] ["_law_cues"] (xa7 xh9):=⟨rfl,rfl,rfl,by decide +kernel,rfl,by decide +kernel,by decide +kernel⟩
theorem yc4:FnScope ["_law_script","_law_k"] ["_law_script","_law_k"] (xa7 xg8):=⟨rfl,rfl,rfl,by decide +kernel,rfl,by decide +kernel,by decide +kernel⟩
theorem yl4:FnScope ["_law_found"] ["_law_found"] (xa7 xi6):=⟨rfl,rfl,rfl,by decide +kernel,rfl,by decide +kernel,by decide +kernel⟩
theorem xq6:FnScope ["_law_cell","_law_place","_law_own","_law_number"] ["_law_cell","_law_place"] (xa7 xk5):=⟨rfl,rfl,rfl,by decide +kernel,rfl,by decide +kernel,by decide +kernel⟩
theorem xf6:FnScope ["cue","stops","tells","alone","tells_by","alone_by","slot","worth","parts"] ["cue","stops","tells","alone"] (xa7 xk3):=⟨rfl,rfl,rfl,by decide +kernel,rfl,by decide +kernel,by decide +kernel⟩
theorem xq5:(["place","part","tells_by","alone_by"]:List Str).Nodup:=by decide +kernel
theorem yd0:(["part"]:List Str).Nodup:=by decide +kernel
theorem yc9:(["part"]:List Str).Nodup:=by decide +kernel
theorem xh7:FnScope ["cues","looks","own","columns","starts","tells","alone","slot","column"] ["cues","looks"] (xa7 xm2):=⟨rfl,rfl,rfl,by decide +kernel,rfl,by decide +kernel,by decide +kernel⟩
theorem xs4:(["place","cue","tells","alone","starts"]:List Str).Nodup:=by decide +kernel
theorem yh5:(["cue"]:List Str).Nodup:=by decide +kernel
theorem yh4:(["cue"]:List Str).Nodup:=by decide +kernel
theorem xl0:FnScope ["_law_cell","_law_letters","_law_lamp_here","_law_k"] ["_law_cell"] (xa7 xk4):=⟨rfl,rfl,rfl,by decide +kernel,rfl,by decide +kernel,by decide +kernel⟩
theorem xf0:FnScope ["_law_script","_law_some","_law_k","_law_worths_here","_law_cells","_law_draw_here"] ["_law_script"] (xa7 xh8):=⟨rfl,rfl,rfl,by decide +kernel,rfl,by decide +kernel,by decide +kernel⟩
theorem xj1:FnScope ["_law_cues","_law_cue","_law_part","_law_worth"] ["_law_cues"] (xa7 xg7):=⟨rfl,rfl,rfl,by decide +kernel,rfl,by decide +kernel,by decide +kernel⟩
theorem xe8:FnScope ["_law_cues","_law_look","_law_found","_law_cue","_law_part","_law_here"] ["_law_cues"] (xa7 xi7):=⟨rfl,rfl,rfl,by decide +kernel,rfl,by decide +kernel,by decide +kernel⟩
theorem xz9:(["_law_slot","_law_here"]:List Str).Nodup:=by decide +kernel
theorem xo2:FnScope ["_law_script","_law_slot","_law_worths_here","_law_cues","_law_number","_law_k","_law_looks_here","_law_worth","_law_found","_law_heavy"] ["_law_script"] (xa7 yy8):=⟨rfl,rfl,rfl,by decide +kernel,rfl,by decide +kernel,by decide +kernel⟩
theorem zh1:(["_law_look"]:List Str).Nodup:=by decide +kernel
theorem zh0:(["_law_cue"]:List Str).Nodup:=by decide +kernel
theorem zg9:(["_law_cue"]:List Str).Nodup:=by decide +kernel
theorem zg8:(["_law_cell","_law_script"]:List Str).Nodup:=by decide +kernel
def spWh0:Sp:=fun vs H Q _=>∃ i:Int,vs = [.int i] /\ Q (.bl true) H
variable {P:Program} {w:World} {K:Frag} {mg:Str -> Option Value} {base:Heap} {A:Adr}
theorem xn6 (T:Txt K mg A):FnOk P w K mg base CX0 1 A.ea A.eb ["thing"] (spWh0):=by
 refine T.ea.ok yq3 (fun vs H Q E h=>?_) (fun cdv Ar outer s H vs Q E hr h=>?_)
 ·obtain ⟨i,rfl,k⟩:=h
  rfl
 ·obtain ⟨i,rfl,k⟩:=h
  refine ⟨_,(xa6 (xc3 (xp0 (xb0 (xf2 K) (by rfl) T.ev4 xb1 (xa1 (pv 0) (xa1 (xw4 (by rfl) T.ew4 yj3) xa5))) (xq3 (pe_not (xb0 (xf2 K) (by rfl) T.ev4 xb1 (xa1 (pv 0) (xa1 (xw4 (by rfl) T.ex4 yb9) xa5)))))))),?_⟩
  refine ⟨_,rfl,_,_,_,_,rfl,.int i,xr2 (.inr (.inr (.inl rfl))) (.inl rfl),_,rfl,iteT ?_⟩
  exact ⟨_,rfl,_,_,_,_,rfl,.int i,xr2 (.inr (.inr (.inl rfl))) (.inr (.inl rfl)),_,rfl,k⟩
def spTime0:Sp:=fun vs H Q _=>∃ i:Int,vs = [.int i] /\ 0 <= i /\ i <= 1000000000 /\ Q (.bl true) H
theorem ye5 (T:Txt K mg A):FnOk P w K mg base CX0 2 A.ec A.ed ["thing"] (spTime0):=by
 have G_is_whole:=xn6 (P:=P) (w:=w) (base:=base) T
 refine T.ed.ok yy4 (fun vs H Q E h=>?_) (fun cdv Ar outer s H vs Q E hr h=>?_)
 ·obtain ⟨i,rfl,h0,h1,k⟩:=h
  rfl
 ·obtain ⟨i,rfl,h0,h1,k⟩:=h
  refine ⟨_,(xa6 (xc3 (xp0 (xb2 G_is_whole (hr.mono (by decide)) (by rfl) T.ec T.ea.kp T.eb .nil xc9 (xa1 (pv 0) xa5)) (xq3 (xx2 xw5 xw5 xa8 (pv 0) (xz2 (by rfl) T.ek5)))))),?_⟩
  refine ⟨_,rfl,i,rfl,_,rfl,iteT ?_⟩
  refine ⟨_,rfl,_,_,rfl,rfl,_,rfl,?_⟩
  rw [decide_eq_true h0]
  refine iteT ⟨_,_,rfl,rfl,?_⟩
  show Q (.bl (decide (i <= 1000000000))) H
  rw [decide_eq_true h1]
  exact k
def spNum0:Sp:=fun vs H Q _=>∃ i:Int,vs = [.int i] /\ 1 <= i /\ i <= 1000000000 /\ Q (.bl true) H
theorem xw8 (T:Txt K mg A):FnOk P w K mg base CX0 2 A.eq A.er ["thing"] (spNum0):=by
 have G_is_whole:=xn6 (P:=P) (w:=w) (base:=base) T
 refine T.ey.ok xw3 (fun vs H Q E h=>?_) (fun cdv Ar outer s H vs Q E hr h=>?_)
 ·obtain ⟨i,rfl,h0,h1,k⟩:=h
  rfl
 ·obtain ⟨i,rfl,h0,h1,k⟩:=h
  refine ⟨_,(xa6 (xc3 (xp0 (xb2 G_is_whole (hr.mono (by decide)) (by rfl) T.ec T.ea.kp T.eb .nil xc9 (xa1 (pv 0) xa5)) (xq3 (xx2 xw5 xw5 xa8 (pv 0) (xz2 (by rfl) T.eo5)))))),?_⟩
  refine ⟨_,rfl,i,rfl,_,rfl,iteT ?_⟩
  refine ⟨_,rfl,_,_,rfl,rfl,_,rfl,?_⟩
  rw [decide_eq_true h0]
  refine iteT ⟨_,_,rfl,rfl,?_⟩
  show Q (.bl (decide (i <= 1000000000))) H
  rw [decide_eq_true h1]
  exact k
def spWorth0:Sp:=fun vs H Q _=>∃ i:Int,vs = [.int i] /\ 0 <= i /\ i <= 1000000000 /\ Q (.bl true) H
theorem yr7 (T:Txt K mg A):FnOk P w K mg base CX0 2 A.ek A.el ["thing"] (spWorth0):=by
 have G_is_whole:=xn6 (P:=P) (w:=w) (base:=base) T
 refine T.ep.ok yq2 (fun vs H Q E h=>?_) (fun cdv Ar outer s H vs Q E hr h=>?_)
 ·obtain ⟨i,rfl,h0,h1,k⟩:=h
  rfl
 ·obtain ⟨i,rfl,h0,h1,k⟩:=h
  refine ⟨_,(xa6 (xc3 (xp0 (xb2 G_is_whole (hr.mono (by decide)) (by rfl) T.ec T.ea.kp T.eb .nil xc9 (xa1 (pv 0) xa5)) (xq3 (xx2 xw5 xw5 xa8 (pv 0) (xz2 (by rfl) T.en5)))))),?_⟩
  refine ⟨_,rfl,i,rfl,_,rfl,iteT ?_⟩
  refine ⟨_,rfl,_,_,rfl,rfl,_,rfl,?_⟩
  rw [decide_eq_true h0]
  refine iteT ⟨_,_,rfl,rfl,?_⟩
  show Q (.bl (decide (i <= 1000000000))) H
  rw [decide_eq_true h1]
  exact k
def spRefW:Sp:=fun vs H Q _=>∃ i:Int,vs = [.int i] /\ 0 <= i /\ i <= 1000000000 /\ Q .non H
theorem xp1 (T:Txt K mg A):FnOk P w K mg base CX0 3 A.eo A.ep ["thing"] (spRefW):=by
 have G_is_worth:=yr7 (P:=P) (w:=w) (base:=base) T
 refine T.ev.ok xy2 (fun vs H Q E h=>?_) (fun cdv Ar outer s H vs Q E hr h=>?_)
 ·obtain ⟨i,rfl,h0,h1,k⟩:=h
  rfl
 ·obtain ⟨i,rfl,h0,h1,k⟩:=h
  refine ⟨_,(xa6 (xh1 (xf8 (xf7 (xb2 G_is_worth (hr.mono (by decide)) (by rfl) T.er T.ep.kp T.eq .nil xc9 (xa1 (pv 0) xa5)))) (xa6 xl9) xc7)),?_⟩
  exact ⟨_,rfl,i,rfl,h0,h1,_,rfl,iteF k⟩
def xr1 (z:Str):Bool:=decide ((1:Int) <= (z.length:Int)) && (decide ((z.length:Int) <= 8) && (cs z).all xs9)
inductive Lm (K:Frag) (H:Hp):V -> Bool -> Prop
 | str (z:Str) (h:z.length <= 1000):Lm K H (.str z) (xr1 z)
 | other (x:V) (t:String) (ty:TyOf K H x (.type t)) (h:kitOne K (.type t) (.type "str") = some false):Lm K H x false
def spLamp (K:Frag):Sp:=fun vs H Q _=>∃ x c,vs = [x] /\ Lm K H x c /\ ∀ H',Same H H' -> Q (.bl c) H'
theorem yz6 (T:Txt K mg A):FnOk P w K mg base CX0 1 A.ee A.ef ["thing"] (spLamp K):=by
 refine T.eg.ok yy7 (fun vs H Q E h=>?_) (fun cdv Ar outer s H vs Q E hr h=>?_)
 ·obtain ⟨x,c,rfl,hk,k⟩:=h
  rfl
 ·obtain ⟨x,c,rfl,hk,k⟩:=h
  refine ⟨_,(xa4 (xh1 (xf8 (xf7 (xb0 (xf2 K) (by rfl) T.ev4 xb1 (xa1 (pv 0) (xa1 (xw4 (by rfl) T.ey4 yp1) xa5))))) (xa6 (xc3 xs2)) xc7)
   (xa6 (xc3 (xp0 (xx2 xw5 xw5 xa8 (xb0 yo8 (by rfl) T.ee5 PySem.boot_len (xa1 (pv 0) xa5)) (xz2 (by rfl) T.em5)) (xq3 (xb0 (xp4 K rfl) (by rfl) T.ef5 xt6 (xa1 (xh6 ["sign"] [none] rfl (pi_str (pv 0)) (fun _ _ _=>(xa9 (i:=0) yh6 rfl (Or.inl rfl))) (fun _ _ _=>(xu1 zf9 (pv 0) (pe_gstr (by rfl) T.el5) (by with_unfolding_all rfl)))) xa5))))))),?_⟩
  cases hk with
  | other _ t ty h =>
   refine xb5 (fun _ _=>False) (fun N hN=>?_) (fun _ _ z=>z.elim)
   exact ⟨_,rfl,_,_,_,_,rfl,ty,h,_,rfl,iteT (k _ (Same.refl _))⟩
  | str z hz =>
   refine xb5 (fun σ' H'=>σ' = [some (.str z)] /\ H' = H) (fun N hN=>?_) ?_
   ·exact ⟨_,rfl,_,_,_,_,rfl,.str z,xr2 (.inr (.inr (.inr rfl))) (.inr (.inr (.inl rfl))),_,rfl,iteF (hN _ _ ⟨rfl,rfl⟩)⟩
   rintro σ' H1 ⟨rfl,rfl⟩
   unfold xr1 at k
   refine ⟨_,rfl,_,rfl,xe5 hz,_,_,rfl,rfl,_,rfl,?_⟩
   by_cases c1:(1:Int) <= (z.length:Int)
   ·rw [decide_eq_true c1] at k ⊢
    refine iteT ⟨_,_,rfl,rfl,_,rfl,?_⟩
    by_cases c2:(z.length:Int) <= 8
    ·rw [decide_eq_true c2] at k ⊢
     refine iteT ?_
     refine ⟨_,rfl,_,rfl,fun D hD=>comp_str xs9 (fun σ=>∃ v,σ = [v]) hD hz ⟨_,rfl⟩ ?_ ?_⟩
     ·rintro c σ' H' N' hc ⟨v,rfl⟩ q
      refine ⟨_,rfl,_,_,rfl,rfl,?_⟩
      rw [show (!(Builtin.Str.occurrences (Str.ofString "abcdefghijklmnopqrstuvwxyz") ⟨#[c]⟩ 0 (Str.ofString "abcdefghijklmnopqrstuvwxyz").length 1).isEmpty) = xs9 c from in_lets c]
      exact q _ ⟨_,rfl⟩
     ·intro H' s' hD'
      refine ⟨D,_,rfl,SqL.of hD',?_⟩
      have ea:((cs z).map xs9).all id = (cs z).all xs9:=by rw [List.all_map]; rfl
      rw [ea]
      exact k _ s'
    ·rw [decide_eq_false c2] at k ⊢
     exact iteF (k _ (Same.refl _))
   ·rw [decide_eq_false c1] at k ⊢
    exact iteF ⟨_,rfl,iteF (k _ (Same.refl _))⟩
abbrev xv2:List V:=[.str (Str.ofString "blue"),.str (Str.ofString "bright"),.str (Str.ofString "green"),.str (Str.ofString "pan"),.str (Str.ofString "red"),.str (Str.ofString "tilt")]
inductive Sd (K:Frag) (H:Hp):V -> Bool -> Prop
 | str (z:Str):Sd K H (.str z) (inV (.str z) xv2)
 | other (x:V) (t:String) (ty:TyOf K H x (.type t)) (h:kitOne K (.type t) (.type "str") = some false):Sd K H x false
theorem Sd.keep {K:Frag} {H H':Hp} {x:V} {c:Bool} (h:Sd K H x c) (s:Same H H'):Sd K H' x c:=by
 cases h with
 | str z=>exact .str z
 | other _ t ty h=>exact .other x t (tyKeep ty s) h
def spSideP (K:Frag):Sp:=fun vs H Q _=>∃ x c,vs = [x] /\ Sd K H x c /\ Q (.bl c) H
theorem yz5 (T:Txt K mg A):FnOk P w K mg base CX0 1 A.eg A.eh ["thing"] (spSideP K):=by
 refine T.ej.ok yy6 (fun vs H Q E h=>?_) (fun cdv Ar outer s H vs Q E hr h=>?_)
 ·obtain ⟨x,c,rfl,hk,k⟩:=h
  rfl
 ·obtain ⟨x,c,rfl,hk,k⟩:=h
  refine ⟨_,(xa6 (xc3 (xp0 (xb0 (xf2 K) (by rfl) T.ev4 xb1 (xa1 (pv 0) (xa1 (xw4 (by rfl) T.ey4 yp1) xa5))) (xq3 (xu1 (xu3 K) (pv 0) (xq7 (v:=V.ref _) (by rfl) T.eq5 rfl) (by with_unfolding_all rfl)))))),?_⟩
  cases hk with
  | other _ t ty h=>exact ⟨_,rfl,_,_,_,_,rfl,ty,h,_,rfl,iteF k⟩
  | str z =>
   refine ⟨_,rfl,_,_,_,_,rfl,.str z,xr2 (.inr (.inr (.inr rfl))) (.inr (.inr (.inl rfl))),_,rfl,iteT ?_⟩
   exact ⟨_,rfl,_,_,rfl,.inr (T.er5 _),rfl,rfl,k⟩
inductive Sl (K:Frag) (H:Hp):V -> Bool -> Prop
 | two (a:Addr) (y1 y2:V) (b1 b2:Bool) (h:H a = some (.tup [y1,y2])) (h1:Lm K H y1 b1) (h2:Sd K H y2 b2):Sl K H (.ref a) (b1 && b2)
 | size (a:Addr) (xs:List V) (h:H a = some (.tup xs)) (hn:xs.length ≠ 2):Sl K H (.ref a) false
 | other (x:V) (t:String) (ty:TyOf K H x (.type t)) (h:kitOne K (.type t) (.type "tuple") = some false):Sl K H x false
theorem zc5 {K:Frag}:kitOne K (.type "tuple") (.type "tuple") = some true:=by kernel_rfl
def spSlot (K:Frag):Sp:=fun vs H Q _=>∃ x c,vs = [x] /\ Sl K H x c /\ ∀ H',Same H H' -> Q (.bl c) H'
theorem ye6 (T:Txt K mg A):FnOk P w K mg base CX0 2 A.ei A.ej ["thing"] (spSlot K):=by
 have G_is_lamp:=yz6 (P:=P) (w:=w) (base:=base) T
 have G_is_side:=yz5 (P:=P) (w:=w) (base:=base) T
 refine T.em.ok yy5 (fun vs H Q E h=>?_) (fun cdv Ar outer s H vs Q E hr h=>?_)
 ·obtain ⟨x,c,rfl,hk,k⟩:=h
  rfl
 ·obtain ⟨x,c,rfl,hk,k⟩:=h
  refine ⟨_,(xa4 (xh1 (PW.pt (yg5 (xf8 (xf7 (xb0 (xf2 K) (by rfl) T.ev4 xb1 (xa1 (pv 0) (xa1 (xw4 (by rfl) T.ez4 zb6) xa5))))) (xv5 (xh0 op_ne (xb0 (xi2 K) (by rfl) T.ee5 PySem.boot_len (xa1 (pv 0) xa5)) xa8 (xi4 _))))) (xa6 (xc3 xs2)) xc7)
   (xa6 (xc3 (xp0 (xb2 G_is_lamp (hr.mono (by decide)) (by rfl) T.ei T.eg.kp T.eh .nil xc9 (xa1 (xi3 (zi2 K) (pv 0) xa8 (fun _ _=>rfl)) xa5)) (xq3 (xb2 G_is_side (hr.mono (by decide)) (by rfl) T.el T.ej.kp T.ek .nil xc9 (xa1 (xi3 (zi2 K) (pv 0) xa8 (fun _ _=>rfl)) xa5))))))),?_⟩
  cases hk with
  | other _ t ty h =>
   refine xb5 (fun _ _=>False) (fun N hN=>?_) (fun _ _ z=>z.elim)
   exact ⟨_,rfl,_,_,_,_,rfl,ty,h,_,rfl,iteT (iteT (k _ (Same.refl _)))⟩
  | size a xs h hn =>
   refine xb5 (fun _ _=>False) (fun N hN=>?_) (fun _ _ z=>z.elim)
   refine ⟨_,rfl,_,_,_,_,rfl,.tup h,zc5,_,rfl,iteF ?_⟩
   refine ⟨_,rfl,a,_,rfl,.inr (SqT.of h),rfl,_,rfl,?_⟩
   rw [decide_eq_false (show ¬ V.int (xs.length:Int) = V.int 2 from fun z=>hn (by have:=V.int.inj z; omega))]
   exact iteT (k _ (Same.refl _))
  | two a y1 y2 b1 b2 h h1 h2 =>
   refine xb5 (fun σ' H'=>σ' = [some (.ref a)] /\ H' = H) (fun N hN=>?_) ?_
   ·refine ⟨_,rfl,_,_,_,_,rfl,.tup h,zc5,_,rfl,iteF ?_⟩
    refine ⟨_,rfl,a,_,rfl,.inr (SqT.of h),rfl,_,rfl,?_⟩
    rw [decide_eq_true (show V.int (([y1,y2]:List V).length:Int) = V.int 2 from rfl)]
    exact iteF (hN _ _ ⟨rfl,rfl⟩)
   rintro σ' H1 ⟨rfl,rfl⟩
   refine ⟨_,rfl,a,_,_,_,rfl,rfl,SqT.of h,atI_0 _ _,_,_,rfl,h1,fun H2 s2=>⟨_,rfl,?_⟩⟩
   cases b1 with
   | false=>exact iteF (k _ s2)
   | true=>exact iteT ⟨_,rfl,a,_,_,_,rfl,rfl,SqT.of (s2 _ _ h),atI_1 _ _ _,_,_,rfl,h2.keep s2,k _ s2⟩
def spRs0 (K:Frag):Sp:=fun vs H Q _=>∃ x,vs = [x] /\ Sl K H x true /\ ∀ H',Same H H' -> Q .non H'
theorem yc6 (T:Txt K mg A):FnOk P w K mg base CX0 3 A.em A.en ["thing"] (spRs0 K):=by
 have G_is_slot:=ye6 (P:=P) (w:=w) (base:=base) T
 refine T.es.ok yc3 (fun vs H Q E h=>?_) (fun cdv Ar outer s H vs Q E hr h=>?_)
 ·obtain ⟨x,rfl,hx,k⟩:=h
  rfl
 ·obtain ⟨x,rfl,hx,k⟩:=h
  refine ⟨_,(xa6 (xh1 (xf8 (xf7 (xb2 G_is_slot (hr.mono (by decide)) (by rfl) T.eo T.em.kp T.en .nil xc9 (xa1 (pv 0) xa5)))) (xa6 xl9) xc7)),?_⟩
  exact ⟨_,rfl,_,_,rfl,hx,fun H' s=>⟨_,rfl,iteF (k _ s)⟩⟩
theorem kit_dd {K:Frag}:kitOne K (.type "dict") (.type "dict") = some true:=by kernel_rfl
theorem zh9 {K:Frag}:kitOne K (.type "list") (.type "list") = some true:=by kernel_rfl
abbrev xh4 (l sd:Str):List Key:=[Sum.inr l,Sum.inr sd]
def zl7 (kv:List Key × V):Prop:=∃ (l sd:Str) (i:Int),kv = (xh4 l sd,.int i) /\ xr1 l = true /\ l.length <= 1000 /\ inV (.str sd) xv2 = true /\ 0 <= i /\ i <= 1000000000
def yj8 (kvs:List (List Key × V)):Prop:=kvs.length <= 1 /\ ∀ kv ∈ kvs,zl7 kv
theorem zc7:yj8 []:=⟨Nat.zero_le _,by simp⟩
theorem kt_keys {H:Hp}:∀ {kvs:List (List Key × V)} {xs:List (List Key × Addr × Value)},KT H kvs xs -> kvs.map (·.1) = xs.map (·.1) /\ ∀ x ∈ xs,H x.2.1 = some (.tup (x.1.map kV)):=by
 intro l m k
 induction k with
 | nil=>exact ⟨rfl,fun x hx=>by simp at hx⟩
 | @cons p q ps qs hq t ih =>
  refine ⟨by rw [List.map_cons,List.map_cons,hq.1,ih.1],fun x hx=>?_⟩
  rcases List.mem_cons.mp hx with e | hx
  ·subst e; rw [<- hq.1]; exact hq.2.1
  ·exact ih.2 x hx
theorem kt_good {H:Hp} {kvs:List (List Key × V)} {xs:List (List Key × Addr × Value)} (k:KT H kvs xs) (hg:∀ kv ∈ kvs,zl7 kv):∀ x ∈ xs,∃ l sd,x.1 = xh4 l sd /\ xr1 l = true /\ l.length <= 1000 /\ inV (.str sd) xv2 = true /\ H x.2.1 = some (.tup [.str l,.str sd]):=by
 intro x hx
 obtain ⟨ke,kh⟩:=kt_keys k
 have:x.1 ∈ kvs.map (·.1):=by rw [ke]; exact List.mem_map.mpr ⟨x,hx,rfl⟩
 obtain ⟨kv,h1,h2⟩:=List.mem_map.mp this
 obtain ⟨l,sd,i,rfl,a,b,c,d,e⟩:=hg kv h1
 refine ⟨l,sd,h2.symm,a,b,c,?_⟩
 have:=kh x hx
 rw [<- h2] at this
 exact this
theorem zc6 {H H':Hp} {d:Addr} {o:Obj} {kvs:List (List Key × V)} (hd:H d = some (.dT kvs)) (sm:Same (upd H d (held d o)) H'):xp6 H H':=fun b xs e=>by
 refine sm b _ ?_
 rw [xa2 (xb9 e hd (by intro z; cases z))]; exact e
theorem zd6 {H H':Hp} {d:Addr} {o:Obj} {kvs:List (List Key × V)} (hd:H d = some (.dT kvs)) (sm:Same (upd H d (held d o)) H'):Same H (upd H' d (.dT kvs)):=fun b u e=>by
 by_cases hb:b = d
 ·subst hb; rw [hd] at e; cases e; exact xa0
 ·rw [xa2 hb]; exact sm b u (by rw [xa2 hb]; exact e)
theorem zd7 {K:Frag} {H:Hp} {a:Addr} {l sd:Str} (h:H a = some (.tup [.str l,.str sd])) (hl:l.length <= 1000) (h1:xr1 l = true) (h2:inV (.str sd) xv2 = true):Sl K H (.ref a) true:=by
 have:=Sl.two a _ _ _ _ h (Lm.str (K:=K) (H:=H) l hl) (Sd.str sd)
 rw [h1,h2] at this
 exact this
theorem yr3 {vs ys:List V} (h:Paired (fun _ v=>v = V.bl true) vs ys):ys = (vs.map fun _=>true).map V.bl:=by
 induction h with
 | nil=>rfl
 | cons q t ih=>rw [List.map_cons,List.map_cons,<- ih,q]
def spKeys1:Sp:=fun vs H Q _=>∃ d kvs,vs = [.ref d] /\ H d = some (.dT kvs) /\ yj8 kvs /\ ∀ H',Same H H' -> Q (.bl true) H'
theorem xq1 (T:Txt K mg A):FnOk P w K mg base CX0 3 A.es A.et ["thing"] (spKeys1):=by
 have G_is_slot:=ye6 (P:=P) (w:=w) (base:=base) T
 refine T.eb1.ok xq0 (fun vs H Q E h=>?_) (fun cdv Ar outer s H vs Q E hr h=>?_)
 ·obtain ⟨d,kvs,rfl,hd,ht,k⟩:=h
  rfl
 ·obtain ⟨d,kvs,rfl,hd,ht,k⟩:=h
  refine ⟨_,(xa6 (xc3 (xp0 (xb0 (xf2 K) (by rfl) T.ev4 xb1 (xa1 (pv 0) (xa1 (xw4 (by rfl) T.eb5 xt5) xa5))) (xq3 (xb0 (xp4 K rfl) (by rfl) T.ef5 xt6 (xa1 (xz1 (xh6 ["key"] [none] rfl (pi_key (pv 0)) (fun _ _ _=>(xa9 (i:=0) xn7 rfl (Or.inl rfl))) (fun _ _ _=>(xb2 G_is_slot (hr.mono (by decide)) (by rfl) T.eo T.em.kp T.en .nil xc9 (xa1 (pv 0) xa5))))) xa5)))))),?_⟩
  refine ⟨_,rfl,_,_,_,true,rfl,.dT hd,kit_dd,true,rfl,iteT ?_⟩
  refine ⟨d,kvs,hd,fun o xs es ep D kt=>?_⟩
  have hv:=xm9 D
  refine ⟨_,rfl,d,o,_,es,ep,rfl,xa0,D.sys,D.ex,D.data,hv,fun D' hD'=>?_⟩
  have ne:D' ≠ d:=by rintro rfl; rw [xa0] at hD'; cases hD'
  have hD:H D' = none:=by rw [xa2 ne] at hD'; exact hD'
  have hxl:xs.length <= 1:=by rw [<- Paired.length kt]; exact ht.1
  refine zl1 (fun _ v _=>v = V.bl true) (fun σ=>∃ z,σ = [z]) (fun _ _ _ _ _ h=>h) xa0 hD' (by rw [List.length_map]; omega) ⟨_,rfl⟩ (fun x σ' G N hx ho sm q=>?_) fun ys G sm hl hp=>?_
  ·obtain ⟨z,rfl⟩:=ho
   obtain ⟨y,hy,rfl⟩:=List.mem_map.mp hx
   obtain ⟨l,sd,e1,e2,e3,e4,e5⟩:=kt_good kt ht.2 y hy
   have hG:G y.2.1 = some (.tup [.str l,.str sd]):=sm _ _ (by rw [xa2 (xb9 e5 hd (by intro z; cases z))]; exact e5)
   exact ⟨_,rfl,_,_,rfl,zd7 hG e3 e2 e4,fun G2 s2=>q _ _ _ rfl s2 ⟨_,rfl⟩⟩
  ·refine ⟨sm _ _ xa0,zc6 hd sm,?_⟩
   refine ⟨D',_,rfl,SqL.of (xs:=((xs.map fun x=>V.ref x.2.1).map fun _=>true).map V.bl) ?_,?_⟩
   ·rw [xa2 ne,hl,yr3 hp]
   ·rw [show ((xs.map fun x=>V.ref x.2.1).map fun _=>true).all id = true by simp]
    exact k _ (zd6 hd sm)
def partF (d1 d2:Addr):List (Str × V):=[("tells",.ref d1),("alone",.ref d2),("rise",.int 0),("fall",.int 0),("wait",.int 0)]
def xq2 (A:Adr) (H:Hp) (p:Addr) (k1 k2:List (List Key × V)):Prop:=∃ dx d1 d2,H p = some (.ins A.eu2 dx (partF d1 d2)) /\ H d1 = some (.dT k1) /\ H d2 = some (.dT k2)
structure One (k1 k2:List (List Key × V)):Prop where
 t1:yj8 k1
 t2:yj8 k2
 few:k1.length + k2.length <= 1
theorem one0:One [] []:=⟨zc7,zc7,Nat.zero_le _⟩
theorem xq2.keep {A:Adr} {H H':Hp} {p:Addr} {k1 k2:List (List Key × V)} (h:xq2 A H p k1 k2) (s:Same H H'):xq2 A H' p k1 k2:=by
 obtain ⟨dx,d1,d2,a,b,c⟩:=h
 exact ⟨dx,d1,d2,s _ _ a,s _ _ b,s _ _ c⟩
def spPart1 (A:Adr):Sp:=fun vs H Q _=>∃ (x dx d1 d2:Addr) (kvs k2:List (List Key × V)),vs = [.ref x,.ref d1,.ref d2,.int 0,.int 0,.int 0] /\ H x = some (.ins A.eu2 dx []) /\ H d1 = some (.dT kvs) /\ H d2 = some (.dT k2) /\ One kvs k2 /\
 ∀ H',xq2 A H' x kvs k2 -> (∀ b o,b ≠ x -> H b = some o -> H' b = some o) -> Q .non H'
theorem xv8 (T:Txt K mg A):FnOk P w K mg base CX0 4 A.eu A.ev ["self","tells","alone","rise","fall","wait"] (spPart1 A):=by
 have G_has_slots_as_keys:=xq1 (P:=P) (w:=w) (base:=base) T
 have G_is_time:=ye5 (P:=P) (w:=w) (base:=base) T
 have G_refuse_worth:=xp1 (P:=P) (w:=w) (base:=base) T
 refine T.ee1.ok xl4 (fun vs H Q E h=>?_) (fun cdv Ar outer s H vs Q E hr h=>?_)
 ·obtain ⟨x,dx,d1,d2,kvs,k2,rfl,hx,h1,h2,⟨ht,htb,_⟩,k⟩:=h
  rfl
 ·obtain ⟨x,dx,d1,d2,kvs,k2,rfl,hx,h1,h2,⟨ht,htb,_⟩,k⟩:=h
  refine ⟨_,(xa4 (xd0 PassesOwn.never rfl (yr0 K (xz0 (xa1 (pv 1) (xa1 (pv 2) xa5)))) (xa9 (i:=6) xl4.nd rfl (Or.inl rfl)) (xa6 (xh1 (xf8 (xf7 (xb2 G_has_slots_as_keys (hr.mono (by decide)) (by rfl) T.ed1 T.eb1.kp T.ec1 .nil xc9 (xa1 (pv 6) xa5)))) (xa6 xl9) xc7)))
   (xa4 (xd0 PassesOwn.never rfl (yr0 K (xz0 (xa1 (pv 1) (xa1 (pv 2) xa5)))) (xa9 (i:=6) xl4.nd rfl (Or.inl rfl)) (xa6 (xy7 (xd0 PassesOwn.never rfl (pi_val (xm7 (pv 6))) (xa9 (i:=7) xl4.nd rfl (Or.inl rfl)) (xa6 (xh5 (xb2 G_refuse_worth (hr.mono (by decide)) (by rfl) T.ex T.ev.kp T.ew .nil xc9 (xa1 (pv 7) xa5))))))))
   (xa4 (xh1 (xf8 (xf7 (xb0 (xp4 K rfl) (by rfl) T.ef5 xt6 (xa1 (xh6 ["ticks"] [none] rfl (yr0 K (xz0 (xa1 (pv 3) (xa1 (pv 4) (xa1 (pv 5) xa5))))) (fun _ _ _=>(xa9 (i:=0) ya0 rfl (Or.inl rfl))) (fun _ _ _=>(xb2 G_is_time (hr.mono (by decide)) (by rfl) T.ef T.ed.kp T.ee .nil xc9 (xa1 (pv 0) xa5)))) xa5)))) (xa6 xl9) xc7)
   (xa4 (xr7 (pv 0) (xd6 xu9 (by rfl) T.eb5 xt5 (xa1 (pv 1) xa5)) rfl)
   (xa4 (xr7 (pv 0) (xd6 xu9 (by rfl) T.eb5 xt5 (xa1 (pv 2) xa5)) rfl)
   (xa4 (xr7 (pv 0) (pv 3) rfl)
   (xa4 (xr7 (pv 0) (pv 4) rfl)
   (xa6 (xr7 (pv 0) (pv 5) rfl))))))))),?_⟩
  refine ⟨_,rfl,_,rfl,(by show 2 <= 1000; decide),fun t ht1=>?_⟩
  have s0:Same H (upd H t (.tup [.ref d1,.ref d2])):=Same.new ht1
  refine ⟨t,rfl,⟨_,SqT.of xa0⟩,zj5 (xs:=[.ref d1,.ref d2]) (fun _ σ' H'=>∃ z:Option V,σ' = [some (.ref x),some (.ref d1),some (.ref d2),some (.int 0),some (.int 0),some (.int 0),z,none] /\ Same (upd H t (.tup [.ref d1,.ref d2])) H') ⟨none,rfl,Same.refl _⟩ (fun i σ' H' _ hp=>?_) (fun i v σ' H' hv hp=>?_) fun σ' H' hp=>?_⟩
  ·obtain ⟨z,_,sm⟩:=hp; exact SqT.of (sm _ _ xa0)
  ·obtain ⟨z,rfl,sm⟩:=hp
   obtain ⟨d,js,rfl,hd,htd⟩:∃ d js,v = .ref d /\ H d = some (.dT js) /\ yj8 js:=by
    rcases List.mem_cons.mp (List.mem_of_getElem? hv) with e | e
    ·exact ⟨d1,kvs,e,h1,ht⟩
    ·exact ⟨d2,k2,by simpa using e,h2,htb⟩
   exact ⟨_,rfl,d,js,rfl,sm _ _ (s0 _ _ hd),htd,fun H2 sm2=>⟨_,rfl,iteF ⟨_,rfl,sm.trans sm2⟩⟩⟩
  obtain ⟨z,rfl,sm⟩:=hp
  have sA:Same H H':=s0.trans sm
  clear sm s0
  refine ⟨_,rfl,_,rfl,(by show 2 <= 1000; decide),fun t2 ht2=>?_⟩
  have s2:Same H (upd H' t2 (.tup [.ref d1,.ref d2])):=sA.trans (Same.new ht2)
  refine ⟨t2,rfl,⟨_,SqT.of xa0⟩,zj5 (xs:=[.ref d1,.ref d2]) (fun _ σ' G=>∃ z z2:Option V,σ' = [some (.ref x),some (.ref d1),some (.ref d2),some (.int 0),some (.int 0),some (.int 0),z,z2] /\ Same (upd H' t2 (.tup [.ref d1,.ref d2])) G) ⟨z,none,rfl,Same.refl _⟩ (fun i σ' G _ hp=>?_) (fun i v σ' G hv hp=>?_) fun σ' G hp=>?_⟩
  ·obtain ⟨z,z2,_,sm⟩:=hp; exact SqT.of (sm _ _ xa0)
  ·obtain ⟨z,z2,rfl,sm⟩:=hp
   obtain ⟨d,js,rfl,hd,htd⟩:∃ d js,v = .ref d /\ H d = some (.dT js) /\ yj8 js:=by
    rcases List.mem_cons.mp (List.mem_of_getElem? hv) with e | e
    ·exact ⟨d1,kvs,e,h1,ht⟩
    ·exact ⟨d2,k2,by simpa using e,h2,htb⟩
   have hd':G d = some (.dT js):=sm _ _ (s2 _ _ hd)
   refine ⟨d,js,hd',fun o xs es ep D kt=>?_⟩
   have hvl:=xj4 D kt
   refine ⟨_,rfl,d,o,es,ep,rfl,xa0,D.sys,D.ex,D.data,fun p hp=>?_⟩
   have pd:d ≠ p:=by rintro rfl; rw [xa0] at hp; cases hp
   refine ⟨p,d,o,_,es,ep,rfl,xa0,by rw [xa2 pd,xa0],D.ex,D.data,hvl,?_⟩
   have sp:Same (upd G d (held d o)) (upd (upd G d (held d o)) p (xw2 "dict_values" p d)):=Same.new hp
   refine yw5 (fun _ σ' G'=>∃ z2:Option V,σ' = [some (.ref x),some (.ref d1),some (.ref d2),some (.int 0),some (.int 0),some (.int 0),some (.ref d),z2] /\ Same (upd G d (held d o)) G') ⟨_,rfl,sp⟩ (fun i σ' G' _ hq=>?_) (fun i v σ' G' hv hq=>?_) fun σ' G' hq=>?_
   ·obtain ⟨_,_,sm'⟩:=hq; exact sm' _ _ xa0
   ·obtain ⟨_,rfl,sm'⟩:=hq
    rw [List.getElem?_map] at hv
    cases hj:js[i]? with
    | none=>rw [hj] at hv; cases hv
    | some kv =>
     rw [hj] at hv
     obtain ⟨l,sd,n,rfl,_,_,_,n0,n1⟩:=htd.2 kv (List.mem_of_getElem? hj)
     obtain rfl:V.int n = v:=by simpa using hv
     exact ⟨_,rfl,n,rfl,by omega,n1,⟨_,rfl,sm'⟩⟩
   ·obtain ⟨z2,rfl,sm'⟩:=hq
    exact ⟨sm' _ _ xa0,zc6 hd' sm',⟨_,_,rfl,sm.trans (zd6 hd' sm')⟩⟩
  obtain ⟨z2,z3,rfl,sm⟩:=hp
  have sB:Same H G:=s2.trans sm
  clear sm s2 sA
  refine ⟨_,rfl,_,rfl,_,rfl,(by show 3 <= 1000; decide),fun t3 ht3=>⟨t3,rfl,⟨_,SqT.of xa0⟩,fun D3 hD3=>?_⟩⟩
  refine comp_tpm (fun _=>.bl true) (fun σ=>σ.length = 1) xa0 hD3 (by show 3 <= 1000; decide) rfl (fun v σ' G2 N hv ho sm q=>?_) fun G2 sm hl=>?_
  ·have e:v = .int 0:=by simpa using hv
   subst e
   match σ',ho with
   | [_],_=>exact ⟨_,rfl,0,rfl,by decide,by decide,q _ _ (Same.refl _) rfl⟩
  have sC:Same H G2:=sB.trans ((Same.new ht3).trans sm)
  refine ⟨D3,[true,true,true],rfl,SqL.of hl,_,rfl,iteF ?_⟩
  clear sm sB
  have x1:=sC _ _ hx
  refine ⟨_,rfl,d1,kvs,rfl,sC _ _ h1,ht.1,fun e1 he1=>⟨_,rfl,x,A.eu2,dx,_,rfl,by rw [xa2 (xa3 x1 he1)]; exact x1,T.ee4,T.eg4,(by show 0 < 1000; decide),?_⟩⟩
  have n1:x ≠ e1:=xa3 x1 he1
  have m2:d2 ≠ x:=xb9 h2 hx (by intro z; cases z)
  have m2':d2 ≠ e1:=xa3 (sC _ _ h2) he1
  refine ⟨_,rfl,d2,k2,rfl,by rw [xa2 m2,xa2 m2']; exact sC _ _ h2,htb.1,fun e2 he2=>?_⟩
  have n2:x ≠ e2:=by rintro rfl; rw [xa0] at he2; cases he2
  have n12:e1 ≠ e2:=by rintro rfl; rw [xa2 (Ne.symm n1),xa0] at he2; cases he2
  have he2':G2 e2 = none:=by rw [xa2 (Ne.symm n2),xa2 (Ne.symm n12)] at he2; exact he2
  refine ⟨_,rfl,x,A.eu2,dx,_,rfl,by rw [xa2 n2,xa0],T.ee4,T.eh4,(by show 1 < 1000; decide),?_⟩
  refine ⟨_,rfl,_,rfl,x,A.eu2,dx,_,rfl,xa0,T.ee4,T.ei4,(by show 2 < 1000; decide),?_⟩
  refine ⟨_,rfl,_,rfl,x,A.eu2,dx,_,rfl,xa0,T.ee4,T.ej4,(by show 3 < 1000; decide),?_⟩
  refine ⟨_,rfl,_,rfl,x,A.eu2,dx,_,rfl,xa0,T.ee4,T.ek4,(by show 4 < 1000; decide),?_⟩
  refine k _ ⟨dx,e1,e2,xa0,?_,?_⟩ fun b o hb e=>?_
  ·rw [xa2 (Ne.symm n1),xa2 (Ne.symm n1),xa2 (Ne.symm n1),xa2 (Ne.symm n1),xa2 n12,xa2 (Ne.symm n1),xa0]
  ·rw [xa2 (Ne.symm n2),xa2 (Ne.symm n2),xa2 (Ne.symm n2),xa2 (Ne.symm n2),xa0]
  ·have b1:b ≠ e1:=xa3 (sC _ _ e) he1
   have b2:b ≠ e2:=xa3 (sC _ _ e) he2'
   rw [xa2 hb,xa2 hb,xa2 hb,xa2 hb,xa2 b2,xa2 hb,xa2 b1]
   exact sC _ _ e
theorem zj6 {d1 d2:Addr}:List.lookup ("tells" : Str) (partF d1 d2) = some (V.ref d1):=rfl
theorem zj7 {d1 d2:Addr}:List.lookup ("alone" : Str) (partF d1 d2) = some (V.ref d2):=rfl
theorem xx4 {kvs:List (List Key × V)} (h:yj8 kvs):∀ kv ∈ kvs,xi5 kv.1:=fun kv hk=>by
 obtain ⟨l,sd,i,rfl,_⟩:=h.2 kv hk
 refine ⟨by simp,fun x hx=>?_⟩
 simp only [List.mem_cons,List.not_mem_nil,or_false] at hx
 rcases hx with rfl | rfl <;> exact ⟨_,rfl⟩
def yc1 (H:Hp) (bs:List Addr):Prop:=∀ b ∈ bs,∃ k,xi5 k /\ H b = some (.tup (k.map kV))
theorem yc1.keep {H H':Hp} {bs:List Addr} (h:yc1 H bs) (s:xp6 H H'):yc1 H' bs:=fun b hb=>let ⟨k,a,e⟩:=h b hb; ⟨k,a,s _ _ e⟩
def spSlots1 (A:Adr):Sp:=fun vs H Q _=>∃ p kvs k2,vs = [.ref p] /\ xq2 A H p kvs k2 /\ One kvs k2 /\ ∀ l bs H',H l = none -> H' l = some (.lst (bs.map V.ref)) -> bs.length <= 1 -> yc1 H' bs -> Same H H' -> Q (.ref l) H'
theorem xs3 (T:Txt K mg A):FnOk P w K mg base CX0 1 A.ey A.ez ["self"] (spSlots1 A):=by
 refine T.ek1.ok xr6 (fun vs H Q E h=>?_) (fun cdv Ar outer s H vs Q E hr h=>?_)
 ·obtain ⟨p,kvs,k2,rfl,hp,⟨ht,ht2,few⟩,k⟩:=h
  rfl
 ·obtain ⟨p,kvs,k2,rfl,hp,⟨ht,ht2,few⟩,k⟩:=h
  refine ⟨_,(xa6 (xc3 (xb0 (zb2 rfl) (by rfl) T.ed5 yb8 (xa1 (xc4 (op_setOr hr.units) (xd6 (yo5 hr.units) (by rfl) T.ec5 yj1 (xa1 (xb7 K (pv 0)) xa5)) (xd6 (yo5 hr.units) (by rfl) T.ec5 yj1 (xa1 (xb7 K (pv 0)) xa5))) xa5)))),?_⟩
  obtain ⟨dx,d1,d2,hp,h1,h2⟩:=hp
  refine ⟨_,rfl,p,A.eu2,dx,_,_,rfl,hp,T.ee4,T.eg4,zj6,?_⟩
  refine ⟨d1,kvs,rfl,h1,Nat.le_trans ht.1 (by decide),xx4 ht,fun a zs ha hz1 hk1=>?_⟩
  have sa:∀ o,Same H (upd H a o):=fun o=>Same.new ha
  refine ⟨_,rfl,p,A.eu2,dx,_,_,rfl,sa _ _ _ hp,T.ee4,T.eh4,zj7,?_⟩
  refine ⟨d2,k2,rfl,sa _ _ _ h2,Nat.le_trans ht2.1 (by decide),xx4 ht2,fun b ws hb hz2 hk2=>?_⟩
  have hwl:ws.length = k2.length:=by have:=hz2.length_eq; simpa using this
  have tw:∀ z ∈ ws,xi5 z.1:=fun z hz=>by
   obtain ⟨kv,h1,h2⟩:=List.mem_map.mp (hz2.mem_iff.mp (List.mem_map.mpr ⟨z,hz,rfl⟩))
   rw [<- h2]; exact xx4 ht2 kv h1
  have nab:a ≠ b:=by rintro rfl; rw [xa0] at hb; cases hb
  have hb0:H b = none:=by rw [xa2 (Ne.symm nab)] at hb; exact hb
  have sb:∀ o o',Same H (upd (upd H a o) b o'):=fun o o'=>(sa o).trans (Same.new (by rw [xa2 (Ne.symm nab)]; exact hb0))
  have hzl:zs.length = kvs.length:=by have:=hz1.length_eq; simpa using this
  have tz:∀ z ∈ zs,xi5 z.1:=fun z hz=>by
   obtain ⟨kv,h1,h2⟩:=List.mem_map.mp (hz1.mem_iff.mp (List.mem_map.mpr ⟨z,hz,rfl⟩))
   rw [<- h2]; exact xx4 ht kv h1
  have kb:∀ {o},∀ z ∈ ws,(upd (upd H a (setO P w a zs)) b o) z.2 = some (.tup (z.1.map kV)):=fun {o} z hz=>(Same.new hb) _ _ (hk2 z hz)
  refine ⟨a,b,zs,ws,rfl,rfl,by rw [xa2 nab,xa0],xa0,nab,fun z hz=>sb _ _ _ _ (hk1 z hz),fun z hz=>kb z hz,tz,tw,by omega,fun c vs hc bth nd=>?_⟩
  have nac:a ≠ c:=by rintro rfl; rw [xa2 nab,xa0] at hc; cases hc
  have nbc:b ≠ c:=by rintro rfl; rw [xa0] at hc; cases hc
  have hc0:H c = none:=by rw [xa2 (Ne.symm nbc),xa2 (Ne.symm nac)] at hc; exact hc
  have sc:∀ o o' o'',Same H (upd (upd (upd H a o) b o') c o''):=fun o o' o''=>(sb o o').trans (Same.new (by rw [xa2 (Ne.symm nbc),xa2 (Ne.symm nac)]; exact hc0))
  have from1:∀ v ∈ vs,v ∈ zs \/ v ∈ ws:=fun v hv=>bth.from_ v hv
  have vk:∀ {o},∀ v ∈ vs,(upd (upd (upd H a (setO P w a zs)) b (setO P w b ws)) c o) v.2 = some (.tup (v.1.map kV)):=fun {o} v hv=>by
   rcases from1 v hv with q | q
   ·exact sc _ _ _ _ _ (hk1 v q)
   ·exact (Same.new hc) _ _ (kb v q)
  have tv:∀ v ∈ vs,xi5 v.1:=fun v hv=>(from1 v hv).elim (tz v) (tw v)
  have hvl:vs.length <= 1:=by
   have h1:(vs.map (·.1)).length <= (zs.map (·.1) ++ ws.map (·.1)).length:=LS.xx3 nd fun x hx=>by
    obtain ⟨v,hv,rfl⟩:=List.mem_map.mp hx
    rcases from1 v hv with q | q
    ·exact List.mem_append_left _ (List.mem_map.mpr ⟨v,q,rfl⟩)
    ·exact List.mem_append_right _ (List.mem_map.mpr ⟨v,q,rfl⟩)
   rw [List.length_append,List.length_map,List.length_map,List.length_map] at h1
   omega
  refine ⟨c,vs,rfl,xa0,fun v hv=>vk v hv,fun v hv=>tv v hv,by omega,fun l bs hl pb=>?_⟩
  have nal:a ≠ l:=by rintro rfl; rw [xa2 nac,xa2 nab,xa0] at hl; cases hl
  have nbl:b ≠ l:=by rintro rfl; rw [xa2 nbc,xa0] at hl; cases hl
  have ncl:c ≠ l:=by rintro rfl; rw [xa0] at hl; cases hl
  have hl0:H l = none:=by rw [xa2 (Ne.symm ncl),xa2 (Ne.symm nbl),xa2 (Ne.symm nal)] at hl; exact hl
  refine k l bs _ hl0 xa0 (by rw [pb.length_eq,List.length_map]; exact hvl) (fun y hy=>?_) ((sc _ _ _).trans (Same.new hl))
  obtain ⟨v,hv,rfl⟩:=List.mem_map.mp (pb.mem_iff.mp hy)
  exact ⟨v.1,tv v hv,(Same.new hl) _ _ (vk v hv)⟩
def spParts1 (A:Adr):Sp:=fun vs H Q _=>∃ (l p:Addr) (kvs k2:List (List Key × V)),vs = [.ref l] /\ H l = some (.lst [.ref p]) /\ xq2 A H p kvs k2 /\ One kvs k2 /\ ∀ H',Same H H' -> Q (.bl true) H'
theorem xz5 (T:Txt K mg A):FnOk P w K mg base CX0 3 A.ea1 A.eb1 ["thing"] (spParts1 A):=by
 have G_Part_told_slots:=xs3 (P:=P) (w:=w) (base:=base) T
 refine T.en1.ok xl1 (fun vs H Q E h=>?_) (fun cdv Ar outer s H vs Q E hr h=>?_)
 ·obtain ⟨l,p,kvs,k2,rfl,hl,hp,ht,k⟩:=h
  rfl
 ·obtain ⟨l,p,kvs,k2,rfl,hl,hp,ht,k⟩:=h
  refine ⟨_,(xa4 (xh1 (PW.pt (yg5 (xf8 (xf7 (xb0 (xf2 K) (by rfl) T.ev4 xb1 (xa1 (pv 0) (xa1 (xw4 (by rfl) T.ea5 xg2) xa5))))) (xv5 (xf8 (yu3 xw5 xw5 xa8 (xb0 (xi2 K) (by rfl) T.ee5 PySem.boot_len (xa1 (pv 0) xa5)) (xz2 (by rfl) T.ep5)))))) (xa6 (xc3 xs2)) xc7)
   (xa4 (xh1 (xf8 (xf7 (xb0 (xp4 K rfl) (by rfl) T.ef5 xt6 (xa1 (xh6 ["part"] [none] rfl (xb8 K (pv 0)) (fun _ _ _=>(xa9 (i:=0) xs5 rfl (Or.inl rfl))) (fun _ _ _=>(xb0 (xt4 K) (by rfl) T.ev4 xb1 (xa1 (pv 0) (xa1 (xq7 (v:=V.ref _) (by rfl) T.ef4 rfl) xa5))))) xa5)))) (xa6 (xc3 xs2)) xc7)
   (xa4 (xb6 (i:=1) xl1.nd rfl (Or.inl rfl) (xj7 xa5))
   (xa4 (xd0 PassesOwn.never rfl (xb8 K (pv 0)) (xa9 (i:=2) xl1.nd rfl (Or.inl rfl)) (xa6 (xh5 (yg9 PySem.F.plainAttrs_list PySem.F.slot_list_extend PySem.F.type_list_extend zh2 (pv 1) (xa1 (pe_meth0 (pv 2) T.ee4 T.em1 G_Part_told_slots (hr.mono (by decide)) T.el1 .nil xc9) xa5)))))
   (xa6 (xc3 (xu1 yz2 (xb0 (xi2 K) (by rfl) T.ee5 PySem.boot_len (xa1 (pv 1) xa5)) (xb0 zl5 (by rfl) T.ee5 PySem.boot_len (xa1 (xd6 (zl3 rfl hr.units) (by rfl) T.ec5 yj1 (xa1 (pv 1) xa5)) xa5)) (xi4 _)))))))),?_⟩
  refine ⟨_,rfl,_,_,_,true,rfl,.lst hl,zh9,true,rfl,iteF ?_⟩
  refine ⟨_,rfl,_,_,rfl,.inl (SqL.of hl),_,_,rfl,rfl,_,rfl,?_⟩
  refine iteT ⟨_,_,rfl,rfl,_,rfl,?_⟩
  refine iteF ?_
  refine ⟨_,rfl,l,rfl,⟨_,SqL.of hl⟩,fun D hD=>?_⟩
  refine yi9 (fun _=>.bl true) (fun σ=>σ.length = 1) (SqL.of hl) hD (by show 1 <= 1000; decide) rfl (fun v σ' G N hv ho sm q=>?_) fun G sm hDl=>?_
  ·obtain rfl:v = V.ref p:=by simpa using hv
   obtain ⟨dx,d1,d2,e,_,_⟩:=hp.keep sm
   match σ',ho with
   | [_],_=>exact ⟨_,rfl,_,_,_,true,rfl,T.el4 _ _ _ _ e,T.em4,q _ _ (Same.refl _) rfl⟩
  refine ⟨D,[true],rfl,SqL.of hDl,_,rfl,iteF ?_⟩
  refine ⟨by decide,fun S hS=>?_⟩
  have sS:Same H (upd G S (.lst [])):=sm.trans (Same.new hS)
  have nS:H S = none:=sm.free hS
  refine ⟨_,rfl,l,rfl,⟨_,SqL.of (sS _ _ hl)⟩,xf1 (xs:=[V.ref p]) (fun i σ' G'=>∃ (z:Option V) (bs:List Addr),σ' = [some (.ref l),some (.ref S),z] /\ Same H G' /\ G' S = some (.lst (bs.map V.ref)) /\ (i = 0 -> bs = []) /\ bs.length <= 1 /\ yc1 G' bs) ⟨none,[],rfl,sS,xa0,fun _=>rfl,Nat.zero_le _,fun b hb=>by simp at hb⟩ (fun i σ' G' _ hq=>?_) (fun i v σ' G' hv hq=>?_) fun σ' G' hq=>?_⟩
  ·obtain ⟨z,bs,_,s2,_⟩:=hq; exact SqL.of (s2 _ _ hl)
  ·obtain ⟨z,bs,rfl,s2,hS2,h0,_,_⟩:=hq
   have hi:i = 0:=by
    have:=(List.getElem?_eq_some_iff.mp hv).1
    simpa using this
   subst hi
   obtain rfl:=h0 rfl
   obtain rfl:V.ref p = v:=by simpa using hv
   have pk:=hp.keep s2
   obtain ⟨dx,d1,d2,e,e1,e2⟩:=id pk
   refine ⟨_,rfl,.inl ⟨rfl,_,SqL.of hS2⟩,_,rfl,p,dx,_,rfl,e,rfl,p,kvs,k2,rfl,pk,ht,fun b bs G2 hb hbl hb1 hsl s3=>?_⟩
   have tS:xp6 G2 (upd G2 S (.lst ([] ++ bs.map V.ref))):=fun c ys ec=>by
    rw [xa2 (xb9 ec (s3 _ _ hS2) (by intro z; cases z))]; exact ec
   refine ⟨S,b,[],bs.map V.ref,rfl,rfl,s3 _ _ hS2,hbl,xe5 (by rw [List.length_map]; simp; omega),⟨_,bs,rfl,(s2.trans s3).upd nS,xa0,fun z=>by simp at z,hb1,hsl.keep tS⟩⟩
  obtain ⟨z,bs,rfl,s2,hS2,_,hb1,hsl⟩:=hq
  obtain ⟨ks,hks,hka⟩:∃ ks:List (List Key × Addr),ks.map (·.2) = bs /\ ∀ z ∈ ks,xi5 z.1 /\ G' z.2 = some (.tup (z.1.map kV)):=by
   match bs,hb1,hsl with
   | [],_,_=>exact ⟨[],rfl,by simp⟩
   | [b],_,h =>
    obtain ⟨k,a,e⟩:=h b (by simp)
    refine ⟨[(k,b)],rfl,fun z hz=>?_⟩
    obtain rfl:z = (k,b):=by simpa using hz
    exact ⟨a,e⟩
  have hkl:ks.length = bs.length:=by rw [<- hks,List.length_map]
  have hSk:G' S = some (.lst (ks.map fun x=>V.ref x.2)):=by rw [hS2,<- hks,List.map_map]; rfl
  refine ⟨_,rfl,S,_,rfl,.inl (SqL.of hS2),_,rfl,S,ks,rfl,hSk,fun z hz=>(hka z hz).2,fun z hz=>(hka z hz).1,by omega,fun q zs hq fs nd=>?_⟩
  have hzl:zs.length = bs.length:=by
   match ks,hkl,fs with
   | [],hkl,fs =>
    have:zs = []:=by
     cases zs with
     | nil=>rfl
     | cons a b=>have:=fs.from_ a (by simp); simp at this
    rw [this,<- hkl]
   | [y],hkl,fs =>
    have h1:y.1 ∈ zs.map (·.1):=(fs.keys y.1).mpr (by simp)
    have h2:(zs.map (·.1)).length <= [y.1].length:=LS.xx3 nd fun x hx=>by
     have:=(fs.keys x).mp hx
     simpa using this
    have h3:0 < (zs.map (·.1)).length:=List.length_pos_of_mem h1
    rw [List.length_map] at h2 h3
    rw [<- hkl]
    simp at h2 ⊢
    omega
   | _ :: _ :: _,hkl,_=>simp at hkl; omega
  have kq:xo4 (upd G' q (setO P w q zs)) zs:=fun z hz=>(Same.new hq) _ _ (hka z (fs.from_ z hz)).2
  refine ⟨q,zs,rfl,xa0,kq,rfl,?_⟩
  rw [show decide (V.int ((bs.map V.ref).length:Nat) = V.int (zs.length:Nat)) = true from decide_eq_true (by rw [List.length_map,hzl])]
  exact k _ (s2.trans (Same.new hq))
structure Cu where
 n:Int
 k1:List (List Key × V)
 k2:List (List Key × V)
def cueF (n:Int) (L:Addr):List (Str × V):=[("number",.int n),("parts",.ref L),("stops",.bl false),("follow",.non)]
def CueU (A:Adr) (H:Hp) (c:Addr) (u:Cu):Prop:=∃ dx L p,H c = some (.ins A.ev2 dx (cueF u.n L)) /\ H L = some (.lst [.ref p]) /\ xq2 A H p u.k1 u.k2 /\ One u.k1 u.k2
theorem CueU.keep {A:Adr} {H H':Hp} {c:Addr} {u:Cu} (h:CueU A H c u) (s:Same H H'):CueU A H' c u:=by
 obtain ⟨dx,L,p,a,b,d,t⟩:=h
 exact ⟨dx,L,p,s _ _ a,s _ _ b,d.keep s,t⟩
def CueN (A:Adr) (H0 H:Hp) (c:Addr) (u:Cu):Prop:=∃ dx L p,H c = some (.ins A.ev2 dx (cueF u.n L)) /\ H L = some (.lst [.ref p]) /\ xq2 A H p u.k1 u.k2 /\ One u.k1 u.k2 /\ H0 L = none
def spCue1 (A:Adr):Sp:=fun vs H Q _=>∃ (x dx l p:Addr) (n:Int) (kvs k2:List (List Key × V)),vs = [.ref x,.int n,.ref l,.bl false,.non] /\ H x = some (.ins A.ev2 dx []) /\ 1 <= n /\ n <= 1000000000 /\ H l = some (.lst [.ref p]) /\ xq2 A H p kvs k2 /\ One kvs k2 /\
 ∀ H',CueN A H H' x ⟨n,kvs,k2⟩ -> (∀ b o,b ≠ x -> H b = some o -> H' b = some o) -> Q .non H'
theorem xz7 (T:Txt K mg A):FnOk P w K mg base CX0 4 A.ec1 A.ed1 ["self","number","parts","stops","follow"] (spCue1 A):=by
 have G_is_cue_number:=xw8 (P:=P) (w:=w) (base:=base) T
 have G_is_part_list:=xz5 (P:=P) (w:=w) (base:=base) T
 have G_is_time:=ye5 (P:=P) (w:=w) (base:=base) T
 refine T.eq1.ok yq4 (fun vs H Q E h=>?_) (fun cdv Ar outer s H vs Q E hr h=>?_)
 ·obtain ⟨x,dx,l,p,n,kvs,k2,rfl,hx,hn1,hn2,hl,hp,ht,k⟩:=h
  rfl
 ·obtain ⟨x,dx,l,p,n,kvs,k2,rfl,hx,hn1,hn2,hl,hp,ht,k⟩:=h
  refine ⟨_,(xa4 (xh1 (xf8 (xf7 (xb2 G_is_cue_number (hr.mono (by decide)) (by rfl) T.ea1 T.ey.kp T.ez .nil xc9 (xa1 (pv 1) xa5)))) (xa6 xl9) xc7)
   (xa4 (xh1 (xf8 (xf7 (xb2 G_is_part_list (hr.mono (by decide)) (by rfl) T.ep1 T.en1.kp T.eo1 .nil xc9 (xa1 (pv 2) xa5)))) (xa6 xl9) xc7)
   (xa4 (xh1 (PW.pt (ze5 (ye2 (pc_notN (pv 4))) (yq7 (xf8 (xf7 (xb2 G_is_time (hr.mono (by decide)) (by rfl) T.ef T.ed.kp T.ee .nil xc9 (xa1 (pv 4) xa5))))))) (xa6 xl9) xc7)
   (xa4 (xr7 (pv 0) (pv 1) rfl)
   (xa4 (xr7 (pv 0) (xd6 (yf5 K) (by rfl) T.ea5 xg2 (xa1 (pv 2) xa5)) rfl)
   (xa4 (xr7 (pv 0) (pv 3) rfl)
   (xa6 (xr7 (pv 0) (pv 4) rfl)))))))),?_⟩
  refine ⟨_,rfl,n,rfl,hn1,hn2,_,rfl,iteF ?_⟩
  refine ⟨_,rfl,l,p,kvs,k2,rfl,hl,hp,ht,fun H1 s1=>⟨_,rfl,iteF ?_⟩⟩
  refine ⟨_,rfl,_,rfl,iteF (iteF ?_)⟩
  have x1:=s1 _ _ hx
  have l1:=s1 _ _ hl
  have nlx:l ≠ x:=xb9 l1 x1 (by intro z; cases z)
  refine ⟨_,rfl,_,rfl,x,A.ev2,dx,_,rfl,x1,T.en4,T.ep4,(by show 0 < 1000; decide),?_⟩
  refine ⟨_,rfl,l,_,rfl,SqL.of (by rw [xa2 nlx]; exact l1),fun L hL=>?_⟩
  have nLx:x ≠ L:=by rintro rfl; rw [xa0] at hL; cases hL
  have hL1:H1 L = none:=by rw [xa2 (Ne.symm nLx)] at hL; exact hL
  refine ⟨_,rfl,x,A.ev2,dx,_,rfl,by rw [xa2 nLx,xa0],T.en4,T.eq4,(by show 1 < 1000; decide),?_⟩
  refine ⟨_,rfl,_,rfl,x,A.ev2,dx,_,rfl,xa0,T.en4,T.er4,(by show 2 < 1000; decide),?_⟩
  refine ⟨_,rfl,_,rfl,x,A.ev2,dx,_,rfl,xa0,T.en4,T.es4,(by show 3 < 1000; decide),?_⟩
  have kp:∀ b o,b ≠ x -> H b = some o -> (upd (upd (upd (upd (upd H1 x (.ins A.ev2 dx (putF "number" (.int n) []))) L (.lst [.ref p])) x (.ins A.ev2 dx (putF "parts" (.ref L) (putF "number" (.int n) [])))) x (.ins A.ev2 dx (putF "stops" (.bl false) (putF "parts" (.ref L) (putF "number" (.int n) []))))) x (.ins A.ev2 dx (putF "follow" .non (putF "stops" (.bl false) (putF "parts" (.ref L) (putF "number" (.int n) [])))))) b = some o:=fun b o hb e=>by
   rw [xa2 hb,xa2 hb,xa2 hb,xa2 (xa3 (s1 _ _ e) hL1),xa2 hb]
   exact s1 _ _ e
  refine k _ ⟨dx,L,p,xa0,?_,?_,ht,s1.free hL1⟩ kp
  ·rw [xa2 (Ne.symm nLx),xa2 (Ne.symm nLx),xa2 (Ne.symm nLx),xa0]
  ·obtain ⟨dp,d1,d2,e,e1,e2⟩:=hp
   have np:∀ {q o},H q = some o -> o ≠ .ins A.ev2 dx [] -> q ≠ x:=fun a b z=>by rw [z,hx] at a; exact b (Option.some.inj a).symm
   exact ⟨dp,d1,d2,kp _ _ (np e (fun z=>by have:=congrArg (fun o=>match o with | HO.ins _ _ fs=>fs.length | _=>0) z; simp [partF] at this)) e,kp _ _ (np e1 (by intro z; cases z)) e1,kp _ _ (np e2 (by intro z; cases z)) e2⟩
def xt8 (A:Adr) (H:Hp) (cs:List Addr) (us:List Cu):Prop:=Paired (fun c (u:Cu)=>CueU A H c u) cs us
theorem xt8.keep {A:Adr} {H H':Hp} {cs:List Addr} {us:List Cu} (h:xt8 A H cs us) (s:Same H H'):xt8 A H' cs us:=Paired.mapP h fun _ _ q=>q.keep s
theorem xu2 {α β:Type} {F:α -> β -> Prop}:∀ {as:List α} {bs:List β},Paired F as bs -> ∀ {a},a ∈ as -> ∃ b,b ∈ bs /\ F a b
 | _,_,.nil,_,h=>by simp at h
 | _,_,.cons q t,a,h=>by
  rcases List.mem_cons.mp h with e | h
  ·subst e; exact ⟨_,List.mem_cons_self,q⟩
  ·obtain ⟨b,hb,f⟩:=xu2 t h
   exact ⟨b,List.mem_cons_of_mem _ hb,f⟩
theorem paired_at {α β:Type} {F:α -> β -> Prop}:∀ {as:List α} {bs:List β},Paired F as bs -> ∀ {i:Nat} {a:α},as[i]? = some a -> ∃ b,bs[i]? = some b /\ F a b
 | _,_,.nil,_,_,h=>by simp at h
 | _,_,.cons q t,0,a,h=>by simp only [List.getElem?_cons_zero,Option.some.injEq] at h; subst h; exact ⟨_,rfl,q⟩
 | _,_,.cons q t,i + 1,a,h=>by simp only [List.getElem?_cons_succ] at h ⊢; exact paired_at t h
def xo3 (us:List Cu):Prop:=us.Pairwise fun a b=>a.n < b.n
def spList0 (A:Adr):Sp:=fun vs H Q _=>∃ (l:Addr) (cs:List Addr) (us:List Cu),vs = [.ref l] /\ H l = some (.lst (cs.map V.ref)) /\ cs.length <= 900 /\ xt8 A H cs us /\ xo3 us /\ ∀ m H',H m = none -> H' m = some (.lst (cs.map V.ref)) -> Same H H' -> Q (.ref m) H'
theorem xz6 (T:Txt K mg A):FnOk P w K mg base CX0 1 A.eg1 A.eh1 ["cues"] (spList0 A):=by
 refine T.ew1.ok xy3 (fun vs H Q E h=>?_) (fun cdv Ar outer s H vs Q E hr h=>?_)
 ·obtain ⟨l,cs,us,rfl,hl,hz,hc,hri,k⟩:=h
  rfl
 ·obtain ⟨l,cs,us,rfl,hl,hz,hc,hri,k⟩:=h
  refine ⟨_,(xa4 (xh1 (PW.pt (yg5 (xf8 (xf7 (xb0 (xf2 K) (by rfl) T.ev4 xb1 (xa1 (pv 0) (xa1 (xw4 (by rfl) T.ea5 xg2) xa5))))) (xv5 (xf8 (xf7 (xb0 (xp4 K rfl) (by rfl) T.ef5 xt6 (xa1 (xh6 ["cue"] [none] rfl (xb8 K (pv 0)) (fun _ _ _=>(xa9 (i:=0) yd1 rfl (Or.inl rfl))) (fun _ _ _=>(xb0 (xt4 K) (by rfl) T.ev4 xb1 (xa1 (pv 0) (xa1 (xq7 (v:=V.ref _) (by rfl) T.eo4 rfl) xa5))))) xa5))))))) (xa6 xl9) xc7)
   (xa4 (xd0 PassesOwn.never rfl (xy9 (by rfl) T.eh5 (xa1 xa8 (xa1 (xb0 (xi2 K) (by rfl) T.ee5 PySem.boot_len (xa1 (pv 0) xa5)) xa5))) (xa9 (i:=1) xy3.nd rfl (Or.inl rfl)) (xa6 (xh1 (xh0 xw5 (xb7 K (xi3 (xc1 K) (pv 0) (pv 1) (fun _ _=>rfl))) (xb7 K (xi3 (xc1 K) (pv 0) (xc4 xv6 (pv 1) xa8) (fun _ _=>rfl))) (xi4 _)) (xa6 xl9) xc7)))
   (xa6 (xc3 (xd6 (yf5 K) (by rfl) T.ea5 xg2 (xa1 (pv 0) xa5)))))),?_⟩
  refine ⟨_,rfl,_,_,_,true,rfl,.lst hl,zh9,true,rfl,iteF ?_⟩
  refine ⟨_,rfl,l,rfl,⟨_,SqL.of hl⟩,fun D hD=>?_⟩
  refine yi9 (fun _=>.bl true) (fun σ=>σ.length = 1) (SqL.of hl) hD (by rw [List.length_map]; omega) rfl (fun v σ' G N hv ho sm q=>?_) fun G sm hDl=>?_
  ·obtain ⟨c,hcm,rfl⟩:=List.mem_map.mp hv
   obtain ⟨u,_,dx,L,ps,e,_⟩:=xu2 (hc.keep sm) hcm
   match σ',ho with
   | [_],_=>exact ⟨_,rfl,_,_,_,true,rfl,T.et4 _ _ _ _ e,T.eu4,q _ _ (Same.refl _) rfl⟩
  refine ⟨D,cs.map (fun _=>true),rfl,SqL.of (by rw [hDl,List.map_map,List.map_map]; rfl),_,rfl,?_⟩
  rw [show (cs.map fun _=>true).all id = true by simp]
  refine iteF ?_
  have lG:=sm _ _ hl
  have ln:(cs.map V.ref).length = cs.length:=List.length_map _
  refine ⟨_,rfl,l,_,rfl,.inl (SqL.of lG),1,_,rfl,⟨by decide,by decide,by rw [ln]; omega,by rw [ln]; omega⟩,?_⟩
  refine xl2 (fun _ σ' G'=>∃ z:Option V,σ' = [some (.ref l),z] /\ G' = G) ⟨none,rfl,rfl⟩ (fun i σ' G' hi hq=>?_) fun σ' G' hq=>?_
  ·obtain ⟨z,rfl,rfl⟩:=hq
   rw [ln] at hi
   have i1:i + 1 < cs.length:=by omega
   have g1:cs[i + 1]? = some cs[i + 1]:=List.getElem?_eq_getElem i1
   have g0:cs[i]? = some cs[i]:=List.getElem?_eq_getElem (by omega)
   obtain ⟨u1,v1,dx1,L1,ps1,e1,_⟩:=paired_at (hc.keep sm) g1
   obtain ⟨u0,v0,dx0,L0,ps0,e0,_⟩:=paired_at (hc.keep sm) g0
   have lt:u0.n < u1.n:=by
    have:=List.pairwise_iff_getElem.mp hri i (i + 1) (List.getElem?_eq_some_iff.mp v0).1 (List.getElem?_eq_some_iff.mp v1).1 (by omega)
    rw [(List.getElem?_eq_some_iff.mp v0).2,(List.getElem?_eq_some_iff.mp v1).2] at this
    exact this
   have a1:atI (cs.map V.ref) (1 + (i:Int)) = some (.ref cs[i + 1]):=by
    rw [show (1 + (i:Int)) = ((i + 1:Nat):Int) from by omega]
    exact xe6 (by rw [List.getElem?_map,g1]; rfl)
   have a0:atI (cs.map V.ref) (1 + (i:Int) - 1) = some (.ref cs[i]):=by
    rw [show (1 + (i:Int) - 1) = ((i:Nat):Int) from by omega]
    exact xe6 (by rw [List.getElem?_map,g0]; rfl)
   refine ⟨_,rfl,_,rfl,l,_,_,_,rfl,rfl,SqL.of lG,a1,cs[i + 1],A.ev2,dx1,_,_,rfl,e1,T.en4,T.ep4,rfl,?_⟩
   refine ⟨_,rfl,_,rfl,_,_,rfl,rfl,l,_,_,_,rfl,rfl,SqL.of lG,a0,cs[i],A.ev2,dx0,_,_,rfl,e0,T.en4,T.ep4,rfl,?_⟩
   refine ⟨_,_,rfl,rfl,_,rfl,?_⟩
   rw [show decide (u1.n <= u0.n) = false from decide_eq_false (by omega)]
   exact iteF ⟨_,rfl,rfl⟩
  obtain ⟨z,rfl,rfl⟩:=hq
  refine ⟨_,rfl,l,_,rfl,SqL.of lG,fun m hm=>?_⟩
  have hm0:H m = none:=sm.free hm
  exact k m _ hm0 xa0 (sm.trans (Same.new hm))
def gr:List Int -> List Int -> Nat
 | _,[]=>0
 | S,w :: ws=>if w ∈ S then gr [w] ws else gr (w :: S) ws + 1
theorem yi6 {S ws:List Int} {w:Int} (h:w ∈ S):gr S (w :: ws) = gr [w] ws:=by show (if w ∈ S then _ else _) = _; rw [if_pos h]
theorem xv9 {S ws:List Int} {w:Int} (h:w ∉ S):gr S (w :: ws) = gr (w :: S) ws + 1:=by show (if w ∈ S then _ else _) = _; rw [if_neg h]
theorem yi7:∀ (ws S T:List Int),((∀ x ∈ T,x ∈ S) -> gr S ws <= gr T ws) /\ gr S ws <= gr T ws + 1
 | [],S,T=>⟨fun _=>Nat.le_refl _,Nat.zero_le _⟩
 | w :: ws,S,T=>by
  by_cases hs:w ∈ S <;> by_cases ht:w ∈ T
  ·rw [yi6 hs,yi6 ht]; exact ⟨fun _=>Nat.le_refl _,Nat.le_succ _⟩
  ·rw [yi6 hs,xv9 ht]
   have:=(yi7 ws [w] (w :: T)).2
   exact ⟨fun _=>this,by omega⟩
  ·rw [xv9 hs,yi6 ht]
   have:=(yi7 ws (w :: S) [w]).1 (by simp)
   exact ⟨fun h=>absurd (h w ht) hs,by omega⟩
  ·rw [xv9 hs,xv9 ht]
   have h1:=yi7 ws (w :: S) (w :: T)
   refine ⟨fun h=>?_,by have:=h1.2; omega⟩
   have:=h1.1 fun x hx=>by
    rcases List.mem_cons.mp hx with rfl | hx
    ·exact List.mem_cons_self
    ·exact List.mem_cons_of_mem _ (h x hx)
   omega
theorem mem_putK {κ:Type} [DecidableEq κ] {B:List (κ × V)} {k:κ} {v:V} {kv:κ × V} (h:kv ∈ putK B k v):kv = (k,v) \/ kv ∈ B /\ kv.1 ≠ k:=by
 unfold putK at h
 by_cases a:(B.any fun kv=>decide (kv.1 = k)) = true
 ·rw [if_pos a] at h
  obtain ⟨x,hx,e⟩:=List.mem_map.mp h
  by_cases c:x.1 = k
  ·rw [if_pos c] at e; rw [<- e,c]; exact .inl rfl
  ·rw [if_neg c] at e; subst e; exact .inr ⟨hx,c⟩
 ·rw [if_neg a] at h
  rcases List.mem_append.mp h with h | h
  ·exact .inr ⟨h,fun c=>a (List.any_eq_true.mpr ⟨kv,h,decide_eq_true c⟩)⟩
  ·exact .inl (by simpa using h)
theorem xn4 {κ:Type} [DecidableEq κ]:∀ {B:List (κ × V)} {k:κ} {v:V},valV B k = some v -> (k,v) ∈ B
 | [],_,_,h=>by cases h
 | p :: r,k,v,h=>by
  by_cases c:p.1 = k
  ·rw [xd8 c] at h; cases h; rw [<- c]; exact List.mem_cons_self
  ·rw [xg3 c] at h; exact List.mem_cons_of_mem _ (xn4 h)
def Ints (B:List (Key × V)):Prop:=∀ kv ∈ B,∃ k c:Int,kv = (Sum.inl k,.int c) /\ valV B (Sum.inl k) = some (.int c)
theorem Ints.put {B:List (Key × V)} (h:Ints B) (k c:Int):Ints (putK B (Sum.inl k) (.int c)):=fun kv hm=>by
 rcases mem_putK hm with rfl | ⟨h1,h2⟩
 ·exact ⟨k,c,rfl,by rw [xj0,if_pos rfl]⟩
 ·obtain ⟨j,d,rfl,e⟩:=h kv h1
  exact ⟨j,d,rfl,by rw [xj0,if_neg h2]; exact e⟩
theorem Ints.val {B:List (Key × V)} (h:Ints B) {k:Int} {v:V} (e:valV B (Sum.inl k) = some v):∃ c,v = .int c:=by
 obtain ⟨j,c,e1,_⟩:=h _ (xn4 e)
 exact ⟨c,(Prod.mk.inj e1).2⟩
structure Dp (kvs:List (Key × V)) (L:Nat) (S:List Int):Prop where
 isI:Ints kvs
 le:∀ k c,valV kvs (Sum.inl k) = some (.int c) -> (L:Int) <= c /\ (c = L -> k ∈ S)
 at_:∀ k ∈ S,valV kvs (Sum.inl k) = some (.int (L:Nat))
 ne:S ≠ []
theorem Dp.zero:Dp [(Sum.inl 0,.int 0)] 0 [0] where
 isI:=fun kv h=>by
  obtain rfl:kv = (Sum.inl 0,V.int 0):=by simpa using h
  exact ⟨0,0,rfl,xd8 rfl⟩
 le:=fun k c h=>by
  have:=xn4 h
  simp only [List.mem_singleton,Prod.mk.injEq,Sum.inl.injEq,V.int.injEq] at this
  obtain ⟨rfl,rfl⟩:=this
  exact ⟨Int.le_refl _,fun _=>by simp⟩
 at_:=fun k h=>by
  obtain rfl:k = 0:=by simpa using h
  exact xd8 rfl
 ne:=by simp
theorem Dp.mins {kvs:List (Key × V)} {L:Nat} {S:List Int} (h:Dp kvs L S):∃ ns:List Int,kvs.map (·.2) = ns.map V.int /\ ns ≠ [] /\ ∀ M ∈ ns,(∀ a ∈ ns,M <= a) -> M = (L:Nat):=by
 refine ⟨kvs.map fun kv=>(match kv.2 with | .int c=>c | _=>0),?_,?_,fun M hM hle=>?_⟩
 ·rw [List.map_map]
  refine List.map_congr_left fun kv hk=>?_
  obtain ⟨k,c,rfl,_⟩:=h.isI kv hk
  rfl
 ·intro e
  have:kvs = []:=by simpa using e
  obtain ⟨k,hk⟩:=List.exists_mem_of_ne_nil _ h.ne
  have:=h.at_ k hk
  simp_all [yf9]
 ·obtain ⟨kv,hk,rfl⟩:=List.mem_map.mp hM
  obtain ⟨k,c,rfl,e⟩:=h.isI kv hk
  have h1:=(h.le k c e).1
  obtain ⟨j,hj⟩:=List.exists_mem_of_ne_nil _ h.ne
  have h2:=hle _ (List.mem_map.mpr ⟨_,xn4 (h.at_ j hj),rfl⟩)
  simp only at h2 ⊢
  omega
structure Bh (kvs:List (Key × V)) (w:Int) (i:Nat) (B:List (Key × V)):Prop where
 isI:Ints B
 from_:∀ k c,valV B (Sum.inl k) = some (.int c) -> ∃ c0,valV kvs (Sum.inl k) = some (.int c0) /\ c = if k = w then c0 else c0 + 1
 all:∀ j,j < i -> ∀ k c0,kvs[j]? = some (Sum.inl k,.int c0) -> valV B (Sum.inl k) = some (.int (if k = w then c0 else c0 + 1))
 len:B.length <= i
theorem Bh.zero {kvs:List (Key × V)} {w:Int}:Bh kvs w 0 []:=⟨fun kv h=>(by simp at h),fun k c h=>(by cases h),fun j h=>absurd h (Nat.not_lt_zero _),Nat.le_refl _⟩
theorem Bh.step {kvs:List (Key × V)} {w:Int} {i:Nat} {B:List (Key × V)} (h:Bh kvs w i B) (hi:Ints kvs) {k c0:Int} (e:kvs[i]? = some (Sum.inl k,.int c0)):Bh kvs w (i + 1) (putK B (Sum.inl k) (.int (if k = w then c0 else c0 + 1))):=by
 have ev:valV kvs (Sum.inl k) = some (.int c0):=by
  obtain ⟨j,c,e1,e2⟩:=hi _ (List.mem_of_getElem? e)
  obtain ⟨a,b⟩:=Prod.mk.inj e1
  cases a; cases b; exact e2
 refine ⟨h.isI.put _ _,fun j c hc=>?_,fun j hj k' c' e'=>?_,Nat.le_trans (xg0 _ _ _) (Nat.succ_le_succ h.len)⟩
 ·rw [xj0] at hc
  by_cases q:(Sum.inl j:Key) = Sum.inl k
  ·rw [if_pos q] at hc
   cases q; cases hc
   exact ⟨c0,ev,rfl⟩
  ·rw [if_neg q] at hc; exact h.from_ j c hc
 ·rw [xj0]
  by_cases q:(Sum.inl k':Key) = Sum.inl k
  ·cases q
   rw [if_pos rfl]
   obtain ⟨j',c'',e1,e2⟩:=hi _ (List.mem_of_getElem? e')
   obtain ⟨a,b⟩:=Prod.mk.inj e1
   cases a; cases b
   rw [ev] at e2; cases e2; rfl
  ·rw [if_neg q]
   rcases Nat.lt_succ_iff_lt_or_eq.mp hj with hj | rfl
   ·exact h.all j hj k' c' e'
   ·rw [e] at e'; cases e'; exact absurd rfl q
def zg5 (L:Nat) (S:List Int) (w:Int):Nat:=if w ∈ S then L else L + 1
def xq9 (S:List Int) (w:Int):List Int:=if w ∈ S then [w] else w :: S
theorem Bh.done {kvs:List (Key × V)} {w:Int} {B:List (Key × V)} {L:Nat} {S:List Int} {x:Int} (h:Bh kvs w kvs.length B) (D:Dp kvs L S) (hx:(valV B (Sum.inl w) = none /\ x = (L:Int) + 1) \/ ∃ c:Int,valV B (Sum.inl w) = some (.int c) /\ x = if (L:Int) + 1 < c then (L:Int) + 1 else c) :
  Dp (putK B (Sum.inl w) (.int x)) (zg5 L S w) (xq9 S w):=by
 have tr:∀ k c0,valV kvs (Sum.inl k) = some (.int c0) -> valV B (Sum.inl k) = some (.int (if k = w then c0 else c0 + 1)):=fun k c0 e=>by
  obtain ⟨j,hj,ej⟩:=List.getElem_of_mem (xn4 e)
  exact h.all j hj k c0 (by rw [List.getElem?_eq_getElem hj,ej])
 unfold zg5 xq9
 by_cases hw:w ∈ S
 ·rw [if_pos hw,if_pos hw]
  have e1:=tr w _ (D.at_ w hw)
  rw [if_pos rfl] at e1
  have ex:x = (L:Nat):=by
   rcases hx with ⟨q,_⟩ | ⟨c,q,r⟩
   ·rw [e1] at q; cases q
   ·rw [e1] at q; cases q
    rw [r,if_neg (by omega)]
  subst ex
  refine ⟨h.isI.put _ _,fun k c e=>?_,fun k hk=>?_,by simp⟩
  ·rw [xj0] at e
   by_cases q:(Sum.inl k:Key) = Sum.inl w
   ·cases q; rw [if_pos rfl] at e; cases e; exact ⟨Int.le_refl _,fun _=>by simp⟩
   ·rw [if_neg q] at e
    obtain ⟨c0,f1,f2⟩:=h.from_ k c e
    rw [if_neg (fun z=>q (by rw [z]))] at f2
    have:=(D.le k c0 f1).1
    exact ⟨by omega,fun z=>by omega⟩
  ·obtain rfl:k = w:=by simpa using hk
   rw [xj0,if_pos rfl]
 ·rw [if_neg hw,if_neg hw]
  have ex:x = ((L + 1:Nat):Int):=by
   rcases hx with ⟨q,r⟩ | ⟨c,q,r⟩
   ·rw [r]; rfl
   ·obtain ⟨c0,f1,f2⟩:=h.from_ w c q
    rw [if_pos rfl] at f2
    subst f2
    have h1:=D.le w c f1
    have h2:c ≠ (L:Int):=fun z=>hw (h1.2 z)
    have h3:=h1.1
    rw [r]
    by_cases z:(L:Int) + 1 < c
    ·rw [if_pos z]; rfl
    ·rw [if_neg z]; omega
  subst ex
  refine ⟨h.isI.put _ _,fun k c e=>?_,fun k hk=>?_,by simp⟩
  ·rw [xj0] at e
   by_cases q:(Sum.inl k:Key) = Sum.inl w
   ·cases q; rw [if_pos rfl] at e; cases e; exact ⟨Int.le_refl _,fun _=>by simp⟩
   ·rw [if_neg q] at e
    obtain ⟨c0,f1,f2⟩:=h.from_ k c e
    rw [if_neg (fun z=>q (by rw [z]))] at f2
    have:=D.le k c0 f1
    exact ⟨by omega,fun z=>List.mem_cons_of_mem _ (this.2 (by omega))⟩
  ·rw [xj0]
   by_cases q:(Sum.inl k:Key) = Sum.inl w
   ·rw [if_pos q]
   ·rw [if_neg q]
    have hk':k ∈ S:=by
     rcases List.mem_cons.mp hk with rfl | hk
     ·exact absurd rfl q
     ·exact hk
    have:=tr k _ (D.at_ k hk')
    rw [if_neg (fun z=>q (by rw [z]))] at this
    rw [this]; rfl
theorem gr_next {S ws:List Int} {w:Int} (L:Nat):zg5 L S w + gr (xq9 S w) ws = L + gr S (w :: ws):=by
 unfold zg5 xq9
 by_cases h:w ∈ S
 ·rw [if_pos h,if_pos h,yi6 h]
 ·rw [if_neg h,if_neg h,xv9 h]; omega
def spLeast:Sp:=fun vs H Q _=>∃ (l:Addr) (ws:List Int),vs = [.ref l] /\ H l = some (.lst (ws.map V.int)) /\ ws.length <= 900 /\ ∀ H',Same H H' -> Q (.int (gr [0] ws:Nat)) H'
theorem ym3 (T:Txt K mg A):FnOk P w K mg base CX0 1 A.ek1 A.el1 ["_law_worths_here"] (spLeast):=by
 refine T.ec2.ok xe9 (fun vs H Q E h=>?_) (fun cdv Ar outer s H vs Q E hr h=>?_)
 ·obtain ⟨l,ws,rfl,hl,hz,k⟩:=h
  rfl
 ·obtain ⟨l,ws,rfl,hl,hz,k⟩:=h
  refine ⟨_,(xa4 (xb6 (i:=1) xe9.nd rfl (Or.inl rfl) (xz3 (xr8 xa8 xa8 xy8) rfl rfl (by simp) (by decide)))
   (xa4 (xd0 PassesOwn.never rfl (xb8 K (pv 0)) (xa9 (i:=2) xe9.nd rfl (Or.inl rfl)) (xa4 (xb6 (i:=3) xe9.nd rfl (Or.inl rfl) yu6)
   (xa4 (xb6 (i:=4) xe9.nd rfl (Or.inl rfl) (yu5 (xb0 (yo6 K rfl) (by rfl) T.eg5 yj2 (xa1 (xd6 (xn2 rfl) (by rfl) T.ea5 xg2 (xa1 (xm7 (pv 1)) xa5)) xa5))))
   (xa4 (ps_holdV (xd0 PassesOwn.never rfl (xx1 (xs0 (pv 1))) (xo9 (n:=2) K rfl (xe1 (xa9 (i:=5) xe9.nd rfl (Or.inl rfl)) (xe1 (xa9 (i:=6) xe9.nd rfl (Or.inl rfl)) xo8))) (xa6 (xh1 (xh0 yz2 (pv 5) (pv 2) (xi4 _)) (xa6 (xl8 (hu1 hr) (pv 3) (pv 5) (pv 6) rfl)) (xa6 (xl8 (hu1 hr) (pv 3) (pv 5) (xc4 xf9 (pv 6) xa8) rfl))))))
   (xa4 (xl8 (hu1 hr) (pv 3) (pv 2) (xb0 (zl4 rfl) (by rfl) T.eg5 yj2 (xa1 (pe_dget2 (hu1 hr) (pv 3) (pv 2) (xc4 xf9 (pv 4) xa8) ⟨rfl,rfl,rfl,rfl⟩) (xa1 (xc4 xf9 (pv 4) xa8) xa5))) rfl)
   (xa6 (xb6 (i:=1) xe9.nd rfl (Or.inl rfl) (pv 3))))))))
   (xa6 (xc3 (yu5 (xb0 (yo6 K rfl) (by rfl) T.eg5 yj2 (xa1 (xd6 (xn2 rfl) (by rfl) T.ea5 xg2 (xa1 (xm7 (pv 1)) xa5)) xa5))))))),?_⟩
  intro p hp
  refine ⟨xa0,[(Sum.inl 0,.int 0)],rfl,by decide,?_⟩
  have hp1:(upd (upd H p (.dK [])) p (.dK (ya1 [] [(Sum.inl 0,V.int 0)]))) p = some (.dK [(Sum.inl 0,.int 0)]):=xa0
  have s0:Same H (upd (upd H p (.dK [])) p (.dK (ya1 [] [(Sum.inl 0,V.int 0)]))):=((Same.refl H).upd hp).upd hp
  refine ⟨_,rfl,l,rfl,⟨_,SqL.of (s0 _ _ hl)⟩,xf1 (xs:=ws.map V.int) (fun i σ' G=>∃ (d:Addr) (kvs:List (Key × V)) (L:Nat) (S:List Int) (v2 v3 v4 v5 v6:Option V),σ' = [some (.ref l),some (.ref d),v2,v3,v4,v5,v6] /\ Same H G /\ H d = none /\ G d = some (.dK kvs) /\ Dp kvs L S /\ kvs.length <= i + 1 /\ L + gr S (ws.drop i) = gr [0] ws) ⟨p,_,0,[0],none,none,none,none,none,rfl,s0,hp,hp1,Dp.zero,Nat.le_refl _,by simp⟩ (fun i σ' G _ hq=>?_) (fun i v σ' G hv hq=>?_) fun σ' G hq=>?_⟩
  ·obtain ⟨_,_,_,_,_,_,_,_,_,_,sm,_⟩:=hq; exact SqL.of (sm _ _ hl)
  ·obtain ⟨d,kvs,L,S,v2,v3,v4,v5,v6,rfl,sm,hd,gd,D,hlen,hgr⟩:=hq
   rw [List.getElem?_map] at hv
   obtain ⟨w,hw,rfl⟩:=Option.map_eq_some_iff.mp hv
   have hi:i < ws.length:=(List.getElem?_eq_some_iff.mp hw).1
   obtain ⟨ns,en,nn,hmin⟩:=D.mins
   refine xb5 (fun σ' G'=>∃ b:Addr,σ' = [some (.ref l),some (.ref d),some (.int w),some (.ref b),v4,v5,v6] /\ Same H G' /\ H b = none /\ b ≠ d /\ G' d = some (.dK kvs) /\ G' b = some (.dK [])) (fun N hN=>?_) ?_
   ·intro b hb
    have nb:b ≠ d:=Ne.symm (xa3 gd hb)
    exact hN _ _ ⟨b,rfl,sm.trans (Same.new hb),sm.free hb,nb,by rw [xa2 (Ne.symm nb)]; exact gd,xa0⟩
   rintro σ1 G1 ⟨b,rfl,sm1,hb,nb,gd1,gb1⟩
   refine xb5 (fun σ' G'=>σ' = [some (.ref l),some (.ref d),some (.int w),some (.ref b),some (.int (L:Nat)),v5,v6] /\ Same H G' /\ G' d = some (.dK kvs) /\ G' b = some (.dK [])) (fun N hN=>?_) ?_
   ·refine ⟨d,kvs,gd1,fun o es ep DD=>?_⟩
    refine ⟨_,rfl,d,o,es,ep,rfl,xa0,DD.sys,DD.ex,DD.data,fun p2 hp2=>?_⟩
    have n1:d ≠ p2:=by rintro rfl; rw [xa0] at hp2; cases hp2
    have h2:G1 p2 = none:=by rw [xa2 (Ne.symm n1)] at hp2; exact hp2
    refine ⟨p2,d,o,es,ep,_,rfl,xa0,by rw [xa2 n1]; exact xa0,DD.ex,DD.data,DD.vals,by rw [List.length_map]; omega,fun q hq=>?_⟩
    have n2:d ≠ q:=by rintro rfl; rw [xa2 n1,xa0] at hq; cases hq
    have n3:p2 ≠ q:=by rintro rfl; rw [xa0] at hq; cases hq
    have h3:G1 q = none:=by rw [xa2 (Ne.symm n3),xa2 (Ne.symm n2)] at hq; exact hq
    refine ⟨q,ns,rfl,SqL.of (by rw [xa0,en]),nn,fun M hM hle=>⟨by rw [xa2 n2,xa2 n1]; exact xa0,?_⟩⟩
    obtain rfl:=hmin M hM hle
    refine hN _ _ ⟨rfl,fun x ob e=>?_,xa0,?_⟩
    ·have xd:x ≠ d:=xa3 e hd
     have e1:=sm1 _ _ e
     rw [xa2 xd,xa2 (xa3 e1 h3),xa2 (xa3 e1 h2),xa2 xd]; exact e1
    ·rw [xa2 nb,xa2 (xa3 gb1 h3),xa2 (xa3 gb1 h2),xa2 nb]; exact gb1
   rintro σ2 G2 ⟨rfl,sm2,gd2,gb2⟩
   clear gd1 gb1 sm1
   refine xb5 (fun σ' G'=>∃ (B:List (Key × V)) (v5 v6:Option V),σ' = [some (.ref l),some (.ref d),some (.int w),some (.ref b),some (.int (L:Nat)),v5,v6] /\ Same H G' /\ G' b = some (.dK B) /\ Bh kvs w kvs.length B) (fun N hN=>?_) ?_
   ·refine ⟨d,kvs,gd2,fun o es ep DD=>?_⟩
    refine ⟨_,rfl,d,o,es,ep,rfl,xa0,DD.sys,DD.ex,DD.data,fun p2 hp2=>?_⟩
    have n1:d ≠ p2:=by rintro rfl; rw [xa0] at hp2; cases hp2
    have h2:G2 p2 = none:=by rw [xa2 (Ne.symm n1)] at hp2; exact hp2
    refine ⟨p2,d,o,_,_,es,ep,rfl,xa0,by rw [xa2 n1]; exact xa0,DD.ex,DD.data,DD.keys,DD.vals,?_⟩
    refine xt1 (fun j σ' G'=>∃ (B:List (Key × V)) (v5 v6:Option V),σ' = [some (.ref l),some (.ref d),some (.int w),some (.ref b),some (.int (L:Nat)),v5,v6] /\ G' d = some (held d o) /\ G' b = some (.dK B) /\ Bh kvs w j B /\ Same H G') ⟨[],_,_,rfl,by rw [xa2 n1]; exact xa0,by rw [xa2 (xa3 gb2 h2),xa2 nb]; exact gb2,Bh.zero,fun x ob e=>?_⟩ (fun j σ' G' _ hq=>?_) (fun j kk v q σ' G' hki hvi hq hqn=>?_) fun σ' G' hq=>?_
    ·have e1:=sm2 _ _ e
     rw [xa2 (xa3 e1 h2),xa2 (xa3 e hd)]; exact e1
    ·obtain ⟨_,_,_,_,h,_⟩:=hq; exact h
    ·obtain ⟨B,v5,v6,rfl,g1,g2,hB,sm3⟩:=hq
     rw [List.getElem?_map] at hki hvi
     obtain ⟨kv,hkv,rfl⟩:=Option.map_eq_some_iff.mp hki
     rw [hkv] at hvi
     obtain rfl:=Option.some.inj hvi
     obtain ⟨k1,c0,rfl,_⟩:=D.isI kv (List.mem_of_getElem? hkv)
     have hj:j < kvs.length:=(List.getElem?_eq_some_iff.mp hkv).1
     have bq:b ≠ q:=xa3 g2 hqn
     have dq:d ≠ q:=xa3 g1 hqn
     have bl:B.length < sizeLine:=Nat.lt_of_le_of_lt hB.len (Nat.lt_of_lt_of_le hj (xe5 (by omega)))
     have hst:=hB.step D.isI hkv
     have gb':(upd G' q (.tup [kV (Sum.inl k1),V.int c0])) b = some (.dK B):=by rw [xa2 bq]; exact g2
     have fin:∀ c:Int,c = (if k1 = w then c0 else c0 + 1) -> ∃ (B':List (Key × V)) (v5 v6:Option V),[some (V.ref l),some (.ref d),some (.int w),some (.ref b),some (.int (L:Nat)),some (kV (Sum.inl k1)),some (V.int c0)] = [some (V.ref l),some (.ref d),some (.int w),some (.ref b),some (.int (L:Nat)),v5,v6] /\ (upd (upd G' q (.tup [kV (Sum.inl k1),V.int c0])) b (.dK (putK B (Sum.inl k1) (.int c)))) d = some (held d o) /\ (upd (upd G' q (.tup [kV (Sum.inl k1),V.int c0])) b (.dK (putK B (Sum.inl k1) (.int c)))) b = some (.dK B') /\ Bh kvs w (j + 1) B' /\ Same H (upd (upd G' q (.tup [kV (Sum.inl k1),V.int c0])) b (.dK (putK B (Sum.inl k1) (.int c)))):=fun c ec=>by
      subst ec
      exact ⟨_,_,_,rfl,by rw [xa2 (Ne.symm nb),xa2 dq]; exact g1,xa0,hst,(sm3.trans (Same.new hqn)).upd hb⟩
     refine ⟨q,_,rfl,SqT.of xa0,rfl,?_⟩
     refine ⟨_,_,rfl,_,_,rfl,rfl,?_⟩
     refine ⟨_,rfl,_,rfl,rfl,_,rfl,?_⟩
     by_cases c:k1 = w
     ·rw [show decide (kV (Sum.inl k1) = V.int w) = true from decide_eq_true (by rw [c]; rfl)]
      exact iteT ⟨_,rfl,_,rfl,_,rfl,b,_,rfl,DPut.k (k:=Sum.inl k1) gb' bl,fin c0 (by rw [if_pos c])⟩
     ·rw [show decide (kV (Sum.inl k1) = V.int w) = false from decide_eq_false (fun z=>c (by injection z))]
      exact iteF ⟨_,rfl,_,_,rfl,rfl,_,rfl,_,rfl,b,_,rfl,DPut.k (k:=Sum.inl k1) gb' bl,fin (c0 + 1) (by rw [if_neg c])⟩
    ·obtain ⟨B,v5,v6,rfl,g1,g2,hB,sm3⟩:=hq
     rw [List.length_map] at hB
     exact ⟨g1,hN _ _ ⟨B,v5,v6,rfl,sm3.upd hd,by rw [xa2 nb]; exact g2,hB⟩⟩
   rintro σ3 G3 ⟨B,v5,v6,rfl,sm3,gb3,hB⟩
   have bl:B.length < sizeLine:=Nat.lt_of_le_of_lt hB.len (Nat.lt_of_le_of_lt hlen (Nat.lt_of_lt_of_le (Nat.succ_lt_succ hi) (xe5 (by omega))))
   have hdr:ws.drop i = w :: ws.drop (i + 1):=by
    rw [List.drop_eq_getElem_cons hi]
    rw [List.getElem?_eq_getElem hi] at hw
    rw [Option.some.inj hw]
   have hg2:zg5 L S w + gr (xq9 S w) (ws.drop (i + 1)) = gr [0] ws:=by rw [gr_next,<- hdr]; exact hgr
   have ln2:∀ x,(putK B (Sum.inl w) x).length <= i + 1 + 1:=fun x=>Nat.le_trans (xg0 _ _ _) (Nat.succ_le_succ (Nat.le_trans hB.len hlen))
   refine ⟨_,rfl,b,rfl,.inl ⟨_,.inl gb3⟩,_,rfl,_,rfl,_,_,rfl,rfl,_,DGet.k (k:=Sum.inl w) gb3,?_⟩
   cases e:valV B (Sum.inl w) with
   | none =>
    refine ⟨_,rfl,_,_,rfl,rfl,_,_,rfl,_,rfl,_,rfl,b,_,rfl,DPut.k (k:=Sum.inl w) gb3 bl,?_⟩
    exact ⟨_,rfl,b,_,_,_,_,_,_,_,_,rfl,sm3.upd hb,hb,xa0,hB.done D (.inl ⟨e,by simp⟩),ln2 _,hg2⟩
   | some y =>
    obtain ⟨c,rfl⟩:=hB.isI.val e
    refine ⟨_,rfl,_,_,rfl,rfl,_,_,rfl,_,rfl,_,rfl,b,_,rfl,DPut.k (k:=Sum.inl w) gb3 bl,?_⟩
    exact ⟨_,rfl,b,_,_,_,_,_,_,_,_,rfl,sm3.upd hb,hb,xa0,hB.done D (.inr ⟨c,e,rfl⟩),ln2 _,hg2⟩
  obtain ⟨d,kvs,L,S,v2,v3,v4,v5,v6,rfl,sm,hd,gd,D,hlen,hgr⟩:=hq
  obtain ⟨ns,en,nn,hmin⟩:=D.mins
  rw [List.length_map] at hlen hgr
  refine ⟨d,kvs,gd,fun o es ep DD=>?_⟩
  refine ⟨_,rfl,d,o,es,ep,rfl,xa0,DD.sys,DD.ex,DD.data,fun p2 hp2=>?_⟩
  have n1:d ≠ p2:=by rintro rfl; rw [xa0] at hp2; cases hp2
  have h2:G p2 = none:=by rw [xa2 (Ne.symm n1)] at hp2; exact hp2
  refine ⟨p2,d,o,es,ep,_,rfl,xa0,by rw [xa2 n1]; exact xa0,DD.ex,DD.data,DD.vals,by rw [List.length_map]; omega,fun q hq=>?_⟩
  have n2:d ≠ q:=by rintro rfl; rw [xa2 n1,xa0] at hq; cases hq
  have n3:p2 ≠ q:=by rintro rfl; rw [xa0] at hq; cases hq
  have h3:G q = none:=by rw [xa2 (Ne.symm n3),xa2 (Ne.symm n2)] at hq; exact hq
  refine ⟨q,ns,rfl,SqL.of (by rw [xa0,en]),nn,fun M hM hle=>⟨by rw [xa2 n2,xa2 n1]; exact xa0,?_⟩⟩
  obtain rfl:=hmin M hM hle
  rw [List.drop_length] at hgr
  rw [show L = gr [0] ws from hgr]
  refine k _ fun x ob e=>?_
  have xd:x ≠ d:=xa3 e hd
  have e1:=sm _ _ e
  rw [xa2 xd,xa2 (xa3 e1 h3),xa2 (xa3 e1 h2),xa2 xd]; exact e1
def endS:List Int -> List Int -> List Int
 | S,[]=>S
 | S,w :: ws=>endS (xq9 S w) ws
theorem zj3 {S ws:List Int} {w:Int}:gr S (w :: ws) = (if w ∈ S then 0 else 1) + gr (xq9 S w) ws:=by
 unfold xq9
 by_cases h:w ∈ S
 ·rw [if_pos h,if_pos h,yi6 h]; omega
 ·rw [if_neg h,if_neg h,xv9 h]; omega
theorem xn0:∀ (xs S ys:List Int),gr S (xs ++ ys) = gr S xs + gr (endS S xs) ys
 | [],S,ys=>by show gr S ys = 0 + gr S ys; omega
 | w :: xs,S,ys=>by
  rw [List.cons_append,zj3,zj3,xn0 xs]
  show _ = _ + gr (endS (xq9 S w) xs) ys
  omega
theorem xp3:∀ (xs S:List Int) (w:Int),endS S (xs ++ [w]) = xq9 (endS S xs) w
 | [],S,w=>rfl
 | v :: xs,S,w=>by rw [List.cons_append]; show endS (xq9 S v) (xs ++ [w]) = _; rw [xp3 xs]; rfl
theorem xf5 {α:Type} {xs:List α} {j:Nat} {w:α} (h:xs[j]? = some w):xs.take (j + 1) = xs.take j ++ [w]:=by
 rw [List.take_succ,h]; rfl
theorem yl2 {m j:Nat} {f:Nat -> V} {v:V}:((List.range m).map f).set j v = (List.range m).map fun x=>if x = j then v else f x:=by
 refine List.ext_getElem (by simp) fun n h1 h2=>?_
 rw [List.getElem_set]
 simp only [List.getElem_map,List.getElem_range]
 by_cases e:j = n
 ·rw [if_pos e,if_pos e.symm]
 ·rw [if_neg e,if_neg (fun z=>e z.symm)]
theorem zi4 {n j:Nat} (h:j < n):ixN n (j:Int) = some j:=by
 unfold ixN
 rw [if_pos (by omega),if_pos (by omega)]; simp
def need (cols:List (List Int)) (st x:Nat):Nat:=(cols.map fun ws=>gr [0] ((ws.drop st).take (x + 1))).sum
theorem zg6 (cols:List (List Int)) (ws:List Int) (st x:Nat):need (cols ++ [ws]) st x = need cols st x + gr [0] ((ws.drop st).take (x + 1)):=by
 unfold need; rw [List.map_append,List.sum_append]; simp
def HasK (kvs:List (Key × V)) (S:List Int):Prop:=∀ x:Int,(valV kvs (Sum.inl x)).isSome = decide (x ∈ S)
theorem HasK.one (w:Int) (v:V):HasK [(Sum.inl w,v)] [w]:=fun x=>by
 by_cases e:(Sum.inl w:Key) = Sum.inl x
 ·rw [xd8 e]; cases e; simp
 ·rw [xg3 e,yf9]
  have:¬ x = w:=fun z=>e (by rw [z])
  simp [this]
theorem HasK.more {kvs:List (Key × V)} {S:List Int} (h:HasK kvs S) (w:Int) (v:V):HasK (putK kvs (Sum.inl w) v) (w :: S):=fun x=>by
 rw [xj0]
 by_cases e:(Sum.inl x:Key) = Sum.inl w
 ·rw [if_pos e]; cases e; simp
 ·rw [if_neg e,h x]
  have:¬ x = w:=fun z=>e (by rw [z])
  simp [this]
theorem xy4 {m:Nat} {v:V}:(List.replicate m [v]).flatten = (List.range m).map fun _=>v:=by
 rw [List.flatten_replicate_singleton,List.map_const',List.length_range]
def Cols (H:Hp) (n:Nat) (cs:List Addr) (cols:List (List Int)):Prop:=Paired (fun c (ws:List Int)=>H c = some (.lst (ws.map V.int)) /\ ws.length = n) cs cols
theorem Cols.keep {H H':Hp} {n:Nat} {cs:List Addr} {cols:List (List Int)} (h:Cols H n cs cols) (s:Same H H'):Cols H' n cs cols:=Paired.mapP h fun _ _ q=>⟨s _ _ q.1,q.2⟩
def spFrom (K:Frag):Sp:=fun vs H Q _=>∃ (C:Addr) (cs:List Addr) (cols:List (List Int)) (st n:Nat),vs = [.ref C,.int (st:Nat),.int (n:Nat)] /\ H C = some (.lst (cs.map V.ref)) /\ Cols H n cs cols /\ st <= n /\ n <= 900 /\
 ∀ N H',H N = none -> Same H H' -> H' N = some (.lst ((List.range (n - st)).map fun x=>V.int ((need cols st x:Nat):Int))) -> Q (.ref N) H'
theorem xw6 (T:Txt K mg A):FnOk P w K mg base CX0 1 A.em1 A.en1 ["columns","start","count"] (spFrom K):=by
 refine T.ef2.ok xc0 (fun vs H Q E h=>?_) (fun cdv Ar outer s H vs Q E hr h=>?_)
 ·obtain ⟨C,cs,cols,st,n,rfl,hC,hcols,hst,hn,k⟩:=h
  rfl
 ·obtain ⟨C,cs,cols,st,n,rfl,hC,hcols,hst,hn,k⟩:=h
  refine ⟨_,(xa4 (xb6 (i:=3) xc0.nd rfl (Or.inl rfl) (xc4 zf7 (xj7 (xa1 xa8 xa5)) (xc4 xv6 (pv 2) (pv 1))))
   (xa4 (xd0 PassesOwn.never rfl (xb8 K (pv 0)) (xa9 (i:=4) xc0.nd rfl (Or.inl rfl)) (xa4 (xb6 (i:=5) xc0.nd rfl (Or.inl rfl) xa8)
   (xa4 (xb6 (i:=6) xc0.nd rfl (Or.inl rfl) (xz3 (xr8 xa8 xs2 xy8) rfl rfl (by simp) (by decide)))
   (xa6 (xd0 PassesOwn.never rfl (xy9 (by rfl) T.eh5 (xa1 (pv 1) (xa1 (pv 2) xa5))) (xa9 (i:=7) xc0.nd rfl (Or.inl rfl)) (xa4 (xb6 (i:=8) xc0.nd rfl (Or.inl rfl) (xi3 (xc1 K) (pv 4) (pv 7) (fun _ _=>rfl)))
   (xa4 (xh1 (ye2 (yu7 (hu1 hr) (pv 8) (pv 6))) (xa6 (xb6 (i:=6) xc0.nd rfl (Or.inl rfl) (xz3 (xr8 (pv 8) xs2 xy8) rfl rfl (by simp) (by decide)))) (xa4 (xl8 (hu1 hr) (pv 6) (pv 8) xs2 rfl)
   (xa6 (ze6 (i:=5) xc0.nd rfl (Or.inl rfl) xa8 yv9))))
   (xa6 (ps_augS (pv 3) (xc4 xv6 (pv 7) (pv 1)) (get_lst K) (pv 5) yv9 xx0)))))))))
   (xa6 (xc3 (pv 3))))),?_⟩
  have hm:((n:Int) - (st:Int)).toNat = n - st:=by omega
  refine xb5 (fun σ' G=>∃ N,σ' = [some (.ref C),some (.int (st:Nat)),some (.int (n:Nat)),some (.ref N),none,none,none,none,none] /\ Same H G /\ H N = none /\ G N = some (.lst ((List.range (n - st)).map fun x=>V.int ((need (cols.take 0) st x:Nat):Int)))) (fun N hN=>?_) ?_
  ·refine ⟨by show 1 <= 1000; decide,fun S hS=>?_⟩
   refine ⟨_,rfl,_,rfl,_,_,rfl,rfl,?_⟩
   refine ⟨S,_,_,rfl,rfl,xa0,by omega,by omega,?_,fun q hq=>?_⟩
   ·rw [hm]; show 1 * (n - st) <= sizeLine; exact xe5 (by omega)
   refine hN _ _ ⟨q,rfl,(Same.new hS).trans (Same.new hq),(Same.new hS).free hq,?_⟩
   rw [xa0,hm,xy4]; rfl
  rintro σ1 G0 ⟨N,rfl,s0,hN0,gN⟩
  refine ⟨_,rfl,C,rfl,⟨_,SqL.of (s0 _ _ hC)⟩,xf1 (xs:=cs.map V.ref) (fun i σ' G=>∃ v4 v5 v6 v7 v8:Option V,σ' = [some (.ref C),some (.int (st:Nat)),some (.int (n:Nat)),some (.ref N),v4,v5,v6,v7,v8] /\ Same H G /\ G N = some (.lst ((List.range (n - st)).map fun x=>V.int ((need (cols.take i) st x:Nat):Int)))) ⟨none,none,none,none,none,rfl,s0,gN⟩ (fun i σ' G _ hq=>?_) (fun i v σ' G hv hq=>?_) fun σ' G hq=>?_⟩
  ·obtain ⟨_,_,_,_,_,_,sm,_⟩:=hq; exact SqL.of (sm _ _ hC)
  ·obtain ⟨v4,v5,v6,v7,v8,rfl,sm,gN⟩:=hq
   rw [List.getElem?_map] at hv
   obtain ⟨c,hc,rfl⟩:=Option.map_eq_some_iff.mp hv
   obtain ⟨ws,hws,hcw,hwl⟩:=paired_at hcols hc
   intro p hp
   have hp0:H p = none:=sm.free hp
   have npN:p ≠ N:=Ne.symm (xa3 gN hp)
   refine ⟨xa0,[(Sum.inl 0,.bl true)],rfl,by decide,?_⟩
   refine ⟨_,rfl,_,rfl,_,_,rfl,⟨by omega,by omega,by omega,by omega⟩,?_⟩
   rw [hm]
   refine xl2 (fun j σ' G'=>∃ (p:Addr) (kvs:List (Key × V)) (v7 v8:Option V),σ' = [some (.ref C),some (.int (st:Nat)),some (.int (n:Nat)),some (.ref N),some (.ref c),some (.int ((gr [0] ((ws.drop st).take j):Nat):Int)),some (.ref p),v7,v8] /\ Same H G' /\ H p = none /\ p ≠ N /\ G' p = some (.dK kvs) /\ kvs.length <= j + 1 /\ HasK kvs (endS [0] ((ws.drop st).take j)) /\
    G' N = some (.lst ((List.range (n - st)).map fun x=>V.int (((need (cols.take i) st x + if x < j then gr [0] ((ws.drop st).take (x + 1)) else 0:Nat)):Int)))) ⟨p,_,_,_,rfl,(sm.upd hp0).upd hp0,hp0,npN,xa0,Nat.le_refl _,HasK.one 0 _,?_⟩ (fun j σ' G' hj hq=>?_) fun σ' G' hq=>?_
   ·rw [xa2 (Ne.symm npN),xa2 (Ne.symm npN),gN]; rfl
   ·obtain ⟨p,kvs,v7,v8,rfl,sm1,hp1,npN,gp,hl,hk,gN1⟩:=hq
    have hjn:st + j < ws.length:=by omega
    have ew:(ws.drop st)[j]? = some ws[st + j]:=by rw [List.getElem?_drop,List.getElem?_eq_getElem hjn]
    have etk:=xf5 ew
    have ewv:atI (ws.map V.int) ((st:Int) + (j:Int)) = some (.int ws[st + j]):=by
     rw [show ((st:Int) + (j:Int)) = ((st + j:Nat):Int) by omega]
     exact xe6 (by rw [List.getElem?_map,List.getElem?_eq_getElem hjn]; rfl)
    generalize ws[st + j] = w at ew etk ewv
    refine xb5 (fun σ' G2=>σ' = [some (.ref C),some (.int (st:Nat)),some (.int (n:Nat)),some (.ref N),some (.ref c),some (.int ((gr [0] ((ws.drop st).take j):Nat):Int)),some (.ref p),some (.int ((st:Int) + (j:Int))),some (.int w)] /\ G2 = G') (fun N1 hN1=>?_) ?_
    ·exact ⟨_,rfl,_,rfl,c,_,_,_,rfl,rfl,SqL.of (sm1 _ _ hcw),ewv,hN1 _ _ ⟨rfl,rfl⟩⟩
    rintro σ2 G2 ⟨rfl,rfl⟩
    refine xb5 (fun σ' G3=>∃ (p:Addr) (kvs:List (Key × V)),σ' = [some (.ref C),some (.int (st:Nat)),some (.int (n:Nat)),some (.ref N),some (.ref c),some (.int ((gr [0] ((ws.drop st).take (j + 1)):Nat):Int)),some (.ref p),some (.int ((st:Int) + (j:Int))),some (.int w)] /\ Same H G3 /\ H p = none /\ p ≠ N /\ G3 p = some (.dK kvs) /\ kvs.length <= j + 1 + 1 /\ HasK kvs (endS [0] ((ws.drop st).take (j + 1))) /\ G3 N = G2 N) (fun N1 hN1=>?_) ?_
    ·refine ⟨_,rfl,_,rfl,p,_,rfl,DGet.k (k:=Sum.inl w) gp,_,rfl,?_⟩
     rw [hk w]
     by_cases c1:w ∈ endS [0] ((ws.drop st).take j)
     ·rw [decide_eq_true c1]
      refine iteT fun q hq=>?_
      have hq0:H q = none:=sm1.free hq
      have nqN:q ≠ N:=Ne.symm (xa3 gN1 hq)
      refine ⟨_,rfl,xa0,[(Sum.inl w,.bl true)],rfl,(by show 1 <= 15; decide),hN1 _ _ ⟨q,_,?_,(sm1.upd hq0).upd hq0,hq0,nqN,xa0,by show 1 <= j + 1 + 1; omega,?_,by rw [xa2 (Ne.symm nqN),xa2 (Ne.symm nqN)]⟩⟩
      ·rw [etk,xn0,yi6 c1]; rfl
      ·rw [etk,xp3]; unfold xq9; rw [if_pos c1]; exact HasK.one w _
     ·rw [decide_eq_false c1]
      refine iteF ⟨_,rfl,_,rfl,p,_,rfl,DPut.k (k:=Sum.inl w) gp (Nat.lt_of_le_of_lt hl (Nat.lt_of_lt_of_le (show j + 1 < 1000 by omega) (xe5 (Nat.le_refl _)))),_,rfl,_,_,rfl,rfl,hN1 _ _ ⟨p,_,?_,sm1.upd hp1,hp1,npN,xa0,Nat.le_trans (xg0 _ _ _) (Nat.succ_le_succ hl),?_,by rw [xa2 (Ne.symm npN)]⟩⟩
      ·rw [etk,xn0,xv9 c1]; rfl
      ·rw [etk,xp3]; unfold xq9; rw [if_neg c1]; exact hk.more w _
    rintro σ3 G3 ⟨p2,kvs2,rfl,sm3,hp2,np2,gp2,hl2,hk2,gN3⟩
    rw [gN1] at gN3
    refine ⟨_,rfl,_,rfl,_,rfl,_,_,rfl,rfl,N,_,((j:Nat):Int),_,rfl,congrArg V.int (by omega),SqL.of gN3,xe6 (by rw [List.getElem?_map,List.getElem?_range hj]; rfl),?_⟩
    refine ⟨_,rfl,_,_,rfl,rfl,N,_,((j:Nat):Int),j,rfl,congrArg V.int (by omega),gN3,zi4 (by rw [List.length_map,List.length_range]; exact hj),?_⟩
    refine ⟨p2,kvs2,_,_,rfl,sm3.upd hN0,hp2,np2,by rw [xa2 np2]; exact gp2,hl2,hk2,?_⟩
    rw [xa0,yl2]
    refine congrArg (fun z=>some (HO.lst z)) (List.map_congr_left fun x hx=>?_)
    by_cases e:x = j
    ·subst e
     rw [if_pos rfl,if_neg (Nat.lt_irrefl _),if_pos (Nat.lt_succ_self _)]
     refine congrArg V.int ?_
     show ((need (cols.take i) st x + 0:Nat):Int) + ((gr [0] ((ws.drop st).take (x + 1)):Nat):Int) = _
     omega
    ·rw [if_neg e]
     by_cases e2:x < j
     ·rw [if_pos e2,if_pos (by omega)]
     ·rw [if_neg e2,if_neg (by omega)]
   ·obtain ⟨p,kvs,v7,v8,rfl,sm1,hp1,npN,gp,hl,hk,gN1⟩:=hq
    refine ⟨_,_,_,_,_,rfl,sm1,?_⟩
    rw [gN1]
    refine congrArg (fun z=>some (HO.lst z)) (List.map_congr_left fun x hx=>?_)
    rw [if_pos (List.mem_range.mp hx),xf5 hws,zg6]
  obtain ⟨v4,v5,v6,v7,v8,rfl,sm,gN⟩:=hq
  have hl:cs.length = cols.length:=Paired.length hcols
  rw [List.length_map,hl,List.take_length] at gN
  exact ⟨_,rfl,k N _ hN0 sm gN⟩
theorem yh3 (ws:List Int) (s x:Nat):need [ws] s x = gr [0] ((ws.drop s).take (x + 1)):=by unfold need; simp
theorem bst_le {cols:List (List Int)} {n s e:Nat} (h1:cols.length <= 1) (hn:∀ ws ∈ cols,ws.length = n) (hs:s < e) (he:e < n):need cols s (n - s - 1) <= need cols s (e - s - 1) + 1 + need cols e (n - e - 1):=by
 match cols,h1,hn with
 | [],_,_=>exact Nat.zero_le _
 | [ws],_,hn =>
  have hl:=hn ws (by simp)
  rw [yh3,yh3,yh3,show n - s - 1 + 1 = n - s by omega,show e - s - 1 + 1 = e - s by omega,show n - e - 1 + 1 = n - e by omega]
  rw [List.take_of_length_le (show (ws.drop s).length <= n - s by rw [List.length_drop]; omega),List.take_of_length_le (show (ws.drop e).length <= n - e by rw [List.length_drop]; omega)]
  have e1:ws.drop s = (ws.drop s).take (e - s) ++ ws.drop e:=by
   have:=(List.take_append_drop (e - s) (ws.drop s)).symm
   rw [List.drop_drop,show s + (e - s) = e by omega] at this
   exact this
  have e2:gr [0] (ws.drop s) = gr [0] ((ws.drop s).take (e - s)) + gr (endS [0] ((ws.drop s).take (e - s))) (ws.drop e):=by
   rw [<- xn0,<- e1]
  rw [e2]
  have:=(yi7 (ws.drop e) (endS [0] ((ws.drop s).take (e - s))) [0]).2
  omega
 | _ :: _ :: _,h,_=>simp at h
theorem atI_end {m:Nat} (h:0 < m) (f:Nat -> V):atI ((List.range m).map f) (-1) = some (f (m - 1)):=by
 obtain ⟨q,rfl⟩:∃ q,m = q + 1:=⟨m - 1,by omega⟩
 rw [List.range_succ,List.map_append]
 exact atI_last _ _
theorem yj4 {m j:Nat} (h:j < m) (f:Nat -> V):atI ((List.range m).map f) (j:Int) = some (f j):=xe6 (by rw [List.getElem?_map,List.getElem?_range h]; rfl)
def spStarts (K:Frag):Sp:=fun vs H Q _=>∃ (C:Addr) (cs:List Addr) (cols:List (List Int)) (n:Nat),vs = [.ref C,.int (n:Nat)] /\ H C = some (.lst (cs.map V.ref)) /\ Cols H n cs cols /\ cols.length <= 1 /\ n <= 900 /\
 ∀ Z H',H Z = none -> Same H H' -> H' Z = some (.lst [.int 0]) -> Q (.ref Z) H'
theorem yc8 (T:Txt K mg A):FnOk P w K mg base CX0 2 A.eo1 A.ep1 ["columns","count"] (spStarts K):=by
 have G_tellings_from:=xw6 (P:=P) (w:=w) (base:=base) T
 refine T.ei2.ok xd3 (fun vs H Q E h=>?_) (fun cdv Ar outer s H vs Q E hr h=>?_)
 ·obtain ⟨C,cs,cols,n,rfl,hC,hcols,h1,hn,k⟩:=h
  rfl
 ·obtain ⟨C,cs,cols,n,rfl,hC,hcols,h1,hn,k⟩:=h
  refine ⟨_,(xa4 (xb6 (i:=2) xd3.nd rfl (Or.inl rfl) (xc4 zf7 (xj7 (xa1 xa8 xa5)) (pv 1)))
   (xa4 (xb6 (i:=3) xd3.nd rfl (Or.inl rfl) (xc4 zf7 (xj7 (xa1 (pv 1) xa5)) (xc4 xf9 (pv 1) xa8)))
   (xa4 (xd0 PassesOwn.never rfl (yl8 (by rfl) T.eh5 (xa1 (xc4 xv6 (pv 1) xa8) (xa1 (yr1 xx8 xa8) (xa1 (yr1 xx8 xa8) xa5)))) (xa9 (i:=4) xd3.nd rfl (Or.inl rfl)) (xa4 (xb6 (i:=5) xd3.nd rfl (Or.inl rfl) (xb2 G_tellings_from (hr.mono (by decide)) (by rfl) T.eh2 T.ef2.kp T.eg2 .nil xc9 (xa1 (pv 0) (xa1 (pv 4) (xa1 (pv 1) xa5)))))
   (xa4 (ze7 (xi3 (xc1 K) (pv 5) (yr1 xx8 xa8) (fun _ _=>rfl)) (zf0 (pv 2) (pv 4) xx0))
   (xa6 (xd0 PassesOwn.never rfl (yl8 (by rfl) T.eh5 (xa1 (xc4 xv6 (pv 1) xa8) (xa1 (pv 4) (xa1 (yr1 xx8 xa8) xa5)))) (xa9 (i:=6) xd3.nd rfl (Or.inl rfl)) (xa4 (xb6 (i:=7) xd3.nd rfl (Or.inl rfl) (xc4 xf9 (xc4 xf9 (xi3 (xc1 K) (pv 5) (xc4 xv6 (xc4 xv6 (pv 6) (pv 4)) xa8) (fun _ _=>rfl)) xa8) (xi3 (xc1 K) (pv 2) (pv 6) (fun _ _=>rfl))))
   (xa6 (xh1 (xh0 zf8 (pv 7) (xi3 (xc1 K) (pv 2) (pv 4) (fun _ _=>rfl)) (xi4 _)) (xa4 (ze7 (pv 7) (zf0 (pv 2) (pv 4) xx0))
   (xa6 (ze7 (pv 6) (zf0 (pv 3) (pv 4) xx0)))) xc7))))))))
   (xa4 (xb6 (i:=8) xd3.nd rfl (Or.inl rfl) (xj7 (xa1 xa8 xa5)))
   (xa4 (ps_while PassesOwn.never (xh0 zf8 (xi3 (xc1 K) (pv 3) (xi3 (xc1 K) (pv 8) (yr1 xx8 xa8) (fun _ _=>rfl)) (fun _ _=>rfl)) (pv 1) (xi4 _)) (xa6 (xh5 (yg9 PySem.F.plainAttrs_list PySem.F.slot_list_append PySem.F.type_list_append xh3 (pv 8) (xa1 (xi3 (xc1 K) (pv 3) (xi3 (xc1 K) (pv 8) (yr1 xx8 xa8) (fun _ _=>rfl)) (fun _ _=>rfl)) xa5)))))
   (xa6 (xc3 (pv 8)))))))),?_⟩
  have hcn:∀ ws ∈ cols,ws.length = n:=fun ws hw=>by
   obtain ⟨i,hi,e⟩:=List.getElem_of_mem hw
   have hl:cs.length = cols.length:=Paired.length hcols
   obtain ⟨b,hb,_,hbn⟩:=paired_at hcols (List.getElem?_eq_getElem (show i < cs.length by omega))
   rw [List.getElem?_eq_getElem hi,e] at hb
   cases hb; exact hbn
  refine xb5 (fun σ' G=>∃ B,σ' = [some (.ref C),some (.int (n:Nat)),some (.ref B),none,none,none,none,none,none] /\ Same H G /\ H B = none /\ G B = some (.lst ((List.range n).map fun x=>V.int (((if n <= x + 0 then need cols x (n - x - 1) else 0:Nat)):Int)))) (fun N hN=>?_) ?_
  ·refine ⟨by show 1 <= 1000; decide,fun S hS=>⟨_,rfl,?_⟩⟩
   refine ⟨S,_,_,rfl,rfl,xa0,by omega,by omega,?_,fun q hq=>?_⟩
   ·show 1 * n <= sizeLine; exact xe5 (by omega)
   refine hN _ _ ⟨q,rfl,(Same.new hS).trans (Same.new hq),(Same.new hS).free hq,?_⟩
   rw [xa0,show ((n:Nat):Int).toNat = n by omega,xy4]
   refine congrArg (fun z=>some (HO.lst z)) (List.map_congr_left fun x hx=>?_)
   rw [if_neg (by have:=List.mem_range.mp hx; omega)]; rfl
  rintro σ1 G0 ⟨B,rfl,s0,hB,gB⟩
  refine xb5 (fun σ' G=>∃ O,σ' = [some (.ref C),some (.int (n:Nat)),some (.ref B),some (.ref O),none,none,none,none,none] /\ Same H G /\ H O = none /\ O ≠ B /\ G O = some (.lst ((List.range (n + 1)).map fun _=>V.int (n:Nat))) /\ G B = some (.lst ((List.range n).map fun x=>V.int (((if n <= x + 0 then need cols x (n - x - 1) else 0:Nat)):Int)))) (fun N hN=>?_) ?_
  ·refine ⟨_,rfl,by show 1 <= 1000; decide,fun S hS=>⟨_,rfl,_,_,rfl,rfl,?_⟩⟩
   refine ⟨S,_,_,rfl,rfl,xa0,by omega,by omega,?_,fun q hq=>?_⟩
   ·show 1 * ((n:Int) + 1).toNat <= sizeLine; exact xe5 (by omega)
   have nSB:B ≠ S:=xa3 gB hS
   have nqB:B ≠ q:=by rintro rfl; rw [xa2 nSB,gB] at hq; cases hq
   refine hN _ _ ⟨q,rfl,(s0.trans (Same.new hS)).trans (Same.new hq),s0.free ((Same.new hS).free hq),Ne.symm nqB,?_,by rw [xa2 nqB,xa2 nSB]; exact gB⟩
   rw [xa0,show ((n:Int) + 1).toNat = n + 1 by omega,xy4]
  rintro σ1 G1 ⟨O,rfl,s1,hO,nOB,gO,gB1⟩
  clear gB s0
  refine xb5 (fun σ' G=>∃ v4 v5 v6 v7:Option V,σ' = [some (.ref C),some (.int (n:Nat)),some (.ref B),some (.ref O),v4,v5,v6,v7,none] /\ Same H G /\ G O = some (.lst ((List.range (n + 1)).map fun _=>V.int (n:Nat)))) (fun N hN=>?_) ?_
  ·refine ⟨_,rfl,_,_,rfl,rfl,_,rfl,_,rfl,_,_,rfl,⟨by omega,by omega,by omega,by omega⟩,?_⟩
   rw [show ((n:Int) - 1 - -1).toNat = n by omega]
   refine yw4 (fun i σ' G=>∃ v4 v5 v6 v7:Option V,σ' = [some (.ref C),some (.int (n:Nat)),some (.ref B),some (.ref O),v4,v5,v6,v7,none] /\ Same H G /\ G O = some (.lst ((List.range (n + 1)).map fun _=>V.int (n:Nat))) /\ G B = some (.lst ((List.range n).map fun x=>V.int (((if n <= x + i then need cols x (n - x - 1) else 0:Nat)):Int)))) ⟨none,none,none,none,rfl,s1,gO,gB1⟩ (fun i σ' G hi hq=>?_) fun σ' G hq=>?_
   ·obtain ⟨v4,v5,v6,v7,rfl,sm,gO',gB'⟩:=hq
    obtain ⟨st,est⟩:∃ st:Nat,st = n - 1 - i:=⟨_,rfl⟩
    have hst:st < n:=by omega
    rw [show (n:Int) - 1 + (i:Int) * (-1) = (st:Nat) by omega]
    refine xb5 (fun σ' G3=>∃ N,σ' = [some (.ref C),some (.int (n:Nat)),some (.ref B),some (.ref O),some (.int (st:Nat)),some (.ref N),v6,v7,none] /\ Same G G3 /\ N ≠ B /\ N ≠ O /\ H N = none /\ G3 N = some (.lst ((List.range (n - st)).map fun x=>V.int ((need cols st x:Nat):Int)))) (fun N1 hN1=>?_) ?_
    ·refine ⟨_,rfl,_,rfl,_,rfl,C,cs,cols,st,n,rfl,sm _ _ hC,hcols.keep sm,Nat.le_of_lt hst,hn,fun N G3 gN sN g3=>?_⟩
     exact hN1 _ _ ⟨N,rfl,sN,Ne.symm (xa3 gB' gN),Ne.symm (xa3 gO' gN),sm.free gN,g3⟩
    rintro σ3 G3 ⟨N,rfl,s3,nNB,nNO,hN0,g3⟩
    refine xb5 (fun σ' G4=>σ' = [some (.ref C),some (.int (n:Nat)),some (.ref B),some (.ref O),some (.int (st:Nat)),some (.ref N),v6,v7,none] /\ Same H G4 /\ G4 O = some (.lst ((List.range (n + 1)).map fun _=>V.int (n:Nat))) /\ G4 N = some (.lst ((List.range (n - st)).map fun x=>V.int ((need cols st x:Nat):Int))) /\ G4 B = some (.lst ((List.range n).map fun x=>V.int (((if n <= x + (i + 1) then need cols x (n - x - 1) else 0:Nat)):Int)))) (fun N1 hN1=>?_) ?_
    ·refine ⟨_,rfl,1,rfl,N,_,-1,_,rfl,rfl,SqL.of g3,atI_end (by omega) _,?_⟩
     refine ⟨_,rfl,_,rfl,B,_,_,st,rfl,rfl,s3 _ _ gB',zi4 (by rw [List.length_map,List.length_range]; exact hst),?_⟩
     refine hN1 _ _ ⟨rfl,(sm.trans s3).upd hB,by rw [xa2 nOB]; exact s3 _ _ gO',by rw [xa2 nNB]; exact g3,?_⟩
     rw [xa0,yl2]
     refine congrArg (fun z=>some (HO.lst z)) (List.map_congr_left fun x hx=>?_)
     by_cases e:x = st
     ·rw [if_pos e,e,if_pos (by omega)]
     ·rw [if_neg e]
      by_cases e2:n <= x + i
      ·rw [if_pos e2,if_pos (by omega)]
      ·rw [if_neg e2,if_neg (by omega)]
    rintro σ4 G4 ⟨rfl,s4,gO4,gN4,gB4⟩
    have bAt:∀ {x:Nat},st <= x -> x < n -> atI ((List.range n).map fun x=>V.int (((if n <= x + (i + 1) then need cols x (n - x - 1) else 0:Nat)):Int)) (x:Int) = some (V.int ((need cols x (n - x - 1):Nat):Int)):=fun {x} h1 h2=>by
     rw [yj4 h2,if_pos (by omega)]
    refine ⟨_,rfl,_,_,rfl,rfl,_,rfl,_,rfl,_,_,rfl,⟨by omega,by omega,by omega,by omega⟩,?_⟩
    refine yw4 (fun j σ' G'=>∃ v6 v7:Option V,σ' = [some (.ref C),some (.int (n:Nat)),some (.ref B),some (.ref O),some (.int (st:Nat)),some (.ref N),v6,v7,none] /\ G' = G4) ⟨v6,v7,rfl,rfl⟩ (fun j σ' G' hj hq=>?_) fun σ' G' hq=>?_
    ·obtain ⟨v6,v7,rfl,rfl⟩:=hq
     obtain ⟨en,een⟩:∃ en:Nat,en = n - 1 - j:=⟨_,rfl⟩
     have he1:st < en:=by omega
     have he2:en < n:=by omega
     rw [show (n:Int) - 1 + (j:Int) * (-1) = (en:Nat) by omega]
     refine xb5 (fun σ' G5=>σ' = [some (.ref C),some (.int (n:Nat)),some (.ref B),some (.ref O),some (.int (st:Nat)),some (.ref N),some (.int (en:Nat)),some (.int (((need cols st (en - st - 1):Nat):Int) + 1 + ((need cols en (n - en - 1):Nat):Int))),none] /\ G5 = G') (fun N1 hN1=>?_) ?_
     ·refine ⟨_,rfl,_,rfl,_,rfl,_,_,rfl,rfl,_,_,rfl,rfl,N,_,((en - st - 1:Nat):Int),_,rfl,congrArg V.int (by omega),SqL.of gN4,yj4 (by omega) _,?_⟩
      refine ⟨_,_,rfl,rfl,_,rfl,_,rfl,B,_,_,_,rfl,rfl,SqL.of gB4,bAt (Nat.le_of_lt he1) he2,_,_,rfl,rfl,?_⟩
      exact hN1 _ _ ⟨rfl,rfl⟩
     rintro σ5 G5 ⟨rfl,rfl⟩
     refine ⟨_,rfl,_,rfl,_,rfl,B,_,_,_,rfl,rfl,SqL.of gB4,bAt (Nat.le_refl _) hst,_,_,rfl,rfl,_,rfl,?_⟩
     have hle:=bst_le h1 hcn he1 he2
     rw [show decide (((need cols st (en - st - 1):Nat):Int) + 1 + ((need cols en (n - en - 1):Nat):Int) < ((need cols st (n - st - 1):Nat):Int)) = false from decide_eq_false (by omega)]
     exact iteF ⟨_,_,rfl,rfl⟩
    obtain ⟨v6,v7,rfl,rfl⟩:=hq
    exact ⟨_,_,_,_,rfl,s4,gO4,gB4⟩
   ·obtain ⟨v4,v5,v6,v7,rfl,sm,gO',_⟩:=hq
    exact hN _ _ ⟨_,_,_,_,rfl,sm,gO'⟩
  rintro σ2 G2 ⟨v4,v5,v6,v7,rfl,s2,gO2⟩
  refine xb5 (fun σ' G=>∃ Z,σ' = [some (.ref C),some (.int (n:Nat)),some (.ref B),some (.ref O),v4,v5,v6,v7,some (.ref Z)] /\ Same H G /\ H Z = none /\ G O = some (.lst ((List.range (n + 1)).map fun _=>V.int (n:Nat))) /\ G Z = some (.lst [.int 0])) (fun N hN=>?_) ?_
  ·refine ⟨by show 1 <= 1000; decide,fun Z hZ=>?_⟩
   exact hN _ _ ⟨Z,rfl,s2.trans (Same.new hZ),s2.free hZ,by rw [xa2 (xa3 gO2 hZ)]; exact gO2,xa0⟩
  rintro σ3 G3 ⟨Z,rfl,s3,hZ,gO3,gZ⟩
  refine ⟨fun _ σ' G=>σ' = [some (.ref C),some (.int (n:Nat)),some (.ref B),some (.ref O),v4,v5,v6,v7,some (.ref Z)] /\ G = G3,⟨0,rfl,rfl⟩,?_⟩
  rintro m σ' G ⟨rfl,rfl⟩
  refine ⟨_,rfl,_,rfl,1,rfl,Z,[.int 0],-1,.int 0,rfl,rfl,SqL.of gZ,rfl,O,_,_,_,rfl,rfl,SqL.of gO3,yj4 (j:=0) (Nat.succ_pos n) _,_,rfl,_,_,rfl,rfl,_,rfl,?_⟩
  rw [show decide (((n:Nat):Int) < ((n:Nat):Int)) = false from decide_eq_false (by omega)]
  exact iteF ⟨_,rfl,k Z _ hZ s3 gZ⟩
def carr (c:Nat -> Nat) (ws:List Int):Nat -> Int
 | 0=>0
 | m + 1=>if c m = 1 then ws.getD m 0 else carr c ws m
def told (c:Nat -> Nat):Nat -> Nat
 | 0=>0
 | m + 1=>told c m + if c m = 0 then 0 else 1
theorem xu8 {c c':Nat -> Nat} {ws:List Int}:∀ {m:Nat},(∀ y,y < m -> c y = c' y) -> carr c ws m = carr c' ws m
 | 0,_=>rfl
 | m + 1,h=>by
  show (if c m = 1 then _ else _) = if c' m = 1 then _ else _
  rw [h m (Nat.lt_succ_self _),xu8 (m:=m) fun y hy=>h y (by omega)]
theorem yo4 {c:Nat -> Nat} {ws:List Int} {p:Nat}:∀ {m:Nat},p <= m -> (∀ y,p <= y -> y < m -> c y ≠ 1) -> carr c ws m = carr c ws p
 | 0,h,_=>by
  obtain rfl:p = 0:=by omega
  rfl
 | m + 1,h,f=>by
  by_cases e:p = m + 1
  ·rw [e]
  ·show (if c m = 1 then _ else _) = _
   rw [if_neg (f m (by omega) (by omega)),yo4 (m:=m) (by omega) fun y h1 h2=>f y h1 (by omega)]
theorem xt9 {c c':Nat -> Nat}:∀ {m:Nat},(∀ y,y < m -> (c y = 0 ↔ c' y = 0)) -> told c m = told c' m
 | 0,_=>rfl
 | m + 1,h=>by
  show told c m + (if c m = 0 then 0 else 1) = told c' m + if c' m = 0 then 0 else 1
  rw [xt9 (m:=m) fun y hy=>h y (by omega)]
  by_cases e:c m = 0
  ·rw [if_pos e,if_pos ((h m (Nat.lt_succ_self _)).mp e)]
  ·rw [if_neg e,if_neg (fun z=>e ((h m (Nat.lt_succ_self _)).mpr z))]
structure Col (ws:List Int) (i:Nat) (c:Nat -> Nat) (kvs:List (Key × V)):Prop where
 has:HasK kvs (endS [0] (ws.take i))
 pos:∀ w v,valV kvs (Sum.inl w) = some v -> ∃ p:Nat,v = .int ((p:Int) - 1) /\ p <= i /\ carr c ws p = w /\ ∀ y,p <= y -> y < i -> c y = 1
 shown:∀ x,x < i -> c x = 0 -> carr c ws (x + 1) = ws.getD x 0
 few:∀ x,c x <= 2
 rest:∀ x,i <= x -> c x = 0
 cnt:told c i = gr [0] (ws.take i)
 len:kvs.length <= i + 1
theorem Col.zero (ws:List Int):Col ws 0 (fun _=>0) [(Sum.inl 0,.int (((0:Nat):Int) - 1))] where
 has:=by rw [List.take_zero]; exact HasK.one 0 _
 pos:=fun w v h=>by
  have:=xn4 h
  simp only [List.mem_singleton,Prod.mk.injEq,Sum.inl.injEq] at this
  obtain ⟨rfl,rfl⟩:=this
  exact ⟨0,rfl,Nat.le_refl _,rfl,fun y _ h=>absurd h (Nat.not_lt_zero _)⟩
 shown:=fun x h=>absurd h (Nat.not_lt_zero _)
 few:=fun _=>Nat.zero_le _
 rest:=fun _ _=>rfl
 cnt:=by rw [List.take_zero]; rfl
 len:=Nat.le_refl _
def xj8 (c:Nat -> Nat) (p q:Nat):Nat -> Nat:=fun y=>if p <= y /\ y < q then 2 else c y
theorem ys5 {ws:List Int} {i:Nat} {w:Int} (h:ws[i]? = some w):ws.getD i 0 = w:=by rw [List.getD_eq_getElem?_getD,h]; rfl
theorem Col.met {ws:List Int} {i:Nat} {c:Nat -> Nat} {kvs:List (Key × V)} {w:Int} {p:Nat} (h:Col ws i c kvs) (hw:ws[i]? = some w) (hv:(valV kvs (Sum.inl w)).isSome = true) (hpi:p <= i) (hcp:carr c ws p = w) (h1:∀ y,p <= y -> y < i -> c y = 1) :
  Col ws (i + 1) (xj8 c p i) [(Sum.inl w,.int (((i + 1:Nat):Int) - 1))]:=by
 have hin:w ∈ endS [0] (ws.take i):=by have:=h.has w; rw [hv] at this; exact of_decide_eq_true this.symm
 have lo:∀ {m},m <= p -> carr (xj8 c p i) ws m = carr c ws m:=fun {m} hm=>xu8 fun y hy=>by unfold xj8; rw [if_neg (by omega)]
 have hi:carr (xj8 c p i) ws i = w:=by
  rw [yo4 hpi fun y h1 h2=>by unfold xj8; rw [if_pos ⟨h1,h2⟩]; decide]
  rw [lo (Nat.le_refl _),hcp]
 have ci:xj8 c p i i = 0:=by unfold xj8; rw [if_neg (by omega)]; exact h.rest i (Nat.le_refl _)
 have hi1:carr (xj8 c p i) ws (i + 1) = w:=by
  show (if xj8 c p i i = 1 then _ else _) = w
  rw [ci,if_neg (by decide)]; exact hi
 refine ⟨?_,fun w' v hv'=>?_,fun x hx hc=>?_,fun x=>?_,fun x hx=>?_,?_,by show 1 <= i + 1 + 1; omega⟩
 ·rw [xf5 hw,xp3]; unfold xq9; rw [if_pos hin]; exact HasK.one w _
 ·have:=xn4 hv'
  simp only [List.mem_singleton,Prod.mk.injEq,Sum.inl.injEq] at this
  obtain ⟨rfl,rfl⟩:=this
  exact ⟨i + 1,rfl,Nat.le_refl _,hi1,fun y a b=>absurd b (by omega)⟩
 ·by_cases e:x = i
  ·subst e; rw [hi1,ys5 hw]
  ·by_cases q:p <= x
   ·unfold xj8 at hc; rw [if_pos ⟨q,by omega⟩] at hc; cases hc
   ·rw [lo (by omega)]
    unfold xj8 at hc; rw [if_neg (by omega)] at hc
    exact h.shown x (by omega) hc
 ·unfold xj8; by_cases q:p <= x /\ x < i
  ·rw [if_pos q]; exact Nat.le_refl _
  ·rw [if_neg q]; exact h.few x
 ·unfold xj8; rw [if_neg (by omega)]; exact h.rest x (by omega)
 ·rw [xf5 hw,xn0,yi6 hin]
  show told (xj8 c p i) i + (if xj8 c p i i = 0 then 0 else 1) = gr [0] (ws.take i) + 0
  rw [ci,if_pos rfl,<- h.cnt]
  refine congrArg (· + 0) (xt9 fun y hy=>?_)
  unfold xj8
  by_cases q:p <= y /\ y < i
  ·rw [if_pos q,h1 y q.1 q.2]; decide
  ·rw [if_neg q]
theorem Col.new {ws:List Int} {i:Nat} {c:Nat -> Nat} {kvs:List (Key × V)} {w:Int} (h:Col ws i c kvs) (hw:ws[i]? = some w) (hv:(valV kvs (Sum.inl w)).isSome = false) :
  Col ws (i + 1) (fun y=>if y = i then 1 else c y) (putK kvs (Sum.inl w) (.int (((i + 1:Nat):Int) - 1))):=by
 have hin:w ∉ endS [0] (ws.take i):=by have:=h.has w; rw [hv] at this; exact of_decide_eq_false this.symm
 have lo:∀ {m},m <= i -> carr (fun y=>if y = i then 1 else c y) ws m = carr c ws m:=fun {m} hm=>xu8 fun y hy=>if_neg (by omega)
 refine ⟨?_,fun w' v hv'=>?_,fun x hx hc=>?_,fun x=>?_,fun x hx=>?_,?_,Nat.le_trans (xg0 _ _ _) (Nat.succ_le_succ h.len)⟩
 ·rw [xf5 hw,xp3]; unfold xq9; rw [if_neg hin]; exact h.has.more w _
 ·rw [xj0] at hv'
  by_cases e:(Sum.inl w':Key) = Sum.inl w
  ·rw [if_pos e] at hv'
   cases e; cases hv'
   refine ⟨i + 1,rfl,Nat.le_refl _,?_,fun y a b=>absurd b (by omega)⟩
   show (if (if i = i then 1 else c i) = 1 then _ else _) = _
   rw [if_pos rfl,if_pos rfl]; exact ys5 hw
  ·rw [if_neg e] at hv'
   obtain ⟨p,e1,e2,e3,e4⟩:=h.pos w' v hv'
   refine ⟨p,e1,by omega,by rw [lo e2]; exact e3,fun y a b=>?_⟩
   by_cases q:y = i
   ·rw [if_pos q]
   ·rw [if_neg q]; exact e4 y a (by omega)
 ·by_cases e:x = i
  ·rw [if_pos e] at hc; cases hc
  ·rw [if_neg e] at hc
   rw [lo (by omega)]; exact h.shown x (by omega) hc
 ·by_cases e:x = i
  ·rw [if_pos e]; decide
  ·rw [if_neg e]; exact h.few x
 ·rw [if_neg (by omega)]; exact h.rest x (by omega)
 ·rw [xf5 hw,xn0,xv9 hin]
  show told (fun y=>if y = i then 1 else c y) i + (if (if i = i then 1 else c i) = 0 then 0 else 1) = gr [0] (ws.take i) + (0 + 1)
  rw [if_pos rfl,if_neg (by decide),<- h.cnt]
  refine congrArg (· + 1) (xt9 fun y hy=>?_)
  rw [if_neg (by omega)]
def kvT (sk:List Key) (c:Nat -> Nat) (ws:List Int) (k x:Nat):List (List Key × V):=if c x = k then [(sk,.int (ws.getD x 0))] else []
structure LayC (G:Hp) (ts as:List Addr) (sk:List Key) (ws:List Int) (c:Nat -> Nat):Prop where
 t:∀ x a,ts[x]? = some a -> G a = some (.dT (kvT sk c ws 1 x))
 a:∀ x a,as[x]? = some a -> G a = some (.dT (kvT sk c ws 2 x))
structure Apart (ts as:List Addr):Prop where
 t:ts.Nodup
 a:as.Nodup
 ta:∀ b,b ∈ ts -> b ∉ as
def Done (ws:List Int) (c:Nat -> Nat):Prop:=(∀ x,x < ws.length -> c x = 0 -> carr c ws (x + 1) = ws.getD x 0) /\ (∀ x,c x <= 2) /\ told c ws.length = gr [0] ws
def Else (H G:Hp) (ts as:List Addr):Prop:=∀ b o,b ∉ ts -> b ∉ as -> H b = some o -> G b = some o
theorem same_at {xs:List Addr} (h:xs.Nodup) {x y:Nat} {a:Addr} (h1:xs[x]? = some a) (h2:xs[y]? = some a):x = y :=
 (List.getElem?_inj (List.getElem?_eq_some_iff.mp h1).1 h).mp (h1.trans h2.symm)
theorem ne_mem {xs:List Addr} {x:Nat} {a d:Addr} (e:xs[x]? = some a) (h:d ∉ xs):a ≠ d:=fun z=>h (by rw [<- z]; exact List.mem_of_getElem? e)
theorem ne_at {xs:List Addr} (hn:xs.Nodup) {x y:Nat} {a b:Addr} (e1:xs[y]? = some b) (e2:xs[x]? = some a) (q:y ≠ x):b ≠ a:=fun z=>q (same_at hn e1 (by rw [z]; exact e2))
theorem zg7 {ts as:List Addr} (ap:Apart ts as) {x y:Nat} {a b:Addr} (e1:as[y]? = some b) (e2:ts[x]? = some a):b ≠ a:=fun z=>ap.ta a (List.mem_of_getElem? e2) (by rw [<- z]; exact List.mem_of_getElem? e1)
theorem LayC.other {G:Hp} {ts as:List Addr} {sk:List Key} {ws:List Int} {c:Nat -> Nat} {d:Addr} {o:HO} (h:LayC G ts as sk ws c) (h1:d ∉ ts) (h2:d ∉ as):LayC (upd G d o) ts as sk ws c :=
 ⟨fun x a e=>by rw [xa2 (ne_mem e h1)]; exact h.t x a e,fun x a e=>by rw [xa2 (ne_mem e h2)]; exact h.a x a e⟩
theorem xs7 {sk:List Key} {c c':Nat -> Nat} {ws:List Int} {k x:Nat} (h:c' x = k ↔ c x = k):kvT sk c' ws k x = kvT sk c ws k x:=by
 unfold kvT
 by_cases e:c x = k
 ·rw [if_pos e,if_pos (h.mpr e)]
 ·rw [if_neg e,if_neg (fun z=>e (h.mp z))]
theorem LayC.tell {G:Hp} {ts as:List Addr} {sk:List Key} {ws:List Int} {c c':Nat -> Nat} {x:Nat} {a:Addr} (h:LayC G ts as sk ws c) (ap:Apart ts as) (ha:ts[x]? = some a) (h0:c x = 0) (h1:c' x = 1) (hs:∀ y,y ≠ x -> c' y = c y):LayC (upd G a (.dT [(sk,.int (ws.getD x 0))])) ts as sk ws c':=by
 refine ⟨fun y b e=>?_,fun y b e=>?_⟩
 ·by_cases q:y = x
  ·subst q
   rw [ha] at e; cases e
   rw [xa0]; unfold kvT; rw [if_pos h1]
  ·rw [xa2 (ne_at ap.t e ha q),h.t y b e,xs7 (c:=c') (c':=c) (by rw [hs y q])]
 ·rw [xa2 (zg7 ap e ha),h.a y b e]
  by_cases q:y = x
  ·subst q; rw [xs7 (c:=c') (c':=c) (by rw [h0,h1]; decide)]
  ·rw [xs7 (c:=c') (c':=c) (by rw [hs y q])]
theorem LayC.shift {G:Hp} {ts as:List Addr} {sk:List Key} {ws:List Int} {c c':Nat -> Nat} {x:Nat} {a b:Addr} (h:LayC G ts as sk ws c) (ap:Apart ts as) (ha:ts[x]? = some a) (hb:as[x]? = some b) (h1:c' x = 2) (hs:∀ y,y ≠ x -> c' y = c y):LayC (upd (upd G a (.dT [])) b (.dT [(sk,.int (ws.getD x 0))])) ts as sk ws c':=by
 have nab:∀ {y d},ts[y]? = some d -> d ≠ b:=fun e=>Ne.symm (zg7 ap hb e)
 refine ⟨fun y d e=>?_,fun y d e=>?_⟩
 ·rw [xa2 (nab e)]
  by_cases q:y = x
  ·subst q
   rw [ha] at e; cases e
   rw [xa0]; unfold kvT; rw [if_neg (by rw [h1]; decide)]
  ·rw [xa2 (ne_at ap.t e ha q),h.t y d e,xs7 (c:=c') (c':=c) (by rw [hs y q])]
 ·by_cases q:y = x
  ·subst q
   rw [hb] at e; cases e
   rw [xa0]; unfold kvT; rw [if_pos h1]
  ·rw [xa2 (ne_at ap.a e hb q),xa2 (zg7 ap e ha),h.a y d e,xs7 (c:=c') (c':=c) (by rw [hs y q])]
theorem Else.inT {H G:Hp} {ts as:List Addr} {a:Addr} {o:HO} (h:Else H G ts as) (ha:a ∈ ts):Else H (upd G a o) ts as:=fun b u h1 h2 e=>by
 rw [xa2 (fun z=>h1 (by rw [z]; exact ha))]; exact h b u h1 h2 e
theorem Else.inA {H G:Hp} {ts as:List Addr} {a:Addr} {o:HO} (h:Else H G ts as) (ha:a ∈ as):Else H (upd G a o) ts as:=fun b u h1 h2 e=>by
 rw [xa2 (fun z=>h2 (by rw [z]; exact ha))]; exact h b u h1 h2 e
theorem Else.new {H G:Hp} {ts as:List Addr} {a:Addr} {o:HO} (h:Else H G ts as) (ha:H a = none):Else H (upd G a o) ts as:=fun b u h1 h2 e=>by
 rw [xa2 (xa3 e ha)]; exact h b u h1 h2 e
def spCol (K:Frag):Sp:=fun vs H Q _=>∃ (TL AL sl CL Z:Addr) (ts as:List Addr) (ws:List Int) (sk:List Key),vs = [.ref TL,.ref AL,.ref sl,.ref CL,.ref Z] /\ H TL = some (.lst (ts.map V.ref)) /\ H AL = some (.lst (as.map V.ref)) /\ H sl = some (.tup (sk.map kV)) /\ H CL = some (.lst (ws.map V.int)) /\ H Z = some (.lst [.int 0]) /\ Apart ts as /\ ts.length = ws.length /\ as.length = ws.length /\ ws.length <= 900 /\ LayC H ts as sk ws (fun _=>0) /\
 ∀ c H',Done ws c -> LayC H' ts as sk ws c -> Else H H' ts as -> Q .non H'
theorem yc5 (T:Txt K mg A):FnOk P w K mg base CX0 1 A.eq1 A.er1 ["tells","alone","slot","column","starts"] (spCol K):=by
 refine T.el2.ok xd9 (fun vs H Q E h=>?_) (fun cdv Ar outer s H vs Q E hr h=>?_)
 ·obtain ⟨TL,AL,sl,CL,Z,ts,as,ws,sk,rfl,hTL,hAL,hsl,hCL,hZ,hap,htl,hal,hn,hlay,k⟩:=h
  rfl
 ·obtain ⟨TL,AL,sl,CL,Z,ts,as,ws,sk,rfl,hTL,hAL,hsl,hCL,hZ,hap,htl,hal,hn,hlay,k⟩:=h
  refine ⟨_,(xa4 (xb6 (i:=5) xd9.nd rfl (Or.inl rfl) yu6)
   (xa6 (xd0 PassesOwn.never rfl (yg6 K (by rfl) T.ei5 (xa1 (pv 3) xa5)) (xo9 (n:=2) K rfl (xe1 (xa9 (i:=6) xd9.nd rfl (Or.inl rfl)) (xe1 (xa9 (i:=7) xd9.nd rfl (Or.inl rfl)) xo8))) (xa4 (xh1 (xh0 (xu3 K) (pv 6) (pv 4) (by with_unfolding_all rfl)) (xa6 (xb6 (i:=5) xd9.nd rfl (Or.inl rfl) (xz3 (xr8 xa8 (xc4 xv6 (pv 6) xa8) xy8) rfl rfl (by simp) (by decide)))) xc7)
   (xa6 (xh1 (ye2 (yu7 (hu1 hr) (pv 7) (pv 5))) (xa4 (xd0 PassesOwn.never rfl (xy9 (by rfl) T.eh5 (xa1 (xc4 xf9 (yr2 (hu1 hr) (pv 5) (pv 7) (fun _ _=>rfl)) xa8) (xa1 (pv 6) xa5))) (xa9 (i:=8) xd9.nd rfl (Or.inl rfl)) (xa6 (xl8 (hu1 hr) (xi3 (xc1 K) (pv 1) (pv 8) (fun _ _=>rfl)) (pv 2) (pe_dpopT (hu1 hr) (xi3 (xc1 K) (pv 0) (pv 8) (fun _ _=>rfl)) (pv 2) ⟨rfl,rfl,rfl,rfl⟩) rfl)))
   (xa6 (xb6 (i:=5) xd9.nd rfl (Or.inl rfl) (xz3 (xr8 (pv 7) (pv 6) xy8) rfl rfl (by simp) (by decide))))) (xa4 (xl8 (hu1 hr) (xi3 (xc1 K) (pv 0) (pv 6) (fun _ _=>rfl)) (pv 2) (pv 7) rfl)
   (xa6 (xl8 (hu1 hr) (pv 5) (pv 7) (pv 6) rfl))))))))),?_⟩
  have inT:∀ {x a},ts[x]? = some a -> H a = some (.dT []):=fun {x a} e=>by rw [hlay.t x a e]; rfl
  have inA:∀ {x a},as[x]? = some a -> H a = some (.dT []):=fun {x a} e=>by rw [hlay.a x a e]; rfl
  have offT:∀ {b},H b ≠ some (.dT []) -> b ∉ ts:=fun {b} h z=>by obtain ⟨x,hx,e⟩:=List.getElem_of_mem z; exact h (inT (by rw [List.getElem?_eq_getElem hx,e]))
  have offA:∀ {b},H b ≠ some (.dT []) -> b ∉ as:=fun {b} h z=>by obtain ⟨x,hx,e⟩:=List.getElem_of_mem z; exact h (inA (by rw [List.getElem?_eq_getElem hx,e]))
  have stay:∀ {G b o},Else H G ts as -> H b = some o -> o ≠ .dT [] -> G b = some o:=fun {G b o} h e ne=>h b o (offT (by rw [e]; exact fun z=>ne (Option.some.inj z))) (offA (by rw [e]; exact fun z=>ne (Option.some.inj z))) e
  have free:∀ {G q},Else H G ts as -> LayC G ts as sk ws (fun _=>0) \/ (∃ c,LayC G ts as sk ws c) -> G q = none -> H q = none:=fun {G q} h hl e=>by
   cases hq:H q with
   | none=>rfl
   | some o =>
    obtain ⟨c,hl⟩:∃ c,LayC G ts as sk ws c:=hl.elim (fun z=>⟨_,z⟩) id
    by_cases m1:q ∈ ts
    ·obtain ⟨x,hx,ex⟩:=List.getElem_of_mem m1
     rw [hl.t x q (by rw [List.getElem?_eq_getElem hx,ex])] at e; cases e
    ·by_cases m2:q ∈ as
     ·obtain ⟨x,hx,ex⟩:=List.getElem_of_mem m2
      rw [hl.a x q (by rw [List.getElem?_eq_getElem hx,ex])] at e; cases e
     ·rw [h q o m1 m2 hq] at e; cases e
  have nT:∀ {q},H q = none -> q ∉ ts:=fun h=>offT (by rw [h]; exact fun z=>nomatch z)
  have nA:∀ {q},H q = none -> q ∉ as:=fun h=>offA (by rw [h]; exact fun z=>nomatch z)
  intro d0 hd0
  have e0:Else H (upd H d0 (.dK [])) ts as:=Else.new (fun _ _ _ _ e=>e) hd0
  refine ⟨_,rfl,CL,_,rfl,SqL.of (stay e0 hCL (fun z=>nomatch z)),?_⟩
  refine yw6 (xs:=ws.map V.int) (fun i σ' G=>∃ (d:Addr) (kvs:List (Key × V)) (c:Nat -> Nat) (v6 v7 v8:Option V),σ' = [some (.ref TL),some (.ref AL),some (.ref sl),some (.ref CL),some (.ref Z),some (.ref d),v6,v7,v8] /\ H d = none /\ G d = some (.dK kvs) /\ LayC G ts as sk ws c /\ Else H G ts as /\ (0 < i -> Col ws i c kvs) /\ (i = 0 -> c = fun _=>0)) ⟨d0,[],fun _=>0,none,none,none,rfl,hd0,xa0,hlay.other (nT hd0) (nA hd0),e0,fun h=>absurd h (Nat.lt_irrefl _),fun _=>rfl⟩ (fun i σ' G _ hq=>?_) (fun i v q σ' G hv hq hqn=>?_) fun σ' G hq=>?_
  ·obtain ⟨_,_,_,_,_,_,_,_,_,_,he,_⟩:=hq; exact SqL.of (stay he hCL (fun z=>nomatch z))
  ·obtain ⟨d,kvs,c,v6,v7,v8,rfl,hd,gd,gl,ge,hc,hc0⟩:=hq
   rw [List.getElem?_map] at hv
   obtain ⟨w,hw,rfl⟩:=Option.map_eq_some_iff.mp hv
   have hi:i < ws.length:=(List.getElem?_eq_some_iff.mp hw).1
   have hq0:H q = none:=free ge (.inr ⟨c,gl⟩) hqn
   have ndq:d ≠ q:=xa3 gd hqn
   refine ⟨q,_,rfl,SqT.of xa0,rfl,?_⟩
   refine ⟨_,_,rfl,_,_,rfl,rfl,?_⟩
   have ge1:Else H (upd G q (.tup [.int (i:Nat),.int w])) ts as:=ge.new hq0
   refine xb5 (fun σ' G'=>∃ (d:Addr) (kvs:List (Key × V)) (v8:Option V),σ' = [some (.ref TL),some (.ref AL),some (.ref sl),some (.ref CL),some (.ref Z),some (.ref d),some (.int (i:Nat)),some (.int w),v8] /\ H d = none /\ G' d = some (.dK kvs) /\ LayC G' ts as sk ws c /\ Else H G' ts as /\ Col ws i c kvs) (fun N hN=>?_) ?_
   ·refine ⟨_,rfl,_,rfl,Z,_,rfl,.inl (SqL.of (stay ge1 hZ (fun z=>nomatch z))),rfl,rfl,_,rfl,?_⟩
    by_cases z:i = 0
    ·obtain rfl:=hc0 z
     subst z
     refine iteT fun p hp=>?_
     have hp0:H p = none:=free ge1 (.inr ⟨_,gl.other (nT hq0) (nA hq0)⟩) hp
     refine ⟨_,rfl,_,_,rfl,rfl,xa0,[(Sum.inl 0,.int (((0:Nat):Int) - 1))],rfl,(by show 1 <= 15; decide),hN _ _ ⟨p,_,_,rfl,hp0,xa0,((gl.other (nT hq0) (nA hq0)).other (nT hp0) (nA hp0)).other (nT hp0) (nA hp0),(ge1.new hp0).new hp0,Col.zero ws⟩⟩
    ·rw [show (if false = true then !inV (V.int (i:Nat)) [V.int 0] else inV (V.int (i:Nat)) [V.int 0]) = false from by
      show inV (V.int (i:Nat)) [V.int 0] = false
      show (decide ((0:Int) = (i:Nat)) || false) = false
      rw [decide_eq_false (show ¬ (0:Int) = (i:Nat) by omega)]; rfl]
     exact iteF (hN _ _ ⟨d,kvs,_,rfl,hd,by rw [xa2 ndq]; exact gd,gl.other (nT hq0) (nA hq0),ge1,hc (by omega)⟩)
   clear hc hc0 gd gl ge ndq ge1
   rintro σ2 G2 ⟨d,kvs,v8,rfl,hd,gd,gl,ge,hc⟩
   refine ⟨_,rfl,_,rfl,d,_,rfl,DGet.k (k:=Sum.inl w) gd,_,rfl,?_⟩
   cases hv:valV kvs (Sum.inl w) with
   | none =>
    obtain ⟨a,ha⟩:∃ a,ts[i]? = some a:=⟨ts[i]'(by omega),List.getElem?_eq_getElem (by omega)⟩
    have gla:=gl.t i a ha
    rw [show kvT sk c ws 1 i = [] from by unfold kvT; rw [hc.rest i (Nat.le_refl _)]; rfl] at gla
    have nda:d ≠ a:=fun z=>nT hd (by rw [z]; exact List.mem_of_getElem? ha)
    refine iteF ⟨_,rfl,_,rfl,_,rfl,TL,_,_,_,rfl,rfl,SqL.of (stay ge hTL (fun z=>nomatch z)),xe6 (by rw [List.getElem?_map,ha]; rfl),_,rfl,a,_,rfl,DPut.t gla (stay ge hsl (fun z=>nomatch z)) (by show 0 < sizeLine; decide),?_⟩
    refine ⟨_,rfl,_,rfl,_,rfl,d,_,rfl,DPut.k (k:=Sum.inl w) (by rw [xa2 nda]; exact gd) (Nat.lt_of_le_of_lt hc.len (Nat.lt_of_lt_of_le (show i + 1 < 1000 by omega) (xe5 (Nat.le_refl _)))),?_⟩
    have hcn:=hc.new hw (by rw [hv]; rfl)
    rw [show (((i + 1:Nat):Int) - 1) = ((i:Nat):Int) by omega] at hcn
    refine ⟨d,_,_,_,_,_,rfl,hd,xa0,LayC.other ?_ (nT hd) (nA hd),(ge.inT (List.mem_of_getElem? ha)).new hd,fun _=>hcn,fun z=>absurd z (Nat.succ_ne_zero _)⟩
    rw [show putK ([]:List (List Key × V)) sk (.int w) = [(sk,.int (ws.getD i 0))] from by rw [ys5 hw]; rfl]
    exact gl.tell hap ha (hc.rest i (Nat.le_refl _)) (if_pos rfl) fun y hy=>if_neg hy
   | some x =>
    obtain ⟨p,rfl,hpi,hcp,h1⟩:=hc.pos w x hv
    refine iteT ?_
    have gv:DGet G2 d (.int w) (some (.int ((p:Int) - 1))):=by have:=DGet.k (k:=Sum.inl w) gd; rw [hv] at this; exact this
    refine xb5 (fun σ' G'=>∃ v8:Option V,σ' = [some (.ref TL),some (.ref AL),some (.ref sl),some (.ref CL),some (.ref Z),some (.ref d),some (.int (i:Nat)),some (.int w),v8] /\ LayC G' ts as sk ws (xj8 c p i) /\ Else H G' ts as) (fun N hN=>?_) ?_
    ·refine ⟨_,rfl,_,rfl,d,_,rfl,gv,_,_,rfl,rfl,_,rfl,_,_,rfl,⟨by omega,by omega,by omega,by omega⟩,?_⟩
     rw [show ((i:Int) - ((p:Int) - 1 + 1)).toNat = i - p by omega]
     refine xl2 (fun j σ' G'=>∃ v8:Option V,σ' = [some (.ref TL),some (.ref AL),some (.ref sl),some (.ref CL),some (.ref Z),some (.ref d),some (.int (i:Nat)),some (.int w),v8] /\ LayC G' ts as sk ws (xj8 c p (p + j)) /\ Else H G' ts as) ⟨v8,rfl,?_,ge⟩ (fun j σ' G' hj hq=>?_) fun σ' G' hq=>?_
     ·rw [show xj8 c p (p + 0) = c from funext fun y=>if_neg (by omega)]; exact gl
     ·obtain ⟨v8,rfl,gl',ge'⟩:=hq
      obtain ⟨a,ha⟩:∃ a,ts[p + j]? = some a:=⟨ts[p + j]'(by omega),List.getElem?_eq_getElem (by omega)⟩
      obtain ⟨b,hb⟩:∃ b,as[p + j]? = some b:=⟨as[p + j]'(by omega),List.getElem?_eq_getElem (by omega)⟩
      have m1:xj8 c p (p + j) (p + j) = 1:=by unfold xj8; rw [if_neg (by omega)]; exact h1 _ (by omega) (by omega)
      have gla:=gl'.t _ a ha
      rw [show kvT sk (xj8 c p (p + j)) ws 1 (p + j) = [(sk,.int (ws.getD (p + j) 0))] from if_pos m1] at gla
      have glb:=gl'.a _ b hb
      rw [show kvT sk (xj8 c p (p + j)) ws 2 (p + j) = [] from if_neg (by rw [m1]; decide)] at glb
      have nba:b ≠ a:=fun z=>hap.ta a (List.mem_of_getElem? ha) (by rw [<- z]; exact List.mem_of_getElem? hb)
      rw [show ((p:Int) - 1 + 1 + (j:Int)) = ((p + j:Nat):Int) by omega]
      have ga:Else H (upd G' a (.dT [])) ts as:=ge'.inT (List.mem_of_getElem? ha)
      refine ⟨_,rfl,_,rfl,TL,_,_,_,rfl,rfl,SqL.of (stay ge' hTL (fun z=>nomatch z)),xe6 (by rw [List.getElem?_map,ha]; rfl),a,rfl,.inr ⟨_,.inl gla⟩,_,rfl,sk,sl,_,rfl,gla,stay ge' hsl (fun z=>nomatch z),?_⟩
      refine ⟨_,rfl,_,rfl,AL,_,_,_,rfl,rfl,SqL.of (stay ga hAL (fun z=>nomatch z)),xe6 (by rw [List.getElem?_map,hb]; rfl),_,rfl,b,_,rfl,DPut.t (by rw [xa2 nba]; exact glb) (stay ga hsl (fun z=>nomatch z)) (by show 0 < sizeLine; decide),?_⟩
      refine ⟨_,rfl,gl'.shift hap ha hb ?_ fun y hy=>?_,ga.inA (List.mem_of_getElem? hb)⟩
      ·unfold xj8; rw [if_pos (by omega)]
      ·unfold xj8
       by_cases e:p <= y /\ y < p + j
       ·rw [if_pos e,if_pos (by omega)]
       ·rw [if_neg e,if_neg (by omega)]
     ·obtain ⟨v8,rfl,gl',ge'⟩:=hq
      rw [show p + (i - p) = i by omega] at gl'
      exact hN _ _ ⟨_,rfl,gl',ge'⟩
    rintro σ3 G3 ⟨v8',rfl,gl3,ge3⟩
    intro p2 hp2
    have hp0:H p2 = none:=free ge3 (.inr ⟨_,gl3⟩) hp2
    have hcn:=hc.met hw (by rw [hv]; rfl) hpi hcp h1
    rw [show (((i + 1:Nat):Int) - 1) = ((i:Nat):Int) by omega] at hcn
    exact ⟨_,rfl,_,rfl,xa0,[(Sum.inl w,.int (i:Nat))],rfl,(by show 1 <= 15; decide),⟨p2,_,_,_,_,_,rfl,hp0,xa0,(gl3.other (nT hp0) (nA hp0)).other (nT hp0) (nA hp0),(ge3.new hp0).new hp0,fun _=>hcn,fun z=>absurd z (Nat.succ_ne_zero _)⟩⟩
  ·obtain ⟨d,kvs,c,v6,v7,v8,rfl,hd,gd,gl,ge,hc,hc0⟩:=hq
   rw [List.length_map] at hc hc0
   refine k c _ ?_ gl ge
   by_cases z:ws.length = 0
   ·obtain rfl:=hc0 z
    obtain rfl:ws = []:=List.eq_nil_of_length_eq_zero z
    exact ⟨fun x h=>absurd h (Nat.not_lt_zero _),fun _=>Nat.zero_le _,rfl⟩
   ·have q:=hc (by omega)
    exact ⟨q.shown,q.few,by rw [q.cnt,List.take_length]⟩
def lk (sk:List Key) (w:Int):List (List Key × V):=if 0 < w then [(sk,.int w)] else []
def Lks (H:Hp) (sk:List Key) (ls:List Addr) (ws:List Int):Prop:=Paired (fun a (w:Int)=>H a = some (.dT (lk sk w)) /\ 0 <= w) ls ws
theorem Lks.keep {H H':Hp} {sk:List Key} {ls:List Addr} {ws:List Int} (h:Lks H sk ls ws) (s:Same H H'):Lks H' sk ls ws:=Paired.mapP h fun _ _ q=>⟨s _ _ q.1,q.2⟩
theorem zh5 {sk:List Key} {w:Int} (h:0 <= w):(valV (lk sk w) sk).getD (.int 0) = .int w:=by
 unfold lk
 by_cases e:0 < w
 ·rw [if_pos e,xd8 rfl]; rfl
 ·rw [if_neg e,yf9]
  obtain rfl:w = 0:=by omega
  rfl
def lookV (H:Hp) (sk:List Key):V -> V
 | .ref b=>(match H b with | some (.dT kvs)=>(valV kvs sk).getD (.int 0) | _=>.int 0)
 | _=>.int 0
theorem yi0 {H:Hp} {sk:List Key} {b:Addr} {w:Int} (h:H b = some (.dT (lk sk w)) /\ 0 <= w):lookV H sk (.ref b) = .int w:=by
 show (match H b with | some (.dT kvs)=>(valV kvs sk).getD (.int 0) | _=>V.int 0) = _
 rw [h.1]; exact zh5 h.2
theorem ym4 {H:Hp} {sk:List Key}:∀ {ls:List Addr} {ws:List Int},Lks H sk ls ws -> (ls.map V.ref).map (lookV H sk) = ws.map V.int
 | _,_,.nil=>rfl
 | _,_,.cons q t=>by rw [List.map_cons,List.map_cons,List.map_cons,yi0 q,ym4 t]
def zd5 (K:Frag):Sp:=fun vs H Q _=>∃ (L:Addr) (ls:List Addr) (ws:List Int) (sk:List Key),vs = [.ref L] /\ H L = some (.lst (ls.map V.ref)) /\ Lks H sk ls ws /\ ls.length <= 900 /\
 ∀ D H',H D = none -> Same H H' -> ((H' D = some (.dT []) /\ ∀ w ∈ ws,w = 0) \/ ∃ c,H' D = some (.dT [(sk,.ref c)]) /\ H c = none /\ H' c = some (.lst (ws.map V.int))) -> Q (.ref D) H'
theorem yh2 (T:Txt K mg A):FnOk P w K mg base CX0 1 A.es1 A.et1 ["looks"] (zd5 K):=by
 refine T.eo2.ok xj9 (fun vs H Q E h=>?_) (fun cdv Ar outer s H vs Q E hr h=>?_)
 ·obtain ⟨L,ls,ws,sk,rfl,hL,hls,hn,k⟩:=h
  rfl
 ·obtain ⟨L,ls,ws,sk,rfl,hL,hls,hn,k⟩:=h
  refine ⟨_,(xa4 (xb6 (i:=1) xj9.nd rfl (Or.inl rfl) xj2)
   (xa4 (xd0 PassesOwn.never rfl (xb8 K (pv 0)) (xa9 (i:=2) xj9.nd rfl (Or.inl rfl)) (xa6 (xy7 (xd0 PassesOwn.never rfl (pi_key (pv 2)) (xa9 (i:=3) xj9.nd rfl (Or.inr rfl)) (xa6 (xh1 (ye2 (zf5 (hu1 hr) (pv 3) (pv 1))) (xa6 (xl8 (hu1 hr) (pv 1) (pv 3) (xh6 ["other","slot"] [none,some 3] rfl (xb8 K (pv 0)) (fun _ _ _=>(xa9 (i:=0) xw9 rfl (Or.inl rfl))) (fun _ _ _=>(zf3 P w (hu1 hr) (pv 0) (pv 1) xa8 ⟨rfl,rfl,rfl,rfl⟩))) rfl)) xc7))))))
   (xa6 (xc3 (pv 1))))),?_⟩
  intro D hD
  have s0:Same H (upd H D (.dT [])):=Same.new hD
  refine ⟨_,rfl,L,rfl,⟨_,SqL.of (s0 _ _ hL)⟩,xf1 (xs:=ls.map V.ref) (fun i σ' G=>∃ v2 v3:Option V,σ' = [some (.ref L),some (.ref D),v2,v3] /\ Same H G /\ ((G D = some (.dT []) /\ ∀ w ∈ ws.take i,w = 0) \/ ∃ c,G D = some (.dT [(sk,.ref c)]) /\ H c = none /\ G c = some (.lst (ws.map V.int)))) ⟨none,none,rfl,s0,.inl ⟨xa0,by simp⟩⟩ (fun i σ' G _ hq=>?_) (fun i v σ' G hv hq=>?_) fun σ' G hq=>?_⟩
  ·obtain ⟨_,_,_,sm,_⟩:=hq; exact SqL.of (sm _ _ hL)
  ·obtain ⟨v2,v3,rfl,sm,st⟩:=hq
   rw [List.getElem?_map] at hv
   obtain ⟨a,ha,rfl⟩:=Option.map_eq_some_iff.mp hv
   obtain ⟨w,hw,hla,hw0⟩:=paired_at hls ha
   have ga:=sm _ _ hla
   have nDa:D ≠ a:=fun z=>by rw [<- z,hD] at hla; cases hla
   refine ⟨a,lk sk w,ga,fun o xs es ep DD kt=>?_⟩
   refine ⟨_,rfl,a,o,_,es,ep,rfl,xa0,DD.sys,DD.ex,DD.data,xm9 DD,?_⟩
   have hxl:xs.length = (lk sk w).length:=(Paired.length kt).symm
   refine yw5 (fun j σ' G'=>∃ v3:Option V,σ' = [some (.ref L),some (.ref D),some (.ref a),v3] /\ G' a = some (held a o) /\ (∀ b ob,b ≠ a -> b ≠ D -> G b = some ob -> G' b = some ob) /\ ((G' D = some (.dT []) /\ (∀ w ∈ ws.take i,w = 0) /\ j = 0) \/ ∃ c,G' D = some (.dT [(sk,.ref c)]) /\ H c = none /\ G' c = some (.lst (ws.map V.int)))) ⟨_,rfl,xa0,fun b ob hb _ e=>by rw [xa2 hb]; exact e,?_⟩ (fun j σ' G' _ hq=>?_) (fun j v σ' G' hv hq=>?_) fun σ' G' hq=>?_
   ·rcases st with ⟨e1,e2⟩ | ⟨c,e1,e2,e3⟩
    ·exact .inl ⟨by rw [xa2 nDa]; exact e1,e2,rfl⟩
    ·exact .inr ⟨c,by rw [xa2 nDa]; exact e1,e2,by rw [xa2 (fun z=>by rw [z,hla] at e2; cases e2)]; exact e3⟩
   ·obtain ⟨_,_,h,_⟩:=hq; exact h
   ·obtain ⟨v3,rfl,g1,go,st'⟩:=hq
    rw [List.getElem?_map] at hv
    obtain ⟨x,hx,rfl⟩:=Option.map_eq_some_iff.mp hv
    have hlen:0 < (lk sk w).length:=by have:=(List.getElem?_eq_some_iff.mp hx).1; omega
    have hwp:0 < w:=by
     by_cases z:0 < w
     ·exact z
     ·unfold lk at hlen; rw [if_neg z] at hlen; cases hlen
    have hlk:lk sk w = [(sk,.int w)]:=if_pos hwp
    have hj:j = 0:=by have:=(List.getElem?_eq_some_iff.mp hx).1; rw [hxl,hlk] at this; simpa using this
    subst hj
    have gDd:∃ kv,G D = some (.dT kv):=by rcases st with ⟨e1,_⟩ | ⟨c,e1,_⟩ <;> exact ⟨_,e1⟩
    have hxk:G x.2.1 = some (.tup (sk.map kV)):=by
     obtain ⟨x',hx',r⟩:=paired_at kt (i:=0) (a:=(sk,V.int w)) (by rw [hlk]; rfl)
     rw [hx] at hx'; cases hx'
     exact r.2.1
    have tg:xp6 G G':=fun b ys e=>go b _ (xb9 e ga (fun z=>nomatch z)) (by obtain ⟨kv,eD⟩:=gDd; exact xb9 e eD (fun z=>nomatch z)) e
    have hx1:=tg _ _ hxk
    have hO:∀ {b ob},b ≠ a -> H b = some ob -> G' b = some ob:=fun {b ob} hb e=>go b ob hb (xa3 e hD) (sm _ _ e)
    rcases st' with ⟨gD,hz,_⟩ | ⟨c,gD,hc0,gc⟩
    ·refine ⟨_,rfl,_,rfl,D,_,rfl,DGet.t gD hx1,_,rfl,iteT ?_⟩
     have hLa:L ≠ a:=xb9 hL hla (fun z=>nomatch z)
     refine ⟨_,rfl,L,rfl,⟨_,SqL.of (hO hLa hL)⟩,fun C hC=>?_⟩
     refine yi9 (lookV H sk) (fun σ=>∃ z,σ = [z,some (.ref x.2.1)]) (SqL.of (hO hLa hL)) hC (by rw [List.length_map]; omega) ⟨_,rfl⟩ (fun v σ' G2 N hv ho sm2 q=>?_) fun G2 sm2 hDl=>?_
     ·obtain ⟨z,rfl⟩:=ho
      obtain ⟨b,hb,rfl⟩:=List.mem_map.mp hv
      obtain ⟨w',_,hbw⟩:=xu2 hls hb
      by_cases e:b = a
      ·subst e
       refine ⟨_,rfl,b,rfl,.inr ⟨o,_,xs,es,ep,sm2 _ _ g1,DD⟩,_,rfl,valV (lk sk w) sk,.inr ⟨o,_,xs,es,ep,sk,x.2.1,sm2 _ _ g1,DD,kt.keeps (tg.trans sm2.tup),rfl,sm2 _ _ hx1,rfl⟩,?_⟩
       rw [zh5 hw0,<- yi0 (sk:=sk) ⟨hla,hw0⟩]
       exact q _ _ (Same.refl _) ⟨_,rfl⟩
      ·have gb:=sm2 _ _ (hO e hbw.1)
       refine ⟨_,rfl,b,rfl,.inl (.inr ⟨_,.inl gb⟩),_,rfl,valV (lk sk w') sk,.inl (DGet.t gb (sm2 _ _ hx1)),?_⟩
       rw [zh5 hbw.2,<- yi0 (sk:=sk) hbw]
       exact q _ _ (Same.refl _) ⟨_,rfl⟩
     ·rw [ym4 hls] at hDl
      have nCa:C ≠ a:=fun z=>by rw [z,g1] at hC; cases hC
      have hC0:H C = none:=by
       cases e:H C with
       | none=>rfl
       | some ob=>rw [hO nCa e] at hC; cases hC
      have nCD:C ≠ D:=fun z=>by rw [z,gD] at hC; cases hC
      refine ⟨_,rfl,_,rfl,D,_,rfl,DPut.t (sm2 _ _ gD) (sm2 _ _ hx1) (by show 0 < sizeLine; decide),?_⟩
      exact ⟨_,rfl,by rw [xa2 (Ne.symm nDa)]; exact sm2 _ _ g1,fun b ob h1 h2 e=>by rw [xa2 h2]; exact sm2 _ _ (go b ob h1 h2 e),.inr ⟨C,xa0,hC0,by rw [xa2 nCD]; exact hDl⟩⟩
    ·refine ⟨_,rfl,_,rfl,D,_,rfl,DGet.t gD hx1,_,rfl,?_⟩
     rw [xd8 rfl]
     exact iteF ⟨_,rfl,g1,go,.inr ⟨c,gD,hc0,gc⟩⟩
   ·obtain ⟨v3,rfl,g1,go,st'⟩:=hq
    have gDd:∃ kv,G D = some (.dT kv):=by rcases st with ⟨e1,_⟩ | ⟨c,e1,_⟩ <;> exact ⟨_,e1⟩
    refine ⟨g1,fun b ys e=>go b _ (xb9 e ga (fun z=>nomatch z)) (by obtain ⟨kv,eD⟩:=gDd; exact xb9 e eD (fun z=>nomatch z)) e,_,_,rfl,fun b ob e=>?_,?_⟩
    ·by_cases c:b = a
     ·rw [c,xa0]; rw [c,hla] at e; exact e
     ·rw [xa2 c]; exact go b ob c (xa3 e hD) (sm _ _ e)
    ·rcases st' with ⟨gD,hz,hj⟩ | ⟨c,gD,hc0,gc⟩
     ·refine .inl ⟨by rw [xa2 nDa]; exact gD,fun w' hw'=>?_⟩
      rw [xf5 hw] at hw'
      rcases List.mem_append.mp hw' with h | h
      ·exact hz w' h
      ·obtain rfl:w' = w:=by simpa using h
       rw [List.length_map,hxl] at hj
       unfold lk at hj
       by_cases z:0 < w'
       ·rw [if_pos z] at hj; cases hj
       ·omega
     ·exact .inr ⟨c,by rw [xa2 nDa]; exact gD,hc0,by rw [xa2 (fun z=>by rw [z,hla] at hc0; cases hc0)]; exact gc⟩
  ·obtain ⟨v2,v3,rfl,sm,st⟩:=hq
   have hl:ls.length = ws.length:=Paired.length hls
   rw [List.length_map,hl,List.take_length] at st
   exact ⟨_,rfl,k D _ hD sm st⟩
def spRetold (A:Adr):Sp:=fun vs H Q _=>∃ (p d1 d2:Addr) (j1 j2 k1 k2:List (List Key × V)),vs = [.ref p,.ref d1,.ref d2] /\ xq2 A H p j1 j2 /\ H d1 = some (.dT k1) /\ H d2 = some (.dT k2) /\ One k1 k2 /\ ∀ x H',H x = none -> xq2 A H' x k1 k2 -> Same H H' -> Q (.ref x) H'
theorem zg3 (T:Txt K mg A):FnOk P w K mg base CX0 6 A.ei1 A.ej1 ["part","tells","alone"] (spRetold A):=by
 have G_Part_init:=xv8 (P:=P) (w:=w) (base:=base) T
 refine T.ez1.ok ze4 (fun vs H Q E h=>?_) (fun cdv Ar outer s H vs Q E hr h=>?_)
 ·obtain ⟨p,d1,d2,j1,j2,k1,k2,rfl,hp,h1,h2,ho,k⟩:=h
  rfl
 ·obtain ⟨p,d1,d2,j1,j2,k1,k2,rfl,hp,h1,h2,ho,k⟩:=h
  refine ⟨_,(xa6 (xc3 (yg8 T.ej1 G_Part_init (hr.mono (by decide)) (by rfl) T.ef4 T.ef1 .nil xc9 (xa1 (pv 1) (xa1 (pv 2) (xa1 (xb7 K (pv 0)) (xa1 (xb7 K (pv 0)) (xa1 (xb7 K (pv 0)) xa5)))))))),?_⟩
  obtain ⟨dp,e1,e2,hp,_,_⟩:=hp
  refine ⟨_,rfl,_,rfl,_,rfl,p,A.eu2,dp,_,_,rfl,hp,T.ee4,T.ei4,rfl,?_⟩
  refine ⟨_,rfl,p,A.eu2,dp,_,_,rfl,hp,T.ee4,T.ej4,rfl,?_⟩
  refine ⟨_,rfl,p,A.eu2,dp,_,_,rfl,hp,T.ee4,T.ek4,rfl,?_⟩
  intro x dx nx ndx nex
  have sD:Same H (upd (upd H dx (.own x)) x (.ins A.eu2 dx [])):=(Same.new ndx).upd nx
  refine ⟨x,dx,d1,d2,k1,k2,rfl,xa0,sD _ _ h1,sD _ _ h2,ho,fun H5 hP hk5=>⟨rfl,k x H5 nx hP fun b ob e=>?_⟩⟩
  exact hk5 b ob (xa3 e nx) (sD _ _ e)
def spPlace (A:Adr) (K:Frag):Sp:=fun vs H Q _=>∃ (c s:Addr) (u:Cu) (lm sd:Str) (w:Int),vs = [.ref c,.ref s,.int w,.int 0] /\ CueU A H c u /\ u.k1 = [] /\ u.k2 = [] /\ H s = some (.tup [.str lm,.str sd]) /\ xr1 lm = true /\ lm.length <= 1000 /\ inV (.str sd) xv2 = true /\ 0 <= w /\ w <= 1000000000 /\ ∀ H',Same H H' -> Q (.int 0) H'
theorem xw7 (T:Txt K mg A):FnOk P w K mg base CX0 4 A.eu1 A.ev1 ["cue","slot","worth","part"] (spPlace A K):=by
 have G_is_whole:=xn6 (P:=P) (w:=w) (base:=base) T
 have G_refuse_slot:=yc6 (P:=P) (w:=w) (base:=base) T
 have G_refuse_worth:=xp1 (P:=P) (w:=w) (base:=base) T
 refine T.er2.ok xj6 (fun vs H Q E h=>?_) (fun cdv Ar outer s H vs Q E hr h=>?_)
 ·obtain ⟨c,s,u,lm,sd,w,rfl,hc,hk1,hk2,hs,hl,hln,hsd,hw0,hw1,k⟩:=h
  rfl
 ·obtain ⟨c,s,u,lm,sd,w,rfl,hc,hk1,hk2,hs,hl,hln,hsd,hw0,hw1,k⟩:=h
  refine ⟨_,(xa4 (xh5 (xb2 G_refuse_slot (hr.mono (by decide)) (by rfl) T.eu T.es.kp T.et .nil xc9 (xa1 (pv 1) xa5)))
   (xa4 (xh5 (xb2 G_refuse_worth (hr.mono (by decide)) (by rfl) T.ex T.ev.kp T.ew .nil xc9 (xa1 (pv 2) xa5)))
   (xa4 (xh1 (PW.pt (yg5 (xf8 (xf7 (xb2 G_is_whole (hr.mono (by decide)) (by rfl) T.ec T.ea.kp T.eb .nil xc9 (xa1 (pv 3) xa5)))) (xv5 (xf8 (yu3 xw5 zf8 xa8 (pv 3) (xb0 (xi2 K) (by rfl) T.ee5 PySem.boot_len (xa1 (xb7 K (pv 0)) xa5))))))) (xa6 xl9) xc7)
   (xa4 (xd0 PassesOwn.never rfl (yg6 K (by rfl) T.ei5 (xa1 (xb7 K (pv 0)) xa5)) (xo9 (n:=2) K rfl (xe1 (xa9 (i:=4) xj6.nd rfl (Or.inl rfl)) (xe1 (xa9 (i:=5) xj6.nd rfl (Or.inl rfl)) xo8))) (xa6 (xh1 (PW.pt (yg5 (ye2 (yu7 (hu1 hr) (pv 1) (xb7 K (pv 5)))) (xv5 (ye2 (yu7 (hu1 hr) (pv 1) (xb7 K (pv 5))))))) (xa6 (xc3 (pv 4))) xc7)))
   (xa6 (xc3 (pv 3))))))),?_⟩
  refine yu0 (fun σ' G=>σ' = [some (.ref c),some (.ref s),some (.int w),some (.int 0),none,none] /\ Same H G) (fun N hN=>?_) ?_
  ·refine ⟨_,rfl,.ref s,rfl,zd7 hs hln hl hsd,fun H1 s1=>?_⟩
   refine ⟨_,rfl,w,rfl,hw0,hw1,?_⟩
   obtain ⟨dx,L,p,ec,eL,_⟩:=hc.keep s1
   refine ⟨_,rfl,0,rfl,_,rfl,iteF ?_⟩
   refine ⟨_,rfl,_,_,rfl,rfl,_,rfl,iteT ?_⟩
   refine ⟨_,rfl,c,A.ev2,dx,_,_,rfl,ec,T.en4,T.eq4,rfl,L,_,rfl,.inl (SqL.of eL),_,_,rfl,rfl,_,rfl,?_⟩
   exact iteF (hN _ _ ⟨rfl,s1⟩)
  rintro σ1 G1 ⟨rfl,s1⟩
  obtain ⟨dx,L,p,ec,eL,⟨dp,d1,d2,ep,e1,e2⟩,ho⟩:=hc.keep s1
  rw [hk1] at e1
  rw [hk2] at e2
  have hs1:=s1 _ _ hs
  refine ⟨_,rfl,c,A.ev2,dx,_,_,rfl,ec,T.en4,T.eq4,rfl,L,_,rfl,SqL.of eL,?_⟩
  refine yw6 (xs:=[V.ref p]) (fun i σ' G=>∃ v4 v5:Option V,σ' = [some (.ref c),some (.ref s),some (.int w),some (.int 0),v4,v5] /\ Same G1 G) ⟨none,none,rfl,Same.refl _⟩ (fun i σ' G _ hq=>?_) (fun i v q σ' G hv hq hqn=>?_) fun σ' G hq=>?_
  ·obtain ⟨_,_,_,sm⟩:=hq; exact SqL.of (sm _ _ eL)
  ·obtain ⟨v4,v5,rfl,sm⟩:=hq
   have ev:v = .ref p:=by simpa using List.mem_of_getElem? hv
   subst ev
   have sq:Same G1 (upd G q (.tup [.int (i:Nat),.ref p])):=sm.trans (Same.new hqn)
   refine ⟨q,_,rfl,SqT.of xa0,rfl,?_⟩
   refine ⟨_,_,rfl,_,_,rfl,rfl,?_⟩
   refine ⟨_,rfl,_,rfl,p,A.eu2,dp,_,_,rfl,sq _ _ ep,T.ee4,T.eg4,rfl,d1,_,rfl,DGet.t (k:=[Sum.inr lm,Sum.inr sd]) (sq _ _ e1) (sq _ _ hs1),_,rfl,iteF ?_⟩
   refine ⟨_,rfl,_,rfl,p,A.eu2,dp,_,_,rfl,sq _ _ ep,T.ee4,T.eh4,rfl,d2,_,rfl,DGet.t (k:=[Sum.inr lm,Sum.inr sd]) (sq _ _ e2) (sq _ _ hs1),_,rfl,iteF ?_⟩
   exact ⟨_,_,rfl,sq⟩
  ·obtain ⟨v4,v5,rfl,sm⟩:=hq
   exact ⟨_,rfl,k _ (s1.trans sm)⟩
def wgt (us:List Cu):Nat:=(us.map fun u=>u.k1.length + u.k2.length).sum
theorem yf8 (us:List Cu) (u:Cu):wgt (us ++ [u]) = wgt us + (u.k1.length + u.k2.length):=by
 unfold wgt; rw [List.map_append,List.sum_append]; simp
def spWeight (A:Adr):Sp:=fun vs H Q _=>∃ (l:Addr) (cs:List Addr) (us:List Cu),vs = [.ref l] /\ H l = some (.lst (cs.map V.ref)) /\ cs.length <= 900 /\ xt8 A H cs us /\ xo3 us /\ ∀ H',Same H H' -> Q (.int ((wgt us:Nat):Int)) H'
theorem zg2 (T:Txt K mg A):FnOk P w K mg base CX0 2 A.ew1 A.ex1 ["cues"] (spWeight A):=by
 have G_cue_list:=xz6 (P:=P) (w:=w) (base:=base) T
 refine T.eu2.ok xm1 (fun vs H Q E h=>?_) (fun cdv Ar outer s H vs Q E hr h=>?_)
 ·obtain ⟨l,cs,us,rfl,hl,hz,hc,hri,k⟩:=h
  rfl
 ·obtain ⟨l,cs,us,rfl,hl,hz,hc,hri,k⟩:=h
  refine ⟨_,(xa4 (xb6 (i:=1) xm1.nd rfl (Or.inl rfl) xa8)
   (xa4 (xd0 PassesOwn.never rfl (xb8 K (xb2 G_cue_list (hr.mono (by decide)) (by rfl) T.ey1 T.ew1.kp T.ex1 .nil xc9 (xa1 (pv 0) xa5))) (xa9 (i:=2) xm1.nd rfl (Or.inl rfl)) (xa4 (xh1 (xf7 (xb7 K (pv 2))) (xa6 (ze6 (i:=1) xm1.nd rfl (Or.inl rfl) xa8 yv9)) xc7)
   (xa6 (xd0 PassesOwn.never rfl (xb8 K (xb7 K (pv 2))) (xa9 (i:=3) xm1.nd rfl (Or.inl rfl)) (xa6 (ze6 (i:=1) xm1.nd rfl (Or.inl rfl) (xc4 xf9 (xb0 xp9 (by rfl) T.ee5 PySem.boot_len (xa1 (xb7 K (pv 3)) xa5)) (xb0 xp9 (by rfl) T.ee5 PySem.boot_len (xa1 (xb7 K (pv 3)) xa5))) yv9))))))
   (xa6 (xc3 (pv 1))))),?_⟩
  refine ⟨_,rfl,l,cs,us,rfl,hl,hz,hc,hri,fun m H1 hm gm s1=>⟨m,rfl,⟨_,SqL.of gm⟩,xf1 (xs:=cs.map V.ref) (fun i σ' G=>∃ v2 v3:Option V,σ' = [some (.ref l),some (.int ((wgt (us.take i):Nat):Int)),v2,v3] /\ G = H1) ⟨none,none,rfl,rfl⟩ (fun i σ' G _ hq=>?_) (fun i v σ' G hv hq=>?_) fun σ' G hq=>?_⟩⟩
  ·obtain ⟨_,_,_,rfl⟩:=hq; exact SqL.of gm
  ·obtain ⟨v2,v3,rfl,rfl⟩:=hq
   rw [List.getElem?_map] at hv
   obtain ⟨c,hcc,rfl⟩:=Option.map_eq_some_iff.mp hv
   obtain ⟨u,hu,dx,L,p,ec,eL,⟨dp,d1,d2,ep,e1,e2⟩,_⟩:=paired_at (hc.keep s1) hcc
   refine ⟨_,rfl,c,A.ev2,dx,_,_,rfl,ec,T.en4,T.er4,rfl,_,rfl,iteF ?_⟩
   refine ⟨_,rfl,c,A.ev2,dx,_,_,rfl,ec,T.en4,T.eq4,rfl,L,rfl,⟨_,SqL.of eL⟩,xf1 (xs:=[V.ref p]) (fun j σ' G'=>∃ v3:Option V,σ' = [some (.ref l),some (.int (((wgt (us.take i) + if j = 0 then 0 else u.k1.length + u.k2.length:Nat)):Int)),some (.ref c),v3] /\ G' = G) ⟨_,rfl,rfl⟩ (fun j σ' G' _ hq=>?_) (fun j v σ' G' hv hq=>?_) fun σ' G' hq=>?_⟩
   ·obtain ⟨_,_,rfl⟩:=hq; exact SqL.of eL
   ·obtain ⟨v3,rfl,rfl⟩:=hq
    have hj:j = 0:=by have:=(List.getElem?_eq_some_iff.mp hv).1; simpa using this
    subst hj
    obtain rfl:V.ref p = v:=by simpa using hv
    refine ⟨_,rfl,_,rfl,p,A.eu2,dp,_,_,rfl,ep,T.ee4,T.eg4,rfl,d1,_,rfl,e1,?_⟩
    refine ⟨_,rfl,p,A.eu2,dp,_,_,rfl,ep,T.ee4,T.eh4,rfl,d2,_,rfl,e2,_,_,rfl,rfl,_,_,rfl,rfl,?_⟩
    refine ⟨some (.ref p),?_,rfl⟩
    rw [if_pos rfl,if_neg (by decide)]
    exact congrArg (fun z=>[some (V.ref l),some (V.int z),some (.ref c),some (.ref p)]) (by show ((_ + 0:Nat):Int) + (((u.k1.length:Nat):Int) + ((u.k2.length:Nat):Int)) = _; omega)
   ·obtain ⟨v3,rfl,rfl⟩:=hq
    refine ⟨some (.ref c),v3,?_,rfl⟩
    rw [xf5 hu,yf8]; rfl
  ·obtain ⟨v2,v3,rfl,rfl⟩:=hq
   have hlen:cs.length = us.length:=Paired.length hc
   rw [List.length_map,hlen,List.take_length]
   exact ⟨_,rfl,k _ s1⟩
def zd4 (A:Adr):Sp:=fun vs H Q _=>∃ (l:Addr) (cs:List Addr) (us:List Cu),vs = [.ref l] /\ H l = some (.lst (cs.map V.ref)) /\ cs.length <= 900 /\ xt8 A H cs us /\ Q (.int ((wgt us:Nat):Int)) H
theorem yh1 (T:Txt K mg A):FnOk P w K mg base CX0 1 A.ey1 A.ez1 ["_law_cues"] (zd4 A):=by
 refine T.ex2.ok xg4 (fun vs H Q E h=>?_) (fun cdv Ar outer s H vs Q E hr h=>?_)
 ·obtain ⟨l,cs,us,rfl,hl,hz,hc,k⟩:=h
  rfl
 ·obtain ⟨l,cs,us,rfl,hl,hz,hc,k⟩:=h
  refine ⟨_,(xa4 (xb6 (i:=1) xg4.nd rfl (Or.inl rfl) xa8)
   (xa4 (xd0 PassesOwn.never rfl (xb8 K (pv 0)) (xa9 (i:=2) xg4.nd rfl (Or.inl rfl)) (xa4 (xb6 (i:=1) xg4.nd rfl (Or.inl rfl) (xc4 xf9 (pv 1) (xd6 zl6 (by rfl) T.ew4 yj3 (xa1 (xb7 K (pv 2)) xa5))))
   (xa6 (xd0 PassesOwn.never rfl (xb8 K (xb7 K (pv 2))) (xa9 (i:=3) xg4.nd rfl (Or.inl rfl)) (xa6 (xb6 (i:=1) xg4.nd rfl (Or.inl rfl) (xc4 xf9 (xc4 xf9 (pv 1) (xb0 xp9 (by rfl) T.ee5 PySem.boot_len (xa1 (xb7 K (pv 3)) xa5))) (xb0 xp9 (by rfl) T.ee5 PySem.boot_len (xa1 (xb7 K (pv 3)) xa5)))))))))
   (xa6 (xc3 (pv 1))))),?_⟩
  refine ⟨_,rfl,l,rfl,⟨_,SqL.of hl⟩,xf1 (xs:=cs.map V.ref) (fun i σ' G=>∃ v2 v3:Option V,σ' = [some (.ref l),some (.int ((wgt (us.take i):Nat):Int)),v2,v3] /\ G = H) ⟨none,none,rfl,rfl⟩ (fun i σ' G _ hq=>?_) (fun i v σ' G hv hq=>?_) fun σ' G hq=>?_⟩
  ·obtain ⟨_,_,_,rfl⟩:=hq; exact SqL.of hl
  ·obtain ⟨v2,v3,rfl,rfl⟩:=hq
   rw [List.getElem?_map] at hv
   obtain ⟨c,hcc,rfl⟩:=Option.map_eq_some_iff.mp hv
   obtain ⟨u,hu,dx,L,p,ec,eL,⟨dp,d1,d2,ep,e1,e2⟩,_⟩:=paired_at hc hcc
   refine ⟨_,rfl,_,rfl,c,A.ev2,dx,_,_,rfl,ec,T.en4,T.er4,rfl,.inr ⟨false,rfl,_,_,rfl,rfl,?_⟩⟩
   refine ⟨_,rfl,c,A.ev2,dx,_,_,rfl,ec,T.en4,T.eq4,rfl,L,rfl,⟨_,SqL.of eL⟩,xf1 (xs:=[V.ref p]) (fun j σ' G'=>∃ v3:Option V,σ' = [some (.ref l),some (.int (((wgt (us.take i) + if j = 0 then 0 else u.k1.length + u.k2.length:Nat)):Int)),some (.ref c),v3] /\ G' = G) ⟨_,rfl,rfl⟩ (fun j σ' G' _ hq=>?_) (fun j v σ' G' hv hq=>?_) fun σ' G' hq=>?_⟩
   ·obtain ⟨_,_,rfl⟩:=hq; exact SqL.of eL
   ·obtain ⟨v3,rfl,rfl⟩:=hq
    have hj:j = 0:=by have:=(List.getElem?_eq_some_iff.mp hv).1; simpa using this
    subst hj
    obtain rfl:V.ref p = v:=by simpa using hv
    refine ⟨_,rfl,_,rfl,p,A.eu2,dp,_,_,rfl,ep,T.ee4,T.eg4,rfl,d1,_,rfl,e1,_,_,rfl,rfl,?_⟩
    refine ⟨_,rfl,p,A.eu2,dp,_,_,rfl,ep,T.ee4,T.eh4,rfl,d2,_,rfl,e2,_,_,rfl,rfl,?_⟩
    refine ⟨some (.ref p),?_,rfl⟩
    rw [if_pos rfl,if_neg (by decide)]
    exact congrArg (fun z=>[some (V.ref l),some (V.int z),some (.ref c),some (.ref p)]) (by show ((_ + 0:Nat):Int) + ((u.k1.length:Nat):Int) + ((u.k2.length:Nat):Int) = _; omega)
   ·obtain ⟨v3,rfl,rfl⟩:=hq
    refine ⟨some (.ref c),v3,?_,rfl⟩
    rw [xf5 hu,yf8]; rfl
  ·obtain ⟨v2,v3,rfl,rfl⟩:=hq
   have hlen:cs.length = us.length:=Paired.length hc
   rw [List.length_map,hlen,List.take_length]
   exact ⟨_,rfl,k⟩
def spCell (K:Frag):Sp:=fun vs H Q _=>∃ (a:Addr) (ns:List Int) (i:Int),vs = [.ref a,.int i] /\ SqL K H a (ns.map V.int) /\ 0 <= i /\ ∀ v,Q (.int v) H
theorem xq4 (T:Txt K mg A):FnOk P w K mg base CX0 1 A.ea2 A.eb2 ["_law_script","_law_k"] (spCell K):=by
 refine T.ea3.ok yc4 (fun vs H Q E h=>?_) (fun cdv Ar outer s H vs Q E hr h=>?_)
 ·obtain ⟨a,ns,i,rfl,hS,hi,k⟩:=h
  rfl
 ·obtain ⟨a,ns,i,rfl,hS,hi,k⟩:=h
  refine ⟨_,(xa4 (xh1 (xh0 zf8 (pv 1) (xb0 (xi2 K) (by rfl) T.ee5 PySem.boot_len (xa1 (pv 0) xa5)) (xi4 _)) (xa6 (xc3 (xi3 (xc1 K) (pv 0) (pv 1) (fun _ _=>rfl)))) xc7)
   (xa6 (xc3 xa8))),?_⟩
  refine ⟨_,rfl,_,rfl,a,_,rfl,.inl hS,_,_,rfl,rfl,_,rfl,?_⟩
  refine ite2 (fun c=>?_) (fun c=>?_)
  ·have c:=of_decide_eq_true c
   rw [List.length_map] at c
   obtain ⟨v,hv⟩:∃ v,ns[i.toNat]? = some v:=⟨_,List.getElem?_eq_getElem (by omega)⟩
   refine ⟨_,rfl,_,rfl,a,_,_,_,rfl,rfl,hS,?_,k v⟩
   have:=xe6 (xs:=ns.map V.int) (j:=i.toNat) (v:=.int v) (by rw [List.getElem?_map,hv]; rfl)
   rwa [Int.toNat_of_nonneg hi] at this
  ·exact k 0
def spWholeT (K:Frag):Sp:=fun vs H Q _=>∃ i:Int,vs = [.int i] /\ Q (.bl true) H
theorem xv7 (T:Txt K mg A):FnOk P w K mg base CX0 1 A.ec2 A.ed2 ["_law_found"] (spWholeT K):=by
 refine T.ed3.ok yl4 (fun vs H Q E h=>?_) (fun cdv Ar outer s H vs Q E hr h=>?_)
 ·obtain ⟨i,rfl,k⟩:=h
  rfl
 ·obtain ⟨i,rfl,k⟩:=h
  refine ⟨_,(xa6 (xc3 (xp0 (xb0 (xf2 K) (by rfl) T.ev4 xb1 (xa1 (pv 0) (xa1 (xw4 (by rfl) T.ew4 yj3) xa5))) (xq3 (pe_not (xb0 (xf2 K) (by rfl) T.ev4 xb1 (xa1 (pv 0) (xa1 (xw4 (by rfl) T.ex4 yb9) xa5)))))))),?_⟩
  refine ⟨_,rfl,_,_,_,_,rfl,.int i,xr2 (.inr (.inr (.inl rfl))) (.inl rfl),_,rfl,iteT ?_⟩
  exact ⟨_,rfl,_,_,_,_,rfl,.int i,xr2 (.inr (.inr (.inl rfl))) (.inr (.inl rfl)),_,rfl,k⟩
def spDraw:Sp:=fun vs H Q _=>∃ c p:Int,vs = [.int c,.int p] /\ 0 <= p /\ p <= 400 /\ ∀ v,0 <= v -> v < 2147483648 -> Q (.int v) H
theorem pp {p:Int} (h:0 <= p) (h':p <= 400):-18446744073709551616 < 48271 + 7919 * p * p /\ 48271 + 7919 * p * p < 18446744073709551616:=by
 have h1:0 <= 7919 * p * p:=Int.mul_nonneg (by omega) h
 have h2:7919 * p * p <= 3167600 * 400:=Int.mul_le_mul (by omega) h' h (by omega)
 omega
theorem md {x m:Int} (h:0 < m) (h':m < 18446744073709551616):-18446744073709551616 < x % m /\ x % m < 18446744073709551616:=by
 have h1:=Int.emod_nonneg x (Int.ne_of_gt h)
 have h2:=Int.emod_lt_of_pos x h
 omega
theorem xq8 (T:Txt K mg A):FnOk P w K mg base CX0 1 A.ee2 A.ef2 ["_law_cell","_law_place"] (spDraw):=by
 refine T.eg3.ok xq6 (fun vs H Q E h=>?_) (fun cdv Ar outer s H vs Q E hr h=>?_)
 ·obtain ⟨c,p,rfl,hp,hp',k⟩:=h
  rfl
 ·obtain ⟨c,p,rfl,hp,hp',k⟩:=h
  refine ⟨_,(xa4 (xb6 (i:=2) xq6.nd rfl (Or.inl rfl) (xc4 op_shr (pv 0) (xc4 xf9 xa8 (xc4 ye4 xa8 (xc4 xl6 (pv 1) xa8)))))
   (xa4 (xh1 (PW.pt (ze5 (xh0 yz2 (xc4 xl6 (pv 0) xa8) xa8 (xi4 _)) (yq7 (xh0 op_ne (pv 2) xa8 (xi4 _))))) (xa6 (xc3 (xc4 xl6 (pv 2) xa8))) xc7)
   (xa4 (xb6 (i:=3) xq6.nd rfl (Or.inl rfl) (xc4 xl6 (xc4 ye4 (xc4 xf9 (xc4 xl6 (xc4 yu8 (pv 0) xa8) (xc4 yr4 xa8 xa8)) xa8) (xc4 xf9 xa8 (xc4 ye4 (xc4 ye4 xa8 (pv 1)) (pv 1)))) xa8))
   (xa6 (xc3 (xc4 xl6 (xc4 ye4 (pv 3) (pv 3)) xa8)))))),?_⟩
  refine xn5 (fun σ' H'=>∃ o:Int,σ' = [some (.int c),some (.int p),some (.int o),none] /\ H' = H) (fun N hN=>?_) ?_
  ·simp only [tSeq,tIfS,tAsg,za8,tRet,tRetN,tNext,zd1,zc8,tB,tOp,tUn,rI,rI0,rU,rEq,rNe,scal,tVar,tC,tCB,zd2,tNil,tCall,tAnd,tOr,tNot,tAndV,tOrV,tNotV,tLstS,tTupS,tMenu,yn0,zb9,L2.start,CMul,zl8,CPowS,List.map_cons,List.map_nil,List.length_cons,List.length_nil,List.cons_append,List.nil_append,List.append_nil,List.getElem?_cons_zero,List.getElem?_cons_succ,List.set_cons_zero,List.set_cons_succ,Nat.reduceAdd,Nat.reduceSub,Nat.zero_add,List.reduceReplicate,Option.some.injEq,exists_eq_left',exists_eq_left,exists_and_left,and_assoc,V.int.injEq,V.bl.injEq,V.ref.injEq,V.ty.injEq,List.cons.injEq,and_true,true_and,decide_eq_true_eq,reduceCtorEq,false_and,and_false,exists_false,Bool.false_eq_true,if_true,if_false,exists_const,true_or,or_true,false_or,or_false,Bool.not_eq_true',decide_eq_false_iff_not,ite_not,Bool.not_true,Bool.not_false,Nat.reduceLeDiff,Int.reduceLT,Int.reduceLE,Int.reduceNeg,Int.reducePow,Int.reduceToNat,Int.reduceAdd,Int.reduceMul,Int.reduceSub,Nat.reducePow,Nat.reduceLT,Int.natCast_add,Int.cast_ofNat_Int,decide_true,decide_false,Int.natCast_zero,Int.zero_add,String.reduceEq]
   refine ⟨by omega,?_⟩
   have k1:∀ x:Int,Q (V.int (x % 2147483648)) H:=fun x=>k _ (Int.emod_nonneg x (by omega)) (Int.emod_lt_of_pos x (by omega))
   split
   ·split
    ·exact hN _ _ ⟨_,rfl,rfl⟩
    ·exact k1 _
   ·exact hN _ _ ⟨_,rfl,rfl⟩
  ·rintro σ' H' ⟨o,rfl,rfl⟩
   simp only [tSeq,tIfS,tAsg,za8,tRet,tRetN,tNext,zd1,zc8,tB,tOp,tUn,rI,rI0,rU,rEq,rNe,scal,tVar,tC,tCB,zd2,tNil,tCall,tAnd,tOr,tNot,tAndV,tOrV,tNotV,tLstS,tTupS,tMenu,yn0,zb9,L2.start,CMul,zl8,CPowS,List.map_cons,List.map_nil,List.length_cons,List.length_nil,List.cons_append,List.nil_append,List.append_nil,List.getElem?_cons_zero,List.getElem?_cons_succ,List.set_cons_zero,List.set_cons_succ,Nat.reduceAdd,Nat.reduceSub,Nat.zero_add,List.reduceReplicate,Option.some.injEq,exists_eq_left',exists_eq_left,exists_and_left,and_assoc,V.int.injEq,V.bl.injEq,V.ref.injEq,V.ty.injEq,List.cons.injEq,and_true,true_and,decide_eq_true_eq,reduceCtorEq,false_and,and_false,exists_false,Bool.false_eq_true,if_true,if_false,exists_const,true_or,or_true,false_or,or_false,Bool.not_eq_true',decide_eq_false_iff_not,ite_not,Bool.not_true,Bool.not_false,Nat.reduceLeDiff,Int.reduceLT,Int.reduceLE,Int.reduceNeg,Int.reducePow,Int.reduceToNat,Int.reduceAdd,Int.reduceMul,Int.reduceSub,Nat.reducePow,Nat.reduceLT,Int.natCast_add,Int.cast_ofNat_Int,decide_true,decide_false,Int.natCast_zero,Int.zero_add,String.reduceEq]
   refine ⟨.inr ⟨by omega,by omega⟩,.inr (pp hp hp'),.inl (md (by omega) (by omega)),?_⟩
   exact k _ (Int.emod_nonneg _ (by omega)) (Int.lt_trans (Int.emod_lt_of_pos _ (by omega)) (by omega))
theorem xq2.hide {A:Adr} {H:Hp} {D p:Addr} {ys:List V} {k1 k2:List (List Key × V)} (h:xq2 A H p k1 k2) (hD:H D = some (.lst ys)):xq2 A (hide H D) p k1 k2:=by
 obtain ⟨dx,d1,d2,a,b,c⟩:=h
 exact ⟨dx,d1,d2,by rw [xn9 (xb9 a hD (by intro z; cases z))]; exact a,by rw [xn9 (xb9 b hD (by intro z; cases z))]; exact b,by rw [xn9 (xb9 c hD (by intro z; cases z))]; exact c⟩
theorem zg1 {α:Type}:∀ {l:List α} {i:Nat} {y:α},l.length <= 1 -> l[i]? = some y -> i = 0 /\ l = [y]
 | [z],0,y,_,e=>⟨rfl,by simpa using e⟩
 | [z],i + 1,y,_,e=>by simp at e
 | [],i,y,_,e=>by simp at e
 | _ :: _ :: _,_,_,h,_=>by simp at h
theorem CueU.off {A:Adr} {H G:Hp} {c d:Addr} {u:Cu} {kv:List Key × V} (h:CueU A H c u) (h1:u.k1 = []) (h2:u.k2 = []) (hd:H d = some (.dT [kv])) (s:∀ b ob,b ≠ d -> H b = some ob -> G b = some ob):CueU A G c u:=by
 obtain ⟨dx,L,p,a,b,⟨dp,d1,d2,e,e1,e2⟩,t⟩:=h
 rw [h1] at e1
 rw [h2] at e2
 refine ⟨dx,L,p,s _ _ (xb9 a hd (by intro z; cases z)) a,s _ _ (xb9 b hd (by intro z; cases z)) b,⟨dp,d1,d2,s _ _ (xb9 e hd (by intro z; cases z)) e,?_,?_⟩,t⟩
 ·rw [h1]; exact s _ _ (xb9 e1 hd (by intro z; cases z)) e1
 ·rw [h2]; exact s _ _ (xb9 e2 hd (by intro z; cases z)) e2
def spTold (A:Adr) (K:Frag):Sp:=fun vs H Q _=>∃ (c d1 d2:Addr) (u:Cu) (k1 k2:List (List Key × V)),vs = [.ref c,.bl false,.ref d1,.ref d2] /\ CueU A H c u /\ u.k1 = [] /\ u.k2 = [] /\ 1 <= u.n /\ u.n <= 1000000000 /\ H d1 = some (.dT k1) /\ H d2 = some (.dT k2) /\ One k1 k2 /\ ∀ x H',CueN A H H' x ⟨u.n,k1,k2⟩ -> Same H H' -> Q (.ref x) H'
theorem yr5 (T:Txt K mg A):FnOk P w K mg base CX0 7 A.eg2 A.eh2 ["cue","stops","tells","alone"] (spTold A K):=by
 have G_Cue_init:=xz7 (P:=P) (w:=w) (base:=base) T
 have G_place_to_tell:=xw7 (P:=P) (w:=w) (base:=base) T
 have G_retold:=zg3 (P:=P) (w:=w) (base:=base) T
 refine T.ej3.ok xf6 (fun vs H Q E h=>?_) (fun cdv Ar outer s H vs Q E hr h=>?_)
 ·obtain ⟨c,d1,d2,u,k1,k2,rfl,hc,hz1,hz2,hn1,hn2,h1,h2,ho,k⟩:=h
  rfl
 ·obtain ⟨c,d1,d2,u,k1,k2,rfl,hc,hz1,hz2,hn1,hn2,h1,h2,ho,k⟩:=h
  refine ⟨_,(xa4 (xb6 (i:=4) xf6.nd rfl (Or.inr rfl) (xh6 ["part"] [none] rfl (xb8 K (xb7 K (pv 0))) (fun _ _ _=>(xa9 (i:=0) yc9 rfl (Or.inl rfl))) (fun _ _ _=>xj2)))
   (xa4 (xb6 (i:=5) xf6.nd rfl (Or.inr rfl) (xh6 ["part"] [none] rfl (xb8 K (xb7 K (pv 0))) (fun _ _ _=>(xa9 (i:=0) yd0 rfl (Or.inl rfl))) (fun _ _ _=>xj2)))
   (xa4 (xy7 (xd0 PassesOwn.never rfl (xx1 (xs0 (pv 2))) (xo9 (n:=2) K rfl (xe1 (xa9 (i:=6) xf6.nd rfl (Or.inl rfl)) (xe1 (xa9 (i:=7) xf6.nd rfl (Or.inl rfl)) xo8))) (xa6 (xl8 (hu1 hr) (xi3 (xc1 K) (pv 4) (xb2 G_place_to_tell (hr.mono (by decide)) (by rfl) T.et2 T.er2.kp T.es2 .nil xc9 (xa1 (pv 0) (xa1 (pv 6) (xa1 (pv 7) (xa1 xa8 xa5))))) (fun _ _=>rfl)) (pv 6) (pv 7) rfl))))
   (xa4 (xy7 (xd0 PassesOwn.never rfl (xx1 (xs0 (pv 3))) (xo9 (n:=2) K rfl (xe1 (xa9 (i:=6) xf6.nd rfl (Or.inl rfl)) (xe1 (xa9 (i:=7) xf6.nd rfl (Or.inl rfl)) xo8))) (xa6 (xl8 (hu1 hr) (xi3 (xc1 K) (pv 5) (xb2 G_place_to_tell (hr.mono (by decide)) (by rfl) T.et2 T.er2.kp T.es2 .nil xc9 (xa1 (pv 0) (xa1 (pv 6) (xa1 (pv 7) (xa1 xa8 xa5))))) (fun _ _=>rfl)) (pv 6) (pv 7) rfl))))
   (xa4 (yy9 ["place","part","tells_by","alone_by"] [none,none,some 4,some 5] (i:=8) xf6.nd rfl (Or.inl rfl) rfl (yg6 K (by rfl) T.ei5 (xa1 (xb7 K (pv 0)) xa5)) (fun _ _ _=>(xo9 (n:=2) K rfl (xe1 (xa9 (i:=0) xq5 rfl (Or.inl rfl)) (xe1 (xa9 (i:=1) xq5 rfl (Or.inl rfl)) xo8)))) (fun _ _ _=>(xb2 G_retold (hr.mono (by decide)) (by rfl) T.eb2 T.ez1.kp T.ea2 .nil xc9 (xa1 (pv 1) (xa1 (xi3 (xc1 K) (pv 2) (pv 0) (fun _ _=>rfl)) (xa1 (xi3 (xc1 K) (pv 3) (pv 0) (fun _ _=>rfl)) xa5))))))
   (xa6 (xc3 (yg8 T.ev1 G_Cue_init (hr.mono (by decide)) (by rfl) T.eo4 T.er1 .nil xc9 (xa1 (xb7 K (pv 0)) (xa1 (pv 8) (xa1 (pv 1) (xa1 (xb7 K (pv 0)) xa5)))))))))))),?_⟩
  refine xb5 (fun σ' G=>∃ B b,σ' = [some (.ref c),some (.bl false),some (.ref d1),some (.ref d2),some (.ref B),none,none,none,none] /\ Same H G /\ G B = some (.lst [.ref b]) /\ G b = some (.dT []) /\ H b = none /\ H B = none) (fun N hN=>?_) ?_
  ·obtain ⟨dx,L,p,ec,eL,_⟩:=hc
   refine ⟨_,rfl,c,A.ev2,dx,_,_,rfl,ec,T.en4,T.eq4,rfl,L,rfl,⟨_,SqL.of eL⟩,fun D hD=>?_⟩
   refine xx5 (fun σ=>σ.length = 1) (SqL.of eL) hD (by show 1 <= 1000; decide) rfl (fun x σ' G R ho q=>?_) fun bs G sm hDl hbl _ hb=>?_
   ·match σ',ho with | [_],_=>exact q _ rfl
   ·match bs,hbl with | [b],_=>exact hN _ _ ⟨D,b,rfl,sm,hDl,(hb b (by simp)).1,(hb b (by simp)).2,hD⟩
  rintro σ1 G1 ⟨B1,b1,rfl,s1,hB1,hb1,nb1,nB1⟩
  refine xb5 (fun σ' G=>∃ B b,σ' = [some (.ref c),some (.bl false),some (.ref d1),some (.ref d2),some (.ref B1),some (.ref B),none,none,none] /\ Same G1 G /\ G B = some (.lst [.ref b]) /\ G b = some (.dT []) /\ G1 b = none /\ G1 B = none) (fun N hN=>?_) ?_
  ·obtain ⟨dx,L,p,ec,eL,_⟩:=hc.keep s1
   refine ⟨_,rfl,c,A.ev2,dx,_,_,rfl,ec,T.en4,T.eq4,rfl,L,rfl,⟨_,SqL.of eL⟩,fun D hD=>?_⟩
   refine xx5 (fun σ=>σ.length = 1) (SqL.of eL) hD (by show 1 <= 1000; decide) rfl (fun x σ' G R ho q=>?_) fun bs G sm hDl hbl _ hb=>?_
   ·match σ',ho with | [_],_=>exact q _ rfl
   ·match bs,hbl with | [b],_=>exact hN _ _ ⟨D,b,rfl,sm,hDl,(hb b (by simp)).1,(hb b (by simp)).2,hD⟩
  rintro σ2 G2 ⟨B2,b2,rfl,s2,hB2,hb2,nb2,nB2⟩
  have sH1:=s1.trans s2
  have nH1:=nb1
  have gB1:=s2 _ _ hB1
  have gb1:=s2 _ _ hb1
  have gB2:=hB2
  have nH2:H b2 = none:=s1.free nb2
  have n12:b2 ≠ b1:=fun z=>by rw [z,hb1] at nb2; cases nb2
  refine xb5 (fun σ' G=>∃ v6 v7:Option V,σ' = [some (.ref c),some (.bl false),some (.ref d1),some (.ref d2),some (.ref B1),some (.ref B2),v6,v7,none] /\ G b1 = some (.dT k1) /\ ∀ a ob,a ≠ b1 -> G2 a = some ob -> G a = some ob) (fun N hN=>?_) ?_
  ·have gd:=sH1 _ _ h1
   have nbd:b1 ≠ d1:=fun z=>by rw [z,h1] at nH1; cases nH1
   refine ⟨d1,k1,gd,fun o xs es ep D kt=>?_⟩
   have hk:=xm9 D
   have hv:=xj4 D kt
   have hxl:xs.length = k1.length:=(Paired.length kt).symm
   refine ⟨_,rfl,d1,o,es,ep,rfl,xa0,D.sys,D.ex,D.data,fun p hp=>?_⟩
   have pd:d1 ≠ p:=by rintro rfl; rw [xa0] at hp; cases hp
   have hp0:G2 p = none:=by rw [xa2 (Ne.symm pd)] at hp; exact hp
   refine ⟨p,d1,o,_,_,es,ep,rfl,xa0,by rw [xa2 pd,xa0],D.ex,D.data,hk,hv,?_⟩
   refine xt1 (fun i σ' G=>∃ v6 v7:Option V,σ' = [some (.ref c),some (.bl false),some (.ref d1),some (.ref d2),some (.ref B1),some (.ref B2),v6,v7,none] /\ G d1 = some (held d1 o) /\ G b1 = some (.dT (k1.take i)) /\ ∀ a ob,a ≠ b1 -> a ≠ d1 -> G2 a = some ob -> G a = some ob) ⟨_,_,rfl,by rw [xa2 pd,xa0],by rw [xa2 (xa3 gb1 hp0),xa2 nbd]; exact gb1,fun a ob _ ha e=>by rw [xa2 (xa3 e hp0),xa2 ha]; exact e⟩ (fun i σ' G _ hq=>?_) (fun i kx v q σ' G hki hvi hq hqn=>?_) fun σ' G hq=>?_
   ·obtain ⟨_,_,_,h,_⟩:=hq; exact h
   ·obtain ⟨v6,v7,rfl,g1,g2,go⟩:=hq
    rw [List.getElem?_map] at hki hvi
    obtain ⟨x,hx,rfl⟩:=Option.map_eq_some_iff.mp hki
    obtain ⟨kv,hkv,rfl⟩:=Option.map_eq_some_iff.mp hvi
    obtain ⟨x',hx',hrel⟩:=paired_at kt hkv
    rw [hx] at hx'
    cases hx'
    obtain ⟨lm,sd,n,rfl,l1,l2,l3,n0,n1⟩:=ho.t1.2 kv (List.mem_of_getElem? hkv)
    have hk1:=zg1 ho.t1.1 hkv
    obtain ⟨rfl,ek⟩:=hk1
    have hxt:G2 x.2.1 = some (.tup [.str lm,.str sd]):=hrel.2.1
    have gx:=go _ _ (xb9 hxt gb1 (by intro z; cases z)) (xb9 hxt gd (by intro z; cases z)) hxt
    have sq:Same G (upd G q (.tup [.ref x.2.1,.int n])):=Same.new hqn
    have cu:CueU A (upd G q (.tup [.ref x.2.1,.int n])) c u:=hc.off hz1 hz2 (by rw [h1,ek]) fun a ob ha e=>sq _ _ (go a ob (xa3 e nH1) ha (sH1 _ _ e))
    refine ⟨q,_,rfl,SqT.of xa0,rfl,?_⟩
    refine ⟨_,_,rfl,_,_,rfl,rfl,?_⟩
    refine ⟨_,rfl,_,rfl,_,rfl,_,rfl,_,rfl,c,x.2.1,u,lm,sd,n,rfl,cu,hz1,hz2,sq _ _ gx,l1,l2,l3,n0,n1,fun H3 s3=>?_⟩
    have s4:=sq.trans s3
    have gB:=s4 _ _ (go _ _ (xb9 gB1 gb1 (by intro z; cases z)) (xb9 gB1 gd (by intro z; cases z)) gB1)
    refine ⟨B1,_,_,_,rfl,rfl,SqL.of gB,xe6 (j:=0) rfl,_,rfl,b1,_,rfl,DPut.t (k:=xh4 lm sd) (s4 _ _ g2) (s4 _ _ gx) (by show 0 < sizeLine; decide),?_⟩
    refine ⟨_,_,rfl,by rw [xa2 (Ne.symm nbd)]; exact s4 _ _ g1,?_,fun a ob h1 h2 e=>by rw [xa2 h1]; exact s4 _ _ (go a ob h1 h2 e)⟩
    rw [xa0,ek]; rfl
   ·obtain ⟨v6,v7,rfl,g1,g2,go⟩:=hq
    rw [List.length_map,hxl,List.take_length] at g2
    refine ⟨g1,fun a ys e=>go a _ (xb9 e gb1 (by intro z; cases z)) (xb9 e gd (by intro z; cases z)) e,hN _ _ ⟨_,_,rfl,by rw [xa2 nbd]; exact g2,fun a ob ha e=>?_⟩⟩
    by_cases z:a = d1
    ·rw [z,xa0]; rw [z,gd] at e; exact e
    ·rw [xa2 z]; exact go a ob ha z e
  rintro σ3 G3 ⟨v6,v7,rfl,fb1,k3⟩
  have sH2:Same H G3:=fun a ob e=>k3 a ob (xa3 e nb1) (sH1 _ _ e)
  have gb2:=k3 _ _ n12 hb2
  replace gB2:=k3 _ _ (xb9 hB2 gb1 (by intro z; cases z)) gB2
  replace gB1:=k3 _ _ (xb9 gB1 gb1 (by intro z; cases z)) gB1
  clear gb1
  refine xb5 (fun σ' G=>∃ v6 v7:Option V,σ' = [some (.ref c),some (.bl false),some (.ref d1),some (.ref d2),some (.ref B1),some (.ref B2),v6,v7,none] /\ G b2 = some (.dT k2) /\ ∀ a ob,a ≠ b2 -> G3 a = some ob -> G a = some ob) (fun N hN=>?_) ?_
  ·have gd:=sH2 _ _ h2
   have nbd:b2 ≠ d2:=fun z=>by rw [z,h2] at nH2; cases nH2
   refine ⟨d2,k2,gd,fun o xs es ep D kt=>?_⟩
   have hk:=xm9 D
   have hv:=xj4 D kt
   have hxl:xs.length = k2.length:=(Paired.length kt).symm
   refine ⟨_,rfl,d2,o,es,ep,rfl,xa0,D.sys,D.ex,D.data,fun p hp=>?_⟩
   have pd:d2 ≠ p:=by rintro rfl; rw [xa0] at hp; cases hp
   have hp0:G3 p = none:=by rw [xa2 (Ne.symm pd)] at hp; exact hp
   refine ⟨p,d2,o,_,_,es,ep,rfl,xa0,by rw [xa2 pd,xa0],D.ex,D.data,hk,hv,?_⟩
   refine xt1 (fun i σ' G=>∃ v6 v7:Option V,σ' = [some (.ref c),some (.bl false),some (.ref d1),some (.ref d2),some (.ref B1),some (.ref B2),v6,v7,none] /\ G d2 = some (held d2 o) /\ G b2 = some (.dT (k2.take i)) /\ ∀ a ob,a ≠ b2 -> a ≠ d2 -> G3 a = some ob -> G a = some ob) ⟨_,_,rfl,by rw [xa2 pd,xa0],by rw [xa2 (xa3 gb2 hp0),xa2 nbd]; exact gb2,fun a ob _ ha e=>by rw [xa2 (xa3 e hp0),xa2 ha]; exact e⟩ (fun i σ' G _ hq=>?_) (fun i kx v q σ' G hki hvi hq hqn=>?_) fun σ' G hq=>?_
   ·obtain ⟨_,_,_,h,_⟩:=hq; exact h
   ·obtain ⟨v6,v7,rfl,g1,g2,go⟩:=hq
    rw [List.getElem?_map] at hki hvi
    obtain ⟨x,hx,rfl⟩:=Option.map_eq_some_iff.mp hki
    obtain ⟨kv,hkv,rfl⟩:=Option.map_eq_some_iff.mp hvi
    obtain ⟨x',hx',hrel⟩:=paired_at kt hkv
    rw [hx] at hx'
    cases hx'
    obtain ⟨lm,sd,n,rfl,l1,l2,l3,n0,n1⟩:=ho.t2.2 kv (List.mem_of_getElem? hkv)
    have hk1:=zg1 ho.t2.1 hkv
    obtain ⟨rfl,ek⟩:=hk1
    have hxt:G3 x.2.1 = some (.tup [.str lm,.str sd]):=hrel.2.1
    have gx:=go _ _ (xb9 hxt gb2 (by intro z; cases z)) (xb9 hxt gd (by intro z; cases z)) hxt
    have sq:Same G (upd G q (.tup [.ref x.2.1,.int n])):=Same.new hqn
    have cu:CueU A (upd G q (.tup [.ref x.2.1,.int n])) c u:=hc.off hz1 hz2 (by rw [h2,ek]) fun a ob ha e=>sq _ _ (go a ob (xa3 e nH2) ha (sH2 _ _ e))
    refine ⟨q,_,rfl,SqT.of xa0,rfl,?_⟩
    refine ⟨_,_,rfl,_,_,rfl,rfl,?_⟩
    refine ⟨_,rfl,_,rfl,_,rfl,_,rfl,_,rfl,c,x.2.1,u,lm,sd,n,rfl,cu,hz1,hz2,sq _ _ gx,l1,l2,l3,n0,n1,fun H3 s3=>?_⟩
    have s4:=sq.trans s3
    have gB:=s4 _ _ (go _ _ (xb9 gB2 gb2 (by intro z; cases z)) (xb9 gB2 gd (by intro z; cases z)) gB2)
    refine ⟨B2,_,_,_,rfl,rfl,SqL.of gB,xe6 (j:=0) rfl,_,rfl,b2,_,rfl,DPut.t (k:=xh4 lm sd) (s4 _ _ g2) (s4 _ _ gx) (by show 0 < sizeLine; decide),?_⟩
    refine ⟨_,_,rfl,by rw [xa2 (Ne.symm nbd)]; exact s4 _ _ g1,?_,fun a ob h1 h2 e=>by rw [xa2 h1]; exact s4 _ _ (go a ob h1 h2 e)⟩
    rw [xa0,ek]; rfl
   ·obtain ⟨v6,v7,rfl,g1,g2,go⟩:=hq
    rw [List.length_map,hxl,List.take_length] at g2
    refine ⟨g1,fun a ys e=>go a _ (xb9 e gb2 (by intro z; cases z)) (xb9 e gd (by intro z; cases z)) e,hN _ _ ⟨_,_,rfl,by rw [xa2 nbd]; exact g2,fun a ob ha e=>?_⟩⟩
    by_cases z:a = d2
    ·rw [z,xa0]; rw [z,gd] at e; exact e
    ·rw [xa2 z]; exact go a ob ha z e
  rintro σ4 G4 ⟨v6,v7,rfl,fb2,k4⟩
  have sH:Same H G4:=fun a ob e=>k4 a ob (xa3 e nH2) (sH2 _ _ e)
  have eb1:=k4 _ _ (Ne.symm n12) fb1
  have eB1:=k4 _ _ (xb9 gB1 gb2 (by intro z; cases z)) gB1
  have eB2:=k4 _ _ (xb9 gB2 gb2 (by intro z; cases z)) gB2
  refine xb5 (fun σ' G=>∃ D p,σ' = [some (.ref c),some (.bl false),some (.ref d1),some (.ref d2),some (.ref B1),some (.ref B2),v6,v7,some (.ref D)] /\ Same H G /\ G D = some (.lst [.ref p]) /\ xq2 A G p k1 k2) (fun N hN=>?_) ?_
  ·obtain ⟨dx,L,p,ec,eL,ep,_⟩:=hc.keep sH
   refine ⟨_,rfl,c,A.ev2,dx,_,_,rfl,ec,T.en4,T.eq4,rfl,L,_,rfl,SqL.of eL,fun D hD=>?_⟩
   refine yo1 (xs:=[.ref p]) (us:=[()]) (fun _ v H=>∃ q,v = .ref q /\ xq2 A H q k1 k2) (fun σ=>∃ z1 z2,σ = [z1,z2,some (.ref B1),some (.ref B2)]) (fun _ _ _ _ s ⟨q,e,h⟩=>⟨q,e,h.keep s⟩) (SqL.of eL) hD (by show 1 <= 1000; decide) rfl ⟨_,_,rfl⟩ (fun i x _ q σ' G N hx _ ho' sm hq hy kk=>?_) fun ys G sm hDl hp=>?_
   ·obtain ⟨z1,z2,rfl⟩:=ho'
    have hi:i = 0:=by have:=(List.getElem?_eq_some_iff.mp hx).1; simpa using this
    subst hi
    obtain rfl:V.ref p = x:=by simpa using hx
    obtain ⟨ys,hy⟩:=hy
    refine ⟨q,_,rfl,SqT.of hq,rfl,?_⟩
    refine ⟨_,_,rfl,_,_,rfl,rfl,?_⟩
    refine ⟨_,rfl,_,rfl,_,rfl,B1,_,_,_,rfl,rfl,SqL.of (sm _ _ eB1),xe6 (j:=0) rfl,?_⟩
    refine ⟨_,rfl,_,rfl,B2,_,_,_,rfl,rfl,SqL.of (sm _ _ eB2),xe6 (j:=0) rfl,?_⟩
    exact ⟨p,b1,b2,_,_,k1,k2,rfl,ep.keep sm,sm _ _ eb1,sm _ _ fb2,ho,fun x H' _ hP s=>kk _ _ _ ⟨x,rfl,hP.hide (s _ _ hy)⟩ s ⟨_,_,rfl⟩⟩
   ·cases hp with
    | cons h t =>
     cases t
     obtain ⟨q,rfl,hP⟩:=h
     exact hN _ _ ⟨D,q,rfl,sH.trans sm,hDl,hP⟩
  rintro σ5 G5 ⟨D,p,rfl,s5,hD,hP⟩
  obtain ⟨dx,L,p0,ec,_⟩:=hc.keep s5
  refine ⟨_,rfl,c,A.ev2,dx,_,_,rfl,ec,T.en4,T.ep4,rfl,_,rfl,_,rfl,?_⟩
  refine ⟨_,rfl,c,A.ev2,dx,_,_,rfl,ec,T.en4,T.es4,rfl,?_⟩
  intro x dy nx ndx nex
  have sD:Same G5 (upd (upd G5 dy (.own x)) x (.ins A.ev2 dy [])):=(Same.new ndx).upd nx
  refine ⟨x,dy,D,p,u.n,k1,k2,rfl,xa0,hn1,hn2,sD _ _ hD,hP.keep sD,ho,fun H5 hC hk5=>⟨rfl,k x H5 ?_ fun b ob e=>?_⟩⟩
  ·obtain ⟨dz,L',p',a1,a2,a3,a4,a5⟩:=hC
   exact ⟨dz,L',p',a1,a2,a3,a4,(s5.trans sD).free a5⟩
  ·exact hk5 b ob (xa3 (s5 _ _ e) nx) (sD _ _ (s5 _ _ e))
def xo7 (sk:List Key) (ws:List Int) (c:Nat -> Nat) (us:List Cu):List Cu:=us.mapIdx fun x u=>⟨u.n,kvT sk c ws 1 x,kvT sk c ws 2 x⟩
theorem xo6 {sk:List Key} {ws:List Int} {c:Nat -> Nat} {us:List Cu}:(xo7 sk ws c us).length = us.length:=by unfold xo7; rw [List.length_mapIdx]
theorem yg3 {sk:List Key} {ws:List Int} {c:Nat -> Nat} {us:List Cu} {x:Nat} {u:Cu} (h:us[x]? = some u):(xo7 sk ws c us)[x]? = some ⟨u.n,kvT sk c ws 1 x,kvT sk c ws 2 x⟩:=by unfold xo7; rw [List.getElem?_mapIdx,h]; rfl
theorem zk4 {ws:List Int} (h:∀ w ∈ ws,w = 0):Done ws (fun _=>0):=by
 have hc:∀ m,carr (fun _=>0) ws m = 0:=by
  intro m
  induction m with
  | zero=>rfl
  | succ m ih=>show (if (0:Nat) = 1 then _ else _) = _; rw [if_neg (by decide)]; exact ih
 have ht:∀ m,told (fun _=>0) m = 0:=by
  intro m
  induction m with
  | zero=>rfl
  | succ m ih=>show told _ m + (if (0:Nat) = 0 then 0 else 1) = 0; rw [ih]; rfl
 have hg:∀ ws:List Int,(∀ w ∈ ws,w = 0) -> gr [0] ws = 0:=by
  intro ws
  induction ws with
  | nil=>intro _; rfl
  | cons w ws ih=>intro h; obtain rfl:=h w (by simp); rw [yi6 (by simp)]; exact ih fun w hw=>h w (by simp [hw])
 refine ⟨fun x hx _=>?_,fun _=>Nat.zero_le _,by rw [ht,hg ws h]⟩
 rw [hc]
 rw [List.getD_eq_getElem?_getD,List.getElem?_eq_getElem hx]
 exact (h _ (List.getElem_mem hx)).symm
def Quiet (us:List Cu):Prop:=∀ u ∈ us,u.k1 = [] /\ u.k2 = [] /\ 1 <= u.n /\ u.n <= 1000000000
def SlotG (sk:List Key):Prop:=∃ lm sd:Str,sk = xh4 lm sd /\ xr1 lm = true /\ lm.length <= 1000 /\ inV (.str sd) xv2 = true
theorem kvT_one {sk:List Key} {c:Nat -> Nat} {ws:List Int} {x:Nat} (hs:SlotG sk) (hw:∀ w ∈ ws,0 <= w /\ w <= 1000000000):One (kvT sk c ws 1 x) (kvT sk c ws 2 x):=by
 obtain ⟨lm,sd,rfl,h1,h2,h3⟩:=hs
 have hb:0 <= ws.getD x 0 /\ ws.getD x 0 <= 1000000000:=by
  rw [List.getD_eq_getElem?_getD]
  cases e:ws[x]? with
  | none=>decide
  | some w=>exact hw w (List.mem_of_getElem? e)
 have hg:zl7 (xh4 lm sd,.int (ws.getD x 0)):=⟨lm,sd,_,rfl,h1,h2,h3,hb.1,hb.2⟩
 have tl:∀ k,yj8 (kvT (xh4 lm sd) c ws k x):=fun k=>by
  unfold kvT
  by_cases e:c x = k
  ·rw [if_pos e]; exact ⟨Nat.le_refl _,fun kv h=>by obtain rfl:=List.mem_singleton.mp h; exact hg⟩
  ·rw [if_neg e]; exact zc7
 refine ⟨tl 1,tl 2,?_⟩
 unfold kvT
 by_cases e:c x = 1
 ·rw [if_pos e,if_neg (by omega)]; exact Nat.le_refl _
 ·rw [if_neg e]
  by_cases e2:c x = 2
  ·rw [if_pos e2]; exact Nat.le_refl _
  ·rw [if_neg e2]; exact Nat.zero_le _
theorem CueN.hide {A:Adr} {H0 H:Hp} {c D:Addr} {u:Cu} {ys:List V} (h:CueN A H0 H c u) (hD:H D = some (.lst ys)) (h0:∃ o,H0 D = some o):CueU A (hide H D) c u:=by
 obtain ⟨dx,L,p,a,b,d,t,n⟩:=h
 obtain ⟨o,h0⟩:=h0
 exact ⟨dx,L,p,by rw [xn9 (xb9 a hD (by intro z; cases z))]; exact a,by rw [xn9 (Ne.symm (xa3 h0 n))]; exact b,d.hide hD,t⟩
def spShow (A:Adr) (K:Frag):Sp:=fun vs H Q _=>∃ (CL LL:Addr) (cs ls:List Addr) (us:List Cu) (ws:List Int) (sk:List Key),vs = [.ref CL,.ref LL] /\ H CL = some (.lst (cs.map V.ref)) /\ cs.length <= 900 /\ xt8 A H cs us /\ xo3 us /\ Quiet us /\
 H LL = some (.lst (ls.map V.ref)) /\ Lks H sk ls ws /\ ls.length = cs.length /\ SlotG sk /\ (∀ w ∈ ws,0 <= w /\ w <= 1000000000) /\
 ∀ m H' rs c,H m = none -> Done ws c -> H' m = some (.lst (rs.map V.ref)) -> xt8 A H' rs (xo7 sk ws c us) -> Same H H' -> Q (.ref m) H'
theorem yz4 (T:Txt K mg A):FnOk P w K mg base CX0 8 A.ei2 A.ej2 ["cues","looks"] (spShow A K):=by
 have G_best_starts:=yc8 (P:=P) (w:=w) (base:=base) T
 have G_columns_of:=yh2 (P:=P) (w:=w) (base:=base) T
 have G_cue_list:=xz6 (P:=P) (w:=w) (base:=base) T
 have G_tell_column:=yc5 (P:=P) (w:=w) (base:=base) T
 have G_told_cue:=yr5 (P:=P) (w:=w) (base:=base) T
 refine T.em3.ok xh7 (fun vs H Q E h=>?_) (fun cdv Ar outer s H vs Q E hr h=>?_)
 ·obtain ⟨CL,LL,cs,ls,us,ws,sk,rfl,hCL,hz,hcs,hri,hqu,hLL,hlk,hln,hsg,hwb,k⟩:=h
  rfl
 ·obtain ⟨CL,LL,cs,ls,us,ws,sk,rfl,hCL,hz,hcs,hri,hqu,hLL,hlk,hln,hsg,hwb,k⟩:=h
  refine ⟨_,(xa4 (xb6 (i:=2) xh7.nd rfl (Or.inl rfl) (xb2 G_cue_list (hr.mono (by decide)) (by rfl) T.ey1 T.ew1.kp T.ex1 .nil xc9 (xa1 (pv 0) xa5)))
   (xa4 (xb6 (i:=3) xh7.nd rfl (Or.inl rfl) (xb2 G_columns_of (hr.mono (by decide)) (by rfl) T.eq2 T.eo2.kp T.ep2 .nil xc9 (xa1 (pv 1) xa5)))
   (xa4 (xb6 (i:=4) xh7.nd rfl (Or.inr rfl) (xz1 (xb2 G_best_starts (hr.mono (by decide)) (by rfl) T.ek2 T.ei2.kp T.ej2 .nil xc9 (xa1 (xd6 (xn2 rfl) (by rfl) T.ea5 xg2 (xa1 (xm7 (pv 3)) xa5)) (xa1 (xb0 (xi2 K) (by rfl) T.ee5 PySem.boot_len (xa1 (pv 2) xa5)) xa5)))))
   (xa4 (xb6 (i:=5) xh7.nd rfl (Or.inr rfl) (xh6 ["cue"] [none] rfl (xb8 K (pv 2)) (fun _ _ _=>(xa9 (i:=0) yh4 rfl (Or.inl rfl))) (fun _ _ _=>xj2)))
   (xa4 (xb6 (i:=6) xh7.nd rfl (Or.inr rfl) (xh6 ["cue"] [none] rfl (xb8 K (pv 2)) (fun _ _ _=>(xa9 (i:=0) yh5 rfl (Or.inl rfl))) (fun _ _ _=>xj2)))
   (xa4 (xy7 (xd0 PassesOwn.never rfl (xx1 (xs0 (pv 3))) (xo9 (n:=2) K rfl (xe1 (xa9 (i:=7) xh7.nd rfl (Or.inl rfl)) (xe1 (xa9 (i:=8) xh7.nd rfl (Or.inl rfl)) xo8))) (xa6 (xh5 (xb2 G_tell_column (hr.mono (by decide)) (by rfl) T.en2 T.el2.kp T.em2 .nil xc9 (xa1 (pv 5) (xa1 (pv 6) (xa1 (pv 7) (xa1 (pv 8) (xa1 (pv 4) xa5))))))))))
   (xa6 (xc3 (xh6 ["place","cue","tells","alone","starts"] [none,none,some 5,some 6,some 4] rfl (yg6 K (by rfl) T.ei5 (xa1 (pv 2) xa5)) (fun _ _ _=>(xo9 (n:=2) K rfl (xe1 (xa9 (i:=0) xs4 rfl (Or.inl rfl)) (xe1 (xa9 (i:=1) xs4 rfl (Or.inl rfl)) xo8)))) (fun _ _ _=>(xb2 G_told_cue (hr.mono (by decide)) (by rfl) T.el3 T.ej3.kp T.ek3 .nil xc9 (xa1 (pv 1) (xa1 (xu1 (xu3 K) (pv 0) (yg7 (yg2 K) (pv 4) (yq8 xa8) yq9) (by with_unfolding_all rfl)) (xa1 (xi3 (xc1 K) (pv 2) (pv 0) (fun _ _=>rfl)) (xa1 (xi3 (xc1 K) (pv 3) (pv 0) (fun _ _=>rfl)) xa5))))))))))))))),?_⟩
  have hlw:ls.length = ws.length:=Paired.length hlk
  have hcu:cs.length = us.length:=Paired.length hcs
  refine xn5 (fun σ' G=>∃ O D,σ' = [some (.ref CL),some (.ref LL),some (.ref O),some (.ref D),none,none,none,none,none] /\ Same H G /\ G O = some (.lst (cs.map V.ref)) /\ ((G D = some (.dT []) /\ ∀ w ∈ ws,w = 0) \/ ∃ c,G D = some (.dT [(sk,.ref c)]) /\ G c = some (.lst (ws.map V.int)))) (fun N hN=>?_) ?_
  ·refine ⟨_,rfl,CL,cs,us,rfl,hCL,hz,hcs,hri,fun m H1 hm gm s1=>?_⟩
   refine ⟨_,rfl,LL,ls,ws,sk,rfl,s1 _ _ hLL,hlk.keep s1,by omega,fun D H2 hD s2 hh=>hN _ _ ⟨m,D,rfl,s1.trans s2,s2 _ _ gm,?_⟩⟩
   rcases hh with h | ⟨c,a,_,b⟩
   ·exact .inl h
   ·exact .inr ⟨c,a,b⟩
  rintro σ1 G1 ⟨O,D,rfl,s1,hO,hD⟩
  obtain ⟨kvs,cs2,cols,gD,hkc,hcols,hc1,hkv⟩:∃ (kvs:List (List Key × V)) (cs2:List Addr) (cols:List (List Int)),G1 D = some (.dT kvs) /\ kvs.map (·.2) = cs2.map V.ref /\ Cols G1 cs.length cs2 cols /\ cols.length <= 1 /\ ((kvs = [] /\ ∀ w ∈ ws,w = 0) \/ ∃ c,kvs = [(sk,.ref c)] /\ G1 c = some (.lst (ws.map V.int))):=by
   rcases hD with ⟨a,b⟩ | ⟨c,a,b⟩
   ·exact ⟨[],[],[],a,rfl,.nil,Nat.zero_le _,.inl ⟨rfl,b⟩⟩
   ·exact ⟨[(sk,.ref c)],[c],[ws],a,rfl,.cons ⟨b,by omega⟩ .nil,Nat.le_refl _,.inr ⟨c,rfl,b⟩⟩
  have hk1:kvs.length <= 1:=by rcases hkv with ⟨rfl,_⟩ | ⟨c,rfl,_⟩ <;> simp
  refine xb5 (fun σ' G=>∃ Z,σ' = [some (.ref CL),some (.ref LL),some (.ref O),some (.ref D),some (.ref Z),none,none,none,none] /\ Same G1 G /\ G Z = some (.lst [.int 0])) (fun N hN=>?_) ?_
  ·refine ⟨D,kvs,gD,fun o xs es ep DD kt=>?_⟩
   have hv:=xj4 DD kt
   refine ⟨_,rfl,D,o,es,ep,rfl,xa0,DD.sys,DD.ex,DD.data,fun p hp=>?_⟩
   have pd:D ≠ p:=by rintro rfl; rw [xa0] at hp; cases hp
   have hp0:G1 p = none:=by rw [xa2 (Ne.symm pd)] at hp; exact hp
   refine ⟨p,D,o,es,ep,_,rfl,xa0,by rw [xa2 pd,xa0],DD.ex,DD.data,hv,by rw [List.length_map]; omega,fun l hl=>?_⟩
   have ld:D ≠ l:=by rintro rfl; rw [xa2 pd,xa0] at hl; cases hl
   have kX:∀ {b ob},b ≠ D -> G1 b = some ob -> (upd (upd (upd G1 D (held D o)) p (xw2 "dict_values" p D)) l (.lst (kvs.map (·.2)))) b = some ob:=fun {b ob} hb e=>by
    have h1:(upd (upd G1 D (held D o)) p (xw2 "dict_values" p D)) b = some ob:=by rw [xa2 (xa3 e hp0),xa2 hb]; exact e
    rw [xa2 (xa3 h1 hl)]; exact h1
   have nOD:O ≠ D:=xb9 hO gD (by intro z; cases z)
   refine ⟨_,rfl,O,_,rfl,.inl (SqL.of (kX nOD hO)),?_⟩
   refine ⟨l,cs2,cols,cs.length,by rw [List.length_map]; rfl,by rw [xa0,hkc],Paired.mapP hcols fun b _ q=>⟨kX (xb9 q.1 gD (by intro z; cases z)) q.1,q.2⟩,hc1,hz,fun Z H3 hZ s3 gZ=>?_⟩
   have gH:H3 D = some (held D o):=s3 _ _ (by rw [xa2 ld,xa2 pd,xa0])
   have nZD:Z ≠ D:=by rintro rfl; rw [xa2 ld,xa2 pd,xa0] at hZ; cases hZ
   refine ⟨gH,fun b ys e=>s3 _ _ (kX (xb9 e gD (by intro z; cases z)) e),hN _ _ ⟨Z,rfl,fun b ob e=>?_,by rw [xa2 nZD]; exact gZ⟩⟩
   by_cases z:b = D
   ·rw [z,xa0]; rw [z,gD] at e; exact e
   ·rw [xa2 z]; exact s3 _ _ (kX z e)
  rintro σ2 G2 ⟨Z,rfl,s2,hZ⟩
  refine xb5 (fun σ' G=>∃ (TL:Addr) (ts:List Addr),σ' = [some (.ref CL),some (.ref LL),some (.ref O),some (.ref D),some (.ref Z),some (.ref TL),none,none,none] /\ Same G2 G /\ G TL = some (.lst (ts.map V.ref)) /\ ts.length = cs.length /\ ts.Nodup /\ ∀ b ∈ ts,G b = some (.dT []) /\ G2 b = none) (fun N hN=>?_) ?_
  ·refine ⟨_,rfl,O,rfl,⟨_,SqL.of (s2 _ _ hO)⟩,fun E hE=>?_⟩
   refine xx5 (fun σ=>σ.length = 1) (SqL.of (s2 _ _ hO)) hE (by rw [List.length_map]; omega) rfl (fun x σ' G R ho q=>?_) fun bs G sm hDl hbl hnd hb=>?_
   ·match σ',ho with | [_],_=>exact q _ rfl
   ·exact hN _ _ ⟨E,bs,rfl,sm,hDl,by rw [hbl,List.length_map],hnd,hb⟩
  rintro σ3 G3 ⟨TL,ts,rfl,s3,hTL,htl,htn,htb⟩
  have s13:=s2.trans s3
  refine xb5 (fun σ' G=>∃ (AL:Addr) (as:List Addr),σ' = [some (.ref CL),some (.ref LL),some (.ref O),some (.ref D),some (.ref Z),some (.ref TL),some (.ref AL),none,none] /\ Same G3 G /\ G AL = some (.lst (as.map V.ref)) /\ as.length = cs.length /\ as.Nodup /\ ∀ b ∈ as,G b = some (.dT []) /\ G3 b = none) (fun N hN=>?_) ?_
  ·refine ⟨_,rfl,O,rfl,⟨_,SqL.of (s13 _ _ hO)⟩,fun E hE=>?_⟩
   refine xx5 (fun σ=>σ.length = 1) (SqL.of (s13 _ _ hO)) hE (by rw [List.length_map]; omega) rfl (fun x σ' G R ho q=>?_) fun bs G sm hDl hbl hnd hb=>?_
   ·match σ',ho with | [_],_=>exact q _ rfl
   ·exact hN _ _ ⟨E,bs,rfl,sm,hDl,by rw [hbl,List.length_map],hnd,hb⟩
  rintro σ4 G4 ⟨AL,as,rfl,s4,hAL,hal,han,hab⟩
  have s14:=s13.trans s4
  have ap:Apart ts as:=⟨htn,han,fun b h1 h2=>by have a:=(htb b h1).1; rw [(hab b h2).2] at a; cases a⟩
  have nt:∀ {b o},G2 b = some o -> b ∉ ts:=fun {b o} e h=>by rw [(htb b h).2] at e; cases e
  have na:∀ {b o},G3 b = some o -> b ∉ as:=fun {b o} e h=>by rw [(hab b h).2] at e; cases e
  have lay0:LayC G4 ts as sk ws (fun _=>0):=⟨fun x a h=>s4 _ _ (htb a (List.mem_of_getElem? h)).1,fun x a h=>(hab a (List.mem_of_getElem? h)).1⟩
  have g4D:=s14 _ _ gD
  have ntD:=nt (s2 _ _ gD)
  have naD:=na (s13 _ _ gD)
  refine xb5 (fun σ' G=>∃ (v7 v8:Option V) (c:Nat -> Nat),σ' = [some (.ref CL),some (.ref LL),some (.ref O),some (.ref D),some (.ref Z),some (.ref TL),some (.ref AL),v7,v8] /\ Done ws c /\ LayC G ts as sk ws c /\ Else G4 G ts as) (fun N hN=>?_) ?_
  ·refine ⟨D,kvs,g4D,fun o xs es ep DD kt=>?_⟩
   have hk:=xm9 DD
   have hv:=xj4 DD kt
   have hxl:xs.length = kvs.length:=(Paired.length kt).symm
   refine ⟨_,rfl,D,o,es,ep,rfl,xa0,DD.sys,DD.ex,DD.data,fun p hp=>?_⟩
   have pd:D ≠ p:=by rintro rfl; rw [xa0] at hp; cases hp
   have hp0:G4 p = none:=by rw [xa2 (Ne.symm pd)] at hp; exact hp
   have offT:∀ {G q c},LayC G ts as sk ws c -> G q = none -> q ∉ ts:=fun {G q c} hl e h=>by
    obtain ⟨x,hx,ex⟩:=List.getElem_of_mem h
    rw [hl.t x q (by rw [List.getElem?_eq_getElem hx,ex])] at e; cases e
   have offA:∀ {G q c},LayC G ts as sk ws c -> G q = none -> q ∉ as:=fun {G q c} hl e h=>by
    obtain ⟨x,hx,ex⟩:=List.getElem_of_mem h
    rw [hl.a x q (by rw [List.getElem?_eq_getElem hx,ex])] at e; cases e
   refine ⟨p,D,o,_,_,es,ep,rfl,xa0,by rw [xa2 pd,xa0],DD.ex,DD.data,hk,hv,?_⟩
   refine xt1 (fun i σ' G=>∃ (v7 v8:Option V) (c:Nat -> Nat),σ' = [some (.ref CL),some (.ref LL),some (.ref O),some (.ref D),some (.ref Z),some (.ref TL),some (.ref AL),v7,v8] /\ G D = some (held D o) /\ LayC G ts as sk ws c /\ (∀ b ob,b ∉ ts -> b ∉ as -> b ≠ D -> G4 b = some ob -> G b = some ob) /\ (i = 0 -> c = fun _=>0) /\ (0 < i -> Done ws c)) ⟨none,none,fun _=>0,rfl,by rw [xa2 pd,xa0],(lay0.other ntD naD).other (offT lay0 hp0) (offA lay0 hp0),fun b ob _ _ hb e=>by rw [xa2 (xa3 e hp0),xa2 hb]; exact e,fun _=>rfl,fun h=>absurd h (Nat.lt_irrefl _)⟩ (fun i σ' G _ hq=>?_) (fun i kx v q σ' G hki hvi hq hqn=>?_) fun σ' G hq=>?_
   ·obtain ⟨_,_,_,_,h,_⟩:=hq; exact h
   ·obtain ⟨v7,v8,c,rfl,g1,gl,go,hc0,_⟩:=hq
    rw [List.getElem?_map] at hki hvi
    obtain ⟨x,hx,rfl⟩:=Option.map_eq_some_iff.mp hki
    obtain ⟨kv,hkv',rfl⟩:=Option.map_eq_some_iff.mp hvi
    obtain ⟨x',hx',hrel⟩:=paired_at kt hkv'
    rw [hx] at hx'
    cases hx'
    obtain ⟨rfl,ek⟩:=zg1 hk1 hkv'
    obtain rfl:=hc0 rfl
    obtain ⟨cl,ekv,gcl⟩:∃ cl,kv = (sk,.ref cl) /\ G1 cl = some (.lst (ws.map V.int)):=by
     rcases hkv with ⟨e,_⟩ | ⟨cl,e,h⟩
     ·rw [ek] at e; cases e
     ·rw [ek] at e; exact ⟨cl,by simpa using e,h⟩
    subst ekv
    have hxt:G4 x.2.1 = some (.tup (sk.map kV)):=hrel.2.1
    have nTup:x.2.1 ∉ ts:=fun h=>by have a:=s4 _ _ (htb _ h).1; rw [hxt] at a; cases a
    have nTua:x.2.1 ∉ as:=fun h=>by have a:=(hab _ h).1; rw [hxt] at a; cases a
    have st:∀ {b ob},G2 b = some ob -> b ≠ D -> G b = some ob:=fun {b ob} e hb=>go b ob (nt e) (na (s3 _ _ e)) hb (s4 _ _ (s3 _ _ e))
    have sq:Same G (upd G q (.tup [.ref x.2.1,.ref cl])):=Same.new hqn
    have gTL:G TL = some (.lst (ts.map V.ref)):=go _ _ (fun h=>by have a:=(htb _ h).1; rw [hTL] at a; cases a) (na hTL) (xb9 hTL (s13 _ _ gD) (by intro z; cases z)) (s4 _ _ hTL)
    have gAL:G AL = some (.lst (as.map V.ref)):=go _ _ (fun h=>by have a:=s4 _ _ (htb _ h).1; rw [hAL] at a; cases a) (fun h=>by have a:=(hab _ h).1; rw [hAL] at a; cases a) (xb9 hAL g4D (by intro z; cases z)) hAL
    refine ⟨q,_,rfl,SqT.of xa0,rfl,?_⟩
    refine ⟨_,_,rfl,_,_,rfl,rfl,?_⟩
    refine ⟨_,rfl,_,rfl,_,rfl,_,rfl,_,rfl,TL,AL,x.2.1,cl,Z,ts,as,ws,sk,rfl,sq _ _ gTL,sq _ _ gAL,sq _ _ (go _ _ nTup nTua (xb9 hxt g4D (by intro z; cases z)) hxt),sq _ _ (st (s2 _ _ gcl) (xb9 gcl gD (by intro z; cases z))),sq _ _ (st hZ (xb9 hZ (s2 _ _ gD) (by intro z; cases z))),ap,by omega,by omega,by omega,gl.other (offT gl hqn) (offA gl hqn),fun c' G' hd hl he=>?_⟩
    exact ⟨_,_,c',rfl,he _ _ ntD naD (sq _ _ g1),hl,fun b ob h1 h2 h3 e=>he _ _ h1 h2 (sq _ _ (go b ob h1 h2 h3 e)),fun z=>absurd z (Nat.succ_ne_zero _),fun _=>hd⟩
   ·obtain ⟨v7,v8,c,rfl,g1,gl,go,hc0,hcd⟩:=hq
    rw [List.length_map,hxl] at hc0 hcd
    have hdone:Done ws c:=by
     rcases hkv with ⟨e,hz0⟩ | ⟨cl,e,h⟩
     ·rw [e] at hc0; rw [hc0 rfl]; exact zk4 hz0
     ·rw [e] at hcd; exact hcd (Nat.lt_succ_self _)
    refine ⟨g1,fun b ys e=>go b _ (fun h=>by have a:=s4 _ _ (htb _ h).1; rw [e] at a; cases a) (fun h=>by have a:=(hab _ h).1; rw [e] at a; cases a) (xb9 e g4D (by intro z; cases z)) e,hN _ _ ⟨v7,v8,c,rfl,hdone,gl.other ntD naD,fun b ob h1 h2 e=>?_⟩⟩
    by_cases z:b = D
    ·rw [z,xa0]; rw [z,g4D] at e; exact e
    ·rw [xa2 z]; exact go b ob h1 h2 z e
  rintro σ5 G5 ⟨v7,v8,c,rfl,hdone,lay,els⟩
  have s25:∀ {b ob},G2 b = some ob -> G5 b = some ob:=fun {b ob} e=>els _ _ (nt e) (na (s3 _ _ e)) (s4 _ _ (s3 _ _ e))
  have sH:Same H G5:=fun b ob e=>s25 (s2 _ _ (s1 _ _ e))
  have gO:=s25 (s2 _ _ hO)
  have gZ:=s25 hZ
  have gTL:=els _ _ (fun h=>by have a:=(htb _ h).1; rw [hTL] at a; cases a) (na hTL) (s4 _ _ hTL)
  have gAL:=els _ _ (fun h=>by have a:=s4 _ _ (htb _ h).1; rw [hAL] at a; cases a) (fun h=>by have a:=(hab _ h).1; rw [hAL] at a; cases a) hAL
  refine ⟨_,rfl,O,_,rfl,SqL.of gO,fun M hM=>?_⟩
  refine yo1 (xs:=cs.map V.ref) (us:=xo7 sk ws c us) (fun u v H=>∃ a,v = .ref a /\ CueU A H a u) (fun σ=>∃ z1 z2,σ = [z1,z2,some (.ref TL),some (.ref AL),some (.ref Z)]) (fun _ _ _ _ s ⟨a,e,h⟩=>⟨a,e,h.keep s⟩) (SqL.of gO) hM (by rw [List.length_map]; omega) (by rw [xo6,List.length_map]; omega) ⟨_,_,rfl⟩ (fun i x u' q σ' G N hx hu ho' sm hq hy kk=>?_) fun ys G sm hDl hp=>?_
  ·obtain ⟨z1,z2,rfl⟩:=ho'
   rw [List.getElem?_map] at hx
   obtain ⟨cu,hcu',rfl⟩:=Option.map_eq_some_iff.mp hx
   obtain ⟨u,hu0,hcc⟩:=paired_at (hcs.keep (sH.trans sm)) hcu'
   rw [yg3 hu0] at hu
   cases hu
   obtain ⟨q1,q2,q3,q4⟩:=hqu u (List.mem_of_getElem? hu0)
   obtain ⟨ys,hy⟩:=hy
   have hi:i < cs.length:=(List.getElem?_eq_some_iff.mp hcu').1
   have ht:ts[i]? = some ts[i]:=List.getElem?_eq_getElem (by omega)
   have ha:as[i]? = some as[i]:=List.getElem?_eq_getElem (by omega)
   refine ⟨q,_,rfl,SqT.of hq,rfl,?_⟩
   refine ⟨_,_,rfl,_,_,rfl,rfl,?_⟩
   refine ⟨_,rfl,_,rfl,_,rfl,1,rfl,Z,_,rfl,SqL.of (sm _ _ gZ),fun S hS=>?_⟩
   have sS:Same G (upd G S (.lst (cutV [V.int 0] (some 1) none))):=Same.new hS
   have sm2:=sm.trans sS
   refine ⟨S,_,rfl,.inl (SqL.of xa0),rfl,rfl,?_⟩
   refine ⟨_,rfl,_,rfl,TL,_,_,_,rfl,rfl,SqL.of (sm2 _ _ gTL),xe6 (by rw [List.getElem?_map,ht]; rfl),?_⟩
   refine ⟨_,rfl,_,rfl,AL,_,_,_,rfl,rfl,SqL.of (sm2 _ _ gAL),xe6 (by rw [List.getElem?_map,ha]; rfl),?_⟩
   refine ⟨cu,ts[i],as[i],u,_,_,rfl,hcc.keep sS,q1,q2,q3,q4,sm2 _ _ (lay.t i _ ht),sm2 _ _ (lay.a i _ ha),kvT_one hsg hwb,fun x H' hC s'=>?_⟩
   exact kk _ _ _ ⟨x,rfl,hC.hide (s' _ _ (sS _ _ hy)) ⟨_,sS _ _ hy⟩⟩ (sS.trans s') ⟨_,_,rfl⟩
  ·obtain ⟨rs,rfl,hrs⟩:∃ rs:List Addr,ys = rs.map V.ref /\ xt8 A G rs (xo7 sk ws c us):=by
    clear hDl
    generalize xo7 sk ws c us = vs at hp
    induction hp with
    | nil=>exact ⟨[],rfl,.nil⟩
    | cons h t ih =>
     obtain ⟨a,rfl,ha⟩:=h
     obtain ⟨rs,rfl,hrs⟩:=ih
     exact ⟨a :: rs,rfl,.cons ha hrs⟩
   exact k M G rs c (sH.free hM) hdone hDl hrs (sH.trans sm)
theorem yv3:(Str.ofString "abcdefghijklmnopqrstuvwxyz").length = 26:=by decide +kernel
theorem lets_let:∀ c ∈ cs (Str.ofString "abcdefghijklmnopqrstuvwxyz"),xs9 c = true:=by decide +kernel
theorem lets_at (j:Int):∃ c,atI (cs (Str.ofString "abcdefghijklmnopqrstuvwxyz")) (j % 26) = some c /\ xs9 c = true:=by
 have hl:(j % 26).toNat < (cs (Str.ofString "abcdefghijklmnopqrstuvwxyz")).length:=by rw [yx1,yv3]; omega
 refine ⟨(cs (Str.ofString "abcdefghijklmnopqrstuvwxyz"))[(j % 26).toNat],?_,lets_let _ (List.getElem_mem hl)⟩
 have:=xe6 (xs:=cs (Str.ofString "abcdefghijklmnopqrstuvwxyz")) (j:=(j % 26).toNat) (List.getElem?_eq_getElem hl)
 rwa [Int.toNat_of_nonneg (by omega)] at this
theorem lamp_of {z:Str} (h0:1 <= z.length) (h1:z.length <= 8) (h2:(cs z).all xs9 = true):xr1 z = true:=by
 unfold xr1
 rw [h2,decide_eq_true (by omega),decide_eq_true (by omega)]; rfl
theorem lt1 {z:Str} (h:xr1 z = true):z.length <= 1000:=by
 unfold xr1 at h
 simp only [Bool.and_eq_true,decide_eq_true_eq] at h
 omega
def spLampL:Sp:=fun vs H Q _=>∃ c:Int,vs = [.int c] /\ ∀ z,xr1 z = true -> Q (.str z) H
theorem yr6 (T:Txt K mg A):FnOk P w K mg base CX0 2 A.ek2 A.el2 ["_law_cell"] (spLampL):=by
 have G_law_draw:=xq8 (P:=P) (w:=w) (base:=base) T
 refine T.ep3.ok xl0 (fun vs H Q E h=>?_) (fun cdv Ar outer s H vs Q E hr h=>?_)
 ·obtain ⟨c,rfl,k⟩:=h
  rfl
 ·obtain ⟨c,rfl,k⟩:=h
  refine ⟨_,(xa4 (xb6 (i:=1) xl0.nd rfl (Or.inl rfl) yl9)
   (xa4 (xb6 (i:=2) xl0.nd rfl (Or.inl rfl) yl9)
   (xa4 (xd0 PassesOwn.never rfl (xr9 (by rfl) T.eh5 (xa1 (xc4 xf9 xa8 (xc4 xl6 (xb2 G_law_draw (hr.mono (by decide)) (by rfl) T.ei3 T.eg3.kp T.eh3 .nil xc9 (xa1 (pv 0) (xa1 xa8 xa5))) xa8)) xa5)) (xa9 (i:=3) xl0.nd rfl (Or.inl rfl)) (xa6 (xb6 (i:=2) xl0.nd rfl (Or.inl rfl) (xc4 yz3 (pv 2) (xi3 ix_str (pv 1) (xc4 xl6 (xb2 G_law_draw (hr.mono (by decide)) (by rfl) T.ei3 T.eg3.kp T.eh3 .nil xc9 (xa1 (pv 0) (xa1 (xc4 xf9 xa8 (pv 3)) xa5))) xa8) (fun _ _=>rfl))))))
   (xa6 (xc3 (pv 2)))))),?_⟩
  refine xn5 (fun σ' H'=>σ' = [some (.int c),some (.str (Str.ofString "abcdefghijklmnopqrstuvwxyz")),some (.str (Str.ofString "")),none] /\ H' = H) (fun N hN=>hN _ _ ⟨rfl,rfl⟩) ?_
  rintro σ' H2 ⟨rfl,rfl⟩
  refine xb5 (fun σ' H'=>∃ (z:Str) (v1:Option V),σ' = [some (.int c),some (.str (Str.ofString "abcdefghijklmnopqrstuvwxyz")),some (.str z),v1] /\ H' = H2 /\ 1 <= z.length /\ z.length <= 8 /\ (cs z).all xs9 = true) (fun N hN=>?_) ?_
  ·refine ⟨_,rfl,c,1,rfl,by decide,by decide,fun v v0 v1=>⟨_,_,rfl,rfl,(by show (0:Int) < 8; decide),_,_,rfl,rfl,_,rfl,by omega,by omega,?_⟩⟩
   refine xl2 (n:=(1 + v % 8).toNat) (fun i σ H'=>∃ (z:Str) (v1:Option V),σ = [some (.int c),some (.str (Str.ofString "abcdefghijklmnopqrstuvwxyz")),some (.str z),v1] /\ H' = H2 /\ z.length = i /\ (cs z).all xs9 = true) ?_ ?_ ?_
   ·exact ⟨_,_,rfl,rfl,rfl,rfl⟩
   ·rintro i σ H4 hi ⟨z,v1,rfl,rfl,hz,hza⟩
    refine ⟨_,rfl,_,rfl,_,rfl,_,rfl,_,_,rfl,rfl,c,_,rfl,by omega,by omega,fun u u0 u1=>?_⟩
    obtain ⟨cc,hc1,hc2⟩:=lets_at u
    refine ⟨_,_,rfl,rfl,(by show (0:Int) < 26; decide),_,_,_,rfl,rfl,?_,hc1,_,_,rfl,rfl,?_,_,_,rfl,rfl,?_,?_⟩
    ·rw [yv3]; exact xe5 (by decide)
    ·exact xe5 (by show z.length + 1 <= 1000; omega)
    ·show (z ++ _).length = _
     rw [<- yx1,cs_app,List.length_append,yx1,hz]; rfl
    ·rw [cs_app,List.all_append,hza]
     simp only [cs,List.all_cons,List.all_nil,Bool.and_true,Bool.true_and]
     exact hc2
   ·rintro σ H4 ⟨z,v1,rfl,rfl,hz,hza⟩
    exact hN _ _ ⟨z,v1,rfl,rfl,by omega,by omega,hza⟩
  rintro σ' H4 ⟨z,v1,rfl,rfl,hz,hz8,hza⟩
  exact ⟨_,rfl,k _ (lamp_of hz hz8 hza)⟩
def spWorths (K:Frag):Sp:=fun vs H Q _=>∃ (a:Addr) (ns:List Int),vs = [.ref a] /\ H a = some (.lst (ns.map V.int)) /\ ∀ l H' (ws:List Int),H l = none -> H' l = some (.lst (ws.map V.int)) -> ws.length <= 60 -> (∀ w ∈ ws,0 <= w /\ w <= 1000000000) -> Same H H' -> Q (.ref l) H'
theorem cut_to {xs:List V} {m:Nat}:cutV xs none (some (m:Int)) = xs.take m:=by
 unfold cutV HT.sIx
 by_cases h:(m:Int) < 0
 ·omega
 ·simp [h]
def Good (ws:List Int):Prop:=∀ w ∈ ws,0 <= w /\ w <= 1000000000
theorem Good.snoc {ws:List Int} {w:Int} (h:Good ws) (h0:0 <= w) (h1:w <= 1000000000):Good (ws ++ [w]):=fun v hv=>by
 rcases List.mem_append.mp hv with q | q
 ·exact h v q
 ·obtain rfl:=List.mem_singleton.mp q; exact ⟨h0,h1⟩
theorem yh0 (T:Txt K mg A):FnOk P w K mg base CX0 2 A.em2 A.en2 ["_law_script"] (spWorths K):=by
 have G_law_cell_at:=xq4 (P:=P) (w:=w) (base:=base) T
 have G_law_draw:=xq8 (P:=P) (w:=w) (base:=base) T
 refine T.es3.ok xf0 (fun vs H Q E h=>?_) (fun cdv Ar outer s H vs Q E hr h=>?_)
 ·obtain ⟨a,ns,rfl,ha,k⟩:=h
  rfl
 ·obtain ⟨a,ns,rfl,ha,k⟩:=h
  refine ⟨_,(xa4 (xb6 (i:=1) xf0.nd rfl (Or.inl rfl) (xj7 (xa1 xa8 xa5)))
   (xa4 (xd0 PassesOwn.never rfl (xr9 (by rfl) T.eh5 (xa1 xa8 xa5)) (xa9 (i:=2) xf0.nd rfl (Or.inl rfl)) (xa6 (xh5 (yg9 PySem.F.plainAttrs_list PySem.F.slot_list_append PySem.F.type_list_append xh3 (pv 1) (xa1 (xc4 xf9 xa8 (xc4 xl6 (xb2 G_law_draw (hr.mono (by decide)) (by rfl) T.ei3 T.eg3.kp T.eh3 .nil xc9 (xa1 (xb2 G_law_cell_at (hr.mono (by decide)) (by rfl) T.ec3 T.ea3.kp T.eb3 .nil xc9 (xa1 (pv 0) (xa1 xa8 xa5))) (xa1 (xc4 xf9 xa8 (pv 2)) xa5))) (xc4 yr4 xa8 xa8))) xa5)))))
   (xa4 (xb6 (i:=3) xf0.nd rfl (Or.inl rfl) (xj7 xa5))
   (xa4 (xb6 (i:=4) xf0.nd rfl (Or.inl rfl) (yg7 (yg2 K) (pv 0) yq9 (yq8 xa8)))
   (xa4 (xd0 PassesOwn.never rfl (xr9 (by rfl) T.eh5 (xa1 (xb0 (xi2 K) (by rfl) T.ee5 PySem.boot_len (xa1 (pv 4) xa5)) xa5)) (xa9 (i:=2) xf0.nd rfl (Or.inl rfl)) (xa4 (xb6 (i:=5) xf0.nd rfl (Or.inl rfl) (xb2 G_law_draw (hr.mono (by decide)) (by rfl) T.ei3 T.eg3.kp T.eh3 .nil xc9 (xa1 (xi3 (xc1 K) (pv 4) (pv 2) (fun _ _=>rfl)) (xa1 (xc4 xf9 xa8 (pv 2)) xa5))))
   (xa6 (xh1 (PW.pt (ze5 (xh0 yz2 (xc4 xl6 (pv 5) xa8) xa8 (xi4 _)) (yq7 (xh0 op_gt (pv 2) xa8 (xi4 _))))) (xa6 (xh5 (yg9 PySem.F.plainAttrs_list PySem.F.slot_list_append PySem.F.type_list_append xh3 (pv 3) (xa1 (xi3 (xc1 K) (pv 3) (yr1 xx8 xa8) (fun _ _=>rfl)) xa5)))) (xa6 (xh5 (yg9 PySem.F.plainAttrs_list PySem.F.slot_list_append PySem.F.type_list_append xh3 (pv 3) (xa1 (xi3 (xc1 K) (pv 1) (xc4 xl6 (xc4 yu8 (pv 5) xa8) xa8) (fun _ _=>rfl)) xa5))))))))
   (xa6 (xc3 (pv 3)))))))),?_⟩
  refine xb5 (fun σ' G=>∃ S,σ' = [some (.ref a),some (.ref S),none,none,none,none] /\ H S = none /\ G = upd H S (.lst [.int 0])) (fun N hN=>?_) ?_
  ·exact ⟨by show 1 <= 1000; decide,fun S hS=>hN _ _ ⟨S,rfl,hS,rfl⟩⟩
  rintro σ1 G1 ⟨S,rfl,hS,rfl⟩
  refine xb5 (fun σ' G=>∃ (v2:Option V) (ms:List Int),σ' = [some (.ref a),some (.ref S),v2,none,none,none] /\ Same H G /\ G S = some (.lst (ms.map V.int)) /\ ms.length = 4 /\ Good ms) (fun N hN=>?_) ?_
  ·refine ⟨3,rfl,by decide,by decide,?_⟩
   refine xl2 (n:=3) (fun i σ' G=>∃ (v2:Option V) (ms:List Int),σ' = [some (.ref a),some (.ref S),v2,none,none,none] /\ Same H G /\ G S = some (.lst (ms.map V.int)) /\ ms.length = 1 + i /\ Good ms) ⟨none,[0],rfl,Same.new hS,xa0,rfl,fun w hw=>by obtain rfl:=List.mem_singleton.mp hw; decide⟩ (fun i σ' G hi hq=>?_) fun σ' G hq=>?_
   ·obtain ⟨v2,ms,rfl,sm,gS,hl,hg⟩:=hq
    refine ⟨_,rfl,.inl ⟨rfl,_,SqL.of gS⟩,_,rfl,a,ns,0,rfl,SqL.of (sm _ _ ha),by decide,fun v=>?_⟩
    refine ⟨_,rfl,_,_,rfl,rfl,v,_,rfl,by omega,by omega,fun u u0 u1=>?_⟩
    refine ⟨_,_,rfl,rfl,⟨by decide,by decide,by decide,by decide⟩,_,_,rfl,rfl,(by show (0:Int) < 10 ^ 9; decide),_,_,rfl,rfl,?_⟩
    have b0:=Int.emod_nonneg u (show ((10:Int) ^ (9:Int).toNat) ≠ 0 by decide)
    have b1:=Int.emod_lt_of_pos u (show (0:Int) < (10:Int) ^ (9:Int).toNat by decide)
    have b2:(10:Int) ^ (9:Int).toNat = 1000000000:=by decide
    refine ⟨S,_,_,rfl,rfl,gS,Nat.lt_of_lt_of_le (show _ < 1001 by rw [List.length_map]; omega) (by decide),?_⟩
    exact ⟨_,ms ++ [1 + u % (10:Int) ^ (9:Int).toNat],rfl,sm.upd hS,by rw [xa0,List.map_append]; rfl,by rw [List.length_append]; simp; omega,hg.snoc (by omega) (by omega)⟩
   ·obtain ⟨v2,ms,rfl,sm,gS,hl,hg⟩:=hq
    exact hN _ _ ⟨v2,ms,rfl,sm,gS,hl,hg⟩
  rintro σ2 G2 ⟨v2,ms,rfl,s2,gS,hml,hmg⟩
  refine xn5 (fun σ' G=>∃ W C,σ' = [some (.ref a),some (.ref S),v2,some (.ref W),some (.ref C),none] /\ H W = none /\ Same H G /\ G S = some (.lst (ms.map V.int)) /\ G W = some (.lst []) /\ G C = some (.lst ((ns.take 60).map V.int)) /\ W ≠ C /\ W ≠ S) (fun N hN=>?_) ?_
  ·refine ⟨by decide,fun W hW=>?_⟩
   have sW:Same G2 (upd G2 W (.lst [])):=Same.new hW
   refine ⟨_,rfl,60,rfl,a,_,rfl,SqL.of (sW _ _ (s2 _ _ ha)),fun C hC=>?_⟩
   have sC:∀ o,Same (upd G2 W (.lst [])) (upd (upd G2 W (.lst [])) C o):=fun o=>Same.new hC
   have nWC:W ≠ C:=xa3 (xa0 (H:=G2)) hC
   exact hN _ _ ⟨W,C,rfl,s2.free hW,(s2.trans sW).trans (sC _),sC _ _ _ (sW _ _ gS),by rw [xa2 nWC,xa0],by rw [xa0,show cutV (ns.map V.int) none (some 60) = (ns.map V.int).take 60 from cut_to (m:=60),List.map_take],nWC,Ne.symm (xa3 gS hW)⟩
  rintro σ3 G3 ⟨W,C,rfl,nW,s3,gS3,gW,gC,nWC,nWS⟩
  refine ⟨_,rfl,C,_,rfl,.inl (SqL.of gC),_,rfl,by omega,?_,?_⟩
  ·rw [List.length_map,List.length_take]; omega
  rw [Int.toNat_natCast]
  refine xl2 (fun i σ' G=>∃ (v2 v5:Option V) (ws:List Int),σ' = [some (.ref a),some (.ref S),v2,some (.ref W),some (.ref C),v5] /\ Same H G /\ G S = some (.lst (ms.map V.int)) /\ G C = some (.lst ((ns.take 60).map V.int)) /\ G W = some (.lst (ws.map V.int)) /\ ws.length = i /\ Good ws) ⟨_,_,[],rfl,s3,gS3,gC,gW,rfl,fun w hw=>by cases hw⟩ (fun i σ' G hi hq=>?_) fun σ' G hq=>?_
  ·obtain ⟨v2,v5,ws,rfl,sm,gS,gC,gW,hl,hg⟩:=hq
   rw [List.length_map] at hi
   have hi60:i < 60:=by rw [List.length_take] at hi; omega
   have hc:((ns.take 60).map V.int)[i]? = some (.int (ns.take 60)[i]):=by rw [List.getElem?_map,List.getElem?_eq_getElem hi]; rfl
   refine ⟨_,rfl,_,rfl,C,_,_,_,rfl,rfl,SqL.of gC,by rw [Int.zero_add]; exact xe6 hc,_,rfl,_,_,rfl,rfl,_,_,rfl,by omega,by omega,fun u u0 u1=>?_⟩
   have next:∀ w:Int,0 <= w -> w <= 1000000000 -> ∃ (v2 v5:Option V) (ws':List Int),[some (.ref a),some (.ref S),some (.int (0 + (i:Int))),some (.ref W),some (.ref C),some (.int u)] = [some (.ref a),some (.ref S),v2,some (.ref W),some (.ref C),v5] /\ Same H (upd G W (.lst (ws.map V.int ++ [.int w]))) /\ (upd G W (.lst (ws.map V.int ++ [.int w]))) S = some (.lst (ms.map V.int)) /\ (upd G W (.lst (ws.map V.int ++ [.int w]))) C = some (.lst ((ns.take 60).map V.int)) /\ (upd G W (.lst (ws.map V.int ++ [.int w]))) W = some (.lst (ws'.map V.int)) /\ ws'.length = i + 1 /\ Good ws':=fun w w0 w1 =>
    ⟨_,_,ws ++ [w],rfl,sm.upd nW,by rw [xa2 (Ne.symm nWS)]; exact gS,by rw [xa2 (Ne.symm nWC)]; exact gC,by rw [xa0,List.map_append]; rfl,by rw [List.length_append,hl]; rfl,hg.snoc w0 w1⟩
   have lt:(ws.map V.int).length < sizeLine:=Nat.lt_of_lt_of_le (show _ < 1001 by rw [List.length_map]; omega) (by decide)
   have other:∀ D:Ends,(∀ w:Int,0 <= w -> w <= 1000000000 -> D.nx [some (.ref a),some (.ref S),some (.int (0 + (i:Int))),some (.ref W),some (.ref C),some (.int u)] (upd G W (.lst (ws.map V.int ++ [.int w])))) -> zd1 (tBM K "list" yq6 (tVar 3) (zd2 (tOp (rIxL K) (tVar 1) (tOp (rI (fun x j=>0 < j) fun i j=>V.int (i % j)) (tOp (rI zl8 fun i j=>V.int (i / j)) (tVar 5) (tC (V.int 3))) (tC (V.int 4)))) tNil)) D [some (.ref a),some (.ref S),some (.int (0 + (i:Int))),some (.ref W),some (.ref C),some (.int u)] G:=fun D nx=>by
    have m0:=Int.emod_nonneg (u / 3) (show (4:Int) ≠ 0 by decide)
    have m1:=Int.emod_lt_of_pos (u / 3) (show (0:Int) < 4 by decide)
    have hlt:(u / 3 % 4).toNat < ms.length:=by omega
    have hat:atI (ms.map V.int) (u / 3 % 4) = some (.int ms[(u / 3 % 4).toNat]):=by
     have:=xe6 (xs:=ms.map V.int) (j:=(u / 3 % 4).toNat) (v:=.int ms[(u / 3 % 4).toNat]) (by rw [List.getElem?_map,List.getElem?_eq_getElem hlt]; rfl)
     rwa [Int.toNat_of_nonneg m0] at this
    have hgd:=hmg _ (List.getElem_mem hlt)
    exact ⟨_,rfl,.inl ⟨rfl,_,SqL.of gW⟩,_,rfl,_,rfl,_,_,rfl,rfl,⟨by decide,by decide⟩,_,_,rfl,rfl,(by show (0:Int) < 4; decide),S,_,_,_,rfl,rfl,SqL.of gS,hat,W,_,_,rfl,rfl,gW,lt,nx _ hgd.1 hgd.2⟩
   refine ⟨_,rfl,_,_,rfl,rfl,(by show (0:Int) < 3; decide),rfl,_,rfl,?_⟩
   refine ite2 (fun _=>?_) (fun _=>other _ next)
   refine ⟨_,rfl,_,_,rfl,rfl,_,rfl,?_⟩
   refine ite2 (fun c=>?_) (fun _=>other _ next)
   have c0:0 < ws.length:=by have:=of_decide_eq_true c; omega
   have hlast:atI (ws.map V.int) (-1) = some (.int ws[ws.length - 1]):=by
    have e:ixN (ws.map V.int).length (-1) = some (ws.length - 1):=by
     unfold ixN
     rw [List.length_map,if_neg (by decide),if_pos (by omega)]
     congr 1; omega
    unfold atI
    rw [e,Option.bind_some,List.getElem?_map,List.getElem?_eq_getElem (by omega)]; rfl
   have hgd:=hg _ (List.getElem_mem (show ws.length - 1 < ws.length by omega))
   exact ⟨_,rfl,.inl ⟨rfl,_,SqL.of gW⟩,_,rfl,_,rfl,W,_,_,_,rfl,rfl,SqL.of gW,hlast,W,_,_,rfl,rfl,gW,lt,next _ hgd.1 hgd.2⟩
  ·obtain ⟨v2,v5,ws,rfl,sm,gS,gC,gW,hl,hg⟩:=hq
   refine ⟨_,rfl,k W _ ws nW gW ?_ hg sm⟩
   rw [hl,List.length_map,List.length_take]; omega
theorem yb1 {G:Hp} {d v l:Addr} {kvs:List (List Key × V)} {o:Obj} {X:HO} {vs:List V} (hd:G d = some (.dT kvs)) (hv:upd G d (held d o) v = none) (hl:upd (upd G d (held d o)) v X l = none) :
  upd (upd (upd G d (held d o)) v X) l (.lst vs) d = some (held d o) /\ xp6 G (upd (upd (upd G d (held d o)) v X) l (.lst vs)) /\ Same G (upd (upd (upd (upd G d (held d o)) v X) l (.lst vs)) d (.dT kvs)) /\ upd (upd (upd (upd G d (held d o)) v X) l (.lst vs)) d (.dT kvs) l = some (.lst vs):=by
 have dv:d ≠ v:=by rintro rfl; rw [xa0] at hv; cases hv
 have hv0:G v = none:=by rw [xa2 (Ne.symm dv)] at hv; exact hv
 have dl:d ≠ l:=by rintro rfl; rw [xa2 dv,xa0] at hl; cases hl
 have kX:∀ {b ob},b ≠ d -> G b = some ob -> upd (upd (upd G d (held d o)) v X) l (.lst vs) b = some ob:=fun {b ob} hb e=>by
  have h1:upd (upd G d (held d o)) v X b = some ob:=by rw [xa2 (xa3 e hv0),xa2 hb]; exact e
  rw [xa2 (xa3 h1 hl)]; exact h1
 refine ⟨by rw [xa2 dl,xa2 dv,xa0],fun b ys e=>kX (xb9 e hd (by intro z; cases z)) e,fun b ob e=>?_,by rw [xa2 (Ne.symm dl),xa0]⟩
 by_cases z:b = d
 ·rw [z,xa0]; rw [z,hd] at e; exact e
 ·rw [xa2 z]; exact kX z e
theorem yd7 {kvs:List (List Key × V)} (h:yj8 kvs) {v:V} (hv:v ∈ kvs.map (·.2)):∃ n:Int,v = .int n /\ 0 <= n:=by
 obtain ⟨kv,h1,rfl⟩:=List.mem_map.mp hv
 obtain ⟨l,sd,n,rfl,_,_,_,n0,_⟩:=h.2 kv h1
 exact ⟨n,rfl,n0⟩
def spIsL (A:Adr) (K:Frag):Sp:=fun vs H Q _=>∃ (l:Addr) (cs:List Addr) (us:List Cu),vs = [.ref l] /\ H l = some (.lst (cs.map V.ref)) /\ xt8 A H cs us /\ ∀ H',Same H H' -> Q (.bl true) H'
theorem yc7 (T:Txt K mg A):FnOk P w K mg base CX0 2 A.eo2 A.ep2 ["_law_cues"] (spIsL A K):=by
 have G_law_whole:=xv7 (P:=P) (w:=w) (base:=base) T
 refine T.ev3.ok xj1 (fun vs H Q E h=>?_) (fun cdv Ar outer s H vs Q E hr h=>?_)
 ·obtain ⟨l,cs,us,rfl,hl,hc,k⟩:=h
  rfl
 ·obtain ⟨l,cs,us,rfl,hl,hc,k⟩:=h
  refine ⟨_,(xa4 (xh1 (xf8 (xf7 (xb0 (xf2 K) (by rfl) T.ev4 xb1 (xa1 (pv 0) (xa1 (xw4 (by rfl) T.ea5 xg2) xa5))))) (xa6 (xc3 xs2)) xc7)
   (xa4 (xd0 PassesOwn.never rfl (xb8 K (pv 0)) (xa9 (i:=1) xj1.nd rfl (Or.inl rfl)) (xa4 (xh1 (PW.pt (yg5 (xf8 (xf7 (xb0 (xt4 K) (by rfl) T.ev4 xb1 (xa1 (pv 1) (xa1 (xq7 (v:=V.ref _) (by rfl) T.eo4 rfl) xa5))))) (yg5 (xf8 (xf7 (xb2 G_law_whole (hr.mono (by decide)) (by rfl) T.ef3 T.ed3.kp T.ee3 .nil xc9 (xa1 (xb7 K (pv 1)) xa5)))) (xv5 (xf8 (xf7 (xb0 (xf2 K) (by rfl) T.ev4 xb1 (xa1 (xb7 K (pv 1)) (xa1 (xw4 (by rfl) T.ex4 yb9) xa5))))))))) (xa6 (xc3 xs2)) xc7)
   (xa6 (xd0 PassesOwn.never rfl (xb8 K (xb7 K (pv 1))) (xa9 (i:=2) xj1.nd rfl (Or.inl rfl)) (xa4 (xh1 (xf8 (xf7 (xb0 (xt4 K) (by rfl) T.ev4 xb1 (xa1 (pv 2) (xa1 (xq7 (v:=V.ref _) (by rfl) T.ef4 rfl) xa5))))) (xa6 (xc3 xs2)) xc7)
   (xa6 (xd0 PassesOwn.never rfl (xb8 K (xc4 op_cat (xz1 (xd6 (xn2 rfl) (by rfl) T.ea5 xg2 (xa1 (xm7 (xb7 K (pv 2))) xa5))) (xz1 (xd6 (xn2 rfl) (by rfl) T.ea5 xg2 (xa1 (xm7 (xb7 K (pv 2))) xa5))))) (xa9 (i:=3) xj1.nd rfl (Or.inl rfl)) (xa6 (xh1 (PW.pt (yg5 (xf8 (xf7 (xb2 G_law_whole (hr.mono (by decide)) (by rfl) T.ef3 T.ed3.kp T.ee3 .nil xc9 (xa1 (pv 3) xa5)))) (xv5 (xh0 zf8 (pv 3) xa8 (xi4 _))))) (xa6 (xc3 xs2)) xc7)))))))))
   (xa6 (xc3 xs2)))),?_⟩
  refine ⟨_,rfl,_,_,_,true,rfl,.lst hl,zh9,true,rfl,iteF ?_⟩
  refine ⟨_,rfl,l,rfl,⟨_,SqL.of hl⟩,xf1 (xs:=cs.map V.ref) (fun i σ' G=>∃ v1 v2 v3:Option V,σ' = [some (.ref l),v1,v2,v3] /\ Same H G) ⟨none,none,none,rfl,Same.refl _⟩ (fun i σ' G _ hq=>?_) (fun i v σ' G hv hq=>?_) fun σ' G hq=>?_⟩
  ·obtain ⟨_,_,_,_,sm⟩:=hq; exact SqL.of (sm _ _ hl)
  ·obtain ⟨v1,v2,v3,rfl,sm⟩:=hq
   rw [List.getElem?_map] at hv
   obtain ⟨c,hcc,rfl⟩:=Option.map_eq_some_iff.mp hv
   obtain ⟨u,hu,dx,L,p,ec,eL,hp,ho⟩:=paired_at (hc.keep sm) hcc
   refine ⟨_,rfl,_,_,_,true,rfl,T.et4 _ _ _ _ ec,T.eu4,true,rfl,iteF ?_⟩
   refine ⟨_,rfl,c,A.ev2,dx,_,_,rfl,ec,T.en4,T.ep4,rfl,u.n,rfl,true,rfl,iteF ?_⟩
   refine ⟨_,rfl,c,A.ev2,dx,_,_,rfl,ec,T.en4,T.er4,rfl,_,_,_,_,rfl,.bl false,xr2 (.inr (.inl rfl)) (.inr (.inl rfl)),_,rfl,iteF ?_⟩
   refine ⟨_,rfl,c,A.ev2,dx,_,_,rfl,ec,T.en4,T.eq4,rfl,L,rfl,⟨_,SqL.of eL⟩,xf1 (xs:=[V.ref p]) (fun _ σ' G'=>∃ v2 v3:Option V,σ' = [some (.ref l),some (.ref c),v2,v3] /\ Same G G') ⟨_,_,rfl,Same.refl _⟩ (fun i σ' G' _ hq=>?_) (fun i v σ' G' hv hq=>?_) fun σ' G' hq=>?_⟩
   ·obtain ⟨_,_,_,sm'⟩:=hq; exact SqL.of (sm' _ _ eL)
   ·obtain ⟨v2,v3,rfl,sm1⟩:=hq
    obtain rfl:v = V.ref p:=by simpa using List.mem_of_getElem? hv
    obtain ⟨dp,d1,d2,ep,e1,e2⟩:=hp.keep sm1
    refine ⟨_,rfl,_,_,_,true,rfl,T.el4 _ _ _ _ ep,T.em4,true,rfl,iteF ?_⟩
    refine ⟨d1,_,e1,fun o xs es epo DD kt=>?_⟩
    refine ⟨_,rfl,p,A.eu2,dp,_,_,rfl,by rw [xa2 (xb9 ep e1 (by intro z; cases z))]; exact ep,T.ee4,T.eg4,rfl,d1,o,es,epo,rfl,xa0,DD.sys,DD.ex,DD.data,fun q hq=>?_⟩
    have dq:d1 ≠ q:=by rintro rfl; rw [xa0] at hq; cases hq
    refine ⟨q,d1,o,es,epo,_,rfl,xa0,by rw [xa2 dq,xa0],DD.ex,DD.data,xj4 DD kt,by rw [List.length_map]; have:=ho.t1.1; omega,fun m1 hm1=>?_⟩
    obtain ⟨b1,b2,b3,b4⟩:=yb1 (vs:=u.k1.map (·.2)) e1 hq hm1
    refine ⟨b1,b2,?_⟩
    generalize upd (upd (upd (upd G' d1 (held d1 o)) q (xw2 "dict_values" q d1)) m1 (.lst (u.k1.map (·.2)))) d1 (.dT u.k1) = G2 at b3 b4 ⊢
    have ep2:=b3 _ _ ep
    have e22:=b3 _ _ e2
    clear b1 b2 hm1 hq dq DD kt o xs es epo
    refine ⟨d2,_,e22,fun o xs es epo DD kt=>?_⟩
    refine ⟨_,rfl,p,A.eu2,dp,_,_,rfl,by rw [xa2 (xb9 ep2 e22 (by intro z; cases z))]; exact ep2,T.ee4,T.eh4,rfl,d2,o,es,epo,rfl,xa0,DD.sys,DD.ex,DD.data,fun q hq=>?_⟩
    have dq:d2 ≠ q:=by rintro rfl; rw [xa0] at hq; cases hq
    refine ⟨q,d2,o,es,epo,_,rfl,xa0,by rw [xa2 dq,xa0],DD.ex,DD.data,xj4 DD kt,by rw [List.length_map]; have:=ho.t2.1; omega,fun m2 hm2=>?_⟩
    obtain ⟨a1,a2,a3,a4⟩:=yb1 (vs:=u.k2.map (·.2)) e22 hq hm2
    refine ⟨a1,a2,?_⟩
    generalize upd (upd (upd (upd G2 d2 (held d2 o)) q (xw2 "dict_values" q d2)) m2 (.lst (u.k2.map (·.2)))) d2 (.dT u.k2) = G3 at a3 a4 ⊢
    have sm3:=(sm1.trans b3).trans a3
    refine ⟨m1,m2,_,_,rfl,rfl,a3 _ _ b4,a4,xe5 (by rw [List.length_map,List.length_map]; have:=ho.few; omega),fun M hM=>?_⟩
    refine ⟨M,rfl,⟨_,SqL.of xa0⟩,xf1 (xs:=u.k1.map (·.2) ++ u.k2.map (·.2)) (fun _ σ' G'=>∃ v3:Option V,σ' = [some (.ref l),some (.ref c),some (.ref p),v3] /\ G' = upd G3 M (.lst (u.k1.map (·.2) ++ u.k2.map (·.2)))) ⟨_,rfl,rfl⟩ (fun i σ' G' _ hq=>?_) (fun i v σ' G' hv hq=>?_) fun σ' G' hq=>?_⟩
    ·obtain ⟨_,_,rfl⟩:=hq; exact SqL.of xa0
    ·obtain ⟨v3,rfl,rfl⟩:=hq
     obtain ⟨n,rfl,n0⟩:∃ n:Int,v = .int n /\ 0 <= n:=by
      rcases List.mem_append.mp (List.mem_of_getElem? hv) with h | h
      ·exact yd7 ho.t1 h
      ·exact yd7 ho.t2 h
     refine ⟨_,rfl,n,rfl,true,rfl,iteF ⟨_,rfl,_,_,rfl,rfl,_,rfl,?_⟩⟩
     rw [decide_eq_false (show ¬ n < 0 by omega)]
     exact iteF ⟨_,rfl,rfl⟩
    ·obtain ⟨v3,rfl,rfl⟩:=hq
     exact ⟨_,_,rfl,sm3.trans (Same.new hM)⟩
   ·obtain ⟨v2,v3,rfl,sm1⟩:=hq
    exact ⟨_,_,_,rfl,sm.trans sm1⟩
  ·obtain ⟨v1,v2,v3,rfl,sm⟩:=hq
   exact k _ sm
theorem zb1 {K:Frag} {a D:Addr} {xs:List V} {g:TG} {tt:TT} {te:TE} {σ0:St} {H1:Hp} {Q:Hp -> Prop} (sq:SqL K H1 a xs) (hD:H1 D = none) (hz:xs.length <= 1) (h0:xs = [] -> Q (upd H1 D (.lst [])))
  (h1:∀ x,xs = [x] -> ∀ C:St -> Hp -> Prop,(∀ σ H,SqL K H a xs -> Q H -> C σ H) -> g x σ0 (upd H1 D (.lst [])) fun σ3 H3=>tt σ3 H3 fun b H4=>if b = true then te σ3 H4 fun v H5=>∃ xs,H5 D = some (.lst xs) /\ xs.length < sizeLine /\ C σ3 (upd H5 D (.lst (xs ++ [v]))) else C σ3 H4) :
  ∃ W:Nat -> Nat -> St -> Hp -> Prop,(∃ m,W 0 m σ0 (upd H1 D (.lst []))) /\
   ∀ i m σ' H',W i m σ' H' -> ((Itl K a).stop i H' /\ Q H') \/ ((Itl K a).go i H' /\ ∀ x H2,(Itl K a).yld i H' x H2 -> g x σ' H2 fun σ3 H3=>tt σ3 H3 fun b H4=>if b = true then te σ3 H4 fun v H5=>∃ xs,H5 D = some (.lst xs) /\ xs.length < sizeLine /\ ∃ m',m' < m /\ W (i + 1) m' σ3 (upd H5 D (.lst (xs ++ [v]))) else ∃ m',m' < m /\ W (i + 1) m' σ3 H4):=by
 have sq':SqL K (upd H1 D (.lst [])) a xs:=(Same.new hD).seq sq
 obtain ⟨W,hW⟩:∃ W:Nat -> Nat -> St -> Hp -> Prop,∀ i m σ' H',W i m σ' H' ↔ ((i = 0 /\ m = 1 /\ σ' = σ0 /\ H' = upd H1 D (.lst [])) \/ (i = 1 /\ m = 0 /\ SqL K H' a xs /\ Q H')):=⟨_,fun _ _ _ _=>Iff.rfl⟩
 refine ⟨W,⟨1,(hW _ _ _ _).mpr (.inl ⟨rfl,rfl,rfl,rfl⟩)⟩,fun i m σ' H' w=>?_⟩
 rcases (hW _ _ _ _).mp w with ⟨e1,e2,e3,e4⟩ | ⟨e1,e2,sq2,q⟩
 ·subst e1 e2 e3 e4
  by_cases hx:xs.length = 0
  ·exact .inl ⟨⟨xs,sq',by omega⟩,h0 (List.length_eq_zero_iff.mp hx)⟩
  ·obtain ⟨x,ex⟩:∃ x,xs = [x]:=List.length_eq_one_iff.mp (by omega)
   refine .inr ⟨⟨xs,x,sq',by rw [ex]; rfl⟩,fun y H2 yl=>?_⟩
   obtain ⟨e,yl⟩:=yl
   have exy:x = y:=by have:=yl xs sq'; rw [ex] at this; simpa using this
   subst e exy
   exact h1 x ex (fun σ3 H=>∃ m',m' < 1 /\ W (0 + 1) m' σ3 H) fun σ H s q=>⟨0,Nat.lt_succ_self _,(hW _ _ _ _).mpr (.inr ⟨rfl,rfl,s,q⟩)⟩
 ·subst e1
  exact .inl ⟨⟨xs,sq2,hz⟩,q⟩
def xw1 (sk:List Key) (L:List (List Key × V)) (v:Int):Prop:=(L = [] /\ v = 0) \/ L = [(sk,.int v)]
theorem xw1.len {sk:List Key} {L:List (List Key × V)} {v:Int} (h:xw1 sk L v):L.length <= 1:=by rcases h with ⟨rfl,_⟩ | rfl <;> simp
theorem xw1.put {sk:List Key} {L:List (List Key × V)} {v:Int} (h:xw1 sk L v) (c:Nat -> Nat) (ws:List Int) (k x:Nat):xw1 sk (putA L (kvT sk c ws k x)) (if c x = k then ws.getD x 0 else v):=by
 unfold kvT
 by_cases e:c x = k
 ·rw [if_pos e,if_pos e]
  refine .inr ?_
  show putK L sk (.int (ws.getD x 0)) = _
  rcases h with ⟨rfl,_⟩ | rfl
  ·rfl
  ·unfold putK; simp
 ·rw [if_neg e,if_neg e]; exact h
theorem zb0 {ws:List Int} {c:Nat -> Nat} (h:Done ws c) {x:Nat} (hx:x < ws.length):(if c x = 2 then ws.getD x 0 else carr c ws (x + 1)) = ws.getD x 0:=by
 by_cases e:c x = 2
 ·rw [if_pos e]
 ·rw [if_neg e]
  by_cases e1:c x = 1
  ·show (if c x = 1 then _ else _) = _; rw [if_pos e1]
  ·have:=h.2.1 x
   exact h.1 x hx (by omega)
def xr3 (sk:List Key) (H:Hp) (f:Addr) (w:Int):Prop:=(0 < w /\ ∃ t b,H f = some (.lst [.ref t]) /\ H t = some (.tup [.ref b,.int w]) /\ H b = some (.tup (sk.map kV))) \/ (¬ 0 < w /\ H f = some (.lst []))
theorem xr3.go {sk:List Key} {G G':Hp} {f d F:Addr} {w:Int} {L:List (List Key × V)} {ys:List V} (h:xr3 sk G f w) (hf:f ≠ F) (hL:G d = some (.dT L)) (hF:G F = some (.lst ys)) (k:∀ a o,a ≠ d -> a ≠ F -> G a = some o -> G' a = some o):xr3 sk G' f w:=by
 rcases h with ⟨h,t,b,h1,h2,h3⟩ | ⟨h,h1⟩
 ·exact .inl ⟨h,t,b,k _ _ (xb9 h1 hL (by intro z; cases z)) hf h1,k _ _ (xb9 h2 hL (by intro z; cases z)) (xb9 h2 hF (by intro z; cases z)) h2,k _ _ (xb9 h3 hL (by intro z; cases z)) (xb9 h3 hF (by intro z; cases z)) h3⟩
 ·exact .inr ⟨h,k _ _ (xb9 h1 hL (by intro z; cases z)) hf h1⟩
def spLooksL (A:Adr) (K:Frag):Sp:=fun vs H Q _=>∃ (l:Addr) (cs:List Addr) (us:List Cu) (sk:List Key) (ws:List Int) (c:Nat -> Nat),vs = [.ref l] /\ H l = some (.lst (cs.map V.ref)) /\ cs.length <= 900 /\ xt8 A H cs (xo7 sk ws c us) /\ us.length = ws.length /\ SlotG sk /\ Done ws c /\
 ∀ F H' (fs:List Addr),H F = none -> H' F = some (.lst (fs.map V.ref)) -> Paired (xr3 sk H') fs ws -> Same H H' -> Q (.ref F) H'
theorem ym2 (T:Txt K mg A):FnOk P w K mg base CX0 2 A.eq2 A.er2 ["_law_cues"] (spLooksL A K):=by
 refine T.ey3.ok xe8 (fun vs H Q E h=>?_) (fun cdv Ar outer s H vs Q E hr h=>?_)
 ·obtain ⟨l,cs,us,sk,ws,c,rfl,hl,hz,hc,hlen,hsg,hdone,k⟩:=h
  rfl
 ·obtain ⟨l,cs,us,sk,ws,c,rfl,hl,hz,hc,hlen,hsg,hdone,k⟩:=h
  refine ⟨_,(xa4 (xb6 (i:=1) xe8.nd rfl (Or.inl rfl) xj2)
   (xa4 (xb6 (i:=2) xe8.nd rfl (Or.inl rfl) (xj7 xa5))
   (xa4 (xd0 PassesOwn.never rfl (xb8 K (pv 0)) (xa9 (i:=3) xe8.nd rfl (Or.inl rfl)) (xa4 (xh1 (xf7 (xb7 K (pv 3))) (xa6 (xb6 (i:=1) xe8.nd rfl (Or.inl rfl) xj2)) xc7)
   (xa4 (xd0 PassesOwn.never rfl (xb8 K (xb7 K (pv 3))) (xa9 (i:=4) xe8.nd rfl (Or.inl rfl)) (xa6 (xh5 (zf2 (hu1 hr) (pv 1) (xb7 K (pv 4)) ⟨rfl,rfl,rfl,rfl⟩))))
   (xa4 (xb6 (i:=5) xe8.nd rfl (Or.inr rfl) (xd6 xu9 (by rfl) T.eb5 xt5 (xa1 (pv 1) xa5)))
   (xa4 (xd0 PassesOwn.never rfl (xb8 K (xb7 K (pv 3))) (xa9 (i:=4) xe8.nd rfl (Or.inl rfl)) (xa6 (xh5 (zf2 (hu1 hr) (pv 5) (xb7 K (pv 4)) ⟨rfl,rfl,rfl,rfl⟩))))
   (xa6 (xh5 (yg9 PySem.F.plainAttrs_list PySem.F.slot_list_append PySem.F.type_list_append xh3 (pv 2) (xa1 (zf4 ["_law_slot","_law_here"] [none,some 5] rfl (xb8 K (xb0 (yt4 rfl) (by rfl) T.ed5 yb8 (xa1 (pv 5) xa5))) (fun _ _ _=>(xa9 (i:=0) xz9 rfl (Or.inl rfl))) (fun _ _ _=>(xh0 op_gt (yr2 (hu1 hr) (pv 1) (pv 0) (fun _ _=>rfl)) xa8 (xi4 _))) (fun _ _ _=>(xz0 (xa1 (pv 0) (xa1 (yr2 (hu1 hr) (pv 1) (pv 0) (fun _ _=>rfl)) xa5))))) xa5)))))))))
   (xa6 (xc3 (pv 2)))))),?_⟩
  have hcl:cs.length = ws.length:=by have:=Paired.length hc; rw [xo6] at this; omega
  have txt:∀ {L:List (List Key × V)} {v:Int},xw1 sk L v -> ∀ kv ∈ L,xi5 kv.1:=fun {L v} h kv hkv=>by
   obtain ⟨lm,sd,rfl,_⟩:=hsg
   rcases h with ⟨rfl,_⟩ | rfl
   ·cases hkv
   ·obtain rfl:=List.mem_singleton.mp hkv
    refine ⟨by simp,fun x hx=>?_⟩
    simp only [List.mem_cons,List.not_mem_nil,or_false] at hx
    rcases hx with rfl | rfl <;> exact ⟨_,rfl⟩
  intro d0 hd0
  refine ⟨by decide,fun F hF=>?_⟩
  have hF0:H F = none:=(Same.new hd0).free hF
  have nd0:d0 ≠ F:=xa3 (xa0 (H:=H)) hF
  refine ⟨_,rfl,l,rfl,⟨_,SqL.of (((Same.new hd0).trans (Same.new hF)) _ _ hl)⟩,xf1 (xs:=cs.map V.ref) (fun x σ' G=>∃ (v3 v4 v5:Option V) (L:List (List Key × V)) (fs:List Addr),σ' = [some (.ref l),some (.ref d0),some (.ref F),v3,v4,v5] /\ Same H G /\ G d0 = some (.dT L) /\ xw1 sk L (carr c ws x) /\ G F = some (.lst (fs.map V.ref)) /\ Paired (fun f w=>f ≠ F /\ xr3 sk G f w) fs (ws.take x)) ⟨none,none,none,[],[],rfl,(Same.new hd0).trans (Same.new hF),by rw [xa2 nd0,xa0],.inl ⟨rfl,rfl⟩,xa0,by rw [List.take_zero]; exact .nil⟩ (fun x σ' G _ hq=>?_) (fun x v σ' G hv hq=>?_) fun σ' G hq=>?_⟩
  ·obtain ⟨_,_,_,_,_,_,sm,_⟩:=hq; exact SqL.of (sm _ _ hl)
  ·obtain ⟨v3,v4,v5,L,fs,rfl,sm,gd,hL,gF,hP⟩:=hq
   rw [List.getElem?_map] at hv
   obtain ⟨cu,hcc,rfl⟩:=Option.map_eq_some_iff.mp hv
   have hx:x < ws.length:=by have:=(List.getElem?_eq_some_iff.mp hcc).1; omega
   have hwx:ws[x]? = some (ws.getD x 0):=by rw [List.getD_eq_getElem?_getD,List.getElem?_eq_getElem hx]; rfl
   obtain ⟨u',hu',hcu⟩:=paired_at hc hcc
   have hux:us[x]? = some us[x]:=List.getElem?_eq_getElem (by omega)
   rw [yg3 hux] at hu'
   cases hu'
   obtain ⟨dx,PL,p,ec0,eL0,⟨dp,d1,d2,ep0,e10,e20⟩,ho⟩:=hcu
   dsimp only at e10 e20 ho ec0
   refine xn5 (fun σ' G'=>∃ v4:Option V,σ' = [some (.ref l),some (.ref d0),some (.ref F),some (.ref cu),v4,v5] /\ G' = upd G d0 (.dT (putA L (kvT sk c ws 1 x)))) (fun N hN=>?_) ?_
   ·refine ⟨_,rfl,cu,A.ev2,dx,_,_,rfl,sm _ _ ec0,T.en4,T.er4,rfl,_,rfl,iteF ?_⟩
    refine ⟨_,rfl,cu,A.ev2,dx,_,_,rfl,sm _ _ ec0,T.en4,T.eq4,rfl,PL,rfl,⟨_,SqL.of (sm _ _ eL0)⟩,xf1 (xs:=[V.ref p]) (fun j σ' G'=>∃ v4:Option V,σ' = [some (.ref l),some (.ref d0),some (.ref F),some (.ref cu),v4,v5] /\ ((j = 0 /\ G' = G) \/ (0 < j /\ G' = upd G d0 (.dT (putA L (kvT sk c ws 1 x)))))) ⟨_,rfl,.inl ⟨rfl,rfl⟩⟩ (fun j σ' G' _ hq=>?_) (fun j v σ' G' hv hq=>?_) fun σ' G' hq=>?_⟩
    ·obtain ⟨_,_,hh⟩:=hq
     rcases hh with ⟨_,rfl⟩ | ⟨_,rfl⟩
     ·exact SqL.of (sm _ _ eL0)
     ·exact SqL.of (by rw [xa2 (xa3 eL0 hd0)]; exact sm _ _ eL0)
    ·obtain ⟨v4,rfl,hh⟩:=hq
     have hj:j = 0:=by have:=(List.getElem?_eq_some_iff.mp hv).1; simpa using this
     subst hj
     obtain rfl:V.ref p = v:=by simpa using hv
     obtain rfl:G' = G:=by rcases hh with ⟨_,h⟩ | ⟨h,_⟩; exact h; exact absurd h (Nat.lt_irrefl _)
     exact ⟨_,rfl,d0,rfl,.inr ⟨_,.inl gd⟩,_,rfl,p,A.eu2,dp,_,_,rfl,sm _ _ ep0,T.ee4,T.eg4,rfl,d1,_,_,rfl,Ne.symm (xa3 e10 hd0),gd,sm _ _ e10,ho.t1.1,by have:=hL.len; omega,⟨_,rfl,.inr ⟨Nat.lt_succ_self _,rfl⟩⟩⟩
    ·obtain ⟨v4,rfl,hh⟩:=hq
     rcases hh with ⟨h,_⟩ | ⟨_,rfl⟩
     ·cases h
     ·exact hN _ _ ⟨_,rfl,rfl⟩
   rintro σ1 G1 ⟨v4',rfl,rfl⟩
   have hL1:=hL.put c ws 1 x
   rw [show (if c x = 1 then ws.getD x 0 else carr c ws x) = carr c ws (x + 1) from rfl] at hL1
   generalize putA L (kvT sk c ws 1 x) = L1 at hL1 ⊢
   have s1:Same H (upd G d0 (.dT L1)):=fun b o e=>by rw [xa2 (xa3 e hd0)]; exact sm _ _ e
   have gd1:upd G d0 (.dT L1) d0 = some (.dT L1):=xa0
   have gF1:upd G d0 (.dT L1) F = some (.lst (fs.map V.ref)):=by rw [xa2 (Ne.symm nd0)]; exact gF
   have k1:∀ a o,a ≠ d0 -> a ≠ F -> G a = some o -> upd G d0 (.dT L1) a = some o:=fun a o h _ e=>by rw [xa2 h]; exact e
   generalize upd G d0 (.dT L1) = G1 at s1 gd1 gF1 k1 ⊢
   refine xn5 (fun σ' G'=>∃ (v4:Option V) (E:Addr),σ' = [some (.ref l),some (.ref d0),some (.ref F),some (.ref cu),v4,some (.ref E)] /\ G1 E = none /\ G' = upd (upd G1 E (.dT L1)) E (.dT (putA L1 (kvT sk c ws 2 x)))) (fun N hN=>?_) ?_
   ·refine ⟨_,rfl,d0,_,rfl,gd1,hL1.len,fun E hE=>?_⟩
    have sE:Same G1 (upd G1 E (.dT L1)):=Same.new hE
    have hE0:H E = none:=s1.free hE
    have s2:=s1.trans sE
    refine ⟨_,rfl,cu,A.ev2,dx,_,_,rfl,s2 _ _ ec0,T.en4,T.eq4,rfl,PL,rfl,⟨_,SqL.of (s2 _ _ eL0)⟩,xf1 (xs:=[V.ref p]) (fun j σ' G'=>∃ v4:Option V,σ' = [some (.ref l),some (.ref d0),some (.ref F),some (.ref cu),v4,some (.ref E)] /\ ((j = 0 /\ G' = upd G1 E (.dT L1)) \/ (0 < j /\ G' = upd (upd G1 E (.dT L1)) E (.dT (putA L1 (kvT sk c ws 2 x)))))) ⟨_,rfl,.inl ⟨rfl,rfl⟩⟩ (fun j σ' G' _ hq=>?_) (fun j v σ' G' hv hq=>?_) fun σ' G' hq=>?_⟩
    ·obtain ⟨_,_,hh⟩:=hq
     rcases hh with ⟨_,rfl⟩ | ⟨_,rfl⟩
     ·exact SqL.of (s2 _ _ eL0)
     ·exact SqL.of (by rw [xa2 (xa3 eL0 hE0)]; exact s2 _ _ eL0)
    ·obtain ⟨v4,rfl,hh⟩:=hq
     have hj:j = 0:=by have:=(List.getElem?_eq_some_iff.mp hv).1; simpa using this
     subst hj
     obtain rfl:V.ref p = v:=by simpa using hv
     obtain rfl:G' = upd G1 E (.dT L1):=by rcases hh with ⟨_,h⟩ | ⟨h,_⟩; exact h; exact absurd h (Nat.lt_irrefl _)
     exact ⟨_,rfl,E,rfl,.inr ⟨_,.inl xa0⟩,_,rfl,p,A.eu2,dp,_,_,rfl,s2 _ _ ep0,T.ee4,T.eh4,rfl,d2,_,_,rfl,Ne.symm (xa3 e20 hE0),xa0,s2 _ _ e20,ho.t2.1,by have:=hL1.len; omega,⟨_,rfl,.inr ⟨Nat.lt_succ_self _,rfl⟩⟩⟩
    ·obtain ⟨v4,rfl,hh⟩:=hq
     rcases hh with ⟨h,_⟩ | ⟨_,rfl⟩
     ·cases h
     ·exact hN _ _ ⟨_,_,rfl,hE,rfl⟩
   rintro σ2 G2 ⟨v4'',E,rfl,hE,rfl⟩
   have hL2:=hL1.put c ws 2 x
   rw [zb0 hdone hx] at hL2
   generalize putA L1 (kvT sk c ws 2 x) = L2 at hL2 ⊢
   have s2:Same G1 (upd (upd G1 E (.dT L1)) E (.dT L2)):=fun b o e=>by rw [xa2 (xa3 e hE),xa2 (xa3 e hE)]; exact e
   have gE:upd (upd G1 E (.dT L1)) E (.dT L2) E = some (.dT L2):=xa0
   generalize upd (upd G1 E (.dT L1)) E (.dT L2) = G2 at s2 gE ⊢
   refine ⟨_,rfl,.inl ⟨rfl,_,SqL.of (s2 _ _ gF1)⟩,_,rfl,E,_,rfl,gE,txt hL2,hL2.len,fun S ks hS hks hka=>?_⟩
   have sS:Same G2 (upd G2 S (.lst (ks.map fun x=>V.ref x.2))):=Same.new hS
   have hkl:ks.length <= 1:=by have h1:=congrArg List.length hks; rw [List.length_map,List.length_map] at h1; have:=hL2.len; omega
   refine ⟨S,rfl,⟨_,SqL.of xa0⟩,fun D hD=>?_⟩
   have hD2:G2 D = none:=sS.free hD
   have nDF:D ≠ F:=Ne.symm (xa3 (s2 _ _ gF1) hD2)
   have lt:(fs.map V.ref).length < sizeLine:=by
    have:=Paired.length hP
    rw [List.length_take] at this
    exact Nat.lt_of_lt_of_le (show _ < 1001 by rw [List.length_map]; omega) (by decide)
   have fin:∀ G3,Same (upd G2 S (.lst (ks.map fun x=>V.ref x.2))) G3 -> xr3 sk (upd G3 F (.lst (fs.map V.ref ++ [.ref D]))) D (ws.getD x 0) -> yq6 (.ref F) [.ref D] G3 fun _ H'=>∃ (v3 v4 v5:Option V) (L:List (List Key × V)) (fs:List Addr),[some (.ref l),some (.ref d0),some (.ref F),some (.ref cu),v4'',some (.ref E)] = [some (.ref l),some (.ref d0),some (.ref F),v3,v4,v5] /\ Same H H' /\ H' d0 = some (.dT L) /\ xw1 sk L (carr c ws (x + 1)) /\ H' F = some (.lst (fs.map V.ref)) /\ Paired (fun f w=>f ≠ F /\ xr3 sk H' f w) fs (ws.take (x + 1)):=fun G3 s3 hs=>by
    have s4:=(s2.trans sS).trans s3
    refine ⟨F,_,_,rfl,rfl,s4 _ _ gF1,lt,?_⟩
    refine ⟨_,_,_,L1,fs ++ [D],rfl,fun b o e=>by rw [xa2 (xa3 e hF0)]; exact s4 _ _ (s1 _ _ e),by rw [xa2 nd0]; exact s4 _ _ gd1,hL1,by rw [xa0,List.map_append]; rfl,?_⟩
    rw [xf5 hwx]
    refine Paired.snoc (Paired.mapP hP fun f w q=>⟨q.1,q.2.go q.1 gd gF fun a o h1 h2 e=>?_⟩) ⟨nDF,hs⟩
    rw [xa2 h2]; exact s4 _ _ (k1 a o h1 h2 e)
   refine zb1 (SqL.of xa0) hD (by rw [List.length_map]; exact hkl) (fun h0=>fin _ (Same.new hD) ?_) (fun y hy C hC=>?_)
   ·have:ks = []:=List.map_eq_nil_iff.mp h0
    subst this
    have e2:L2 = []:=List.map_eq_nil_iff.mp hks.symm
    refine .inr ⟨?_,by rw [xa2 nDF,xa0]⟩
    rcases hL2 with ⟨_,h⟩ | h
    ·omega
    ·rw [e2] at h; cases h
   ·obtain ⟨⟨kk,b⟩,eks⟩:∃ z,ks = [z]:=List.length_eq_one_iff.mp (by have:=congrArg List.length hy; rw [List.length_map] at this; exact this)
    subst eks
    obtain rfl:V.ref b = y:=by simpa using hy
    have eL:L2 = [(sk,.int (ws.getD x 0))]:=by
     rcases hL2 with ⟨rfl,_⟩ | h
     ·cases hks
     ·exact h
    subst eL
    obtain rfl:kk = sk:=by simpa using hks
    have gb:G2 b = some (.tup (kk.map kV)):=hka (kk,b) (by simp)
    have sD:Same (upd G2 S (.lst ([(kk,b)].map fun x=>V.ref x.2))) (upd (upd G2 S (.lst ([(kk,b)].map fun x=>V.ref x.2))) D (.lst [])):=Same.new hD
    have sSD:=sS.trans sD
    have get:DGet (upd (upd G2 S (.lst ([(kk,b)].map fun x=>V.ref x.2))) D (.lst [])) E (.ref b) (some (.int (ws.getD x 0))):=by
     have:=DGet.t (k:=kk) (sSD _ _ gE) (sSD _ _ gb)
     rwa [xd8 rfl] at this
    refine ⟨_,rfl,_,rfl,E,_,rfl,get,_,_,rfl,rfl,_,rfl,?_⟩
    refine ite2 (fun cw=>?_) (fun cw=>?_)
    ·have cw:=of_decide_eq_true cw
     refine ⟨_,rfl,_,rfl,_,rfl,E,_,rfl,get,(by show 2 <= 1000; decide),fun t ht=>?_⟩
     have st:∀ o,Same (upd (upd G2 S (.lst ([(kk,b)].map fun x=>V.ref x.2))) D (.lst [])) (upd (upd (upd G2 S (.lst ([(kk,b)].map fun x=>V.ref x.2))) D (.lst [])) t o):=fun o=>Same.new ht
     have nDt:D ≠ t:=xa3 (xa0 (H:=upd G2 S (.lst ([(kk,b)].map fun x=>V.ref x.2)))) ht
     have sA:Same (upd G2 S (.lst ([(kk,b)].map fun x=>V.ref x.2))) (upd (upd (upd (upd G2 S (.lst ([(kk,b)].map fun x=>V.ref x.2))) D (.lst [])) t (.tup [.ref b,.int (ws.getD x 0)])) D (.lst ([] ++ [.ref t]))):=(sD.trans (st _)).upd hD
     have nFt:F ≠ t:=xa3 (sSD _ _ (s2 _ _ gF1)) ht
     refine ⟨[],by rw [xa2 nDt,xa0],by show 0 < sizeLine; decide,hC _ _ (SqL.of (sA _ _ xa0)) (fin _ sA (.inl ⟨cw,t,b,?_,?_,?_⟩))⟩
     ·rw [xa2 nDF,xa0]; rfl
     ·rw [xa2 (Ne.symm nFt),xa2 (Ne.symm nDt),xa0]
     ·rw [xa2 (xb9 gb (s2 _ _ gF1) (by intro z; cases z))]; exact sA _ _ (sS _ _ gb)
    ·have cw:¬ 0 < ws.getD x 0:=fun h=>cw (decide_eq_true h)
     refine hC _ _ (SqL.of (sD _ _ xa0)) (fin _ sD (.inr ⟨cw,by rw [xa2 nDF,xa0]⟩))
  ·obtain ⟨v3,v4,v5,L,fs,rfl,sm,gd,hL,gF,hP⟩:=hq
   rw [List.length_map,hcl,List.take_length] at hP
   exact ⟨_,rfl,k F _ fs hF0 gF (Paired.mapP hP fun _ _ q=>q.2) sm⟩
theorem pe_holdP {X:Cx} (P:Program) (w:World) {e:Expr} {t:TE} (h:PE X e t) (hP:X.prog = P:=by rfl) (hw:X.w = w:=by rfl):PE X e (tHold P w t):=by
 subst hP hw
 exact xz1 h
def xv3 (lm sd:Str) (w:Int):PyData:=.list (if 0 < w then [.tuple [.tuple [.str lm,.str sd],.int w]] else [])
theorem xr3.data {K:Frag} {H:Hp} {lm sd:Str} {f:Addr} {w:Int} (h:xr3 (xh4 lm sd) H f w):IsD8 K H (.ref f) (xv3 lm sd w):=by
 unfold xv3
 rcases h with ⟨h,t,b,h1,h2,h3⟩ | ⟨h,h1⟩
 ·rw [if_pos h]
  exact .lst (SqL.of h1) (.cons (.tup (SqT.of h2) (.cons (.tup (SqT.of h3) (.cons (.str _) (.cons (.str _) .nil))) (.cons (.int _) .nil))) .nil)
 ·rw [if_neg h]
  exact .lst (SqL.of h1) .nil
theorem yl0 {K:Frag} {H:Hp} {lm sd:Str} {fs:List Addr} {ws:List Int} (h:Paired (xr3 (xh4 lm sd) H) fs ws):AreD8 K H (fs.map V.ref) (ws.map (xv3 lm sd)):=by
 induction h with
 | nil=>exact .nil
 | cons q t ih=>exact .cons q.data ih
theorem yi2 {K:Frag} {H:Hp}:∀ ns:List Int,AreD8 K H (ns.map V.int) (ns.map PyData.int)
 | []=>.nil
 | n :: ns=>.cons (.int n) (yi2 ns)
theorem yi1 {α:Type} {f:α -> PyData} (h:∀ a,(f a).canLay0 = true):∀ l:List α,PyData.canLayAll0 (l.map f) = true
 | []=>rfl
 | a :: l=>by rw [List.map_cons,PyData.canLayAll0,h a,yi1 h l]; rfl
theorem yx0 {α:Type} {f:α -> PyData} {n:Nat} (h:∀ a,(f a).depth <= n):∀ l:List α,PyData.depthAll (l.map f) <= n
 | []=>Nat.zero_le _
 | a :: l=>by rw [List.map_cons,PyData.depthAll]; exact Nat.max_le.mpr ⟨h a,yx0 h l⟩
theorem xy0 {α:Type} {f:α -> PyData} {n:Nat} (h:∀ a,(f a).canLay0 = true) (hd:∀ a,(f a).depth <= n) (hn:n <= 60) (l:List α):PySem.SeqAt.shaped (.list (l.map f)) = true:=by
 unfold PySem.SeqAt.shaped
 rw [Bool.and_eq_true]
 refine ⟨by rw [PyData.canLay0]; exact yi1 h l,decide_eq_true ?_⟩
 have:=yx0 hd l
 rw [PyData.depth]; omega
theorem zh7 {z:Str} (h:xr1 z = true):PyData.strOk z = true:=by
 unfold xr1 at h
 simp only [Bool.and_eq_true] at h
 have ha:=h.2.2
 unfold PyData.strOk
 rw [Array.all_eq_true']
 intro c hc
 have:xs9 c = true:=List.all_eq_true.mp ha c (Array.mem_toList_iff.mpr hc)
 unfold xs9 at this
 simp only [Bool.and_eq_true,decide_eq_true_eq] at this
 exact decide_eq_true (by omega)
theorem ye0 {lm sd:Str} (h1:PyData.strOk lm = true) (h2:PyData.strOk sd = true) (w:Int):(xv3 lm sd w).canLay0 = true:=by
 unfold xv3
 by_cases h:0 < w
 ·rw [if_pos h]; simp [PyData.canLay0,PyData.canLayAll0,h1,h2]
 ·rw [if_neg h]; rfl
theorem yp8 {lm sd:Str} (w:Int):(xv3 lm sd w).depth <= 3:=by
 unfold xv3
 by_cases h:0 < w
 ·rw [if_pos h]; simp [PyData.depth,PyData.depthAll]
 ·rw [if_neg h]; simp [PyData.depth,PyData.depthAll]
theorem yl1 (sk:List Key) (ws:List Int) (c:Nat -> Nat) (us:List Cu):(xo7 sk ws c us).map (·.n) = us.map (·.n):=by
 apply List.ext_getElem?
 intro x
 rw [List.getElem?_map,List.getElem?_map]
 cases e:us[x]? with
 | none=>rw [List.getElem?_eq_none (by rw [xo6]; exact List.getElem?_eq_none_iff.mp e)]
 | some u=>rw [yg3 e]; rfl
theorem ye1 {us:List Cu}:xo3 us ↔ (us.map (·.n)).Pairwise (· < ·):=by unfold xo3; rw [List.pairwise_map]
theorem yp9 {sk:List Key} {ws:List Int} {c:Nat -> Nat} {us:List Cu} (h:xo3 us):xo3 (xo7 sk ws c us):=by
 rw [ye1,yl1]; exact ye1.mp h
theorem yt6 {sk:List Key} {ws:List Int} {c:Nat -> Nat} (hc:∀ x,c x <= 2):∀ (n:Nat) (us:List Cu),us.length = n -> wgt (xo7 sk ws c us) = told c n
 | 0,us,h=>by obtain rfl:=List.length_eq_zero_iff.mp h; rfl
 | n + 1,us,h=>by
  have hne:us ≠ []:=by rintro rfl; cases h
  have hd:us = us.dropLast ++ [us.getLast hne]:=(List.dropLast_concat_getLast hne).symm
  have hl:us.dropLast.length = n:=by rw [List.length_dropLast]; omega
  have ih:=yt6 (sk:=sk) (ws:=ws) hc n us.dropLast hl
  rw [hd]
  unfold xo7 at ih ⊢
  rw [List.mapIdx_concat,yf8,ih,hl]
  show told c n + _ = told c n + if c n = 0 then 0 else 1
  congr 1
  unfold kvT
  dsimp only
  have:=hc n
  by_cases e1:c n = 1
  ·rw [if_pos e1,if_neg (by omega),if_neg (by omega)]; rfl
  ·by_cases e2:c n = 2
   ·rw [if_neg e1,if_pos e2,if_neg (by omega)]; rfl
   ·rw [if_neg e1,if_neg e2,if_pos (by omega)]; rfl
theorem yq5 {us:List Cu} {u:Cu} (h:xo3 us) (hu:∀ v ∈ us,v.n < u.n):xo3 (us ++ [u]):=by
 unfold xo3
 rw [List.pairwise_append]
 exact ⟨h,List.pairwise_singleton _ _,fun a ha b hb=>by obtain rfl:=List.mem_singleton.mp hb; exact hu a ha⟩
theorem Lks.on {H H':Hp} {sk:List Key} {ls:List Addr} {ws:List Int} (h:Lks H sk ls ws) (k:∀ a kvs,H a = some (.dT kvs) -> H' a = some (.dT kvs)):Lks H' sk ls ws:=Paired.mapP h fun _ _ q=>⟨k _ _ q.1,q.2⟩
theorem sides_ok {j:Int} (h0:0 <= j) (h1:j < 3):∃ sd:Str,atI [V.str (Str.ofString "bright"),V.str (Str.ofString "blue"),V.str (Str.ofString "pan")] j = some (.str sd) /\ inV (.str sd) xv2 = true /\ PyData.strOk sd = true:=by
 have hj:j = 0 \/ j = 1 \/ j = 2:=by omega
 rcases hj with rfl | rfl | rfl
 ·exact ⟨_,rfl,by decide +kernel,by decide +kernel⟩
 ·exact ⟨_,rfl,by decide +kernel,by decide +kernel⟩
 ·exact ⟨_,rfl,by decide +kernel,by decide +kernel⟩
theorem held_two {G:Hp} {d v l u:Addr} {kvs:List (List Key × V)} {o:Obj} {X:HO} {ts vs:List V} (hd:G d = some (.dT kvs)) (hv:upd G d (held d o) v = none) (hl:upd (upd G d (held d o)) v X l = none) (hu:upd (upd G d (held d o)) v X u = none) (n:l ≠ u) :
  upd (upd (upd (upd G d (held d o)) v X) u (.tup ts)) l (.lst vs) d = some (held d o) /\ xp6 G (upd (upd (upd (upd G d (held d o)) v X) u (.tup ts)) l (.lst vs)) /\ Same G (upd (upd (upd (upd (upd G d (held d o)) v X) u (.tup ts)) l (.lst vs)) d (.dT kvs)) /\
   upd (upd (upd (upd (upd G d (held d o)) v X) u (.tup ts)) l (.lst vs)) d (.dT kvs) l = some (.lst vs) /\ upd (upd (upd (upd (upd G d (held d o)) v X) u (.tup ts)) l (.lst vs)) d (.dT kvs) u = some (.tup ts):=by
 have dv:d ≠ v:=by rintro rfl; rw [xa0] at hv; cases hv
 have hv0:G v = none:=by rw [xa2 (Ne.symm dv)] at hv; exact hv
 have dl:d ≠ l:=by rintro rfl; rw [xa2 dv,xa0] at hl; cases hl
 have du:d ≠ u:=by rintro rfl; rw [xa2 dv,xa0] at hu; cases hu
 have kX:∀ {b ob},b ≠ d -> G b = some ob -> upd (upd (upd (upd G d (held d o)) v X) u (.tup ts)) l (.lst vs) b = some ob:=fun {b ob} hb e=>by
  have h1:upd (upd G d (held d o)) v X b = some ob:=by rw [xa2 (xa3 e hv0),xa2 hb]; exact e
  rw [xa2 (xa3 h1 hl),xa2 (xa3 h1 hu)]; exact h1
 refine ⟨by rw [xa2 dl,xa2 du,xa2 dv,xa0],fun b ys e=>kX (xb9 e hd (by intro z; cases z)) e,fun b ob e=>?_,by rw [xa2 (Ne.symm dl),xa0],by rw [xa2 (Ne.symm du),xa2 (Ne.symm n),xa0]⟩
 by_cases z:b = d
 ·rw [z,xa0]; rw [z,hd] at e; exact e
 ·rw [xa2 z]; exact kX z e
theorem xr3.keep {sk:List Key} {G G':Hp} {f:Addr} {w:Int} (h:xr3 sk G f w) (s:Same G G'):xr3 sk G' f w:=by
 rcases h with ⟨h,t,b,h1,h2,h3⟩ | ⟨h,h1⟩
 ·exact .inl ⟨h,t,b,s _ _ h1,s _ _ h2,s _ _ h3⟩
 ·exact .inr ⟨h,s _ _ h1⟩
def spLaw (K:Frag):Sp:=fun vs H Q _=>∃ (a:Addr) (ns:List Int),vs = [.ref a] /\ SqL K H a (ns.map V.int) /\ ns.length <= 63 /\ ∀ H',Q (.bl true) H'
theorem ok_law (T:Txt K mg A):FnOk P w K mg base CX0 12 A.es2 A.et2 ["_law_script"] (spLaw K):=by
 have G_Cue_init:=xz7 (P:=P) (w:=w) (base:=base) T
 have G_Part_init:=xv8 (P:=P) (w:=w) (base:=base) T
 have G_law_cell_at:=xq4 (P:=P) (w:=w) (base:=base) T
 have G_law_draw:=xq8 (P:=P) (w:=w) (base:=base) T
 have G_law_is_list:=yc7 (P:=P) (w:=w) (base:=base) T
 have G_law_lamp:=yr6 (P:=P) (w:=w) (base:=base) T
 have G_law_least:=ym3 (P:=P) (w:=w) (base:=base) T
 have G_law_looks:=ym2 (P:=P) (w:=w) (base:=base) T
 have G_law_weight:=yh1 (P:=P) (w:=w) (base:=base) T
 have G_law_whole:=xv7 (P:=P) (w:=w) (base:=base) T
 have G_law_worths:=yh0 (P:=P) (w:=w) (base:=base) T
 have G_showing:=yz4 (P:=P) (w:=w) (base:=base) T
 have G_weight:=zg2 (P:=P) (w:=w) (base:=base) T
 refine T.eb4.ok xo2 (fun vs H Q E h=>?_) (fun cdv Ar outer s H vs Q E hr h=>?_)
 ·obtain ⟨a,ns,rfl,hS,hlen,k⟩:=h
  rfl
 ·obtain ⟨a,ns,rfl,hS,hlen,k⟩:=h
  refine ⟨_,(xa4 (xb6 (i:=0) xo2.nd rfl (Or.inr rfl) (xh6 ["_law_cell","_law_script"] [none,some 0] rfl (xb8 K (pv 0)) (fun _ _ _=>(xa9 (i:=0) zg8 rfl (Or.inl rfl))) (fun _ _ _=>(xc4 xf9 (xc4 ye4 xa8 (pv 0)) (xc4 xl6 (xb0 (zl2 K rfl) (by rfl) T.ej5 boot_sum (xa1 (yg7 (yg2 K) (pv 1) yq9 (yq8 xa8)) xa5)) xa8)))))
   (xa4 (xb6 (i:=1) xo2.nd rfl (Or.inl rfl) (xz0 (xa1 (xb2 G_law_lamp (hr.mono (by decide)) (by rfl) T.er3 T.ep3.kp T.eq3 .nil xc9 (xa1 (xb2 G_law_cell_at (hr.mono (by decide)) (by rfl) T.ec3 T.ea3.kp T.eb3 .nil xc9 (xa1 (pv 0) (xa1 xa8 xa5))) xa5)) (xa1 (xi3 (xc1 K) (xj7 (xa1 yl9 (xa1 yl9 (xa1 yl9 xa5)))) (xc4 xl6 (xb2 G_law_draw (hr.mono (by decide)) (by rfl) T.ei3 T.eg3.kp T.eh3 .nil xc9 (xa1 (xb2 G_law_cell_at (hr.mono (by decide)) (by rfl) T.ec3 T.ea3.kp T.eb3 .nil xc9 (xa1 (pv 0) (xa1 xa8 xa5))) (xa1 xa8 xa5))) xa8) (fun _ _=>rfl)) xa5))))
   (xa4 (xb6 (i:=2) xo2.nd rfl (Or.inl rfl) (xb2 G_law_worths (hr.mono (by decide)) (by rfl) T.eu3 T.es3.kp T.et3 .nil xc9 (xa1 (pv 0) xa5)))
   (xa4 (xb6 (i:=3) xo2.nd rfl (Or.inl rfl) (xj7 xa5))
   (xa4 (xb6 (i:=4) xo2.nd rfl (Or.inl rfl) xa8)
   (xa4 (xd0 PassesOwn.never rfl (xr9 (by rfl) T.eh5 (xa1 (xb0 (xi2 K) (by rfl) T.ee5 PySem.boot_len (xa1 (pv 2) xa5)) xa5)) (xa9 (i:=5) xo2.nd rfl (Or.inl rfl)) (xa4 (xb6 (i:=4) xo2.nd rfl (Or.inl rfl) (xc4 xf9 (xc4 xf9 (pv 4) xa8) (xc4 xl6 (xb2 G_law_draw (hr.mono (by decide)) (by rfl) T.ei3 T.eg3.kp T.eh3 .nil xc9 (xa1 (xb2 G_law_cell_at (hr.mono (by decide)) (by rfl) T.ec3 T.ea3.kp T.eb3 .nil xc9 (xa1 (pv 0) (xa1 (pv 5) xa5))) (xa1 (xc4 xf9 xa8 (pv 5)) xa5))) (xc4 yr4 xa8 xa8))))
   (xa6 (xh5 (yg9 PySem.F.plainAttrs_list PySem.F.slot_list_append PySem.F.type_list_append xh3 (pv 3) (xa1 (yg8 T.ev1 G_Cue_init (hr.mono (by decide)) (by rfl) T.eo4 T.es1 T.et1 xc9 (xa1 (pv 4) (xa1 (xj7 (xa1 (yg8 T.ej1 G_Part_init (hr.mono (by decide)) (by rfl) T.ef4 T.eg1 T.eh1 xc9 (xa1 xj2 (xa1 xj2 xa5))) xa5)) xa5))) xa5))))))
   (xa4 (xb6 (i:=6) xo2.nd rfl (Or.inl rfl) (xj7 xa5))
   (xa4 (xd0 PassesOwn.never rfl (xb8 K (pv 2)) (xa9 (i:=7) xo2.nd rfl (Or.inl rfl)) (xa6 (xh1 (xh0 op_gt (pv 7) xa8 (xi4 _)) (xa6 (xh5 (yg9 PySem.F.plainAttrs_list PySem.F.slot_list_append PySem.F.type_list_append xh3 (pv 6) (xa1 (pe_disp1 (hu1 hr) (pv 1) (pv 7)) xa5)))) (xa6 (xh5 (yg9 PySem.F.plainAttrs_list PySem.F.slot_list_append PySem.F.type_list_append xh3 (pv 6) (xa1 xj2 xa5)))))))
   (xa4 (xb6 (i:=8) xo2.nd rfl (Or.inl rfl) (xb2 G_showing (hr.mono (by decide)) (by rfl) T.eo3 T.em3.kp T.en3 .nil xc9 (xa1 (pv 3) (xa1 (pv 6) xa5))))
   (xa4 (xh1 (PW.pt (yg5 (xf8 (xf7 (xb2 G_law_is_list (hr.mono (by decide)) (by rfl) T.ex3 T.ev3.kp T.ew3 .nil xc9 (xa1 (pv 8) xa5)))) (xv5 (xh0 (op_neD K hr.units) (xh6 ["_law_cue"] [none] rfl (xb8 K (pv 8)) (fun _ _ _=>(xa9 (i:=0) zh0 rfl (Or.inl rfl))) (fun _ _ _=>(xb7 K (pv 0)))) (xh6 ["_law_cue"] [none] rfl (xb8 K (pv 3)) (fun _ _ _=>(xa9 (i:=0) zg9 rfl (Or.inl rfl))) (fun _ _ _=>(xb7 K (pv 0)))) (xi4 _))))) (xa6 (xc3 xs2)) xc7)
   (xa4 (xh1 (xh0 (op_neD K hr.units) (xb2 G_law_looks (hr.mono (by decide)) (by rfl) T.ea4 T.ey3.kp T.ez3 .nil xc9 (xa1 (pv 8) xa5)) (xh6 ["_law_look"] [none] rfl (xb8 K (pv 6)) (fun _ _ _=>(xa9 (i:=0) zh1 rfl (Or.inl rfl))) (fun _ _ _=>(pe_holdP P w (xd6 (zb4 rfl) (by rfl) T.ea5 xg2 (xa1 (xs0 (pv 0)) xa5))))) (xi4 _)) (xa6 (xc3 xs2)) xc7)
   (xa4 (xb6 (i:=9) xo2.nd rfl (Or.inl rfl) (xb2 G_weight (hr.mono (by decide)) (by rfl) T.ew2 T.eu2.kp T.ev2 .nil xc9 (xa1 (pv 8) xa5)))
   (xa6 (xc3 (xp0 (xb2 G_law_whole (hr.mono (by decide)) (by rfl) T.ef3 T.ed3.kp T.ee3 .nil xc9 (xa1 (pv 9) xa5)) (xp0 (xu1 yz2 (pv 9) (xb2 G_law_weight (hr.mono (by decide)) (by rfl) T.ez2 T.ex2.kp T.ey2 .nil xc9 (xa1 (pv 8) xa5)) (xi4 _)) (xq3 (xu1 yz2 (pv 9) (xb2 G_law_least (hr.mono (by decide)) (by rfl) T.ee2 T.ec2.kp T.ed2 .nil xc9 (xa1 (pv 2) xa5)) (xi4 _))))))))))))))))))),?_⟩
  refine xb5 (fun σ' H'=>∃ (a':Addr) (ks:List Int),σ' = [some (.ref a'),none,none,none,none,none,none,none,none,none] /\ H' a' = some (.lst (ks.map V.int))) (fun N hN=>?_) ?_
  ·refine ⟨_,rfl,a,rfl,⟨_,hS⟩,fun D hD=>?_⟩
   refine yi9 (K:=K) (a:=a) (xs:=ns.map V.int) (fun v=>match v with | .int i=>.int (2 * i + (ns.take 1).sum % 2) | v=>v) (fun σ'=>∃ v,σ' = [v,some (.ref a)]) hS hD (by rw [List.length_map]; omega) ?_ ?_ ?_
   ·exact ⟨_,rfl⟩
   ·rintro x σ' H2 N2 hx ⟨v0,rfl⟩ sm q
    obtain ⟨i,_,rfl⟩:=List.mem_map.mp hx
    simp only [tSeq,tIfS,tAsg,za8,tRet,tRetN,tNext,zd1,zc8,tB,tOp,tUn,rI,rI0,rU,rEq,rNe,scal,tVar,tC,tCB,zd2,tNil,tCall,tAnd,tOr,tNot,tAndV,tOrV,tNotV,tLstS,tTupS,tMenu,yn0,zb9,L2.start,CMul,zl8,CPowS,List.map_cons,List.map_nil,List.length_cons,List.length_nil,List.cons_append,List.nil_append,List.append_nil,List.getElem?_cons_zero,List.getElem?_cons_succ,List.set_cons_zero,List.set_cons_succ,Nat.reduceAdd,Nat.reduceSub,Nat.zero_add,List.reduceReplicate,Option.some.injEq,exists_eq_left',exists_eq_left,exists_and_left,and_assoc,V.int.injEq,V.bl.injEq,V.ref.injEq,V.ty.injEq,List.cons.injEq,and_true,true_and,decide_eq_true_eq,reduceCtorEq,false_and,and_false,exists_false,Bool.false_eq_true,if_true,if_false,exists_const,true_or,or_true,false_or,or_false,Bool.not_eq_true',decide_eq_false_iff_not,ite_not,Bool.not_true,Bool.not_false,Nat.reduceLeDiff,Int.reduceLT,Int.reduceLE,Int.reduceNeg,Int.reducePow,Int.reduceToNat,Int.reduceAdd,Int.reduceMul,Int.reduceSub,Nat.reducePow,Nat.reduceLT,Int.natCast_add,Int.cast_ofNat_Int,decide_true,decide_false,Int.natCast_zero,Int.zero_add,String.reduceEq,tSl,zd0,tPart,rSlL]
    refine ⟨_,sm.seq hS,fun p hp=>⟨ns.take 1,?_,?_⟩⟩
    ·rw [show (1:Int) = ((1:Nat):Int) from rfl,cut_take,List.map_take]
     exact SqL.of xa0
    ·exact q _ _ (Same.new hp) ⟨_,rfl⟩
   ·intro H' sm hD'
    refine hN _ _ ⟨D,ns.map fun i=>2 * i + (ns.take 1).sum % 2,rfl,?_⟩
    rw [hD',List.map_map,List.map_map]; rfl
  clear hS hlen
  rintro σ' H0 ⟨a',ks,rfl,hS0⟩
  refine xb5 (fun σ' H'=>∃ (s':Addr) (lm sd:Str),σ' = [some (.ref a'),some (.ref s'),none,none,none,none,none,none,none,none] /\ Same H0 H' /\ H' s' = some (.tup [.str lm,.str sd]) /\ xr1 lm = true /\ inV (.str sd) xv2 = true /\ PyData.strOk sd = true) (fun N hN=>?_) ?_
  ·refine ⟨_,rfl,a',ks,1,rfl,SqL.of hS0,by decide,fun v=>⟨v,rfl,fun z hz=>?_⟩⟩
   refine ⟨by show 3 <= 1000; decide,fun p hp=>?_⟩
   have sp:∀ o,Same H0 (upd H0 p o):=fun o=>Same.new hp
   refine ⟨_,rfl,a',ks,1,rfl,SqL.of (sp _ _ _ hS0),by decide,fun v2=>⟨v2,2,rfl,by decide,by decide,fun u u0 u1=>?_⟩⟩
   obtain ⟨sd,h1,h2,h3⟩:=sides_ok (j:=u % 3) (Int.emod_nonneg _ (by decide)) (Int.emod_lt_of_pos _ (by decide))
   refine ⟨_,_,rfl,rfl,(by show (0:Int) < 3; decide),p,_,_,_,rfl,rfl,SqL.of xa0,h1,by show 2 <= 1000; decide,fun q hq=>?_⟩
   exact hN _ _ ⟨q,z,sd,rfl,(sp _).trans (Same.new hq),xa0,hz,h2,h3⟩
  rintro σ' H1 ⟨sl,lm,sd,rfl,s1,hsl,hlm,hsd,hok⟩
  have hS1:=s1 _ _ hS0
  refine yu0 (fun σ' H'=>∃ (W C:Addr) (ws:List Int),σ' = [some (.ref a'),some (.ref sl),some (.ref W),some (.ref C),some (.int 0),none,none,none,none,none] /\ Same H1 H' /\ H' W = some (.lst (ws.map V.int)) /\ ws.length <= 60 /\ Good ws /\ H' C = some (.lst []) /\ H1 C = none /\ W ≠ C) (fun N hN=>?_) ?_
  ·refine ⟨_,rfl,a',ks,rfl,hS1,fun W H' ws hW hW' hw60 hg s'=>?_⟩
   refine ⟨by decide,fun C hC=>?_⟩
   exact hN _ _ ⟨W,C,ws,rfl,s'.trans (Same.new hC),(Same.new hC) _ _ hW',hw60,hg,xa0,s'.free hC,xa3 hW' hC⟩
  rintro σ' H2 ⟨W,C,ws,rfl,s2,hW,hw60,hg,hC,nC,nWC⟩
  refine xb5 (fun σ' G=>∃ (v4 v5:Option V) (cs:List Addr) (us:List Cu),σ' = [some (.ref a'),some (.ref sl),some (.ref W),some (.ref C),v4,v5,none,none,none,none] /\ Same H1 G /\ G W = some (.lst (ws.map V.int)) /\ G C = some (.lst (cs.map V.ref)) /\ xt8 A G cs us /\ cs.length = ws.length /\ xo3 us /\ Quiet us) (fun N hN=>?_) ?_
  ·refine ⟨_,rfl,W,_,rfl,.inl (SqL.of hW),_,rfl,by omega,by rw [List.length_map]; omega,?_⟩
   rw [Int.toNat_natCast]
   refine xl2 (fun i σ' G=>∃ (num:Int) (v5:Option V) (cs:List Addr) (us:List Cu),σ' = [some (.ref a'),some (.ref sl),some (.ref W),some (.ref C),some (.int num),v5,none,none,none,none] /\ Same H1 G /\ G W = some (.lst (ws.map V.int)) /\ G C = some (.lst (cs.map V.ref)) /\ xt8 A (hide G C) cs us /\ cs.length = i /\ xo3 us /\ Quiet us /\ (∀ u ∈ us,u.n <= num) /\ 0 <= num /\ num <= 10000000 * (i:Int)) ⟨0,none,[],[],rfl,s2,hW,hC,.nil,rfl,List.Pairwise.nil,(fun u hu=>by cases hu),(fun u hu=>by cases hu),by decide,by decide⟩ (fun i σ' G hi hq=>?_) fun σ' G hq=>?_
   ·obtain ⟨num,v5,cs,us,rfl,sm,gW,gC,hcs,hcl,hri,hqu,hnm,n0,n1⟩:=hq
    rw [List.length_map] at hi
    refine xb5 (fun σ' G'=>∃ num':Int,σ' = [some (.ref a'),some (.ref sl),some (.ref W),some (.ref C),some (.int num'),some (.int (0 + (i:Int))),none,none,none,none] /\ G' = G /\ num < num' /\ num' <= 10000000 * ((i + 1:Nat):Int)) (fun N hN=>?_) ?_
    ·refine ⟨_,rfl,_,_,rfl,rfl,_,rfl,_,rfl,a',ks,_,rfl,SqL.of (sm _ _ hS1),by omega,fun v=>?_⟩
     refine ⟨_,rfl,_,_,rfl,rfl,v,_,rfl,by omega,by omega,fun u u0 u1=>?_⟩
     have b0:=Int.emod_nonneg u (show ((10:Int) ^ (7:Int).toNat) ≠ 0 by decide)
     have b1:=Int.emod_lt_of_pos u (show (0:Int) < (10:Int) ^ (7:Int).toNat by decide)
     have b2:(10:Int) ^ (7:Int).toNat = 10000000:=by decide
     exact ⟨_,_,rfl,rfl,⟨by decide,by decide,by decide,by decide⟩,_,_,rfl,rfl,(by show (0:Int) < 10 ^ 7; decide),_,_,rfl,rfl,hN _ _ ⟨_,rfl,rfl,by omega,by push_cast; omega⟩⟩
    rintro σ2 G2 ⟨num',rfl,eG,m0,m1⟩
    rw [eG]
    clear eG
    refine ⟨_,rfl,.inl ⟨rfl,_,SqL.of gC⟩,_,rfl,fun p1 hp1 p2 hp2=>?_⟩
    intro x dx nx ndx nex
    have sA:Same G (upd (upd (upd (upd G p1 (.dT [])) p2 (.dT [])) dx (.own x)) x (.ins A.eu2 dx [])):=((Same.new hp1).trans (Same.new hp2)).trans ((Same.new ndx).upd nx)
    have sB:Same (upd (upd G p1 (.dT [])) p2 (.dT [])) (upd (upd (upd (upd G p1 (.dT [])) p2 (.dT [])) dx (.own x)) x (.ins A.eu2 dx [])):=(Same.new ndx).upd nx
    have n12:p1 ≠ p2:=xa3 (xa0 (H:=G)) hp2
    refine ⟨x,dx,p1,p2,[],[],rfl,xa0,sB _ _ (by rw [xa2 n12,xa0]),sB _ _ xa0,one0,fun H5 hP hk5=>⟨rfl,?_⟩⟩
    have nxG:G x = none:=((Same.new hp1).trans (Same.new hp2)).free nx
    have s5:Same G H5:=fun b o e=>hk5 b o (xa3 e nxG) (sA _ _ e)
    refine ⟨by show 1 <= 1000; decide,fun L hL=>?_⟩
    have s6:Same H5 (upd H5 L (.lst [.ref x])):=Same.new hL
    intro y dy ny ndy ney
    have sC:Same (upd H5 L (.lst [.ref x])) (upd (upd (upd H5 L (.lst [.ref x])) dy (.own y)) y (.ins A.ev2 dy [])):=(Same.new ndy).upd ny
    refine ⟨y,dy,L,x,num',[],[],rfl,xa0,by omega,by omega,sC _ _ xa0,hP.keep (s6.trans sC),one0,fun H6 hCue hk6=>⟨rfl,?_⟩⟩
    have s7:Same G H6:=fun b o e=>hk6 b o (xa3 (s6 _ _ (s5 _ _ e)) ny) (sC _ _ (s6 _ _ (s5 _ _ e)))
    refine ⟨C,_,_,rfl,rfl,s7 _ _ gC,Nat.lt_of_lt_of_le (show _ < 1001 by rw [List.length_map]; omega) (by decide),?_⟩
    refine ⟨num',_,cs ++ [y],us ++ [⟨num',[],[]⟩],rfl,(sm.trans s7).upd nC,by rw [xa2 nWC]; exact s7 _ _ gW,by rw [xa0,List.map_append]; rfl,?_,by rw [List.length_append,hcl]; rfl,yq5 hri fun v hv=>Int.lt_of_le_of_lt (hnm v hv) m0,fun v hv=>?_,fun v hv=>?_,by omega,m1⟩
    ·rw [yi5]
     refine Paired.snoc (hcs.keep (yb0 s7)) (hCue.hide (s7 _ _ gC) ⟨_,sC _ _ (s6 _ _ (s5 _ _ gC))⟩)
    ·rcases List.mem_append.mp hv with h | h
     ·exact hqu v h
     ·obtain rfl:=List.mem_singleton.mp h; exact ⟨rfl,rfl,by show 1 <= num'; omega,by show num' <= 1000000000; omega⟩
    ·rcases List.mem_append.mp hv with h | h
     ·have:=hnm v h; omega
     ·obtain rfl:=List.mem_singleton.mp h; exact Int.le_refl _
   ·obtain ⟨num,v5,cs,us,rfl,sm,gW,gC,hcs,hcl,hri,hqu,hnm,n0,n1⟩:=hq
    rw [List.length_map] at hcl
    exact hN _ _ ⟨_,_,cs,us,rfl,sm,gW,gC,hcs.keep ya9,hcl,hri,hqu⟩
  rintro σ' H3 ⟨v4,v5,cs,us,rfl,s3,gW,gC,hcs,hcl,hri,hqu⟩
  have hsl3:=s3 _ _ hsl
  refine xn5 (fun σ' G=>∃ (LL:Addr) (v7:Option V) (ls:List Addr),σ' = [some (.ref a'),some (.ref sl),some (.ref W),some (.ref C),v4,v5,some (.ref LL),v7,none,none] /\ Same H3 G /\ G LL = some (.lst (ls.map V.ref)) /\ Lks G (xh4 lm sd) ls ws) (fun N hN=>?_) ?_
  ·refine ⟨by decide,fun LL hLL=>?_⟩
   refine ⟨_,rfl,W,rfl,⟨_,SqL.of ((Same.new hLL) _ _ gW)⟩,xf1 (xs:=ws.map V.int) (fun i σ' G=>∃ (v7:Option V) (ls:List Addr),σ' = [some (.ref a'),some (.ref sl),some (.ref W),some (.ref C),v4,v5,some (.ref LL),v7,none,none] /\ Same H3 G /\ G LL = some (.lst (ls.map V.ref)) /\ Lks G (xh4 lm sd) ls (ws.take i)) ⟨none,[],rfl,Same.new hLL,xa0,by rw [List.take_zero]; exact .nil⟩ (fun i σ' G _ hq=>?_) (fun i v σ' G hv hq=>?_) fun σ' G hq=>?_⟩
   ·obtain ⟨_,_,_,sm,_⟩:=hq; exact SqL.of (sm _ _ gW)
   ·obtain ⟨v7,ls,rfl,sm,gL,hlk⟩:=hq
    rw [List.getElem?_map] at hv
    obtain ⟨w',hw',rfl⟩:=Option.map_eq_some_iff.mp hv
    have w0:=(hg w' (List.mem_of_getElem? hw')).1
    have hi:i < ws.length:=(List.getElem?_eq_some_iff.mp hw').1
    have lt:(ls.map V.ref).length < sizeLine:=by
     have:=Paired.length hlk
     rw [List.length_take] at this
     exact Nat.lt_of_lt_of_le (show _ < 1001 by rw [List.length_map]; omega) (by decide)
    have fin:∀ (G2:Hp) (p:Addr),Same G G2 -> G2 p = some (.dT (lk (xh4 lm sd) w')) -> ∃ (v7:Option V) (ls':List Addr),[some (.ref a'),some (.ref sl),some (.ref W),some (.ref C),v4,v5,some (.ref LL),some (.int w'),none,none] = [some (.ref a'),some (.ref sl),some (.ref W),some (.ref C),v4,v5,some (.ref LL),v7,none,none] /\ Same H3 (upd G2 LL (.lst (ls.map V.ref ++ [.ref p]))) /\ (upd G2 LL (.lst (ls.map V.ref ++ [.ref p]))) LL = some (.lst (ls'.map V.ref)) /\ Lks (upd G2 LL (.lst (ls.map V.ref ++ [.ref p]))) (xh4 lm sd) ls' (ws.take (i + 1)):=fun G2 p sG hp=>by
     refine ⟨_,ls ++ [p],rfl,(sm.trans sG).upd hLL,by rw [xa0,List.map_append]; rfl,?_⟩
     rw [xf5 hw']
     have gL2:=sG _ _ gL
     refine Paired.snoc ((hlk.keep sG).on fun b kvs e=>by rw [xa2 (xb9 e gL2 (by intro z; cases z))]; exact e) ⟨by rw [xa2 (xb9 hp gL2 (by intro z; cases z))]; exact hp,w0⟩
    refine ⟨_,rfl,_,_,rfl,rfl,_,rfl,?_⟩
    refine ite2 (fun cw=>?_) (fun cw=>?_)
    ·have cw:=of_decide_eq_true cw
     refine ⟨_,rfl,.inl ⟨rfl,_,SqL.of gL⟩,fun p hp=>?_⟩
     have sp:∀ o,Same G (upd G p o):=fun o=>Same.new hp
     refine ⟨_,rfl,_,rfl,xh4 lm sd,sl,rfl,sp _ _ _ (sm _ _ hsl3),xa0,?_⟩
     have sp2:Same G (upd (upd G p (.dT [])) p (.dT [(xh4 lm sd,.int w')])):=fun b o e=>by rw [xa2 (xa3 e hp),xa2 (xa3 e hp)]; exact e
     refine ⟨LL,_,_,rfl,rfl,sp2 _ _ gL,lt,fin _ p sp2 ?_⟩
     rw [xa0]; unfold lk; rw [if_pos cw]
    ·have cw:¬ 0 < w':=fun h=>cw (decide_eq_true h)
     refine ⟨_,rfl,.inl ⟨rfl,_,SqL.of gL⟩,fun p hp=>?_⟩
     have sp2:Same G (upd G p (.dT [])):=Same.new hp
     refine ⟨LL,_,_,rfl,rfl,sp2 _ _ gL,lt,fin _ p sp2 ?_⟩
     rw [xa0]; unfold lk; rw [if_neg cw]
   ·obtain ⟨v7,ls,rfl,sm,gL,hlk⟩:=hq
    rw [List.length_map,List.take_length] at hlk
    exact hN _ _ ⟨LL,v7,ls,rfl,sm,gL,hlk⟩
  rintro σ' H4 ⟨LL,v7,ls,rfl,s4,gL,hlk⟩
  have hll:ls.length = ws.length:=Paired.length hlk
  have hcu:cs.length = us.length:=Paired.length hcs
  have gC4:=s4 _ _ gC
  have gW4:=s4 _ _ gW
  have hcs4:=hcs.keep s4
  have hsg:SlotG (xh4 lm sd):=⟨lm,sd,rfl,hlm,lt1 hlm,hsd⟩
  refine xb5 (fun σ' G=>∃ (M:Addr) (rs:List Addr) (c:Nat -> Nat),σ' = [some (.ref a'),some (.ref sl),some (.ref W),some (.ref C),v4,v5,some (.ref LL),v7,some (.ref M),none] /\ Same H4 G /\ G M = some (.lst (rs.map V.ref)) /\ Done ws c /\ xt8 A G rs (xo7 (xh4 lm sd) ws c us)) (fun N hN=>?_) ?_
  ·exact ⟨_,rfl,_,rfl,C,LL,cs,ls,us,ws,xh4 lm sd,rfl,gC4,by omega,hcs4,hri,hqu,gL,hlk,by omega,hsg,hg,fun m H' rs c hm hdone hm' hrs s'=>hN _ _ ⟨m,rs,c,rfl,s',hm',hdone,hrs⟩⟩
  rintro σ' H5 ⟨M,rs,c,rfl,s5,gM,hdone,hrs⟩
  have hrl:rs.length = us.length:=by have:=Paired.length hrs; rw [xo6] at this; exact this
  have hlay:∀ ns:List Int,PyData.canLay0 (.list (ns.map PyData.int)) = true:=fun ns=>by rw [PyData.canLay0]; exact yi1 (fun _=>by rw [PyData.canLay0]) ns
  refine xb5 (fun σ' G=>σ' = [some (.ref a'),some (.ref sl),some (.ref W),some (.ref C),v4,v5,some (.ref LL),v7,some (.ref M),none] /\ Same H5 G) (fun N hN=>?_) ?_
  ·refine ⟨_,rfl,M,rs,_,rfl,gM,hrs,fun H6 s6=>⟨true,rfl,iteF ?_⟩⟩
   refine ⟨_,rfl,M,rfl,⟨_,SqL.of (s6 _ _ gM)⟩,fun D1 hD1=>?_⟩
   refine zl0 (us:=xo7 (xh4 lm sd) ws c us) (fun u=>V.int u.n) (fun σ=>σ.length = 1) (SqL.of (s6 _ _ gM)) hD1 (by rw [List.length_map]; omega) (by rw [xo6,List.length_map]; omega) rfl (fun i x u σ' G N2 hx hu ho sm q=>?_) fun G1 s7 hD1'=>?_
   ·rw [List.getElem?_map] at hx
    obtain ⟨rc,hrc,rfl⟩:=Option.map_eq_some_iff.mp hx
    obtain ⟨u',hu',dx,L,p,e,_⟩:=paired_at (hrs.keep (s6.trans sm)) hrc
    rw [hu] at hu'
    cases hu'
    match σ',ho with
    | [_],_=>exact ⟨_,rfl,rc,A.ev2,dx,_,_,rfl,e,T.en4,T.ep4,rfl,q _ _ (Same.refl _) rfl⟩
   have s57:=s6.trans s7
   have gC7:=s57 _ _ (s5 _ _ gC4)
   refine ⟨_,rfl,C,rfl,⟨_,SqL.of gC7⟩,fun D2 hD2=>?_⟩
   refine zl0 (us:=us) (fun u=>V.int u.n) (fun σ=>σ.length = 1) (SqL.of gC7) hD2 (by rw [List.length_map]; omega) (by rw [List.length_map]; omega) rfl (fun i x u σ' G N2 hx hu ho sm q=>?_) fun G2 s8 hD2'=>?_
   ·rw [List.getElem?_map] at hx
    obtain ⟨rc,hrc,rfl⟩:=Option.map_eq_some_iff.mp hx
    obtain ⟨u',hu',dx,L,p,e,_⟩:=paired_at (hcs4.keep (s5.trans (s57.trans sm))) hrc
    rw [hu] at hu'
    cases hu'
    match σ',ho with
    | [_],_=>exact ⟨_,rfl,rc,A.ev2,dx,_,_,rfl,e,T.en4,T.ep4,rfl,q _ _ (Same.refl _) rfl⟩
   have e1:(xo7 (xh4 lm sd) ws c us).map (fun u=>V.int u.n) = (us.map (·.n)).map V.int:=by rw [<- yl1 (xh4 lm sd) ws c us,List.map_map]; rfl
   have e2:us.map (fun u=>V.int u.n) = (us.map (·.n)).map V.int:=by rw [List.map_map]; rfl
   rw [e1] at hD1'
   rw [e2] at hD2'
   have sh:PySem.SeqAt.shaped (.list ((us.map (·.n)).map PyData.int)) = true:=xy0 (n:=0) (fun _=>by rw [PyData.canLay0]) (fun _=>by rw [PyData.depth]; exact Nat.le_refl _) (by decide) _
   refine ⟨_,_,.lst (SqL.of (s8 _ _ hD1')) (yi2 _),.lst (SqL.of hD2') (yi2 _),sh,sh,_,rfl,?_⟩
   rw [PySem.SeqAt.eqv_refl _ (hlay _)]
   exact iteF (hN _ _ ⟨rfl,s57.trans s8⟩)
  rintro σ' H6 ⟨rfl,s6⟩
  have gM6:=s6 _ _ gM
  have hrs6:=hrs.keep s6
  have gL6:=s6 _ _ (s5 _ _ gL)
  have hlk6:=(hlk.keep s5).keep s6
  refine xb5 (fun σ' G=>σ' = [some (.ref a'),some (.ref sl),some (.ref W),some (.ref C),v4,v5,some (.ref LL),v7,some (.ref M),none] /\ Same H6 G) (fun N hN=>?_) ?_
  ·refine ⟨_,rfl,M,rs,us,xh4 lm sd,ws,c,rfl,gM6,by omega,hrs6,by omega,hsg,hdone,fun F H7 fs hF gF hP s7=>?_⟩
   have gL7:=s7 _ _ gL6
   refine ⟨_,rfl,LL,rfl,⟨_,SqL.of gL7⟩,fun D hD=>?_⟩
   refine comp_ob (us:=ws) (fun w v H=>∃ f,v = .ref f /\ xr3 (xh4 lm sd) H f w) (fun σ=>σ.length = 1) (fun _ _ _ _ s ⟨f,e,h⟩=>⟨f,e,h.keep s⟩) (SqL.of gL7) hD (by rw [List.length_map]; omega) (by rw [List.length_map]; omega) rfl (fun i x w' σ' G N2 hx hw ho sm hy q=>?_) fun ys G2 s8 hD' hp=>?_
   ·rw [List.getElem?_map] at hx
    obtain ⟨b,hb,rfl⟩:=Option.map_eq_some_iff.mp hx
    obtain ⟨w2,hw2,gb,w0⟩:=paired_at ((hlk6.keep s7).keep sm) hb
    rw [hw] at hw2
    cases hw2
    obtain ⟨zs,hy⟩:=hy
    have nbD:D ≠ b:=xb9 hy gb (by intro z; cases z)
    match σ',ho with
    | [_],_ =>
     refine ⟨b,_,gb,fun o xs es ep DD kt=>?_⟩
     refine ⟨_,rfl,b,o,es,ep,rfl,xa0,DD.sys,DD.ex,DD.data,fun p hp=>?_⟩
     have bp:b ≠ p:=by rintro rfl; rw [xa0] at hp; cases hp
     have hp0:G p = none:=by rw [xa2 (Ne.symm bp)] at hp; exact hp
     have gD:upd (upd G b (held b o)) p (xw2 "dict_items" p b) D = some (.lst zs):=by rw [xa2 (xa3 hy hp0),xa2 nbD]; exact hy
     have hxl:xs.length = (lk (xh4 lm sd) w').length:=(Paired.length kt).symm
     have hl1:(lk (xh4 lm sd) w').length <= 1:=by unfold lk; split <;> simp
     refine ⟨p,b,o,es,ep,_,_,rfl,xa0,by rw [xa2 bp,xa0],DD.ex,DD.data,xm9 DD,xj4 DD kt,by rw [List.length_map]; omega,fun h0 m hm=>?_,fun kx vx hkx hvx m t hm ht nmt=>?_⟩
     ·obtain ⟨b1,b2,b3,b4⟩:=yb1 (vs:=[]) gb hp hm
      refine ⟨b1,b2,q _ _ _ ⟨m,rfl,.inr ⟨fun z=>?_,?_⟩⟩ b3 rfl⟩
      ·have:=congrArg List.length h0
       rw [List.length_map,hxl] at this
       unfold lk at this
       rw [if_pos z] at this; cases this
      ·rw [xn9 (Ne.symm (xa3 gD hm))]; exact b4
     ·obtain ⟨b1,b2,b3,b4,b5⟩:=held_two (ts:=[kx,vx]) (vs:=[.ref t]) gb hp hm ht nmt
      have wp:0 < w':=by
       by_cases z:0 < w'
       ·exact z
       ·have:=congrArg List.length hvx
        unfold lk at this
        rw [if_neg z] at this; cases this
      have elk:lk (xh4 lm sd) w' = [(xh4 lm sd,.int w')]:=if_pos wp
      rw [elk] at hvx
      obtain rfl:V.int w' = vx:=by simpa using hvx
      obtain ⟨x,ex⟩:∃ x,xs = [x]:=List.length_eq_one_iff.mp (by rw [hxl,elk]; rfl)
      subst ex
      obtain rfl:V.ref x.2.1 = kx:=by simpa using hkx
      obtain ⟨x',hx',hrel⟩:=paired_at kt (i:=0) (a:=(xh4 lm sd,V.int w')) (by rw [elk]; rfl)
      cases hx'
      have gx:G x.2.1 = some (.tup ((xh4 lm sd).map kV)):=hrel.2.1
      refine ⟨b1,b2,q _ _ _ ⟨m,rfl,.inl ⟨wp,t,x.2.1,?_,?_,?_⟩⟩ b3 rfl⟩
      ·rw [xn9 (Ne.symm (xa3 gD hm))]; exact b4
      ·rw [xn9 (Ne.symm (xa3 gD ht))]; exact b5
      ·rw [xn9 (xb9 gx hy (by intro z; cases z))]; exact b3 _ _ gx
   ·obtain ⟨gs,rfl,hgs⟩:∃ gs:List Addr,ys = gs.map V.ref /\ Paired (xr3 (xh4 lm sd) G2) gs ws:=by
     clear hD' hlk6 hlk hll hP hdone hrs hrs6 hg hw60 gW gW4 hW hcl
     induction hp with
     | nil=>exact ⟨[],rfl,.nil⟩
     | cons h t ih =>
      obtain ⟨f,rfl,hf⟩:=h
      obtain ⟨gs,rfl,hgs⟩:=ih
      exact ⟨f :: gs,rfl,.cons hf hgs⟩
    have sh:PySem.SeqAt.shaped (.list (ws.map (xv3 lm sd))) = true:=xy0 (n:=3) (ye0 (zh7 hlm) hok) yp8 (by decide) _
    refine ⟨_,_,.lst (SqL.of (s8 _ _ gF)) (yl0 (Paired.mapP hP fun _ _ q=>q.keep s8)),.lst (SqL.of hD') (yl0 hgs),sh,sh,_,rfl,?_⟩
    rw [PySem.SeqAt.eqv_refl _ (by rw [PyData.canLay0]; exact yi1 (ye0 (zh7 hlm) hok) ws)]
    exact iteF (hN _ _ ⟨rfl,s7.trans s8⟩)
  rintro σ' H7 ⟨rfl,s7⟩
  have gM7:=s7 _ _ gM6
  have hrs7:=hrs6.keep s7
  refine ⟨_,rfl,M,rs,_,rfl,gM7,by omega,hrs7,yp9 hri,fun H8 s8=>?_⟩
  have hwt:wgt (xo7 (xh4 lm sd) ws c us) = gr [0] ws:=by rw [yt6 hdone.2.1 us.length us rfl,show us.length = ws.length by omega]; exact hdone.2.2
  refine ⟨_,rfl,_,rfl,true,rfl,iteT ?_⟩
  refine ⟨_,rfl,_,rfl,M,rs,_,rfl,s8 _ _ gM7,by omega,hrs7.keep s8,rfl,true,by rw [decide_eq_true rfl],iteT ?_⟩
  refine ⟨_,rfl,_,rfl,W,ws,rfl,s8 _ _ (s7 _ _ (s6 _ _ (s5 _ _ gW4))),by omega,fun H9 s9=>?_⟩
  rw [hwt]
  refine ⟨rfl,?_⟩
  rw [decide_eq_true rfl]
  exact k _
theorem all_mk {l:PySem.W.OpenLaw} {w:World} {K:Frag} {h:Heap} {mg:Str -> Option Value} (X:K.In h) (G:h.Ns mainGlobals mg) {C_Cue:Addr} {C_Part:Addr} {fa:Addr} {f0:Addr} {od0 an0:Option Addr} {sl0:Array (Option Value)} {oc0 kV0 dc0 pm0 cd0 ct0:Value} {f1:Addr} {od1 an1:Option Addr} {sl1:Array (Option Value)} {oc1 kV1 dc1 pm1 cd1 ct1:Value} {f2:Addr} {od2 an2:Option Addr} {sl2:Array (Option Value)} {oc2 kV2 dc2 pm2 cd2 ct2:Value} {f3:Addr} {od3 an3:Option Addr} {sl3:Array (Option Value)} {oc3 kV3 dc3 pm3 cd3 ct3:Value} {f4:Addr} {od4 an4:Option Addr} {sl4:Array (Option Value)} {oc4 kV4 dc4 pm4 cd4 ct4:Value} {f5:Addr} {od5 an5:Option Addr} {sl5:Array (Option Value)} {oc5 kV5 dc5 pm5 cd5 ct5:Value} {f6:Addr} {od6 an6:Option Addr} {sl6:Array (Option Value)} {oc6 kV6 dc6 pm6 cd6 ct6:Value} {f7:Addr} {od7 an7:Option Addr} {sl7:Array (Option Value)} {oc7 kV7 dc7 pm7 cd7 ct7:Value} {f8:Addr} {od8 an8:Option Addr} {sl8:Array (Option Value)} {oc8 kV8 dc8 pm8 cd8 ct8:Value} {f9:Addr} {od9 an9:Option Addr} {sl9:Array (Option Value)} {oc9 kV9 dc9 pm9 cd9 ct9:Value} {f10:Addr} {od10 an10:Option Addr} {sl10:Array (Option Value)} {oc10 kV10 dc10 pm10 cd10 ct10:Value} {T10:Addr} {tc10:Value} {td10:Option Addr} {tn10:Nat} {tsl10:Array (Option Value)} {tk10_0 tk10_1 tk10_2:Tok} {f11:Addr} {od11 an11:Option Addr} {sl11:Array (Option Value)} {oc11 kV11 dc11 pm11 cd11 ct11:Value} {f12:Addr} {od12 an12:Option Addr} {sl12:Array (Option Value)} {oc12 kV12 dc12 pm12 cd12 ct12:Value} {f13:Addr} {od13 an13:Option Addr} {sl13:Array (Option Value)} {oc13 kV13 dc13 pm13 cd13 ct13:Value} {T13:Addr} {tc13:Value} {td13:Option Addr} {tn13:Nat} {tsl13:Array (Option Value)} {f14:Addr} {od14 an14:Option Addr} {sl14:Array (Option Value)} {oc14 kV14 dc14 pm14 cd14 ct14:Value} {f15:Addr} {od15 an15:Option Addr} {sl15:Array (Option Value)} {oc15 kV15 dc15 pm15 cd15 ct15:Value} {f16:Addr} {od16 an16:Option Addr} {sl16:Array (Option Value)} {oc16 kV16 dc16 pm16 cd16 ct16:Value} {f17:Addr} {od17 an17:Option Addr} {sl17:Array (Option Value)} {oc17 kV17 dc17 pm17 cd17 ct17:Value} {f18:Addr} {od18 an18:Option Addr} {sl18:Array (Option Value)} {oc18 kV18 dc18 pm18 cd18 ct18:Value} {f19:Addr} {od19 an19:Option Addr} {sl19:Array (Option Value)} {oc19 kV19 dc19 pm19 cd19 ct19:Value} {f20:Addr} {od20 an20:Option Addr} {sl20:Array (Option Value)} {oc20 kV20 dc20 pm20 cd20 ct20:Value} {f21:Addr} {od21 an21:Option Addr} {sl21:Array (Option Value)} {oc21 kV21 dc21 pm21 cd21 ct21:Value} {f22:Addr} {od22 an22:Option Addr} {sl22:Array (Option Value)} {oc22 kV22 dc22 pm22 cd22 ct22:Value} {f23:Addr} {od23 an23:Option Addr} {sl23:Array (Option Value)} {oc23 kV23 dc23 pm23 cd23 ct23:Value} {f24:Addr} {od24 an24:Option Addr} {sl24:Array (Option Value)} {oc24 kV24 dc24 pm24 cd24 ct24:Value} {f25:Addr} {od25 an25:Option Addr} {sl25:Array (Option Value)} {oc25 kV25 dc25 pm25 cd25 ct25:Value} {f26:Addr} {od26 an26:Option Addr} {sl26:Array (Option Value)} {oc26 kV26 dc26 pm26 cd26 ct26:Value} {f27:Addr} {od27 an27:Option Addr} {sl27:Array (Option Value)} {oc27 kV27 dc27 pm27 cd27 ct27:Value} {f28:Addr} {od28 an28:Option Addr} {sl28:Array (Option Value)} {oc28 kV28 dc28 pm28 cd28 ct28:Value} {f29:Addr} {od29 an29:Option Addr} {sl29:Array (Option Value)} {oc29 kV29 dc29 pm29 cd29 ct29:Value} {f30:Addr} {od30 an30:Option Addr} {sl30:Array (Option Value)} {oc30 kV30 dc30 pm30 cd30 ct30:Value} {f31:Addr} {od31 an31:Option Addr} {sl31:Array (Option Value)} {oc31 kV31 dc31 pm31 cd31 ct31:Value} {f32:Addr} {od32 an32:Option Addr} {sl32:Array (Option Value)} {oc32 kV32 dc32 pm32 cd32 ct32:Value} {f33:Addr} {od33 an33:Option Addr} {sl33:Array (Option Value)} {oc33 kV33 dc33 pm33 cd33 ct33:Value} {tkc_MOST_TICKS:Tok} {tkc_LETTERS:Tok} {tkc_MOST_LETTERS:Tok} {tkc_MOST_WORTH:Tok} {tkc_MOST_NUMBER:Tok} {tkc_MOST_PARTS:Tok} {S_SIDES:Addr} {so_SIDES:Option Addr} {sn_SIDES:Nat} {ss_SIDES:Array (Option Value)} {sk_SIDES_0 sk_SIDES_1 sk_SIDES_2 sk_SIDES_3 sk_SIDES_4 sk_SIDES_5:Tok} (hfa:mg "law" = some (.ref fa))
  (aC_Part:nsIn K mainGlobals "Part" = some (some (.ref C_Part)))
  (aC_Cue:nsIn K mainGlobals "Cue" = some (some (.ref C_Cue)))
  (a0:nsIn K mainGlobals "is_whole" = some (some (.ref f0)))
  (l0:K.lookup f0 = some ⟨oc0,od0,.func (fnOf "is_whole" "is_whole" (xb4 xk7) (xb3 xk7) (xa7 xk7) .none kV0 dc0 pm0 an0 cd0 ct0),sl0⟩)
  (c0:codeIn K cd0 "is_whole" = true)
  (k0:keepIn K (.ref f0) = true)
  (a1:nsIn K mainGlobals "is_time" = some (some (.ref f1)))
  (l1:K.lookup f1 = some ⟨oc1,od1,.func (fnOf "is_time" "is_time" (xb4 xm3) (xb3 xm3) (xa7 xm3) .none kV1 dc1 pm1 an1 cd1 ct1),sl1⟩)
  (c1:codeIn K cd1 "is_time" = true)
  (k1:keepIn K (.ref f1) = true)
  (a2:nsIn K mainGlobals "is_lamp" = some (some (.ref f2)))
  (l2:K.lookup f2 = some ⟨oc2,od2,.func (fnOf "is_lamp" "is_lamp" (xb4 xm6) (xb3 xm6) (xa7 xm6) .none kV2 dc2 pm2 an2 cd2 ct2),sl2⟩)
  (c2:codeIn K cd2 "is_lamp" = true)
  (k2:keepIn K (.ref f2) = true)
  (a3:nsIn K mainGlobals "is_side" = some (some (.ref f3)))
  (l3:K.lookup f3 = some ⟨oc3,od3,.func (fnOf "is_side" "is_side" (xb4 xm5) (xb3 xm5) (xa7 xm5) .none kV3 dc3 pm3 an3 cd3 ct3),sl3⟩)
  (c3:codeIn K cd3 "is_side" = true)
  (k3:keepIn K (.ref f3) = true)
  (a4:nsIn K mainGlobals "is_slot" = some (some (.ref f4)))
  (l4:K.lookup f4 = some ⟨oc4,od4,.func (fnOf "is_slot" "is_slot" (xb4 xm4) (xb3 xm4) (xa7 xm4) .none kV4 dc4 pm4 an4 cd4 ct4),sl4⟩)
  (c4:codeIn K cd4 "is_slot" = true)
  (k4:keepIn K (.ref f4) = true)
  (a5:nsIn K mainGlobals "is_worth" = some (some (.ref f5)))
  (l5:K.lookup f5 = some ⟨oc5,od5,.func (fnOf "is_worth" "is_worth" (xb4 xk6) (xb3 xk6) (xa7 xk6) .none kV5 dc5 pm5 an5 cd5 ct5),sl5⟩)
  (c5:codeIn K cd5 "is_worth" = true)
  (k5:keepIn K (.ref f5) = true)
  (a6:nsIn K mainGlobals "refuse_slot" = some (some (.ref f6)))
  (l6:K.lookup f6 = some ⟨oc6,od6,.func (fnOf "refuse_slot" "refuse_slot" (xb4 xg6) (xb3 xg6) (xa7 xg6) .none kV6 dc6 pm6 an6 cd6 ct6),sl6⟩)
  (c6:codeIn K cd6 "refuse_slot" = true)
  (k6:keepIn K (.ref f6) = true)
  (a7:nsIn K mainGlobals "refuse_worth" = some (some (.ref f7)))
  (l7:K.lookup f7 = some ⟨oc7,od7,.func (fnOf "refuse_worth" "refuse_worth" (xb4 xf3) (xb3 xf3) (xa7 xf3) .none kV7 dc7 pm7 an7 cd7 ct7),sl7⟩)
  (c7:codeIn K cd7 "refuse_worth" = true)
  (k7:keepIn K (.ref f7) = true)
  (a8:nsIn K mainGlobals "is_cue_number" = some (some (.ref f8)))
  (l8:K.lookup f8 = some ⟨oc8,od8,.func (fnOf "is_cue_number" "is_cue_number" (xb4 xe4) (xb3 xe4) (xa7 xe4) .none kV8 dc8 pm8 an8 cd8 ct8),sl8⟩)
  (c8:codeIn K cd8 "is_cue_number" = true)
  (k8:keepIn K (.ref f8) = true)
  (a9:nsIn K mainGlobals "has_slots_as_keys" = some (some (.ref f9)))
  (l9:K.lookup f9 = some ⟨oc9,od9,.func (fnOf "has_slots_as_keys" "has_slots_as_keys" (xb4 xc8) (xb3 xc8) (xa7 xc8) .none kV9 dc9 pm9 an9 cd9 ct9),sl9⟩)
  (c9:codeIn K cd9 "has_slots_as_keys" = true)
  (k9:keepIn K (.ref f9) = true)
  (a10:findIn K (.ref C_Part) "__init__" = some (some (.ref f10)))
  (i10:isFn K (.ref f10) = true)
  (l10:K.lookup f10 = some ⟨oc10,od10,.func (fnOf "__init__" "Part.__init__" (xb4 xi9) (xb3 xi9) (xa7 xi9) (.ref T10) kV10 dc10 pm10 an10 cd10 ct10),sl10⟩)
  (c10:codeIn K cd10 "Part.__init__" = true)
  (k10:keepIn K (.ref f10) = true)
  (t10:K.lookup T10 = some ⟨tc10,td10,.seq ([.int 0 tk10_0,.int 0 tk10_1,.int 0 tk10_2]:List Value).toArray tn10,tsl10⟩)
  (a11:findIn K (.ref C_Part) "told_slots" = some (some (.ref f11)))
  (i11:isFn K (.ref f11) = true)
  (l11:K.lookup f11 = some ⟨oc11,od11,.func (fnOf "told_slots" "Part.told_slots" (xb4 xd5) (xb3 xd5) (xa7 xd5) .none kV11 dc11 pm11 an11 cd11 ct11),sl11⟩)
  (c11:codeIn K cd11 "Part.told_slots" = true)
  (k11:keepIn K (.ref f11) = true)
  (a12:nsIn K mainGlobals "is_part_list" = some (some (.ref f12)))
  (l12:K.lookup f12 = some ⟨oc12,od12,.func (fnOf "is_part_list" "is_part_list" (xb4 xf4) (xb3 xf4) (xa7 xf4) .none kV12 dc12 pm12 an12 cd12 ct12),sl12⟩)
  (c12:codeIn K cd12 "is_part_list" = true)
  (k12:keepIn K (.ref f12) = true)
  (a13:findIn K (.ref C_Cue) "__init__" = some (some (.ref f13)))
  (i13:isFn K (.ref f13) = true)
  (l13:K.lookup f13 = some ⟨oc13,od13,.func (fnOf "__init__" "Cue.__init__" (xb4 xk9) (xb3 xk9) (xa7 xk9) (.ref T13) kV13 dc13 pm13 an13 cd13 ct13),sl13⟩)
  (c13:codeIn K cd13 "Cue.__init__" = true)
  (k13:keepIn K (.ref f13) = true)
  (t13:K.lookup T13 = some ⟨tc13,td13,.seq ([.bool false,.none]:List Value).toArray tn13,tsl13⟩)
  (a14:nsIn K mainGlobals "cue_list" = some (some (.ref f14)))
  (l14:K.lookup f14 = some ⟨oc14,od14,.func (fnOf "cue_list" "cue_list" (xb4 xk8) (xb3 xk8) (xa7 xk8) .none kV14 dc14 pm14 an14 cd14 ct14),sl14⟩)
  (c14:codeIn K cd14 "cue_list" = true)
  (k14:keepIn K (.ref f14) = true)
  (a15:nsIn K mainGlobals "retold" = some (some (.ref f15)))
  (l15:K.lookup f15 = some ⟨oc15,od15,.func (fnOf "retold" "retold" (xb4 xp8) (xb3 xp8) (xa7 xp8) .none kV15 dc15 pm15 an15 cd15 ct15),sl15⟩)
  (c15:codeIn K cd15 "retold" = true)
  (k15:keepIn K (.ref f15) = true)
  (a16:nsIn K mainGlobals "_law_least" = some (some (.ref f16)))
  (l16:K.lookup f16 = some ⟨oc16,od16,.func (fnOf "_law_least" "_law_least" (xb4 xi8) (xb3 xi8) (xa7 xi8) .none kV16 dc16 pm16 an16 cd16 ct16),sl16⟩)
  (c16:codeIn K cd16 "_law_least" = true)
  (k16:keepIn K (.ref f16) = true)
  (a17:nsIn K mainGlobals "tellings_from" = some (some (.ref f17)))
  (l17:K.lookup f17 = some ⟨oc17,od17,.func (fnOf "tellings_from" "tellings_from" (xb4 xe2) (xb3 xe2) (xa7 xe2) .none kV17 dc17 pm17 an17 cd17 ct17),sl17⟩)
  (c17:codeIn K cd17 "tellings_from" = true)
  (k17:keepIn K (.ref f17) = true)
  (a18:nsIn K mainGlobals "best_starts" = some (some (.ref f18)))
  (l18:K.lookup f18 = some ⟨oc18,od18,.func (fnOf "best_starts" "best_starts" (xb4 xg9) (xb3 xg9) (xa7 xg9) .none kV18 dc18 pm18 an18 cd18 ct18),sl18⟩)
  (c18:codeIn K cd18 "best_starts" = true)
  (k18:keepIn K (.ref f18) = true)
  (a19:nsIn K mainGlobals "tell_column" = some (some (.ref f19)))
  (l19:K.lookup f19 = some ⟨oc19,od19,.func (fnOf "tell_column" "tell_column" (xb4 xg5) (xb3 xg5) (xa7 xg5) .none kV19 dc19 pm19 an19 cd19 ct19),sl19⟩)
  (c19:codeIn K cd19 "tell_column" = true)
  (k19:keepIn K (.ref f19) = true)
  (a20:nsIn K mainGlobals "columns_of" = some (some (.ref f20)))
  (l20:K.lookup f20 = some ⟨oc20,od20,.func (fnOf "columns_of" "columns_of" (xb4 xi0) (xb3 xi0) (xa7 xi0) .none kV20 dc20 pm20 an20 cd20 ct20),sl20⟩)
  (c20:codeIn K cd20 "columns_of" = true)
  (k20:keepIn K (.ref f20) = true)
  (a21:nsIn K mainGlobals "place_to_tell" = some (some (.ref f21)))
  (l21:K.lookup f21 = some ⟨oc21,od21,.func (fnOf "place_to_tell" "place_to_tell" (xb4 xe3) (xb3 xe3) (xa7 xe3) .none kV21 dc21 pm21 an21 cd21 ct21),sl21⟩)
  (c21:codeIn K cd21 "place_to_tell" = true)
  (k21:keepIn K (.ref f21) = true)
  (a22:nsIn K mainGlobals "weight" = some (some (.ref f22)))
  (l22:K.lookup f22 = some ⟨oc22,od22,.func (fnOf "weight" "weight" (xb4 xp7) (xb3 xp7) (xa7 xp7) .none kV22 dc22 pm22 an22 cd22 ct22),sl22⟩)
  (c22:codeIn K cd22 "weight" = true)
  (k22:keepIn K (.ref f22) = true)
  (a23:nsIn K mainGlobals "_law_weight" = some (some (.ref f23)))
  (l23:K.lookup f23 = some ⟨oc23,od23,.func (fnOf "_law_weight" "_law_weight" (xb4 xh9) (xb3 xh9) (xa7 xh9) .none kV23 dc23 pm23 an23 cd23 ct23),sl23⟩)
  (c23:codeIn K cd23 "_law_weight" = true)
  (k23:keepIn K (.ref f23) = true)
  (a24:nsIn K mainGlobals "_law_cell_at" = some (some (.ref f24)))
  (l24:K.lookup f24 = some ⟨oc24,od24,.func (fnOf "_law_cell_at" "_law_cell_at" (xb4 xg8) (xb3 xg8) (xa7 xg8) .none kV24 dc24 pm24 an24 cd24 ct24),sl24⟩)
  (c24:codeIn K cd24 "_law_cell_at" = true)
  (k24:keepIn K (.ref f24) = true)
  (a25:nsIn K mainGlobals "_law_whole" = some (some (.ref f25)))
  (l25:K.lookup f25 = some ⟨oc25,od25,.func (fnOf "_law_whole" "_law_whole" (xb4 xi6) (xb3 xi6) (xa7 xi6) .none kV25 dc25 pm25 an25 cd25 ct25),sl25⟩)
  (c25:codeIn K cd25 "_law_whole" = true)
  (k25:keepIn K (.ref f25) = true)
  (a26:nsIn K mainGlobals "_law_draw" = some (some (.ref f26)))
  (l26:K.lookup f26 = some ⟨oc26,od26,.func (fnOf "_law_draw" "_law_draw" (xb4 xk5) (xb3 xk5) (xa7 xk5) .none kV26 dc26 pm26 an26 cd26 ct26),sl26⟩)
  (c26:codeIn K cd26 "_law_draw" = true)
  (k26:keepIn K (.ref f26) = true)
  (a27:nsIn K mainGlobals "told_cue" = some (some (.ref f27)))
  (l27:K.lookup f27 = some ⟨oc27,od27,.func (fnOf "told_cue" "told_cue" (xb4 xk3) (xb3 xk3) (xa7 xk3) .none kV27 dc27 pm27 an27 cd27 ct27),sl27⟩)
  (c27:codeIn K cd27 "told_cue" = true)
  (k27:keepIn K (.ref f27) = true)
  (a28:nsIn K mainGlobals "showing" = some (some (.ref f28)))
  (l28:K.lookup f28 = some ⟨oc28,od28,.func (fnOf "showing" "showing" (xb4 xm2) (xb3 xm2) (xa7 xm2) .none kV28 dc28 pm28 an28 cd28 ct28),sl28⟩)
  (c28:codeIn K cd28 "showing" = true)
  (k28:keepIn K (.ref f28) = true)
  (a29:nsIn K mainGlobals "_law_lamp" = some (some (.ref f29)))
  (l29:K.lookup f29 = some ⟨oc29,od29,.func (fnOf "_law_lamp" "_law_lamp" (xb4 xk4) (xb3 xk4) (xa7 xk4) .none kV29 dc29 pm29 an29 cd29 ct29),sl29⟩)
  (c29:codeIn K cd29 "_law_lamp" = true)
  (k29:keepIn K (.ref f29) = true)
  (a30:nsIn K mainGlobals "_law_worths" = some (some (.ref f30)))
  (l30:K.lookup f30 = some ⟨oc30,od30,.func (fnOf "_law_worths" "_law_worths" (xb4 xh8) (xb3 xh8) (xa7 xh8) .none kV30 dc30 pm30 an30 cd30 ct30),sl30⟩)
  (c30:codeIn K cd30 "_law_worths" = true)
  (k30:keepIn K (.ref f30) = true)
  (a31:nsIn K mainGlobals "_law_is_list" = some (some (.ref f31)))
  (l31:K.lookup f31 = some ⟨oc31,od31,.func (fnOf "_law_is_list" "_law_is_list" (xb4 xg7) (xb3 xg7) (xa7 xg7) .none kV31 dc31 pm31 an31 cd31 ct31),sl31⟩)
  (c31:codeIn K cd31 "_law_is_list" = true)
  (k31:keepIn K (.ref f31) = true)
  (a32:nsIn K mainGlobals "_law_looks" = some (some (.ref f32)))
  (l32:K.lookup f32 = some ⟨oc32,od32,.func (fnOf "_law_looks" "_law_looks" (xb4 xi7) (xb3 xi7) (xa7 xi7) .none kV32 dc32 pm32 an32 cd32 ct32),sl32⟩)
  (c32:codeIn K cd32 "_law_looks" = true)
  (k32:keepIn K (.ref f32) = true)
  (a33:nsIn K mainGlobals "law" = some (some (.ref f33)))
  (l33:K.lookup f33 = some ⟨oc33,od33,.func (fnOf "law" "law" (xb4 yy8) (xb3 yy8) (xa7 yy8) .none kV33 dc33 pm33 an33 cd33 ct33),sl33⟩)
  (c33:codeIn K cd33 "law" = true)
  (k33:keepIn K (.ref f33) = true)
  (pg_Part:plainGet K C_Part Str.empty = true)
  (hd_Part:hasDictIn K C_Part = true)
  (po_Part:plainOver K C_Part = true)
  (sa_Part:findIn K (.ref C_Part) "__setattr__" = some (some (.builtin "object.__setattr__")))
  (mk_Part:makesIn K C_Part = true)
  (kc_Part:keepIn K (.ref C_Part) = true)
  (na_Part_tells:findIn K (.ref C_Part) "tells" = some none)
  (na_Part_alone:findIn K (.ref C_Part) "alone" = some none)
  (na_Part_rise:findIn K (.ref C_Part) "rise" = some none)
  (na_Part_fall:findIn K (.ref C_Part) "fall" = some none)
  (na_Part_wait:findIn K (.ref C_Part) "wait" = some none)
  (yc_Part:findIn K (.ref C_Part) "__class__" = some (some (.builtin "object.__class__")))
  (ym_Part:mroIn K C_Part (.type "object") = some true)
  (xk_own_Part:kitOne K (.ref C_Part) (.ref C_Part) = some true)
  (pg_Cue:plainGet K C_Cue Str.empty = true)
  (hd_Cue:hasDictIn K C_Cue = true)
  (po_Cue:plainOver K C_Cue = true)
  (sa_Cue:findIn K (.ref C_Cue) "__setattr__" = some (some (.builtin "object.__setattr__")))
  (mk_Cue:makesIn K C_Cue = true)
  (kc_Cue:keepIn K (.ref C_Cue) = true)
  (na_Cue_number:findIn K (.ref C_Cue) "number" = some none)
  (na_Cue_parts:findIn K (.ref C_Cue) "parts" = some none)
  (na_Cue_stops:findIn K (.ref C_Cue) "stops" = some none)
  (na_Cue_follow:findIn K (.ref C_Cue) "follow" = some none)
  (yc_Cue:findIn K (.ref C_Cue) "__class__" = some (some (.builtin "object.__class__")))
  (ym_Cue:mroIn K C_Cue (.type "object") = some true)
  (xk_own_Cue:kitOne K (.ref C_Cue) (.ref C_Cue) = some true)
  (xg_get:specialIn K (.builtin "object.__class__") "__get__" = some (some (.builtin "getset_descriptor.__get__")))
  (xg_set:takesIn K (.builtin "object.__class__") = some true)
  (z_isinstance:nsIn K mainGlobals "isinstance" = some none)
  (z_int:nsIn K mainGlobals "int" = some none)
  (z_bool:nsIn K mainGlobals "bool" = some none)
  (z_str:nsIn K mainGlobals "str" = some none)
  (z_tuple:nsIn K mainGlobals "tuple" = some none)
  (z_list:nsIn K mainGlobals "list" = some none)
  (z_dict:nsIn K mainGlobals "dict" = some none)
  (z_set:nsIn K mainGlobals "set" = some none)
  (z_sorted:nsIn K mainGlobals "sorted" = some none)
  (z_len:nsIn K mainGlobals "len" = some none)
  (z_all:nsIn K mainGlobals "all" = some none)
  (z_min:nsIn K mainGlobals "min" = some none)
  (z_range:nsIn K mainGlobals "range" = some none)
  (z_enumerate:nsIn K mainGlobals "enumerate" = some none)
  (z_sum:nsIn K mainGlobals "sum" = some none)
  (gc_MOST_TICKS:nsIn K mainGlobals "MOST_TICKS" = some (some (.int 1000000000 tkc_MOST_TICKS)))
  (gc_LETTERS:nsIn K mainGlobals "LETTERS" = some (some (.str "abcdefghijklmnopqrstuvwxyz" tkc_LETTERS)))
  (gc_MOST_LETTERS:nsIn K mainGlobals "MOST_LETTERS" = some (some (.int 8 tkc_MOST_LETTERS)))
  (gc_MOST_WORTH:nsIn K mainGlobals "MOST_WORTH" = some (some (.int 1000000000 tkc_MOST_WORTH)))
  (gc_MOST_NUMBER:nsIn K mainGlobals "MOST_NUMBER" = some (some (.int 1000000000 tkc_MOST_NUMBER)))
  (gc_MOST_PARTS:nsIn K mainGlobals "MOST_PARTS" = some (some (.int 9 tkc_MOST_PARTS)))
  (gs_SIDES:nsIn K mainGlobals "SIDES" = some (some (.ref S_SIDES)))
  (ls_SIDES:K.lookup S_SIDES = some ⟨.type "tuple",so_SIDES,.seq ([.str "blue" sk_SIDES_0,.str "bright" sk_SIDES_1,.str "green" sk_SIDES_2,.str "pan" sk_SIDES_3,.str "red" sk_SIDES_4,.str "tilt" sk_SIDES_5]:List Value).toArray sn_SIDES,ss_SIDES⟩) :
  ∃ fd:FuncData,(∀ (s:Shared) (v:Value),BindsTo s fd ⟨[v],[]⟩ [("_law_script",v)]) /\ ∀ base:Heap,K.In base -> base.Ns mainGlobals mg -> FnOk l.prog w K mg base CX0 12 fa fd ["_law_script"] (spLaw K):=by
 have e:=hfa.symm.trans (mg_of X G a33)
 cases e
 have F0:=xd4 (st:=xk7) l0 c0 k0
 have bb0:=F0.binds (ps:=["thing"]) fun _ _ _ _ _ _ us hl=>match us,hl with | [_],_=>rfl
 have F1:=xd4 (st:=xm3) l1 c1 k1
 have bb1:=F1.binds (ps:=["thing"]) fun _ _ _ _ _ _ us hl=>match us,hl with | [_],_=>rfl
 have F2:=xd4 (st:=xm6) l2 c2 k2
 have bb2:=F2.binds (ps:=["thing"]) fun _ _ _ _ _ _ us hl=>match us,hl with | [_],_=>rfl
 have F3:=xd4 (st:=xm5) l3 c3 k3
 have bb3:=F3.binds (ps:=["thing"]) fun _ _ _ _ _ _ us hl=>match us,hl with | [_],_=>rfl
 have F4:=xd4 (st:=xm4) l4 c4 k4
 have bb4:=F4.binds (ps:=["thing"]) fun _ _ _ _ _ _ us hl=>match us,hl with | [_],_=>rfl
 have F5:=xd4 (st:=xk6) l5 c5 k5
 have bb5:=F5.binds (ps:=["thing"]) fun _ _ _ _ _ _ us hl=>match us,hl with | [_],_=>rfl
 have F6:=xd4 (st:=xg6) l6 c6 k6
 have bb6:=F6.binds (ps:=["thing"]) fun _ _ _ _ _ _ us hl=>match us,hl with | [_],_=>rfl
 have F7:=xd4 (st:=xf3) l7 c7 k7
 have bb7:=F7.binds (ps:=["thing"]) fun _ _ _ _ _ _ us hl=>match us,hl with | [_],_=>rfl
 have F8:=xd4 (st:=xe4) l8 c8 k8
 have bb8:=F8.binds (ps:=["thing"]) fun _ _ _ _ _ _ us hl=>match us,hl with | [_],_=>rfl
 have F9:=xd4 (st:=xc8) l9 c9 k9
 have bb9:=F9.binds (ps:=["thing"]) fun _ _ _ _ _ _ us hl=>match us,hl with | [_],_=>rfl
 have F10:=zj4 (st:=xi9) l10 c10 k10
 have bb10:xd2 K _ ["self","tells","alone","rise","fall","wait"] []:=FunD.binds (ds:=[]) 6 rfl F10 t10 fun _ _ _ _ _ _ us hl=>match us,hl with | [_,_,_,_,_,_],_=>⟨_,rfl,rfl⟩
 have bd10:xd2 K _ ["self","tells","alone","rise","fall","wait"] [.int 0 tk10_0,.int 0 tk10_1,.int 0 tk10_2]:=FunD.binds 3 rfl F10 t10 fun _ _ _ _ _ _ us hl=>match us,hl with | [_,_,_],_=>⟨_,rfl,rfl⟩
 have kb10:KBinds K _ ["self","tells","alone","rise","fall","wait"] ["rise","fall","wait"] (gAB 3 3) (gAB 3 3):=FunD.kbinds 3 3 (by decide) F10 t10 (fun _ _ _ _ _ _ us ws h1 h2=>match us,h1,ws,h2 with | [_,_,_],_,[_,_,_],_=>⟨_,rfl,rfl⟩)
 have F11:=xd4 (st:=xd5) l11 c11 k11
 have bb11:=F11.binds (ps:=["self"]) fun _ _ _ _ _ _ us hl=>match us,hl with | [_],_=>rfl
 have F12:=xd4 (st:=xf4) l12 c12 k12
 have bb12:=F12.binds (ps:=["thing"]) fun _ _ _ _ _ _ us hl=>match us,hl with | [_],_=>rfl
 have F13:=zj4 (st:=xk9) l13 c13 k13
 have bb13:xd2 K _ ["self","number","parts","stops","follow"] []:=FunD.binds (ds:=[]) 5 rfl F13 t13 fun _ _ _ _ _ _ us hl=>match us,hl with | [_,_,_,_,_],_=>⟨_,rfl,rfl⟩
 have bd13:xd2 K _ ["self","number","parts","stops","follow"] [.bool false,.none]:=FunD.binds 3 rfl F13 t13 fun _ _ _ _ _ _ us hl=>match us,hl with | [_,_,_],_=>⟨_,rfl,rfl⟩
 have kb13:KBinds K _ ["self","number","parts","stops","follow"] ["stops","follow"] (gAB 3 2) (gAB 3 2):=FunD.kbinds 3 2 (by decide) F13 t13 (fun _ _ _ _ _ _ us ws h1 h2=>match us,h1,ws,h2 with | [_,_,_],_,[_,_],_=>⟨_,rfl,rfl⟩)
 have F14:=xd4 (st:=xk8) l14 c14 k14
 have bb14:=F14.binds (ps:=["cues"]) fun _ _ _ _ _ _ us hl=>match us,hl with | [_],_=>rfl
 have F15:=xd4 (st:=xp8) l15 c15 k15
 have bb15:=F15.binds (ps:=["part","tells","alone"]) fun _ _ _ _ _ _ us hl=>match us,hl with | [_,_,_],_=>rfl
 have F16:=xd4 (st:=xi8) l16 c16 k16
 have bb16:=F16.binds (ps:=["_law_worths_here"]) fun _ _ _ _ _ _ us hl=>match us,hl with | [_],_=>rfl
 have F17:=xd4 (st:=xe2) l17 c17 k17
 have bb17:=F17.binds (ps:=["columns","start","count"]) fun _ _ _ _ _ _ us hl=>match us,hl with | [_,_,_],_=>rfl
 have F18:=xd4 (st:=xg9) l18 c18 k18
 have bb18:=F18.binds (ps:=["columns","count"]) fun _ _ _ _ _ _ us hl=>match us,hl with | [_,_],_=>rfl
 have F19:=xd4 (st:=xg5) l19 c19 k19
 have bb19:=F19.binds (ps:=["tells","alone","slot","column","starts"]) fun _ _ _ _ _ _ us hl=>match us,hl with | [_,_,_,_,_],_=>rfl
 have F20:=xd4 (st:=xi0) l20 c20 k20
 have bb20:=F20.binds (ps:=["looks"]) fun _ _ _ _ _ _ us hl=>match us,hl with | [_],_=>rfl
 have F21:=xd4 (st:=xe3) l21 c21 k21
 have bb21:=F21.binds (ps:=["cue","slot","worth","part"]) fun _ _ _ _ _ _ us hl=>match us,hl with | [_,_,_,_],_=>rfl
 have F22:=xd4 (st:=xp7) l22 c22 k22
 have bb22:=F22.binds (ps:=["cues"]) fun _ _ _ _ _ _ us hl=>match us,hl with | [_],_=>rfl
 have F23:=xd4 (st:=xh9) l23 c23 k23
 have bb23:=F23.binds (ps:=["_law_cues"]) fun _ _ _ _ _ _ us hl=>match us,hl with | [_],_=>rfl
 have F24:=xd4 (st:=xg8) l24 c24 k24
 have bb24:=F24.binds (ps:=["_law_script","_law_k"]) fun _ _ _ _ _ _ us hl=>match us,hl with | [_,_],_=>rfl
 have F25:=xd4 (st:=xi6) l25 c25 k25
 have bb25:=F25.binds (ps:=["_law_found"]) fun _ _ _ _ _ _ us hl=>match us,hl with | [_],_=>rfl
 have F26:=xd4 (st:=xk5) l26 c26 k26
 have bb26:=F26.binds (ps:=["_law_cell","_law_place"]) fun _ _ _ _ _ _ us hl=>match us,hl with | [_,_],_=>rfl
 have F27:=xd4 (st:=xk3) l27 c27 k27
 have bb27:=F27.binds (ps:=["cue","stops","tells","alone"]) fun _ _ _ _ _ _ us hl=>match us,hl with | [_,_,_,_],_=>rfl
 have F28:=xd4 (st:=xm2) l28 c28 k28
 have bb28:=F28.binds (ps:=["cues","looks"]) fun _ _ _ _ _ _ us hl=>match us,hl with | [_,_],_=>rfl
 have F29:=xd4 (st:=xk4) l29 c29 k29
 have bb29:=F29.binds (ps:=["_law_cell"]) fun _ _ _ _ _ _ us hl=>match us,hl with | [_],_=>rfl
 have F30:=xd4 (st:=xh8) l30 c30 k30
 have bb30:=F30.binds (ps:=["_law_script"]) fun _ _ _ _ _ _ us hl=>match us,hl with | [_],_=>rfl
 have F31:=xd4 (st:=xg7) l31 c31 k31
 have bb31:=F31.binds (ps:=["_law_cues"]) fun _ _ _ _ _ _ us hl=>match us,hl with | [_],_=>rfl
 have F32:=xd4 (st:=xi7) l32 c32 k32
 have bb32:=F32.binds (ps:=["_law_cues"]) fun _ _ _ _ _ _ us hl=>match us,hl with | [_],_=>rfl
 have F33:=xd4 (st:=yy8) l33 c33 k33
 have bb33:=F33.binds (ps:=["_law_script"]) fun _ _ _ _ _ _ us hl=>match us,hl with | [_],_=>rfl
 have T:Txt K mg ⟨f0,_,f1,_,f2,_,f3,_,f4,_,f5,_,f6,_,f7,_,f8,_,f9,_,f10,_,T10,[.int 0 tk10_0,.int 0 tk10_1,.int 0 tk10_2],f11,_,f12,_,f13,_,T13,[.bool false,.none],f14,_,f15,_,f16,_,f17,_,f18,_,f19,_,f20,_,f21,_,f22,_,f23,_,f24,_,f25,_,f26,_,f27,_,f28,_,f29,_,f30,_,f31,_,f32,_,fa,_,C_Part,C_Cue,S_SIDES,()⟩:=⟨F0,bb0,mg_of X G a0,F1,bb1,mg_of X G a1,F2,bb2,mg_of X G a2,F3,bb3,mg_of X G a3,F4,bb4,mg_of X G a4,F5,bb5,mg_of X G a5,F6,bb6,mg_of X G a6,F7,bb7,mg_of X G a7,F8,bb8,mg_of X G a8,F9,bb9,mg_of X G a9,F10,bb10,bd10,(.cons ⟨_,rfl⟩ (.cons ⟨_,rfl⟩ (.cons ⟨_,rfl⟩ (.nil)))),kb10,⟨mk_Part,a10,i10,kc_Part⟩,F11,bb11,⟨a11,i11,k11⟩,F12,bb12,mg_of X G a12,F13,bb13,bd13,(.cons rfl (.cons rfl (.nil))),kb13,⟨mk_Cue,a13,i13,kc_Cue⟩,F14,bb14,mg_of X G a14,F15,bb15,mg_of X G a15,F16,bb16,mg_of X G a16,F17,bb17,mg_of X G a17,F18,bb18,mg_of X G a18,F19,bb19,mg_of X G a19,F20,bb20,mg_of X G a20,F21,bb21,mg_of X G a21,F22,bb22,mg_of X G a22,F23,bb23,mg_of X G a23,F24,bb24,mg_of X G a24,F25,bb25,mg_of X G a25,F26,bb26,mg_of X G a26,F27,bb27,mg_of X G a27,F28,bb28,mg_of X G a28,F29,bb29,mg_of X G a29,F30,bb30,mg_of X G a30,F31,bb31,mg_of X G a31,F32,bb32,mg_of X G a32,F33,bb33,mg_of X G a33,⟨pg_Part,hd_Part,po_Part,sa_Part⟩,mg_of X G aC_Part,na_Part_tells,na_Part_alone,na_Part_rise,na_Part_fall,na_Part_wait,(fun H a dx fs e=>.ins e ⟨pg_Part,hd_Part,po_Part,sa_Part⟩ yc_Part xg_get xg_set ym_Part),xk_own_Part,⟨pg_Cue,hd_Cue,po_Cue,sa_Cue⟩,mg_of X G aC_Cue,na_Cue_number,na_Cue_parts,na_Cue_stops,na_Cue_follow,(fun H a dx fs e=>.ins e ⟨pg_Cue,hd_Cue,po_Cue,sa_Cue⟩ yc_Cue xg_get xg_set ym_Cue),xk_own_Cue,mg_none_of X G z_isinstance,mg_none_of X G z_int,mg_none_of X G z_bool,mg_none_of X G z_str,mg_none_of X G z_tuple,mg_none_of X G z_list,mg_none_of X G z_dict,mg_none_of X G z_set,mg_none_of X G z_sorted,mg_none_of X G z_len,mg_none_of X G z_all,mg_none_of X G z_min,mg_none_of X G z_range,mg_none_of X G z_enumerate,mg_none_of X G z_sum,⟨_,mg_of X G gc_MOST_TICKS⟩,⟨_,mg_of X G gc_LETTERS⟩,⟨_,mg_of X G gc_MOST_LETTERS⟩,⟨_,mg_of X G gc_MOST_WORTH⟩,⟨_,mg_of X G gc_MOST_NUMBER⟩,⟨_,mg_of X G gc_MOST_PARTS⟩,mg_of X G gs_SIDES,sqt_of ls_SIDES (by show 6 <= 1000; decide) (.cons ⟨_,rfl⟩ (.cons ⟨_,rfl⟩ (.cons ⟨_,rfl⟩ (.cons ⟨_,rfl⟩ (.cons ⟨_,rfl⟩ (.cons ⟨_,rfl⟩ (.nil)))))))⟩
 refine ⟨_,fun s v=>?_,fun base _ _=>ok_law T⟩
 exact .of_eq rfl
theorem walk {l:PySem.W.OpenLaw} {q:Program} {loose:List Str} {XP:(Str -> Option Value) -> Heap -> Prop} {YP:World -> Heap -> Prop} {d:DefRec} {K:Params -> Frag} (hn:l.most = some 63) (hdf:d.params.defaults = [])
  (hY:∀ (w:World) (h:Heap),YP w h -> (K w.params).In h)
  (F:∀ (w:World) (mg:Str -> Option Value) (fa:Addr) (h:Heap),(K w.params).In h -> h.Ns mainGlobals mg -> mg d.name = some (.ref fa) ->
   ∃ fd:FuncData,(∀ (s:Shared) (u:Value),BindsTo s fd ⟨[u],[]⟩ [("_law_script",u)]) /\ ∀ base:Heap,(K w.params).In base -> base.Ns mainGlobals mg -> FnOk l.prog w (K w.params) mg base CX0 12 fa fd ["_law_script"] (spLaw (K w.params))) :
  PySem.W.WalkO q loose XP YP l.row.toRowW d [] (fun f vs=>PySem.call f vs) :=
 L2.walk_of (n:=63) (k:=12) (x:="_law_script") (CX:=fun _=>CX0) (sp:=fun w=>spLaw (K w.params)) hn (by decide) hdf ⟨rfl,by decide,by decide⟩ hY F (fun _ _ a ns hl _ hS=>⟨a,ns,rfl,hS,hl,fun _=>rfl⟩) fun _ _ _ _ _ z=>z
end My
namespace PySem.W.Fast
abbrev tw90343872475197607:Type:=PySem.Params
theorem te90343872475197607:PySem.Params = tw90343872475197607:=rfl
end PySem.W.Fast
open PySem PySem.W PyProof.Rows
set_option maxRecDepth 100000 in
set_option maxHeartbeats 0 in
theorem PySem.Challenge.cw_lampcues_k73_one_slot_holds : PySem.Challenge.rw_lampcues_k73_one_slot.Holds := by
 w_on; o_law; k_head; (case hw => w_witness2)
 k_fill
 refine My.walk (l := PySem.Challenge.rw_lampcues_k73_one_slot) rfl rfl (fun w h Y => PySem.W.kIn_of Y) ?F
 case F =>
  intro w mg fa h KX G hmg
  refine' My.all_mk KX G hmg ?aC_Part ?aC_Cue ?a0 ?l0 ?c0 ?k0 ?a1 ?l1 ?c1 ?k1 ?a2 ?l2 ?c2 ?k2 ?a3 ?l3 ?c3 ?k3 ?a4 ?l4 ?c4 ?k4 ?a5 ?l5 ?c5 ?k5 ?a6 ?l6 ?c6 ?k6 ?a7 ?l7 ?c7 ?k7 ?a8 ?l8 ?c8 ?k8 ?a9 ?l9 ?c9 ?k9 ?a10 ?i10 ?l10 ?c10 ?k10 ?t10 ?a11 ?i11 ?l11 ?c11 ?k11 ?a12 ?l12 ?c12 ?k12 ?a13 ?i13 ?l13 ?c13 ?k13 ?t13 ?a14 ?l14 ?c14 ?k14 ?a15 ?l15 ?c15 ?k15 ?a16 ?l16 ?c16 ?k16 ?a17 ?l17 ?c17 ?k17 ?a18 ?l18 ?c18 ?k18 ?a19 ?l19 ?c19 ?k19 ?a20 ?l20 ?c20 ?k20 ?a21 ?l21 ?c21 ?k21 ?a22 ?l22 ?c22 ?k22 ?a23 ?l23 ?c23 ?k23 ?a24 ?l24 ?c24 ?k24 ?a25 ?l25 ?c25 ?k25 ?a26 ?l26 ?c26 ?k26 ?a27 ?l27 ?c27 ?k27 ?a28 ?l28 ?c28 ?k28 ?a29 ?l29 ?c29 ?k29 ?a30 ?l30 ?c30 ?k30 ?a31 ?l31 ?c31 ?k31 ?a32 ?l32 ?c32 ?k32 ?a33 ?l33 ?c33 ?k33 ?pg_Part ?hd_Part ?po_Part ?sa_Part ?mk_Part ?kc_Part ?na_Part_tells ?na_Part_alone ?na_Part_rise ?na_Part_fall ?na_Part_wait ?yc_Part ?ym_Part ?xk_own_Part ?pg_Cue ?hd_Cue ?po_Cue ?sa_Cue ?mk_Cue ?kc_Cue ?na_Cue_number ?na_Cue_parts ?na_Cue_stops ?na_Cue_follow ?yc_Cue ?ym_Cue ?xk_own_Cue ?xg_get ?xg_set ?z_isinstance ?z_int ?z_bool ?z_str ?z_tuple ?z_list ?z_dict ?z_set ?z_sorted ?z_len ?z_all ?z_min ?z_range ?z_enumerate ?z_sum ?gc_MOST_TICKS ?gc_LETTERS ?gc_MOST_LETTERS ?gc_MOST_WORTH ?gc_MOST_NUMBER ?gc_MOST_PARTS ?gs_SIDES ?ls_SIDES
  (case aC_Part => k_is)
  (case aC_Cue => k_is)
  (case a0 => k_is)
  (case l0 => k_is)
  (case c0 => k_is)
  (case k0 => k_is)
  (case a1 => k_is)
  (case l1 => k_is)
  (case c1 => k_is)
  (case k1 => k_is)
  (case a2 => k_is)
  (case l2 => k_is)
  (case c2 => k_is)
  (case k2 => k_is)
  (case a3 => k_is)
  (case l3 => k_is)
  (case c3 => k_is)
  (case k3 => k_is)
  (case a4 => k_is)
  (case l4 => k_is)
  (case c4 => k_is)
  (case k4 => k_is)
  (case a5 => k_is)
  (case l5 => k_is)
  (case c5 => k_is)
  (case k5 => k_is)
  (case a6 => k_is)
  (case l6 => k_is)
  (case c6 => k_is)
  (case k6 => k_is)
  (case a7 => k_is)
  (case l7 => k_is)
  (case c7 => k_is)
  (case k7 => k_is)
  (case a8 => k_is)
  (case l8 => k_is)
  (case c8 => k_is)
  (case k8 => k_is)
  (case a9 => k_is)
  (case l9 => k_is)
  (case c9 => k_is)
  (case k9 => k_is)
  (case a10 => k_is)
  (case i10 => k_is)
  (case l10 => k_is)
  (case c10 => k_is)
  (case k10 => k_is)
  (case t10 => k_is)
  (case a11 => k_is)
  (case i11 => k_is)
  (case l11 => k_is)
  (case c11 => k_is)
  (case k11 => k_is)
  (case a12 => k_is)
  (case l12 => k_is)
  (case c12 => k_is)
  (case k12 => k_is)
  (case a13 => k_is)
  (case i13 => k_is)
  (case l13 => k_is)
  (case c13 => k_is)
  (case k13 => k_is)
  (case t13 => k_is)
  (case a14 => k_is)
  (case l14 => k_is)
  (case c14 => k_is)
  (case k14 => k_is)
  (case a15 => k_is)
  (case l15 => k_is)
  (case c15 => k_is)
  (case k15 => k_is)
  (case a16 => k_is)
  (case l16 => k_is)
  (case c16 => k_is)
  (case k16 => k_is)
  (case a17 => k_is)
  (case l17 => k_is)
  (case c17 => k_is)
  (case k17 => k_is)
  (case a18 => k_is)
  (case l18 => k_is)
  (case c18 => k_is)
  (case k18 => k_is)
  (case a19 => k_is)
  (case l19 => k_is)
  (case c19 => k_is)
  (case k19 => k_is)
  (case a20 => k_is)
  (case l20 => k_is)
  (case c20 => k_is)
  (case k20 => k_is)
  (case a21 => k_is)
  (case l21 => k_is)
  (case c21 => k_is)
  (case k21 => k_is)
  (case a22 => k_is)
  (case l22 => k_is)
  (case c22 => k_is)
  (case k22 => k_is)
  (case a23 => k_is)
  (case l23 => k_is)
  (case c23 => k_is)
  (case k23 => k_is)
  (case a24 => k_is)
  (case l24 => k_is)
  (case c24 => k_is)
  (case k24 => k_is)
  (case a25 => k_is)
  (case l25 => k_is)
  (case c25 => k_is)
  (case k25 => k_is)
  (case a26 => k_is)
  (case l26 => k_is)
  (case c26 => k_is)
  (case k26 => k_is)
  (case a27 => k_is)
  (case l27 => k_is)
  (case c27 => k_is)
  (case k27 => k_is)
  (case a28 => k_is)
  (case l28 => k_is)
  (case c28 => k_is)
  (case k28 => k_is)
  (case a29 => k_is)
  (case l29 => k_is)
  (case c29 => k_is)
  (case k29 => k_is)
  (case a30 => k_is)
  (case l30 => k_is)
  (case c30 => k_is)
  (case k30 => k_is)
  (case a31 => k_is)
  (case l31 => k_is)
  (case c31 => k_is)
  (case k31 => k_is)
  (case a32 => k_is)
  (case l32 => k_is)
  (case c32 => k_is)
  (case k32 => k_is)
  (case a33 => k_is)
  (case l33 => k_is)
  (case c33 => k_is)
  (case k33 => k_is)
  (case pg_Part => k_is)
  (case hd_Part => k_is)
  (case po_Part => k_is)
  (case sa_Part => k_is)
  (case mk_Part => k_is)
  (case kc_Part => k_is)
  (case na_Part_tells => k_is)
  (case na_Part_alone => k_is)
  (case na_Part_rise => k_is)
  (case na_Part_fall => k_is)
  (case na_Part_wait => k_is)
  (case yc_Part => k_is)
  (case ym_Part => k_is)
  (case xk_own_Part => kit_is)
  (case pg_Cue => k_is)
  (case hd_Cue => k_is)
  (case po_Cue => k_is)
  (case sa_Cue => k_is)
  (case mk_Cue => k_is)
  (case kc_Cue => k_is)
  (case na_Cue_number => k_is)
  (case na_Cue_parts => k_is)
  (case na_Cue_stops => k_is)
  (case na_Cue_follow => k_is)
  (case yc_Cue => k_is)
  (case ym_Cue => k_is)
  (case xk_own_Cue => kit_is)
  (case xg_get => k_is)
  (case xg_set => k_is)
  (case z_isinstance => k_is)
  (case z_int => k_is)
  (case z_bool => k_is)
  (case z_str => k_is)
  (case z_tuple => k_is)
  (case z_list => k_is)
  (case z_dict => k_is)
  (case z_set => k_is)
  (case z_sorted => k_is)
  (case z_len => k_is)
  (case z_all => k_is)
  (case z_min => k_is)
  (case z_range => k_is)
  (case z_enumerate => k_is)
  (case z_sum => k_is)
  (case gc_MOST_TICKS => k_is)
  (case gc_LETTERS => k_is)
  (case gc_MOST_LETTERS => k_is)
  (case gc_MOST_WORTH => k_is)
  (case gc_MOST_NUMBER => k_is)
  (case gc_MOST_PARTS => k_is)
  (case gs_SIDES => k_is)
  (case ls_SIDES => k_is)
