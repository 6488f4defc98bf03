import PyProof.Rows.All
import Wide.All
import OpenK.AllK
import Wide.FinOn
import Lean
import PyProof.EqAt
import PyProof.EqKinds
import PyProof.TupleCall
import PyProof.NeKinds
import PyProof.ListRange
import PyProof.Rows.RuleM_int
import PyProof.ConsumeWalk
import PyProof.FitsBits
import PyProof.Rows.EnumRows
import PyProof.Rows.SeqGen
import PyProof.Rows.SeqCalls
import PyProof.Rows.FactsN_isinstance
import PyProof.WalksEnum
import KE.KRevIter
import PyProof.ExcBaseAll.ValueError
import PyProof.NsDelKeeps
import PyProof.RulesAs
import PyProof.Rows.FStr
import PyProof.Rows.RegStrFacts
import PyProof.ExcArgsOwn
import KE.KSortTup
import OpenK.KOps
import KE.KDictOf
import PyProof.AttrMissSeq
import PyProof.Rows.SetFrom
import KE.KDictList
import PyProof.DictWalks
import PyProof.Rows.TupDisplay
import PyProof.ExcInit
import PyProof.InstStore
import PyProof.InstStoreFacts
import OpenK.KMake
import PyProof.ReprRoads
import PyProof.ReprLen
import PyProof.WalkInts
import PySem.Challenge.RW_orderhall_k35_whole_two_rows_or_walk
set_option compiler.extract_closed false
set_option genSizeOf false
set_option Elab.async false
set_option linter.all false
set_option maxRecDepth 100000
namespace L2
open PySem PySem.Spec PyProof.Rows
noncomputable abbrev Key:=Sum Int Str
noncomputable def Zci:Key->Value->Bool
 | .inl k,v=>Value.isInt k v
 | .inr x,v=>Value.isStrOf x v
noncomputable def Zlk (w:World):Key->Int
 | .inl k=>hashInt k
 | .inr x=>hashStr w x
theorem ZK:∀ {k:Key} {v:Value},Zci k v=true->(∃ i t,k=Sum.inl i/\v=Value.int i t)\/(∃ x t,k=Sum.inr x/\v=Value.str x t)
 | .inl i,v,h=>by
  obtain⟨t,e⟩:=Value.isInt_shape (k:=i) (v:=v) h
  exact .inl ⟨i,t,rfl,e⟩
 | .inr x,v,h=>by
  obtain⟨t,e⟩:=Value.isStrOf_shape (x:=x) (v:=v) h
  exact .inr ⟨x,t,rfl,e⟩
theorem ZdB (i:Int)(t:Tok):Zci (.inl i) (.int i t)=true:=by simp [Zci,Value.isInt]
theorem ZdA (x:Str)(t:Tok):Zci (.inr x) (.str x t)=true:=by simp [Zci,Value.isStrOf]
theorem Zi6 (a b:Int):decide ((Sum.inl a:Key)=Sum.inl b)=(a == b):=by
 by_cases e:a=b
 ·subst e;simp
 ·have h:¬ (Sum.inl a:Key)=Sum.inl b:=fun q=>e (Sum.inl.inj q)
  rw [decide_eq_false h]
  exact (beq_eq_false_iff_ne.mpr e).symm
theorem Zi3 (a b:Str):decide ((Sum.inr a:Key)=Sum.inr b)=decide (a=b):=by
 by_cases e:a=b
 ·subst e;simp
 ·have h:¬ (Sum.inr a:Key)=Sum.inr b:=fun q=>e (Sum.inr.inj q)
  rw [decide_eq_false h,decide_eq_false e]
theorem Zi5 (a:Int)(b:Str):decide ((Sum.inl a:Key)=Sum.inr b)=false:=decide_eq_false (fun q=>nomatch q)
theorem Zi4 (a:Str)(b:Int):decide ((Sum.inr a:Key)=Sum.inl b)=false:=decide_eq_false (fun q=>nomatch q)
noncomputable def ZC (prog:Program)(w:World):PySem.KeyKind prog w Key where
 is:=Zci
 hash:=Zlk w
 inj:=fun v a b ha hb=>by
  rcases ZK ha with ⟨i,t,rfl,rfl⟩ | ⟨x,t,rfl,rfl⟩
  ·rcases ZK hb with ⟨j,u,rfl,e⟩ | ⟨y,u,rfl,e⟩
   ·injection e with e1 _;rw [e1]
   ·exact nomatch e
  ·rcases ZK hb with ⟨j,u,rfl,e⟩ | ⟨y,u,rfl,e⟩
   ·exact nomatch e
   ·injection e with e1 _;rw [e1]
 byValue:=fun k v h=>by
  rcases ZK h with ⟨i,t,rfl,rfl⟩ | ⟨x,t,rfl,rfl⟩<;>rfl
 pyHash:=fun hv h=>by
  rcases ZK hv with ⟨i,t,rfl,rfl⟩ | ⟨x,t,rfl,rfl⟩
  ·exact wpAny_pyHash_int h
  ·exact wpAny_pyHash_str h
 eqBool:=fun hu hv h=>by
  rcases ZK hu with ⟨i,t,rfl,rfl⟩ | ⟨x,t,rfl,rfl⟩
  ·rcases ZK hv with ⟨j,u,rfl,rfl⟩ | ⟨y,u,rfl,rfl⟩
   ·rw [Zi6] at h;exact wpAny_eqBool_int h
   ·rw [Zi5] at h;exact SeqAt.EqAt.int_str i t y u _ _ _ _ h
  ·rcases ZK hv with ⟨j,u,rfl,rfl⟩ | ⟨y,u,rfl,rfl⟩
   ·rw [Zi4] at h;exact SeqAt.EqAt.str_int x t j u _ _ _ _ h
   ·rw [Zi3] at h;exact wpAny_eqBool_str h
 «strs» := fun k x t v h=>by
  rcases ZK h with ⟨i,u,rfl,e⟩ | ⟨y,u,rfl,e⟩
  ·exact nomatch e
  ·injection e with e1 _
   subst e1
   cases v<;>rfl
theorem Za9 (prog:Program)(w:World)(i:Int)(t:Tok):(ZC prog w).is (.inl i) (.int i t)=true:=ZdB i t
theorem Za8 (prog:Program)(w:World)(x:Str)(t:Tok):(ZC prog w).is (.inr x) (.str x t)=true:=ZdA x t
inductive V where
 | non | bl (b:Bool) | int (i:Int) | str (x:Str) | byt (b:Array UInt8) | flt (b:UInt64) | ref (a:Addr) | ty (n:String)
 deriving DecidableEq
noncomputable def RelV:V->Value->Prop
 | .non,u=>u=Value.none
 | .bl b,u=>u=Value.bool b
 | .int i,u=>∃ t,u=Value.int i t
 | .str x,u=>∃ t,u=Value.str x t
 | .byt b,u=>∃ t,u=Value.bytes b t
 | .flt b,u=>∃ t,u=Value.float b t
 | .ref a,u=>u=Value.ref a
 | .ty n,u=>u=Value.type n
noncomputable abbrev Vals:List V->List Value->Prop:=Paired RelV
theorem Vals.length {xs:List V}{us:List Value}(r:Vals xs us):xs.length=us.length:=Paired.length r
theorem Vals.get:∀ {xs:List V} {us:List Value} {i:Nat} {x:V},Vals xs us->xs[i]? = some x->∃ u,us[i]? = some u/\RelV x u
 | _,_,_,_,.nil,e=>by simp at e
 | _,_,0,_,.cons r _,e=>by simp at e;subst e;exact⟨_,rfl,r⟩
 | _,_,i+1,x,.cons _ t,e=>by
  obtain⟨u,h1,h2⟩:=Vals.get (i:=i) (x:=x) t (by simpa using e)
  exact⟨u,by simpa using h1,h2⟩
theorem Vals.set {x:V}{u:Value}(r:RelV x u):∀ {xs:List V} {us:List Value} (i:Nat),Vals xs us->Vals (xs.set i x) (us.set i u)
 | _,_,_,.nil=>.nil
 | _,_,0,.cons _ t=>.cons r t
 | _,_,i+1,.cons q t=>.cons q (Vals.set r i t)
theorem Vals.append:∀ {xs ys:List V} {us ws:List Value},Vals xs us->Vals ys ws->Vals (xs++ys) (us++ws)
 | _,_,_,_,.nil,s=>s
 | _,_,_,_,.cons r t,s=>.cons r (Vals.append t s)
theorem Vals.take:∀ {xs:List V} {us:List Value} (n:Nat),Vals xs us->Vals (xs.take n) (us.take n)
 | _,_,0,_=>.nil
 | _,_,_+1,.nil=>.nil
 | _,_,n+1,.cons r t=>.cons r (Vals.take n t)
theorem Vals.drop:∀ {xs:List V} {us:List Value} (n:Nat),Vals xs us->Vals (xs.drop n) (us.drop n)
 | _,_,0,r=>r
 | _,_,_+1,.nil=>.nil
 | _,_,n+1,.cons _ t=>Vals.drop n t
noncomputable def RelO:Option V->Option Value->Prop
 | some v,some u=>RelV v u
 | none,none=>True
 | _,_=>False
noncomputable def KV {κ:Type}:List (κ×V)->List (κ×Value)->Prop:=Paired fun (p:κ×V) (q:κ×Value)=>p.1=q.1/\RelV p.2 q.2
noncomputable def kV:Key->V
 | .inl i=>.int i
 | .inr x=>.str x
inductive HO where
 | lst (xs:List V)
 | tup (xs:List V)
 | dK (kvs:List (Key×V)) | dT (kvs:List (List Key×V))
 | set (S:Int->Bool) (n:Nat)
 | ins (C dx:Addr) (fs:List (Str×V))
 | own (x:Addr)
 | xd (fs:List (Str×V))
 | met (f x:Addr)
 | rng (lo hi:Int)
 | frz (o:Obj) (u:HO)
 | tbl (ps:Array Value)
 | ext (φ:Heap->Prop)
noncomputable abbrev Hp:=Addr->Option HO
noncomputable def upd (H:Hp)(a:Addr)(o:HO):Hp:=fun b=>if b=a then some o else H b
theorem Zd {H:Hp}{a:Addr}{o:HO}:upd H a o a=some o:=by unfold upd;rw [if_pos rfl]
theorem Zh {H:Hp}{a b:Addr}{o:HO}(h:b≠a):upd H a o b=H b:=by unfold upd;rw [if_neg h]
theorem ZeS {H:Hp}{a b:Addr}{o u:HO}(h:H a=some o)(h':H b=some u)(d:o≠u):a≠b:=by
 intro e;subst e;rw [h] at h';exact d (Option.some.inj h')
theorem Zj {H:Hp}{a b:Addr}{o:HO}(h:H a=some o)(h':H b=none):a≠b:=by
 intro e;subst e;rw [h] at h';cases h'
section
variable (P:Program)(w:World)
noncomputable def ObjOk (H:Hp)(h:Heap)(a:Addr):HO->Prop
 | .lst xs=>xs.length<=sizeLine/\∃ (its:List Value) (n:Nat),Vals xs its/\h.get? a=some { cls:=.type "list",data:=.seq its.toArray n }
 | .tup xs=>xs.length<=sizeLine/\∃ its:List Value,Vals xs its/\IsTup h a its.toArray
 | .dK kvs=>kvs.length<=sizeLine/\(a == sysModules)=false/\∃ vs,KV kvs vs/\h.DictOf (ZC P w) a vs
 | .dT kvs=>kvs.length<=sizeLine/\(a == sysModules)=false/\∃ xs:List (List Key×Addr×Value),
   Paired (fun (p:List Key×V) (q:List Key×Addr×Value)=>p.1=q.1/\H q.2.1=some (.tup (p.1.map kV))/\RelV p.2 q.2.2) kvs xs /\
   ∃ o es ep,h.get? a=some o/\o.ExactDict/\o.data=.dict es ep/\es.toList=xs.map (entryOfKey (tupleKind (ZC P w)))/\(xs.map (·.1)).Nodup
 | .set S n=>h.SetOf (intKind P w) a S n
 | .ins C dx fs=>H dx=some (.own a)/\fs.length<=1000/\dx≠a/\h.get? a=some (W.instObj C dx) /\
   ∃ mA,h.Ns1 dx mA/\(∀ f,RelO (fs.lookup f) (mA f))/\PySem.Within mA (fs.map (·.1))
 | .own _=>∃ o,h.get? a=some o
 | .xd fs=>∃ mA,h.Ns1 a mA/\∀ f,RelO (fs.lookup f) (mA f)
 | .rng lo hi=>∃ t u v,h.get? a=some { cls:=.type "range",data:=.fields #[.int lo t,.int hi u,.int 1 v] }
 | .frz o u=>h.get? a=some o/\ObjOk H h a u
 | .tbl ps=>h.get? a=some { cls:=.none,data:=.fields ps }
 | .met f x=>h.get? a=some (W.methodObj (.ref f) (.ref x))
 | .ext φ=>φ h/\(∃ o,h.get? a=some o)/\∀ h1 h2:Heap,φ h1->(∀ o,h1.get? a=some o->h2.get? a=some o)->φ h2
noncomputable def HOk (H:Hp)(h:Heap):Prop:=∀ a o,H a=some o->ObjOk P w H h a o
end
section
variable {P:Program}{w:World}{H H':Hp}{h h':Heap}{a:Addr}{o:HO}
theorem ObjOk.lt (x:ObjOk P w H h a o):a<h.objs.size:=by
 cases o with
 | lst xs=>obtain⟨_,_,_,_,e⟩:=x;exact Heap.lt_size e
 | tup xs=>obtain⟨_,_,_,p⟩:=x;exact p.lt
 | dK kvs=>obtain⟨_,_,_,_,o,_,_,e,_⟩:=x;exact Heap.lt_size e
 | dT kvs=>obtain⟨_,_,_,_,o,_,_,e,_⟩:=x;exact Heap.lt_size e
 | set S n=>obtain⟨o,_,_,_,e,_⟩:=x;exact Heap.lt_size e
 | ins C dx fs=>obtain⟨_,_,_,e,_⟩:=x;exact Heap.lt_size e
 | own y=>obtain⟨_,e⟩:=x;exact Heap.lt_size e
 | xd fs=>obtain⟨_,⟨_,_,_,e,_⟩,_⟩:=x;exact Heap.lt_size e
 | rng lo hi=>obtain⟨_,_,_,e⟩:=x;exact Heap.lt_size e
 | frz ob u=>obtain⟨e,_⟩:=x;exact Heap.lt_size e
 | tbl ps=>exact Heap.lt_size (show h.get? a=some _ from x)
 | met f y=>exact Heap.lt_size (show h.get? a=some _ from x)
 | ext φ=>obtain⟨_,⟨_,e⟩,_⟩:=x;exact Heap.lt_size e
theorem Paired.mapP {α β:Type}{F G:α->β->Prop}:∀ {l₁:List α} {l₂:List β},Paired F l₁ l₂->(∀ a b,F a b->G a b)->Paired G l₁ l₂
 | _,_,.nil,_=>.nil
 | _,_,.cons r t,f=>.cons (f _ _ r) (Paired.mapP t f)
theorem ObjOk.stay (x:ObjOk P w H h a o)(k:∀ b u,(b=a\/H b=some (.own a))->h.get? b=some u->h'.get? b=some u)
  (ho:∀ b,H b=some (.own a)->H' b=some (.own a)) (ht:∀ b xs,H b=some (.tup xs)->H' b=some (.tup xs)):ObjOk P w H' h' a o:=by
 induction o with
 | lst xs=>obtain⟨z,its,n,r,e⟩:=x;exact⟨z,its,n,r,k _ _ (.inl rfl) e⟩
 | tup xs=>obtain⟨z,its,r,ob,e,c⟩:=x;exact⟨z,its,r,ob,k _ _ (.inl rfl) e,c⟩
 | dK kvs=>obtain⟨z,y,vs,r,ob,es,ep,e,c⟩:=x;exact⟨z,y,vs,r,ob,es,ep,k _ _ (.inl rfl) e,c⟩
 | dT kvs =>
  obtain⟨z,y,xs,r,ob,es,ep,e,c⟩:=x
  exact⟨z,y,xs,Paired.mapP r fun p q z=>⟨z.1,ht _ _ z.2.1,z.2.2⟩,ob,es,ep,k _ _ (.inl rfl) e,c⟩
 | set S n=>obtain⟨ob,es,ep,t,e,c⟩:=x;exact⟨ob,es,ep,t,k _ _ (.inl rfl) e,c⟩
 | ins C dx fs =>
  obtain⟨d,z,ne,e,mA,⟨od,es,ep,e2,c⟩,r⟩:=x
  exact⟨ho _ d,z,ne,k _ _ (.inl rfl) e,mA,⟨od,es,ep,k _ _ (.inr d) e2,c⟩,r⟩
 | own y=>obtain⟨ob,e⟩:=x;exact⟨ob,k _ _ (.inl rfl) e⟩
 | xd fs=>obtain⟨mA,⟨od,es,ep,e,c⟩,r⟩:=x;exact⟨mA,⟨od,es,ep,k _ _ (.inl rfl) e,c⟩,r⟩
 | rng lo hi=>obtain⟨t,u,v,e⟩:=x;exact⟨t,u,v,k _ _ (.inl rfl) e⟩
 | frz ob u ih=>obtain⟨e,q⟩:=x;exact⟨k _ _ (.inl rfl) e,ih q⟩
 | tbl ps =>
  have e:h.get? a=some { cls:=.none,data:=.fields ps }:=x
  show h'.get? a=some { cls:=.none,data:=.fields ps }
  exact k a _ (.inl rfl) e
 | met f y =>
  have e:h.get? a=some (W.methodObj (.ref f) (.ref y)):=x
  show h'.get? a=some (W.methodObj (.ref f) (.ref y))
  exact k a _ (.inl rfl) e
 | ext φ=>obtain⟨p,⟨o,e⟩,st⟩:=x;exact⟨st _ _ p fun o q=>k _ _ (.inl rfl) q,⟨o,k _ _ (.inl rfl) e⟩,st⟩
theorem HOk.lt (x:HOk P w H h)(e:H a=some o):a<h.objs.size:=(x a o e).lt
theorem HOk.fresh (x:HOk P w H h)(e:h.objs.size<=a):H a=none:=by
 cases q:H a with
 | none=>rfl
 | some u=>exact absurd (Nat.lt_of_lt_of_le (x.lt q) e) (Nat.lt_irrefl _)
theorem HOk.kept (x:HOk P w H h)(k:∀ b u,h.get? b=some u->h'.get? b=some u):HOk P w H h':=fun a o e =>
 (x a o e).stay (fun b u _ q=>k b u q) (fun _ q=>q) fun _ _ q=>q
theorem HOk.laid (x:HOk P w H h)(k:∀ b u,h.get? b=some u->h'.get? b=some u)(hp:h.objs.size<=a)(new:ObjOk P w (upd H a o) h' a o):HOk P w (upd H a o) h':=fun b u e=>by
 have hn:=x.fresh hp
 by_cases hb:b=a
 ·subst hb;rw [Zd] at e;cases e;exact new
 ·rw [Zh hb] at e
  exact (x b u e).stay (fun c v _ q=>k c v q) (fun c q=>by rw [Zh (Zj q hn)];exact q) fun c xs q=>by rw [Zh (Zj q hn)];exact q
end
noncomputable def Rd (H:Hp)(a:Addr)(u:HO):Prop:=H a=some u\/∃ o,H a=some (.frz o u)
theorem Rd.ok {P:Program}{w:World}{H:Hp}{h:Heap}{a:Addr}{u:HO}(r:Rd H a u)(x:HOk P w H h):ObjOk P w H h a u:=by
 rcases r with r | ⟨o,r⟩
 ·exact x a u r
 ·obtain⟨_,q⟩:=x a _ r
  exact q
noncomputable def Mut:Option HO->Prop
 | some (.lst _)=>True
 | some (.dK _)=>True
 | some (.dT _)=>True
 | some (.set _ _)=>True
 | some (.ins _ _ _)=>True
 | some (.ext _)=>True
 | _=>False
section
variable {P:Program}{w:World}{H:Hp}{h h':Heap}{x e:Addr}{o':HO}
theorem HOk.write (ok:HOk P w H h)(mu:Mut (H x))(he:e=x\/H e=some (.own x))(k:∀ b u,b≠e->h.get? b=some u->h'.get? b=some u)(heo:∃ u,h'.get? e=some u)
  (new:ObjOk P w (upd H x o') h' x o'):HOk P w (upd H x o') h':=fun b u q=>by
 have nown:∀ c y,H c=some (.own y)->c≠x:=fun c y r z=>by subst z;rw [r] at mu;exact mu
 have ntup:∀ c xs,H c=some (.tup xs)->c≠x:=fun c xs r z=>by subst z;rw [r] at mu;exact mu
 by_cases hb:b=x
 ·subst hb;rw [Zd] at q;cases q;exact new
 ·rw [Zh hb] at q
  by_cases hbe:b=e
  ·have q':H b=some (.own x):=by
    rcases he with z | z
    ·exact absurd (hbe.trans z) hb
    ·rw [hbe];exact z
   rw [q] at q';cases q'
   obtain⟨v,hv⟩:=heo
   exact⟨v,by rw [hbe];exact hv⟩
  ·refine (ok b u q).stay (fun c v hc r=>k c v ?_ r) (fun c r=>by rw [Zh (nown c b r)];exact r) fun c xs r=>by rw [Zh (ntup c xs r)];exact r
   rcases hc with rfl | hc
   ·exact hbe
   ·rintro rfl
    rcases he with z | z
    ·exact nown c b hc z
    ·rw [hc] at z;cases z;exact hb rfl
end
structure Un (fs ex:List Addr)(H H':Hp)(h h':Heap):Prop where
 keep:∀ b o,h.get? b=some o->H b=none->b∉fs->b∉ex->h'.get? b=some o
 slot:∀ b o,h.get? b=some o->H b=none->b∈fs->b∉ex->∃ sl,h'.get? b=some { o with slots:=sl }
 free:∀ b o,h.get? b=some o->H b=none->b∉ex->H' b=none
 there:∀ b o,h.get? b=some o->b∉ex->∃ o',h'.get? b=some o'
 tups:∀ b xs,H b=some (.tup xs)->H' b=some (.tup xs)
 frzs:∀ b o u,H b=some (.frz o u)->H' b=some (.frz o u)
 tbls:∀ b ps,H b=some (.tbl ps)->∃ more,H' b=some (.tbl (ps++more))
section
variable {fs fs' ex ex':List Addr}{H H1 H2:Hp}{h h1 h2 h':Heap}{a x e:Addr}{o:HO}
theorem Un.any (u:Un fs ex H H1 h h1){b:Addr}{ob:Obj}(q:h.get? b=some ob)(n:H b=none)(hx:b∉ex):∃ sl,h1.get? b=some { ob with slots:=sl }:=by
 by_cases hb:b∈fs
 ·exact u.slot b ob q n hb hx
 ·exact⟨ob.slots,u.keep b ob q n hb hx⟩
theorem Un.kept (k:∀ b u,h.get? b=some u->h'.get? b=some u):Un fs ex H H h h' :=
 ⟨fun b ob q _ _ _=>k b ob q,fun b ob q _ _ _=>⟨ob.slots,k b ob q⟩,fun _ _ _ n _=>n,fun b ob q _=>⟨ob,k b ob q⟩,fun _ _ q=>q,fun _ _ _ q=>q,fun _ ps q=>⟨#[],by rw [q];simp⟩⟩
theorem Un.refl:Un fs ex H H h h:=Un.kept fun _ _ q=>q
theorem Un.laid (k:∀ b u,h.get? b=some u->h'.get? b=some u)(hp:h.objs.size<=a)(hn:H a=none):Un fs ex H (upd H a o) h h' where
 keep:=fun b u q _ _ _=>k b u q
 slot:=fun b u q _ _ _=>⟨u.slots,k b u q⟩
 free:=fun b u q n _=>by rw [Zh (Nat.ne_of_lt (Nat.lt_of_lt_of_le (Heap.lt_size q) hp))];exact n
 there:=fun b u q _=>⟨u,k b u q⟩
 tups:=fun b xs q=>by rw [Zh (Zj q hn)];exact q
 frzs:=fun b u xs q=>by rw [Zh (Zj q hn)];exact q
 tbls:=fun b ps q=>⟨#[],by rw [Zh (Zj q hn),q];simp⟩
theorem Un.write (mu:Mut (H x))(he:e=x\/H e=some (.own x))(k:∀ b u,b≠e->h.get? b=some u->h'.get? b=some u)(heo:∃ u,h'.get? e=some u):Un fs ex H (upd H x o) h h':=by
 have hx:∀ b,H b=none->b≠x:=fun b n z=>by subst z;rw [n] at mu;exact mu
 have hb:∀ b,H b=none->b≠e:=fun b n z=>by
  subst z
  rcases he with r | r
  ·exact hx b n r
  ·rw [n] at r;cases r
 have hm:∀ b u,H b=some u->¬ Mut (some u)->b≠x:=fun b u q nm z=>by subst z;rw [q] at mu;exact nm mu
 refine⟨fun b u q n _ _=>k b u (hb b n) q,fun b u q n _ _=>⟨u.slots,k b u (hb b n) q⟩,fun b u q n _=>by rw [Zh (hx b n)];exact n,fun b u q _=>?_,
  fun b xs q=>by rw [Zh (hm b _ q fun z=>z)];exact q,fun b u xs q=>by rw [Zh (hm b _ q fun z=>z)];exact q,fun b ps q=>⟨#[],by rw [Zh (hm b _ q fun z=>z),q];simp⟩⟩
 by_cases hbe:b=e
 ·subst hbe;exact heo
 ·exact⟨u,k b u hbe q⟩
end
noncomputable def trk (h:Heap)(H:Hp):List Addr:=(List.range h.objs.size).filter fun a=>(H a).isSome
noncomputable def Zep (h:Heap)(H:Hp):Heap:=W.hideAll h (trk h H)
theorem ZdI (h:Heap)(H:Hp):(Zep h H).objs.size=h.objs.size:=W.hideAll_size _ _
theorem Zfa {h:Heap}{H:Hp}{b:Addr}{o:Obj}(e:h.get? b=some o)(n:H b=none):(Zep h H).get? b=some o :=
 W.hideAll_get _ e fun hm=>by
  have q:(H b).isSome=true:=(List.mem_filter.mp hm).2
  rw [n] at q;simp at q
theorem Zg0 {h:Heap}{H:Hp}{b:Addr}{o:Obj}(e:(Zep h H).get? b=some o):h.get? b=some o/\H b=none:=by
 have e':h.get? b=some o:=W.of_hideAll (trk h H) e
 refine⟨e',?_⟩
 cases q:H b with
 | none=>rfl
 | some x =>
  have hm:b∈trk h H:=List.mem_filter.mpr ⟨List.mem_range.mpr (Heap.lt_size e'),by simp [q]⟩
  have z:(Zep h H).get? b=none:=W.hideAll_none (trk h H) hm
  rw [z] at e;cases e
noncomputable def WY (g h:Heap)(L:Addr):List (Addr×Obj):=(List.range h.objs.size).filterMap fun a=>if a=L\/(g.get? a).isSome=true then none else (h.get? a).map fun o=>(a,o)
theorem Zbb {g h:Heap}{L a:Addr}{o:Obj}(h1:a≠L)(h2:g.get? a=none)(h3:h.get? a=some o):(a,o)∈WY g h L :=
 List.mem_filterMap.mpr ⟨a,List.mem_range.mpr (Heap.lt_size h3),by simp [h1,h2,h3]⟩
theorem Uj {g h:Heap}{L:Addr}{p:Addr×Obj}(hp:p∈WY g h L):p.1≠L/\g.get? p.1=none/\h.get? p.1=some p.2:=by
 obtain⟨b,_,e⟩:=List.mem_filterMap.mp hp
 split at e
 ·cases e
 ·rename_i hn
  cases q:h.get? b with
  | none=>rw [q] at e;simp at e
  | some u =>
   rw [q] at e
   simp only [Option.map_some,Option.some.injEq] at e
   subst e
   refine⟨fun z=>hn (.inl z),?_,q⟩
   show g.get? b=none
   cases r:g.get? b with
   | none=>rfl
   | some v=>exact (hn (.inr (by simp [r]))).elim
noncomputable def rest (g h:Heap)(L d:Addr):List (Addr×Obj):=(WY g h L).filter fun p=>decide (p.1≠d)
theorem ZeR {g h:Heap}{L:Addr}:News g L h (WY g h L):=fun p hp=>let ⟨a,b,c⟩:=Uj hp;⟨c,a,b⟩
structure Mod (K:W.Frag)(mg:Str->Option Value)(base:Heap):Prop where
 kin:K.In base
 glob:base.Ns mainGlobals mg
 blt:∃ mb,base.Ns builtinsNs mb/\∀ x:Str,x ≠ "__name__" -> mb x=bootBuiltins x
 nolimit:base.NoLimit
set_option genInjectivity false in
structure Cx where
 prog:Program
 w:World
 K:W.Frag
 mg:Str->Option Value
 base:Heap
 A:Around
 N:List Str
 s₀:Shared
 H₀:Hp
 env:Env
 outer:List Env
 stack:List Env
 ex:List Addr
 fn:Str->Bool
 calm:Bool
 pn:List (Addr×Obj)
 xe:Value->Shared->Prop
noncomputable def frs (l:List Env):List Addr:=l.filterMap (·.frame)
noncomputable abbrev Cx.fs (X:Cx):List Addr:=frs X.outer
noncomputable def Vis (sc:Scope)(x:Str):Prop:=sc.names.lookup x=some .local\/sc.names.lookup x=some .cell\/sc.names.lookup x=some .free
noncomputable def Loc (sc:Scope)(x:Str):Prop:=sc.names.lookup x=some .local\/sc.names.lookup x=some .cell
noncomputable def Zlt (env:Env)(h:Heap)(m:Str->Option Value)(x:Str)(u:Value):Prop :=
 (env.kindOf x=some .local/\m x=some u)\/((env.kindOf x=some .cell\/env.kindOf x=some .free)/\∃ c,env.cells.lookup x=some c/\h.IsCell c (some u))
structure Cx.Ok (X:Cx):Prop where
 mod:Mod X.K X.mg X.base
 kind:X.env.scope.kind=.function
 glob:X.env.globals=mainGlobals
 blt:X.env.builtins=builtinsNs
 above:X.s₀.heap.objs.size<=X.env.locals
 inj:∀ x y c,X.env.cells.lookup x=some c->X.env.cells.lookup y=some c->x=y
 has:∀ x,(X.env.kindOf x=some .cell\/X.env.kindOf x=some .free)->∃ c,X.env.cells.lookup x=some c
 cab:∀ x c,X.fn x=true->X.env.cells.lookup x=some c->X.s₀.heap.objs.size<=c
 hd:X.calm=true->X.A.handled=none
 frames:X.A.frames=some X.stack
 stk:X.stack=X.outer\/(X.stack=X.env::X.outer/\X.env.frame=some X.env.locals)
 exf:∀ b∈X.ex,b≠X.env.locals/\∀ x c,X.env.cells.lookup x=some c->c≠b
 bs:∀ b o,X.base.get? b=some o->X.s₀.heap.get? b=some o/\X.H₀ b=none
 bsz:X.base.objs.size<=X.s₀.heap.objs.size
 noex:∀ b o,X.base.get? b=some o->b∉X.ex
 exfs:∀ b∈X.ex,b∉X.fs
 funs:X.s₀.heap.FunFrames X.base X.outer
 frf:∀ b∈X.fs,X.H₀ b=none
structure Inv (X:Cx)(pins:List (Addr×Obj))(σ:List (Option V))(H:Hp)(s:Shared):Prop where
 ok:X.Ok
 os:s.os=X.s₀.os
 bare:AllBare s.gens
 base:Un X.fs X.ex X.H₀ H X.s₀.heap s.heap
 loc:∃ m,s.heap.Ns X.env.locals m/\∀ (i:Nat) (x:Str) (v:V),X.N[i]? = some x->σ[i]? = some (some v)->Vis X.env.scope x->∃ u,RelV v u/\Zlt X.env s.heap m x u
 cell:∀ x c,X.env.cells.lookup x=some c->∃ v,s.heap.IsCell c v
 free:H X.env.locals=none
 freeC:∀ x c,X.env.cells.lookup x=some c->H c=none
 pin:∀ p∈X.pn++pins,s.heap.get? p.1=some p.2/\H p.1=none/\p.1≠X.env.locals/\p.1∉X.fs/\∀ v,p.2.data≠.cell v
 hok:HOk X.prog X.w H s.heap
 len:σ.length=X.N.length
section
variable {X:Cx}{pins:List (Addr×Obj)}{σ:List (Option V)}{H H':Hp}{s:Shared}{h':Heap}
theorem Cx.Ok.nofr (ok:X.Ok){b:Addr}{o:Obj}(e:X.base.get? b=some o):b∉X.fs:=fun hb=>by
 have:=(ok.funs.mem hb).1
 rw [e] at this;cases this
theorem Inv.bs (I:Inv X pins σ H s):∀ b o,X.base.get? b=some o->s.heap.get? b=some o/\H b=none:=fun b o e =>
 ⟨I.base.keep b o (I.ok.bs b o e).1 (I.ok.bs b o e).2 (I.ok.nofr e) (I.ok.noex b o e),I.base.free b o (I.ok.bs b o e).1 (I.ok.bs b o e).2 (I.ok.noex b o e)⟩
theorem Inv.bk (I:Inv X pins σ H s):∀ b o,X.base.get? b=some o->s.heap.get? b=some o:=fun b o e=>(I.bs b o e).1
theorem Inv.mod (I:Inv X pins σ H s):Mod X.K X.mg X.base:=I.ok.mod
theorem Inv.kIn (I:Inv X pins σ H s):X.K.In s.heap:=I.ok.mod.kin.keeps I.bk
theorem Inv.nolimit (I:Inv X pins σ H s):s.heap.NoLimit:=I.ok.mod.nolimit.keeps I.bk
theorem Inv.lt (I:Inv X pins σ H s):X.env.locals<s.heap.objs.size:=let ⟨_,hn,_⟩:=I.loc;hn.lt
theorem Inv.sz (I:Inv X pins σ H s):X.s₀.heap.objs.size<=s.heap.objs.size:=Nat.le_trans I.ok.above (Nat.le_of_lt I.lt)
theorem Inv.nofs (I:Inv X pins σ H s){a:Addr}(h:s.heap.objs.size<=a):a∉X.fs:=fun hb=>by
 obtain⟨_,o,ho,_⟩:=I.ok.funs.mem hb
 exact absurd (Nat.lt_of_lt_of_le (Heap.lt_size ho) (Nat.le_trans I.sz h)) (Nat.lt_irrefl _)
theorem Inv.cne (I:Inv X pins σ H s):∀ x c,X.env.cells.lookup x=some c->c≠X.env.locals:=fun x c e z=>by
 obtain⟨v,o,ho,hd⟩:=I.cell x c e
 obtain⟨m,⟨o',es,ep,ho',hd',_⟩,_⟩:=I.loc
 rw [z,ho'] at ho;cases ho;rw [hd'] at hd;cases hd
theorem Inv.funs (I:Inv X pins σ H s):s.heap.FunFrames X.base X.outer:=by
 have all:∀ (l:List Env),(∀ b∈frs l,b∈X.fs)->X.s₀.heap.FunFrames X.base l->s.heap.FunFrames X.base l:=by
  intro l
  induction l with
  | nil=>intro _ _;trivial
  | cons env r ih =>
   intro hs hl
   obtain⟨hk,⟨L,o,hf,hn,ho,hd⟩,hr⟩:=hl
   have hL:L∈X.fs:=hs L (by unfold frs;rw [List.filterMap_cons,hf];exact List.mem_cons_self)
   obtain⟨sl,e⟩:=I.base.slot L o ho (I.ok.frf L hL) hL fun z=>I.ok.exfs L z hL
   exact⟨hk,⟨L,_,hf,hn,e,hd⟩,ih (fun b hb=>hs b (by unfold frs;rw [List.filterMap_cons,hf];exact List.mem_cons_of_mem _ hb)) hr⟩
 exact all X.outer (fun _ hb=>hb) I.ok.funs
theorem Inv.stack (I:Inv X pins σ H s):s.heap.FunFrames X.base X.stack:=by
 rcases I.ok.stk with e | ⟨e,hf⟩
 ·rw [e];exact I.funs
 ·rw [e]
  obtain⟨m,hn,_⟩:=I.loc
  refine .cons (by rw [I.ok.kind];decide) hf hn ?_ I.funs
  exact Heap.get?_none_of_le (Nat.le_trans I.ok.bsz I.ok.above)
theorem Inv.stkSub (I:Inv X pins σ H s):∀ b∈frs X.stack,b∈X.env.locals::X.fs:=fun b hb=>by
 rcases I.ok.stk with e | ⟨e,hf⟩
 ·rw [e] at hb;exact List.mem_cons_of_mem _ hb
 ·rw [e] at hb
  unfold frs at hb
  rw [List.filterMap_cons,hf] at hb
  exact hb
theorem Inv.stkFree (I:Inv X pins σ H s):∀ b∈frs X.stack,H b=none:=fun b hb=>by
 rcases List.mem_cons.mp (I.stkSub b hb) with e | hb
 ·rw [e];exact I.free
 ·obtain⟨_,o,ho,_⟩:=I.ok.funs.mem hb
  exact I.base.free b o ho (I.ok.frf b hb) fun z=>I.ok.exfs b z hb
theorem Inv.step {g':Array GenState}{t':Nat}{d':Drawn}{ch:List Addr}(I:Inv X pins σ H s)
  (hch:∀ b∈ch,(b∈X.ex\/X.s₀.heap.objs.size<=b)/\b≠X.env.locals/\(∀ x c,X.env.cells.lookup x=some c->c≠b)/\∀ p∈X.pn++pins,p.1≠b)
  (keep:∀ b o,b≠X.env.locals->b∉X.fs->b∉ch->s.heap.get? b=some o->H b=none->h'.get? b=some o)
  (slot:∀ b o,b≠X.env.locals->b∈X.fs->b∉ch->s.heap.get? b=some o->H b=none->∃ sl,h'.get? b=some { o with slots:=sl }) (free:∀ b o,b∉ch->s.heap.get? b=some o->H b=none->H' b=none)
  (there:∀ b o,b∉ch->s.heap.get? b=some o->∃ o',h'.get? b=some o')
  (tups:∀ b xs,H b=some (.tup xs)->H' b=some (.tup xs)) (frzs:∀ b o u,H b=some (.frz o u)->H' b=some (.frz o u)) (tbls:∀ b ps,H b=some (.tbl ps)->∃ more,H' b=some (.tbl (ps++more)))
  (ns:∀ m,s.heap.Ns X.env.locals m->h'.Ns X.env.locals m) (hok:HOk X.prog X.w H' h') (hg:AllBare g') :
  Inv X pins σ H' { s with heap:=h',gens:=g',drawn:=d',toks:=t' }:=by
 have neL:∀ b o,X.s₀.heap.get? b=some o->b≠X.env.locals:=fun b o e=>Nat.ne_of_lt (Nat.lt_of_lt_of_le (Heap.lt_size e) I.ok.above)
 have neC:∀ b o,X.s₀.heap.get? b=some o->b∉X.ex->b∉ch:=fun b o e hx hb=>by
  rcases (hch b hb).1 with z | z
  ·exact hx z
  ·exact absurd (Nat.lt_of_lt_of_le (Heap.lt_size e) z) (Nat.lt_irrefl _)
 have cellK:∀ x c,X.env.cells.lookup x=some c->∀ v,s.heap.IsCell c v->h'.IsCell c v:=fun x c e v ⟨o,ho,hd⟩=>by
  have nch:c∉ch:=fun z=>(hch c z).2.2.1 x c e rfl
  by_cases hc:c∈X.fs
  ·obtain⟨sl,q⟩:=slot c o (I.cne x c e) hc nch ho (I.freeC x c e)
   exact⟨_,q,hd⟩
  ·exact⟨o,keep c o (I.cne x c e) hc nch ho (I.freeC x c e),hd⟩
 refine⟨I.ok,I.os,hg,⟨fun b o e n hb hx=>?_,fun b o e n hb hx=>?_,fun b o e n hx=>?_,fun b o e hx=>?_,fun b xs e=>tups b xs (I.base.tups b xs e),fun b o xs e=>frzs b o xs (I.base.frzs b o xs e),fun b ps e=>?_⟩,?_,fun x c e=>?_,?_,fun x c e=>?_,fun p hp=>?_,hok,I.len⟩
 ·exact keep b o (neL b o e) hb (neC b o e hx) (I.base.keep b o e n hb hx) (I.base.free b o e n hx)
 ·obtain⟨sl,e1⟩:=I.base.slot b o e n hb hx
  obtain⟨sl',e2⟩:=slot b _ (neL b o e) hb (neC b o e hx) e1 (I.base.free b o e n hx)
  exact⟨sl',e2⟩
 ·obtain⟨o',e1⟩:=I.base.there b o e hx
  exact free b o' (neC b o e hx) e1 (I.base.free b o e n hx)
 ·obtain⟨o',e1⟩:=I.base.there b o e hx
  exact there b o' (neC b o e hx) e1
 ·obtain⟨m1,e1⟩:=I.base.tbls b ps e
  obtain⟨m2,e2⟩:=tbls b _ e1
  exact⟨m1++m2,by rw [e2,Array.append_assoc]⟩
 ·obtain⟨m,hn,hl⟩:=I.loc
  refine⟨m,ns m hn,fun i x v e1 e2 e3=>?_⟩
  obtain⟨u,r,l⟩:=hl i x v e1 e2 e3
  refine⟨u,r,?_⟩
  rcases l with l | ⟨k,c,e,z⟩
  ·exact .inl l
  ·exact .inr ⟨k,c,e,cellK x c e _ z⟩
 ·obtain⟨v,z⟩:=I.cell x c e
  exact⟨v,cellK x c e v z⟩
 ·obtain⟨m,⟨o,_,_,ho,_⟩,_⟩:=I.loc
  exact free _ o (fun z=>(hch _ z).2.1 rfl) ho I.free
 ·obtain⟨v,o,ho,hd⟩:=I.cell x c e
  exact free c o (fun z=>(hch c z).2.2.1 x c e rfl) ho (I.freeC x c e)
 ·obtain⟨e,n,ne,nf,d⟩:=I.pin p hp
  have nch:p.1∉ch:=fun z=>(hch p.1 z).2.2.2 p hp rfl
  exact⟨keep p.1 p.2 ne nf nch e n,free p.1 p.2 nch e n,ne,nf,d⟩
theorem Inv.un {t':Nat}(I:Inv X pins σ H s)(u:Un X.fs [] H H' s.heap h')(hok:HOk X.prog X.w H' h'):Inv X pins σ H' { s with heap:=h',toks:=t' }:=by
 obtain⟨m,⟨o,es,ep,ho,r⟩,_⟩:=id I.loc
 obtain⟨sl,hL⟩:=u.any ho I.free (by simp)
 exact I.step (g':=s.gens) (d':=s.drawn) (ch:=[]) (fun _ z=>nomatch z) (fun b o _ hb _ e n=>u.keep b o e n hb (by simp)) (fun b o _ hb _ e n=>u.slot b o e n hb (by simp)) (fun b o _ e n=>u.free b o e n (by simp)) (fun b o _ e=>u.there b o e (by simp)) u.tups u.frzs u.tbls (fun m' hm=>by
  obtain⟨o',es',ep',ho',r'⟩:=hm
  rw [ho] at ho';cases ho'
  exact⟨_,es',ep',hL,r'⟩) hok I.bare
theorem Inv.call {g':Array GenState}{t':Nat}{d':Drawn}{ch:List Addr}(I:Inv X pins σ H s)(u:Un (frs X.stack) ch H H' s.heap h')(hok:HOk X.prog X.w H' h')(hg:AllBare g')
  (hch:∀ b∈ch,(b∈X.ex\/X.s₀.heap.objs.size<=b)/\b≠X.env.locals/\(∀ x c,X.env.cells.lookup x=some c->c≠b)/\∀ p∈X.pn++pins,p.1≠b) :
  Inv X pins σ H' { s with heap:=h',gens:=g',drawn:=d',toks:=t' }:=by
 obtain⟨m,⟨o,es,ep,ho,r⟩,_⟩:=id I.loc
 obtain⟨sl,hL⟩:=u.any ho I.free fun z=>(hch _ z).2.1 rfl
 exact I.step (ch:=ch) hch (fun b o hL hb hc e n=>u.keep b o e n (fun z=>(List.mem_cons.mp (I.stkSub b z)).elim hL hb) hc) (fun b o _ _ hc e n=>u.any e n hc) (fun b o hc e n=>u.free b o e n hc) (fun b o hc e=>u.there b o e hc) u.tups u.frzs u.tbls (fun m' hm=>by
  obtain⟨o',es',ep',ho',r'⟩:=hm
  rw [ho] at ho';cases ho'
  exact⟨_,es',ep',hL,r'⟩) hok hg
theorem Inv.turned {t':Nat}{it:Addr}(I:Inv X pins σ H s)(k:∀ b o,b≠it->s.heap.get? b=some o->h'.get? b=some o)(hn:H it=none)(hL:it≠X.env.locals)
  (h1:it∈X.ex\/X.s₀.heap.objs.size<=it) (h2:∀ x c,X.env.cells.lookup x=some c->c≠it) (h3:∀ p∈X.pn++pins,p.1≠it):Inv X pins σ H { s with heap:=h',toks:=t' }:=by
 have nit:∀ b u,H b=some u->b≠it:=fun b u e z=>by rw [z,hn] at e;cases e
 refine I.step (g':=s.gens) (d':=s.drawn) (ch:=[it]) (fun b hb=>?_) (fun b o _ _ hc e _=>k b o (fun z=>hc (by simp [z])) e) (fun b o _ _ hc e _=>⟨o.slots,k b o (fun z=>hc (by simp [z])) e⟩) (fun _ _ _ _ n=>n)
  (fun b o hc e=>⟨o,k b o (fun z=>hc (by simp [z])) e⟩) (fun _ _ e=>e) (fun _ _ _ e=>e) (fun b ps e=>⟨#[],by rw [e];simp⟩) (fun m hm=>?_) (fun b u e=>?_) I.bare
 ·have e:b=it:=by simpa using hb
  subst e
  exact⟨h1,hL,h2,h3⟩
 ·obtain⟨o,es,ep,ho,r⟩:=hm
  exact⟨o,es,ep,k _ o (Ne.symm hL) ho,r⟩
 ·refine (I.hok b u e).stay (fun c v hc q=>k c v ?_ q) (fun _ q=>q) fun _ _ q=>q
  rcases hc with z | z
  ·rw [z];exact nit b u e
  ·exact nit c _ z
theorem Inv.tok (I:Inv X pins σ H s)(t:Nat):Inv X pins σ H { s with toks:=t }:=I.un (h':=s.heap) (t':=t) Un.refl I.hok
theorem Inv.kept {t':Nat}(I:Inv X pins σ H s)(k:∀ b u,s.heap.get? b=some u->h'.get? b=some u):Inv X pins σ H { s with heap:=h',toks:=t' }:=I.un (Un.kept k) (I.hok.kept k)
theorem Inv.laid {a:Addr}{o:HO}{t':Nat}(I:Inv X pins σ H s)(k:∀ b u,s.heap.get? b=some u->h'.get? b=some u)(hp:s.heap.objs.size<=a)(new:ObjOk X.prog X.w (upd H a o) h' a o) :
  Inv X pins σ (upd H a o) { s with heap:=h',toks:=t' }:=I.un (Un.laid k hp (I.hok.fresh hp)) (I.hok.laid k hp new)
theorem Inv.write {x e:Addr}{o:HO}{t':Nat}(I:Inv X pins σ H s)(mu:Mut (H x))(he:e=x\/H e=some (.own x))(k:∀ b u,b≠e->s.heap.get? b=some u->h'.get? b=some u)(heo:∃ u,h'.get? e=some u)
  (new:ObjOk X.prog X.w (upd H x o) h' x o):Inv X pins σ (upd H x o) { s with heap:=h',toks:=t' }:=I.un (Un.write mu he k heo) (I.hok.write mu he k heo new)
theorem Inv.pins_of {pins':List (Addr×Obj)}(I:Inv X pins σ H s)(h:∀ p∈pins',s.heap.get? p.1=some p.2/\H p.1=none/\p.1≠X.env.locals/\p.1∉X.fs/\∀ v,p.2.data≠.cell v):Inv X pins' σ H s :=
 ⟨I.ok,I.os,I.bare,I.base,I.loc,I.cell,I.free,I.freeC,fun p hp=>(List.mem_append.mp hp).elim (fun z=>I.pin p (List.mem_append_left _ z)) (h p),I.hok,I.len⟩
theorem nodup_ix {N:List Str}(hN:N.Nodup){i j:Nat}{x:Str}(a:N[i]? = some x)(b:N[j]? = some x):i=j:=by
 obtain⟨h1,e1⟩:=List.getElem?_eq_some_iff.mp a
 obtain⟨h2,e2⟩:=List.getElem?_eq_some_iff.mp b
 exact (List.getElem_inj hN).mp (e1.trans e2.symm)
theorem JF {M:Model}{A:Around}{E:Value->Shared->Prop}{i:Nat}{x:Str}{v:V}{u:Value}{Q:Unit->Shared->Prop}(I:Inv X pins σ H s)(hN:X.N.Nodup)(hi:X.N[i]? = some x)(hx:Loc X.env.scope x)(r:RelV v u)
  (h:∀ s',Inv X pins (σ.set i (some v)) H s'->(∃ a,Heap.SameBut a s.heap s'.heap/\(a=X.env.locals\/X.env.cells.lookup x=some a))->Q () s') (hf:X.fn x=true\/X.env.scope.names.lookup x=some .local:=by first | exact .inl rfl | exact .inr rfl | assumption):wpAny M A (storeName X.env x u) Q E s:=by
 obtain⟨m,hn,hl⟩:=id I.loc
 have hcls:(X.env.scope.kind == .class || (X.env.scope.kind == .module&&X.env.locals != X.env.globals))=false:=by rw [I.ok.kind];rfl
 have hiσ:i<σ.length:=by rw [I.len];exact (List.getElem?_eq_some_iff.mp hi).1
 have cne:=I.cne
 have tracked:∀ {a:Addr} {h':Heap},(∃ o,s.heap.get? a=some o/\H a=none)->Heap.SameBut a s.heap h'->HOk X.prog X.w H h':=fun {a h'} ha hs b ob e=>by
  obtain⟨_,_,hfree⟩:=ha
  refine (I.hok b ob e).stay (fun c w' hc q=>(hs.2 c ?_).trans q) (fun _ q=>q) fun _ _ q=>q
  rintro rfl
  rcases hc with rfl | hc
  ·rw [hfree] at e;cases e
  ·rw [hfree] at hc;cases hc
 rcases hx with hk | hk
 ·refine wpAny_storeName_local hk hn (fun h' hn' hs=>?_) hcls
  obtain⟨oL,_,_,hoL,_⟩:=id hn
  refine h _ ⟨I.ok,I.os,I.bare,⟨fun b o e n hb hx=>?_,fun b o e n hb hx=>?_,I.base.free,fun b o e hx=>?_,I.base.tups,I.base.frzs,I.base.tbls⟩,⟨_,hn',fun j y v' e1 e2 e3=>?_⟩,fun y c e=>?_,I.free,I.freeC,fun p hp=>?_,tracked ⟨oL,hoL,I.free⟩ hs,by simpa using I.len⟩ ⟨_,hs,.inl rfl⟩
  ·exact (hs.2 b (Nat.ne_of_lt (Nat.lt_of_lt_of_le (Heap.lt_size e) I.ok.above))).trans (I.base.keep b o e n hb hx)
  ·obtain⟨sl,e1⟩:=I.base.slot b o e n hb hx
   exact⟨sl,(hs.2 b (Nat.ne_of_lt (Nat.lt_of_lt_of_le (Heap.lt_size e) I.ok.above))).trans e1⟩
  ·obtain⟨o',e1⟩:=I.base.there b o e hx
   exact⟨o',(hs.2 b (Nat.ne_of_lt (Nat.lt_of_lt_of_le (Heap.lt_size e) I.ok.above))).trans e1⟩
  ·by_cases hj:j=i
   ·subst hj
    rw [hi] at e1;cases e1
    rw [List.getElem?_set_self hiσ] at e2
    cases e2
    exact⟨u,r,.inl ⟨hk,by simp⟩⟩
   ·rw [List.getElem?_set_ne (Ne.symm hj)] at e2
    obtain⟨u',r',q⟩:=hl j y v' e1 e2 e3
    refine⟨u',r',?_⟩
    rcases q with ⟨k,e⟩ | ⟨k,c,e,z⟩
    ·refine .inl ⟨k,?_⟩
     have:y≠x:=fun e=>hj (nodup_ix hN e1 (e▸hi))
     simp [this,e]
    ·exact .inr ⟨k,c,e,z.sameBut hs (cne y c e)⟩
  ·obtain⟨w',z⟩:=I.cell y c e
   exact⟨w',z.sameBut hs (cne y c e)⟩
  ·obtain⟨e,n,ne,nf,d⟩:=I.pin p hp
   exact⟨(hs.2 p.1 ne).trans e,n,ne,nf,d⟩
 ·have hfn:X.fn x=true:=by
   rcases hf with z | z
   ·exact z
   ·rw [z] at hk;cases hk
  obtain⟨c,hc⟩:=I.ok.has x (.inl hk)
  obtain⟨w',z⟩:=I.cell x c hc
  refine wpAny_storeName_cell I.ok.kind hk hc z (fun h' hc' hs=>?_)
  obtain⟨oc,hoc,hocd⟩:=id z
  refine h { s with heap:=h' } ⟨I.ok,I.os,I.bare,⟨fun b o e n hb hx=>?_,fun b o e n hb hx=>?_,I.base.free,fun b o e hx=>?_,I.base.tups,I.base.frzs,I.base.tbls⟩,⟨m,hn.sameBut hs (Ne.symm (cne x c hc)),fun j y v' e1 e2 e3=>?_⟩,fun y c' e=>?_,I.free,I.freeC,fun p hp=>?_,tracked ⟨oc,hoc,I.freeC x c hc⟩ hs,by simpa using I.len⟩ ⟨c,hs,.inr hc⟩
  ·exact (hs.2 b (Nat.ne_of_lt (Nat.lt_of_lt_of_le (Heap.lt_size e) (I.ok.cab x c hfn hc)))).trans (I.base.keep b o e n hb hx)
  ·obtain⟨sl,e1⟩:=I.base.slot b o e n hb hx
   exact⟨sl,(hs.2 b (Nat.ne_of_lt (Nat.lt_of_lt_of_le (Heap.lt_size e) (I.ok.cab x c hfn hc)))).trans e1⟩
  ·obtain⟨o',e1⟩:=I.base.there b o e hx
   exact⟨o',(hs.2 b (Nat.ne_of_lt (Nat.lt_of_lt_of_le (Heap.lt_size e) (I.ok.cab x c hfn hc)))).trans e1⟩
  ·by_cases hj:j=i
   ·subst hj
    rw [hi] at e1;cases e1
    rw [List.getElem?_set_self hiσ] at e2
    cases e2
    exact⟨u,r,.inr ⟨.inl hk,c,hc,hc'⟩⟩
   ·rw [List.getElem?_set_ne (Ne.symm hj)] at e2
    obtain⟨u',r',q⟩:=hl j y v' e1 e2 e3
    refine⟨u',r',?_⟩
    rcases q with q | ⟨k,c',e,z'⟩
    ·exact .inl q
    ·refine .inr ⟨k,c',e,z'.sameBut hs ?_⟩
     rintro rfl
     exact hj (nodup_ix hN e1 (I.ok.inj _ _ _ e hc▸hi))
  ·by_cases hcc:c'=c
   ·subst hcc;exact⟨_,hc'⟩
   ·obtain⟨w2,z2⟩:=I.cell y c' e
    exact⟨w2,z2.sameBut hs hcc⟩
  ·obtain⟨e,n,ne,nf,d⟩:=I.pin p hp
   refine⟨(hs.2 p.1 ?_).trans e,n,ne,nf,d⟩
   intro q
   rw [q,hoc] at e
   have q':oc=p.2:=Option.some.inj e
   exact d w' (by rw [<- q'];exact hocd)
theorem store_ok {M:Model}{A:Around}{E:Value->Shared->Prop}{i:Nat}{x:Str}{v:V}{u:Value}{Q:Unit->Shared->Prop}(I:Inv X pins σ H s)(hN:X.N.Nodup)(hi:X.N[i]? = some x)(hx:Loc X.env.scope x)(r:RelV v u)
  (h:∀ s',Inv X pins (σ.set i (some v)) H s'->Q () s') (hf:X.fn x=true\/X.env.scope.names.lookup x=some .local:=by first | exact .inl rfl | exact .inr rfl | assumption):wpAny M A (storeName X.env x u) Q E s :=
 JF I hN hi hx r (fun s' I' _=>h s' I') hf
theorem Inv.call' {s':Shared}{ch:List Addr}(I:Inv X pins σ H s)(ho:s'.os=s.os)(u:Un (frs X.stack) ch H H' s.heap s'.heap)(hok:HOk X.prog X.w H' s'.heap)(hg:AllBare s'.gens)
  (hch:∀ b∈ch,(b∈X.ex\/X.s₀.heap.objs.size<=b)/\b≠X.env.locals/\(∀ x c,X.env.cells.lookup x=some c->c≠b)/\∀ p∈X.pn++pins,p.1≠b):Inv X pins σ H' s':=by
 obtain⟨h',g',d',t',o'⟩:=s'
 have e:o'=s.os:=ho
 subst e
 exact I.call (g':=g') (t':=t') (d':=d') u hok hg hch
end
noncomputable abbrev XK:=Value->Option Addr->Hp->Prop
noncomputable abbrev St:=List (Option V)
noncomputable abbrev VK:=V->Hp->Prop
noncomputable abbrev TE:=St->Hp->VK->Prop
noncomputable abbrev TT:=St->Hp->(Bool->Hp->Prop)->Prop
noncomputable abbrev TA:=St->Hp->(List V->Hp->Prop)->Prop
structure WH where
 nx:St->Hp->Prop
 rt:VK
 bk:St->Hp->Prop:=fun _ _=>False
 ct:St->Hp->Prop:=fun _ _=>False
noncomputable abbrev TS:=WH->St->Hp->Prop
noncomputable def EP (X:Cx)(pins:List (Addr×Obj))(σ:St)(Q:VK)(u:Value)(s':Shared):Prop:=∃ v H',Inv X pins σ H' s'/\RelV v u/\Q v H'
noncomputable def TP (X:Cx)(pins:List (Addr×Obj))(σ:St)(Q:Bool->Hp->Prop)(b:Bool)(s':Shared):Prop:=∃ H',Inv X pins σ H' s'/\Q b H'
noncomputable def AP (X:Cx)(pins:List (Addr×Obj))(σ:St)(Q:List V->Hp->Prop)(us:List Value)(s':Shared):Prop:=∃ vs H',Inv X pins σ H' s'/\Vals vs us/\Q vs H'
noncomputable def SP (X:Cx)(pins:List (Addr×Obj))(D:WH)(f:Flow)(s':Shared):Prop :=
 match f with
 | .next=>∃ σ' H',Inv X pins σ' H' s'/\D.nx σ' H'
 | .brk=>∃ σ' H',Inv X pins σ' H' s'/\D.bk σ' H'
 | .cont=>∃ σ' H',Inv X pins σ' H' s'/\D.ct σ' H'
 | .ret u=>∃ v σ' H',Inv X pins σ' H' s'/\RelV v u/\D.rt v H'
noncomputable def PE (X:Cx)(e:Expr)(t:TE):Prop :=
 ∀ (pins:List (Addr×Obj)) (s:Shared) (σ:St) (H:Hp) (Q:VK),Inv X pins σ H s->t σ H Q->wpAny (model X.prog X.w) X.A (eval e X.env) (EP X pins σ Q) X.xe s
noncomputable def PT (X:Cx)(e:Expr)(t:TT):Prop :=
 ∀ (pins:List (Addr×Obj)) (s:Shared) (σ:St) (H:Hp) (Q:Bool->Hp->Prop),Inv X pins σ H s->t σ H Q->wpAny (model X.prog X.w) X.A (isTrue e X.env (eval e X.env)) (TP X pins σ Q) X.xe s
noncomputable def PW (X:Cx)(e:Expr)(t:TT):Prop :=
 ∀ (whole:Sem Value) (pins:List (Addr×Obj)) (s:Shared) (σ:St) (H:Hp) (Q:Bool->Hp->Prop),Inv X pins σ H s->t σ H Q->wpAny (model X.prog X.w) X.A (isTrue e X.env whole) (TP X pins σ Q) X.xe s
theorem PW.pt {X:Cx}{e:Expr}{t:TT}(h:PW X e t):PT X e t:=h _
noncomputable def PA (X:Cx)(es:List Expr)(t:TA):Prop :=
 ∀ (pos:Pos) (pins:List (Addr×Obj)) (s:Shared) (σ:St) (H:Hp) (Q:List V->Hp->Prop),Inv X pins σ H s->t σ H Q->wpAny (model X.prog X.w) X.A (spliced (backTo pos (starEach es X.env))) (AP X pins σ Q) X.xe s
noncomputable def PS (X:Cx)(st:Stmt)(t:TS):Prop :=
 ∀ (pins:List (Addr×Obj)) (s:Shared) (σ:St) (H:Hp) (D:WH),Inv X pins σ H s->t D σ H->wpAny (model X.prog X.w) X.A (exec st X.env) (SP X pins D) X.xe s
noncomputable def PSs (X:Cx)(st:List Stmt)(t:TS):Prop :=
 ∀ (pins:List (Addr×Obj)) (s:Shared) (σ:St) (H:Hp) (D:WH),Inv X pins σ H s->t D σ H->wpAny (model X.prog X.w) X.A (execs st X.env) (SP X pins D) X.xe s
theorem thn {α:Type}{t:Sem α}{Q Q':α->Shared->Prop}{M:Model}{A:Around}{E:Value->Shared->Prop}{s:Shared}(h:wpAny M A t Q E s)(hQ:∀ a s,Q a s->Q' a s):wpAny M A t Q' E s:=wpAny_mono h hQ fun _ _ x=>x
section
variable {X:Cx}
noncomputable def ZcI (i:Nat):TE:=fun σ H Q=>∃ v,σ[i]? = some (some v)/\Q v H
noncomputable def tC (v:V):TE:=fun _ H Q=>Q v H
theorem ZiP {i:Nat} {x:Str} {pos:Pos} (hN:X.N[i]? = some x) (hv:Vis X.env.scope x) (hd:(x == ("__debug__" : Str))=false:=by decide) (hcd:(x == ("__classdict__" : Str))=false:=by decide):PE X (.Name x pos) (ZcI i):=by
 intro pins s σ H Q I h
 obtain⟨v,e,h⟩:=h
 obtain⟨m,hn,hl⟩:=I.loc
 obtain⟨u,r,l⟩:=hl i x v hN e hv
 have fin:EP X pins σ Q u s:=⟨v,H,I,r,h⟩
 rcases l with ⟨hk,hm⟩ | ⟨hk,c,hc,hcell⟩
 ·exact wpAny_Name (wpAny_loadName_local I.ok.kind hk hn hm fin) hd
 ·rcases hk with hk | hk
  ·exact wpAny_Name (wpAny_loadName_cell I.ok.kind hk hc hcell fin) hd
  ·exact wpAny_Name (wpAny_loadName_free I.ok.kind hk hc hcell fin hcd) hd
theorem Ze {i j pos}:PE X (.Constant (.int i) j pos) (tC (.int i)):=fun _ _ _ H _ I h=>wpAny_Constant_int ⟨.int i,H,I.tok _,⟨_,rfl⟩,h⟩
theorem XU {b j pos}:PE X (.Constant (.bool b) j pos) (tC (.bl b)):=fun _ _ _ H _ I h=>Constant_bool ⟨.bl b,H,I,rfl,h⟩
theorem JX {j pos}:PE X (.Constant .none j pos) (tC .non):=fun _ _ _ H _ I h=>Constant_none ⟨.non,H,I,rfl,h⟩
noncomputable def Gl (X:Cx)(x:Str):Prop:=X.env.kindOf x=some .globalImplicit
theorem ld_glob {E:Value->Shared->Prop}{pins:List (Addr×Obj)}{s:Shared}{σ:St}{H:Hp}{x:Str}{u:Value}{pos:Pos}{Q:Value->Shared->Prop}(I:Inv X pins σ H s)(hg:Gl X x)(hm:X.mg x=some u)(h:Q u s)
  (hd:(x == ("__debug__" : Str))=false:=by decide):wpAny (model X.prog X.w) X.A (eval (.Name x pos) X.env) Q E s :=
 Calls.Name_function_global I.ok.kind hg (Calls.loadGlobal_global (by rw [I.ok.glob];exact I.mod.glob.keeps I.bk) hm h) hd
theorem ld_blt {E:Value->Shared->Prop}{pins:List (Addr×Obj)}{s:Shared}{σ:St}{H:Hp}{x:Str}{u:Value}{pos:Pos}{Q:Value->Shared->Prop}(I:Inv X pins σ H s)(hg:Gl X x)(hm:X.mg x=none)(hv:bootBuiltins x=some u)(h:Q u s)
  (hn:x ≠ "__name__" := by decide) (hd:(x == ("__debug__" : Str))=false:=by decide):wpAny (model X.prog X.w) X.A (eval (.Name x pos) X.env) Q E s:=by
 obtain⟨mb,h1,h2⟩:=I.mod.blt
 exact Calls.Name_function_global I.ok.kind hg (Calls.loadGlobal_builtin (by rw [I.ok.glob];exact I.mod.glob.keeps I.bk) hm (by rw [I.ok.blt];exact h1.keeps I.bk) ((h2 x hn).trans hv) h) hd
theorem Xo {x:Str} {v:V} {u:Value} {pos:Pos} (hg:Gl X x) (hm:X.mg x=some u) (r:RelV v u) (hd:(x == ("__debug__" : Str))=false:=by decide):PE X (.Name x pos) (tC v) :=
 fun _ _ _ H _ I h=>ld_glob I hg hm ⟨v,H,I,r,h⟩ hd
theorem Wg {x:Str} {v:V} {u:Value} {pos:Pos} (hg:Gl X x) (hm:X.mg x=none) (hv:bootBuiltins x=some u) (r:RelV v u) (hn:x ≠ "__name__" := by decide) (hd:(x == ("__debug__" : Str))=false:=by decide):PE X (.Name x pos) (tC v) :=
 fun _ _ _ H _ I h=>ld_blt I hg hm hv ⟨v,H,I,r,h⟩ hn hd
variable {a b:Expr}{ta tb:TE}{pos:Pos}
noncomputable def PC (X : Cx) (op : CmpOp) (a b : Expr) (t : TE) : Prop :=
  ∀ (pins : List (Addr × Obj)) (s : Shared) (σ : St) (H : Hp) (Q : VK), Inv X pins σ H s -> t σ H Q ->
    wpAny (model X.prog X.w) X.A (eval a X.env) (fun v s₁ => wpAny (model X.prog X.w) X.A (eval b X.env) (fun u s₂ => wpAny (model X.prog X.w) X.A (compareOp op v u) (EP X pins σ Q) X.xe s₂) X.xe s₁) X.xe s
theorem ZeP (b:Expr){op:CmpOp}(h:op≠.In)(h2:op≠.NotIn):behindInMarks op b=false:=by
 have e1:(op == CmpOp.In)=false:=by cases op<;>first | rfl | exact absurd rfl h
 have e2:(op == CmpOp.NotIn)=false:=by cases op<;>first | rfl | exact absurd rfl h2
 cases b<;>simp [behindInMarks,e1,e2]
noncomputable def tB (t:TE):TT:=fun σ H Q=>t σ H fun x H1=>∃ c,x=.bl c/\Q c H1
theorem UA {op:CmpOp}{t:TE}(h:PC X op a b t)(h1:behindInMarks op b=false:=by first | exact ZeP _ (by decide) (by decide) | rfl):PT X (.Compare a [op] [b] pos) (tB t):=by
 intro pins s σ H Q I hw
 refine wpAny_isTrue_Compare1 (thn (h pins s σ H _ I hw) fun v s1 h1=>thn h1 fun u s2 h2=>thn h2 fun c s3 ⟨x,H1,I1,r1,q1⟩=>?_) h1
 obtain⟨d,rfl,q⟩:=q1
 cases r1
 exact wpAny_truthy_bool ⟨H1,I1,q⟩
theorem YQ {e:Expr}{t:TE}(h:PE X e t)(he:∀ whole,isTrue e X.env whole=(do let v <- whole;standAt e.pos;holding [v] (truthy v)):=by intro _;rfl):PT X e (tB t):=by
 intro pins s σ H Q I hw
 refine isTrue_plain (thn (h pins s σ H _ I hw) fun v s1 ⟨x,H1,I1,r1,q1⟩=>?_) (he _)
 obtain⟨d,rfl,q⟩:=q1
 cases r1
 exact wpAny_truthy_bool ⟨H1,I1,q⟩
variable {tA tB':TT}{rest:List Expr}
noncomputable def ZkZ (t u:TT):TT:=fun σ H Q=>t σ H fun c H1=>if c=true then u σ H1 Q else Q false H1
noncomputable def tOr (t u:TT):TT:=fun σ H Q=>t σ H fun c H1=>if c=true then Q true H1 else u σ H1 Q
noncomputable def ZkT (t:TT):TT:=fun σ H Q=>t σ H fun c H1=>Q (!c) H1
theorem Ja (ha:PT X a tA):PW X (.BoolOp .And [a] pos) tA:=by
 intro wh pins s σ H Q I h
 refine isTrue_and (thn (ha pins s σ H Q I h) fun c s1 e=>?_)
 cases c with
 | true=>exact isTrue_and_nil e
 | false=>exact e
theorem XZ (ha:PT X a tA):PW X (.BoolOp .Or [a] pos) tA:=by
 intro wh pins s σ H Q I h
 refine isTrue_or (thn (ha pins s σ H Q I h) fun c s1 e=>?_)
 cases c with
 | false=>exact isTrue_or_nil e
 | true=>exact e
theorem ZbF (ha:PT X a tA)(hb:PW X (.BoolOp .And (b::rest) pos) tB'):PW X (.BoolOp .And (a::b::rest) pos) (ZkZ tA tB'):=by
 intro wh pins s σ H Q I h
 refine isTrue_and (thn (ha pins s σ H _ I h) fun c s1 ⟨H1,I1,q1⟩=>?_)
 cases c with
 | true=>exact hb wh pins s1 σ H1 Q I1 q1
 | false=>exact⟨H1,I1,q1⟩
theorem VD (ha:PT X a tA)(hb:PW X (.BoolOp .Or (b::rest) pos) tB'):PW X (.BoolOp .Or (a::b::rest) pos) (tOr tA tB'):=by
 intro wh pins s σ H Q I h
 refine isTrue_or (thn (ha pins s σ H _ I h) fun c s1 ⟨H1,I1,q1⟩=>?_)
 cases c with
 | true=>exact⟨H1,I1,q1⟩
 | false=>exact hb wh pins s1 σ H1 Q I1 q1
theorem YX (ha:PT X a tA):PT X (.UnaryOp .Not a pos) (ZkT tA):=by
 intro pins s σ H Q I h
 exact isTrue_not (ha pins s σ H (fun c H1=>Q (!c) H1) I h)
noncomputable def Ziu (ta tb:TE):TE:=fun σ H Q=>ta σ H fun x H1=>∃ c,x=.bl c/\if c=true then tb σ H1 Q else Q (.bl false) H1
noncomputable def Zle (ta tb:TE):TE:=fun σ H Q=>ta σ H fun x H1=>∃ c,x=.bl c/\if c=true then Q (.bl true) H1 else tb σ H1 Q
noncomputable def Zio (ta:TE):TE:=fun σ H Q=>ta σ H fun x H1=>∃ c,x=.bl c/\Q (.bl (!c)) H1
theorem Zde {op}{t:TE}(h:PE X a t):PE X (.BoolOp op [a] pos) t:=fun pins s σ H Q I hw=>BoolOp_one (h pins s σ H Q I hw)
theorem JY (ha:PE X a ta)(hb:PE X (.BoolOp .And (b::rest) pos) tb):PE X (.BoolOp .And (a::b::rest) pos) (Ziu ta tb):=by
 intro pins s σ H Q I h
 refine BoolOp_and (thn (ha pins s σ H _ I h) fun v s1 ⟨x,H1,I1,r1,q1⟩=>?_)
 obtain⟨c,rfl,q1⟩:=q1
 cases r1
 refine wpAny_truthy_bool ?_
 cases c with
 | true=>exact hb pins s1 σ H1 Q I1 q1
 | false=>exact⟨.bl false,H1,I1,rfl,q1⟩
theorem Zdf (ha:PE X a ta):PE X (.UnaryOp .Not a pos) (Zio ta):=by
 intro pins s σ H Q I h
 refine UnaryOp_ (thn (ha pins s σ H _ I h) fun v s1 ⟨x,H1,I1,r1,q1⟩=>?_)
 obtain⟨c,rfl,q1⟩:=q1
 cases r1
 exact not_of (wpAny_truthy_bool ⟨.bl (!c),H1,I1,rfl,q1⟩)
noncomputable def tIf (t:TT)(ta tb:TE):TE:=fun σ H Q=>t σ H fun c H1=>if c=true then ta σ H1 Q else tb σ H1 Q
end
noncomputable def SqL (K:W.Frag)(H:Hp)(a:Addr)(xs:List V):Prop :=
 Rd H a (.lst xs) \/
  ∃ (o:Obj) (its:Array Value) (n:Nat),K.lookup a=some o/\o.cls=.type "list" /\ o.dict=none/\o.data=.seq its n/\its.size<=sizeLine/\Vals xs its.toList
noncomputable def SqT (K:W.Frag)(H:Hp)(a:Addr)(xs:List V):Prop :=
 Rd H a (.tup xs) \/
  ∃ (o:Obj) (its:Array Value) (n:Nat),K.lookup a=some o/\o.cls=.type "tuple" /\ o.data=.seq its n/\its.size<=sizeLine/\Vals xs its.toList
noncomputable def Zlq:Value->Option V
 | .none=>some .non
 | .bool b=>some (.bl b)
 | .int i _=>some (.int i)
 | .str x _=>some (.str x)
 | .bytes b _=>some (.byt b)
 | .float b _=>some (.flt b)
 | .ref a=>some (.ref a)
 | .type n=>some (.ty n)
 | _=>none
theorem RelV.abs {x:V}{u:Value}(r:RelV x u):Zlq u=some x:=by
 cases x with
 | non=>cases r;rfl
 | bl _=>cases r;rfl
 | int _=>obtain⟨t,rfl⟩:=r;rfl
 | str _=>obtain⟨t,rfl⟩:=r;rfl
 | byt _=>obtain⟨t,rfl⟩:=r;rfl
 | flt _=>obtain⟨t,rfl⟩:=r;rfl
 | ref _=>cases r;rfl
 | ty _=>cases r;rfl
theorem RelV.inj {x y:V}{u:Value}(r:RelV x u)(q:RelV y u):x=y:=Option.some.inj (r.abs.symm.trans q.abs)
theorem Vals.inj:∀ {xs ys:List V} {us:List Value},Vals xs us->Vals ys us->xs=ys
 | _,_,_,.nil,.nil=>rfl
 | _,_,_,.cons r t,.cons r' t'=>by rw [r.inj r',Vals.inj t t']
section
variable {X:Cx}{pins:List (Addr×Obj)}{σ:St}{H:Hp}{s:Shared}{a:Addr}{xs ys:List V}
theorem SqL.of {K:W.Frag}(h:H a=some (.lst xs)):SqL K H a xs:=.inl (.inl h)
theorem SqT.of {K:W.Frag}(h:H a=some (.tup xs)):SqT K H a xs:=.inl (.inl h)
theorem Inv.list (I:Inv X pins σ H s)(h:SqL X.K H a xs):∃ its:List Value,Vals xs its/\PlainL s.heap a its.toArray/\xs.length<=sizeLine:=by
 rcases h with h | ⟨o,its,n,hk,hc,hd,hs,hz,r⟩
 ·obtain⟨z,its,n,r,e⟩:=h.ok I.hok
  exact⟨its,r,⟨_,n,e,rfl,rfl,rfl⟩,z⟩
 ·refine⟨its.toList,r,⟨o,n,I.kIn a o hk,hc,hd,by simpa using hs⟩,?_⟩
  have e:=r.length
  simp only [Array.length_toList] at e
  omega
theorem Inv.tuple (I:Inv X pins σ H s)(h:SqT X.K H a xs):∃ its:List Value,Vals xs its/\IsTup s.heap a its.toArray/\xs.length<=sizeLine:=by
 rcases h with h | ⟨o,its,n,hk,hc,hs,hz,r⟩
 ·obtain⟨z,its,r,p⟩:=h.ok I.hok
  exact⟨its,r,p,z⟩
 ·refine⟨its.toList,r,⟨o,I.kIn a o hk,hc,n,by simpa using hs⟩,?_⟩
  have e:=r.length
  simp only [Array.length_toList] at e
  omega
theorem Inv.list_inj (I:Inv X pins σ H s)(h:SqL X.K H a xs)(h':SqL X.K H a ys):xs=ys:=by
 obtain⟨its,r,⟨o,n,e,_,_,d⟩,_⟩:=I.list h
 obtain⟨its',r',⟨o',n',e',_,_,d'⟩,_⟩:=I.list h'
 rw [e] at e';cases e'
 rw [d] at d'
 injection d' with d1 _
 have:its=its':=by simpa using congrArg Array.toList d1
 subst this
 exact r.inj r'
theorem Inv.tuple_inj (I:Inv X pins σ H s)(h:SqT X.K H a xs)(h':SqT X.K H a ys):xs=ys:=by
 obtain⟨its,r,⟨o,e,_,n,d⟩,_⟩:=I.tuple h
 obtain⟨its',r',⟨o',e',_,n',d'⟩,_⟩:=I.tuple h'
 rw [e] at e';cases e'
 rw [d] at d'
 injection d' with d1 _
 have:its=its':=by simpa using congrArg Array.toList d1
 subst this
 exact r.inj r'
end
noncomputable abbrev Cx.wish (X:Cx)(E:Value->Shared->Prop):Cx:={ X with xe:=E }
noncomputable abbrev Cx.nox (X:Cx):Cx:=X.wish fun _ _=>False
theorem Cx.Ok.wish {X:Cx}(ok:X.Ok)(E:Value->Shared->Prop):(X.wish E).Ok :=
 ⟨ok.mod,ok.kind,ok.glob,ok.blt,ok.above,ok.inj,ok.has,ok.cab,ok.hd,ok.frames,ok.stk,ok.exf,ok.bs,ok.bsz,ok.noex,ok.exfs,ok.funs,ok.frf⟩
theorem Cx.Ok.unwish {X:Cx}{E:Value->Shared->Prop}(ok:(X.wish E).Ok):X.Ok :=
 ⟨ok.mod,ok.kind,ok.glob,ok.blt,ok.above,ok.inj,ok.has,ok.cab,ok.hd,ok.frames,ok.stk,ok.exf,ok.bs,ok.bsz,ok.noex,ok.exfs,ok.funs,ok.frf⟩
section
variable {X:Cx}{pins:List (Addr×Obj)}{σ:St}{H:Hp}{s:Shared}{E:Value->Shared->Prop}
theorem Inv.wish (I:Inv X pins σ H s)(E:Value->Shared->Prop):Inv (X.wish E) pins σ H s:=⟨I.ok.wish E,I.os,I.bare,I.base,I.loc,I.cell,I.free,I.freeC,I.pin,I.hok,I.len⟩
theorem Inv.unwish (I:Inv (X.wish E) pins σ H s):Inv X pins σ H s:=⟨I.ok.unwish,I.os,I.bare,I.base,I.loc,I.cell,I.free,I.freeC,I.pin,I.hok,I.len⟩
theorem SP.unwish {D:WH}{f:Flow}{s':Shared}(h:SP (X.wish E) pins D f s'):SP X pins D f s':=by
 cases f with
 | next=>obtain⟨σ',H',I,q⟩:=h;exact⟨σ',H',I.unwish,q⟩
 | brk=>obtain⟨σ',H',I,q⟩:=h;exact⟨σ',H',I.unwish,q⟩
 | cont=>obtain⟨σ',H',I,q⟩:=h;exact⟨σ',H',I.unwish,q⟩
 | ret u=>obtain⟨v,σ',H',I,r,q⟩:=h;exact⟨v,σ',H',I.unwish,r,q⟩
theorem PSs.nox {st:List Stmt}{t:TS}(h:PSs X.nox st t):PSs X st t:=fun pins s σ H D I hw =>
 wpAny_mono (h pins s σ H D (I.wish _) hw) (fun _ _ q=>q.unwish) fun _ _ z=>False.elim z
end
section
variable {X:Cx}{st:Stmt}{rest:List Stmt}{t u:TS}{e:Expr}{te:TE}{pos:Pos}
noncomputable def Zip:TS:=fun D σ H=>D.nx σ H
noncomputable def ZcK (t u:TS):TS:=fun D σ H=>t { D with nx:=u D } σ H
theorem Zq:PSs X [] Zip:=fun _ _ σ H _ I h=>wpAny_execs_nil ⟨σ,H,I,h⟩
theorem Zb (h1:PS X st t)(h2:PSs X rest u):PSs X (st::rest) (ZcK t u):=by
 intro pins s σ H D I h
 refine wpAny_execs_cons (thn (h1 pins s σ H { D with nx:=u D } I h) fun f s1 q=>?_)
 cases f with
 | next =>
  obtain⟨σ',H',I',q⟩:=q
  exact h2 pins s1 σ' H' D I' q
 | ret v=>exact q
 | brk=>exact q
 | cont=>exact q
theorem Zf (h1:PS X st t):PSs X [st] t:=by
 intro pins s σ H D I h
 refine wpAny_execs_cons (thn (h1 pins s σ H D I h) fun f s1 q=>?_)
 cases f with
 | next=>exact wpAny_execs_nil q
 | ret v=>exact q
 | brk=>exact q
 | cont=>exact q
theorem Inv.quiet {pins:List (Addr×Obj)}{σ:St}{H:Hp}{s:Shared}(I:Inv X pins σ H s):interactive X.env=false:=by simp [interactive,I.ok.kind]
noncomputable def Zir (te:TE):TS:=fun D σ H=>te σ H fun _ H1=>D.nx σ H1
theorem Yo (he:PE X e te)(hs:swapsWith e none pos.line X.env=pure false:=by rfl):PS X (.Expr e pos) (Zir te):=by
 intro pins s σ H D I h
 exact wpAny_Expr_any (thn (he pins s σ H _ I h) fun v s1 ⟨x,H1,I1,r1,q1⟩=>⟨σ,H1,I1,q1⟩) I.quiet hs
noncomputable def ZkS (te:TE):TS:=fun D σ H=>te σ H D.rt
theorem Zo (he:PE X e te):PS X (.Return (some e) pos) (ZkS te):=by
 intro pins s σ H D I h
 exact wpAny_Return_some (thn (he pins s σ H _ I h) fun v s1 ⟨x,H1,I1,r1,q1⟩=>⟨x,σ,H1,I1,r1,q1⟩)
noncomputable def Zkd:TS:=fun D _ H=>D.rt .non H
noncomputable def ZkW (c:TT)(t u:TS):TS:=fun D σ H=>c σ H fun b H1=>if b=true then t D σ H1 else u D σ H1
theorem Yc {c:Expr}{a b:List Stmt}{tc:TT}(hc:PT X c tc)(ha:PSs X a t)(hb:PSs X b u):PS X (.If c a b pos) (ZkW tc t u):=by
 intro pins s σ H D I h
 refine wpAny_If (thn (hc pins s σ H _ I h) fun d s1 ⟨H1,I1,q1⟩=>?_)
 cases d with
 | true=>exact ha pins s1 σ H1 D I1 q1
 | false=>exact hb pins s1 σ H1 D I1 q1
noncomputable def ZcN:TS:=fun _ _ _=>False
theorem ZbH:PS X st ZcN:=fun _ _ _ _ _ _ h=>h.elim
theorem Zc3 {sts:List Stmt}:PSs X sts ZcN:=fun _ _ _ _ _ _ h=>h.elim
end
noncomputable abbrev TG:=V->St->Hp->(St->Hp->Prop)->Prop
noncomputable abbrev TGs:=List V->St->Hp->(St->Hp->Prop)->Prop
noncomputable def PG (X : Cx) (target : Expr) (t : TG) : Prop :=
  ∀ (pins : List (Addr × Obj)) (s : Shared) (σ : St) (H : Hp) (v : V) (u : Value) (Q : St -> Hp -> Prop), Inv X pins σ H s -> RelV v u -> t v σ H Q ->
    wpAny (model X.prog X.w) X.A (assign target X.env u) (fun _ s' => ∃ σ' H', Inv X pins σ' H' s' ∧ Q σ' H') X.xe s
noncomputable def PGs (X : Cx) (ts : List Expr) (t : TGs) : Prop :=
  ∀ (pins : List (Addr × Obj)) (s : Shared) (σ : St) (H : Hp) (vs : List V) (us : List Value) (Q : St -> Hp -> Prop), Inv X pins σ H s -> Vals vs us -> t vs σ H Q ->
    wpAny (model X.prog X.w) X.A (assignInOrder ((assignEach ts X.env).map (·.2)) us) (fun _ s' => ∃ σ' H', Inv X pins σ' H' s' ∧ Q σ' H') X.xe s
noncomputable abbrev Zh9:=V->V->V->Hp->(Hp->Prop)->Prop
noncomputable def ZkK (X : Cx) (t : Zh9) : Prop :=
  ∀ (pins : List (Addr × Obj)) (s : Shared) (σ : St) (H : Hp) (o i v : V) (ov iv u : Value) (Q : Hp -> Prop), Inv X pins σ H s -> RelV o ov -> RelV i iv -> RelV v u -> t o i v H Q ->
    wpAny (model X.prog X.w) X.A (setItem ov iv u) (fun _ s' => ∃ H', Inv X pins σ H' s' ∧ Q H') X.xe s
noncomputable abbrev TIp:=V->V->Hp->VK->Prop
noncomputable def PIp (X : Cx) (op : Operator) (t : TIp) : Prop :=
  ∀ (pins : List (Addr × Obj)) (s : Shared) (σ : St) (H : Hp) (x y : V) (v u : Value) (Q : VK), Inv X pins σ H s -> RelV x v -> RelV y u -> t x y H Q ->
    wpAny (model X.prog X.w) X.A (inplaceOp op v u) (EP X pins σ Q) X.xe s
section
variable {X:Cx}{pos:Pos}
noncomputable def Zbe (i:Nat):TG:=fun v σ H Q=>Q (σ.set i (some v)) H
theorem pg_name {i:Nat}{x:Str}(hN:X.N.Nodup)(hi:X.N[i]? = some x)(hx:Loc X.env.scope x)(hf:X.fn x=true\/X.env.scope.names.lookup x=some .local:=by first | exact .inl rfl | exact .inr rfl | assumption):PG X (.Name x pos) (Zbe i):=by
 intro pins s σ H v u Q I r h
 exact wpAny_assign_Name (store_ok I hN hi hx r (fun s' I'=>⟨_,H,I',h⟩) hf)
noncomputable def Zj3:TGs:=fun vs σ H Q=>vs=[]/\Q σ H
noncomputable def ZdK (t:TG)(u:TGs):TGs:=fun vs σ H Q=>∃ v r,vs=v::r/\t v σ H fun σ' H'=>u r σ' H' Q
theorem XB:PGs X [] Zj3:=by
 intro pins s σ H vs us Q I r h
 obtain⟨e,h⟩:=h
 subst e
 cases r
 exact assignInOrder_nil ⟨σ,H,I,h⟩
theorem ZD {e:Expr}{es:List Expr}{t:TG}{u:TGs}(h1:PG X e t)(h2:PGs X es u)
  (hs:(assignEach (e::es) X.env).map (·.2)=assign e X.env::(assignEach es X.env).map (·.2):=by rfl):PGs X (e::es) (ZdK t u):=by
 intro pins s σ H vs us Q I r h
 obtain⟨v,vr,e1,h⟩:=h
 subst e1
 cases r with
 | cons r rr =>
  rw [hs]
  refine assignInOrder_cons (thn (h1 pins s σ H _ _ _ I r h) fun _ s1 ⟨σ1,H1,I1,q1⟩=>?_)
  exact h2 pins s1 σ1 H1 _ _ Q I1 rr q1
noncomputable def Zjg (K:W.Frag)(n:Nat)(t:TGs):TG:=fun v σ H Q=>∃ a xs,v=.ref a/\SqT K H a xs/\xs.length=n/\t xs σ H Q
theorem ZiO {es:List Expr}{k:Nat}{t:TGs}{n:Nat}(hc:X.calm=true)(h:PGs X es t)
  (hn:(assignEach es X.env).length=n:=by rfl) (hst:(assignEach es X.env).findIdx? (·.1)=none:=by rfl):PG X (.Tuple es k pos) (Zjg X.K n t):=by
 intro pins s σ H v u Q I r hw
 obtain⟨a,xs,e1,hq,hl,hw⟩:=hw
 subst e1
 cases r
 obtain⟨its,rv,ht,hz⟩:=I.tuple hq
 refine assign_Tuple_tuple (I.ok.hd hc) ht (by simp [hn,<- hl,rv.length]) hst fun h' hx=>?_
 have I1:Inv X pins σ H { s with heap:=h' }:=I.kept (t':=s.toks) fun b o e=>hx b o (Nat.ne_of_lt (Heap.lt_size e)) e
 exact h pins _ σ H xs _ Q I1 (by simpa using rv) hw
noncomputable def Zk6 (to ti:TE)(t:Zh9):TG:=fun v σ H Q=>to σ H fun o H1=>ti σ H1 fun i H2=>t o i v H2 fun H3=>Q σ H3
theorem Zga {o i:Expr}{to ti:TE}{t:Zh9}(ho:PE X o to)(hi:PE X i ti)(hs:ZkK X t)
  (ha:∀ v,assign (.Subscript o i pos) X.env v=(do
   let ov <- holding [v] (eval o X.env)
   let iv <- holding [v,ov] (eval i X.env)
   standAt pos
   holding [v,ov,iv] (setItem ov iv v)
   release [v,ov,iv] []):=by intro _;rfl):PG X (.Subscript o i pos) (Zk6 to ti t):=by
 intro pins s σ H v u Q I r h
 rw [ha]
 refine wpAny_bind (wpAny_holding (thn (ho pins s σ H _ I h) fun ov s1 ⟨x,H1,I1,r1,q1⟩=>?_))
 refine wpAny_bind (wpAny_holding (thn (hi pins s1 σ H1 _ I1 q1) fun iv s2 ⟨y,H2,I2,r2,q2⟩=>?_))
 refine wpAny_bind (wpAny_standAt (wpAny_bind (wpAny_holding (thn (hs pins s2 σ H2 x y v ov iv u _ I2 r1 r2 r q2) fun _ s3 ⟨H3,I3,q3⟩=>?_))))
 exact wpAny_release ⟨σ,H3,I3,q3⟩
noncomputable def ZjZ (te:TE)(g:TG):TS:=fun D σ H=>te σ H fun x H1=>g x σ H1 D.nx
theorem Zc6 {tg e:Expr}{te:TE}{g:TG}(he:PE X e te)(hg:PG X tg g)(hs:swapsWithSole [tg] e pos.line X.env=pure false:=by rfl)(hw:swappedStores [tg] e X.env=pure none:=by rfl)
  (h1:(assignEach [tg] X.env).map (·.2)=[assign tg X.env]:=by rfl):PS X (.Assign [tg] e pos) (ZjZ te g):=by
 intro pins s σ H D I h
 refine wpAny_Assign_stores (thn (he pins s σ H _ I h) fun v s1 ⟨x,H1,I1,r1,q1⟩=>?_) hs hw
 rw [h1]
 exact thn (hg pins s1 σ H1 x v _ I1 r1 q1) fun _ s2 q=>q
theorem Zn {i:Nat}{x:Str}{e:Expr}{te:TE}{pos':Pos}(hN:X.N.Nodup)(hi:X.N[i]? = some x)(hx:Loc X.env.scope x)(he:PE X e te)(hs:swapsWith e (some (.Name x pos')) pos.line X.env=pure false:=by rfl)(hf:X.fn x=true\/X.env.scope.names.lookup x=some .local:=by first | exact .inl rfl | exact .inr rfl | assumption) :
  PS X (.Assign [.Name x pos'] e pos) (ZjZ te (Zbe i)):=by
 intro pins s σ H D I h
 refine wpAny_Assign_Name (thn (he pins s σ H _ I h) fun v s1 ⟨y,H1,I1,r1,q1⟩=>?_) hs
 exact store_ok I1 hN hi hx r1 (fun s2 I2=>⟨_,H1,I2,q1⟩) hf
noncomputable def Zlf (i:Nat)(te:TE)(ti:TIp):TS:=fun D σ H=>∃ x,σ[i]? = some (some x)/\te σ H fun y H1=>ti x y H1 fun z H2=>D.nx (σ.set i (some z)) H2
noncomputable def tAugS (to ti te:TE)(tget:V->V->Hp->VK->Prop)(tip:TIp)(tset:Zh9):TS:=fun D σ H=>to σ H fun o H1=>ti σ H1 fun i H2=>tget o i H2 fun x H3=>te σ H3 fun y H4=>tip x y H4 fun z H5=>tset o i z H5 fun H6=>D.nx σ H6
noncomputable def ZkL (X : Cx) (t : V -> V -> Hp -> VK -> Prop) : Prop :=
  ∀ (pins : List (Addr × Obj)) (s : Shared) (σ : St) (H : Hp) (o i : V) (ov iv : Value) (Q : VK), Inv X pins σ H s -> RelV o ov -> RelV i iv -> t o i H Q ->
    wpAny (model X.prog X.w) X.A (getItem ov iv) (EP X pins σ Q) X.xe s
theorem Jd {o i e:Expr}{to ti te:TE}{tget:V->V->Hp->VK->Prop}{tip:TIp}{tset:Zh9}{op:Operator}{tpos:Pos}(ho:PE X o to)(hi:PE X i ti)(hg:ZkL X tget)(he:PE X e te)(hp:PIp X op tip)(hs:ZkK X tset)
  (ha:∀ ov iv new,augStore i ov iv new=(do holding [new,ov,iv] (setItem ov iv new);release [new,ov,iv] [];pure .next):=by intros;rfl):PS X (.AugAssign (.Subscript o i tpos) op e pos) (tAugS to ti te tget tip tset):=by
 intro pins s σ H D I h
 refine wpAny_AugAssign_SubscriptAny (thn (ho pins s σ H _ I h) fun ov s1 ⟨x1,H1,I1,r1,q1⟩=>?_) ha
 refine thn (hi pins s1 σ H1 _ I1 q1) fun iv s2 ⟨x2,H2,I2,r2,q2⟩=>?_
 refine thn (hg pins s2 σ H2 x1 x2 ov iv _ I2 r1 r2 q2) fun old s3 ⟨x3,H3,I3,r3,q3⟩=>?_
 refine thn (he pins s3 σ H3 _ I3 q3) fun v s4 ⟨x4,H4,I4,r4,q4⟩=>?_
 refine thn (hp pins s4 σ H4 x3 x4 old v _ I4 r3 r4 q4) fun new s5 ⟨x5,H5,I5,r5,q5⟩=>?_
 exact thn (hs pins s5 σ H5 x1 x2 x5 ov iv new _ I5 r1 r2 r5 q5) fun _ s6 ⟨H6,I6,q6⟩=>⟨σ,H6,I6,q6⟩
end
section
variable {X:Cx}{pos:Pos}
noncomputable def ZfZ (c:TT)(tb:TS):TS:=fun D σ H=>∃ W:Nat->St->Hp->Prop,(∃ m,W m σ H)/\∀ m σ H,W m σ H ->
 c σ H fun b H1=>if b=true then ∃ N:St->Hp->Prop,(∀ σ' H',N σ' H'->∃ m',m' < m/\W m' σ' H')/\tb { D with nx:=N,ct:=N,bk:=D.nx } σ H1 else D.nx σ H1
theorem Jc {c:Expr}{body:List Stmt}{tc:TT}{tb:TS}(hp:PassesOwn (model X.prog X.w) X.A X.env X.xe)(hc:PT X c tc)(hb:PSs X body tb):PS X (.While c body [] pos) (ZfZ tc tb):=by
 intro pins s σ H D I h
 obtain⟨W,⟨m0,w0⟩,turn⟩:=h
 refine wpAny_While (codeAny_whileLoop (fun n s'=>∃ σ' H',Inv X pins σ' H' s'/\W n σ' H') ?_ m0 ⟨σ,H,I,w0⟩)
 rintro n s1 ⟨σ1,H1,I1,w1⟩
 refine wpAny_passesOwn hp (thn (hc pins s1 σ1 H1 _ I1 (turn n σ1 H1 w1)) fun b s2 ⟨H2,I2,q2⟩=>?_)
 cases b with
 | true =>
  obtain⟨N,hN,q2⟩:=q2
  rw [if_pos rfl]
  refine wpAny_passesOwn hp (thn (hb pins s2 σ1 H2 _ I2 q2) fun f s3 q3=>?_)
  cases f with
  | next =>
   obtain⟨σ3,H3,I3,n3⟩:=q3
   obtain⟨m',hm,w3⟩:=hN σ3 H3 n3
   exact⟨m',hm,σ3,H3,I3,w3⟩
  | cont =>
   obtain⟨σ3,H3,I3,n3⟩:=q3
   obtain⟨m',hm,w3⟩:=hN σ3 H3 n3
   exact⟨m',hm,σ3,H3,I3,w3⟩
  | brk=>exact q3
  | ret v=>exact q3
 | false =>
  rw [if_neg Bool.false_ne_true]
  exact wpAny_execs_nil ⟨σ1,H2,I2,q2⟩
end
structure It where
 go:Nat->Hp->Prop
 yld:Nat->Hp->V->Hp->Prop
 stop:Nat->Hp->Prop
noncomputable def Zgr (X:Cx)(pins:List (Addr×Obj))(H:Hp)(b:Addr):Prop :=
 H b=none/\b≠X.env.locals/\b∉X.fs/\(b∈X.ex\/X.s₀.heap.objs.size<=b)/\(∀ x c,X.env.cells.lookup x=some c->c≠b)/\∀ p∈X.pn++pins,p.1≠b
theorem Inv.fpOk {X:Cx}{pins:List (Addr×Obj)}{σ:St}{H H':Hp}{s:Shared}{b:Addr}(I:Inv X pins σ H s)(hb:s.heap.objs.size<=b)(hn:H' b=none):Zgr X pins H' b:=by
 refine⟨hn,Nat.ne_of_gt (Nat.lt_of_lt_of_le I.lt hb),I.nofs hb,.inr (Nat.le_trans I.sz hb),fun x c e z=>?_,fun p hp z=>?_⟩
 ·obtain⟨v,q⟩:=I.cell x c e
  exact absurd (Nat.lt_of_lt_of_le q.lt (by rw [z];exact hb)) (Nat.lt_irrefl _)
 ·exact absurd (Nat.lt_of_lt_of_le (Heap.lt_size (I.pin p hp).1) (by rw [z];exact hb)) (Nat.lt_irrefl _)
structure Zh8 (P:Program)(w:World)(K:W.Frag)(tg:Expr)(J:It)(fp:List Addr)(it:Addr)(tn:Nat->Heap->Prop):Prop where
 mem:it∈fp
 obj:∀ i h,tn i h->∀ b∈fp,∃ o,h.get? b=some o/\∀ v,o.data≠.cell v
 keep:∀ i h h',tn i h->(∀ b∈fp,∀ o,h.get? b=some o->h'.get? b=some o)->tn i h'
 item:∀ (X:Cx),X.prog=P->X.w=w->X.K=K->X.calm=true->∀ (i:Nat) (pins:List (Addr×Obj)) (s:Shared) (σ:St) (H:Hp) (E:Value->Shared->Prop),Inv X pins σ H s->(∀ b∈fp,Zgr X pins H b)->tn i s.heap->J.go i H ->
  wpAny (model P w) X.A (pyNext (.ref it)) (fun r s1=>∃ u,r=some u /\
   wpAny (model P w) X.A (letOwnedTupleGo tg (.ref it) u) (fun _ s2=>∃ x H',Inv X pins σ H' s2/\RelV x u/\J.yld i H x H'/\tn (i+1) s2.heap/\∀ b∈fp,H' b=none) E s1) E s
 done:∀ (X:Cx),X.prog=P->X.w=w->X.K=K->X.calm=true->∀ (i:Nat) (pins:List (Addr×Obj)) (s:Shared) (σ:St) (H:Hp) (E:Value->Shared->Prop),Inv X pins σ H s->(∀ b∈fp,Zgr X pins H b)->tn i s.heap->J.stop i H ->
  wpAny (model P w) X.A (pyNext (.ref it)) (fun r s1=>r=none/\Inv X pins σ H s1) E s
 self:∀ (A:Around) (i:Nat) (s:Shared) (Q:Value->Shared->Prop) (E:Value->Shared->Prop),tn i s.heap->Q (.ref it) s->wpAny (model P w) A (pyIter (.ref it)) Q E s
noncomputable abbrev TI:=St->Hp->(It->Hp->Prop)->Prop
noncomputable def PIE (X:Cx)(pins:List (Addr×Obj))(σ:St)(tg:Expr)(R:It->Hp->Prop)(itv:Value)(s2:Shared):Prop :=
 ∃ (it:Addr) (fp:List Addr) (tn:Nat->Heap->Prop) (J:It) (H':Hp),itv=.ref it/\Inv X pins σ H' s2/\Zh8 X.prog X.w X.K tg J fp it tn/\tn 0 s2.heap/\(∀ b∈fp,Zgr X pins H' b)/\R J H'
noncomputable def PI (X : Cx) (tg iter : Expr) (wi : TI) : Prop :=
  ∀ (pins : List (Addr × Obj)) (s : Shared) (σ : St) (H : Hp) (R : It -> Hp -> Prop), Inv X pins σ H s -> wi σ H R ->
    wpAny (model X.prog X.w) X.A (eval iter X.env) (fun v s1 => wpAny (model X.prog X.w) X.A (pyIter v) (PIE X pins σ tg R) X.xe s1) X.xe s
theorem Zhf {M : Model} {A : Around} {E : Value -> Shared -> Prop} {s : Shared} {tg : Expr} {it : Addr} {u : Value} {o : Obj} {n : String} {vs : Array Value} {Q : Unit -> Shared -> Prop} (ho : s.heap.get? it = some o) (hc : o.cls = .type n) (hd : o.data = .fields vs)
    (hn : ["enumerate", "zip", "dict_itemiterator", "dict_reverseitemiterator", "odict_iterator", "itertools.zip_longest", "itertools.pairwise"].contains n = false) (hQ : Q () s) : wpAny M A (letOwnedTupleGo tg (.ref it) u) Q E s := by
  unfold letOwnedTupleGo
  cases tg <;> first
    | exact wpAny_pure hQ
    | (cases u <;> first
        | exact wpAny_pure hQ
        | (refine wpAny_bind (wpAny_load ho ?_)
           rw [hc, hd]
           show wpAny M A (if (["enumerate", "zip", "dict_itemiterator", "dict_reverseitemiterator", "odict_iterator", "itertools.zip_longest", "itertools.pairwise"].contains n && vs[0]? == some (rawInt _)) = true then _ else _) Q E s
           rw [if_neg (by intro h; rw [hn, Bool.false_and] at h; cases h)]
           exact wpAny_pure hQ))
noncomputable def Itl (K:W.Frag)(a:Addr):It :=
 ⟨fun i H=>∃ xs x,SqL K H a xs/\xs[i]? = some x,fun i H x H'=>H'=H/\∀ xs,SqL K H a xs->xs[i]? = some x,fun i H=>∃ xs,SqL K H a xs/\xs.length<=i⟩
noncomputable def Itt (K:W.Frag)(a:Addr):It :=
 ⟨fun i H=>∃ xs x,SqT K H a xs/\xs[i]? = some x,fun i H x H'=>H'=H/\∀ xs,SqT K H a xs->xs[i]? = some x,fun i H=>∃ xs,SqT K H a xs/\xs.length<=i⟩
noncomputable def Itr (lo:Int)(n:Nat):It:=⟨fun i _=>i<n,fun i H x H'=>H'=H/\x=.int (lo+i),fun i _=>n<=i⟩
theorem ZcE {P:Program}{w:World}{K:W.Frag}{tg:Expr}(a it:Addr):Zh8 P w K tg (Itl K a) [it] it (fun i h=>h.IsListIter it a i) where
 mem:=by simp
 obj:=fun i h st b hb=>by
  have e:b=it:=by simpa using hb
  subst e
  obtain⟨o,e,c,d⟩:=st
  exact⟨o,e,fun v z=>by rw [d] at z;cases z⟩
 keep:=fun i h h' st k=>st.at fun o e=>k it (by simp) o e
 item:=by
  intro X hP hw hK hc i pins s σ H E I hf st hg
  subst hP hw hK
  obtain⟨xs,x,hq,hx⟩:=hg
  obtain⟨its,rv,p,hz⟩:=I.list hq
  obtain⟨u,hu,ru⟩:=rv.get hx
  obtain⟨f0,f1,f2,f3,f4,f5⟩:=hf it (by simp)
  refine wpAny_pyNext_list_item st p.isList (x:=u) (by simpa using hu) fun h' st' sb=>?_
  have I1:Inv X pins σ H { s with heap:=h' }:=I.turned (t':=s.toks) (fun b o hb e=>(sb.2 b hb).trans e) f0 f1 f3 f4 f5
  obtain⟨o,e,c,d⟩:=id st'
  exact⟨u,rfl,Zhf (s:={ s with heap:=h' }) e c d (by decide) ⟨x,H,I1,ru,⟨rfl,fun ys hy=>by rw [I.list_inj hy hq];exact hx⟩,st',fun b hb=>(hf b hb).1⟩⟩
 done:=by
  intro X hP hw hK hc i pins s σ H E I hf st hg
  subst hP hw hK
  obtain⟨xs,hq,hx⟩:=hg
  obtain⟨its,rv,p,hz⟩:=I.list hq
  obtain⟨f0,f1,f2,f3,f4,f5⟩:=hf it (by simp)
  have hl:=rv.length
  exact wpAny_pyNext_list_end (I.ok.hd hc) st p.isList (by simp;omega) fun h' eb=>⟨rfl,I.turned (t':=s.toks) (fun b o hb e=>eb b o hb e) f0 f1 f3 f4 f5⟩
 self:=fun _ _ _ _ _ st h=>wpAny_pyIter_listiter st h
theorem Zb5 {P:Program}{w:World}{K:W.Frag}{tg:Expr}(a it:Addr):Zh8 P w K tg (Itt K a) [it] it (fun i h=>h.IsTupleIter it a i) where
 mem:=by simp
 obj:=fun i h st b hb=>by
  have e:b=it:=by simpa using hb
  subst e
  obtain⟨o,e,c,d⟩:=st
  exact⟨o,e,fun v z=>by rw [d] at z;cases z⟩
 keep:=fun i h h' st k=>st.at fun o e=>k it (by simp) o e
 item:=by
  intro X hP hw hK hc i pins s σ H E I hf st hg
  subst hP hw hK
  obtain⟨xs,x,hq,hx⟩:=hg
  obtain⟨its,rv,p,hz⟩:=I.tuple hq
  obtain⟨u,hu,ru⟩:=rv.get hx
  obtain⟨f0,f1,f2,f3,f4,f5⟩:=hf it (by simp)
  refine wpAny_pyNext_tuple_item st (show s.heap.IsTuple a its.toArray from p) (x:=u) (by simpa using hu) fun h' st' sb=>?_
  have I1:Inv X pins σ H { s with heap:=h' }:=I.turned (t':=s.toks) (fun b o hb e=>(sb.2 b hb).trans e) f0 f1 f3 f4 f5
  obtain⟨o,e,c,d⟩:=id st'
  exact⟨u,rfl,Zhf (s:={ s with heap:=h' }) e c d (by decide) ⟨x,H,I1,ru,⟨rfl,fun ys hy=>by rw [I.tuple_inj hy hq];exact hx⟩,st',fun b hb=>(hf b hb).1⟩⟩
 done:=by
  intro X hP hw hK hc i pins s σ H E I hf st hg
  subst hP hw hK
  obtain⟨xs,hq,hx⟩:=hg
  obtain⟨its,rv,p,hz⟩:=I.tuple hq
  obtain⟨f0,f1,f2,f3,f4,f5⟩:=hf it (by simp)
  have hl:=rv.length
  exact wpAny_pyNext_tuple_end (I.ok.hd hc) st (show s.heap.IsTuple a its.toArray from p) (by simp;omega) fun h' eb=>⟨rfl,I.turned (t':=s.toks) (fun b o hb e=>eb b o hb e) f0 f1 f3 f4 f5⟩
 self:=fun _ _ _ _ _ st h=>wpAny_pyIter_tupleiter st h
theorem Zb6 {P:Program}{w:World}{K:PySem.W.Frag}{tg:Expr}(it:Addr)(lo:Int)(n:Nat):Zh8 P w K tg (Itr lo n) [it] it (fun i h=>IsRangeIter h it (lo+(i:Nat)*1) ((n:Int)-(i:Nat)) 1) where
 mem:=by simp
 obj:=fun i h st b hb=>by
  have e:b=it:=by simpa using hb
  subst e
  exact⟨_,st,fun v z=>by
   have z':Data.fields _=Data.cell v:=z
   cases z'⟩
 keep:=fun i h h' st k=>k it (by simp) _ st
 item:=by
  intro X hP hw hK hc i pins s σ H E I hf st hg
  subst hP hw hK
  obtain⟨f0,f1,f2,f3,f4,f5⟩:=hf it (by simp)
  have W:=Walks.range (prog:=X.prog) (w:=X.w) (I.ok.hd hc) it lo 1 n
  refine W.item i s _ _ hg st fun v h' tk hv st' kk=>?_
  obtain⟨t,rfl⟩:=hv
  have I1:Inv X pins σ H { s with heap:=h',toks:=tk }:=I.turned (fun b o hb e=>kk b o (by simpa using hb) e) f0 f1 f3 f4 f5
  refine⟨_,rfl,Zhf (s:={ s with heap:=h',toks:=tk }) (n := "range_iterator") st' rfl rfl (by decide) ⟨.int (lo+i),H,I1,⟨t,?_⟩,⟨rfl,rfl⟩,st',fun b hb=>(hf b hb).1⟩⟩
  rw [Int.mul_one]
 done:=by
  intro X hP hw hK hc i pins s σ H E I hf st hg
  subst hP hw hK
  obtain⟨f0,f1,f2,f3,f4,f5⟩:=hf it (by simp)
  exact wpAny_pyNext_range_end (I.ok.hd hc) st (by have:n<=i:=hg;omega) fun h' eb=>⟨rfl,I.turned (t':=s.toks) (fun b o hb e=>eb b o hb e) f0 f1 f3 f4 f5⟩
 self:=fun _ _ _ _ _ st h=>wpAny_pyIter_rangeiter st h
section
variable {X:Cx}{tg:Expr}
noncomputable def Zhe (K:W.Frag)(tl:TE):TI:=fun σ H R=>tl σ H fun x H1=>∃ a,x=.ref a/\(∃ xs,SqL K H1 a xs)/\R (Itl K a) H1
noncomputable def Zks (K:W.Frag)(tl:TE):TI:=fun σ H R=>tl σ H fun x H1=>∃ a,x=.ref a/\(∃ xs,SqT K H1 a xs)/\R (Itt K a) H1
theorem ZgS {l:Expr}{tl:TE}(hl:PE X l tl):PI X tg l (Zhe X.K tl):=by
 intro pins s σ H R I h
 refine thn (hl pins s σ H _ I h) fun v s1 ⟨x,H1,I1,r1,q1⟩=>?_
 obtain⟨a,e,⟨xs,hq⟩,q⟩:=q1
 subst e
 cases r1
 obtain⟨its,rv,p,hz⟩:=I1.list hq
 refine wpAny_pyIter_list p.isList ?_
 refine⟨s1.heap.objs.size,[s1.heap.objs.size],_,_,H1,rfl,I1.kept (t':=s1.toks) fun b o e=>Heap.get?_push_of_some _ e,ZcE a _,⟨_,Heap.get?_push_size _ rfl,rfl,rfl⟩,fun b hb=>?_,q⟩
 have e:b=s1.heap.objs.size:=by simpa using hb
 subst e
 exact I1.fpOk (Nat.le_refl _) (I1.hok.fresh (Nat.le_refl _))
theorem ZiL {l:Expr}{tl:TE}(hl:PE X l tl):PI X tg l (Zks X.K tl):=by
 intro pins s σ H R I h
 refine thn (hl pins s σ H _ I h) fun v s1 ⟨x,H1,I1,r1,q1⟩=>?_
 obtain⟨a,e,⟨xs,hq⟩,q⟩:=q1
 subst e
 cases r1
 obtain⟨its,rv,p,hz⟩:=I1.tuple hq
 refine wpAny_pyIter_tuple (show s1.heap.IsTuple a its.toArray from p) ?_
 refine⟨s1.heap.objs.size,[s1.heap.objs.size],_,_,H1,rfl,I1.kept (t':=s1.toks) fun b o e=>Heap.get?_push_of_some _ e,Zb5 a _,⟨_,Heap.get?_push_size _ rfl,rfl,rfl⟩,fun b hb=>?_,q⟩
 have e:b=s1.heap.objs.size:=by simpa using hb
 subst e
 exact I1.fpOk (Nat.le_refl _) (I1.hok.fresh (Nat.le_refl _))
theorem ZbE {pins:List (Addr×Obj)}{σ:St}{H:Hp}{s:Shared}{R:It->Hp->Prop}{E:Value->Shared->Prop}{lo hi:Int}{t u v:Tok}{tk:Nat}(I:Inv X pins σ H s)(h1 : -(2^62)<=lo)(h2:lo<2^62)(h3 : -(2^62)<=hi)(h4:hi<2^62)
  (q:R (Itr lo (hi-lo).toNat) H):wpAny (model X.prog X.w) X.A (pyIter (.ref s.heap.objs.size)) (PIE X pins σ tg R) E { s with heap:=s.heap.push { cls:=.type "range",data:=.fields #[.int lo t,.int hi u,.int 1 v] },toks:=tk }:=by
 refine wpAny_pyIter_range (IsRange.new ..) (small_one h1 h2 h3 h4) ?_
 have I1:Inv X pins σ H { s with heap:=s.heap.push { cls:=.type "range",data:=.fields #[.int lo t,.int hi u,.int 1 v] },toks:=tk }:=I.kept fun b o e=>Heap.get?_push_of_some _ e
 refine⟨(s.heap.push { cls:=.type "range",data:=.fields #[.int lo t,.int hi u,.int 1 v] }).objs.size,[(s.heap.push { cls:=.type "range",data:=.fields #[.int lo t,.int hi u,.int 1 v] }).objs.size],_,_,H,rfl,
  I1.kept (t':=tk) fun b o e=>Heap.get?_push_of_some _ e,Zb6 _ lo (hi-lo).toNat,?_,fun b hb=>?_,q⟩
 ·have e1:lo+((0:Nat):Int)*1=lo:=by simp
  have e2:(((hi-lo).toNat:Nat):Int)-((0:Nat):Int)=Builtin.Range.rangeSize lo hi 1:=by rw [rangeSize_one];split<;>omega
  show IsRangeIter _ _ (lo+((0:Nat):Int)*1) ((((hi-lo).toNat:Nat):Int)-((0:Nat):Int)) 1
  rw [e1,e2]
  exact Heap.get?_push_size _ rfl
 ·have e:b=(s.heap.push { cls:=.type "range",data:=.fields #[.int lo t,.int hi u,.int 1 v] }).objs.size:=by simpa using hb
  subst e
  exact I1.fpOk (Nat.le_refl _) (I1.hok.fresh (Nat.le_refl _))
noncomputable def Zjd (ta:TA):TI:=fun σ H R=>ta σ H fun vs H1=>∃ j:Int,vs=[.int j] /\ -(2^62)<=j/\j<2^62/\R (Itr 0 j.toNat) H1
noncomputable def Zjc (ta:TA):TI:=fun σ H R=>ta σ H fun vs H1=>∃ i j:Int,vs=[.int i,.int j]/\(-(2^62)<=i/\i<2^62 /\ -(2^62)<=j/\j<2^62)/\R (Itr i (j-i).toNat) H1
theorem ZX {a:Expr} {ta:TA} {p pos:Pos} (hg:Gl X "range") (hm:X.mg "range" = none) (ha:PA X [a] ta) (hs:starEach [a] X.env=[(false,eval a X.env)]:=by rfl):PI X tg (.Call (.Name "range" p) [a] [] pos) (Zjd ta):=by
 intro pins s σ H R I h
 refine Call_ (ld_blt I hg hm boot_range (PyProof.Rows.callWith_type1 (thn (ha pos pins s σ H _ I h) fun us s1 ⟨vs,H1,I1,r1,q1⟩=>?_) hs rfl))
 obtain⟨j,e,q1,q2,q⟩:=q1
 subst e
 cases r1 with
 | cons r rr =>
  cases rr
  obtain⟨t,rfl⟩:=r
  exact call_range_1 (ZbE I1 (by omega) (by omega) q1 q2 (by simpa using q))
theorem VF {a b:Expr} {ta:TA} {p pos:Pos} (hg:Gl X "range") (hm:X.mg "range" = none) (ha:PA X [a,b] ta) (hs:starEach [a,b] X.env=[(false,eval a X.env),(false,eval b X.env)]:=by rfl) (hs2:starEach [b] X.env=[(false,eval b X.env)]:=by rfl) :
  PI X tg (.Call (.Name "range" p) [a,b] [] pos) (Zjc ta):=by
 intro pins s σ H R I h
 refine Call_ (ld_blt I hg hm boot_range (PyProof.Rows.callWith_type1 (thn (ha pos pins s σ H _ I h) fun us s1 ⟨vs,H1,I1,r1,q1⟩=>?_) (by rw [hs,hs2]) (by rw [hs2];rfl)))
 obtain⟨i,j,e,⟨q1,q2,q3,q4⟩,q⟩:=q1
 subst e
 cases r1 with
 | cons r rr =>
  cases rr with
  | cons r' rr =>
   cases rr
   obtain⟨t,rfl⟩:=r
   obtain⟨t',rfl⟩:=r'
   exact call_range_2 (ZbE I1 q1 q2 q3 q4 q)
noncomputable def ZkX (wi:TI)(g:TG)(tb:TS):TS:=fun D σ H=>wi σ H fun J H1=>∃ W:Nat->Nat->St->Hp->Prop,(∃ m,W 0 m σ H1)/\∀ i m σ H,W i m σ H ->
 (J.stop i H/\D.nx σ H)\/(J.go i H/\∃ N:St->Hp->Prop,(∀ σ' H',N σ' H'->∃ m',m' < m/\W (i+1) m' σ' H')/\∀ x H',J.yld i H x H'->g x σ H' fun σ2 H2=>tb { D with nx:=N,ct:=N,bk:=D.nx } σ2 H2)
noncomputable def JW (fp:List Addr)(h:Heap):List (Addr×Obj):=fp.filterMap fun b=>(h.get? b).map fun o=>(b,o)
theorem XR {fp:List Addr}{h:Heap}{b:Addr}{o:Obj}(hb:b∈fp)(e:h.get? b=some o):(b,o)∈JW fp h:=List.mem_filterMap.mpr ⟨b,hb,by rw [e];rfl⟩
theorem Zdm {fp:List Addr}{h:Heap}{p:Addr×Obj}(hp:p∈JW fp h):p.1∈fp/\h.get? p.1=some p.2:=by
 obtain⟨b,hb,e⟩:=List.mem_filterMap.mp hp
 cases q:h.get? b with
 | none=>rw [q] at e;cases e
 | some o =>
  rw [q] at e
  have e':(b,o)=p:=Option.some.inj e
  subst e'
  exact⟨hb,q⟩
theorem Inv.pinned {pins:List (Addr×Obj)}{σ:St}{H:Hp}{s:Shared}{fp:List Addr}(I:Inv X pins σ H s)(hf:∀ b∈fp,Zgr X pins H b)(ho:∀ b∈fp,∃ o,s.heap.get? b=some o/\∀ v,o.data≠.cell v):Inv X (pins++JW fp s.heap) σ H s :=
 I.pins_of fun p hp=>(List.mem_append.mp hp).elim (fun z=>I.pin p (List.mem_append_right _ z)) fun z=>by
  obtain⟨hb,e⟩:=Zdm z
  obtain⟨f0,f1,f2,_⟩:=hf p.1 hb
  obtain⟨o,e',d⟩:=ho p.1 hb
  rw [e] at e';cases e'
  exact⟨e,f0,f1,f2,d⟩
theorem Inv.unpinned {pins pl:List (Addr×Obj)}{σ:St}{H:Hp}{s:Shared}(I:Inv X (pins++pl) σ H s):Inv X pins σ H s:=I.pins_of fun p hp=>I.pin p (List.mem_append_right _ (List.mem_append_left _ hp))
theorem Yd {iter:Expr}{body:List Stmt}{wi:TI}{g:TG}{tb:TS}{pos:Pos}(hp:PassesOwn (model X.prog X.w) X.A X.env X.xe)(hc:X.calm=true)(hi:PI X tg iter wi)(hg:PG X tg g)(hb:PSs X body tb)
  (hs:∀ x,foldedSetIterable iter X.env x=pure x:=by intro _;rfl):PS X (.For tg iter body [] pos) (ZkX wi g tb):=by
 intro pins s σ H D I h
 refine wpAny_For (thn (hi pins s σ H _ I h) fun v s1 h1=>thn h1 fun itv s2 h2=>?_) hs
 obtain⟨it,fp,tn,J,H2,e,I2,T,st2,f2,W,⟨m0,w0⟩,turn⟩:=h2
 subst e
 have stat:∀ {H':Hp},(∀ b∈fp,H' b=none)->∀ b∈fp,Zgr X pins H' b:=fun hn b hb=>⟨hn b hb,(f2 b hb).2⟩
 refine codeAny_forLoop_any (fun n s'=>∃ i σ' H',Inv X pins σ' H' s'/\tn i s'.heap/\(∀ b∈fp,H' b=none)/\W i n σ' H') ?_ m0 ⟨0,σ,H2,I2,st2,fun b hb=>(f2 b hb).1,w0⟩
 rintro n s3 ⟨i,σ3,H3,I3,st3,fr3,w3⟩
 rcases turn i n σ3 H3 w3 with ⟨stop,qn⟩ | ⟨go,N,hN,step⟩
 ·refine wpAny_passesOwn hp (thn (T.done X rfl rfl rfl hc i pins s3 σ3 H3 X.xe I3 (stat fr3) st3 stop) fun r s4 ⟨hr,I4⟩=>?_)
  subst hr
  exact wpAny_execs_nil ⟨σ3,H3,I4,qn⟩
 ·refine wpAny_passesOwn hp (thn (T.item X rfl rfl rfl hc i pins s3 σ3 H3 X.xe I3 (stat fr3) st3 go) fun r s4 ⟨u,hr,h4⟩=>?_)
  subst hr
  refine wpAny_passesOwn hp (thn h4 fun _ s5 ⟨x,H5,I5,r5,y5,st5,fr5⟩=>?_)
  have I5':=I5.pinned (stat fr5) (T.obj _ _ st5)
  refine wpAny_passesOwn hp (thn (hg _ s5 σ3 H5 x u _ I5' r5 (step x H5 y5)) fun _ s6 ⟨σ6,H6,I6,q6⟩=>?_)
  refine wpAny_passesOwn hp (thn (hb _ s6 σ6 H6 _ I6 q6) fun f s7 q7=>?_)
  have again:∀ {σ7:St} {H7:Hp},Inv X (pins++JW fp s5.heap) σ7 H7 s7->N σ7 H7->∃ m,m<n/\∃ i σ' H',Inv X pins σ' H' s7/\tn i s7.heap/\(∀ b∈fp,H' b=none)/\W i m σ' H':=fun {σ7 H7} I7 n7=>by
   obtain⟨m',hm,w7⟩:=hN σ7 H7 n7
   refine⟨m',hm,i+1,σ7,H7,I7.unpinned,T.keep _ _ _ st5 fun b hb o e=>(I7.pin (b,o) (List.mem_append_right _ (List.mem_append_right _ (XR hb e)))).1,fun b hb=>?_,w7⟩
   obtain⟨o,e,d⟩:=T.obj _ _ st5 b hb
   exact (I7.pin (b,o) (List.mem_append_right _ (List.mem_append_right _ (XR hb e)))).2.1
  cases f with
  | next=>obtain⟨σ7,H7,I7,n7⟩:=q7;exact again I7 n7
  | cont=>obtain⟨σ7,H7,I7,n7⟩:=q7;exact again I7 n7
  | brk=>obtain⟨σ7,H7,I7,q7⟩:=q7;exact⟨σ7,H7,I7.unpinned,q7⟩
  | ret v=>obtain⟨x7,σ7,H7,I7,r7,q7⟩:=q7;exact⟨x7,σ7,H7,I7.unpinned,r7,q7⟩
end
theorem Zff {K : PySem.W.Frag} {a : Addr} {xs : List V} {g : TG} {tb : TS} {D : WH} {σ : St} {H : Hp} (Pv : Nat -> St -> Hp -> Prop) (h0 : Pv 0 σ H) (hl : ∀ i σ H, i <= xs.length -> Pv i σ H -> SqL K H a xs)
    (hs : ∀ i x σ H, xs[i]? = some x -> Pv i σ H -> g x σ H fun σ2 H2 => tb { D with nx := Pv (i + 1), ct := Pv (i + 1), bk := D.nx } σ2 H2) (hd : ∀ σ H, Pv xs.length σ H -> D.nx σ H) :
    ∃ W : Nat -> Nat -> St -> Hp -> Prop, (∃ m, W 0 m σ H) ∧ ∀ i m σ H, W i m σ H ->
      ((Itl K a).stop i H ∧ D.nx σ H) ∨ ((Itl K a).go i H ∧ ∃ N : St -> Hp -> Prop, (∀ σ' H', N σ' H' -> ∃ m', m' < m ∧ W (i + 1) m' σ' H') ∧ ∀ x H', (Itl K a).yld i H x H' -> g x σ H' fun σ2 H2 => tb { D with nx := N, ct := N, bk := D.nx } σ2 H2) := by
  refine ⟨fun i m σ H => m = xs.length - i ∧ i <= xs.length ∧ Pv i σ H, ⟨xs.length, by simp, Nat.zero_le _, h0⟩, ?_⟩
  rintro i m σ H ⟨rfl, hi, p⟩
  have q := hl i σ H hi p
  by_cases hlt : i < xs.length
  · refine .inr ⟨⟨xs, xs[i], q, by simp [hlt]⟩, Pv (i + 1), fun σ' H' p' => ⟨xs.length - (i + 1), by omega, rfl, hlt, p'⟩, fun x H' y => ?_⟩
    obtain ⟨e, y⟩ := y
    subst e
    exact hs i x σ _ (y xs q) p
  · have e : i = xs.length := by omega
    subst e
    exact .inl ⟨⟨xs, q, Nat.le_refl _⟩, hd σ H p⟩
theorem Zhi {K : PySem.W.Frag} {a : Addr} {xs : List V} {g : TG} {tb : TS} {D : WH} {σ : St} {H : Hp} (Pv : Nat -> St -> Hp -> Prop) (h0 : Pv 0 σ H) (hl : ∀ i σ H, i <= xs.length -> Pv i σ H -> SqT K H a xs)
    (hs : ∀ i x σ H, xs[i]? = some x -> Pv i σ H -> g x σ H fun σ2 H2 => tb { D with nx := Pv (i + 1), ct := Pv (i + 1), bk := D.nx } σ2 H2) (hd : ∀ σ H, Pv xs.length σ H -> D.nx σ H) :
    ∃ W : Nat -> Nat -> St -> Hp -> Prop, (∃ m, W 0 m σ H) ∧ ∀ i m σ H, W i m σ H ->
      ((Itt K a).stop i H ∧ D.nx σ H) ∨ ((Itt K a).go i H ∧ ∃ N : St -> Hp -> Prop, (∀ σ' H', N σ' H' -> ∃ m', m' < m ∧ W (i + 1) m' σ' H') ∧ ∀ x H', (Itt K a).yld i H x H' -> g x σ H' fun σ2 H2 => tb { D with nx := N, ct := N, bk := D.nx } σ2 H2) := by
  refine ⟨fun i m σ H => m = xs.length - i ∧ i <= xs.length ∧ Pv i σ H, ⟨xs.length, by simp, Nat.zero_le _, h0⟩, ?_⟩
  rintro i m σ H ⟨rfl, hi, p⟩
  have q := hl i σ H hi p
  by_cases hlt : i < xs.length
  · refine .inr ⟨⟨xs, xs[i], q, by simp [hlt]⟩, Pv (i + 1), fun σ' H' p' => ⟨xs.length - (i + 1), by omega, rfl, hlt, p'⟩, fun x H' y => ?_⟩
    obtain ⟨e, y⟩ := y
    subst e
    exact hs i x σ _ (y xs q) p
  · have e : i = xs.length := by omega
    subst e
    exact .inl ⟨⟨xs, q, Nat.le_refl _⟩, hd σ H p⟩
theorem ZdL {lo : Int} {n : Nat} {g : TG} {tb : TS} {D : WH} {σ : St} {H : Hp} (Pv : Nat -> St -> Hp -> Prop) (h0 : Pv 0 σ H)
    (hs : ∀ i σ H, i < n -> Pv i σ H -> g (.int (lo + i)) σ H fun σ2 H2 => tb { D with nx := Pv (i + 1), ct := Pv (i + 1), bk := D.nx } σ2 H2) (hd : ∀ σ H, Pv n σ H -> D.nx σ H) :
    ∃ W : Nat -> Nat -> St -> Hp -> Prop, (∃ m, W 0 m σ H) ∧ ∀ i m σ H, W i m σ H ->
      ((Itr lo n).stop i H ∧ D.nx σ H) ∨ ((Itr lo n).go i H ∧ ∃ N : St -> Hp -> Prop, (∀ σ' H', N σ' H' -> ∃ m', m' < m ∧ W (i + 1) m' σ' H') ∧ ∀ x H', (Itr lo n).yld i H x H' -> g x σ H' fun σ2 H2 => tb { D with nx := N, ct := N, bk := D.nx } σ2 H2) := by
  refine ⟨fun i m σ H => m = n - i ∧ i <= n ∧ Pv i σ H, ⟨n, by simp, Nat.zero_le _, h0⟩, ?_⟩
  rintro i m σ H ⟨rfl, hi, p⟩
  by_cases hlt : i < n
  · refine .inr ⟨hlt, Pv (i + 1), fun σ' H' p' => ⟨n - (i + 1), by omega, rfl, hlt, p'⟩, fun x H' y => ?_⟩
    obtain ⟨e, y⟩ := y
    subst e y
    exact hs i σ _ hlt p
  · have e : i = n := by omega
    subst e
    exact .inl ⟨Nat.le_refl _, hd σ H p⟩
noncomputable abbrev R2:=V->V->Hp->VK->Prop
noncomputable def OpR (X : Cx) (f : Value -> Value -> Sem Value) (r : R2) : Prop :=
  ∀ (pins : List (Addr × Obj)) (s : Shared) (σ : St) (H : Hp) (x y : V) (v u : Value) (Q : VK), Inv X pins σ H s -> RelV x v -> RelV y u -> r x y H Q ->
    wpAny (model X.prog X.w) X.A (f v u) (EP X pins σ Q) X.xe s
noncomputable def UnR (X : Cx) (f : Value -> Sem Value) (r : V -> Hp -> VK -> Prop) : Prop :=
  ∀ (pins : List (Addr × Obj)) (s : Shared) (σ : St) (H : Hp) (x : V) (v : Value) (Q : VK), Inv X pins σ H s -> RelV x v -> r x H Q ->
    wpAny (model X.prog X.w) X.A (f v) (EP X pins σ Q) X.xe s
noncomputable def XD (X : Cx) (f : Value) (r : List V -> Hp -> VK -> Prop) : Prop :=
  ∀ (pins : List (Addr × Obj)) (s : Shared) (σ : St) (H : Hp) (xs : List V) (us : List Value) (Q : VK), Inv X pins σ H s -> Vals xs us -> r xs H Q ->
    wpAny (model X.prog X.w) X.A (call f us) (EP X pins σ Q) X.xe s
noncomputable def tOp (r:R2)(ta tb:TE):TE:=fun σ H Q=>ta σ H fun x H1=>tb σ H1 fun y H2=>r x y H2 Q
noncomputable def tUn (r:V->Hp->VK->Prop)(ta:TE):TE:=fun σ H Q=>ta σ H fun x H1=>r x H1 Q
noncomputable def rI (C:Int->Int->Prop)(g:Int->Int->V):R2:=fun x y H Q=>∃ i j,x=.int i/\y=.int j/\C i j/\Q (g i j) H
noncomputable def rI0 (g:Int->Int->V):R2:=fun x y H Q=>∃ i j,x=.int i/\y=.int j/\Q (g i j) H
noncomputable def rU (g:Int->V):V->Hp->VK->Prop:=fun x H Q=>∃ i,x=.int i/\Q (g i) H
section
variable {X:Cx}{a b c:Expr}{ta tb tc:TE}{pos:Pos}
theorem binT (ha:PE X a ta)(hb:PE X b tb){pins:List (Addr×Obj)}{s:Shared}{σ:St}{H:Hp}{R:V->V->Hp->Prop}(I:Inv X pins σ H s)
  (h:ta σ H fun x H1=>tb σ H1 fun y H2=>R x y H2) {Q:Value->Shared->Prop} {f:Value->Value->Sem Value}
  (hf:∀ v u s2 x y H2,Inv X pins σ H2 s2->RelV x v->RelV y u->R x y H2->wpAny (model X.prog X.w) X.A (f v u) Q X.xe s2) :
  wpAny (model X.prog X.w) X.A (eval a X.env) (fun v s₁=>wpAny (model X.prog X.w) X.A (eval b X.env) (fun u s₂=>wpAny (model X.prog X.w) X.A (f v u) Q X.xe s₂) X.xe s₁) X.xe s:=by
 refine thn (ha pins s σ H _ I h) fun v s1 ⟨x,H1,I1,r1,q1⟩=>?_
 refine thn (hb pins s1 σ H1 _ I1 q1) fun u s2 ⟨y,H2,I2,r2,q2⟩=>?_
 exact hf v u s2 x y H2 I2 r1 r2 q2
theorem Zl {op:Operator}{r:R2}(ho:OpR X (binaryOp op) r)(ha:PE X a ta)(hb:PE X b tb):PE X (.BinOp a op b pos) (tOp r ta tb):=by
 intro pins s σ H Q I h
 exact wpAny_BinOp (binT ha hb I h fun v u s2 x y H2 I2 rx ry q=>ho pins s2 σ H2 x y v u Q I2 rx ry q)
theorem VH {op:UnaryOp}{r:V->Hp->VK->Prop}(ho:UnR X (unaryOp op) r)(ha:PE X a ta):PE X (.UnaryOp op a pos) (tUn r ta):=by
 intro pins s σ H Q I h
 exact UnaryOp_ (thn (ha pins s σ H _ I h) fun v s1 ⟨x,H1,I1,r1,q1⟩=>ho pins s1 σ H1 x v Q I1 r1 q1)
theorem opI {f:Value->Value->Sem Value}{C:Int->Int->Prop}{g:Int->Int->Int}
  (rule:∀ (i j:Int) (t u:Tok) (s:Shared) (Q:Value->Shared->Prop) (E:Value->Shared->Prop),C i j->Q (.int (g i j) s.toks) { s with toks:=s.toks+1 }->wpAny (model X.prog X.w) X.A (f (.int i t) (.int j u)) Q E s) :
  OpR X f (rI C fun i j=>.int (g i j)):=by
 intro pins s σ H x y v u Q I rx ry h
 obtain⟨i,j,rfl,rfl,hc,q⟩:=h
 obtain⟨t,rfl⟩:=rx
 obtain⟨t',rfl⟩:=ry
 exact rule i j t t' s _ _ hc ⟨.int (g i j),H,I.tok _,⟨_,rfl⟩,q⟩
theorem Zid {f:Value->Value->Sem Value}{g:Int->Int->Int}
  (rule:∀ (i j:Int) (t u:Tok) (s:Shared) (Q:Value->Shared->Prop) (E:Value->Shared->Prop),Q (.int (g i j) s.toks) { s with toks:=s.toks+1 }->wpAny (model X.prog X.w) X.A (f (.int i t) (.int j u)) Q E s) :
  OpR X f (rI0 fun i j=>.int (g i j)):=by
 intro pins s σ H x y v u Q I rx ry h
 obtain⟨i,j,rfl,rfl,q⟩:=h
 obtain⟨t,rfl⟩:=rx
 obtain⟨t',rfl⟩:=ry
 exact rule i j t t' s _ _ ⟨.int (g i j),H,I.tok _,⟨_,rfl⟩,q⟩
theorem Zj1 {f:Value->Value->Sem Value}{g:Int->Int->Bool}
  (rule:∀ (i j:Int) (t u:Tok) (s:Shared) (Q:Value->Shared->Prop) (E:Value->Shared->Prop),Q (.bool (g i j)) s->wpAny (model X.prog X.w) X.A (f (.int i t) (.int j u)) Q E s) :
  OpR X f (rI0 fun i j=>.bl (g i j)):=by
 intro pins s σ H x y v u Q I rx ry h
 obtain⟨i,j,rfl,rfl,q⟩:=h
 obtain⟨t,rfl⟩:=rx
 obtain⟨t',rfl⟩:=ry
 exact rule i j t t' s _ _ ⟨.bl (g i j),H,I,rfl,q⟩
noncomputable def Zlu (i j:Int):Prop:=0<j/\j<1073741824
noncomputable def ZkP (i j:Int):Prop:=0<=j/\j<=1000000/\i.natAbs<2^64
noncomputable def CMul (i j:Int):Prop:=(-(2^64)<i/\i<2^64)\/(-(2^64)<j/\j<2^64)
theorem CMul.ok {i j:Int}(h:CMul i j):IntMulOk i j:=by
 rcases h with ⟨h1,h2⟩ | ⟨h1,h2⟩
 ·exact .of_left (intBits_le_64 h1 h2)
 ·exact .of_right (intBits_le_64 h1 h2)
theorem Zb4 (k:Nat):(0:Int)<=2^k:=by
 rw [two_pow_cast]
 exact Int.natCast_nonneg _
theorem ZiZ:OpR X (binaryOp .Add) (rI0 fun i j=>.int (i+j)):=Zid fun _ _ _ _ _ _ _ q=>add_int q
theorem ZbI:OpR X (binaryOp .Sub) (rI0 fun i j=>.int (i-j)):=Zid fun _ _ _ _ _ _ _ q=>sub_int q
theorem Xp:OpR X (binaryOp .FloorDiv) (rI Zlu fun i j=>.int (i/j)):=opI fun i j _ _ _ _ _ hc q=>by
 have h1:(0:Int)<j:=hc.1
 have h2:j<1073741824:=hc.2
 exact floordiv_int (by omega) (by rw [Int.fdiv_eq_ediv_of_nonneg i (by omega)];exact q) (.inl (PyProof.noPylong_small (by omega)))
theorem Yg:OpR X (binaryOp .Mod) (rI (fun _ j=>0<j) fun i j=>.int (i%j)):=opI fun i j _ _ _ _ _ hc q=>by
 have h1:(0:Int)<j:=hc
 exact mod_int' (by omega) (by rw [Int.fmod_eq_emod_of_nonneg i (by omega)];exact q)
theorem Xv:OpR X (binaryOp .LShift) (rI ZkP fun i j=>.int (i*2^j.toNat)):=opI fun _ _ _ _ _ _ _ hc q=>lshift_int_small hc.1 hc.2.1 hc.2.2 q
theorem UB:OpR X (binaryOp .RShift) (rI (fun _ j=>0<=j) fun i j=>.int (i/2^j.toNat)):=opI fun i j _ _ _ _ _ hc q =>
 rshift_int hc (by rw [Int.fdiv_eq_ediv_of_nonneg i (Zb4 _)];exact q)
theorem Xj:OpR X (binaryOp .BitAnd) (rI0 fun i j=>.int (Builtin.bitAnd i j)):=Zid fun _ _ _ _ _ _ _ q=>and_int q
theorem Zdk:OpR X (binaryOp .BitOr) (rI0 fun i j=>.int (Builtin.bitOr i j)):=Zid fun _ _ _ _ _ _ _ q=>or_int q
theorem ZdF:OpR X (inplaceOp .BitAnd) (rI0 fun i j=>.int (Builtin.bitAnd i j)):=Zid fun _ _ _ _ _ _ _ q=>iand_int q
theorem Zi9:OpR X (inplaceOp .BitOr) (rI0 fun i j=>.int (Builtin.bitOr i j)):=Zid fun _ _ _ _ _ _ _ q=>ior_int q
theorem unI {f:Value->Sem Value}{g:Int->Int}
  (rule:∀ (i:Int) (t:Tok) (s:Shared) (Q:Value->Shared->Prop) (E:Value->Shared->Prop),Q (.int (g i) s.toks) { s with toks:=s.toks+1 }->wpAny (model X.prog X.w) X.A (f (.int i t)) Q E s) :
  UnR X f (rU fun i=>.int (g i)):=by
 intro pins s σ H x v Q I rx h
 obtain⟨i,rfl,q⟩:=h
 obtain⟨t,rfl⟩:=rx
 exact rule i t s _ _ ⟨.int (g i),H,I.tok _,⟨_,rfl⟩,q⟩
theorem ZcC:UnR X (unaryOp .USub) (rU fun i=>.int (-i)):=unI fun _ _ _ _ _ q=>neg_int q
theorem Vd:UnR X (unaryOp .Invert) (rU fun i=>.int (Builtin.bitNot i)):=unI fun _ _ _ _ _ q=>invert_int q
end
noncomputable def Ziv:V->V->Bool
 | .non,.non=>true | .non,.int _=>true | .int _,.non=>true | .non,.bl _=>true | .bl _,.non=>true | .non,.str _=>true | .str _,.non=>true
 | .int _,.int _=>true | .bl _,.bl _=>true | .str _,.str _=>true | .byt _,.byt _=>true
 | .int _,.str _=>true | .str _,.int _=>true | .bl _,.str _=>true | .str _,.bl _=>true
 | _,_=>false
noncomputable def rEq:R2:=fun x y H Q=>Ziv x y=true/\Q (.bl (decide (x=y))) H
noncomputable def rNe:R2:=fun x y H Q=>Ziv x y=true/\Q (.bl (!decide (x=y))) H
theorem ZdW {i j:Int}:decide (V.int i=V.int j)=(i == j):=by
 rw [Bool.eq_iff_iff]
 simp
theorem Zgp {i j:Bool}:decide (V.bl i=V.bl j)=(i == j):=by
 rw [Bool.eq_iff_iff]
 simp
theorem ZdV {i j:Str}:decide (V.str i=V.str j)=(i == j):=by
 rw [Bool.eq_iff_iff]
 simp
theorem ZdX {i j:Array UInt8}:decide (V.byt i=V.byt j)=(i.toList == j.toList):=by
 rw [Bool.eq_iff_iff]
 cases i
 cases j
 simp
section
variable {X:Cx}{a b c:Expr}{ta tb tc:TE}{pos:Pos}
theorem Zy {pins:List (Addr×Obj)}{σ:St}{H:Hp}{s:Shared}{Q:VK}{k k':Bool}(I:Inv X pins σ H s)(q:Q (.bl k) H)(e:k=k'):EP X pins σ Q (.bool k') s:=by
 subst e
 exact⟨.bl k,H,I,rfl,q⟩
theorem Zkn:OpR X (compareOp .Eq) rEq:=by
 intro pins s σ H x y v u Q I rx ry h
 obtain⟨hs,q⟩:=h
 cases x with
 | non =>
  cases rx
  cases y with
  | non=>cases ry;exact PySem.EqNone.eq_none_none (Zy I q (by simp))
  | bl j=>cases ry;exact PySem.EqNone.eq_none_bool (Zy I q (by simp))
  | int j=>obtain⟨t',rfl⟩:=ry;exact PySem.EqNone.eq_none_int (Zy I q (by simp))
  | str j=>obtain⟨t',rfl⟩:=ry;exact PySem.EqNone.eq_none_str (Zy I q (by simp))
  | _=>exact absurd (show false=true from hs) Bool.false_ne_true
 | bl i =>
  cases rx
  cases y with
  | non=>cases ry;exact PySem.EqNone.eq_bool_none (Zy I q (by simp))
  | bl j=>cases ry;exact eq_bool (Zy I q Zgp)
  | str j=>obtain⟨t',rfl⟩:=ry;exact PySem.EqMixed.eq_bool_str (Zy I q (by simp))
  | _=>exact absurd (show false=true from hs) Bool.false_ne_true
 | int i =>
  obtain⟨t,rfl⟩:=rx
  cases y with
  | non=>cases ry;exact PySem.EqNone.eq_int_none (Zy I q (by simp))
  | int j=>obtain⟨t',rfl⟩:=ry;exact eq_int (Zy I q ZdW)
  | str j=>obtain⟨t',rfl⟩:=ry;exact PySem.EqMixed.eq_int_str (Zy I q (by simp))
  | _=>exact absurd (show false=true from hs) Bool.false_ne_true
 | str i =>
  obtain⟨t,rfl⟩:=rx
  cases y with
  | non=>cases ry;exact PySem.EqNone.eq_str_none (Zy I q (by simp))
  | bl j=>cases ry;exact PySem.EqMixed.eq_str_bool (Zy I q (by simp))
  | int j=>obtain⟨t',rfl⟩:=ry;exact PySem.EqMixed.eq_str_int (Zy I q (by simp))
  | str j=>obtain⟨t',rfl⟩:=ry;exact eq_str (Zy I q ZdV)
  | _=>exact absurd (show false=true from hs) Bool.false_ne_true
 | byt i =>
  obtain⟨t,rfl⟩:=rx
  cases y with
  | byt j=>obtain⟨t',rfl⟩:=ry;exact W.eq_bytes (Zy I q ZdX)
  | _=>exact absurd (show false=true from hs) Bool.false_ne_true
 | _=>cases y<;>exact absurd (show false=true from hs) Bool.false_ne_true
theorem Zkl:OpR X (compareOp .NotEq) rNe:=by
 intro pins s σ H x y v u Q I rx ry h
 obtain⟨hs,q⟩:=h
 cases x with
 | non =>
  cases rx
  cases y with
  | non=>cases ry;exact PySem.EqNone.ne_none_none (Zy I q (by simp))
  | bl j=>cases ry;exact PySem.EqNone.ne_none_bool (Zy I q (by simp))
  | int j=>obtain⟨t',rfl⟩:=ry;exact PySem.EqNone.ne_none_int (Zy I q (by simp))
  | str j=>obtain⟨t',rfl⟩:=ry;exact PySem.EqNone.ne_none_str (Zy I q (by simp))
  | _=>exact absurd (show false=true from hs) Bool.false_ne_true
 | bl i =>
  cases rx
  cases y with
  | non=>cases ry;exact PySem.EqNone.ne_bool_none (Zy I q (by simp))
  | bl j=>cases ry;exact ne_bool (Zy I q (congrArg not Zgp))
  | str j=>obtain⟨t',rfl⟩:=ry;exact PySem.EqMixed.ne_bool_str (Zy I q (by simp))
  | _=>exact absurd (show false=true from hs) Bool.false_ne_true
 | int i =>
  obtain⟨t,rfl⟩:=rx
  cases y with
  | non=>cases ry;exact PySem.EqNone.ne_int_none (Zy I q (by simp))
  | int j=>obtain⟨t',rfl⟩:=ry;exact ne_int (Zy I q (congrArg not ZdW))
  | str j=>obtain⟨t',rfl⟩:=ry;exact PySem.EqMixed.ne_int_str (Zy I q (by simp))
  | _=>exact absurd (show false=true from hs) Bool.false_ne_true
 | str i =>
  obtain⟨t,rfl⟩:=rx
  cases y with
  | non=>cases ry;exact PySem.EqNone.ne_str_none (Zy I q (by simp))
  | bl j=>cases ry;exact PySem.EqMixed.ne_str_bool (Zy I q (by simp))
  | int j=>obtain⟨t',rfl⟩:=ry;exact PySem.EqMixed.ne_str_int (Zy I q (by simp))
  | str j=>obtain⟨t',rfl⟩:=ry;exact ne_str (Zy I q (congrArg not ZdV))
  | _=>exact absurd (show false=true from hs) Bool.false_ne_true
 | byt i =>
  obtain⟨t,rfl⟩:=rx
  cases y with
  | byt j=>obtain⟨t',rfl⟩:=ry;exact W.ne_bytes (Zy I q (congrArg not ZdX))
  | _=>exact absurd (show false=true from hs) Bool.false_ne_true
 | _=>cases y<;>exact absurd (show false=true from hs) Bool.false_ne_true
theorem ZeK:OpR X (compareOp .Lt) (rI0 fun i j=>.bl (decide (i<j))):=Zj1 fun _ _ _ _ _ _ _ q=>lt_int q
theorem Zkm:OpR X (compareOp .LtE) (rI0 fun i j=>.bl (decide (i<=j))):=Zj1 fun _ _ _ _ _ _ _ q=>le_int q
theorem Za6:OpR X (compareOp .Gt) (rI0 fun i j=>.bl (decide (j<i))):=Zj1 fun _ _ _ _ _ _ _ q=>gt_int q
theorem ZgZ:OpR X (compareOp .GtE) (rI0 fun i j=>.bl (decide (j<=i))):=Zj1 fun _ _ _ _ _ _ _ q=>ge_int q
theorem ZiW:OpR X (compareOp .Is) (fun x y H Q=>y=.non/\Q (.bl (decide (x=.non))) H):=by
 intro pins s σ H x y v u Q I rx ry h
 obtain⟨rfl,q⟩:=h
 cases ry
 refine is_none_gen (Zy I q ?_)
 cases x<;>first
  | (cases rx;rfl)
  | (obtain⟨t,rfl⟩:=rx;rfl)
theorem ZgX:OpR X (compareOp .IsNot) (fun x y H Q=>y=.non/\Q (.bl (!decide (x=.non))) H):=by
 intro pins s σ H x y v u Q I rx ry h
 obtain⟨rfl,q⟩:=h
 cases ry
 refine isnot_none_gen (Zy I q ?_)
 cases x<;>first
  | (cases rx;rfl)
  | (obtain⟨t,rfl⟩:=rx;rfl)
theorem OpR.or {f:Value->Value->Sem Value}{r r':R2}(h:OpR X f r)(h':OpR X f r'):OpR X f (fun x y H Q=>r x y H Q\/r' x y H Q):=by
 intro pins s σ H x y v u Q I rx ry q
 rcases q with q | q
 ·exact h pins s σ H x y v u Q I rx ry q
 ·exact h' pins s σ H x y v u Q I rx ry q
theorem Zt (b:Expr){op:CmpOp}(h:op≠.In:=by decide)(h2:op≠.NotIn:=by decide):behindInMarks op b=false:=by
 have e1:(op == CmpOp.In)=false:=by cases op<;>first | rfl | exact absurd rfl h
 have e2:(op == CmpOp.NotIn)=false:=by cases op<;>first | rfl | exact absurd rfl h2
 cases b<;>simp [behindInMarks,e1,e2]
theorem Xd {op:CmpOp}{r:R2}(ho:OpR X (compareOp op) r)(ha:PE X a ta)(hb:PE X b tb)(hm:behindInMarks op b=false):PE X (.Compare a [op] [b] pos) (tOp r ta tb):=by
 intro pins s σ H Q I h
 exact wpAny_Compare1 (binT ha hb I h fun v u s2 x y H2 I2 rx ry q=>ho pins s2 σ H2 x y v u Q I2 rx ry q) hm
noncomputable def Zik (t:TE):TT:=fun σ H Q=>t σ H fun x H'=>∃ k,x=.bl k/\Q k H'
theorem Zs {op:CmpOp}{r:R2}(ho:OpR X (compareOp op) r)(ha:PE X a ta)(hb:PE X b tb)(hm:behindInMarks op b=false):PT X (.Compare a [op] [b] pos) (Zik (tOp r ta tb)):=by
 intro pins s σ H Q I h
 refine wpAny_isTrue_Compare1 (thn (ha pins s σ H _ I h) fun v s1 ⟨x,H1,I1,r1,q1⟩=>thn (hb pins s1 σ H1 _ I1 q1) fun u s2 ⟨y,H2,I2,r2,q2⟩ =>
  thn (ho pins s2 σ H2 x y v u _ I2 r1 r2 q2) fun c s3 ⟨z,H3,I3,r3,k,e,q3⟩=>?_) hm
 subst e
 cases r3
 exact wpAny_truthy_bool ⟨H3,I3,q3⟩
theorem Zan:(sizeLine:Nat)<2^63:=by rw [sizeLine_eq];decide
theorem WI {x:V}{us:List Value}(r:Vals [x] us):∃ u,us=[u]/\RelV x u:=by
 cases r with
 | cons r1 r2=>cases r2;exact⟨_,rfl,r1⟩
theorem Zb2 {x y:V}{us:List Value}(r:Vals [x,y] us):∃ u w',us=[u,w']/\RelV x u/\RelV y w':=by
 cases r with
 | cons r1 r2 =>
  cases r2 with
  | cons r3 r4=>cases r4;exact⟨_,_,rfl,r1,r3⟩
theorem ZaE (hc:X.calm=true):XD X (.builtin "min") (fun xs H Q=>∃ i j,xs=[.int i,.int j]/\Q (.int (if j<i then j else i)) H):=by
 intro pins s σ H xs us Q I r h
 obtain⟨i,j,rfl,q⟩:=h
 obtain⟨u,w',rfl,⟨t,rfl⟩,⟨t',rfl⟩⟩:=Zb2 r
 refine min_two_ints (I.ok.hd hc) fun h' tk k=>⟨_,H,I.kept k,?_,q⟩
 by_cases hj:j<i
 ·rw [if_pos hj,if_pos hj];exact⟨_,rfl⟩
 ·rw [if_neg hj,if_neg hj];exact⟨_,rfl⟩
theorem Zd2:XD X (.type "int") (fun xs H Q=>(∃ i,xs=[.int i]/\Q (.int i) H)\/∃ k,xs=[.bl k]/\Q (.int (if k then 1 else 0)) H):=by
 intro pins s σ H xs us Q I r h
 rcases h with ⟨i,rfl,q⟩ | ⟨k,rfl,q⟩
 ·obtain⟨u,rfl,t,rfl⟩:=WI r
  exact call_int_int ⟨.int i,H,I,⟨_,rfl⟩,q⟩
 ·obtain⟨u,rfl,r1⟩:=WI r
  cases r1
  exact call_int_bool ⟨.int (if k then 1 else 0),H,I.tok _,⟨_,rfl⟩,q⟩
end
structure ObjM (h:Heap)(x dx C:Addr)(mA:Str->Option Value):Prop where
 obj:h.get? x=some (W.instObj C dx)
 ns:h.Ns1 dx mA
 ne:dx≠x
theorem Zam {h:Heap}{dx:Addr}{mA:Str->Option Value}(n:h.Ns1 dx mA):∃ od,h.get? dx=some od/\∀ name,W.lookIn name od=some (mA name):=by
 obtain⟨o,es,ep,ho,hd,hk,_,hm⟩:=n
 refine⟨o,ho,fun name=>?_⟩
 have e:=hm name
 unfold nsFind findBy at e
 rw [<- Array.find?_toList] at e
 unfold W.lookIn
 rw [hd]
 dsimp only
 split
 ·rename_i y q
  rw [q] at e
  exact congrArg some e
 ·rename_i q
  rw [q] at e
  have a:es.toList.any (·.refKey)=false:=by
   rw [List.any_eq_false]
   intro y hy
   obtain⟨z,t,hkey⟩:=hk y (Array.mem_toList_iff.mp hy)
   simp [DictEntry.refKey,hkey]
  have a':¬ es.toList.any (·.refKey)=true:=by rw [a];exact Bool.false_ne_true
  rw [if_neg a']
  exact congrArg some e
theorem ObjM.look {h:Heap}{x dx C:Addr}{mA:Str->Option Value}(I:ObjM h x dx C mA):∃ od,W.InstAt h x (W.instObj C dx) C (some od)/\∀ name,W.lookIn name od=some (mA name) :=
 let ⟨od,ho,hl⟩:=Zam I.ns
 ⟨od,⟨I.obj,rfl,rfl,ho⟩,hl⟩
section
variable {prog:Program}{w:World}{A:Around}{E:Value->Shared->Prop}{s:Shared}{K:W.Frag}{x dx C f:Addr}{mA:Str->Option Value}{name:Str}{v:Value}
end
theorem RelO.some_of {v:V}{o:Option Value}(r:RelO (some v) o):∃ u,o=some u/\RelV v u:=by
 cases o with
 | none=>exact (show False from r).elim
 | some u=>exact⟨u,rfl,r⟩
section
variable {P:Program}{w:World}{H H':Hp}{h h':Heap}{a C dx:Addr}{fs fs':List (Str×V)}
theorem Zhd (hok:HOk P w H h)(e:H a=some (.ins C dx fs)):∃ mA,ObjM h a dx C mA/\(∀ f,RelO (fs.lookup f) (mA f))/\PySem.Within mA (fs.map (·.1))/\fs.length<=1000/\H dx=some (.own a):=by
 obtain⟨d,z,ne,ob,mA,n,r,q⟩:=(show ObjOk P w H h a (.ins C dx fs) from hok a _ e)
 exact⟨mA,⟨ob,n,ne⟩,r,q,z,d⟩
end
structure Cls (K:W.Frag)(C:Addr):Prop where
 pg:W.plainGet K C Str.empty=true
 hd:W.hasDictIn K C=true
 po:W.plainOver K C=true
 sa:W.findIn K (.ref C) "__setattr__" = some (some (.builtin "object.__setattr__"))
theorem Cls.get {K:W.Frag}{C:Addr}(c:Cls K C)(f:Str):W.plainGet K C f=true:=c.pg
section
variable {X:Cx}{pins:List (Addr×Obj)}{σ:St}{H:Hp}{s:Shared}{a C dx:Addr}{fs:List (Str×V)}{f:Str}{v:V}{A:Around}{E:Value->Shared->Prop}
theorem attr_of {prog:Program}{w:World}{env:Env}{e:Expr}{f:Str}{pos:Pos}{s:Shared}{Q:Value->Shared->Prop}(hb:attributeBase e f env (eval e env)=eval e env)
  (h:wpAny (model prog w) A (eval e env) (fun o s₁=>wpAny (model prog w) A (getAttr o f true) Q E s₁) E s):wpAny (model prog w) A (eval (.Attribute e f pos) env) Q E s :=
 Attribute_any_ h (by rw [arm_eval_Attribute,hb])
end
section
variable {X:Cx}{o e value:Expr}{f:Str}{pos pos' tpos:Pos}{ta tv:TE}
end
section
variable {X:Cx}{pins:List (Addr×Obj)}{σ:St}{H:Hp}{s:Shared}{A:Around}{E:Value->Shared->Prop}{Q:Value->Shared->Prop}{c:Value}{b:Bool}
inductive Zbt (K:W.Frag) (H:Hp):V->Value->Prop where
 | non:Zbt K H .non (.type "NoneType")
 | bl (x:Bool):Zbt K H (.bl x) (.type "bool")
 | int (i:Int):Zbt K H (.int i) (.type "int")
 | str (x:Str):Zbt K H (.str x) (.type "str")
 | flt (x:UInt64):Zbt K H (.flt x) (.type "float")
 | lst {a:Addr} {xs:List V} (e:H a=some (.lst xs)):Zbt K H (.ref a) (.type "list")
 | frz {a:Addr} {o:Obj} {xs:List V} (e:H a=some (.frz o (.lst xs))):Zbt K H (.ref a) (.type "list")
 | tup {a:Addr} {xs:List V} (e:H a=some (.tup xs)):Zbt K H (.ref a) (.type "tuple")
 | dK {a:Addr} {kvs:List (Key×V)} (e:H a=some (.dK kvs)):Zbt K H (.ref a) (.type "dict")
 | dT {a:Addr} {kvs:List (List Key×V)} (e:H a=some (.dT kvs)):Zbt K H (.ref a) (.type "dict")
 | ins {a C dx:Addr} {fs:List (Str×V)} (e:H a=some (.ins C dx fs)) (cl:Cls K C) (ha:W.findIn K (.ref C) "__class__" = some (some (.builtin "object.__class__")))
   (hn:W.specialIn K (.builtin "object.__class__") "__get__" = some (some (.builtin "getset_descriptor.__get__"))) (htk:W.takesIn K (.builtin "object.__class__")=some true)
   (hm:W.mroIn K C (.type "object")=some true):Zbt K H (.ref a) (.ref C)
theorem ZdE {x:V}{u t:Value}(I:Inv X pins σ H s)(rx:RelV x u)(ty:Zbt X.K H x t)(e:W.kitOne X.K t c=some b)(h:∀ tk,Q (.bool b) { s with toks:=tk }) :
  wpAny (model X.prog X.w) A (call (.builtin "isinstance") [u,c]) Q E s:=by
 cases ty with
 | non=>cases (show u=Value.none from rx);exact W.kia_one W.kitx_none I.kIn True.intro e (fun z=>nomatch z) h
 | bl y=>cases (show u=Value.bool y from rx);exact W.kia_one W.kitx_bool I.kIn True.intro e (fun z=>nomatch z) h
 | int i=>obtain⟨t,q⟩:=(show ∃ t,u=Value.int i t from rx);cases q;exact W.kia_one W.kitx_int I.kIn True.intro e (fun z=>nomatch z) h
 | str y=>obtain⟨t,q⟩:=(show ∃ t,u=Value.str y t from rx);cases q;exact W.kia_one W.kitx_str I.kIn True.intro e (fun z=>nomatch z) h
 | flt y=>obtain⟨t,q⟩:=(show ∃ t,u=Value.float y t from rx);cases q;exact W.kia_one W.kitx_float I.kIn True.intro e (fun z=>nomatch z) h
 | @lst a xs ea =>
  cases (show u=Value.ref a from rx)
  obtain⟨_,_,n,_,h1⟩:=(show ObjOk X.prog X.w H s.heap a (.lst xs) from I.hok a _ ea)
  exact W.kia_one W.kitx_list I.kIn ⟨_,h1,rfl⟩ e (fun z=>nomatch z) h
 | @frz a ob xs ea =>
  cases (show u=Value.ref a from rx)
  obtain⟨_,_,_,n,_,h1⟩:=(show ObjOk X.prog X.w H s.heap a (.frz ob (.lst xs)) from I.hok a _ ea)
  exact W.kia_one W.kitx_list I.kIn ⟨_,h1,rfl⟩ e (fun z=>nomatch z) h
 | @tup a xs ea =>
  cases (show u=Value.ref a from rx)
  obtain⟨_,_,_,p⟩:=(show ObjOk X.prog X.w H s.heap a (.tup xs) from I.hok a _ ea)
  obtain⟨o,h1,h2,_⟩:=p
  exact W.kia_one W.kitx_tuple I.kIn ⟨o,h1,h2⟩ e (fun z=>nomatch z) h
 | @dK a kvs ea =>
  cases (show u=Value.ref a from rx)
  obtain⟨_,_,vs,_,p⟩:=(show ObjOk X.prog X.w H s.heap a (.dK kvs) from I.hok a _ ea)
  obtain⟨o,es,ep,h1,h2,_⟩:=p
  exact W.kia_one W.kitx_dict I.kIn ⟨o,h1,h2.1⟩ e (fun z=>nomatch z) h
 | @dT a kvs ea =>
  cases (show u=Value.ref a from rx)
  obtain⟨_,_,xs,_,o,es,ep,h1,h2,_⟩:=(show ObjOk X.prog X.w H s.heap a (.dT kvs) from I.hok a _ ea)
  exact W.kia_one W.kitx_dict I.kIn ⟨o,h1,h2.1⟩ e (fun z=>nomatch z) h
 | @ins a C dx fs ea cl ha hn htk hm =>
  cases (show u=Value.ref a from rx)
  obtain⟨mA,O,_⟩:=Zhd I.hok ea
  obtain⟨od,J,_⟩:=O.look
  exact W.kia_one (W.kitx_own (cl.get _) cl.hd ha hn htk hm) I.kIn J e (fun z=>nomatch z) h
end
structure Room (k:Nat)(A:Around):Prop where
 hd:A.handled=none
 dp:A.depth+3*k+5<recursionLimit
 un:A.units+16*k+200<cLine
 gd:A.guards=some []
theorem Room.mono {j k:Nat}{A:Around}(r:Room k A)(h:j<=k):Room j A:=⟨r.hd,by have:=r.dp;omega,by have:=r.un;omega,r.gd⟩
theorem Room.m {j k:Nat}{A:Around}(r:Room k A)(h:j<=k:=by decide):Room j A:=r.mono h
theorem Room.deeper {k:Nat}{A:Around}(r:Room (k+1) A)(env:Env):Room k (A.deeper env) :=
 ⟨r.hd,by have:=r.dp;show A.depth+1+3*k+5<_;omega,by have:=r.un;show A.units+3+16*k+200<_;omega,r.gd⟩
theorem Room.in1 {k:Nat}{A:Around}(r:Room (k+1) A):Room k A.in1 :=
 ⟨r.hd,by have:=r.dp;show A.depth+3*k+5<_;omega,by have:=r.un;show A.units+1+16*k+200<_;omega,r.gd⟩
theorem Zcf {A:Around} {C:Addr} {us:List Value} {kw:List (Str×Value)}:(A.under (.builtin "type.__call__" ⟨.ref C::us,kw⟩)).depth=A.depth+1:=by
 first | rfl | simp [Around.under,Code.weight,Code.isCreation,Code.isGuard,Code.isCaller,Code.frames,Code.isFrame,guardIds]
theorem Zce {A:Around} {C:Addr} {us:List Value} {kw:List (Str×Value)}:(A.under (.builtin "type.__call__" ⟨.ref C::us,kw⟩)).units=A.units+1:=by
 first | rfl | simp [Around.under,Code.cUnits,Code.frames,Code.isFrame]
theorem Room.make {k:Nat} {A:Around} (r:Room (k+1) A) (C:Addr) (us:List Value) (kw:List (Str×Value)):Room k (A.under (.builtin "type.__call__" ⟨.ref C::us,kw⟩)) :=
 ⟨r.hd,by have:=r.dp;rw [Zcf];omega,by have:=r.un;rw [Zce];omega,(by simp [Around.under,Code.guards,Code.isGuard,guardIds,pushGuards,r.gd])⟩
theorem Room.depth {k:Nat}{A:Around}(r:Room k A):A.depth<recursionLimit:=by have:=r.dp;omega
theorem Room.units {k:Nat}{A:Around}(r:Room k A):A.units+64<cLine:=by have:=r.un;omega
noncomputable def ZkU:TA:=fun _ H Q=>Q [] H
noncomputable def Zit (ta:TE)(tr:TA):TA:=fun σ H Q=>ta σ H fun x H1=>tr σ H1 fun xs H2=>Q (x::xs) H2
section
variable {X:Cx}{e:Expr}{es:List Expr}{te:TE}{t:TA}{pos:Pos}
theorem Zc:PA X [] ZkU:=fun _ _ _ _ H Q I h=>Calls.spliced_nil ⟨[],H,I,.nil,h⟩
theorem Za (ha:PE X e te)(hr:PA X es t)(hs:starEach (e::es) X.env=(false,eval e X.env)::starEach es X.env:=by rfl):PA X (e::es) (Zit te t):=by
 intro pos pins s σ H Q I h
 rw [hs]
 show wpAny _ _ (spliced ((false,eval e X.env)::backTo pos (starEach es X.env))) _ _ s
 refine Calls.spliced_cons (thn (ha pins s σ H _ I h) fun u s1 ⟨x,H1,I1,r1,q1⟩=>?_)
 exact thn (hr pos pins s1 σ H1 _ I1 q1) fun us s2 ⟨xs,H2,I2,r2,q2⟩=>⟨x::xs,H2,I2,.cons r1 r2,q2⟩
noncomputable def ZkR (t:TA):TE:=fun σ H Q=>t σ H fun xs H1=>xs.length<=sizeLine/\∀ p,H1 p=none->Q (.ref p) (upd H1 p (.tup xs))
noncomputable def ZkV (t:TA):TE:=fun σ H Q=>t σ H fun xs H1=>xs.length<=sizeLine/\∀ p,H1 p=none->Q (.ref p) (upd H1 p (.lst xs))
theorem Xu {x1}(h:PA X es t):PE X (.Tuple es x1 pos) (ZkR t):=by
 intro pins s σ H Q I hq
 refine wpAny_Tuple_spliced (thn (h pos pins s σ H _ I hq) fun us s1 ⟨xs,H1,I1,r,z,q⟩=>⟨by rw [<- r.length];exact z,?_⟩)
 have hf:H1 s1.heap.objs.size=none:=I1.hok.fresh (Nat.le_refl _)
 refine⟨.ref s1.heap.objs.size,upd H1 s1.heap.objs.size (.tup xs),I1.laid (t':=s1.toks) (fun b u e=>Heap.get?_push_of_some _ e) (Nat.le_refl _) ?_,rfl,q _ hf⟩
 exact⟨z,us,r,⟨_,Heap.get?_push_size _ rfl,rfl,_,rfl⟩⟩
theorem Wu (h:PA X es t):PE X (.List es pos) (ZkV t):=by
 intro pins s σ H Q I hq
 refine wpAny_List_spliced (thn (h pos pins s σ H _ I hq) fun us s1 ⟨xs,H1,I1,r,z,q⟩=>⟨by rw [<- r.length];exact z,?_⟩)
 have hf:H1 s1.heap.objs.size=none:=I1.hok.fresh (Nat.le_refl _)
 refine⟨.ref s1.heap.objs.size,upd H1 s1.heap.objs.size (.lst xs),I1.laid (t':=s1.toks) (fun b u e=>Heap.get?_push_of_some _ e) (Nat.le_refl _) ?_,rfl,q _ hf⟩
 exact⟨z,us,0,r,Heap.get?_push_size _ rfl⟩
end
noncomputable abbrev Sp:=List V->Hp->VK->XK->Prop
noncomputable abbrev CXT:=List Env->Hp->Shared->XK->Value->Shared->Prop
structure Env0 (P:Program)(w:World)(K:W.Frag)(mg:Str->Option Value)(base:Heap)(A:Around)(outer:List Env)(s:Shared)(H:Hp):Prop where
 frames:A.frames=some outer
 mod:Mod K mg base
 bs:∀ b o,base.get? b=some o->s.heap.get? b=some o/\H b=none
 bsz:base.objs.size<=s.heap.objs.size
 funs:s.heap.FunFrames base outer
 frf:∀ b∈frs outer,H b=none
 hok:HOk P w H s.heap
 bare:AllBare s.gens
noncomputable def CE (outer:List Env)(P:Program)(w:World)(H:Hp)(s:Shared)(Q:VK)(u:Value)(s':Shared):Prop :=
 ∃ v H',s'.os=s.os/\AllBare s'.gens/\Un (frs outer) [] H H' s.heap s'.heap/\HOk P w H' s'.heap/\RelV v u/\Q v H'
noncomputable def CR (CX:CXT)(outer:List Env)(P:Program)(w:World)(H:Hp)(s:Shared)(Q:VK)(E:XK)(r:Result)(s':Shared):Prop :=
 match r with
 | .ok (.ret u)=>CE outer P w H s Q u s'
 | .ok _=>False
 | .error e=>CX outer H s E e s'
structure FnOk (P:Program)(w:World)(K:W.Frag)(mg:Str->Option Value)(base:Heap)(CX:CXT)(k:Nat)(f:Addr)(fd:FuncData)(ps:List Str)(sp:Sp):Prop where
 len:∀ vs H Q E,sp vs H Q E->vs.length=ps.length
 run:∀ (A:Around) (outer:List Env) (s:Shared) (H:Hp) (args:Args) (us:List Value) (vs:List V) (Q:VK) (E:XK),Room k A->Env0 P w K mg base A outer s H->BindsTo s fd args (ps.zip us)->Vals vs us->sp vs H Q E ->
  codeAny (model P w) A (.call (.ref f) args) (CR CX outer P w H s Q E) s
theorem FnOk.imp {P:Program}{w:World}{K:W.Frag}{mg:Str->Option Value}{base:Heap}{CX:CXT}{k:Nat}{f:Addr}{fd:FuncData}{ps:List Str}{sp sp':Sp}(F:FnOk P w K mg base CX k f fd ps sp)
  (h:∀ vs H Q E,sp' vs H Q E->sp vs H Q E):FnOk P w K mg base CX k f fd ps sp' :=
 ⟨fun vs H Q E q=>F.len vs H Q E (h _ _ _ _ q),fun A outer s H args us vs Q E hr he hb hv hs=>F.run A outer s H args us vs Q E hr he hb hv (h _ _ _ _ hs)⟩
theorem Env0.make {P:Program}{w:World}{K:W.Frag}{mg:Str->Option Value}{base:Heap}{A:Around}{outer:List Env}{s:Shared}{H:Hp}(e:Env0 P w K mg base A outer s H)(C:Addr)(us:List Value)(kw:List (Str×Value)) :
  Env0 P w K mg base (A.under (.builtin "type.__call__" ⟨.ref C::us,kw⟩)) outer s H:=⟨by first | exact e.frames | (simpa [Around.under,Code.envs,Code.isFrame,pushEnvs] using e.frames),e.mod,e.bs,e.bsz,e.funs,e.frf,e.hok,e.bare⟩
section
variable {X:Cx}{pins:List (Addr×Obj)}{σ:St}{H:Hp}{s s':Shared}
theorem Inv.env0 (I:Inv X pins σ H s):Env0 X.prog X.w X.K X.mg X.base X.A X.stack s H :=
 ⟨I.ok.frames,I.ok.mod,I.bs,Nat.le_trans I.ok.bsz I.sz,I.stack,I.stkFree,I.hok,I.bare⟩
theorem Inv.after {Q:VK}{u:Value}(I:Inv X pins σ H s)(h:CE X.stack X.prog X.w H s Q u s'):EP X pins σ Q u s':=by
 obtain⟨v,H',os,bare,un,hok,r,q⟩:=h
 obtain⟨hh,g,d,t,os'⟩:=s'
 obtain rfl:os'=s.os:=os
 exact⟨v,H',I.call (h':=hh) (g':=g) (d':=d) (t':=t) (ch:=[]) un hok bare (fun b z=>absurd z (by simp)),r,q⟩
end
noncomputable def ZaU (sp:Sp)(dvs:List V)(E:XK)(t:TA):TE:=fun σ H Q=>t σ H fun vs H1=>sp (vs++dvs) H1 Q E
noncomputable def Binds (K:W.Frag)(fd:FuncData)(ps:List Str)(ds:List Value):Prop :=
 ∀ (s:Shared) (us:List Value),K.In s.heap->(us++ds).length=ps.length->BindsTo s fd ⟨us,[]⟩ (ps.zip (us++ds))
theorem Binds.all {K:W.Frag}{fd:FuncData}{ps:List Str}(h:∀ us:List Value,us.length=ps.length->bindArgs fd ⟨us,[]⟩=pure (ps.zip us)):Binds K fd ps []:=fun s us _ hl=>by
 rw [List.append_nil] at hl ⊢
 exact .of_eq (h us hl)
noncomputable def ZbZ (CX:CXT)(X:Cx)(E:XK):Prop:=∀ (pins:List (Addr×Obj)) (σ:St) (H:Hp) (s:Shared) (e:Value) (s':Shared),Inv X pins σ H s->CX X.stack H s E e s'->X.xe e s'
section
variable {X:Cx}{CX:CXT}{k:Nat}{f C:Addr}{fd:FuncData}{ps:List Str}{sp:Sp}{dvs:List V}{ds:List Value}{E:XK}{x m:Str}{p pos apos:Pos}{e o:Expr}{es:List Expr}{ta:TE}{t:TA}
theorem Ziy {pins:List (Addr×Obj)}{σ:St}{H:Hp}{s:Shared}{Q:VK}{us:List Value}{vs:List V}(F:FnOk X.prog X.w X.K X.mg X.base CX k f fd ps sp)(hr:Room k X.A)(hb:Binds X.K fd ps ds)(hd:Vals dvs ds)(hx:ZbZ CX X E)
  (I:Inv X pins σ H s) (r:Vals vs us) (h:sp (vs++dvs) H Q E):wpAny (model X.prog X.w) X.A (call (.ref f) us) (EP X pins σ Q) X.xe s:=by
 have r2:Vals (vs++dvs) (us++ds):=r.append hd
 have hl:(us++ds).length=ps.length:=by rw [<- r2.length];exact F.len _ _ _ _ h
 refine wpAny_call (codeAny_mono (F.run X.A X.stack s H ⟨us,[]⟩ (us++ds) (vs++dvs) Q E hr I.env0 (hb s us I.kIn hl) r2 h) fun r s' hq=>?_)
 cases r with
 | error e=>exact hx pins σ H s e s' I hq
 | ok fl =>
  cases fl with
  | ret u=>exact I.after hq
  | next=>exact False.elim hq
  | brk=>exact False.elim hq
  | cont=>exact False.elim hq
theorem Zdh (F:FnOk X.prog X.w X.K X.mg X.base CX k f fd ps sp)(hr:Room k X.A)(hg:Gl X x)(hm:X.mg x=some (.ref f))(hk:W.keepIn X.K (.ref f)=true)(hb:Binds X.K fd ps ds)(hd:Vals dvs ds)(hx:ZbZ CX X E)
  (ha:PA X (e::es) t) (hdb:(x == ("__debug__" : Str))=false:=by decide) (he:starEach (e::es) X.env=(false,eval e X.env)::starEach es X.env:=by rfl) (hpl:(backTo pos (starEach es X.env)).any (·.1)=false:=by rfl) :
  PE X (.Call (.Name x p) (e::es) [] pos) (ZaU sp dvs E t):=by
 intro pins s σ H Q I h
 refine wpAny_Call_Name_kw (ld_glob I hg hm ?_ hdb)
 refine W.callWith_K (h₀:=X.base) I.ok.mod.kin hk (thn (ha pos pins s σ H _ I h) fun us s1 ⟨vs,H1,I1,r,q⟩=>⟨I1.kIn,?_⟩) he hpl
 exact Ziy F hr hb hd hx I1 r q
end
section
variable {X:Cx}{CX:CXT}{k:Nat}{f C:Addr}{fd:FuncData}{ps ks:List Str}{sp:Sp}{E:XK}{x m:Str}{p pos apos kpos:Pos}{e o:Expr}{es:List Expr}{kws:List Keyword}{te ta:TE}{t tk:TA}{nm:Option Str}
variable {g:List Value->List Value->List Value}{gV:List V->List V->List V}
end
structure Zm (N P:List Str)(sc:Scope):Prop where
 kind:sc.kind=.function
 co:sc.isCoroutine=false
 gen:sc.isGenerator=false
 nd:N.Nodup
 pre:N.take P.length=P
 par:∀ x∈P,sc.names.lookup x=some .local\/sc.names.lookup x=some .cell
 nofree:∀ y∈sc.names,y.2≠.free
theorem fsc {N P:List Str}{sc:Scope}(a:sc.kind=.function:=by rfl)(b:sc.isCoroutine=false:=by rfl)(c:sc.isGenerator=false:=by rfl)(d:N.Nodup:=by decide +kernel)(e:N.take P.length=P:=by rfl)(f:∀ x∈P,sc.names.lookup x=some .local\/sc.names.lookup x=some .cell:=by decide +kernel)(g:∀ y∈sc.names,y.2≠.free:=by decide +kernel):Zm N P sc:=⟨a,b,c,d,e,f,g⟩
theorem ZaI {kindOf:Str->Option NameKind}{x:Str}:∀ {binds:List (Str×Value)} {m:Str->Option Value},(∀ v,(x,v)∉binds)->bindL kindOf binds m x=m x
 | [],_,_=>rfl
 | (n,v)::r,m,h=>by
  unfold bindL
  rw [ZaI fun w hw=>h w (List.mem_cons_of_mem _ hw)]
  split
  ·have:x≠n:=by rintro rfl;exact h v List.mem_cons_self
   simp [this]
  ·rfl
theorem ZaK {kindOf:Str->Option NameKind}{x:Str}:∀ {binds:List (Str×Value)} {m:Str->Option Value},(∀ v,(x,v)∉binds)->bindC kindOf binds m x=m x
 | [],_,_=>rfl
 | (n,v)::r,m,h=>by
  unfold bindC
  rw [ZaK fun w hw=>h w (List.mem_cons_of_mem _ hw)]
  split
  ·rfl
  ·have:x≠n:=by rintro rfl;exact h v List.mem_cons_self
   simp [this]
theorem ZaJ {kindOf:Str->Option NameKind}{x:Str}{v:Value}:∀ {P:List Str} {vs:List Value} {i:Nat} {m:Str->Option Value},P.Nodup->P[i]? = some x->vs[i]? = some v->kindOf x=some .local ->
  bindL kindOf (P.zip vs) m x=some v
 | [],_,_,_,_,h,_,_=>by simp at h
 | _::_,[],_,_,_,_,h,_=>by simp at h
 | p::P,w::vs,0,m,nd,h1,h2,hk=>by
  simp at h1 h2;subst h1;subst h2
  show bindL kindOf ((p,w)::P.zip vs) m p=_
  unfold bindL
  rw [ZaI fun v hv=>(List.nodup_cons.mp nd).1 (List.of_mem_zip hv).1,if_pos hk]
  simp
 | p::P,w::vs,i+1,m,nd,h1,h2,hk=>by
  show bindL kindOf ((p,w)::P.zip vs) m x=_
  unfold bindL
  exact ZaJ (i:=i) (List.nodup_cons.mp nd).2 (by simpa using h1) (by simpa using h2) hk
theorem ZaL {kindOf:Str->Option NameKind}{x:Str}{v:Value}:∀ {P:List Str} {vs:List Value} {i:Nat} {m:Str->Option Value},P.Nodup->P[i]? = some x->vs[i]? = some v->kindOf x≠some .local ->
  bindC kindOf (P.zip vs) m x=some v
 | [],_,_,_,_,h,_,_=>by simp at h
 | _::_,[],_,_,_,_,h,_=>by simp at h
 | p::P,w::vs,0,m,nd,h1,h2,hk=>by
  simp at h1 h2;subst h1;subst h2
  show bindC kindOf ((p,w)::P.zip vs) m p=_
  unfold bindC
  rw [ZaK fun v hv=>(List.nodup_cons.mp nd).1 (List.of_mem_zip hv).1,if_neg hk]
  simp
 | p::P,w::vs,i+1,m,nd,h1,h2,hk=>by
  show bindC kindOf ((p,w)::P.zip vs) m x=_
  unfold bindC
  exact ZaL (i:=i) (List.nodup_cons.mp nd).2 (by simpa using h1) (by simpa using h2) hk
noncomputable def start (N:List Str)(vs:List V):St:=vs.map some++List.replicate (N.length-vs.length) none
noncomputable def Zeq (CX:CXT)(P:Program)(w:World)(K:W.Frag)(mg:Str->Option Value)(base:Heap)(N:List Str)(qual:Str)(scope:Scope)(f:Addr)(cd:Value)(A:Around)(outer:List Env)(s:Shared)(H:Hp)(E:XK):Cx where
 prog:=P
 w:=w
 K:=K
 mg:=mg
 base:=base
 A:=A.deeper (envOfC qual scope s.heap.objs.size f cd)
 N:=N
 s₀:=s
 H₀:=H
 env:=envOfC qual scope s.heap.objs.size f cd
 outer:=outer
 stack:=envOfC qual scope s.heap.objs.size f cd::outer
 ex:=[]
 calm:=true
 fn:=fun _=>true
 pn:=[]
 xe:=fun e s'=>wpAny (model P w) (A.deeper (envOfC qual scope s.heap.objs.size f cd)) (leaving (envOfC qual scope s.heap.objs.size f cd) e) (fun _ s''=>CX outer H s E e s'') (fun e' s''=>CX outer H s E e' s'') s'
theorem ZbT {sc:Scope}{n:Nat}{x:Str}(h:sc.names.lookup x=some .cell):∃ c,(cellsFrom n sc.names []).lookup x=some c:=by
 have q:=W.cellsFrom_some sc.names n [] (.inl h)
 exact Option.isSome_iff_exists.mp q
theorem ZdG {CX:CXT}{P:Program}{w:World}{K:W.Frag}{mg:Str->Option Value}{base:Heap}{N ps:List Str}{qual:Str}{scope:Scope}{f:Addr}{cd:Value}{A:Around}{outer:List Env}{s s1:Shared}{H:Hp}{E:XK}{us:List Value}{vs:List V}
  (S:Zm N ps scope) (hd:A.handled=none) (e0:Env0 P w K mg base A outer s H) (hl:vs.length=ps.length) (r:Vals vs us)
  (x:InCallC s s.heap.objs.size (bindL (envOfC qual scope s.heap.objs.size f cd).kindOf (ps.zip us) fun _=>none) (cellsFrom (s.heap.objs.size+1) scope.names []) (bindC (envOfC qual scope s.heap.objs.size f cd).kindOf (ps.zip us) fun _=>none) s1) :
  Inv (Zeq CX P w K mg base N qual scope f cd A outer s H E) [] (start N vs) H s1:=by
 have hpl:ps.length<=N.length:=by have:=congrArg List.length S.pre;rw [List.length_take] at this;omega
 obtain⟨h1,tk,rfl,hk⟩:=x.done
 have noA:∀ b:Addr,b∉(Zeq CX P w K mg base N qual scope f cd A outer s H E).ex:=fun b z=>absurd (show b∈([]:List Addr) from z) (by simp)
 refine⟨⟨e0.mod,S.kind,rfl,rfl,Nat.le_refl _,fun y z c h1 h2=>?_,fun y hy=>?_,fun y c _ h=>?_,fun _=>hd,Around.frames_deeper e0.frames,.inr ⟨rfl,rfl⟩,fun b z=>absurd z (noA b),e0.bs,e0.bsz,fun b _ _=>noA b,fun b z=>absurd z (noA b),e0.funs,e0.frf⟩,
  rfl,e0.bare,Un.kept hk,⟨_,x.toInCall.ns,fun i y v h1 h2 h3=>?_⟩,fun y c h=>⟨_,x.cell y c h⟩,e0.hok.fresh (Nat.le_refl _),fun y c h=>?_,fun p hp=>absurd (show p∈([]:List (Addr×Obj)) from hp) (by simp),e0.hok.kept hk,?_⟩
 ·exact name_of_addr x.apart (PySem.mem_of_lookup h1) (PySem.mem_of_lookup h2)
 ·have hy:scope.names.lookup y=some .cell\/scope.names.lookup y=some .free:=hy
  rcases hy with hy | hy
  ·exact ZbT hy
  ·exact absurd rfl (S.nofree _ (PySem.mem_of_lookup hy))
 ·exact Nat.le_of_lt (x.above y c (PySem.mem_of_lookup h))
 ·have hi:i<vs.length:=by
   unfold start at h2
   by_cases hi:i<vs.length
   ·exact hi
   ·rw [List.getElem?_append_right (by simpa using hi)] at h2
    rw [List.getElem?_replicate] at h2
    split at h2<;>cases h2
  have ha:vs[i]? = some v:=by
   unfold start at h2
   rw [List.getElem?_append_left (by simpa using hi),List.getElem?_map] at h2
   cases e:vs[i]? with
   | none=>rw [e] at h2;cases h2
   | some a=>rw [e] at h2;cases h2;rfl
  obtain⟨u,hu,rv⟩:=r.get ha
  have hp:ps[i]? = some y:=by
   rw [<- S.pre,List.getElem?_take_of_lt (by omega)];exact h1
  have ndP:ps.Nodup:=by rw [<- S.pre];exact S.nd.sublist (List.take_sublist _ _)
  refine⟨u,rv,?_⟩
  rcases S.par y (List.mem_of_getElem? hp) with k | k
  ·exact .inl ⟨k,ZaJ ndP hp hu k⟩
  ·obtain⟨c,e⟩:=ZbT (n:=s.heap.objs.size+1) k
   refine .inr ⟨.inl k,c,e,?_⟩
   have q:=x.cell y c e
   rw [ZaL ndP hp hu (by show scope.names.lookup y≠_;rw [k];decide)] at q
   exact q
 ·exact e0.hok.fresh (Nat.le_of_lt (x.above y c (PySem.mem_of_lookup h)))
 ·unfold start
  show _=N.length
  rw [List.length_append,List.length_map,List.length_replicate]
  omega
theorem Zhj {CX:CXT}{P:Program}{w:World}{K:W.Frag}{mg:Str->Option Value}{base:Heap}{k:Nat}{f:Addr}{name qual:Str}{params:Arguments}{body:List Stmt}{scope:Scope}{dV kV doc pm cdv ct oc:Value}{an od:Option Addr}
  {osl:Array (Option Value)} {N ps:List Str} {sp:Sp} (lk:K.lookup f=some ⟨oc,od,.func (W.fnOf name qual params body scope dV kV doc pm an cdv ct),osl⟩) (hcd:W.codeIn K cdv qual=true) (S:Zm N ps scope)
  (len:∀ vs H Q E,sp vs H Q E->vs.length=ps.length)
  (hbody:∀ (A:Around) (outer:List Env) (s:Shared) (H:Hp) (vs:List V) (Q:VK) (E:XK),Room k (A.deeper (envOfC qual scope s.heap.objs.size f cdv))->sp vs H Q E ->
   ∃ t,PSs (Zeq CX P w K mg base N qual scope f cdv A outer s H E) body t/\t { nx:=fun _ H'=>Q .non H',rt:=Q } (start N vs) H) :
  FnOk P w K mg base CX (k+1) f (W.fnOf name qual params body scope dV kV doc pm an cdv ct) ps sp:=by
 refine⟨len,fun A outer s H args us vs Q E hr e0 hb r hsp=>?_⟩
 have hl:=len _ _ _ _ hsp
 have KX:K.In s.heap:=e0.mod.kin.keeps fun b o e=>(e0.bs b o e).1
 have lim:s.heap.NoLimit:=e0.mod.nolimit.keeps fun b o e=>(e0.bs b o e).1
 have hkind:∀ y∈ps.zip us,scope.names.lookup y.1=some .local\/(scope.names.lookup y.1=some .cell/\((cellsFrom (s.heap.objs.size+1) scope.names []).lookup y.1).isSome=true):=fun ⟨n,v⟩ hy=>by
  rcases S.par n (List.of_mem_zip hy).1 with q | q
  ·exact .inl q
  ·exact .inr ⟨q,W.cellsFrom_some _ _ _ (.inl q)⟩
 refine codeAny_call_function hr.depth (KX _ _ lk) rfl S.co S.gen rfl (W.codeRec_of KX hcd) (hb _ _ _ _ ?_)
 refine wpAny_newFunctionEnv_cells S.kind hkind fun env he s1 x=>?_
 subst he
 refine⟨lim.keeps x.toInCall.keep,codeAny_func ?_⟩
 obtain⟨t,ht,hq⟩:=hbody A outer s H vs Q E (hr.deeper _) hsp
 have I:Inv (Zeq CX P w K mg base N qual scope f cdv A outer s H E) [] (start N vs) H s1:=ZdG S hr.hd e0 hl r x
 refine wpAny_mono (ht [] s1 (start N vs) H _ I hq) (fun fl s' hs=>?_) fun e s' hs=>hs
 have fin:∀ {σ':St} {H':Hp} {v:V} {u:Value},Inv (Zeq CX P w K mg base N qual scope f cdv A outer s H E) [] σ' H' s'->RelV v u->Q v H'->CE outer P w H s Q u s' :=
  fun {σ' H' v u} J rv q=>⟨v,H',J.os,J.bare,J.base,J.hok,rv,q⟩
 cases fl with
 | ret u =>
  obtain⟨v,σ',H',J,rv,q⟩:=hs
  exact fin J rv q
 | next =>
  obtain⟨σ',H',J,q⟩:=hs
  exact fin (v:=V.non) (u:=Value.none) J rfl q
 | brk =>
  obtain⟨_,_,_,q⟩:=hs
  exact False.elim q
 | cont =>
  obtain⟨_,_,_,q⟩:=hs
  exact False.elim q
section
variable {X:Cx}{x:Str}{p pos:Pos}{e:Expr}{es:List Expr}{t:TA}{id T:String}{r:List V->Hp->VK->Prop}
noncomputable def tCB (r:List V->Hp->VK->Prop)(t:TA):TE:=fun σ H Q=>t σ H fun vs H1=>r vs H1 Q
theorem Zk (hc:XD X (.builtin id) r) (hg:Gl X x) (hm:X.mg x=none) (hv:bootBuiltins x=some (.builtin id)) (ha:PA X (e::es) t) (hn:x ≠ "__name__" := by decide) (hdb:(x == ("__debug__" : Str))=false:=by decide)
  (he:starEach (e::es) X.env=(false,eval e X.env)::starEach es X.env:=by rfl) (hpl:(backTo pos (starEach es X.env)).any (·.1)=false:=by rfl):PE X (.Call (.Name x p) (e::es) [] pos) (tCB r t):=by
 intro pins s σ H Q I h
 refine wpAny_Call_Name_kw (ld_blt I hg hm hv ?_ hn hdb)
 exact PyProof.Rows.callWith_builtin1 (thn (ha pos pins s σ H _ I h) fun us s1 ⟨vs,H1,I1,r1,q1⟩=>hc pins s1 σ H1 vs us Q I1 r1 q1) he hpl
theorem YR (hc:XD X (.type T) r) (hg:Gl X x) (hm:X.mg x=none) (hv:bootBuiltins x=some (.type T)) (ha:PA X (e::es) t) (hn:x ≠ "__name__" := by decide) (hdb:(x == ("__debug__" : Str))=false:=by decide)
  (he:starEach (e::es) X.env=(false,eval e X.env)::starEach es X.env:=by rfl) (hpl:(backTo pos (starEach es X.env)).any (·.1)=false:=by rfl):PE X (.Call (.Name x p) (e::es) [] pos) (tCB r t):=by
 intro pins s σ H Q I h
 refine wpAny_Call_Name_kw (ld_blt I hg hm hv ?_ hn hdb)
 exact PyProof.Rows.callWith_type1 (thn (ha pos pins s σ H _ I h) fun us s1 ⟨vs,H1,I1,r1,q1⟩=>hc pins s1 σ H1 vs us Q I1 r1 q1) he hpl
end
end L2
namespace HT
open PySem PyProof.Rows
section
open PySem.SeqAt
open PySem.AutoSeq1 (wpAny_loadPart')
open PySem.MeetsSeq PySem.MeetsSeq2 PySem.MeetsSeq3
end
section
variable {prog:Program}{w:World}{A:Around}{E:Value->Shared->Prop}{s:Shared}
noncomputable def sIx (n d:Nat):Option Int->Nat
 | none=>d
 | some v=>if v<0 then (v+(n:Int)).toNat else min v.toNat n
end
end HT
namespace L2
open PySem PySem.Spec PyProof.Rows
noncomputable abbrev TO:=St->Hp->(Option Int->Hp->Prop)->Prop
noncomputable def PO (X : Cx) (e : Option Expr) (t : TO) : Prop :=
  ∀ (pins : List (Addr × Obj)) (s : Shared) (σ : St) (H : Hp) (Q : Option Int -> Hp -> Prop), Inv X pins σ H s -> t σ H Q ->
    wpAny (model X.prog X.w) X.A (evalPart e X.env) (fun u s' => ∃ o H', Inv X pins σ H' s' ∧ IsPart u o ∧ Q o H') X.xe s
noncomputable def ZgB:TO:=fun _ H Q=>Q none H
noncomputable def Zin (t:TE):TO:=fun σ H Q=>t σ H fun x H1=>∃ i,x=.int i/\Q (some i) H1
section
variable {X:Cx}{e:Expr}{te:TE}{lo hi:Option Expr}{tl th:TO}{pos p2:Pos}
theorem Zda (h:PE X e te):PO X (some e) (Zin te):=by
 intro pins s σ H Q I hw
 rw [evalPart_some]
 refine thn (h pins s σ H _ I hw) fun u s1 ⟨x,H1,I1,r1,q1⟩=>?_
 obtain⟨i,rfl,q⟩:=q1
 obtain⟨t,rfl⟩:=r1
 exact⟨some i,H1,I1,.int i t,q⟩
noncomputable def SlR (X : Cx) (r : V -> Option Int -> Option Int -> Hp -> VK -> Prop) : Prop :=
  ∀ (pins : List (Addr × Obj)) (s : Shared) (σ : St) (H : Hp) (x : V) (v vl vu : Value) (lo hi : Option Int) (sl : Addr) (Q : VK), Inv X pins σ H s -> RelV x v -> s.heap.IsSliceOf sl vl vu .none -> IsPart vl lo -> IsPart vu hi -> r x lo hi H Q ->
    ∃ T id, typeLookup (.type T) "__getitem__" = pure (some (.builtin id)) ∧ s.TypeIs v T ∧ wpAny (model X.prog X.w) X.A (getItem v (.ref sl)) (EP X pins σ Q) X.xe s
noncomputable def tSl (r:V->Option Int->Option Int->Hp->VK->Prop)(te:TE)(tl th:TO):TE:=fun σ H Q=>te σ H fun x H1=>tl σ H1 fun l H2=>th σ H2 fun u H3=>r x l u H3 Q
theorem ZeG {r:V->Option Int->Option Int->Hp->VK->Prop}(hr:SlR X r)(he:PE X e te)(hl:PO X lo tl)(hu:PO X hi th):PE X (.Subscript e (.Slice lo hi none p2) pos) (tSl r te tl th):=by
 intro pins s σ H Q I h
 refine Subscript_ (thn (he pins s σ H _ I h) fun v s1 ⟨x,H1,I1,r1,q1⟩=>?_)
 refine wpAny_Slice (thn (hl pins s1 σ H1 _ I1 q1) fun vl s2 ⟨l,H2,I2,pl,q2⟩=>thn (hu pins s2 σ H2 _ I2 q2) fun vu s3 ⟨u,H3,I3,pu,q3⟩=>?_)
 rw [evalPart_none]
 refine wpAny_pure ?_
 have I4:Inv X pins σ H3 { s3 with heap:=s3.heap.push { cls:=.type "slice",data:=.fields #[vl,vu,.none] } }:=I3.kept (t':=s3.toks) fun b ob q=>Heap.get?_push_of_some _ q
 obtain⟨T,id,hT,ht,hg⟩:=hr pins { s3 with heap:=s3.heap.push { cls:=.type "slice",data:=.fields #[vl,vu,.none] } } σ H3 x v vl vu l u s3.heap.objs.size Q I4 r1 (Heap.IsSliceOf.new ..) pl pu q3
 show wpAny (model X.prog X.w) X.A (subscriptTail e (.Slice lo hi none p2) v (.ref s3.heap.objs.size)) (EP X pins σ Q) X.xe { s3 with heap:=s3.heap.push { cls:=.type "slice",data:=.fields #[vl,vu,.none] } }
 exact tail_any (ops:=[.ref s3.heap.objs.size,v]) ht hT hg (by with_unfolding_all rfl)
noncomputable def Zho (xs:List V)(lo hi:Option Int):List V:=(xs.drop (HT.sIx xs.length 0 lo)).take (HT.sIx xs.length xs.length hi-HT.sIx xs.length 0 lo)
theorem Zbp (xs:List V)(lo hi:Option Int):(Zho xs lo hi).length<=xs.length:=by
 unfold Zho
 rw [List.length_take,List.length_drop]
 omega
end
noncomputable def ixN (n:Nat)(i:Int):Option Nat:=if 0<=i then (if i<n then some i.toNat else none) else if -(n:Int)<=i then some (i+n).toNat else none
noncomputable def atI {α:Type}(xs:List α)(i:Int):Option α:=(ixN xs.length i).bind fun j=>xs[j]?
theorem ZdD {n:Nat}{i:Int}{j:Nat}(h:ixN n i=some j):seqIndex? i n=some j/\j<n /\ -(n:Int)<=i/\i<n:=by
 unfold ixN at h
 by_cases h0:0<=i
 ·rw [if_pos h0] at h
  by_cases h1:i<n
  ·rw [if_pos h1] at h
   have e:i.toNat=j:=Option.some.inj h
   exact⟨by rw [seqIndex_of h0 h1,e],by omega,by omega,h1⟩
  ·rw [if_neg h1] at h;cases h
 ·rw [if_neg h0] at h
  by_cases h1 : -(n:Int)<=i
  ·rw [if_pos h1] at h
   have e:(i+n).toNat=j:=Option.some.inj h
   exact⟨by rw [seqIndex_neg (by omega) h1,e],by omega,h1,by omega⟩
  ·rw [if_neg h1] at h;cases h
theorem Zbs {α:Type}{xs:List α}{i:Int}{v:α}(h:atI xs i=some v):∃ j,seqIndex? i xs.length=some j/\xs[j]? = some v/\j<xs.length /\ -(xs.length:Int)<=i/\i<xs.length:=by
 unfold atI at h
 cases e:ixN xs.length i with
 | none=>rw [e] at h;cases h
 | some j =>
  rw [e] at h
  obtain⟨h1,h2,h3,h4⟩:=ZdD e
  exact⟨j,h1,h,h2,h3,h4⟩
theorem WX {α:Type}{xs:List α}{j:Nat}{v:α}(h:xs[j]? = some v):atI xs (j:Int)=some v:=by
 have hj:j<xs.length:=(List.getElem?_eq_some_iff.mp h).1
 have e:ixN xs.length (j:Int)=some j:=by
  unfold ixN
  rw [if_pos (by omega),if_pos (by omega)];simp
 unfold atI;rw [e];exact h
noncomputable def Zib (b:Expr):Prop:=∀ o i,subscripted b false o i=operate [o,i] (getItem o i)
noncomputable def IxR (X : Cx) (r : R2) : Prop :=
  ∀ (value slice : Expr) (pins : List (Addr × Obj)) (s : Shared) (σ : St) (H : Hp) (x y : V) (v u : Value) (Q : VK), Inv X pins σ H s -> RelV x v -> RelV y u -> r x y H Q ->
    subscripted slice false v u = operate [v, u] (getItem v u) -> wpAny (model X.prog X.w) X.A (subscriptTail value slice v u) (EP X pins σ Q) X.xe s
noncomputable def MtR (X : Cx) (id : String) (r : V -> List V -> Hp -> VK -> Prop) : Prop :=
  ∀ (pins : List (Addr × Obj)) (s : Shared) (σ : St) (H : Hp) (x : V) (xs : List V) (v : Value) (us : List Value) (Q : VK), Inv X pins σ H s -> RelV x v -> Vals xs us -> r x xs H Q ->
    wpAny (model X.prog X.w) X.A (call (.builtin id) (v :: us)) (EP X pins σ Q) X.xe s
section
variable {X:Cx}{a b:Expr}{ta tb:TE}{pos:Pos}
theorem Zw {r:R2}(hr:IxR X r)(ha:PE X a ta)(hb:PE X b tb)(hs:Zib b):PE X (.Subscript a b pos) (tOp r ta tb):=by
 intro pins s σ H Q I h
 exact Subscript_ (binT ha hb I h fun v u s2 x y H2 I2 rx ry q=>hr a b pins s2 σ H2 x y v u Q I2 rx ry q (hs _ _))
noncomputable def ZeA (K:W.Frag):R2:=fun x y H Q=>∃ p xs i v,x=.ref p/\y=.int i/\SqL K H p xs/\atI xs i=some v/\Q v H
noncomputable def Zkh (K:W.Frag):R2:=fun x y H Q=>∃ p xs i v,x=.ref p/\y=.int i/\SqT K H p xs/\atI xs i=some v/\Q v H
theorem Zhb:IxR X (ZeA X.K):=by
 intro value slice pins s σ H x y v u Q I rx ry h hs
 obtain⟨p,xs,i,z,rfl,rfl,hq,he,q⟩:=h
 cases rx
 obtain⟨t,rfl⟩:=ry
 obtain⟨its,r,pl,hz⟩:=I.list hq
 obtain⟨j,h1,h2,h3,h4,h5⟩:=Zbs he
 obtain⟨w,ew,rw'⟩:=r.get h2
 have hl:=r.length
 have hn:=Zan
 have fin:EP X pins σ Q w s:=⟨z,H,I,rw',q⟩
 by_cases h0:0<=i
 ·have hj:i.toNat=j:=by
   rw [seqIndex_of h0 h5] at h1
   exact Option.some.inj h1
  exact item_listR pl.isList h0 (by omega) (by rw [hj];simpa using ew) fin hs
 ·have hj:(i+(its.toArray.size:Int)).toNat=j:=by
   rw [seqIndex_neg (by omega) h4] at h1
   rw [List.size_toArray,<- hl]
   exact Option.some.inj h1
  exact subscriptTail_builtinR (x:=w) pl.isList.typeIs slot_list_getitem.lookup
   (wpAny_getItem_list_neg (Q:=fun r s'=>r=w/\EP X pins σ Q r s') pl.isList (by omega) (by rw [List.size_toArray]<;>omega) (by omega) (by rw [hj];simpa using ew) ⟨rfl,fin⟩) hs
theorem Zi7:IxR X (Zkh X.K):=by
 intro value slice pins s σ H x y v u Q I rx ry h hs
 obtain⟨p,xs,i,z,rfl,rfl,hq,he,q⟩:=h
 cases rx
 obtain⟨t,rfl⟩:=ry
 obtain⟨its,r,pl,hz⟩:=I.tuple hq
 obtain⟨j,h1,h2,h3,h4,h5⟩:=Zbs he
 obtain⟨w,ew,rw'⟩:=r.get h2
 have hl:=r.length
 have hn:=Zan
 have fin:EP X pins σ Q w s:=⟨z,H,I,rw',q⟩
 exact subscriptTail_builtinR (x:=w) pl.typeIs slot_tuple_getitem.lookup
  (getItem_tuple (j:=j) (Q:=fun r s'=>r=w/\EP X pins σ Q r s') pl (by omega) (by omega) (by rw [List.size_toArray,<- hl];exact h1) (by simpa using ew) ⟨rfl,fin⟩) hs
theorem Zcd (its:List Value) (n j:Nat) (u:Value):Obj.mapSeq (·.setIfInBounds j u) { cls:=.type "list",data:=.seq its.toArray n }={ cls:=.type "list",data:=.seq (its.set j u).toArray n }:=by
 simp [Obj.mapSeq]
theorem Inv.lst {pins:List (Addr×Obj)}{σ:St}{H:Hp}{s:Shared}{p:Addr}{xs:List V}(I:Inv X pins σ H s)(h:H p=some (.lst xs)) :
  ∃ (its:List Value) (n:Nat),Vals xs its/\s.heap.get? p=some { cls:=.type "list",data:=.seq its.toArray n }/\xs.length<=sizeLine:=by
 obtain⟨z,its,n,r,e⟩:=I.hok p _ h
 exact⟨its,n,r,e,z⟩
theorem Inv.lstUpd {pins:List (Addr×Obj)}{σ:St}{H:Hp}{s:Shared}{p:Addr}{xs ys:List V}{its its':List Value}{n n':Nat}{f:Obj->Obj}(I:Inv X pins σ H s)(h:H p=some (.lst xs))
  (ho:s.heap.get? p=some { cls:=.type "list",data:=.seq its.toArray n }) (hf:f { cls:=.type "list",data:=.seq its.toArray n }={ cls:=.type "list",data:=.seq its'.toArray n' }) (r:Vals ys its') (hz:ys.length<=sizeLine) (t:Nat) :
  Inv X pins σ (upd H p (.lst ys)) { s with heap:=s.heap.update p f,toks:=t }:=by
 have e:(s.heap.update p f).get? p=some { cls:=.type "list",data:=.seq its'.toArray n' }:=by
  rw [Heap.get?_update_self f ho (by rw [hf]<;>rfl),hf]
 refine I.write (x:=p) (e:=p) (by rw [h];trivial) (.inl rfl) (fun b u hb q=>(Heap.get?_update_other _ _ (Ne.symm hb)).trans q) ⟨_,e⟩ ?_
 exact⟨hz,its',n',r,e⟩
noncomputable def Zb9:V->V->V->Hp->(Hp->Prop)->Prop:=fun o i v H Q=>∃ p xs k j,o=.ref p/\i=.int k/\H p=some (.lst xs)/\ixN xs.length k=some j/\Q (upd H p (.lst (xs.set j v)))
theorem set_list:ZkK X Zb9:=by
 intro pins s σ H o i v ov iv u Q I ro ri rv h
 obtain⟨p,xs,k,j,rfl,rfl,hp,hj,q⟩:=h
 cases ro
 obtain⟨t,rfl⟩:=ri
 obtain⟨its,n,r,ho,hz⟩:=I.lst hp
 obtain⟨h1,h2,h3,h4⟩:=ZdD hj
 have hl:=r.length
 have hn:=Zan
 have I':Inv X pins σ (upd H p (.lst (xs.set j v))) { s with heap:=s.heap.update p (Obj.mapSeq (·.setIfInBounds j u)) } :=
  I.lstUpd hp ho (Zcd its n j u) (r.set rv j) (by rw [List.length_set];exact hz) s.toks
 by_cases h0:0<=k
 ·have hk:k.toNat=j:=by
   rw [seqIndex_of h0 h4] at h1
   exact Option.some.inj h1
  exact W.ki_setAt ho h0 (by omega) (by rw [List.size_toArray,<- hl];exact h4) (by rw [hk];exact⟨_,I',q⟩)
 ·have hk:(k+(its.toArray.size:Int)).toNat=j:=by
   rw [seqIndex_neg (by omega) h3] at h1
   rw [List.size_toArray,<- hl]
   exact Option.some.inj h1
  exact W.ki_setBack ho (by omega) (by rw [List.size_toArray,<- hl];exact h3) (by omega) (by rw [hk];exact⟨_,I',q⟩)
theorem JO (lo hi:Option Int)(n:Nat):(sliceBounds lo hi none n).1=((HT.sIx n 0 lo:Nat):Int)/\(sliceBounds lo hi none n).2.1=((HT.sIx n n hi:Nat):Int)/\(sliceBounds lo hi none n).2.2=1:=by
 refine⟨?_,?_,rfl⟩
 ·cases lo with
  | none=>simp [sliceBounds,HT.sIx]
  | some i =>
   simp only [sliceBounds,HT.sIx,Option.getD_none,show (1:Int)>0 by decide,if_true]
   by_cases h:i<0
   ·simp only [h,if_true]<;>omega
   ·simp only [h,if_false]<;>omega
 ·cases hi with
  | none=>simp [sliceBounds,HT.sIx]
  | some i =>
   simp only [sliceBounds,HT.sIx,Option.getD_none,show (1:Int)>0 by decide,if_true]
   by_cases h:i<0
   ·simp only [h,if_true]<;>omega
   ·simp only [h,if_false]<;>omega
theorem UX (its:List Value)(lo hi:Option Int):slicePick its.toArray lo hi none=((its.drop (HT.sIx its.length 0 lo)).take (HT.sIx its.length its.length hi-HT.sIx its.length 0 lo)).toArray:=by
 obtain⟨h1,h2,h3⟩:=JO lo hi its.toArray.size
 unfold slicePick
 rw [h1,h2,h3]
 simp only [sliceRange_one,pick_run,List.size_toArray]<;>rfl
noncomputable def Zkf (K:W.Frag):V->Option Int->Option Int->Hp->VK->Prop:=fun x lo hi H Q=>∃ a xs,x=.ref a/\SqL K H a xs/\∀ p,H p=none->Q (.ref p) (upd H p (.lst (Zho xs lo hi)))
theorem ZgE:SlR X (Zkf X.K):=by
 intro pins s σ H x v vl vu lo hi sl Q I rx hs pl pu h
 obtain⟨a,xs,rfl,hx,q⟩:=h
 cases rx
 obtain⟨its,r,ht,hz⟩:=I.list hx
 have hlen:=r.length
 refine⟨"list",_,slot_list_getitem.lookup,ht.isList.typeIs,?_⟩
 refine wpAny_getItem_list_slice ht.isList hs pl pu .none (by simp) ?_ (by rw [List.size_toArray]<;>omega)
 rw [UX,<- hlen]
 refine⟨.ref s.heap.objs.size,_,I.laid (t':=s.toks) (o:=.lst (Zho xs lo hi)) (fun b ob q=>Heap.get?_push_of_some _ q) (Nat.le_refl _) ?_,rfl,q _ (I.hok.fresh (Nat.le_refl _))⟩
 exact⟨Nat.le_trans (Zbp xs lo hi) hz,_,0,(r.drop (HT.sIx xs.length 0 lo)).take (HT.sIx xs.length xs.length hi-HT.sIx xs.length 0 lo),Heap.get?_push_size _ rfl⟩
noncomputable def Ua:V->Bool
 | .non=>true
 | .bl _=>true
 | .int _=>true
 | .str _=>true
 | _=>false
noncomputable def eqV:V->V->Bool
 | .non,.non=>true
 | .bl a,.bl b=>a == b
 | .bl a,.int b=>(if a then 1 else 0) == b
 | .int a,.bl b=>a == (if b then 1 else 0)
 | .int a,.int b=>a == b
 | .str a,.str b=>a == b
 | _,_=>false
theorem Zjl {A:Around}{s:Shared}{y x:V}{u v:Value}(ry:RelV y u)(rx:RelV x v)(fy:Ua y=true)(fx:Ua x=true):SeqAt.EqAt A s u v (eqV y x):=by
 cases y with
 | non =>
  cases ry
  cases x with
  | non=>cases rx;exact SeqAt.EqAt.same _
  | bl b=>cases rx;exact SeqAt.EqAt.none_bool b
  | int b=>obtain⟨t,rfl⟩:=rx;exact SeqAt.EqAt.none_int b t
  | str b=>obtain⟨t,rfl⟩:=rx;exact SeqAt.EqAt.none_str b t
  | _=>exact absurd (show false=true from fx) Bool.false_ne_true
 | bl a =>
  cases ry
  cases x with
  | non=>cases rx;exact SeqAt.EqAt.bool_none a
  | bl b=>cases rx;exact SeqAt.EqAt.bool_bool a b
  | int b=>obtain⟨t,rfl⟩:=rx;exact SeqAt.EqAt.bool_int a b t
  | str b=>obtain⟨t,rfl⟩:=rx;exact SeqAt.EqAt.bool_str a b t
  | _=>exact absurd (show false=true from fx) Bool.false_ne_true
 | int a =>
  obtain⟨t',rfl⟩:=ry
  cases x with
  | non=>cases rx;exact SeqAt.EqAt.int_none a t'
  | bl b=>cases rx;exact SeqAt.EqAt.int_bool a t' b
  | int b=>obtain⟨t,rfl⟩:=rx;exact SeqAt.EqAt.int_int a t' b t
  | str b=>obtain⟨t,rfl⟩:=rx;exact SeqAt.EqAt.int_str a t' b t
  | _=>exact absurd (show false=true from fx) Bool.false_ne_true
 | str a =>
  obtain⟨t',rfl⟩:=ry
  cases x with
  | non=>cases rx;exact SeqAt.EqAt.str_none a t'
  | bl b=>cases rx;exact SeqAt.EqAt.str_bool a t' b
  | int b=>obtain⟨t,rfl⟩:=rx;exact SeqAt.EqAt.str_int a t' b t
  | str b=>obtain⟨t,rfl⟩:=rx;exact SeqAt.EqAt.str_str a t' b t
  | _=>exact absurd (show false=true from fx) Bool.false_ne_true
 | _=>exact absurd (show false=true from fy) Bool.false_ne_true
noncomputable def inV (x:V)(xs:List V):Bool:=xs.any fun y=>eqV y x
noncomputable def rIn (K:W.Frag)(neg:Bool):R2:=fun x y H Q=>∃ p xs,y=.ref p/\(SqL K H p xs\/SqT K H p xs)/\Ua x=true/\xs.all Ua=true/\Q (.bl (if neg then !inV x xs else inV x xs)) H
theorem ZaG:XD X (.builtin "len") (fun xs H Q=>∃ p ys,xs=[.ref p]/\(SqL X.K H p ys\/SqT X.K H p ys)/\Q (.int ys.length) H):=by
 intro pins s σ H xs us Q I r h
 obtain⟨p,ys,rfl,hq,q⟩:=h
 obtain⟨u,rfl,rx⟩:=WI r
 cases rx
 have hn:=Zan
 rcases hq with hq | hq
 ·obtain⟨its,r',pl,hz⟩:=I.list hq
  have hlen:=r'.length
  exact Calls.call_len_list pl.isList (by simp only [List.size_toArray]<;>omega) ⟨.int ys.length,H,I.tok _,⟨s.toks+1,by rw [List.size_toArray,hlen]⟩,q⟩
 ·obtain⟨its,r',pl,hz⟩:=I.tuple hq
  have hlen:=r'.length
  exact len_tuple pl (by simp only [List.size_toArray]<;>omega) ⟨.int ys.length,H,I.tok _,⟨s.toks+1,by rw [List.size_toArray,hlen]⟩,q⟩
theorem ZaF:XD X (.type "list") (fun xs H Q=>∃ p ys,xs=[.ref p]/\(SqL X.K H p ys\/SqT X.K H p ys)/\∀ l,H l=none->Q (.ref l) (upd H l (.lst ys))):=by
 intro pins s σ H xs us Q I r h
 obtain⟨p,ys,rfl,hq,q⟩:=h
 obtain⟨u,rfl,rx⟩:=WI r
 cases rx
 have fin:∀ (its:List Value),Vals ys its->ys.length<=sizeLine->∀ (h':Heap) (c':Nat),(∀ b o',s.heap.get? b=some o'->h'.get? b=some o') ->
   h'.get? s.heap.objs.size=some { cls:=.type "list",dict:=none,data:=.seq its.toArray c',slots:=#[] }->EP X pins σ Q (.ref s.heap.objs.size) { s with heap:=h' }:=fun its r' hz h' c' kp e =>
  ⟨.ref s.heap.objs.size,_,I.laid (t':=s.toks) kp (Nat.le_refl _) (show ObjOk X.prog X.w _ h' _ (.lst ys) from ⟨hz,its,c',r',e⟩),rfl,q _ (I.hok.fresh (Nat.le_refl _))⟩
 rcases hq with hq | hq
 ·obtain⟨its,r',pl,hz⟩:=I.list hq
  have hlen:=r'.length
  obtain⟨o,ho,hc,n,hd⟩:=pl.isList
  exact call_list_seq p (.inl rfl) ho hc hd (fun h' c' kp e=>fin its r' hz h' c' kp e) (by simp only [List.size_toArray]<;>omega)
 ·obtain⟨its,r',pl,hz⟩:=I.tuple hq
  have hlen:=r'.length
  obtain⟨o,ho,hc,n,hd⟩:=pl
  exact call_list_seq p (.inr rfl) ho hc hd (fun h' c' kp e=>fin its r' hz h' c' kp e) (by simp only [List.size_toArray]<;>omega)
noncomputable def tyV (K:W.Frag)(T:String)(x:V)(H:Hp):Prop:=match x with
 | .str _=>T = "str"
 | .int _=>T = "int"
 | .ref p=>(T = "list" /\ ∃ xs,SqL K H p xs)\/(T = "tuple" /\ ∃ o,K.lookup p=some o/\o.cls=.type "tuple" /\ o.dict=none) \/
   (T = "dict" /\ ((∃ kvs,H p=some (.dK kvs))\/∃ kvs,H p=some (.dT kvs)))\/(T = "set" /\ ∃ S n,H p=some (.set S n))
 | _=>False
theorem ZfX {pins:List (Addr×Obj)}{σ:St}{H:Hp}{s:Shared}{T:String}{x:V}{v:Value}(I:Inv X pins σ H s)(r:RelV x v)(ty:tyV X.K T x H) :
  s.TypeIs v T/\∀ a,v=.ref a->∃ ob,s.heap.get? a=some ob/\ob.dict=none:=by
 cases x with
 | str z =>
  obtain⟨t,rfl⟩:=r
  cases (show T = "str" from ty)
  exact⟨typeIs_str s z t,fun _ e=>nomatch e⟩
 | int i =>
  obtain⟨t,rfl⟩:=r
  cases (show T = "int" from ty)
  exact⟨typeIs_int s i t,fun _ e=>nomatch e⟩
 | ref p =>
  cases r
  rcases ty with ⟨rfl,xs,hq⟩ | ⟨rfl,o,hk,hc,hd⟩ | ⟨rfl,hk⟩ | ⟨rfl,S,n,hk⟩
  ·obtain⟨its,_,pl,_⟩:=I.list hq
   refine⟨pl.isList.typeIs,fun a e=>?_⟩
   cases e
   obtain⟨o,n,e,c,hd,_⟩:=pl
   exact⟨o,e,hd⟩
  ·refine⟨⟨o,I.kIn p o hk,hc⟩,fun a e=>?_⟩
   cases e
   exact⟨o,I.kIn _ o hk,hd⟩
  ·have z:∃ o,s.heap.get? p=some o/\o.ExactDict:=by
    rcases hk with ⟨kvs,hk⟩ | ⟨kvs,hk⟩
    ·obtain⟨_,_,_,_,o,_,_,e,ex,_⟩:=I.hok p _ hk
     exact⟨o,e,ex⟩
    ·obtain⟨_,_,_,_,o,_,_,e,ex,_⟩:=I.hok p _ hk
     exact⟨o,e,ex⟩
   obtain⟨o,e,ex⟩:=z
   refine⟨⟨o,e,ex.1⟩,fun a e2=>?_⟩
   cases e2
   exact⟨o,e,ex.2.1⟩
  ·obtain⟨o,_,_,_,e,ex,_⟩:=I.hok p _ hk
   refine⟨⟨o,e,ex.1⟩,fun a e2=>?_⟩
   cases e2
   exact⟨o,e,ex.2.1⟩
 | _=>exact False.elim ty
noncomputable def Zke (K:W.Frag)(T:String)(r:V->List V->Hp->VK->Prop)(to:TE):TE:=fun σ H Q=>to σ H fun x H1=>tyV K T x H1/\r x [] H1 Q
noncomputable def tBM (K:W.Frag)(T:String)(r:V->List V->Hp->VK->Prop)(to:TE)(t:TA):TE:=fun σ H Q=>to σ H fun x H1=>tyV K T x H1/\t σ H1 fun xs H2=>r x xs H2 Q
variable {o e:Expr}{es:List Expr}{to:TE}{t:TA}{name:Str}{apos cpos:Pos}{T id:String}{r:V->List V->Hp->VK->Prop}
theorem ZiQ (pa:PlainAttrs T) (slot:Slot T name id) (hty:typeOf (.builtin id)=pure (.type "method_descriptor")) (hm:MtR X id r) (ho:PE X o to)
  (hbase:attributeBase o name X.env (eval o X.env)=eval o X.env:=by rfl) (hline:(apos.endLine == cpos.line)=true:=by rfl):PE X (.Call (.Attribute o name apos) [] [] cpos) (Zke X.K T r to):=by
 intro pins s σ H Q I h
 refine wpAny_Call_method0_late hbase hline (thn (ho pins s σ H _ I h) fun v s1 ⟨x,H1,I1,r1,ty,q1⟩=>?_)
 obtain⟨h1,h2⟩:=ZfX I1 r1 ty
 exact⟨T,id,pa,slot,hty,h1,h2,Calls.callWith_builtin rfl (PySem.evalArgs_none (hm pins s1 σ H1 x [] v [] Q I1 r1 .nil q1))⟩
theorem Zkj (pa:PlainAttrs T) (slot:Slot T name id) (hty:typeOf (.builtin id)=pure (.type "method_descriptor")) (hm:MtR X id r) (ho:PE X o to) (ha:PA X (e::es) t)
  (hbase:attributeBase o name X.env (eval o X.env)=eval o X.env:=by rfl)
  (hfew:((backTo cpos (starEach (e::es) X.env)).all (fun x=>!x.1)&&(backToKw cpos (keywordEach [] X.env)).all (fun x=>x.1.isSome)
   && decide ((e::es).length+([]:List Keyword).length+(if ([]:List Keyword).isEmpty then 0 else 1)<30))=true:=by rfl)
  (hline:(apos.endLine == cpos.line)=true:=by rfl) (hs:starEach (e::es) X.env=(false,eval e X.env)::starEach es X.env:=by rfl) (hplain:(backTo cpos (starEach es X.env)).any (·.1)=false:=by rfl) :
  PE X (.Call (.Attribute o name apos) (e::es) [] cpos) (tBM X.K T r to t):=by
 intro pins s σ H Q I h
 refine wpAny_Call_method_late hbase hfew hline rfl (thn (ho pins s σ H _ I h) fun v s1 ⟨x,H1,I1,r1,ty,q1⟩=>?_)
 obtain⟨h1,h2⟩:=ZfX I1 r1 ty
 refine⟨T,id,pa,slot,hty,h1,h2,?_⟩
 have hA:=ha cpos pins s1 σ H1 _ I1 q1
 rw [hs] at hA ⊢
 refine Calls.callWith_builtin (by show (false || (backTo cpos (starEach es X.env)).any (·.1))=false;rw [hplain]<;>rfl) (Calls.evalArgs_plain ?_)
 exact thn hA fun us s2 ⟨vs,H2,I2,r2,q2⟩=>hm pins s2 σ H2 x vs v us Q I2 r1 r2 q2
/- xs.append(e),list.index on a module's tuple .. are MtR facts of 06m -/
end
noncomputable def MtM (X : Cx) (id : String) (r : V -> List V -> Hp -> VK -> Prop) : Prop :=
  ∀ (pins : List (Addr × Obj)) (s : Shared) (σ : St) (H : Hp) (x : V) (xs : List V) (v : Value) (us : List Value) (Q : VK), Inv X pins σ H s -> RelV x v -> Vals xs us -> r x xs H Q ->
    wpAny (model X.prog X.w) X.A (call (.builtin id) (v :: us)) (EP X pins σ Q) X.xe s
theorem Vals.one:∀ {x:V} {us:List Value},Vals [x] us->∃ u,us=[u]/\RelV x u
 | _,_,.cons r .nil=>⟨_,rfl,r⟩
theorem Vals.two:∀ {x y:V} {us:List Value},Vals [x,y] us->∃ u v,us=[u,v]/\RelV x u/\RelV y v
 | _,_,_,.cons r (.cons q .nil)=>⟨_,_,rfl,r,q⟩
theorem Vals.zero:∀ {us:List Value},Vals [] us->us=[]
 | _,.nil=>rfl
theorem Vals.eraseIdx:∀ {xs:List V} {us:List Value} (i:Nat),Vals xs us->Vals (xs.eraseIdx i) (us.eraseIdx i)
 | _,_,_,.nil=>.nil
 | _,_,0,.cons _ t=>t
 | _,_,i+1,.cons r t=>.cons r (Vals.eraseIdx i t)
theorem Vals.rep {xs:List V}{us:List Value}(h:Vals xs us):∀ k:Nat,Vals (List.replicate k xs).flatten (List.replicate k us).flatten
 | 0=>.nil
 | k+1=>by
  rw [List.replicate_succ,List.replicate_succ,List.flatten_cons,List.flatten_cons]
  exact Vals.append h (Vals.rep h k)
theorem Zao {α:Type}:∀ (l:List α) (i:Nat),(l.eraseIdx i).length<=l.length
 | [],_=>Nat.le_refl _
 | _::_,0=>Nat.le_succ _
 | _::r,i+1=>Nat.succ_le_succ (Zao r i)
theorem Zat (its:List Value):∀ (k:Nat) (acc:List Value),
  List.foldl (fun x1 x2=>x1++x2) acc.toArray (List.replicate k its.toArray)=(acc++(List.replicate k its).flatten).toArray
 | 0,acc=>by simp
 | k+1,acc=>by
  have e:acc.toArray++its.toArray=(acc++its).toArray:=by simp
  have e2:(acc++its)++(List.replicate k its).flatten=acc++(List.replicate (k+1) its).flatten:=by
   rw [List.replicate_succ,List.flatten_cons,List.append_assoc]
  rw [<- e2,<- Zat its k (acc++its),<- e,List.replicate_succ,List.foldl_cons]
section
variable {X:Cx}{pins:List (Addr×Obj)}{σ:St}{H:Hp}{s:Shared}{l b:Addr}{xs ys zs:List V}
theorem Inv.lset {its its':List Value}{n:Nat}{f:Array Value->Array Value}{t':Nat}(I:Inv X pins σ H s)(hH:H l=some (.lst xs))
  (e:s.heap.get? l=some { cls:=.type "list",data:=.seq its.toArray n }) (hf:f its.toArray=its'.toArray) (hv:Vals ys its') (hz:ys.length<=sizeLine) :
  Inv X pins σ (upd H l (.lst ys)) { s with heap:=s.heap.update l (Obj.mapSeq f),toks:=t' }:=by
 have q:=PySem.IsL.update e f
 rw [hf] at q
 refine I.write (x:=l) (e:=l) (by rw [hH];exact trivial) (.inl rfl) (fun b' u hb hu=>(Heap.get?_update_other s.heap (Obj.mapSeq f) (Ne.symm hb)).trans hu) ⟨_,q⟩ ?_
 exact⟨hz,its',_,hv,q⟩
theorem Inv.lnew {its:List Value}{t':Nat}(I:Inv X pins σ H s)(hv:Vals ys its)(hz:ys.length<=sizeLine) :
  Inv X pins σ (upd H s.heap.objs.size (.lst ys)) { s with heap:=s.heap.push { cls:=.type "list",data:=.seq its.toArray },toks:=t' } :=
 I.laid (fun _ _ q=>Heap.get?_push_of_some _ q) (Nat.le_refl _) ⟨hz,its,0,hv,Heap.get?_push_size _ rfl⟩
theorem Inv.fresh (I:Inv X pins σ H s):H s.heap.objs.size=none:=I.hok.fresh (Nat.le_refl _)
theorem Inv.lstM (I:Inv X pins σ H s) (hH:H l=some (.lst xs)):xs.length<=sizeLine/\∃ (its:List Value) (n:Nat),Vals xs its/\xs.length=its.length/\s.heap.get? l=some { cls:=.type "list",data:=.seq its.toArray n }:=by
 obtain⟨z,its,n,r,e⟩:=I.hok l _ hH
 exact⟨z,its,n,r,r.length,e⟩
theorem ZeN {n:Nat}(h:n<=sizeLine):Builtin.List.listTooLong n=false:=by
 unfold Builtin.List.listTooLong
 exact decide_eq_false (by omega)
end
section
variable {X:Cx}
noncomputable def Zc0:V->List V->Hp->VK->Prop:=fun x vs H Q=>∃ l xs y,x=.ref l/\vs=[y]/\H l=some (.lst xs)/\xs.length<sizeLine/\Q .non (upd H l (.lst (xs++[y])))
theorem VP:MtM X "list.append" Zc0:=by
 intro pins s σ H x vs v us Q I rx rv h
 obtain⟨l,xs,y,rfl,rfl,hH,hz,q⟩:=h
 cases rx
 obtain⟨u,rfl,ru⟩:=rv.one
 obtain⟨z,its,n,r,hl,e⟩:=I.lstM hH
 refine call_meets F.slot_list_append ⟨_,e,rfl⟩ F.entry_list_append (F.args_list_append_2 _ _) (PySem.list_append l its.toArray n u (by rw [List.size_toArray];omega)) ⟨e,?_⟩
 refine⟨.non,_,I.lset (its':=its++[u]) hH e (by simp) (r.append (.cons ru .nil)) ?_,rfl,q⟩
 rw [List.length_append,List.length_singleton]
 omega
noncomputable def Zlh:V->List V->Hp->VK->Prop:=fun x vs H Q=>∃ l xs y,x=.ref l/\vs=[]/\H l=some (.lst xs)/\xs[xs.length-1]? = some y/\Q y (upd H l (.lst xs.dropLast))
noncomputable def Zf6:V->List V->Hp->VK->Prop:=fun x vs H Q=>∃ l xs i k y,x=.ref l/\vs=[.int i]/\H l=some (.lst xs) /\ -(2^63)<=i/\i<2^63/\seqIndex? i xs.length=some k/\xs[k]? = some y/\Q y (upd H l (.lst (xs.eraseIdx k)))
theorem ZbJ:MtM X "list.pop" Zf6:=by
 intro pins s σ H x vs v us Q I rx rv h
 obtain⟨l,xs,i,k,y,rfl,rfl,hH,h1,h2,hk,hy,q⟩:=h
 cases rx
 obtain⟨u,rfl,ru⟩:=rv.one
 obtain⟨t,rfl⟩:=ru
 obtain⟨z,its,n,r,hl,e⟩:=I.lstM hH
 obtain⟨w,hw,rw'⟩:=r.get hy
 refine call_meets F.slot_list_pop ⟨_,e,rfl⟩ F.entry_list_pop (F.args_list_pop_2 _ _)
  (MeetsSeq.list_pop_at l its.toArray n i t k w (fitsIndex_both h1 h2) (by rw [List.size_toArray,<- hl];exact hk) (by rw [<- Array.getElem?_toList];exact hw) (by rw [List.size_toArray];omega)) ⟨e,?_⟩
 refine⟨y,_,I.lset (its':=its.eraseIdx k) hH e ?_ (r.eraseIdx k) ?_,rw',q⟩
 ·show its.toArray.eraseIdxIfInBounds k=(its.eraseIdx k).toArray
  rw [List.eraseIdxIfInBounds_toArray]
 ·have:=Zao xs k
  omega
noncomputable def Zf8:V->List V->Hp->VK->Prop:=fun x vs H Q=>∃ l xs,x=.ref l/\vs=[]/\H l=some (.lst xs)/\Q .non (upd H l (.lst []))
theorem ZeT:MtM X "list.clear" Zf8:=by
 intro pins s σ H x vs v us Q I rx rv h
 obtain⟨l,xs,rfl,rfl,hH,q⟩:=h
 cases rx
 have hus:=rv.zero
 subst hus
 obtain⟨z,its,n,r,hl,e⟩:=I.lstM hH
 refine call_meets F.slot_list_clear ⟨_,e,rfl⟩ F.entry_list_clear (F.args_list_clear_1 _) (AutoSeq1.list_clear_list_0 l its.toArray n (by rw [List.size_toArray];omega)) ⟨e,?_⟩
 exact⟨.non,_,I.lset (its':=[]) (ys:=[]) hH e rfl .nil (Nat.zero_le _),rfl,q⟩
noncomputable def Zki:R2:=fun x y H Q=>∃ l b xs zs,x=.ref l/\y=.ref b/\H l=some (.lst xs)/\H b=some (.lst zs)/\xs.length+zs.length<=sizeLine/\∀ p,H p=none->Q (.ref p) (upd H p (.lst (xs++zs)))
theorem ZiY:OpR X (binaryOp .Add) Zki:=by
 intro pins s σ H x y v u Q I rx ry h
 obtain⟨l,b,xs,zs,rfl,rfl,hH,hB,hz,q⟩:=h
 cases rx
 cases ry
 obtain⟨z,its,n,r,hl,e⟩:=I.lstM hH
 obtain⟨z2,its2,n2,r2,hl2,e2⟩:=I.lstM hB
 refine PySem.P.add_list e e2 ?_ (by rw [List.size_toArray,List.size_toArray];omega)
 have ea:its.toArray++its2.toArray=(its++its2).toArray:=by simp
 rw [ea]
 exact⟨.ref _,_,I.lnew (t':=s.toks) (r.append r2) (by rw [List.length_append];omega),rfl,q _ I.fresh⟩
noncomputable def Zkg:R2:=fun x y H Q=>∃ l k xs,x=.ref l/\y=.int k/\H l=some (.lst xs) /\ -(2^63)<=k/\k<2^63/\xs.length*k.toNat<=sizeLine /\
 ∀ p,H p=none->Q (.ref p) (upd H p (.lst (List.replicate k.toNat xs).flatten))
theorem Zg4 {α:Type}(xs:List α)(k:Nat):(List.replicate k xs).flatten.length=k*xs.length:=by
 induction k with
 | zero=>simp
 | succ k ih=>rw [List.replicate_succ,List.flatten_cons,List.length_append,ih,Nat.succ_mul,Nat.add_comm]
theorem ZiU:OpR X (binaryOp .Mult) Zkg:=by
 intro pins s σ H x y v u Q I rx ry h
 obtain⟨l,k,xs,rfl,rfl,hH,h1,h2,hz,q⟩:=h
 cases rx
 obtain⟨t,rfl⟩:=ry
 obtain⟨z,its,n,r,hl,e⟩:=I.lstM hH
 have hlen:its.toArray.size*k.toNat<=sizeLine:=by rw [List.size_toArray,<- hl];exact hz
 have hcap:¬ its.toArray.size*k.toNat>(2^63-1)/8:=by
  have:(sizeLine:Nat)<=(2^63-1)/8:=by decide
  omega
 have hfit:¬ (!Builtin.List.listFitsIndex k)=true:=by
  rw [fitsIndex_both h1 h2]
  exact Bool.false_ne_true
 have hlong:¬ Builtin.List.listTooLong (its.toArray.size*k.toNat)=true:=by
  rw [ZeN hlen]
  exact Bool.false_ne_true
 have hnew:List.foldl (fun x1 x2=>x1++x2) #[] (List.replicate (if its.toArray.isEmpty=true then 0 else k.toNat) its.toArray)=(List.replicate k.toNat its).flatten.toArray:=by
  have f0:∀ m:Nat,List.foldl (fun x1 x2=>x1++x2) #[] (List.replicate m its.toArray)=(List.replicate m its).flatten.toArray:=fun m=>by
   have:=Zat its m []
   rw [List.nil_append] at this
   exact this
  rw [f0]
  cases its with
  | nil=>simp
  | cons a r'=>rw [if_neg (by simp)]
 refine wpAny_binaryOp_repeat_ref (T := "list") (U := "int") (by decide) ⟨_,e,rfl⟩ (fun s'=>typeIs_int s' k t) noFill_list_mul F.fills_int_mul F.slot_int_rmul repeat_list F.slot_int_index.lookup
  (call_meets F.slot_int_rmul (typeIs_int s k t) F.entry_int_rmul (F.args_int_rmul_2 _ _) (int___rmul___int_list k t l its.toArray n)
   ⟨e,rfl,⟨_,e,rfl⟩,call_meets F.slot_list_mul ⟨_,e,rfl⟩ F.entry_list_mul (F.args_list_mul_2 _ _) (AutoListH.list___mul___list_int_3 l its.toArray n k t hfit hcap hlong) ⟨e,?_⟩⟩)
 rw [hnew]
 exact⟨.ref _,_,I.lnew (t':=s.toks) (r.rep k.toNat) (by rw [Zg4,Nat.mul_comm];exact hz),rfl,q _ I.fresh⟩
end
section
variable {prog:Program}{w:World}{A:Around}{E:Value->Shared->Prop}{s:Shared}
end
section
variable {X:Cx}
end
end L2
namespace Att
open PySem PySem.W PySem.Calls PyProof.Rows
theorem VW {P:Params}{h:Heap}:∀ (ns:List Int) (vs:List Value),WellAll P h vs (ns.map WData.int)->IntsAre vs ns:=by
 intro ns
 induction ns with
 | nil =>
  intro vs w
  rw [List.map_nil] at w
  cases w
  exact .nil
 | cons n ns ih =>
  intro vs w
  rw [List.map_cons] at w
  cases w with
  | cons a b =>
   cases a
   exact .cons _ _ (ih _ b)
theorem ZcT {l:OpenLaw}{n:Nat}(hn:l.most=some n){P:Params}{h:Heap}{args:List WData}{vals:List Value}
  (hpre:l.row.toRowW.claim.pre args=true) (hwl:WellAll P h vals args) :
  ∃ a vs ns,vals=[Value.ref a]/\args=[WData.list (ns.map WData.int)]/\h.get? a=some { cls:=.type "list",data:=.seq vs.toArray }/\IntsAre vs ns/\ns.length<=n:=by
 have hsh:WShape.hasAll [] args [.list .int]=true:=(pre_splitW hpre).1
 have hc:l.pre.holds [] { args:=args }=true:=(pre_splitW hpre).2
 obtain⟨d,r,rfl,h1,h2⟩:=hasAllW_cons hsh
 obtain rfl:=hasAllW_nil h2
 obtain⟨xs,rfl,h3⟩:=hasW_list h1
 obtain⟨ns,rfl⟩:=items_int h3
 have hlen:ns.length<=n:=by
  unfold OpenLaw.pre at hc
  have h4:(WTm.not (.lt (.lit (.int (n:Int))) (.len (.arg 0)))).holds [] { args:=[.list (ns.map .int)] }=true:=by
   have h4:=(holds_andW hc).1
   rw [hn] at h4
   exact h4
  have h5:=condW_of h4 (w_not (w_lt w_lit (w_len_list (w_arg rfl))))
  rw [List.length_map] at h5
  refine Nat.le_of_not_lt fun q=>?_
  have q':(n:Int)<((ns.length:Nat):Int):=by omega
  first
   | (rw [decide_eq_true q'] at h5;exact absurd h5 (by decide))
   | (simp at h5;omega)
 cases hwl with
 | cons w1 w2 =>
  cases w2
  cases w1 with
  | list ho hall=>exact⟨_,_,ns,rfl,rfl,ho,VW ns _ hall,hlen⟩
theorem Zc9 (l:OpenLaw)(args:List WData):l.row.toRowW.claim.post args (.bool true) args=true :=
 postW_of (r:=l.row.toRowW) (X:=(true == true))
  (show WShape.has [] (.bool true) .bool=true by first | rfl | decide | simp [WShape.has,WShape.arms,WShape.armsAll])
  (show (WTm.eq .res (.lit (.bool true))).value [] { args:=args,res:=some (.bool true),after:=args }=some (.bool (true == true)) from w_eq_bool (w_res rfl) w_lit) rfl
theorem Zbr {l:OpenLaw}{n:Nat}{q:Program}{loose:List Str}{XP:(Str->Option Value)->Heap->Prop}{YP:World->Heap->Prop}{d:DefRec}
  (hn:l.most=some n) (hdf:d.params.defaults=[])
  (call:∀ (w:World) (s₀ s₁:Shared) (mg mb:Str->Option Value) (fa:Addr) (o:Obj) (pm cd doc:Value) (a:Addr) (vs:List Value) (ns:List Int),
   Ground q loose [] XP w s₀ mg mb s₁.heap->YP w s₁.heap ->
   s₁.heap.get? fa=some o->o.data=.func (docDef d.name d.params d.body d.scope pm cd doc)->s₁.heap.CodeRec cd d.name->mg d.name=some (.ref fa) ->
   s₁.heap.get? a=some { cls:=.type "list",data:=.seq vs.toArray }->IntsAre vs ns->ns.length<=n->s₁.gens=#[] ->
   codeAny (model l.prog w) callerA (.call (.ref fa) ⟨[.ref a],[]⟩) (fun r s'=>r=.ok (.ret (.bool true))/\OldK s₁.heap s'.heap/\s'.os=s₁.os/\AllBare s'.gens) s₁) :
  WalkO q loose XP YP l.row.toRowW d [] (fun f vs=>PySem.call f vs):=by
 intro w s₀ s₁ mg mb G Y fa o pm cd doc dV kV ho hd hcd hD hmg hg args vals as hpre hlay hrd hwl hlo
 obtain rfl:dV=.none:=Dflts.none hD hdf
 obtain rfl:kV=.none:=Dflts.noKw hD
 obtain⟨a,vs,ns,rfl,rfl,hobj,hints,hlen⟩:=ZcT hn hpre hwl
 refine enter_call (codeAny_mono (call w s₀ s₁ mg mb fa o pm cd doc a vs ns G Y ho (fd_plain hd) hcd hmg hobj hints hlen hg) fun r s' hq=>?_)
 obtain⟨rfl,h2,h3,h4⟩:=hq
 exact⟨.inl ⟨.bool true,.bool true,[],rfl,fun _=>rfl,.bool true,Zc9 l _,fun _=>⟨List.Pairwise.nil,fun _ hm=>(nomatch hm)⟩⟩,h2,h3,h4⟩
section
variable {prog:Program}{w:World}{A:Around}{E:Value->Shared->Prop}{s:Shared}{K:Frag}
noncomputable def VN (h:Heap):Heap:={ h with objs:=#[] }
theorem XQ (h:Heap)(b:Addr):(VN h).get? b=none:=by
 cases e:(VN h).get? b with
 | none=>rfl
 | some o=>exact absurd (Heap.lt_size e) (Nat.not_lt_zero _)
theorem Zjh {h:Heap}{L:Addr}{m:Str->Option Value}(n:h.Ns L m):Fr (VN h) L h m :=
 ⟨n,fun b o e=>(by rw [XQ] at e;cases e),Nat.zero_le _⟩
end
end Att
namespace L2
open PySem PySem.Spec PyProof.Rows
theorem JA:∀ {vs:List Value} {ns:List Int},IntsAre vs ns->Vals (ns.map V.int) vs
 | _,_,.nil=>.nil
 | _,_,.cons n t h=>.cons ⟨t,rfl⟩ (JA h)
noncomputable abbrev KOf {K:W.Frag}{h:Heap}(_:K.In h):W.Frag:=K
end L2
/- THE LAST THEOREM (shape; LID, My.* are yours):
   My.Adr: a structure of the addresses that your layer names (classes, functions); My.Txt K t: a structure (Prop) of the equations over K;
   My.txt_mk : {K} {implicit addresses ..} (e1 : nsIn K mainGlobals "law" = some (some (.ref f))) (e2 : K.lookup f = some ⟨oc, od, .func (fnOf "law" "law" params body scope dV kV doc pm an cdv ct), sl⟩) (e3 : codeIn K cdv "law" = true) .. : ∃ t, My.Txt K t
set_option maxRecDepth 100000 in
set_option maxHeartbeats 0 in
theorem PySem.Challenge.cw_LID_holds : PySem.Challenge.rw_LID.Holds := by
 w_on;o_law;k_head;(case hw=>w_witness2)
 k_fill
 refine L2.walk_of (l:=PySem.Challenge.rw_LID) (n:=63) (k:=40) (x := "script") (CX:=fun w=>..) (sp:=fun _=>My.sp_law) rfl (by decide) rfl ⟨rfl,by decide,by decide⟩ (fun w h Y=>PySem.W.kIn_of Y) ?F ?S ?C
 case F =>
  intro w mg fa h KX G hmg
  have T:∃ t,My.Txt (L2.KOf KX) t:=by
   dsimp only [L2.KOf]                          -- K must stand as «<heap const> w.params» for k_is
   refine' My.txt_mk ?e1 ?e2 ?e3 ..
   (case e1=>PySem.W.k_is)                    -- in the order: a name->its address->its object->its parts
   (case e2=>PySem.W.k_is)
   ..
  obtain⟨t,T⟩:=T
  have e0:=hmg.symm.trans (PySem.W.mg_of KX G T.law)
  cases e0                                       -- fa is the law's own address
  exact⟨_,fun s u=>.of_eq rfl,fun base kb nb=>My.law_fn T kb nb⟩     -- if «.of_eq rfl» comes too early: refine' ⟨_,?b,fun base kb nb=>My.law_fn T kb nb⟩;exact fun s u=>.of_eq rfl
 case S=>exact fun w H a ns hl hO hS=>..
 case C=>exact ..
(the tactic k_is has no namespace: write k_is) -/
namespace L2
open PySem PySem.Spec PyProof.Rows
noncomputable def Yt (s:Stmt):Arguments:=match s with
 | .FunctionDef _ a _ _ _ _ _ _ _ _=>a
 | _=>{ posonlyargs:=[],args:=[],vararg:=none,kwonlyargs:=[],kw_defaults:=[],kwarg:=none,defaults:=[] }
noncomputable def ZR (s:Stmt):List Stmt:=match s with
 | .FunctionDef _ _ b _ _ _ _ _ _ _=>b
 | _=>[]
noncomputable def Zg (s:Stmt):Scope:=match s with
 | .FunctionDef _ _ _ _ _ _ sc _ _ _=>sc
 | _=>{ kind:=.function,names:=[],isGenerator:=false,isCoroutine:=false }
noncomputable abbrev CX0:CXT:=fun _ _ _ _ _ _=>False
noncomputable abbrev E0:XK:=fun _ _ _=>False
theorem Zkk {X:Cx}:ZbZ CX0 X E0:=fun _ _ _ _ _ _ _ h=>h.elim
structure Fun (K:W.Frag)(x qual:Str)(st:Stmt)(f:Addr)(fd:FuncData):Prop where
 ex:∃ (oc:Value) (od:Option Addr) (kV doc pm:Value) (an:Option Addr) (cdv ct:Value) (osl:Array (Option Value)),
  fd=W.fnOf x qual (Yt st) (ZR st) (Zg st) .none kV doc pm an cdv ct/\K.lookup f=some ⟨oc,od,.func fd,osl⟩/\W.codeIn K cdv qual=true
 kp:W.keepIn K (.ref f)=true
section
variable {P:Program}{w:World}{K:W.Frag}{mg:Str->Option Value}{base:Heap}
theorem Fun.ok {x qual:Str}{st:Stmt}{f:Addr}{fd:FuncData}{N ps:List Str}{k:Nat}{sp:Sp}(F:Fun K x qual st f fd)(S:Zm N ps (Zg st))(len:∀ vs H Q E,sp vs H Q E->vs.length=ps.length)
  (hbody:∀ (cdv:Value) (A:Around) (outer:List Env) (s:Shared) (H:Hp) (vs:List V) (Q:VK) (E:XK),Room k (A.deeper (envOfC qual (Zg st) s.heap.objs.size f cdv))->sp vs H Q E ->
   ∃ t,PSs (Zeq CX0 P w K mg base N qual (Zg st) f cdv A outer s H E).nox (ZR st) t/\t { nx:=fun _ H'=>Q .non H',rt:=Q } (start N vs) H):FnOk P w K mg base CX0 (k+1) f fd ps sp:=by
 obtain⟨oc,od,kV,doc,pm,an,cdv,ct,osl,rfl,lk,hcd⟩:=F.ex
 refine Zhj lk hcd S len fun A outer s H vs Q E hr hsp=>?_
 obtain⟨t,h,q⟩:=hbody cdv A outer s H vs Q E hr hsp
 exact⟨t,h.nox,q⟩
theorem Fun.binds {x qual:Str}{st:Stmt}{f:Addr}{fd:FuncData}{ps:List Str}(F:Fun K x qual st f fd)
  (h:∀ (kV doc pm:Value) (an:Option Addr) (cdv ct:Value) (us:List Value),us.length=ps.length->bindArgs (W.fnOf x qual (Yt st) (ZR st) (Zg st) .none kV doc pm an cdv ct) ⟨us,[]⟩=pure (ps.zip us)):Binds K fd ps []:=by
 obtain⟨oc,od,kV,doc,pm,an,cdv,ct,osl,rfl,lk,hcd⟩:=F.ex
 exact .all (h kV doc pm an cdv ct)
theorem Wz {x qual:Str}{st:Stmt}{f:Addr}{oc:Value}{od an:Option Addr}{osl:Array (Option Value)}{kV doc pm cdv ct:Value}(l:K.lookup f=some ⟨oc,od,.func (W.fnOf x qual (Yt st) (ZR st) (Zg st) .none kV doc pm an cdv ct),osl⟩)
  (c:W.codeIn K cdv qual=true) (k:W.keepIn K (.ref f)=true):Fun K x qual st f (W.fnOf x qual (Yt st) (ZR st) (Zg st) .none kV doc pm an cdv ct):=⟨⟨oc,od,kV,doc,pm,an,cdv,ct,osl,rfl,l,c⟩,k⟩
end
theorem Zz {n:Nat}(h:n<=1000):n<sizeLine:=Nat.lt_of_le_of_lt h (by decide)
section
variable {X:Cx}
theorem pv (i:Nat) {x:Str} {pos:Pos} (hN:X.N[i]? = some x:=by rfl) (hv:Vis X.env.scope x:=by first | exact Or.inl rfl | exact Or.inr (Or.inl rfl) | exact Or.inr (Or.inr rfl)) (hd:(x == ("__debug__" : Str))=false:=by decide)
  (hcd:(x == ("__classdict__" : Str))=false:=by decide):PE X (.Name x pos) (ZcI i):=ZiP hN hv hd hcd
end
noncomputable def Same (H H':Hp):Prop:=∀ b o,H b=some o->H' b=some o
theorem Same.refl (H:Hp):Same H H:=fun _ _ h=>h
theorem Same.trans {H H1 H2:Hp}(a:Same H H1)(b:Same H1 H2):Same H H2:=fun c o h=>b c o (a c o h)
theorem Same.free {H H':Hp}(e:Same H H'){l:Addr}(h:H' l=Option.none):H l=Option.none:=by
 cases q:H l with
 | none=>rfl
 | some o =>
  rw [e l o q] at h
  cases h
theorem Same.seq {K:W.Frag}{H H':Hp}{a:Addr}{xs:List V}(e:Same H H')(h:SqL K H a xs):SqL K H' a xs:=by
 rcases h with (h | ⟨o,h⟩) | h
 ·exact .inl (.inl (e _ _ h))
 ·exact .inl (.inr ⟨o,e _ _ h⟩)
 ·exact .inr h
end L2
namespace PyProof.Rows.Hd
open PySem PySem.W PySem.Calls PyProof.Rows
noncomputable def bt:Nat->(Nat->Option Obj)->BT
 | 0,_=>.nil
 | k+1,f=>match f 0 with
  | none=>.nil
  | some v=>.node v (bt k fun i=>f (2*i+1)) (bt k fun i=>f (2*i+2))
theorem Zd4:∀ (k:Nat) (f:Nat->Option Obj),(∀ i j,j<=i->(f i).isSome=true->(f j).isSome=true)->∀ i,i+1<2^k->(bt k f).get i=f i
 | 0,_,_,i,h=>by simp at h
 | k+1,f,hc,i,h=>by
  rw [Nat.pow_succ] at h
  unfold bt
  cases h0:f 0 with
  | none =>
   cases hi:f i with
   | none=>rfl
   | some x=>have:=hc i 0 (Nat.zero_le _) (by rw [hi];rfl);rw [h0] at this;cases this
  | some v =>
   show (BT.node v _ _).get i=_
   rw [BT.get_node]
   by_cases z:i=0
   ·rw [if_pos z,z,h0]
   rw [if_neg z]
   by_cases o:i%2=1
   ·rw [if_pos o,Zd4 k _ (fun a b l s=>hc _ _ (by omega) s) _ (by omega),show 2*(i/2)+1=i by omega]
   ·rw [if_neg o,Zd4 k _ (fun a b l s=>hc _ _ (by omega) s) _ (by omega),show 2*(i/2-1)+2=i by omega]
noncomputable def toT (s:Shared):SharedT:=⟨bt 7 fun i=>s.heap.objs.toList[i]?,s.heap.objs.size,s.heap.life,s.gens,s.drawn,s.toks,s.os⟩
theorem ZgA {s:Shared}(h:Nat.ble s.heap.objs.size 100=true):(toT s).abs=s:=by
 obtain⟨⟨⟨l⟩,life⟩,gens,drawn,toks,os⟩:=s
 have hs:l.length<=100:=Nat.le_of_ble_eq_true h
 have e:(bt 7 fun i=>l[i]?).list l.length=l:=by
  refine List.ext_getElem? fun i=>?_
  unfold BT.list
  rw [List.getElem?_map]
  by_cases hi:i<l.length
  ·rw [List.getElem?_range hi]
   show some (((bt 7 fun i=>l[i]?).get i).getD default)=_
   rw [Zd4 7 _ (fun a b le z=>by
    have:a<l.length:=by
     cases q:l[a]? with
     | none=>rw [q] at z;cases z
     | some x=>exact (List.getElem?_eq_some_iff.mp q).1
    rw [List.getElem?_eq_getElem (by omega)];rfl) _ (by omega),List.getElem?_eq_getElem hi]
   rfl
  ·rw [List.getElem?_eq_none (by rw [List.length_range];omega),List.getElem?_eq_none (by omega)];rfl
 show Shared.mk (absHeap (bt 7 fun i=>l[i]?) l.length life) gens drawn toks os=_
 unfold absHeap
 rw [e]
theorem Zg5 {p q:Program}{loose:List Str}{Xt:Shared->Bool}{α:Type}{Yf:Shared->α}{Ya:World->α}{N:Nat}{g0:Bool}{H₀:Params->Heap}{gs₀:Array GenState}{d₀:Drawn}{k₀ m₀:Nat}{ann:Option Value}
  {b:List Stmt} {env:Env} {pa qf:Pos} {kp kb kn kf:Nat}
  (open_:∀ w:World,(fencedOpening treeTable p w N).map (fun s=>(s.heap,s.gens,s.drawn,s.toks))=some (H₀ w.params,gs₀,d₀,k₀))
  (size:∀ w:World,((H₀ w.params).isNs mainGlobals&&gs₀.size == 0,(H₀ w.params).objs.size,(H₀ w.params).nsMap mainGlobals "__annotations__")=(true,m₀,ann))
  (le:Nat.ble (kp+(kb+(kn+kf))) N=true)
  (main:∀ w:World,(fun os=>(topGo treeTable p w m₀ ann kp ⟨H₀ w.params,gs₀,d₀,k₀,os⟩ (topStub p)).bind fun a =>
   (segRun treeTable p w m₀ ann 1 kb a.1 (blockOf b env (.body b env) pa [topFrame qf])).bind fun x =>
   (segRunT treeTable p w m₀ ann 1 kn (toT x.2.1) (piecesOf b env (.body b env) x.2.2.2 [topFrame qf])).bind fun y =>
   (topRun treeTable p w m₀ ann kf y.2.1.abs ⟨doneF .next,.body b env,y.2.2.2,[topFrame qf]⟩).map fun s =>
    (a.2,(x.1,x.2.2.1,Nat.ble x.2.1.heap.objs.size 100),(y.1,y.2.2.1),
     (staticsOk (importedModules p.main.body) (H₀ w.params) s.heap&&namesBound p s.heap&&gensDone s&&laidKept (H₀ w.params) s.heap),openSeen q loose (importedModules p.main.body) Xt g0 s,Yf s)) =
   fun _=>some (⟨denote treeTable (.body b env),.body b env,pa,[topFrame qf]⟩,(.next,.body b env,true),(.next,.body b env),true,openGood q loose,Ya w)) :
  LeftO p q loose Xt Yf Ya N g0:=fun w=>by
 obtain⟨⟨h,gs,d,k,os⟩,e,e'⟩:=Option.map_eq_some_iff.mp (open_ w)
 obtain⟨rfl,rfl,rfl,rfl⟩:h=H₀ w.params/\gs=gs₀/\d=d₀/\k=k₀:=by simpa using e'
 obtain⟨z1,z2,z3⟩:_/\_/\_:=by simpa only [Prod.mk.injEq] using size w
 have m:=congrFun (main w) os
 obtain⟨⟨sa,ta⟩,ha,m⟩:=Option.bind_eq_some_iff.mp m
 obtain⟨⟨fx,sx,cx,px⟩,hx,m⟩:=Option.bind_eq_some_iff.mp m
 obtain⟨⟨fy,sy,cy,py⟩,hy,m⟩:=Option.bind_eq_some_iff.mp m
 obtain⟨s,hs,m⟩:=Option.map_eq_some_iff.mp m
 obtain⟨m1,m2,m3,l1,l2,l3⟩:_/\_/\_/\_/\_/\_:=by simpa only [Prod.mk.injEq] using m
 obtain⟨n1,n2,n3⟩:_/\_/\_:=m2
 obtain⟨o1,o2⟩:_/\_:=m3
 subst m1 n1 n2 o1 o2
 have r1:=segRun_of hy
 rw [ZgA n3] at r1
 have r2:=piece_app (rest:=[]) r1 (piece_nil hs)
 rw [List.append_nil] at r2
 have r3:=go_top ha (piece_block hx r2)
 have r:=topRun_mono (N-(kp+(kb+(kn+kf)))) _ _ _ _ r3
 rw [show kp+(kb+(kn+kf))+(N-(kp+(kb+(kn+kf))))=N by have:=Nat.le_of_ble_eq_true le;omega] at r
 have t:topFrom treeTable p w N ⟨H₀ w.params,gs,d,k,os⟩=some s:=by
  unfold topFrom
  dsimp only
  rw [z1,z2,z3,r]
  show (match staticsOk (importedModules p.main.body) (H₀ w.params) s.heap&&namesBound p s.heap&&gensDone s&&laidKept (H₀ w.params) s.heap with | true=>_ | false=>_)=_
  rw [l1]
 unfold openEnds
 rw [e]
 show (topFrom treeTable p w N _).map _=_
 rw [t]
 exact congrArg some (Prod.ext l2 l3)
end PyProof.Rows.Hd
namespace L2
open PySem PySem.Spec PyProof.Rows
section
variable {prog:Program}{w:World}{A:Around}{R:Result->Shared->Prop}{s:Shared}
theorem comp_loop_any {elt target iter:Expr}{ifs:List Expr}{scope:Scope}{pos:Pos}{it acc:Value}{env:Env}(I:Nat->Shared->Prop)
  (turn:∀ n s,I n s->wpAny (model prog w) A (pyNext it) (fun r s₁=>match r with
   | none=>R (.ok .next) s₁
   | some v=>wpAny (model prog w) A (letOwnedTupleGo target it v) (fun _ s₂=>wpAny (model prog w) A (assign target env v) (fun _ s₂ =>
     wpAny (model prog w) A (forIn ifs true fun c r=>if r=true then do let ok <- isTrue c env (eval c env);pure (ForInStep.yield ok) else pure (ForInStep.yield r)) (fun ok s₃ =>
      if ok=true then wpAny (model prog w) A (eval elt env) (fun x s₄ =>
       wpAny (model prog w) A (call (.builtin "list.append") [acc,x]) (fun _ s₅=>∃ m,m<n/\I m s₅) (fun _ _=>False) s₄) (fun _ _=>False) s₃
      else ∃ m,m<n/\I m s₃) (fun _ _=>False) s₂) (fun _ _=>False) s₂) (fun _ _=>False) s₁) (fun _ _=>False) s)
  (n:Nat) (h:I n s) :
  codeAny (model prog w) A (.compLoop (.ListComp elt [⟨target,iter,ifs,0⟩] scope pos) 0 it acc env) R s:=by
 refine codeAny_loop rfl I (fun n s hI=>?_) n h
 show wpAny _ A ((compTurn (.ListComp elt [⟨target,iter,ifs,0⟩] scope pos) 0 it acc env).onRaise (fun x=>do noteFrame x env;theTreesLotGoes x)) _ _ s
 refine wpAny_noted ?_
 rw [compTurn_list]
 refine wpAny_bind (wpAny_standAt (wpAny_bind (wpAny_mono (turn n s hI) (fun r s₁ h₁=>?_) fun _ _ h'=>h'.elim)))
 cases r with
 | none=>exact wpAny_pure h₁
 | some v =>
  refine wpAny_bind (wpAny_mono h₁ (fun _ s₂ h₁=>?_) fun _ _ h'=>h'.elim)
  refine wpAny_bind (wpAny_mono h₁ (fun _ s₂ h₂=>wpAny_bind (wpAny_mono h₂ (fun ok s₃ h₃=>?_) fun _ _ h'=>h'.elim)) fun _ _ h'=>h'.elim)
  cases ok with
  | false=>exact wpAny_pure ⟨rfl,h₃⟩
  | true =>
   exact wpAny_bind (wpAny_bind (wpAny_mono h₃ (fun x s₄ h₄=>wpAny_bind (wpAny_mono h₄ (fun _ s₅ h₅=>wpAny_pure (wpAny_pure ⟨rfl,h₅⟩)) fun _ _ h'=>h'.elim)) fun _ _ h'=>h'.elim))
end
theorem Zcu {env:Env}:∀ (names:List (Str×NameKind)) (acc:List (Str×Addr)),(∀ y∈names,y.2=NameKind.free->∃ c,env.cells.lookup y.1=some c) ->
  (∀ x c,acc.lookup x=some c->env.cells.lookup x=some c) ->
  ∃ cl:List (Str×Addr),(forIn names acc (fun (x:Str×NameKind) (cs:List (Str×Addr))=>(do
    if x.2 == .free then pure (ForInStep.yield ((x.1,<- cellOf env x.1)::cs)) else pure (ForInStep.yield cs):Sem (ForInStep (List (Str×Addr))))):Sem (List (Str×Addr)))=pure cl /\
   (∀ x c,cl.lookup x=some c->env.cells.lookup x=some c)/\(∀ x c,acc.lookup x=some c->∃ c,cl.lookup x=some c)/\∀ y∈names,y.2=NameKind.free->∃ c,cl.lookup y.1=some c:=by
 intro names
 induction names with
 | nil=>intro acc _ ha;exact⟨acc,by simp,ha,fun x c h=>⟨c,h⟩,fun y hy=>nomatch hy⟩
 | cons y r ih =>
  intro acc hf ha
  obtain⟨n,k⟩:=y
  by_cases hk:k=NameKind.free
  ·subst hk
   obtain⟨c,hc⟩:=hf (n,.free) List.mem_cons_self rfl
   obtain⟨cl,h1,h2,h3,h4⟩:=ih ((n,c)::acc) (fun y hy=>hf y (List.mem_cons_of_mem _ hy)) (fun x c' h=>by
    rw [List.lookup_cons] at h
    split at h
    ·rename_i e
     have e':x=n:=by simpa using e
     subst e';cases h;exact hc
    ·exact ha x c' h)
   refine⟨cl,?_,h2,fun x c' h=>?_,fun y hy hy2=>?_⟩
   ·rw [List.forIn_cons]
    simp only [beq_self_eq_true,if_true]
    have hq:cellOf env n=pure c:=by unfold cellOf;rw [hc]
    rw [hq]
    simpa using h1
   ·by_cases e:x=n
    ·subst e;exact h3 x c (by simp [List.lookup_cons])
    ·have e':(x == n)=false:=by simpa using e
     exact h3 x c' (by simpa [List.lookup_cons,e'] using h)
   ·rcases List.mem_cons.mp hy with rfl | hy
    ·exact h3 n c (by simp [List.lookup_cons])
    ·exact h4 y hy hy2
  ·obtain⟨cl,h1,h2,h3,h4⟩:=ih acc (fun y hy=>hf y (List.mem_cons_of_mem _ hy)) ha
   refine⟨cl,?_,h2,h3,fun y hy hy2=>?_⟩
   ·rw [List.forIn_cons]
    have hb:(k == NameKind.free)=false:=by simpa using hk
    simpa [hb] using h1
   ·rcases List.mem_cons.mp hy with rfl | hy
    ·exact absurd hy2 hk
    ·exact h4 y hy hy2
theorem WD {scope:Scope}{env:Env}(hf:∀ y∈scope.names,y.2=NameKind.free->∃ c,env.cells.lookup y.1=some c) :
  ∃ cl:List (Str×Addr),closureFor scope env=pure cl/\(∀ x c,cl.lookup x=some c->env.cells.lookup x=some c)/\∀ y∈scope.names,y.2=NameKind.free->∃ c,cl.lookup y.1=some c:=by
 obtain⟨cl,h1,h2,_,h4⟩:=Zcu scope.names [] hf (fun x c h=>by simp at h)
 exact⟨cl,by unfold closureFor;simpa using h1,h2,h4⟩
theorem YS {env:Env}:∀ {names:List (Str×NameKind)} {x:Str},names.lookup x=some .free ->
  (names.map fun (n,k)=>if (k == NameKind.free&&env.scope.kind == .function&&env.kindOf n == some .cell) then (n,NameKind.cell) else (n,k)).lookup x=some .cell \/
  (names.map fun (n,k)=>if (k == NameKind.free&&env.scope.kind == .function&&env.kindOf n == some .cell) then (n,NameKind.cell) else (n,k)).lookup x=some .free
 | [],_,h=>by simp at h
 | (n,k)::r,x,h=>by
  have ih:=@YS env r x
  show List.lookup x ((if (k == NameKind.free&&env.scope.kind == .function&&env.kindOf n == some .cell)=true then (n,NameKind.cell) else (n,k))::_)=_ \/
   List.lookup x ((if (k == NameKind.free&&env.scope.kind == .function&&env.kindOf n == some .cell)=true then (n,NameKind.cell) else (n,k))::_)=_
  cases hx:x == n with
  | true =>
   simp only [List.lookup_cons,hx] at h
   cases h
   by_cases hc:(NameKind.free == NameKind.free&&env.scope.kind == .function&&env.kindOf n == some .cell)=true
   ·rw [if_pos hc];simp [List.lookup_cons,hx]
   ·rw [if_neg hc];simp [List.lookup_cons,hx]
  | false =>
   simp only [List.lookup_cons,hx] at h
   by_cases hc:(k == NameKind.free&&env.scope.kind == .function&&env.kindOf n == some .cell)=true
   ·rw [if_pos hc];simp only [List.lookup_cons,hx];exact ih h
   ·rw [if_neg hc];simp only [List.lookup_cons,hx];exact ih h
theorem Zba {env:Env}{names:List (Str×NameKind)}{x:Str}(h:(names.map fun (n,k)=>if (k == NameKind.free&&env.scope.kind == .function&&env.kindOf n == some .cell) then (n,NameKind.cell) else (n,k)).lookup x=some .cell \/
  (names.map fun (n,k)=>if (k == NameKind.free&&env.scope.kind == .function&&env.kindOf n == some .cell) then (n,NameKind.cell) else (n,k)).lookup x=some .free) (hc:∀ y∈names,y.2≠.cell):(x,NameKind.free)∈names:=by
 have key:∀ k,(k=NameKind.cell\/k=.free)->(names.map fun (n,k)=>if (k == NameKind.free&&env.scope.kind == .function&&env.kindOf n == some .cell) then (n,NameKind.cell) else (n,k)).lookup x=some k->(x,NameKind.free)∈names:=by
  intro k hk h
  obtain⟨⟨n,k'⟩,hm,e⟩:=List.mem_map.mp (PySem.mem_of_lookup h)
  dsimp only at e
  split at e
  ·rename_i hq
   cases e
   have:k'=NameKind.free:=by simp at hq;exact hq.1.1
   subst this;exact hm
  ·cases e
   rcases hk with rfl | rfl
   ·exact absurd rfl (hc _ hm)
   ·exact hm
 rcases h with h | h
 ·exact key _ (.inl rfl) h
 ·exact key _ (.inr rfl) h
noncomputable def Yw (X:Cx)(M:List Str)(scope:Scope)(cl:List (Str×Addr))(C:Addr)(fp:List Addr)(s₃:Shared)(H₃:Hp):Cx where
 prog:=X.prog
 w:=X.w
 K:=X.K
 mg:=X.mg
 base:=X.base
 A:=X.A
 N:=M
 s₀:=s₃
 H₀:=H₃
 env:=compEnvC scope cl C X.env
 outer:=X.stack
 stack:=X.stack
 ex:=fp
 fn:=fun _=>false
 calm:=X.calm
 pn:=[]
 xe:=fun _ _=>False
structure Zb0 (X:Cx)(scope:Scope)(M:List Str)(nt:Nat)(cap:List Nat):Prop where
 kind:scope.kind=.function
 cells:∀ y∈scope.names,y.2≠.cell
 names:∀ y∈scope.names,y.2=.local->scope.names.lookup y.1=some .local
 free:∀ y∈scope.names,y.2=.free->X.env.scope.names.lookup y.1=some .cell\/X.env.scope.names.lookup y.1=some .free
 caps:∀ j,j<cap.length->∃ x k,cap[j]? = some k/\M[nt+j]? = some x/\X.N[k]? = some x/\scope.names.lookup x=some .free
 len:M.length=nt+cap.length
noncomputable def Zgq (nt:Nat)(cap:List Nat)(σ:St):St:=List.replicate nt none++cap.map fun k=>(σ[k]?).join
noncomputable def Zey (wi : TI) (nt : Nat) (cap : List Nat) (g : TG) (tt : TT) (te : TE) : TE := fun σ H Q => wi σ H fun J H1 => ∀ l, H1 l = none ->
  ∃ W : Nat -> Nat -> St -> Hp -> Prop, (∃ m, W 0 m (Zgq nt cap σ) (upd H1 l (.lst []))) ∧ ∀ i m σ' H', W i m σ' H' ->
    (J.stop i H' ∧ Q (.ref l) H') ∨ (J.go i H' ∧ ∀ x H2, J.yld i H' x H2 -> g x σ' H2 fun σ2 H3 => tt σ2 H3 fun b H4 =>
      if b = true then te σ2 H4 fun y H5 => ∃ xs, H5 l = some (.lst xs) ∧ xs.length < sizeLine ∧ ∃ m', m' < m ∧ W (i + 1) m' σ2 (upd H5 l (.lst (xs ++ [y])))
      else ∃ m', m' < m ∧ W (i + 1) m' σ2 H4)
noncomputable def PTs (X : Cx) (ifs : List Expr) (t : TT) : Prop :=
  ∀ (pins : List (Addr × Obj)) (s : Shared) (σ : St) (H : Hp) (Q : Bool -> Hp -> Prop), Inv X pins σ H s -> t σ H Q ->
    wpAny (model X.prog X.w) X.A (forIn ifs true fun c r => if r = true then do let ok <- isTrue c X.env (eval c X.env); pure (ForInStep.yield ok) else pure (ForInStep.yield r)) (TP X pins σ Q) X.xe s
noncomputable def ZkQ:TT:=fun _ H Q=>Q true H
theorem Yx {X:Cx}:PTs X [] ZkQ:=fun _ _ _ H _ I h=>wpAny_tests_nil ⟨H,I,h⟩
theorem Zc2 {X:Cx}{c:Expr}{t:TT}(h:PT X c t):PTs X [c] t:=fun pins s σ H Q I hw=>wpAny_tests_one (h pins s σ H Q I hw)
section
variable {X:Cx}{pins:List (Addr×Obj)}{σ:St}{H:Hp}{s:Shared}{scope:Scope}{M:List Str}{nt:Nat}{cap:List Nat}{target elt iter:Expr}{ifs:List Expr}{pos:Pos}{wi:TI}{g:TG}{tt:TT}{te:TE}
theorem ZaC {Q:VK}{cl:List (Str×Addr)}{RR:Value->Addr->Result->Shared->Prop}(S:Zb0 X scope M nt cap)(hc:X.calm=true)
  (hcl1:∀ x c,cl.lookup x=some c->X.env.cells.lookup x=some c) (hcl2:∀ y∈scope.names,y.2=NameKind.free->∃ c,cl.lookup y.1=some c)
  (hi:PI X target iter wi) (hg:∀ C fp s H,PG (Yw X M scope cl C fp s H) target g) (ht:∀ C fp s H,PTs (Yw X M scope cl C fp s H) ifs tt) (he:∀ C fp s H,PE (Yw X M scope cl C fp s H) elt te)
  (I:Inv X pins σ H s) (h:Zey wi nt cap g tt te σ H Q)
  (fin:∀ l C s' H' m,Inv X pins σ H' s'->Q (.ref l) H'->s'.heap.Ns C m->H' C=none->C≠X.env.locals->X.s₀.heap.objs.size<=C->(∀ x c,X.env.cells.lookup x=some c->c≠C)->(∀ p∈X.pn++pins,p.1≠C)->RR (.ref l) C (.ok .next) s') :
  wpAny (model X.prog X.w) X.A (eval iter X.env) (fun xv s₁=>wpAny (model X.prog X.w) X.A (pyIter xv) (fun it s₂=>wpAny (model X.prog X.w) X.A (newList []) (fun acc s₃ =>
   wpAny (model X.prog X.w) X.A (newFunctionEnv scope X.env.globals cl [] X.env.qual none .none (some X.env)) (fun cenv s₄ =>
    codeAny (model X.prog X.w) X.A (.compStart (.ListComp elt [⟨target,iter,ifs,0⟩] scope pos) 0 it acc { cenv with scope:=relabel scope X.env }) (RR acc cenv.locals) s₄) X.xe s₃) X.xe s₂) X.xe s₁) X.xe s:=by
 refine thn (hi pins s σ H _ I h) fun v s1 h1=>thn h1 fun itv s2 h2=>?_
 obtain⟨it,fp,tn,J,H2,e,I2,T,st2,f2,h2⟩:=h2
 subst e
 refine wpAny_newObj_type ?_
 have I3:Inv X pins σ (upd H2 s2.heap.objs.size (.lst [])) { s2 with heap:=s2.heap.push { cls:=.type "list",dict:=none,data:=.seq ([]:List Value).toArray } } :=
  I2.laid (t':=s2.toks) (fun b o e=>Heap.get?_push_of_some _ e) (Nat.le_refl _) ⟨by simp,[],_,.nil,Heap.get?_push_size _ rfl⟩
 obtain⟨W,⟨m0,w0⟩,turn⟩:=h2 s2.heap.objs.size (I2.hok.fresh (Nat.le_refl _))
 generalize hl:s2.heap.objs.size=l at I3 w0 turn
 generalize hs3:({ s2 with heap:=s2.heap.push { cls:=.type "list",dict:=none,data:=.seq ([]:List Value).toArray } }:Shared)=s3 at I3
 have hk23:∀ b o,s2.heap.get? b=some o->s3.heap.get? b=some o:=fun b o e=>by rw [<- hs3];exact Heap.get?_push_of_some _ e
 have hfpl:∀ b∈fp,b<s2.heap.objs.size:=fun b hb=>by
  obtain⟨o,e,_⟩:=T.obj _ _ st2 b hb
  exact Heap.lt_size e
 have hls:l<s3.heap.objs.size:=by
  have:=I3.hok.lt (a:=l) (o:=.lst []) Zd
  exact this
 generalize hH3:upd H2 l (.lst [])=H3 at I3 w0
 have f3:∀ b∈fp,Zgr X pins H3 b:=fun b hb=>⟨by rw [<- hH3,Zh (by rw [<- hl];exact Nat.ne_of_lt (hfpl b hb))];exact (f2 b hb).1,(f2 b hb).2⟩
 have st3:tn 0 s3.heap:=T.keep _ _ _ st2 fun b _ o e=>hk23 b o e
 refine wpAny_newFunctionEnv S.cells (by intro y hy;simp at hy) (fun h4 hns4 hsb4=>?_) S.kind
 generalize hC:s3.heap.objs.size=C at hns4 hsb4 ⊢
 have hnC:∀ b o,s3.heap.get? b=some o->b≠C:=fun b o e=>by rw [<- hC];exact Nat.ne_of_lt (Heap.lt_size e)
 have old:∀ b o,s3.heap.get? b=some o->h4.get? b=some o:=fun b o e=>hsb4.extBut b o (hnC b o e) (Heap.get?_push_of_some _ e)
 have hC3:H3 C=none:=I3.hok.fresh (Nat.le_of_eq hC)
 have fC:∀ b∈fp,b≠C:=fun b hb=>by
  obtain⟨o,e,_⟩:=T.obj _ _ st3 b hb
  exact hnC b o e
 have cC:∀ x c,X.env.cells.lookup x=some c->c≠C:=fun x c e=>by
  obtain⟨v,o,ho,_⟩:=I3.cell x c e
  exact hnC c o ho
 have LC:X.env.locals≠C:=by rw [<- hC];exact Nat.ne_of_lt I3.lt
 have pC:∀ p∈X.pn++pins,p.1≠C:=fun p hp=>hnC _ _ (I3.pin p hp).1
 have sC:X.s₀.heap.objs.size<=C:=by rw [<- hC];exact I3.sz
 have okY:(Yw X M scope cl C fp s3 H3).Ok:=by
  refine⟨I3.ok.mod,?_,I3.ok.glob,I3.ok.blt,?_,fun x y c e1 e2=>I3.ok.inj x y c (hcl1 x c e1) (hcl1 y c e2),fun x hx=>?_,(fun x c z=>nomatch z),fun _=>I3.ok.hd hc,I3.ok.frames,.inl rfl,fun b hb=>⟨fC b hb,fun x c e=>(f3 b hb).2.2.2.2.1 x c (hcl1 x c e)⟩,?_,?_,fun b o e hb=>?_,fun b hb hb2=>?_,?_,?_⟩
  ·show (relabel scope X.env).kind=.function
   unfold relabel;exact S.kind
  ·show s3.heap.objs.size<=C
   exact Nat.le_of_eq hC
  ·have hx':=Zba (env:=X.env) hx S.cells
   exact hcl2 _ hx' rfl
  ·exact fun b o e=>I3.bs b o e
  ·exact Nat.le_trans I3.ok.bsz I3.sz
  ·have q:=I3.ok.bs b o e
   rcases (f3 b hb).2.2.2.1 with z | z
   ·exact I3.ok.noex b o e z
   ·exact absurd (Nat.lt_of_lt_of_le (Heap.lt_size q.1) z) (Nat.lt_irrefl _)
  ·rcases List.mem_cons.mp (I3.stkSub b hb2) with z | z
   ·exact (f3 b hb).2.1 z
   ·exact (f3 b hb).2.2.1 z
  ·exact I3.stack
  ·exact fun b hb=>I3.stkFree b hb
 have I4:Inv (Yw X M scope cl C fp s3 H3) [] (Zgq nt cap σ) H3 { s3 with heap:=h4,toks:=s3.toks+([]:List (Str×Value)).length }:=by
  refine⟨okY,rfl,I3.bare,Un.kept old,⟨_,hns4,fun i x v e1 e2 e3=>?_⟩,fun x c e=>?_,hC3,fun x c e=>I3.freeC x c (hcl1 x c e),(fun p hp=>nomatch hp),I3.hok.kept old,?_⟩
  ·have hi2:nt<=i:=by
    by_cases hlt:i<nt
    ·unfold Zgq at e2
     rw [List.getElem?_append_left (by simpa using hlt),List.getElem?_replicate,if_pos hlt] at e2
     cases e2
    ·omega
   obtain⟨j,rfl⟩:∃ j,i=nt+j:=⟨i-nt,by omega⟩
   unfold Zgq at e2
   rw [List.getElem?_append_right (by simp),List.length_replicate,Nat.add_sub_cancel_left,List.getElem?_map] at e2
   have hj:j<cap.length:=by
    by_cases hj:j<cap.length
    ·exact hj
    ·rw [List.getElem?_eq_none (by omega)] at e2;cases e2
   obtain⟨y,k,ek,eM,eN,ef⟩:=S.caps j hj
   rw [ek] at e2
   have e2':(σ[k]?).join=some v:=by simpa using e2
   have eσ:σ[k]? = some (some v):=by
    cases q:σ[k]? with
    | none=>rw [q] at e2';cases e2'
    | some z=>rw [q] at e2';have:z=some v:=e2';rw [this]
   have exy:y=x:=by
    have e1':M[nt+j]? = some x:=e1
    rw [eM] at e1';exact Option.some.inj e1'
   subst exy
   obtain⟨m,hn,hl'⟩:=I3.loc
   have hfr:=S.free _ (PySem.mem_of_lookup ef) rfl
   have hvis:Vis X.env.scope y:=by
    rcases hfr with z | z
    ·exact .inr (.inl z)
    ·exact .inr (.inr z)
   obtain⟨u,ru,lk⟩:=hl' k y v eN eσ hvis
   refine⟨u,ru,.inr ⟨?_,?_⟩⟩
   ·exact YS ef
   ·rcases lk with ⟨z,_⟩ | ⟨_,c,ec,hcell⟩
    ·have z':X.env.scope.names.lookup y=some .local:=z
     rcases hfr with q | q<;>rw [q] at z'<;>cases z'
    ·obtain⟨c',ec'⟩:=hcl2 _ (PySem.mem_of_lookup ef) rfl
     have:=hcl1 y c' ec'
     rw [ec] at this
     cases this
     obtain⟨o,ho,hd⟩:=hcell
     exact⟨c,ec',o,old c o ho,hd⟩
  ·obtain⟨v,o,ho,hd⟩:=I3.cell x c (hcl1 x c e)
   exact⟨v,o,old c o ho,hd⟩
  ·show (Zgq nt cap σ).length=M.length
   unfold Zgq
   rw [List.length_append,List.length_replicate,List.length_map,S.len]
 have st4:tn 0 h4:=T.keep _ _ _ st3 fun b _ o e=>old b o e
 have fY:∀ {H':Hp},(∀ b∈fp,H' b=none)->∀ b∈fp,Zgr (Yw X M scope cl C fp s3 H3) [] H' b:=fun hn b hb=>⟨hn b hb,fC b hb,fun hb2=>by
   rcases List.mem_cons.mp (I3.stkSub b hb2) with z | z
   ·exact (f3 b hb).2.1 z
   ·exact (f3 b hb).2.2.1 z,.inl hb,fun x c e=>(f3 b hb).2.2.2.2.1 x c (hcl1 x c e),(fun p hp=>nomatch hp)⟩
 have loop:∀ s₄:Shared,s₄={ s3 with heap:=h4,toks:=s3.toks+([]:List (Str×Value)).length } ->
   codeAny (model X.prog X.w) X.A (.compLoop (.ListComp elt [⟨target,iter,ifs,0⟩] scope pos) 0 (.ref it) (.ref l) (compEnvC scope cl C X.env)) (RR (.ref l) C) s₄:=by
  rintro s₄ rfl
  refine comp_loop_any (fun n s'=>∃ i σ' H',Inv (Yw X M scope cl C fp s3 H3) [] σ' H' s'/\tn i s'.heap/\(∀ b∈fp,H' b=none)/\W i n σ' H') ?_ m0 ⟨0,_,H3,I4,st4,fun b hb=>(f3 b hb).1,w0⟩
  rintro n s5 ⟨i,σ5,H5,I5,st5,fr5,w5⟩
  rcases turn i n σ5 H5 w5 with ⟨stop,q⟩ | ⟨go,step⟩
  ·refine thn (T.done (Yw X M scope cl C fp s3 H3) rfl rfl rfl hc i [] s5 σ5 H5 _ I5 (fY fr5) st5 stop) fun r s6 ⟨hr,I6⟩=>?_
   subst hr
   obtain⟨m6,hn6,_⟩:=I6.loc
   refine fin l C s6 H5 m6 (I3.call' I6.os I6.base I6.hok I6.bare fun b hb=>?_) q hn6 I6.free (Ne.symm LC) sC cC pC
   obtain⟨_,z1,_,z3,z4,z5⟩:=f3 b hb
   exact⟨z3,z1,z4,z5⟩
  ·refine thn (T.item (Yw X M scope cl C fp s3 H3) rfl rfl rfl hc i [] s5 σ5 H5 _ I5 (fY fr5) st5 go) fun r s6 ⟨u,hr,h6⟩=>?_
   subst hr
   refine thn h6 fun _ s7 ⟨x,H7,I7,r7,y7,st7,fr7⟩=>?_
   have I7':=I7.pinned (fY fr7) (T.obj _ _ st7)
   refine thn (hg C fp s3 H3 _ s7 σ5 H7 x u _ I7' r7 (step x H7 y7)) fun _ s8 ⟨σ8,H8,I8,q8⟩=>?_
   refine thn (ht C fp s3 H3 _ s8 σ8 H8 _ I8 q8) fun ok s9 ⟨H9,I9,q9⟩=>?_
   have again:∀ {σ':St} {H':Hp} {s':Shared} {m':Nat},Inv (Yw X M scope cl C fp s3 H3) ([]++JW fp s7.heap) σ' H' s'->m' < n->W (i+1) m' σ' H'->∃ m,m<n/\∃ i σ' H',Inv (Yw X M scope cl C fp s3 H3) [] σ' H' s'/\tn i s'.heap/\(∀ b∈fp,H' b=none)/\W i m σ' H':=fun {σ' H' s' m'} I' hm w'=>by
    refine⟨m',hm,i+1,σ',H',I'.unpinned,T.keep _ _ _ st7 fun b hb o e=>(I'.pin (b,o) (List.mem_append_right _ (List.mem_append_right _ (XR hb e)))).1,fun b hb=>?_,w'⟩
    obtain⟨o,e,d⟩:=T.obj _ _ st7 b hb
    exact (I'.pin (b,o) (List.mem_append_right _ (List.mem_append_right _ (XR hb e)))).2.1
   cases ok with
   | false =>
    rw [if_neg Bool.false_ne_true]
    rw [if_neg Bool.false_ne_true] at q9
    obtain⟨m',hm,w'⟩:=q9
    exact again I9 hm w'
   | true =>
    rw [if_pos rfl]
    rw [if_pos rfl] at q9
    refine thn (he C fp s3 H3 _ s9 σ8 H9 _ I9 q9) fun v10 s10 ⟨y,H10,I10,r10,xs,hxs,hz,m',hm,w'⟩=>?_
    refine thn (VP _ s10 σ8 H10 (.ref l) [y] (.ref l) [v10] (fun _ H'=>H'=upd H10 l (.lst (xs++[y]))) I10 rfl (.cons r10 .nil) ⟨l,xs,y,rfl,rfl,hxs,hz,rfl⟩) fun _ s11 ⟨_,H11,I11,_,e11⟩=>?_
    subst e11
    exact again I11 hm w'
 exact codeAny_compStart_list (loop _ rfl) (T.self X.A 0 _ _ _ st4 (loop _ rfl))
theorem WN (S:Zb0 X scope M nt cap)(hc:X.calm=true)(hi:PI X target iter wi)
  (hg:∀ cl C fp s H,PG (Yw X M scope cl C fp s H) target g) (ht:∀ cl C fp s H,PTs (Yw X M scope cl C fp s H) ifs tt) (he:∀ cl C fp s H,PE (Yw X M scope cl C fp s H) elt te)
  (hs:∀ x,foldedSetIterable iter X.env x=pure x:=by intro _;rfl):PE X (.ListComp elt [⟨target,iter,ifs,0⟩] scope pos) (Zey wi nt cap g tt te):=by
 intro pins s σ H Q I h
 obtain⟨cl,h1,h2,h3⟩:=WD (scope:=scope) (env:=X.env) fun y hy hf=>I.ok.has y.1 (S.free y hy hf)
 rw [eval_ListComp]
 refine wpAny_comprehension_free (use:=none) rfl hs h1 S.kind S.names ?_
 refine ZaC S hc h2 h3 hi (hg cl) (ht cl) (he cl) I h fun l C s' H' m I' q hn hC hL hsz hcc hp=>?_
 refine⟨m,hn,fun h' hs'=>⟨.ref l,H',I'.turned (t':=s'.toks) (fun b o hb e=>(hs'.2 b hb).trans e) hC hL (.inr hsz) hcc hp,rfl,q⟩⟩
theorem Xz {i:Nat}{x:Str}{pos' pos2:Pos}(hN:X.N.Nodup)(hi':X.N[i]? = some x)(hx:Loc X.env.scope x)(S:Zb0 X scope M nt cap)(hc:X.calm=true)(hi:PI X target iter wi)
  (hg:∀ cl C fp s H,PG (Yw X M scope cl C fp s H) target g) (ht:∀ cl C fp s H,PTs (Yw X M scope cl C fp s H) ifs tt) (he:∀ cl C fp s H,PE (Yw X M scope cl C fp s H) elt te)
  (hsw:swapsWith (.ListComp elt [⟨target,iter,ifs,0⟩] scope pos) (some (.Name x pos')) pos2.line X.env=pure true:=by rfl)
  (hf:X.fn x=true\/X.env.scope.names.lookup x=some .local:=by first | exact .inl rfl | exact .inr rfl | assumption)
  (hs:∀ x,foldedSetIterable iter X.env x=pure x:=by intro _;rfl):PS X (.Assign [.Name x pos'] (.ListComp elt [⟨target,iter,ifs,0⟩] scope pos) pos2) (ZjZ (Zey wi nt cap g tt te) (Zbe i)):=by
 intro pins s σ H D I h
 obtain⟨cl,h1,h2,h3⟩:=WD (scope:=scope) (env:=X.env) fun y hy hf=>I.ok.has y.1 (S.free y hy hf)
 rw [exec_Assign_Name_used _ _ _ _ hsw]
 refine wpAny_bind (wpAny_standAt (wpAny_bind ?_))
 show wpAny _ X.A (do let _ <- comprehension (.ListComp elt [⟨target,iter,ifs,0⟩] scope pos) scope X.env _ (newList []) false (eval iter X.env) (some (assign (.Name x pos') X.env))) _ _ s
 refine wpAny_bind (wpAny_mono (wpAny_comprehension_free (use:=some (assign (.Name x pos') X.env)) (Q:=fun _ s'=>SP X pins D .next s') rfl hs h1 S.kind S.names ?_) (fun _ s' hq=>wpAny_pure (wpAny_pure hq)) fun _ _ e=>e)
 refine ZaC S hc h2 h3 hi (hg cl) (ht cl) (he cl) I h fun l C s' H' m I' q hn hC hL hsz hcc hp=>?_
 show wpAny _ X.A (assign (.Name x pos') X.env (.ref l)) _ _ _
 refine wpAny_assign_Name (JF I' hN hi' hx (v:=.ref l) rfl (fun s'' I'' hsb=>?_) hf)
 have hn'':s''.heap.Ns C m:=by
  obtain⟨a,hs',ha⟩:=hsb
  refine hn.sameBut hs' ?_
  rcases ha with ha | ha
  ·rw [ha];exact hL
  ·exact (hcc x a ha).symm
 refine⟨m,hn'',fun h' hs'=>⟨_,H',I''.turned (t':=s''.toks) (fun b o hb e=>(hs'.2 b hb).trans e) hC hL (.inr hsz) hcc hp,q⟩⟩
end
section
variable {X:Cx}
inductive EqD (K:W.Frag) (H:Hp):Nat->V->V->Bool->Prop where
 | flat {n:Nat} {x y:V} (fx:Ua x=true) (fy:Ua y=true):EqD K H n x y (eqV x y)
 | lst {n:Nat} {a b:Addr} {xs ys:List V} {e:Nat->Bool} (hx:SqL K H a xs) (hy:SqL K H b ys) (hl:xs.length=ys.length) (h:∀ (i:Nat) (x y:V),xs[i]? = some x->ys[i]? = some y->EqD K H n x y (e i)) :
   EqD K H (n+1) (.ref a) (.ref b) ((List.range xs.length).all e)
 | lsl {n:Nat} {a b:Addr} {xs ys:List V} (hx:SqL K H a xs) (hy:SqL K H b ys) (hl:xs.length≠ys.length):EqD K H (n+1) (.ref a) (.ref b) false
 | tup {n:Nat} {a b:Addr} {xs ys:List V} {e:Nat->Bool} (hx:SqT K H a xs) (hy:SqT K H b ys) (h:∀ (i:Nat) (x y:V),xs[i]? = some x->ys[i]? = some y->EqD K H n x y (e i)) :
   EqD K H (n+1) (.ref a) (.ref b) ((List.range (min xs.length ys.length)).all e&&xs.length == ys.length)
theorem Zfl {x:V}(f:Ua x=true):eqV x x=true:=by
 cases x with
 | non=>rfl
 | bl b=>exact beq_self_eq_true b
 | int i=>exact beq_self_eq_true i
 | str z=>exact beq_self_eq_true z
 | _=>cases (show false=true from f)
theorem ZdS {a b:Int}:eqV (.int a) (.int b)=(a == b):=rfl
theorem EqD.self {K:W.Frag}{H:Hp}{pins:List (Addr×Obj)}{σ:St}{s:Shared}(I:Inv X pins σ H s)(hK:X.K=K):∀ {n:Nat} {x y:V} {b:Bool},EqD K H n x y b->x=y->b=true:=by
 intro n x y b h
 induction h with
 | flat fx fy=>intro e;subst e;exact Zfl fx
 | lst hx hy hl h ih =>
  intro e
  cases e
  subst hK
  have:=I.list_inj hx hy
  subst this
  rw [List.all_eq_true]
  intro i hi
  have hi':=List.mem_range.mp hi
  exact ih i _ _ (List.getElem?_eq_getElem hi') (List.getElem?_eq_getElem hi') rfl
 | lsl hx hy hl =>
  intro e
  cases e
  subst hK
  exact absurd (congrArg List.length (I.list_inj hx hy)) hl
 | tup hx hy h ih =>
  intro e
  cases e
  subst hK
  have:=I.tuple_inj hx hy
  subst this
  rw [Bool.and_eq_true]
  refine⟨?_,by simp⟩
  rw [List.all_eq_true]
  intro i hi
  have hi':=List.mem_range.mp hi
  rw [Nat.min_self] at hi'
  exact ih i _ _ (List.getElem?_eq_getElem hi') (List.getElem?_eq_getElem hi') rfl
theorem Vals.at {xs:List V}{us:List Value}(r:Vals xs us){i:Nat}(h:i<us.length):∃ x,xs[i]? = some x/\RelV x us[i]:=by
 have hl:=r.length
 have hx:xs[i]? = some xs[i]:=List.getElem?_eq_getElem (by omega)
 obtain⟨u,e,ru⟩:=r.get hx
 rw [List.getElem?_eq_getElem h] at e
 cases e
 exact⟨_,hx,ru⟩
theorem EqD.at {pins:List (Addr×Obj)}{σ:St}{H:Hp}{s:Shared}(I:Inv X pins σ H s):∀ {n:Nat} {x y:V} {b:Bool},EqD X.K H n x y b->∀ {A:Around} {u v:Value},A.units+n<cLine->RelV x u->RelV y v->SeqAt.EqAt A s u v b:=by
 intro n x y b h
 induction h with
 | flat fx fy=>intro A u v _ rx ry;exact Zjl rx ry fx fy
 | @lst n a b xs ys e hx hy hl h ih =>
  intro A u v hu rx ry
  cases rx;cases ry
  by_cases hab:a=b
  ·have t:=(EqD.lst hx hy hl h).self I rfl (by rw [hab])
   rw [t,hab]
   exact SeqAt.EqAt.same _
  ·obtain⟨us,ru,pl,_⟩:=I.list hx
   obtain⟨vs,rv,pl2,_⟩:=I.list hy
   have l1:=ru.length
   have l2:=rv.length
   have:=SeqAt.RcAt.lists (A:=A) (s:=s) (e:=e) pl.isList pl2.isList (by simp;omega) (by omega) fun j h1 h2=>by
    obtain⟨x,ex,rx⟩:=ru.at (i:=j) (by simpa using h1)
    obtain⟨y,ey,ry⟩:=rv.at (i:=j) (by simpa using h2)
    exact ih j x y ex ey (A:=A.in1) (by show A.units+1+n<cLine;omega) (by simpa using rx) (by simpa using ry)
   have e1:us.toArray.size=xs.length:=by simp;omega
   rw [e1] at this
   exact SeqAt.EqAt.of_refs hab this
 | @lsl n a b xs ys hx hy hl =>
  intro A u v hu rx ry
  cases rx;cases ry
  obtain⟨us,ru,pl,_⟩:=I.list hx
  obtain⟨vs,rv,pl2,_⟩:=I.list hy
  have l1:=ru.length
  have l2:=rv.length
  have hab:a≠b:=fun z=>by subst z;exact hl (congrArg List.length (I.list_inj hx hy))
  exact SeqAt.EqAt.of_refs hab (SeqAt.RcAt.lists_lengths pl.isList pl2.isList (by simp;omega) (by omega))
 | @tup n a b xs ys e hx hy h ih =>
  intro A u v hu rx ry
  cases rx;cases ry
  by_cases hab:a=b
  ·have t:=(EqD.tup hx hy h).self I rfl (by rw [hab])
   rw [t,hab]
   exact SeqAt.EqAt.same _
  ·obtain⟨us,ru,pl,_⟩:=I.tuple hx
   obtain⟨vs,rv,pl2,_⟩:=I.tuple hy
   have l1:=ru.length
   have l2:=rv.length
   have:=SeqAt.RcAt.tuples (A:=A) (s:=s) (e:=e) (show s.heap.IsTuple a us.toArray from pl) (show s.heap.IsTuple b vs.toArray from pl2) (by omega) fun j h1 h2=>by
    obtain⟨x,ex,rx⟩:=ru.at (i:=j) (by simpa using h1)
    obtain⟨y,ey,ry⟩:=rv.at (i:=j) (by simpa using h2)
    exact ih j x y ex ey (A:=A.in1) (by show A.units+1+n<cLine;omega) (by simpa using rx) (by simpa using ry)
   have e1:us.toArray.size=xs.length:=by simp;omega
   have e2:vs.toArray.size=ys.length:=by simp;omega
   rw [e1,e2] at this
   exact SeqAt.EqAt.of_refs hab this
noncomputable def ZiH (K:W.Frag)(neg:Bool):R2:=fun x y H Q=>∃ a b k,x=.ref a/\y=.ref b/\EqD K H 60 x y k/\Q (.bl (if neg then !k else k)) H
theorem ZiX (hu:X.A.units+60<cLine):OpR X (compareOp .Eq) (ZiH X.K false):=by
 intro pins s σ H x y v u Q I rx ry h
 obtain⟨a,b,k,rfl,rfl,hE,q⟩:=h
 cases rx;cases ry
 cases hE with
 | flat fx fy=>exact absurd fx (by simp [Ua])
 | @lst _ _ _ xs ys e hx hy hl h =>
  obtain⟨us,ru,pl,_⟩:=I.list hx
  obtain⟨vs,rv,pl2,_⟩:=I.list hy
  have l1:=ru.length
  have l2:=rv.length
  refine SeqAt.eq_listAt (e:=e) pl.isList pl2.isList (by simp;omega) (by omega) (fun j h1 h2=>?_) ⟨.bl _,H,I,rfl,?_⟩
  ·obtain⟨x,ex,rx⟩:=ru.at (i:=j) (by simpa using h1)
   obtain⟨y,ey,ry⟩:=rv.at (i:=j) (by simpa using h2)
   exact (h j x y ex ey).at I (A:=X.A.in1) (by show X.A.units+1+59<cLine;omega) (by simpa using rx) (by simpa using ry)
  ·have e1:us.toArray.size=xs.length:=by simp;omega
   rw [e1]
   exact q
 | @lsl _ _ _ xs ys hx hy hl =>
  obtain⟨us,ru,pl,_⟩:=I.list hx
  obtain⟨vs,rv,pl2,_⟩:=I.list hy
  have l1:=ru.length
  have l2:=rv.length
  exact SeqAt.eq_list_lengthsAt pl.isList pl2.isList (by simp;omega) (by omega) ⟨.bl _,H,I,rfl,q⟩
 | @tup _ _ _ xs ys e hx hy h =>
  obtain⟨us,ru,pl,_⟩:=I.tuple hx
  obtain⟨vs,rv,pl2,_⟩:=I.tuple hy
  have l1:=ru.length
  have l2:=rv.length
  refine SeqAt.eq_tupleAt (e:=e) (show s.heap.IsTuple a us.toArray from pl) (show s.heap.IsTuple b vs.toArray from pl2) (by omega) (fun j h1 h2=>?_) ⟨.bl _,H,I,rfl,?_⟩
  ·obtain⟨x,ex,rx⟩:=ru.at (i:=j) (by simpa using h1)
   obtain⟨y,ey,ry⟩:=rv.at (i:=j) (by simpa using h2)
   exact (h j x y ex ey).at I (A:=X.A.in1) (by show X.A.units+1+59<cLine;omega) (by simpa using rx) (by simpa using ry)
  ·have e1:us.toArray.size=xs.length:=by simp;omega
   have e2:vs.toArray.size=ys.length:=by simp;omega
   rw [e1,e2]
   exact q
theorem ZiV (hu:X.A.units+60<cLine):OpR X (compareOp .NotEq) (ZiH X.K true):=by
 intro pins s σ H x y v u Q I rx ry h
 obtain⟨a,b,k,rfl,rfl,hE,q⟩:=h
 cases rx;cases ry
 cases hE with
 | flat fx fy=>exact absurd fx (by simp [Ua])
 | @lst _ _ _ xs ys e hx hy hl h =>
  obtain⟨us,ru,pl,_⟩:=I.list hx
  obtain⟨vs,rv,pl2,_⟩:=I.list hy
  have l1:=ru.length
  have l2:=rv.length
  refine SeqAt.RcNeAt.lists (A:=X.A) (s:=s) (e:=e) pl.isList pl2.isList (by simp;omega) (by omega) (fun j h1 h2=>?_) X.prog X.w X.xe _ ⟨.bl _,H,I,rfl,?_⟩
  ·obtain⟨x,ex,rx⟩:=ru.at (i:=j) (by simpa using h1)
   obtain⟨y,ey,ry⟩:=rv.at (i:=j) (by simpa using h2)
   exact (h j x y ex ey).at I (A:=X.A.in1) (by show X.A.units+1+59<cLine;omega) (by simpa using rx) (by simpa using ry)
  ·have e1:us.toArray.size=xs.length:=by simp;omega
   rw [e1]
   exact q
 | @lsl _ _ _ xs ys hx hy hl =>
  obtain⟨us,ru,pl,_⟩:=I.list hx
  obtain⟨vs,rv,pl2,_⟩:=I.list hy
  have l1:=ru.length
  have l2:=rv.length
  exact SeqAt.RcNeAt.lists_lengths pl.isList pl2.isList (by simp;omega) (by omega) X.prog X.w X.xe _ ⟨.bl _,H,I,rfl,q⟩
 | @tup _ _ _ xs ys e hx hy h =>
  obtain⟨us,ru,pl,_⟩:=I.tuple hx
  obtain⟨vs,rv,pl2,_⟩:=I.tuple hy
  have l1:=ru.length
  have l2:=rv.length
  refine SeqAt.RcNeAt.tuples (A:=X.A) (s:=s) (e:=e) (show s.heap.IsTuple a us.toArray from pl) (show s.heap.IsTuple b vs.toArray from pl2) (by omega) (fun j h1 h2=>?_) X.prog X.w X.xe _ ⟨.bl _,H,I,rfl,?_⟩
  ·obtain⟨x,ex,rx⟩:=ru.at (i:=j) (by simpa using h1)
   obtain⟨y,ey,ry⟩:=rv.at (i:=j) (by simpa using h2)
   exact (h j x y ex ey).at I (A:=X.A.in1) (by show X.A.units+1+59<cLine;omega) (by simpa using rx) (by simpa using ry)
  ·have e1:us.toArray.size=xs.length:=by simp;omega
   have e2:vs.toArray.size=ys.length:=by simp;omega
   rw [e1,e2]
   exact q
theorem Zbq:XD X (.builtin "isinstance") (fun xs H Q=>∃ x T t b,xs=[x,.ty T]/\Zbt X.K H x t/\W.kitOne X.K t (.type T)=some b/\Q (.bl b) H):=by
 intro pins s σ H xs us Q I r h
 obtain⟨x,T,t,b,rfl,ty,e,q⟩:=h
 obtain⟨u,v,rfl,ru,rv⟩:=Zb2 r
 cases (show v=Value.type T from rv)
 exact ZdE I ru ty e fun tk=>⟨.bl b,H,I.tok tk,rfl,q⟩
theorem Zi1 (K:W.Frag):W.kitOne K (.type "int") (.type "int")=some true:=by rfl
theorem Zi2 (K:W.Frag):W.kitOne K (.type "int") (.type "bool")=some false:=by rfl
theorem Zgj (K:W.Frag):W.kitOne K (.type "list") (.type "list")=some true:=by rfl
theorem Zgi (K:W.Frag):W.kitOne K (.type "tuple") (.type "tuple")=some true:=by rfl
theorem Zdq:MtR X "int.bit_length" (fun x vs H Q=>∃ i,x=.int i/\vs=[]/\Q (.int (Builtin.Int.intBits i:Nat)) H):=by
 intro pins s σ H x vs v us Q I rx rv h
 obtain⟨i,rfl,rfl,q⟩:=h
 obtain⟨t,rfl⟩:=rx
 cases rv.zero
 exact call_int_bit_length ⟨.int _,H,I.tok _,⟨_,rfl⟩,q⟩
noncomputable def ZcZ:V->List V->Hp->VK->Prop:=fun x vs H Q=>∃ l xs i y,x=.ref l/\vs=[.int i,y]/\H l=some (.lst xs)/\xs.length<sizeLine/\0<=i/\i<2^63/\Q .non (upd H l (.lst (xs.take (min i.toNat xs.length)++y::xs.drop (min i.toNat xs.length))))
theorem Zag:MtM X "list.insert" ZcZ:=by
 intro pins s σ H x vs v us Q I rx rv h
 obtain⟨l,xs,i,y,rfl,rfl,hH,hz,h0,h63,q⟩:=h
 cases rx
 obtain⟨u,u',rfl,ru,ru'⟩:=rv.two
 obtain⟨t,rfl⟩:=ru
 obtain⟨z,its,n,r,hl,e⟩:=I.lstM hH
 refine call_meets F.slot_list_insert ⟨_,e,rfl⟩ F.entry_list_insert (F.args_list_insert_3 _ _ _) (AutoSeq1.list_insert_list_int_val_1 l its.toArray n i t u' (by simp [Builtin.List.listFitsIndex];omega) (by rw [List.size_toArray];omega)) ⟨e,?_⟩
 refine⟨.non,_,I.lset (t':=s.toks) (its':=its.take (min i.toNat xs.length)++u'::its.drop (min i.toNat xs.length)) hH e ?_ ((r.take _).append (.cons ru' (r.drop _))) ?_,rfl,q⟩
 ·rw [if_neg (by omega),List.size_toArray]
  apply Array.ext'
  simp [hl]
  rw [List.take_of_length_le (by rw [List.length_drop];omega)]
 ·rw [List.length_append,List.length_take,List.length_cons,List.length_drop]
  omega
noncomputable def Zil (ta:TA):TE:=fun σ H Q=>ta σ H fun vs H1=>∃ j:Int,vs=[.int j]/\∀ p,H1 p=none->Q (.ref p) (upd H1 p (.rng 0 j))
theorem Zdd {a:Expr} {ta:TA} {p pos:Pos} (hg:Gl X "range") (hm:X.mg "range" = none) (ha:PA X [a] ta) (hs:starEach [a] X.env=[(false,eval a X.env)]:=by rfl):PE X (.Call (.Name "range" p) [a] [] pos) (Zil ta):=by
 intro pins s σ H Q I h
 refine wpAny_Call_Name_kw (ld_blt I hg hm boot_range (PyProof.Rows.callWith_type1 (thn (ha pos pins s σ H _ I h) fun us s1 ⟨vs,H1,I1,r1,q1⟩=>?_) hs rfl))
 obtain⟨j,e,q⟩:=q1
 subst e
 obtain⟨u,rfl,t,rfl⟩:=WI r1
 refine call_range_1 ⟨.ref s1.heap.objs.size,_,I1.laid (o:=.rng 0 j) (fun b o e=>Heap.get?_push_of_some _ e) (Nat.le_refl _) ⟨_,_,_,Heap.get?_push_size _ rfl⟩,rfl,q _ I1.fresh⟩
theorem Zi8:PIp X .BitOr (rI0 fun i j=>.int (Builtin.bitOr i j)):=Zi9
theorem Zfb:ZkL X (ZeA X.K):=by
 intro pins s σ H o i ov iv Q I ro ri h
 obtain⟨p,xs,k,v,rfl,rfl,hq,hx,q⟩:=h
 cases ro
 obtain⟨t,rfl⟩:=ri
 obtain⟨its,r,pl,hz⟩:=I.list hq
 obtain⟨j,h1,h2,h3,h4,h5⟩:=Zbs hx
 obtain⟨w,ew,rw'⟩:=r.get h2
 have hl:=r.length
 have hn:=Zan
 have fin:EP X pins σ Q w s:=⟨_,H,I,rw',q⟩
 by_cases h0:0<=k
 ·have hj:k.toNat=j:=by
   rw [seqIndex_of h0 h5] at h1
   exact Option.some.inj h1
  exact wpAny_getItem_list pl.isList h0 (by omega) (by rw [hj];simpa using ew) fin
 ·have hj:(k+(its.toArray.size:Int)).toNat=j:=by
   rw [seqIndex_neg (by omega) h4] at h1
   rw [List.size_toArray,<- hl]
   exact Option.some.inj h1
  exact wpAny_getItem_list_neg pl.isList (by omega) (by rw [List.size_toArray]<;>omega) (by omega) (by rw [hj];simpa using ew) fin
end
section
variable {K:W.Frag}{nt:Nat}{cap:List Nat}{g:TG}{tt:TT}{te:TE}{σ:St}{H₀:Hp}{Q:VK}{l:Addr}
noncomputable def CW (n nt:Nat)(l:Addr)(cs:St)(H₀:Hp)(P:Nat->List V->Hp->Prop):Nat->Nat->St->Hp->Prop:=fun i m σ H =>
 m=n-i/\i<=n/\∃ acc pre,acc.length<=i/\H l=some (.lst acc)/\pre.length=nt/\σ=pre++cs/\Same H₀ H/\P i acc H
noncomputable def ZkO (n nt:Nat)(l:Addr)(cs:St)(H₀:Hp)(P:Nat->List V->Hp->Prop)(i m:Nat)(σ2:St):VK:=fun y H5 =>
 ∃ xs,H5 l=some (.lst xs)/\xs.length<sizeLine/\∃ m',m' < m/\CW n nt l cs H₀ P (i+1) m' σ2 (upd H5 l (.lst (xs++[y])))
noncomputable def CNo (n nt:Nat)(l:Addr)(cs:St)(H₀:Hp)(P:Nat->List V->Hp->Prop)(i m:Nat)(σ2:St):Hp->Prop:=fun H4 =>
 ∃ m',m' < m/\CW n nt l cs H₀ P (i+1) m' σ2 H4
noncomputable def Off (l:Addr)(P:Nat->List V->Hp->Prop):Prop:=∀ i acc H H',(∀ b o,b≠l->H b=some o->H' b=some o)->P i acc H->P i acc H'
structure Ct (n nt:Nat)(l:Addr)(cs:St)(H₀:Hp)(P:Nat->List V->Hp->Prop)(i m:Nat)(acc:List V)(H:Hp):Prop where
 hi:i<n
 hm:m=n-i
 hn:n<=sizeLine
 ha:acc.length<=i
 hl:H l=some (.lst acc)
 fr:H₀ l=none
 sm:Same H₀ H
 off:Off l P
 hp:P i acc H
theorem Ct.yes {n i m:Nat}{cs:St}{P:Nat->List V->Hp->Prop}{acc:List V}{H H5:Hp}{y:V}{σ2 pre:St}(c:Ct n nt l cs H₀ P i m acc H)(s:Same H H5)(p:P (i+1) (acc++[y]) H5)(hp:pre.length=nt)(hσ:σ2=pre++cs) :
  ZkO n nt l cs H₀ P i m σ2 y H5:=by
 have:=c.hi;have:=c.ha;have:=c.hn;have:=c.hm
 refine⟨acc,s _ _ c.hl,by omega,n-(i+1),by omega,rfl,by omega,acc++[y],pre,by rw [List.length_append,List.length_singleton];omega,Zd,hp,hσ,fun b o e=>?_,c.off _ _ _ _ (fun b o hb e=>by rw [Zh hb];exact e) p⟩
 rw [Zh (Zj e c.fr)]
 exact s _ _ (c.sm _ _ e)
theorem Ct.no {n i m:Nat}{cs:St}{P:Nat->List V->Hp->Prop}{acc:List V}{H H5:Hp}{σ2 pre:St}(c:Ct n nt l cs H₀ P i m acc H)(s:Same H H5)(p:P (i+1) acc H5)(hp:pre.length=nt)(hσ:σ2=pre++cs) :
  CNo n nt l cs H₀ P i m σ2 H5:=by
 have:=c.hi;have:=c.ha;have:=c.hm
 exact⟨n-(i+1),by omega,rfl,by omega,acc,pre,by omega,s _ _ c.hl,hp,hσ,c.sm.trans s,p⟩
structure Jw (J:It)(H₀:Hp)(n:Nat)(R:Nat->V->Hp->Prop):Prop where
 go:∀ i H,Same H₀ H->i<n->J.go i H
 yld:∀ i H x H',Same H₀ H->i<n->J.yld i H x H'->Same H H'/\R i x H'
 stop:∀ i H,Same H₀ H->n<=i->J.stop i H
theorem VU {a:Addr}{xs:List V}(h:SqL K H₀ a xs):Jw (Itl K a) H₀ xs.length (fun i x _=>xs[i]? = some x) where
 go:=fun i H s hi=>⟨xs,xs[i],s.seq h,List.getElem?_eq_getElem hi⟩
 yld:=fun i H x H' s hi y=>by
  obtain⟨rfl,y⟩:=y
  exact⟨Same.refl _,y xs (s.seq h)⟩
 stop:=fun i H s hi=>⟨xs,s.seq h,hi⟩
theorem XS {lo:Int}{n:Nat}:Jw (Itr lo n) H₀ n (fun i x _=>x=.int (lo+i)) where
 go:=fun i H s hi=>hi
 yld:=fun i H x H' s hi y=>by
  obtain⟨rfl,y⟩:=y
  exact⟨Same.refl _,y⟩
 stop:=fun i H s hi=>hi
theorem Same.tup {H H':Hp}{a:Addr}{xs:List V}(e:Same H H')(h:SqT K H a xs):SqT K H' a xs:=by
 rcases h with (h | ⟨o,h⟩) | h
 ·exact .inl (.inl (e _ _ h))
 ·exact .inl (.inr ⟨o,e _ _ h⟩)
 ·exact .inr h
theorem Same.upd {H:Hp}{l:Addr}{o:HO}(h:H l=none):Same H (upd H l o):=fun b u e=>by rw [Zh (Zj e h)];exact e
theorem Zhp {J:It}{n:Nat}{R:Nat->V->Hp->Prop}(hJ:Jw J H₀ n R)(P:Nat->List V->Hp->Prop)(hz:n<=sizeLine)(off:Off l P)(fr:H₀ l=none)(h0:P 0 [] H₀)
  (step:∀ (i m:Nat) (x:V) (acc:List V) (pre:St) (H:Hp),R i x H->pre.length=nt->Ct n nt l (cap.map fun k=>(σ[k]?).join) H₀ P i m acc H ->
   g x (pre++(cap.map fun k=>(σ[k]?).join)) H fun σ2 H3=>tt σ2 H3 fun b H4=>if b=true then te σ2 H4 (ZkO n nt l (cap.map fun k=>(σ[k]?).join) H₀ P i m σ2) else CNo n nt l (cap.map fun k=>(σ[k]?).join) H₀ P i m σ2 H4)
  (done:∀ (acc:List V) (H:Hp),Same H₀ H->H l=some (.lst acc)->P n acc H->Q (.ref l) H) :
  ∃ W:Nat->Nat->St->Hp->Prop,(∃ m,W 0 m (Zgq nt cap σ) (upd H₀ l (.lst [])))/\∀ i m σ' H',W i m σ' H' ->
  (J.stop i H'/\Q (.ref l) H')\/(J.go i H'/\∀ x H2,J.yld i H' x H2->g x σ' H2 fun σ2 H3=>tt σ2 H3 fun b H4 =>
   if b=true then te σ2 H4 fun y H5=>∃ xs,H5 l=some (.lst xs)/\xs.length<sizeLine/\∃ m',m' < m/\W (i+1) m' σ2 (upd H5 l (.lst (xs++[y])))
   else ∃ m',m' < m/\W (i+1) m' σ2 H4):=by
 refine⟨CW n nt l (cap.map fun k=>(σ[k]?).join) H₀ P,⟨n,by omega,by omega,[],List.replicate nt none,by simp,Zd,by simp,rfl,Same.upd fr,off _ _ _ _ (fun b o hb e=>by rw [Zh hb];exact e) h0⟩,?_⟩
 rintro i m σ' H' ⟨rfl,hi,acc,pre,ha,hl,hp,rfl,sm,p⟩
 by_cases hlt:i<n
 ·refine .inr ⟨hJ.go i H' sm hlt,fun x H2 y=>?_⟩
  obtain⟨s2,r⟩:=hJ.yld i H' x H2 sm hlt y
  exact step i (n-i) x acc pre H2 r hp ⟨hlt,rfl,hz,ha,s2 _ _ hl,fr,sm.trans s2,off,off _ _ _ _ (fun b o _ e=>s2 _ _ e) p⟩
 ·have e:i=n:=by omega
  subst e
  exact .inl ⟨hJ.stop i H' sm (Nat.le_refl _),done acc H' sm hl p⟩
end
structure Blt (mg:Str->Option Value):Prop where
 len:mg "len" = none
 range:mg "range" = none
 list:mg "list" = none
 int:mg "int" = none
 bool:mg "bool" = none
 tuple:mg "tuple" = none
 isinstance:mg "isinstance" = none
 min:mg "min" = none
 max:mg "max" = none
 all:mg "all" = none
 enumerate:mg "enumerate" = none
noncomputable def FdAt (K:W.Frag)(f:Addr)(fd:FuncData):Prop:=∃ oc od osl,K.lookup f=some ⟨oc,od,.func fd,osl⟩
theorem FdAt.one {K:W.Frag}{f:Addr}{fd fd':FuncData}(h:FdAt K f fd)(h':FdAt K f fd'):fd=fd':=by
 obtain⟨oc,od,osl,e⟩:=h
 obtain⟨oc',od',osl',e'⟩:=h'
 rw [e] at e'
 cases e'
 rfl
theorem Fun.fd {K:W.Frag}{x q:Str}{st:Stmt}{f:Addr}{fd:FuncData}(F:Fun K x q st f fd):FdAt K f fd:=by
 obtain⟨oc,od,kV,doc,pm,an,cdv,ct,osl,rfl,lk,hcd⟩:=F.ex
 exact⟨oc,od,osl,lk⟩
noncomputable def Fn (P:Program)(w:World)(K:W.Frag)(mg:Str->Option Value)(base:Heap)(k:Nat)(x:Str)(ps:List Str)(sp:Sp):Prop :=
 ∃ f fd,FnOk P w K mg base CX0 k f fd ps sp/\mg x=some (.ref f)/\W.keepIn K (.ref f)=true/\Binds K fd ps []/\FdAt K f fd
noncomputable def Src (K:W.Frag)(mg:Str->Option Value)(x:Str)(st:Stmt)(ps:List Str):Prop :=
 ∃ f fd,mg x=some (.ref f)/\Fun K x x st f fd/\Binds K fd ps []
theorem Src.fn {P:Program}{w:World}{K:W.Frag}{mg:Str->Option Value}{base:Heap}{x:Str}{st:Stmt}{ps N:List Str}{sp:Sp}{k:Nat}(S:Src K mg x st ps)(sc:Zm N ps (Zg st))(len:∀ vs H Q E,sp vs H Q E->vs.length=ps.length)
  (hbody:∀ (f:Addr) (cdv:Value) (A:Around) (outer:List Env) (s:Shared) (H:Hp) (vs:List V) (Q:VK) (E:XK),Room k (A.deeper (envOfC x (Zg st) s.heap.objs.size f cdv))->sp vs H Q E ->
   ∃ t,PSs (Zeq CX0 P w K mg base N x (Zg st) f cdv A outer s H E).nox (ZR st) t/\t { nx:=fun _ H'=>Q .non H',rt:=Q } (start N vs) H):Fn P w K mg base (k+1) x ps sp:=by
 obtain⟨f,fd,hm,F,b⟩:=S
 exact⟨f,fd,F.ok sc len (hbody f),hm,F.kp,b,F.fd⟩
section
variable {X:Cx}
theorem Zi {k:Nat}{x:Str}{ps:List Str}{sp:Sp}{p pos:Pos}{e:Expr}{es:List Expr}{t:TA}(F:Fn X.prog X.w X.K X.mg X.base k x ps sp)(hr:Room k X.A)(hg:Gl X x)(ha:PA X (e::es) t)
  (hdb:(x == ("__debug__" : Str))=false:=by decide) (he:starEach (e::es) X.env=(false,eval e X.env)::starEach es X.env:=by rfl) (hpl:(backTo pos (starEach es X.env)).any (·.1)=false:=by rfl) :
  PE X (.Call (.Name x p) (e::es) [] pos) (ZaU sp [] E0 t):=by
 intro pins s σ H Q I h
 obtain⟨f,fd,F,hm,hk,hb,_⟩:=F
 exact Zdh F hr hg hm hk hb .nil Zkk ha hdb he hpl pins s σ H Q I h
end
theorem Wm {A:Around}{k:Nat}(hr:Room k A):A.units+60<cLine:=by have:=hr.units;omega
section
variable {X:Cx}
noncomputable def rOr (r r':R2):R2:=fun x y H Q=>r x y H Q\/r' x y H Q
theorem Yr:OpR X (binaryOp .Add) (rOr (rI0 fun i j=>.int (i+j)) Zki):=ZiZ.or ZiY
theorem ZgY:OpR X (binaryOp .Mult) (rI IntMulOk fun i j=>.int (i*j)):=opI fun _ _ _ _ _ _ _ hc q=>mul_int q hc
theorem Wh:OpR X (binaryOp .Mult) (rOr (rI IntMulOk fun i j=>.int (i*j)) Zkg):=ZgY.or ZiU
variable {a b o e l:Expr}{es:List Expr}{ta tb te tl to:TE}{ti:TA}{pos p apos cpos:Pos}
theorem Yv (K:W.Frag)(hu:X.A.units+60<cLine)(hK:X.K=K:=by rfl):OpR X (compareOp .Eq) (rOr rEq (ZiH K false)):=by subst hK;exact Zkn.or (ZiX hu)
theorem Ww (K:W.Frag)(hu:X.A.units+60<cLine)(hK:X.K=K:=by rfl):OpR X (compareOp .NotEq) (rOr rNe (ZiH K true)):=by subst hK;exact Zkl.or (ZiV hu)
theorem ixL (K:W.Frag)(hK:X.K=K:=by rfl):IxR X (ZeA K):=by subst hK;exact Zhb
theorem ixT (K:W.Frag)(hK:X.K=K:=by rfl):IxR X (Zkh K):=by subst hK;exact Zi7
theorem piL (K:W.Frag){tg:Expr}(hl:PE X l tl)(hK:X.K=K:=by rfl):PI X tg l (Zhe K tl):=by subst hK;exact ZgS hl
theorem pgT (K:W.Frag){es:List Expr}{k:Nat}{t:TGs}{n:Nat}(hc:X.calm=true)(h:PGs X es t)(hn:(assignEach es X.env).length=n:=by rfl)(hst:(assignEach es X.env).findIdx? (·.1)=none:=by rfl)(hK:X.K=K:=by rfl):PG X (.Tuple es k pos) (Zjg K n t):=by
 subst hK;exact ZiO hc h hn hst
noncomputable def Zk1 (K:W.Frag):List V->Hp->VK->Prop:=fun xs H Q=>∃ p ys,xs=[.ref p]/\(SqL K H p ys\/SqT K H p ys)/\Q (.int ys.length) H
theorem ZI (K:W.Frag) (hK:X.K=K:=by rfl):XD X (.builtin "len") (Zk1 K):=by subst hK;exact ZaG
noncomputable def Zf7 (K:W.Frag):List V->Hp->VK->Prop:=fun xs H Q=>∃ p ys,xs=[.ref p]/\(SqL K H p ys\/SqT K H p ys)/\∀ l,H l=none->Q (.ref l) (upd H l (.lst ys))
noncomputable def ZiC:List V->Hp->VK->Prop:=fun xs H Q=>∃ p j,xs=[.ref p]/\H p=some (.rng 0 j) /\ -(2^62)<=j/\j<=2^20/\∀ l,H l=none->Q (.ref l) (upd H l (.lst ((List.range j.toNat).map fun (k:Nat)=>V.int (k:Int))))
theorem WG (K:W.Frag) (hK:X.K=K:=by rfl):XD X (.type "list") (Zf7 K):=by subst hK;exact ZaF
noncomputable def Zlj (K:W.Frag):List V->Hp->VK->Prop:=fun xs H Q=>∃ p,∃ bs:List Bool,xs=[.ref p]/\SqL K H p (bs.map V.bl)/\Q (.bl (bs.all id)) H
noncomputable def Zk2 (K:W.Frag):List V->Hp->VK->Prop:=fun xs H Q=>∃ x T t b,xs=[x,.ty T]/\Zbt K H x t/\W.kitOne K t (.type T)=some b/\Q (.bl b) H
theorem WV (K:W.Frag) (hK:X.K=K:=by rfl):XD X (.builtin "isinstance") (Zk2 K):=by subst hK;exact Zbq
theorem slL (K:W.Frag)(hK:X.K=K:=by rfl):SlR X (Zkf K):=by subst hK;exact ZgE
theorem Zj2 (K:W.Frag)(hK:X.K=K:=by rfl):ZkL X (ZeA K):=by subst hK;exact Zfb
noncomputable def Zkc (K:W.Frag)(te:TE):TE:=fun σ H Q=>te σ H fun x H1=>∃ a xs,x=.ref a/\SqL K H1 a xs/\∀ p,H1 p=none->Q (.ref p) (upd H1 p (.lst xs.reverse))
section
variable {name:Str}{T id:String}{r:V->List V->Hp->VK->Prop}
theorem ZiR (K:W.Frag) (pa:PlainAttrs T) (slot:Slot T name id) (hty:typeOf (.builtin id)=pure (.type "method_descriptor")) (hm:MtR X id r) (ho:PE X o to)
  (hbase:attributeBase o name X.env (eval o X.env)=eval o X.env:=by rfl) (hline:(apos.endLine == cpos.line)=true:=by rfl) (hK:X.K=K:=by rfl):PE X (.Call (.Attribute o name apos) [] [] cpos) (Zke K T r to):=by
 subst hK;exact ZiQ pa slot hty hm ho hbase hline
theorem Zgb (K:W.Frag) (pa:PlainAttrs T) (slot:Slot T name id) (hty:typeOf (.builtin id)=pure (.type "method_descriptor")) (hm:MtR X id r) (ho:PE X o to) (ha:PA X (e::es) ti)
  (hbase:attributeBase o name X.env (eval o X.env)=eval o X.env:=by rfl)
  (hfew:((backTo cpos (starEach (e::es) X.env)).all (fun x=>!x.1)&&(backToKw cpos (keywordEach [] X.env)).all (fun x=>x.1.isSome)
   && decide ((e::es).length+([]:List Keyword).length+(if ([]:List Keyword).isEmpty then 0 else 1)<30))=true:=by rfl)
  (hline:(apos.endLine == cpos.line)=true:=by rfl) (hs:starEach (e::es) X.env=(false,eval e X.env)::starEach es X.env:=by rfl) (hplain:(backTo cpos (starEach es X.env)).any (·.1)=false:=by rfl) (hK:X.K=K:=by rfl) :
  PE X (.Call (.Attribute o name apos) (e::es) [] cpos) (tBM K T r to ti):=by
 subst hK;exact Zkj pa slot hty hm ho ha hbase hfew hline hs hplain
end
theorem YZ {scope:Scope}{M:List Str}{nt:Nat}{cap:List Nat}(scX:Scope)(N:List Str)(hX:X.env.scope=scX)(hN:X.N=N)(kind:scope.kind=.function)(cells:∀ y∈scope.names,y.2≠.cell)
  (names:∀ y∈scope.names,y.2=.local->scope.names.lookup y.1=some .local) (free:∀ y∈scope.names,y.2=.free->scX.names.lookup y.1=some .cell\/scX.names.lookup y.1=some .free)
  (caps:∀ j,j<cap.length->∃ x k,cap[j]? = some k/\M[nt+j]? = some x/\N[k]? = some x/\scope.names.lookup x=some .free) (len:M.length=nt+cap.length):Zb0 X scope M nt cap:=by
 subst hX hN;exact⟨kind,cells,names,free,caps,len⟩
end
theorem Yh {i j:Int}(h:(-(2^64)<i/\i<2^64)\/(-(2^64)<j/\j<2^64)):IntMulOk i j:=CMul.ok h
section
variable {t u:TS}{D:WH}{σ:St}{H:Hp}{te ta tb:TE}{tt tu:TT}{ti:TA}{g:TG}{gs:TGs}{Q:VK}{B:Bool->Hp->Prop}{L:List V->Hp->Prop}{r r':R2}{i:Nat}{v:V}{S:St->Hp->Prop}{K:W.Frag}
theorem Zjx:ZcK t u D σ H=t { nx:=u D,rt:=D.rt,bk:=D.bk,ct:=D.ct } σ H:=rfl
theorem ZhK:Zip D σ H=D.nx σ H:=rfl
theorem ZjV:ZjZ te g D σ H=te σ H fun x H1=>g x σ H1 D.nx:=rfl
theorem ZfN:Zbe i v σ H S=S (σ.set i (some v)) H:=rfl
theorem Zju:ZcI i σ H Q=∃ v,σ[i]? = some (some v)/\Q v H:=rfl
theorem Zlo:tC v σ H Q=Q v H:=rfl
theorem ZjA:ZkS te D σ H=te σ H D.rt:=rfl
theorem ZhC:Zkd D σ H=D.rt .non H:=rfl
theorem ZhW:Zir te D σ H=te σ H fun _ H1=>D.nx σ H1:=rfl
theorem ZkH:ZkW tt t u D σ H=tt σ H fun b H1=>if b=true then t D σ H1 else u D σ H1:=rfl
theorem ZjN:tIf tt ta tb σ H Q=tt σ H fun c H1=>if c=true then ta σ H1 Q else tb σ H1 Q:=rfl
theorem ZkF:tOp r ta tb σ H Q=ta σ H fun x H1=>tb σ H1 fun y H2=>r x y H2 Q:=rfl
theorem ZkA {r:V->Hp->VK->Prop}:tUn r ta σ H Q=ta σ H fun x H1=>r x H1 Q:=rfl
theorem Zhw:Zik te σ H B=te σ H fun x H'=>∃ k,x=.bl k/\B k H':=rfl
theorem Zlp:tB te σ H B=te σ H fun x H'=>∃ k,x=.bl k/\B k H':=rfl
theorem ZjW:ZkZ tt tu σ H B=tt σ H fun c H1=>if c=true then tu σ H1 B else B false H1:=rfl
theorem ZkE:tOr tt tu σ H B=tt σ H fun c H1=>if c=true then B true H1 else tu σ H1 B:=rfl
theorem ZjG:ZkT tt σ H B=tt σ H fun c H1=>B (!c) H1:=rfl
theorem Zh6:Ziu ta tb σ H Q=ta σ H fun x H1=>∃ c,x=.bl c/\if c=true then tb σ H1 Q else Q (.bl false) H1:=rfl
theorem ZjF:Zle ta tb σ H Q=ta σ H fun x H1=>∃ c,x=.bl c/\if c=true then Q (.bl true) H1 else tb σ H1 Q:=rfl
theorem ZhJ:Zio ta σ H Q=ta σ H fun x H1=>∃ c,x=.bl c/\Q (.bl (!c)) H1:=rfl
theorem ZjH:ZkU σ H L=L [] H:=rfl
theorem ZhZ:Zit ta ti σ H L=ta σ H fun x H1=>ti σ H1 fun xs H2=>L (x::xs) H2:=rfl
theorem ZjI:ZkV ti σ H Q=ti σ H fun xs H1=>xs.length<=sizeLine/\∀ p,H1 p=none->Q (.ref p) (upd H1 p (.lst xs)):=rfl
theorem Zjv:ZkR ti σ H Q=ti σ H fun xs H1=>xs.length<=sizeLine/\∀ p,H1 p=none->Q (.ref p) (upd H1 p (.tup xs)):=rfl
theorem ZkI {r:List V->Hp->VK->Prop}:tCB r ti σ H Q=ti σ H fun vs H1=>r vs H1 Q:=rfl
theorem Zh1 {sp:Sp}:ZaU sp [] E0 ti σ H Q=ti σ H fun vs H1=>sp vs H1 Q E0:=by
 unfold ZaU;simp only [List.append_nil]
theorem Zjy {x y:V}:rOr r r' x y H Q=(r x y H Q\/r' x y H Q):=rfl
theorem ZjC {f:Int->Int->V}{x y:V}:rI0 f x y H Q=∃ i j,x=.int i/\y=.int j/\Q (f i j) H:=rfl
theorem ZkD {C:Int->Int->Prop}{f:Int->Int->V}{x y:V}:rI C f x y H Q=∃ i j,x=.int i/\y=.int j/\C i j/\Q (f i j) H:=rfl
theorem ZkC {f:Int->V}{x:V}:rU f x H Q=∃ i,x=.int i/\Q (f i) H:=rfl
theorem ZjD {x y:V}:rEq x y H Q=(Ziv x y=true/\Q (.bl (decide (x=y))) H):=rfl
theorem ZjB {x y:V}:rNe x y H Q=(Ziv x y=true/\Q (.bl (!decide (x=y))) H):=rfl
theorem ZhG {neg:Bool}{x y:V}:ZiH K neg x y H Q=∃ a b k,x=.ref a/\y=.ref b/\EqD K H 60 x y k/\Q (.bl (if neg then !k else k)) H:=rfl
theorem ZhH {x y:V}:Zki x y H Q=∃ l b xs zs,x=.ref l/\y=.ref b/\H l=some (.lst xs)/\H b=some (.lst zs)/\xs.length+zs.length<=sizeLine/\∀ p,H p=none->Q (.ref p) (upd H p (.lst (xs++zs))):=rfl
theorem ZhF {x y:V}:Zkg x y H Q=∃ l k xs,x=.ref l/\y=.int k/\H l=some (.lst xs) /\ -(2^63)<=k/\k<2^63/\xs.length*k.toNat<=sizeLine/\∀ p,H p=none->Q (.ref p) (upd H p (.lst (List.replicate k.toNat xs).flatten)):=rfl
theorem ZjK {x y:V}:ZeA K x y H Q=∃ p xs i v,x=.ref p/\y=.int i/\SqL K H p xs/\atI xs i=some v/\Q v H:=rfl
theorem ZjJ {x y:V}:Zkh K x y H Q=∃ p xs i v,x=.ref p/\y=.int i/\SqT K H p xs/\atI xs i=some v/\Q v H:=rfl
theorem ZkG {neg:Bool}{x y:V}:rIn K neg x y H Q=∃ p xs,y=.ref p/\(SqL K H p xs\/SqT K H p xs)/\Ua x=true/\xs.all Ua=true/\Q (.bl (if neg then !inV x xs else inV x xs)) H:=rfl
theorem ZkB {r:V->Option Int->Option Int->Hp->VK->Prop}{tl th:TO}:tSl r te tl th σ H Q=te σ H fun x H1=>tl σ H1 fun l H2=>th σ H2 fun u H3=>r x l u H3 Q:=rfl
theorem ZhI {W:Option Int->Hp->Prop}:Zin te σ H W=te σ H fun x H1=>∃ i,x=.int i/\W (some i) H1:=rfl
theorem Zed {W:Option Int->Hp->Prop}:ZgB σ H W=W none H:=rfl
theorem Zjw {x:V}{lo hi:Option Int}:Zkf K x lo hi H Q=∃ a xs,x=.ref a/\SqL K H a xs/\∀ p,H p=none->Q (.ref p) (upd H p (.lst (Zho xs lo hi))):=rfl
theorem ZjS {T:String}{r:V->List V->Hp->VK->Prop}:Zke K T r te σ H Q=te σ H fun x H1=>tyV K T x H1/\r x [] H1 Q:=rfl
theorem ZkJ {T:String}{r:V->List V->Hp->VK->Prop}:tBM K T r te ti σ H Q=te σ H fun x H1=>tyV K T x H1/\ti σ H1 fun xs H2=>r x xs H2 Q:=rfl
theorem Zeh {x:V}{vs:List V}:Zc0 x vs H Q=∃ l xs y,x=.ref l/\vs=[y]/\H l=some (.lst xs)/\xs.length<sizeLine/\Q .non (upd H l (.lst (xs++[y]))):=rfl
theorem Zef {x:V}{vs:List V}:ZcZ x vs H Q=∃ l xs i y,x=.ref l/\vs=[.int i,y]/\H l=some (.lst xs)/\xs.length<sizeLine/\0<=i/\i<2^63/\Q .non (upd H l (.lst (xs.take (min i.toNat xs.length)++y::xs.drop (min i.toNat xs.length)))):=rfl
theorem Zhz:Zil ti σ H Q=ti σ H fun vs H1=>∃ j:Int,vs=[.int j]/\∀ p,H1 p=none->Q (.ref p) (upd H1 p (.rng 0 j)):=rfl
theorem ZfL {R:It->Hp->Prop}:Zhe K te σ H R=te σ H fun x H1=>∃ a,x=.ref a/\(∃ xs,SqL K H1 a xs)/\R (Itl K a) H1:=rfl
theorem ZfJ {R:It->Hp->Prop}:Zjd ti σ H R=ti σ H fun vs H1=>∃ j:Int,vs=[.int j] /\ -(2^62)<=j/\j<2^62/\R (Itr 0 j.toNat) H1:=rfl
theorem ZfI {R:It->Hp->Prop}:Zjc ti σ H R=ti σ H fun vs H1=>∃ i j:Int,vs=[.int i,.int j]/\(-(2^62)<=i/\i<2^62 /\ -(2^62)<=j/\j<2^62)/\R (Itr i (j-i).toNat) H1:=rfl
theorem ZhP {n:Nat}:Zjg K n gs v σ H S=∃ a xs,v=.ref a/\SqT K H a xs/\xs.length=n/\gs xs σ H S:=rfl
theorem ZfO {vs:List V}:ZdK g gs vs σ H S=∃ v r,vs=v::r/\g v σ H fun σ' H'=>gs r σ' H' S:=rfl
theorem ZhR {vs:List V}:Zj3 vs σ H S=(vs=[]/\S σ H):=rfl
theorem ZhQ {ts:Zh9}:Zk6 ta tb ts v σ H S=ta σ H fun o H1=>tb σ H1 fun i H2=>ts o i v H2 fun H3=>S σ H3:=rfl
theorem Zhy {o k x:V}{Z:Hp->Prop}:Zb9 o k x H Z=∃ p xs i j,o=.ref p/\k=.int i/\H p=some (.lst xs)/\ixN xs.length i=some j/\Z (upd H p (.lst (xs.set j x))):=rfl
theorem ZjU {tip:TIp}:Zlf i te tip D σ H=∃ x,σ[i]? = some (some x)/\te σ H fun y H1=>tip x y H1 fun z H2=>D.nx (σ.set i (some z)) H2:=rfl
theorem Zh5 {tget:V->V->Hp->VK->Prop}{tip:TIp}{ts:Zh9}{ti:TE}:tAugS ta ti te tget tip ts D σ H=ta σ H fun o H1=>ti σ H1 fun i H2=>tget o i H2 fun x H3=>te σ H3 fun y H4=>tip x y H4 fun z H5=>ts o i z H5 fun H6=>D.nx σ H6:=rfl
theorem ZhA {xs:List V}:Zk1 K xs H Q=∃ p ys,xs=[.ref p]/\(SqL K H p ys\/SqT K H p ys)/\Q (.int ys.length) H:=rfl
theorem ZhD {xs:List V}:Zlj K xs H Q=∃ p,∃ bs:List Bool,xs=[.ref p]/\SqL K H p (bs.map V.bl)/\Q (.bl (bs.all id)) H:=rfl
theorem ZhB {xs:List V}:Zk2 K xs H Q=∃ x T t b,xs=[x,.ty T]/\Zbt K H x t/\W.kitOne K t (.type T)=some b/\Q (.bl b) H:=rfl
theorem Zjz:Zkc K te σ H Q=te σ H fun x H1=>∃ a xs,x=.ref a/\SqL K H1 a xs/\∀ p,H1 p=none->Q (.ref p) (upd H1 p (.lst xs.reverse)):=rfl
theorem Zea {xs:List V}:Zf7 K xs H Q=∃ p ys,xs=[.ref p]/\(SqL K H p ys\/SqT K H p ys)/\∀ l,H l=none->Q (.ref l) (upd H l (.lst ys)):=rfl
theorem Zeb {xs:List V}:ZiC xs H Q=∃ p j,xs=[.ref p]/\H p=some (.rng 0 j) /\ -(2^62)<=j/\j<=2^20/\∀ l,H l=none->Q (.ref l) (upd H l (.lst ((List.range j.toNat).map fun (k:Nat)=>V.int (k:Int)))):=rfl
theorem ZfG:ZcN D σ H=False:=rfl
theorem Zjt:ZkQ σ H B=B true H:=rfl
theorem Zfy {N:List Str}{vs:List V}:start N vs=vs.map some++List.replicate (N.length-vs.length) none:=rfl
noncomputable def FG (J:It)(g:TG)(tb:TS)(D:WH)(σ:St)(H:Hp):Prop:=∃ W:Nat->Nat->St->Hp->Prop,(∃ m,W 0 m σ H)/\∀ i m σ H,W i m σ H ->
 (J.stop i H/\D.nx σ H)\/(J.go i H/\∃ N:St->Hp->Prop,(∀ σ' H',N σ' H'->∃ m',m' < m/\W (i+1) m' σ' H')/\∀ x H',J.yld i H x H'->g x σ H' fun σ2 H2=>tb { D with nx:=N,ct:=N,bk:=D.nx } σ2 H2)
theorem ZjQ {wi:TI}:ZkX wi g t D σ H=wi σ H fun J H1=>FG J g t D σ H1:=rfl
theorem Wk {a:Addr}{xs:List V}(Pv:Nat->St->Hp->Prop)(h0:Pv 0 σ H)(hl:∀ i σ H,i<=xs.length->Pv i σ H->SqL K H a xs)
  (hs:∀ (i:Nat) x σ H,xs[i]? = some x->Pv i σ H->g x σ H fun σ2 H2=>t { nx:=Pv (i+1),rt:=D.rt,ct:=Pv (i+1),bk:=D.nx } σ2 H2) (hd:∀ σ H,Pv xs.length σ H->D.nx σ H):FG (Itl K a) g t D σ H:=Zff Pv h0 hl hs hd
theorem YY {lo:Int}{n:Nat}(Pv:Nat->St->Hp->Prop)(h0:Pv 0 σ H)
  (hs:∀ (i:Nat) σ H,i<n->Pv i σ H->g (.int (lo+i)) σ H fun σ2 H2=>t { nx:=Pv (i+1),rt:=D.rt,ct:=Pv (i+1),bk:=D.nx } σ2 H2) (hd:∀ σ H,Pv n σ H->D.nx σ H):FG (Itr lo n) g t D σ H:=ZdL Pv h0 hs hd
noncomputable def CG (J : It) (nt : Nat) (cap : List Nat) (g : TG) (tt : TT) (te : TE) (σ : St) (H1 : Hp) (Q : VK) (l : Addr) : Prop :=
  ∃ W : Nat -> Nat -> St -> Hp -> Prop, (∃ m, W 0 m (Zgq nt cap σ) (upd H1 l (.lst []))) ∧ ∀ i m σ' H', W i m σ' H' ->
    (J.stop i H' ∧ Q (.ref l) H') ∨ (J.go i H' ∧ ∀ x H2, J.yld i H' x H2 -> g x σ' H2 fun σ2 H3 => tt σ2 H3 fun b H4 =>
      if b = true then te σ2 H4 fun y H5 => ∃ xs, H5 l = some (.lst xs) ∧ xs.length < sizeLine ∧ ∃ m', m' < m ∧ W (i + 1) m' σ2 (upd H5 l (.lst (xs ++ [y])))
      else ∃ m', m' < m ∧ W (i + 1) m' σ2 H4)
theorem Zh0 {wi:TI}{nt:Nat}{cap:List Nat}:Zey wi nt cap g tt te σ H Q=wi σ H fun J H1=>∀ l,H1 l=none->CG J nt cap g tt te σ H1 Q l:=rfl
theorem WF {J:It}{nt n:Nat}{cap:List Nat}{l:Addr}{H₀:Hp}{R:Nat->V->Hp->Prop}(hJ:Jw J H₀ n R)(P:Nat->List V->Hp->Prop)(hz:n<=sizeLine)(off:Off l P)(fr:H₀ l=none)(h0:P 0 [] H₀)
  (step:∀ (i m:Nat) (x:V) (acc:List V) (pre:St) (H:Hp),R i x H->pre.length=nt->Ct n nt l (cap.map fun k=>(σ[k]?).join) H₀ P i m acc H ->
   g x (pre++(cap.map fun k=>(σ[k]?).join)) H fun σ2 H3=>tt σ2 H3 fun b H4=>if b=true then te σ2 H4 (ZkO n nt l (cap.map fun k=>(σ[k]?).join) H₀ P i m σ2) else CNo n nt l (cap.map fun k=>(σ[k]?).join) H₀ P i m σ2 H4)
  (done:∀ (acc:List V) (H:Hp),Same H₀ H->H l=some (.lst acc)->P n acc H->Q (.ref l) H):CG J nt cap g tt te σ H₀ Q l:=Zhp hJ P hz off fr h0 step done
theorem Zgx (W:Nat->St->Hp->Prop)(m0:Nat)(h0:W m0 σ H)
  (hs:∀ m σ H,W m σ H->∃ b:Bool,(∀ B:Bool->Hp->Prop,B b H->tt σ H B) /\
   (b=true->∀ N:St->Hp->Prop,(∀ σ' H' m',m' < m->W m' σ' H'->N σ' H')->t { nx:=N,rt:=D.rt,ct:=N,bk:=D.nx } σ H)/\(b=false->D.nx σ H)):ZfZ tt t D σ H:=by
 refine⟨W,⟨m0,h0⟩,fun m σ H w=>?_⟩
 obtain⟨b,h1,h2,h3⟩:=hs m σ H w
 refine h1 _ ?_
 cases b with
 | true =>
  rw [if_pos rfl]
  exact⟨fun σ' H'=>∃ m',m' < m/\W m' σ' H',fun _ _ h=>h,h2 rfl _ fun σ' H' m' h h'=>⟨m',h,h'⟩⟩
 | false =>
  rw [if_neg Bool.false_ne_true]
  exact h3 rfl
theorem cut1 {s1 r:TS}(M:St->Hp->Prop)(h:∀ N:St->Hp->Prop,(∀ σ' H',M σ' H'->N σ' H')->(s1) { nx:=N,rt:=D.rt,bk:=D.bk,ct:=D.ct } σ H)(h2:∀ σ' H',M σ' H'->r D σ' H'):(ZcK s1 (r)) D σ H:=h (r D) h2
theorem cut2 {s1 s2 r:TS}(M:St->Hp->Prop)(h:∀ N:St->Hp->Prop,(∀ σ' H',M σ' H'->N σ' H')->(ZcK s1 (s2)) { nx:=N,rt:=D.rt,bk:=D.bk,ct:=D.ct } σ H)(h2:∀ σ' H',M σ' H'->r D σ' H'):(ZcK s1 (ZcK s2 (r))) D σ H:=h (r D) h2
theorem Zk8 {s1 s2 s3 r:TS}(M:St->Hp->Prop)(h:∀ N:St->Hp->Prop,(∀ σ' H',M σ' H'->N σ' H')->(ZcK s1 (ZcK s2 (s3))) { nx:=N,rt:=D.rt,bk:=D.bk,ct:=D.ct } σ H)(h2:∀ σ' H',M σ' H'->r D σ' H'):(ZcK s1 (ZcK s2 (ZcK s3 (r)))) D σ H:=h (r D) h2
end
end L2
namespace OM
open PySem
theorem Zei (a b:Nat):Builtin.bitAnd (a:Int) (b:Int)=((a&&&b:Nat):Int):=by
 simp [Builtin.bitAnd]
theorem Vj (a b:Nat):Builtin.bitOr (a:Int) (b:Int)=((a|||b:Nat):Int):=by
 have h1:¬ (0<=Builtin.bitNot (a:Int)):=by unfold Builtin.bitNot;omega
 have h2:¬ (0<=Builtin.bitNot (b:Int)):=by unfold Builtin.bitNot;omega
 have e1:(Builtin.bitNot (Builtin.bitNot (a:Int))).toNat=a:=by unfold Builtin.bitNot;omega
 have e2:(Builtin.bitNot (Builtin.bitNot (b:Int))).toNat=b:=by unfold Builtin.bitNot;omega
 unfold Builtin.bitOr Builtin.bitAnd
 simp only [h1,h2,decide_false,e1,e2]
 unfold Builtin.bitNot
 omega
theorem Zh7 (a:Nat):Builtin.bitAnd (a:Int) 1=if a.testBit 0 then 1 else 0:=by
 rw [show (1:Int)=((1:Nat):Int) from rfl,Zei,Nat.and_one_is_mod,Nat.testBit_zero]
 by_cases h:a%2=1
 ·simp [h]
 ·have:a%2=0:=by omega
  simp [this]
theorem ZgG (a k:Nat):(a:Int)/2^(k:Int).toNat=((a >>> k:Nat):Int):=by
 rw [Int.toNat_natCast,Nat.shiftRight_eq_div_pow]
 push_cast
 rfl
theorem UI (a k:Nat):Builtin.bitAnd ((a:Int)/2^(k:Int).toNat) 1=if a.testBit k then 1 else 0:=by
 rw [ZgG,Zh7,Nat.testBit_shiftRight,Nat.add_zero]
theorem ZgH (a k:Nat):(a:Int)*2^(k:Int).toNat=((a<<<k:Nat):Int):=by
 rw [Int.toNat_natCast,Nat.shiftLeft_eq]
 push_cast
 rfl
noncomputable def len (a:Nat):Nat:=if a=0 then 0 else a.log2+1
theorem Zds (a:Nat):a<2^len a:=by
 unfold len
 split
 ·omega
 ·exact Nat.lt_log2_self
theorem Zfw (a:Nat):Builtin.Int.intBits (a:Int)=len a:=by
 unfold Builtin.Int.intBits len
 by_cases h:a=0
 ·subst h;rfl
 ·have:((a:Int) == 0)=false:=by simpa using h
  rw [this,if_neg h]
  rfl
theorem Zgf {a m:Nat}(h:a<2^m):len a<=m:=by
 unfold len
 split
 ·omega
 ·rename_i h0
  exact (Nat.log2_lt h0).mpr h
noncomputable def ZA (a:Nat):List Nat:=(List.range (len a)).filter a.testBit
theorem JU {a m:Nat}(h:a<2^m):ZA a=(List.range m).filter a.testBit:=by
 have hl:=Zgf h
 obtain⟨d,rfl⟩:∃ d,m=len a+d:=⟨m-len a,by omega⟩
 clear hl h
 induction d with
 | zero=>rfl
 | succ d ih =>
  rw [<- Nat.add_assoc,List.range_succ,List.filter_append,<- ih]
  have:a.testBit (len a+d)=false:=Nat.testBit_lt_two_pow (Nat.lt_of_lt_of_le (Zds a) (Nat.pow_le_pow_right (by decide) (by omega)))
  simp [this]
theorem ZH {a k:Nat}:k∈ZA a↔a.testBit k=true:=by
 unfold ZA
 rw [List.mem_filter,List.mem_range]
 constructor
 ·exact fun h=>h.2
 ·intro h
  refine⟨?_,h⟩
  apply Nat.lt_of_not_le
  intro hle
  rw [Nat.testBit_lt_two_pow (Nat.lt_of_lt_of_le (Zds a) (Nat.pow_le_pow_right (by decide) hle))] at h
  cases h
noncomputable def Ju (a:Nat):Nat:=if h:a=0 then 0 else a%2+Ju (a/2)
 termination_by a
 decreasing_by omega
theorem Zab:Ju 0=0:=by rw [Ju];simp
theorem ZeL {a:Nat}(h:0<a):Ju a=a%2+Ju (a/2):=by rw [Ju,dif_neg (by omega)]
theorem WL (p:Nat->Bool)(m:Nat):(List.range (m+1)).filter p=(if p 0 then [0] else [])++((List.range m).filter fun k=>p (k+1)).map (· + 1):=by
 rw [List.range_succ_eq_map,List.filter_cons,List.filter_map]
 split<;>rfl
theorem WO : ∀ (m a : Nat), a < 2 ^ m -> ((List.range m).filter a.testBit).length = Ju a := by
  intro m
  induction m with
  | zero => intro a h; have : a = 0 := by simpa using h
            subst this; simp [Zab]
  | succ m ih =>
    intro a h
    rw [WL, List.length_append, List.length_map]
    have e : (List.filter (fun k => a.testBit (k + 1)) (List.range m)) = (List.range m).filter (a / 2).testBit := by
      apply List.filter_congr
      intro k _
      rw [Nat.testBit_succ]
    rw [e, ih (a / 2) (by rw [Nat.pow_succ] at h; omega)]
    by_cases h0 : a = 0
    · subst h0; simp [Zab]
    · rw [ZeL (a := a) (by omega), Nat.testBit_zero]
      by_cases h2 : a % 2 = 1
      · simp [h2]
      · have : a % 2 = 0 := by omega
        simp [this]
theorem Za3 (a:Nat):(ZA a).length=Ju a:=WO _ _ (Zds a)
noncomputable def Zd6 (ks:List Nat):Nat:=ks.foldl (fun b k=>b|||1<<<k) 0
theorem Zfg (ks:List Nat):∀ (b j:Nat),(ks.foldl (fun b k=>b|||1<<<k) b).testBit j=(b.testBit j || decide (j∈ks)):=by
 induction ks with
 | nil=>intro b j;simp
 | cons k ks ih =>
  intro b j
  rw [List.foldl_cons,ih,Nat.testBit_or,Nat.shiftLeft_eq,Nat.one_mul,Nat.testBit_two_pow]
  by_cases h:k=j
  ·subst h;simp
  ·have h':¬ j=k:=fun e=>h e.symm
   simp [h,h',List.mem_cons]
theorem Vf (ks:List Nat)(j:Nat):(Zd6 ks).testBit j=decide (j∈ks):=by
 unfold Zd6
 rw [Zfg]
 simp
theorem Zd5 (ks:List Nat)(k:Nat):Zd6 (ks++[k])=Zd6 ks|||1<<<k:=by
 unfold Zd6
 rw [List.foldl_append]
 rfl
end OM
namespace L2
theorem Zfk {K:PySem.W.Frag}{H:Hp}{a b:PySem.Addr}{xs ys:List Int}{n:Nat}(hx:SqL K H a (xs.map V.int))(hy:SqL K H b (ys.map V.int)):EqD K H (n+1) (.ref a) (.ref b) (decide (xs=ys)):=by
 by_cases hl:xs.length=ys.length
 ·have e:decide (xs=ys)=(List.range (xs.map V.int).length).all fun i=>decide (xs[i]? = ys[i]?):=by
   rw [Bool.eq_iff_iff,decide_eq_true_iff,List.all_eq_true,List.length_map]
   constructor
   ·intro h i _;rw [h];simp
   ·intro h
    apply List.ext_getElem?
    intro i
    by_cases hi:i<xs.length
    ·exact of_decide_eq_true (h i (List.mem_range.mpr hi))
    ·rw [List.getElem?_eq_none (by omega),List.getElem?_eq_none (by omega)]
  rw [e]
  refine .lst hx hy (by simpa using hl) fun i x y ex ey=>?_
  rw [List.getElem?_map] at ex ey
  cases e1:xs[i]? with
  | none=>rw [e1] at ex;cases ex
  | some p =>
   cases e2:ys[i]? with
   | none=>rw [e2] at ey;cases ey
   | some q =>
    rw [e1] at ex;rw [e2] at ey
    cases ex;cases ey
    have:=EqD.flat (K:=K) (H:=H) (n:=n) (x:=.int p) (y:=.int q) rfl rfl
    have e3:eqV (.int p) (.int q)=decide (some p=some q):=by simp [ZdS,Bool.beq_eq_decide_eq]
    rw [<- e3];exact this
 ·have e:decide (xs=ys)=false:=decide_eq_false fun z=>hl (by rw [z])
  rw [e]
  exact .lsl hx hy (by simpa using hl)
theorem Zae (ks:List Nat):(ks.map fun j:Nat=>V.int j)=(ks.map fun j:Nat=>(j:Int)).map V.int:=by rw [List.map_map];rfl
theorem Za7 {xs ys:List Nat}:(xs.map fun j:Nat=>(j:Int))=(ys.map fun j:Nat=>(j:Int))↔xs=ys:=by
 constructor
 ·intro h
  induction xs generalizing ys with
  | nil=>cases ys with
   | nil=>rfl
   | cons _ _=>cases h
  | cons x xs ih=>cases ys with
   | nil=>cases h
   | cons y ys =>
    rw [List.map_cons,List.map_cons] at h
    injection h with h1 h2
    rw [ih h2,show x=y by omega]
 ·intro h;rw [h]
theorem Jo {K:PySem.W.Frag}{H:Hp}{a b:PySem.Addr}{xs ys:List Nat}{n:Nat}(hx:SqL K H a (xs.map fun j:Nat=>V.int j))(hy:SqL K H b (ys.map fun j:Nat=>V.int j)):EqD K H (n+1) (.ref a) (.ref b) (decide (xs=ys)):=by
 rw [Zae] at hx hy
 have:=Zfk (n:=n) hx hy
 have e:decide (xs=ys)=decide ((xs.map fun j:Nat=>(j:Int))=(ys.map fun j:Nat=>(j:Int))):=by rw [decide_eq_decide];exact Za7.symm
 rw [e];exact this
end L2
namespace OM
theorem Yi {ds:List Nat}{i:Nat}(h:i<ds.length):ds.getD i 0=ds[i]:=by simp [List.getD,List.getElem?_eq_getElem h]
theorem Wy {ds:List Nat}{i v:Nat}(h:i<ds.length):(ds.set i v).getD i 0=v:=by simp [List.getD,List.getElem?_set,h]
theorem VX {ds:List Nat}{i j v:Nat}(h:i≠j):(ds.set i v).getD j 0=ds.getD j 0:=by simp [List.getD,List.getElem?_set,h]
theorem Zfc (n i:Nat):(List.replicate n 0).getD i 0=0:=by
 simp only [List.getD,List.getElem?_replicate];split<;>rfl
theorem ZeO {row:List Nat}(h:row.Nodup){i j x:Nat}(h1:row[i]? = some x)(h2:row[j]? = some x):i=j:=by
 obtain⟨l1,e1⟩:=List.getElem?_eq_some_iff.mp h1
 obtain⟨l2,e2⟩:=List.getElem?_eq_some_iff.mp h2
 exact (List.getElem_inj h).mp (e1.trans e2.symm)
theorem Wl (h x:Nat):(1<<<h).testBit x=true↔x=h:=by
 rw [Nat.shiftLeft_eq,Nat.one_mul,Nat.testBit_two_pow,decide_eq_true_iff]
 exact eq_comm
end OM
namespace OM
end OM
namespace OM
open PySem
end OM
namespace OM
noncomputable def Zf1 (k:Nat)(u:List Nat)(l:Nat):List Nat:=u.set l (u.getD l 0|||1<<<k)
noncomputable def tUp (ds:List Nat):Nat->List Nat
 | 0=>List.replicate ds.length 0
 | i+1=>(ZA (ds.getD i 0)).foldl (Zf1 i) (tUp ds i)
theorem JD {k:Nat}{ls:List Nat}:∀ {u:List Nat},(ls.foldl (Zf1 k) u).length=u.length:=by
 induction ls with
 | nil=>intro u;rfl
 | cons l ls ih=>intro u;rw [List.foldl_cons,ih];unfold Zf1;rw [List.length_set]
theorem UR {ds:List Nat}:∀ i,(tUp ds i).length=ds.length
 | 0=>by unfold tUp;rw [List.length_replicate]
 | i+1=>by unfold tUp;rw [JD,UR i]
theorem ZcM {k l x:Nat}{ls:List Nat}:∀ {u:List Nat},l<u.length->(((ls.foldl (Zf1 k) u).getD l 0).testBit x=true↔(u.getD l 0).testBit x=true\/(x=k/\l∈ls)):=by
 induction ls with
 | nil=>intro u _;simp
 | cons m ls ih =>
  intro u hl
  rw [List.foldl_cons,ih (by unfold Zf1;rw [List.length_set];exact hl)]
  unfold Zf1
  by_cases hm:m=l
  ·subst hm
   rw [Wy hl,Nat.testBit_or,Bool.or_eq_true,Wl]
   constructor
   ·rintro ((h | h) | ⟨h1,h2⟩)
    ·exact .inl h
    ·exact .inr ⟨h,List.mem_cons_self⟩
    ·exact .inr ⟨h1,List.mem_cons_of_mem _ h2⟩
   ·rintro (h | ⟨h1,h2⟩)
    ·exact .inl (.inl h)
    ·exact .inl (.inr h1)
  ·rw [VX hm,List.mem_cons]
   constructor
   ·rintro (h | ⟨h1,h2⟩)
    ·exact .inl h
    ·exact .inr ⟨h1,.inr h2⟩
   ·rintro (h | ⟨h1,h2 | h2⟩)
    ·exact .inl h
    ·exact absurd h2.symm hm
    ·exact .inr ⟨h1,h2⟩
theorem ZcJ {ds:List Nat}{l x:Nat}(hl:l<ds.length):∀ i,((tUp ds i).getD l 0).testBit x=true↔x<i/\(ds.getD x 0).testBit l=true
 | 0=>by unfold tUp;rw [Zfc];simp
 | i+1=>by
  unfold tUp
  rw [ZcM (by rw [UR];exact hl),ZcJ hl i,ZH]
  constructor
  ·rintro (⟨h1,h2⟩ | ⟨h1,h2⟩)
   ·exact⟨by omega,h2⟩
   ·subst h1;exact⟨by omega,h2⟩
  ·rintro⟨h1,h2⟩
   by_cases hx:x=i
   ·subst hx;exact .inr ⟨rfl,h2⟩
   ·exact .inl ⟨by omega,h2⟩
end OM
namespace OM
end OM
namespace L2
open PySem
noncomputable def nv (ks:List Nat):List V:=ks.map fun k:Nat=>V.int k
theorem Zu (ks:List Nat):(nv ks).length=ks.length:=List.length_map _
theorem Zgd {ks:List Nat}{i:Nat}(h:i<ks.length):(nv ks)[i]? = some (.int (ks.getD i 0:Nat)):=by
 unfold nv
 rw [List.getElem?_map,List.getElem?_eq_getElem h,OM.Yi h];rfl
theorem ZQ {ks:List Nat}{i:Nat}{x:V}(h:(nv ks)[i]? = some x):∃ k,ks[i]? = some k/\x=.int (k:Nat):=by
 unfold nv at h
 rw [List.getElem?_map] at h
 cases e:ks[i]? with
 | none=>rw [e] at h;cases h
 | some k=>rw [e] at h;cases h;exact⟨k,rfl,rfl⟩
theorem Xw {ks:List Nat}{i:Nat}(h:i<ks.length):atI (nv ks) (i:Int)=some (.int (ks.getD i 0:Nat)):=WX (Zgd h)
theorem Zdn {ks:List Nat}{i:Nat}(h:i<ks.length):ixN (nv ks).length (i:Int)=some i:=by
 unfold ixN
 rw [Zu,if_pos (by omega),if_pos (by omega)];simp
theorem Zac (ks:List Nat)(i v:Nat):(nv ks).set i (.int (v:Nat))=nv (ks.set i v):=by unfold nv;rw [List.map_set]
theorem VM (ks:List Nat)(k:Nat):nv ks++[V.int (k:Nat)]=nv (ks++[k]):=by unfold nv;rw [List.map_append];rfl
theorem Zg1 (ks:List Nat):nv ks=(ks.map fun j:Nat=>(j:Int)).map V.int:=Zae ks
theorem ZcR (j:Nat):(1:Int)*(2:Int)^(j:Int).toNat=((1<<<j:Nat):Int):=OM.ZgH 1 j
theorem Same.write {H H':Hp}{l:Addr}{o:HO}(s:Same H H')(h:H l=none):Same H (L2.upd H' l o):=fun b u e=>by
 rw [Zh (Zj e h)];exact s _ _ e
noncomputable def rv (rs:List Addr):List V:=rs.map V.ref
theorem Yn (rs:List Addr):(rv rs).length=rs.length:=List.length_map _
theorem ZbD (rs:List Addr)(r:Addr):rv rs++[V.ref r]=rv (rs++[r]):=by unfold rv;rw [List.map_append];rfl
theorem Wf {rs:List Addr}{i:Nat}{x:V}(h:(rv rs)[i]? = some x):∃ r,rs[i]? = some r/\x=.ref r:=by
 unfold rv at h
 rw [List.getElem?_map] at h
 cases e:rs[i]? with
 | none=>rw [e] at h;cases h
 | some k=>rw [e] at h;cases h;exact⟨k,rfl,rfl⟩
noncomputable def PrT (H:Hp)(rs:List Addr)(ps:List (Int×Int)):Prop:=Paired (fun r (p:Int×Int)=>H r=some (.tup [.int p.1,.int p.2])) rs ps
noncomputable def PrA (K:W.Frag)(H:Hp)(rs:List Addr)(ps:List (Int×Int)):Prop:=Paired (fun r (p:Int×Int)=>SqT K H r [.int p.1,.int p.2]) rs ps
noncomputable def np (p:Nat×Nat):Int×Int:=((p.1:Int),(p.2:Int))
section
variable {K:W.Frag}{H H':Hp}{rs:List Addr}{ps:List (Int×Int)}
theorem PrT.nil:PrT H [] []:=Paired.nil
theorem PrT.a (h:PrT H rs ps):PrA K H rs ps:=Paired.mapP h fun _ _ q=>SqT.of q
theorem PrT.len (h:PrT H rs ps):rs.length=ps.length:=Paired.length h
theorem PrT.same (h:PrT H rs ps)(s:Same H H'):PrT H' rs ps:=Paired.mapP h fun _ _ q=>s _ _ q
theorem PrT.snoc {r:Addr}{p:Int×Int}(h:PrT H rs ps)(q:H r=some (.tup [.int p.1,.int p.2])):PrT H (rs++[r]) (ps++[p]):=Paired.snoc h q
theorem PrT.write {l:Addr}{xs ys:List V}(h:PrT H rs ps)(e:H l=some (.lst xs)):PrT (upd H l (.lst ys)) rs ps:=Paired.mapP h fun _ _ q=>by rw [Zh (ZeS q e (by intro z;cases z))];exact q
theorem PrT.get (h:PrT H rs ps){i:Nat}{p:Int×Int}(e:ps[i]? = some p):∃ r,rs[i]? = some r/\H r=some (.tup [.int p.1,.int p.2]):=by
 unfold PrT at h
 induction h generalizing i with
 | nil=>simp at e
 | cons a _ ih =>
  cases i with
  | zero=>simp at e;subst e;exact⟨_,rfl,a⟩
  | succ i=>exact ih (by simpa using e)
theorem PrA.len (h:PrA K H rs ps):rs.length=ps.length:=Paired.length h
theorem PrA.get (h:PrA K H rs ps){i:Nat}{r:Addr}(e:rs[i]? = some r):∃ p,ps[i]? = some p/\SqT K H r [.int p.1,.int p.2]:=by
 unfold PrA at h
 induction h generalizing i with
 | nil=>simp at e
 | cons a _ ih =>
  cases i with
  | zero=>simp at e;subst e;exact⟨_,rfl,a⟩
  | succ i=>exact ih (by simpa using e)
theorem PrA.at (h:PrA K H rs ps){i:Nat}{p:Int×Int}(e:ps[i]? = some p):∃ r,rs[i]? = some r/\SqT K H r [.int p.1,.int p.2]:=by
 unfold PrA at h
 induction h generalizing i with
 | nil=>simp at e
 | cons a _ ih =>
  cases i with
  | zero=>simp at e;subst e;exact⟨_,rfl,a⟩
  | succ i=>exact ih (by simpa using e)
theorem PrA.getN {ps:List (Nat×Nat)}(h:PrA K H rs (ps.map np)){i:Nat}{r:Addr}(e:rs[i]? = some r):∃ p,ps[i]? = some p/\SqT K H r [.int (p.1:Nat),.int (p.2:Nat)]:=by
 obtain⟨p,e1,q⟩:=h.get e
 rw [List.getElem?_map] at e1
 cases e2:ps[i]? with
 | none=>rw [e2] at e1;cases e1
 | some p'=>rw [e2] at e1;cases e1;exact⟨p',rfl,q⟩
theorem ZbQ {n:Nat}{r r':Addr}{a b c d:Int}(hx:SqT K H r [.int a,.int b])(hy:SqT K H r' [.int c,.int d]):EqD K H (n+1) (.ref r) (.ref r') (decide ((a,b)=(c,d))):=by
 have h:=EqD.tup (n:=n) (e:=fun i=>if i=0 then decide (a=c) else decide (b=d)) hx hy fun i x y ex ey=>by
  match i with
  | 0 =>
   simp only [List.getElem?_cons_zero,Option.some.injEq] at ex ey
   subst ex ey
   have:=EqD.flat (K:=K) (H:=H) (n:=n) (x:=.int a) (y:=.int c) rfl rfl
   have e3:eqV (.int a) (.int c)=decide (a=c):=by simp [ZdS,Bool.beq_eq_decide_eq]
   rw [e3] at this
   simpa using this
  | 1 =>
   simp only [List.getElem?_cons_succ,List.getElem?_cons_zero,Option.some.injEq] at ex ey
   subst ex ey
   have:=EqD.flat (K:=K) (H:=H) (n:=n) (x:=.int b) (y:=.int d) rfl rfl
   have e3:eqV (.int b) (.int d)=decide (b=d):=by simp [ZdS,Bool.beq_eq_decide_eq]
   rw [e3] at this
   simpa using this
  | i+2=>simp at ex
 have e:decide ((a,b)=(c,d))=((List.range (min [V.int a,V.int b].length [V.int c,V.int d].length)).all (fun i=>if i=0 then decide (a=c) else decide (b=d))&&[V.int a,V.int b].length == [V.int c,V.int d].length):=by
  rw [Bool.eq_iff_iff]
  simp [List.range_succ,Prod.mk.injEq]
 rw [e];exact h
theorem ZdR {n:Nat}{a b:Addr}{rs':List Addr}{qs:List (Int×Int)}(hx:SqL K H a (rv rs))(hy:SqL K H b (rv rs'))(px:PrA K H rs ps)(py:PrA K H rs' qs):EqD K H (n+2) (.ref a) (.ref b) (decide (ps=qs)):=by
 have l1:=px.len
 have l2:=py.len
 by_cases hl:ps.length=qs.length
 ·have e:decide (ps=qs)=(List.range (rv rs).length).all fun i=>decide (ps[i]? = qs[i]?):=by
   rw [Bool.eq_iff_iff,decide_eq_true_iff,List.all_eq_true,Yn]
   constructor
   ·intro h i _;rw [h];simp
   ·intro h
    apply List.ext_getElem?
    intro i
    by_cases hi:i<ps.length
    ·exact of_decide_eq_true (h i (List.mem_range.mpr (by omega)))
    ·rw [List.getElem?_eq_none (by omega),List.getElem?_eq_none (by omega)]
  rw [e]
  refine .lst hx hy (by rw [Yn,Yn];omega) fun i x y ex ey=>?_
  obtain⟨r,er,rfl⟩:=Wf ex
  obtain⟨r',er',rfl⟩:=Wf ey
  obtain⟨p,ep,tp⟩:=px.get er
  obtain⟨q,eq,tq⟩:=py.get er'
  rw [ep,eq]
  have:=ZbQ (n:=n) tp tq
  have e3:decide (some p=some q)=decide ((p.1,p.2)=(q.1,q.2)):=by
   obtain⟨p1,p2⟩:=p
   obtain⟨q1,q2⟩:=q
   simp
  rw [e3];exact this
 ·have e:decide (ps=qs)=false:=decide_eq_false fun z=>hl (by rw [z])
  rw [e]
  exact .lsl hx hy (by rw [Yn,Yn];omega)
end
theorem Zco {α:Type}{p:α->Bool}{xs:List α}{i:Nat}{t:α}(e:xs[i]? = some t)(h:p t=true):(xs.take (i+1)).filter p=(xs.take i).filter p++[t]:=by
 rw [List.take_add_one,e,Option.toList_some,List.filter_append,List.filter_cons_of_pos h,List.filter_nil]
theorem Zcp {α:Type}{p:α->Bool}{xs:List α}{i:Nat}{t:α}(e:xs[i]? = some t)(h:¬ p t=true):(xs.take (i+1)).filter p=(xs.take i).filter p:=by
 rw [List.take_add_one,e,Option.toList_some,List.filter_append,List.filter_cons_of_neg h,List.filter_nil,List.append_nil]
end L2
namespace OM
end OM
namespace L2
open PySem PySem.Spec PyProof.Rows
noncomputable def Ite (K:W.Frag)(a:Addr):It :=
 ⟨fun i H=>∃ xs x,SqL K H a xs/\xs[i]? = some x,fun i H x H'=>∃ T y,H T=none/\x=.ref T/\(∀ xs,SqL K H a xs->xs[i]? = some y)/\H'=upd H T (.tup [.int (i:Nat),y]),fun i H=>∃ xs,SqL K H a xs/\xs.length<=i⟩
theorem ZcF {P:Program}{w:World}{K:W.Frag}{es:List Expr}{k:Nat}{tpos:Pos}(a e it:Addr)(hei:e≠it):Zh8 P w K (.Tuple es k tpos) (Ite K a) [e,it] e (fun i h=>(∃ old,IsEnum h e it (i:Nat) old)/\h.IsListIter it a i) where
 mem:=by simp
 obj:=fun i h st b hb=>by
  obtain⟨⟨old,he⟩,hit⟩:=st
  rcases List.mem_cons.mp hb with z | hb
  ·subst z
   exact⟨_,he,fun v z=>by
    have z':Data.fields _=Data.cell v:=z
    cases z'⟩
  ·have z:b=it:=by simpa using hb
   subst z
   obtain⟨o,e,c,d⟩:=hit
   exact⟨o,e,fun v z=>by rw [d] at z;cases z⟩
 keep:=fun i h h' st k=>by
  obtain⟨⟨old,he⟩,hit⟩:=st
  exact⟨⟨old,k e (by simp) _ he⟩,hit.at fun o e=>k it (by simp) o e⟩
 item:=by
  intro X hP hw hK hc i pins s σ H E I hf st hg
  subst hP hw hK
  obtain⟨⟨old,he⟩,hit⟩:=st
  obtain⟨xs,x,hq,hx⟩:=hg
  obtain⟨its,rv,p,hz⟩:=I.list hq
  obtain⟨u,hu,ru⟩:=rv.get hx
  obtain⟨f0,f1,f2,f3,f4,f5⟩:=hf e (by simp)
  obtain⟨g0,g1,g2,g3,g4,g5⟩:=hf it (by simp)
  refine wpAny_pyNext_enum_item he hit p.isList (x:=u) (by simpa using hu) hei fun h1 ho hit1 hT hsz hk=>⟨_,rfl,?_⟩
  refine wpAny_letOwnedTupleGo_enum ho fun h2 he2 hs2=>?_
  replace hs2:Heap.SameBut e h1 h2:=hs2
  have hk2:∀ b o,b≠e->b≠it->s.heap.get? b=some o->h2.get? b=some o:=fun b o z1 z2 q=>hs2.extBut b o z1 (hk b o z1 z2 q)
  have ht2:=hs2.extBut _ _ (Nat.ne_of_gt (Heap.lt_size he)) hT
  have hn:∀ b o,H b=some o->b≠e/\b≠it:=fun b o q=>⟨Zj q f0,Zj q g0⟩
  have hok:HOk X.prog X.w (upd H s.heap.objs.size (.tup [.int (i:Nat),x])) h2:=fun b o q=>by
   by_cases hb:b=s.heap.objs.size
   ·subst hb
    rw [Zd] at q
    cases q
    exact⟨(by show 2<=sizeLine;rw [sizeLine_eq];decide),[.int i s.toks,u],.cons ⟨_,rfl⟩ (.cons ru .nil),_,ht2,rfl,_,rfl⟩
   ·rw [Zh hb] at q
    refine (I.hok b o q).stay (fun c v hc r=>?_) (fun c r=>by rw [Zh (Zj r I.fresh)];exact r) fun c ys r=>by rw [Zh (Zj r I.fresh)];exact r
    rcases hc with z | z
    ·subst z;exact hk2 c v (hn c _ q).1 (hn c _ q).2 r
    ·exact hk2 c v (hn c _ z).1 (hn c _ z).2 r
  have out:∀ b,b∉[e,it]->b≠e/\b≠it:=fun b hb=>⟨fun z=>hb (by simp [z]),fun z=>hb (by simp [z])⟩
  have I2:Inv X pins σ (upd H s.heap.objs.size (.tup [.int (i:Nat),x])) { s with heap:=h2,toks:=s.toks+1 }:=by
   refine I.call (g':=s.gens) (d':=s.drawn) (ch:=[e,it]) ⟨fun b o q n _ hx=>hk2 b o (out b hx).1 (out b hx).2 q,fun b o q n _ hx=>⟨o.slots,hk2 b o (out b hx).1 (out b hx).2 q⟩,fun b o q n hx=>?_,fun b o q hx=>⟨o,hk2 b o (out b hx).1 (out b hx).2 q⟩,
    fun b ys q=>by rw [Zh (Zj q I.fresh)];exact q,fun b o ys q=>by rw [Zh (Zj q I.fresh)];exact q,fun b ps q=>⟨#[],by rw [Zh (Zj q I.fresh),q];simp⟩⟩ hok I.bare fun b hb=>?_
   ·rw [Zh (Nat.ne_of_lt (Heap.lt_size q))];exact n
   ·rcases List.mem_cons.mp hb with z | hb
    ·subst z;exact⟨f3,f1,f4,f5⟩
    ·have z:b=it:=by simpa using hb
     subst z;exact⟨g3,g1,g4,g5⟩
  refine⟨.ref _,_,I2,rfl,⟨_,x,I.fresh,rfl,fun ys hy=>by rw [I.list_inj hy hq];exact hx,rfl⟩,⟨⟨_,by simpa using he2⟩,hit1.at fun o q=>(hs2.2 it hei.symm).trans q⟩,fun b hb=>?_⟩
  have hbs:b≠s.heap.objs.size:=by
   rcases List.mem_cons.mp hb with z | hb
   ·subst z;exact Nat.ne_of_lt (Heap.lt_size he)
   ·have z:b=it:=by simpa using hb
    subst z
    obtain⟨o,q,_⟩:=hit
    exact Nat.ne_of_lt (Heap.lt_size q)
  rw [Zh hbs]
  exact (hf b hb).1
 done:=by
  intro X hP hw hK hc i pins s σ H E I hf st hg
  subst hP hw hK
  obtain⟨⟨old,he⟩,hit⟩:=st
  obtain⟨xs,hq,hx⟩:=hg
  obtain⟨its,rv,p,hz⟩:=I.list hq
  obtain⟨g0,g1,g2,g3,g4,g5⟩:=hf it (by simp)
  have hl:=rv.length
  exact wpAny_pyNext_enum_end (I.ok.hd hc) he hit p.isList (by simp;omega) fun h' eb=>⟨rfl,I.turned (t':=s.toks) (fun b o hb e=>eb b o hb e) g0 g1 g3 g4 g5⟩
 self:=fun _ _ _ _ _ st h=>by
  obtain⟨⟨old,he⟩,_⟩:=st
  exact wpAny_pyIter_enum he h
section
variable {X:Cx}
noncomputable def Zje (K:W.Frag)(ta:TA):TI:=fun σ H R=>ta σ H fun vs H1=>∃ a,vs=[.ref a]/\(∃ xs,SqL K H1 a xs)/\R (Ite K a) H1
theorem Zdc (K:W.Frag) {l:Expr} {ta:TA} {es:List Expr} {k:Nat} {tpos p pos:Pos} (hg:Gl X "enumerate") (hm:X.mg "enumerate" = none) (ha:PA X [l] ta) (hs:starEach [l] X.env=[(false,eval l X.env)]:=by rfl) (hK:X.K=K:=by rfl) :
  PI X (.Tuple es k tpos) (.Call (.Name "enumerate" p) [l] [] pos) (Zje K ta):=by
 subst hK
 intro pins s σ H R I h
 refine Call_ (ld_blt I hg hm boot_enumerate (PyProof.Rows.callWith_type1 (thn (ha pos pins s σ H _ I h) fun us s1 ⟨vs,H1,I1,r1,q1⟩=>?_) hs rfl))
 obtain⟨a,e,⟨xs,hq⟩,q⟩:=q1
 subst e
 obtain⟨u,rfl,rx⟩:=WI r1
 cases rx
 obtain⟨its,rv,pl,hz⟩:=I1.list hq
 refine call_enumerate_list pl.isList fun h' he hit hsz hk=>?_
 refine wpAny_pyIter_enum he ?_
 refine⟨s1.heap.objs.size+1,[s1.heap.objs.size+1,s1.heap.objs.size],_,_,H1,rfl,I1.kept (t':=s1.toks) hk,ZcF a _ _ (Nat.succ_ne_self _),⟨⟨_,he⟩,hit⟩,fun b hb=>?_,q⟩
 have hb2:s1.heap.objs.size<=b:=by
  rcases List.mem_cons.mp hb with z | hb
  ·subst z;exact Nat.le_succ _
  ·have z:b=s1.heap.objs.size:=by simpa using hb
   subst z;exact Nat.le_refl _
 exact I1.fpOk hb2 (I1.hok.fresh hb2)
end
section
variable {t:TS}{D:WH}{σ:St}{H H₀:Hp}{ti:TA}{g:TG}{K:W.Frag}{a:Addr}{xs:List V}
theorem ZfM {R:It->Hp->Prop}:Zje K ti σ H R=ti σ H fun vs H1=>∃ a,vs=[.ref a]/\(∃ xs,SqL K H1 a xs)/\R (Ite K a) H1:=rfl
theorem Zbl (Pv:Nat->St->Hp->Prop)(h0:Pv 0 σ H)(hl:∀ i σ H,i<=xs.length->Pv i σ H->SqL K H a xs)
  (hs:∀ (i:Nat) x σ H T,xs[i]? = some x->Pv i σ H->H T=none->g (.ref T) σ (upd H T (.tup [.int (i:Nat),x])) fun σ2 H2=>t { nx:=Pv (i+1),rt:=D.rt,ct:=Pv (i+1),bk:=D.nx } σ2 H2) (hd:∀ σ H,Pv xs.length σ H->D.nx σ H):FG (Ite K a) g t D σ H:=by
 refine⟨fun i m σ H=>m=xs.length-i/\i<=xs.length/\Pv i σ H,⟨_,rfl,by omega,h0⟩,?_⟩
 rintro i m σ H ⟨rfl,hi,p⟩
 have hq:=hl i σ H hi p
 by_cases hlt:i<xs.length
 ·refine .inr ⟨⟨xs,xs[i],hq,List.getElem?_eq_getElem hlt⟩,Pv (i+1),fun σ' H' p'=>⟨xs.length-(i+1),by omega,rfl,by omega,p'⟩,?_⟩
  rintro x H' ⟨T,y,hT,rfl,hy,rfl⟩
  exact hs i y σ H T (hy xs hq) p hT
 ·have e:i=xs.length:=by omega
  subst e
  exact .inl ⟨⟨xs,hq,Nat.le_refl _⟩,hd _ _ p⟩
end
end L2
namespace L2
open PySem PySem.Spec PyProof.Rows PySem.W
theorem Ul:typeLookup (.type "list_reverseiterator") "__len__" = pure none:=by rw [typeLookup_type,builtinLookup_eq_fast];kernel_rfl
theorem VS:typeLookup (.type "list_reverseiterator") "__length_hint__" = pure (some (.builtin "list_reverseiterator.__length_hint__")):=by rw [typeLookup_type,builtinLookup_eq_fast];kernel_rfl
section
variable {prog:Program}{w:World}{A:Around}{E:Value->Shared->Prop}{s:Shared}{I l:Addr}{items:Array Value}
theorem Ze9 {i:Int}{Q:Bool->Shared->Prop}(hit:s.heap.IsRevIter I l i)(h:Q false s):wpAny (model prog w) A (Builtin.List.listLengthHint (.ref I)) Q E s:=by
 have ty:=hit.typeIs
 unfold Builtin.List.listLengthHint
 refine wpAny_bind (wpAny_specialOf ty Ul ?_)
 show wpAny _ _ (specialOf (.ref I) "__length_hint__" >>= _) _ _ _
 refine wpAny_bind (wpAny_specialOf ty VS ?_)
 generalize hid:("list_reverseiterator.__length_hint__" : String)=idh
 wp_delta
 rw [show splitId idh=some ("list_reverseiterator", "__length_hint__") from by subst hid;decide +kernel]
 subst hid
 refine wpAny_bind (wpAny_isInstance (T := "list_reverseiterator") (b:=true) ty (by rw [isSubtype_type];kernel_rfl) ?_)
 refine wpAny_ite_split (fun z=>absurd z (by decide)) (fun _=>?_)
 refine wpAny_ite_split (fun _=>?_) (fun z=>absurd (by decide +kernel) z)
 exact wpAny_ite_split (fun z=>absurd z (by decide +kernel)) (fun _=>wpAny_pure h)
theorem ZeY {Q:Value->Shared->Prop}(hh:A.handled=none)(hit:s.heap.IsRevIter I l ((items.size:Int)-1))(hl:s.heap.IsList l items)(hne:l≠I)(hz:items.size<=sizeLine)
  (hQ:∀ h' tk acc' c',(∀ b o,b≠I->s.heap.get? b=some o->h'.get? b=some o)->h'.get? s.heap.objs.size=some { cls:=.type "list",dict:=none,data:=.seq acc' c',slots:=#[] } ->
   ItemsOf (fun i v=>items[items.size-1-i]? = some v) acc' items.size->Q (.ref s.heap.objs.size) { s with heap:=h',toks:=tk }) :
  wpAny (model prog w) A (call (.type "list") [.ref I]) Q E s:=by
 refine callType_codes (Q₁:=fun obj s₁=>obj=.ref s.heap.objs.size/\s₁={ s with heap:=s.heap.push { cls:=.type "list",data:=.seq #[] } }) PySem.F.called_list (PySem.F.typeCall_list_1 _) PySem.F.entry_list_init (code_list_new _ ⟨rfl,rfl⟩) fun obj s₁ h₁=>?_
 obtain⟨rfl,rfl⟩:=h₁
 have hS:(s.heap.push { cls:=.type "list",data:=.seq #[] }).get? s.heap.objs.size=some { cls:=.type "list",data:=.seq #[] }:=Heap.get?_push_size _ rfl
 have kp:∀ b o,s.heap.get? b=some o->(s.heap.push { cls:=.type "list",data:=.seq #[] }).get? b=some o:=fun b o e=>Heap.get?_push_of_some _ e
 obtain⟨oI,hI,_⟩:=id hit
 obtain⟨oL,hL,_⟩:=id hl
 have nI:I≠s.heap.objs.size:=Nat.ne_of_lt (Heap.lt_size hI)
 have nL:l≠s.heap.objs.size:=Nat.ne_of_lt (Heap.lt_size hL)
 refine⟨⟨_,hS,rfl⟩,PySem.F.args_list_init_2 _ _,?_⟩
 show wpAny _ _ (do let old <- Builtin.List.listItems (.ref s.heap.objs.size);Builtin.List.listUpdate (.ref s.heap.objs.size) (fun _=>#[]);letGo old.toList.reverse;Builtin.List.listExtendWith (.ref s.heap.objs.size) (.ref I) .none) _ _ _
 refine wpAny_bind ?_
 unfold Builtin.List.listItems
 refine wpAny_bind (wpAny_seqItems hS rfl (wpAny_pure ?_))
 show wpAny _ _ (updateSeq s.heap.objs.size (fun _=>#[]) >>= fun _=>letGo (#[]:Array Value).toList.reverse >>= fun _=>Builtin.List.listExtendWith (.ref s.heap.objs.size) (.ref I) .none) _ _ _
 refine wpAny_bind (wpAny_updateSeq hS rfl ?_)
 have hS2:=Heap.get?_update_self (Obj.mapSeq (fun _=>(#[]:Array Value))) hS rfl
 generalize hg:((s.heap.push { cls:=.type "list",data:=.seq #[] }).update s.heap.objs.size (Obj.mapSeq (fun _=>(#[]:Array Value))):Heap)=hN at hS2
 have kN:∀ b o,s.heap.get? b=some o->hN.get? b=some o:=fun b o e=>by
  rw [<- hg];exact (Heap.get?_update_other _ _ (Nat.ne_of_gt (Heap.lt_size e))).trans (kp b o e)
 have hitN:hN.IsRevIter I l ((items.size:Int)-1):=hit.at fun o e=>kN I o e
 have hlN:hN.IsList l items:=hl.at fun o e=>kN l o e
 refine wpAny_bind (wpAny_letGo ?_)
 unfold Builtin.List.listExtendWith
 refine wpAny_bind (wpAny_typeOf (T := "list_reverseiterator") (Heap.IsRevIter.typeIs (s:={ s with heap:=hN }) hitN) ?_)
 have h1:Builtin.List.listSameRef (.ref s.heap.objs.size) (.ref I)=false:=by simp [Builtin.List.listSameRef,Ne.symm nI]
 have h2:(Value.type "list_reverseiterator" == Value.type "list")=false:=by decide
 have h3:(Value.type "list_reverseiterator" == Value.type "tuple")=false:=by decide
 simp only [h1,h2,h3,Bool.or_false,Bool.false_eq_true,if_false]
 refine wpAny_bind (wpAny_pyIter_revIter hitN ?_)
 refine wpAny_bind (wpAny_holding (Ze9 hitN ?_))
 refine wpAny_ite_split (fun z=>absurd z (by decide +kernel)) (fun _=>?_)
 refine wpAny_pure ⟨plainId_quiet PySem.F.plain_extend_loop _,?_⟩
 have W:=(Walks.listRev (prog:=prog) (w:=w) (A:=A.in1.in1) hh I l hne items).toS
 refine codeAny_extend_loopS W hz s.heap.objs.size (fun hm=>?_) .none items.size 0 _ #[] _ rfl (Nat.zero_le _) ⟨Nat.zero_le _,by simpa using hitN,hlN⟩ hS2 (ItemsOf.nil _) fun s' acc' c' hm hS' hacc=>?_
 ·simp at hm
  rcases hm with z | z
  ·exact nI z.symm
  ·exact nL z.symm
 ·rw [Moved.eq_with hm]
  refine⟨rfl,hQ s'.heap s'.toks acc' c' (fun b o hb e=>hm.heap b o (fun hmem=>?_) (kN b o e)) hS' hacc⟩
  simp at hmem
  rcases hmem with z | z
  ·exact absurd (Heap.lt_size e) (by rw [z];exact Nat.lt_irrefl _)
  ·exact hb z
end
end L2
namespace L2
open OM
end L2
namespace L2
open PySem PySem.Spec PyProof.Rows PySem.W
section
variable {X:Cx}{pins:List (Addr×Obj)}{σ:St}{H:Hp}{s:Shared}{h':Heap}
end
section
variable {X:Cx}{e:Expr}{te:TE}{p1 p2 pos1 pos2:Pos}
theorem Zbw:∀ {xs:List V} {us:List Value},Vals xs us->Vals xs.reverse us.reverse
 | _,_,.nil=>.nil
 | _,_,.cons r t=>by rw [List.reverse_cons,List.reverse_cons];exact (Zbw t).append (.cons r .nil)
theorem Zcb (K:W.Frag) (hc:X.calm=true) (he:PE X e te) (hg1:Gl X "list") (hm1:X.mg "list" = none) (hg2:Gl X "reversed") (hm2:X.mg "reversed" = none) (hv1:bootBuiltins "list" = some (.type "list")) (hv2:bootBuiltins "reversed" = some (.type "reversed"))
  (hs1:starEach [e] X.env=(false,eval e X.env)::starEach [] X.env:=by rfl)
  (hs2:starEach [.Call (.Name "reversed" p2) [e] [] pos2] X.env=(false,eval (.Call (.Name "reversed" p2) [e] [] pos2) X.env)::starEach [] X.env:=by rfl) (hK:X.K=K:=by rfl) :
  PE X (.Call (.Name "list" p1) [.Call (.Name "reversed" p2) [e] [] pos2] [] pos1) (Zkc K te):=by
 subst hK
 intro pins s σ H Q I h
 refine wpAny_Call_Name_kw (ld_blt I hg1 hm1 hv1 ?_ (by decide) (by decide))
 refine PyProof.Rows.callWith_type1 ?_ hs2 rfl
 rw [hs2]
 show wpAny _ _ (spliced ((false,eval (.Call (.Name "reversed" p2) [e] [] pos2) X.env)::backTo pos1 (starEach [] X.env))) _ _ s
 refine Calls.spliced_cons ?_
 refine wpAny_Call_Name_kw (ld_blt I hg2 hm2 hv2 ?_ (by decide) (by decide))
 refine PyProof.Rows.callWith_type1 (thn (Za he Zc hs1 pos2 pins s σ H (fun vs H1=>match vs with | [x]=>(∃ a xs,x=.ref a/\SqL X.K H1 a xs/\∀ p,H1 p=none->Q (.ref p) (upd H1 p (.lst xs.reverse))) | _=>False) I h) fun us s1 ⟨vs,H1,I1,r,q0⟩=>?_) hs1 rfl
 match vs,q0 with
 | [x],q0=>?_
 | [],q0=>exact False.elim q0
 | _::_::_,q0=>exact False.elim q0
 obtain⟨a,xs,ev,hq,k⟩:=q0
 subst ev
 obtain⟨u,rfl,ru⟩:=WI r
 cases (show u=Value.ref a from ru)
 obtain⟨its,rv,p,hz⟩:=I1.list hq
 have hsz:its.toArray.size=its.length:=List.size_toArray
 refine call_reversed_list p.isList ?_
 refine Calls.spliced_nil ?_
 have hd:=I1.ok.hd hc
 have hJ:(s1.heap.push (revObj a ((its.toArray.size:Int)-1))).get? s1.heap.objs.size=some (revObj a ((its.toArray.size:Int)-1)):=Heap.get?_push_size _ rfl
 obtain⟨oa,hoa,_⟩:=id p.isList
 refine ZeY (s:={ s1 with heap:=s1.heap.push (revObj a ((its.toArray.size:Int)-1)) }) (I:=s1.heap.objs.size) (l:=a) (items:=its.toArray) hd ⟨_,hJ,rfl,rfl⟩ (p.isList.at fun o e=>Heap.get?_push_of_some _ e) (Nat.ne_of_lt (Heap.lt_size hoa)) (by rw [hsz,<- rv.length];exact hz) fun h' tk acc c kk hS it=>?_
 have ea:acc=its.reverse.toArray:=by
  apply Array.ext'
  apply List.ext_getElem?
  intro j
  obtain⟨i1,i2⟩:=it
  rw [hsz] at i1
  by_cases hj:j<its.length
  ·have hj2:j<acc.size:=by omega
   have z:=i2 j acc[j] (Array.getElem?_eq_getElem hj2)
   rw [List.getElem?_reverse hj,Array.getElem?_toList,Array.getElem?_eq_getElem hj2,<- z,hsz,List.getElem?_toArray]
  ·rw [List.getElem?_eq_none (by rw [Array.length_toList];omega),List.getElem?_eq_none (by rw [List.length_reverse];omega)]
 subst ea
 have es:({ s1 with heap:=s1.heap.push (revObj a ((its.toArray.size:Int)-1)) }:Shared).heap.objs.size=s1.heap.objs.size+1:=Heap.size_push ..
 rw [es] at hS ⊢
 have hn:H1 (s1.heap.objs.size+1)=none:=I1.hok.fresh (Nat.le_succ _)
 refine⟨.ref (s1.heap.objs.size+1),upd H1 (s1.heap.objs.size+1) (.lst xs.reverse),?_,rfl,k _ hn⟩
 refine I1.laid (t':=tk) (fun b o eb=>kk b o (Nat.ne_of_lt (Heap.lt_size eb)) (Heap.get?_push_of_some _ eb)) (Nat.le_succ _) ?_
 exact⟨by rw [List.length_reverse];exact hz,its.reverse,c,Zbw rv,hS⟩
theorem Zcx {K:W.Frag}{σ:St}{H:Hp}{Q:VK}:Zkc K te σ H Q=te σ H fun x H1=>∃ a xs,x=.ref a/\SqL K H1 a xs/\∀ p,H1 p=none->Q (.ref p) (upd H1 p (.lst xs.reverse)):=rfl
end
noncomputable def ZiG:V->List V->Hp->VK->Prop:=fun x vs H Q=>∃ (l:Addr) (ns:List Int) (i:Int) (k:Nat),x=.ref l/\vs=[.int i]/\H l=some (.lst (ns.map V.int))/\ns[k]? = some i/\(∀ m,m<k->ns[m]? ≠ some i)/\ns.length<=sizeLine/\Q (.int (k:Int)) H
end L2
namespace OM
theorem ZiT:∀ a b:Nat,a&&&b=0->a+b=a|||b:=by
 intro a
 induction a using Nat.strongRecOn with
 | _ a ih =>
  intro b h
  by_cases ha:a=0
  ·subst ha;simp
  ·have h2:=ih (a/2) (by omega) (b/2) (by rw [<- Nat.and_div_two,h])
   have e1:(a|||b)/2=a/2|||b/2:=Nat.or_div_two ..
   have h0:(a&&&b)%2=0:=by rw [h]
   have m1:(a|||b)%2=if a%2=1\/b%2=1 then 1 else 0:=by
    have t0:=Nat.testBit_or a b 0
    rw [Nat.testBit_zero,Nat.testBit_zero,Nat.testBit_zero] at t0
    rcases Nat.mod_two_eq_zero_or_one a with p | p<;>rcases Nat.mod_two_eq_zero_or_one b with q | q<;>rcases Nat.mod_two_eq_zero_or_one (a|||b) with r | r<;>simp_all
   have m0:¬ (a%2=1/\b%2=1):=by
    rintro⟨p,q⟩
    have t0:=Nat.testBit_and a b 0
    rw [h,Nat.zero_testBit,Nat.testBit_zero,Nat.testBit_zero] at t0
    simp [p,q] at t0
   have hm:=Nat.div_add_mod (a|||b) 2
   rw [e1,<- h2,m1] at hm
   split at hm<;>omega
theorem Ud (a b:Nat):(a ^^^ (a&&&b))+(a&&&b)=a:=by
 rw [ZiT]
 ·apply Nat.eq_of_testBit_eq
  intro x
  simp only [Nat.testBit_or,Nat.testBit_xor,Nat.testBit_and]
  cases a.testBit x<;>cases b.testBit x<;>rfl
 ·apply Nat.eq_of_testBit_eq
  intro x
  simp only [Nat.testBit_xor,Nat.testBit_and,Nat.zero_testBit]
  cases a.testBit x<;>cases b.testBit x<;>rfl
theorem YH (a b x:Nat):(a-(a&&&b)).testBit x=(a.testBit x&&!b.testBit x):=by
 have:a-(a&&&b)=a ^^^ (a&&&b):=by have:=Ud a b;omega
 rw [this,Nat.testBit_xor,Nat.testBit_and]
 cases a.testBit x<;>cases b.testBit x<;>rfl
structure PO (n:Nat)(ds:List Nat):Prop where
 len:ds.length=n
 refl:∀ i,i<n->(ds.getD i 0).testBit i=true
 dom:∀ i l,i<n->(ds.getD i 0).testBit l=true->l<n
 trans:∀ i j l,i<n->(ds.getD i 0).testBit j=true->(ds.getD j 0).testBit l=true->(ds.getD i 0).testBit l=true
 anti:∀ i j,i<n->(ds.getD i 0).testBit j=true->(ds.getD j 0).testBit i=true->i=j
theorem ZE {n i:Nat}{f:Nat->Nat}(h:i<n):((List.range n).map f).getD i 0=f i:=by
 rw [Yi (by rw [List.length_map,List.length_range];exact h),List.getElem_map,List.getElem_range]
theorem PO.flat {n:Nat}:PO n ((List.range n).map fun k=>1<<<k) where
 len:=by rw [List.length_map,List.length_range]
 refl:=fun i h=>by rw [ZE h,Wl]
 dom:=fun i l h=>by rw [ZE h,Wl];omega
 trans:=fun i j l h=>by
  rw [ZE h,Wl,Wl]
  rintro rfl
  rw [ZE h,Wl];exact id
 anti:=fun i j h=>by
  rw [ZE h,Wl]
  rintro rfl _;rfl
noncomputable def WM (low high:Nat)(ds:List Nat)(k:Nat):List Nat:=if (ds.getD k 0).testBit high=true then ds.set k (ds.getD k 0|||ds.getD low 0) else ds
noncomputable def ZbG (low high:Nat)(ds:List Nat)(i:Nat):List Nat:=(List.range i).foldl (WM low high) ds
theorem Za1 {low high k:Nat}{ds:List Nat}:(WM low high ds k).length=ds.length:=by unfold WM;split<;>simp
theorem VE {low high i:Nat}{ds:List Nat}:ZbG low high ds (i+1)=WM low high (ZbG low high ds i) i:=by
 unfold ZbG;rw [List.range_succ,List.foldl_append];rfl
theorem Vs {low high:Nat}{ds:List Nat}:∀ i,(ZbG low high ds i).length=ds.length
 | 0=>rfl
 | i+1=>by rw [VE,Za1,Vs i]
theorem Za2 {low high:Nat}{ds:List Nat}(hn:(ds.getD low 0).testBit high=false):∀ i,i<=ds.length->∀ k,(ZbG low high ds i).getD k 0=if k<i/\(ds.getD k 0).testBit high=true then ds.getD k 0|||ds.getD low 0 else ds.getD k 0
 | 0,_,k=>by rw [if_neg (by omega)];rfl
 | i+1,hi,k=>by
  have ih:=Za2 hn i (by omega)
  have elow:(ZbG low high ds i).getD low 0=ds.getD low 0:=by rw [ih,if_neg (by rw [hn];simp)]
  have ei:(ZbG low high ds i).getD i 0=ds.getD i 0:=by rw [ih,if_neg (by omega)]
  rw [VE]
  unfold WM
  rw [ei,elow]
  by_cases hb:(ds.getD i 0).testBit high=true
  ·rw [if_pos hb]
   by_cases hk:k=i
   ·subst hk
    rw [Wy (by rw [Vs];omega),if_pos ⟨by omega,hb⟩]
   ·rw [VX (fun z=>hk z.symm),ih]
    by_cases hki:k<i
    ·by_cases hh:(ds.getD k 0).testBit high=true
     ·rw [if_pos ⟨hki,hh⟩,if_pos ⟨by omega,hh⟩]
     ·rw [if_neg (fun z=>hh z.2),if_neg (fun z=>hh z.2)]
    ·rw [if_neg (fun z=>hki z.1),if_neg (fun z=>hki (by omega))]
  ·rw [if_neg hb,ih]
   by_cases hk:k=i
   ·subst hk
    rw [if_neg (by omega),if_neg (fun z=>hb z.2)]
   ·by_cases hki:k<i
    ·by_cases hh:(ds.getD k 0).testBit high=true
     ·rw [if_pos ⟨hki,hh⟩,if_pos ⟨by omega,hh⟩]
     ·rw [if_neg (fun z=>hh z.2),if_neg (fun z=>hh z.2)]
    ·rw [if_neg (fun z=>hki z.1),if_neg (fun z=>hki (by omega))]
theorem YV {low high n:Nat}{ds:List Nat}(hl:ds.length=n)(hn:(ds.getD low 0).testBit high=false){k x:Nat}(hk:k<n) :
  ((ZbG low high ds n).getD k 0).testBit x=true↔(ds.getD k 0).testBit x=true\/((ds.getD k 0).testBit high=true/\(ds.getD low 0).testBit x=true):=by
 rw [Za2 hn n (by omega)]
 by_cases hb:(ds.getD k 0).testBit high=true
 ·rw [if_pos ⟨hk,hb⟩,Nat.testBit_or,Bool.or_eq_true]
  constructor
  ·rintro (h | h)
   ·exact .inl h
   ·exact .inr ⟨hb,h⟩
  ·rintro (h | ⟨_,h⟩)
   ·exact .inl h
   ·exact .inr h
 ·rw [if_neg (fun z=>hb z.2)]
  constructor
  ·exact .inl
  ·rintro (h | ⟨h,_⟩)
   ·exact h
   ·exact absurd h hb
theorem PO.put {n low high:Nat}{ds:List Nat}(R:PO n ds)(hlow:low<n)(hn:(ds.getD low 0).testBit high=false):PO n (ZbG low high ds n) where
 len:=by rw [Vs];exact R.len
 refl:=fun i h=>(YV R.len hn h).mpr (.inl (R.refl i h))
 dom:=fun i l h hb=>by
  rcases (YV R.len hn h).mp hb with h1 | ⟨_,h1⟩
  ·exact R.dom i l h h1
  ·exact R.dom low l hlow h1
 trans:=fun i j l h h1 h2=>by
  have hj:j<n:=by
   rcases (YV R.len hn h).mp h1 with h1 | ⟨_,h1⟩
   ·exact R.dom i j h h1
   ·exact R.dom low j hlow h1
  rw [YV R.len hn h] at h1 ⊢
  rw [YV R.len hn hj] at h2
  rcases h1 with h1 | ⟨h0,h1⟩<;>rcases h2 with h2 | ⟨h3,h2⟩
  ·exact .inl (R.trans i j l h h1 h2)
  ·exact .inr ⟨R.trans i j high h h1 h3,h2⟩
  ·exact .inr ⟨h0,R.trans low j l hlow h1 h2⟩
  ·exact .inr ⟨h0,h2⟩
 anti:=fun i j h h1 h2=>by
  have hj:j<n:=by
   rcases (YV R.len hn h).mp h1 with h1 | ⟨_,h1⟩
   ·exact R.dom i j h h1
   ·exact R.dom low j hlow h1
  rw [YV R.len hn h] at h1
  rw [YV R.len hn hj] at h2
  have no:∀ y,(ds.getD low 0).testBit y=true->(ds.getD y 0).testBit high=true->False:=fun y a b=>by
   rw [R.trans low y high hlow a b] at hn;cases hn
  rcases h1 with h1 | ⟨h0,h1⟩<;>rcases h2 with h2 | ⟨h3,h2⟩
  ·exact R.anti i j h h1 h2
  ·exact (no i h2 (R.trans i j high h h1 h3)).elim
  ·exact (no j h1 (R.trans j i high hj h2 h0)).elim
  ·exact (no i h2 h0).elim
end OM
namespace L2
open PySem PySem.Spec PyProof.Rows
noncomputable def Itv (K:W.Frag)(a:Addr)(n:Nat):It :=
 ⟨fun i H=>∃ xs x,SqL K H a xs/\xs.length=n/\xs.reverse[i]? = some x,fun i H x H'=>H'=H/\∀ xs,SqL K H a xs->xs.reverse[i]? = some x,fun i _=>i=n⟩
section
variable {X:Cx}{tg:Expr}
noncomputable def Zkt (K:W.Frag)(ta:TA):TI:=fun σ H R=>ta σ H fun vs H1=>∃ a xs,vs=[.ref a]/\SqL K H1 a xs/\R (Itv K a xs.length) H1
end
section
variable {t:TS}{D:WH}{σ:St}{H:Hp}{ti:TA}{g:TG}{K:W.Frag}{a:Addr}{xs:List V}
theorem ZfK {R:It->Hp->Prop}:Zkt K ti σ H R=ti σ H fun vs H1=>∃ a xs,vs=[.ref a]/\SqL K H1 a xs/\R (Itv K a xs.length) H1:=rfl
end
noncomputable def ZiF:List V->Hp->VK->Prop:=fun xs H Q=>∃ b:Bool,xs=[.bl b]/\Q (.int (if b then 1 else 0)) H
theorem ZbU {X:Cx}:XD X (.type "int") ZiF:=by
 intro pins s σ H xs us Q I r h
 obtain⟨b,e,q⟩:=h
 exact Zd2 pins s σ H xs us Q I r (.inr ⟨b,e,q⟩)
theorem ZfF {xs:List V}{H:Hp}{Q:VK}:ZiF xs H Q=∃ b:Bool,xs=[.bl b]/\Q (.int (if b then 1 else 0)) H:=rfl
theorem ZfR {x:V}{vs:List V}{H:Hp}{Q:VK}:Zf8 x vs H Q=∃ l xs,x=.ref l/\vs=[]/\H l=some (.lst xs)/\Q .non (upd H l (.lst [])):=rfl
theorem ZjE {x:V}{vs:List V}{H:Hp}{Q:VK}:Zlh x vs H Q=∃ l xs y,x=.ref l/\vs=[]/\H l=some (.lst xs)/\xs[xs.length-1]? = some y/\Q y (upd H l (.lst xs.dropLast)):=rfl
theorem Yu (a b:Nat):Builtin.bitAnd (a:Int) (Builtin.bitNot (b:Int))=((a-(a&&&b):Nat):Int):=by
 have h1:¬ (0<=Builtin.bitNot (b:Int)):=by unfold Builtin.bitNot;omega
 have e1:(Builtin.bitNot (Builtin.bitNot (b:Int))).toNat=b:=by unfold Builtin.bitNot;omega
 have:=OM.Ud a b
 unfold Builtin.bitAnd
 simp only [h1,decide_false,e1,Int.natCast_nonneg,decide_true,Int.toNat_natCast]
 omega
noncomputable def LsA (H:Hp)(rs:List Addr)(xss:List (List Nat)):Prop:=rs.length=xss.length/\∀ (i:Nat) (r:Addr) (xs:List Nat),rs[i]? = some r->xss[i]? = some xs->H r=some (.lst (nv xs))
theorem LsA.nil {H:Hp}:LsA H [] []:=⟨rfl,fun i r xs h=>by simp at h⟩
theorem LsA.same {H H':Hp}{rs:List Addr}{xss:List (List Nat)}(h:LsA H rs xss)(s:Same H H'):LsA H' rs xss:=⟨h.1,fun i r xs a b=>s _ _ (h.2 i r xs a b)⟩
theorem LsA.at {H:Hp}{rs:List Addr}{xss:List (List Nat)}(h:LsA H rs xss){i:Nat}{r:Addr}(e:rs[i]? = some r):∃ xs,xss[i]? = some xs/\H r=some (.lst (nv xs)):=by
 have hi:i<xss.length:=by rw [<- h.1];exact (List.getElem?_eq_some_iff.mp e).1
 exact⟨xss[i],List.getElem?_eq_getElem hi,h.2 i r _ e (List.getElem?_eq_getElem hi)⟩
theorem LsA.snoc {H:Hp}{rs:List Addr}{xss:List (List Nat)}(h:LsA H rs xss){r:Addr}{xs:List Nat}(e:H r=some (.lst (nv xs))):LsA H (rs++[r]) (xss++[xs]):=by
 refine⟨by rw [List.length_append,List.length_append,h.1];rfl,fun i q ys e1 e2=>?_⟩
 rcases Nat.lt_trichotomy i rs.length with z | z | z
 ·rw [List.getElem?_append_left z] at e1
  rw [List.getElem?_append_left (by rw [<- h.1];exact z)] at e2
  exact h.2 i q ys e1 e2
 ·rw [List.getElem?_append_right (by omega),z,Nat.sub_self] at e1
  rw [List.getElem?_append_right (by rw [<- h.1];omega),<- h.1,z,Nat.sub_self] at e2
  cases e1
  cases e2
  exact e
 ·rw [List.getElem?_eq_none (by rw [List.length_append];simp;omega)] at e1;cases e1
end L2
namespace OM
end OM
namespace L2
open PySem PySem.Spec PyProof.Rows PySem.W
open Sem (wp)
noncomputable def DK (h h':Heap):Prop:=∀ b o,h.get? b=some o->∃ o',h'.get? b=some o'/\o'.dict=o.dict
theorem DK.refl (h:Heap):DK h h:=fun _ o e=>⟨o,e,rfl⟩
theorem DK.trans {h1 h2 h3:Heap}(x:DK h1 h2)(y:DK h2 h3):DK h1 h3:=fun b o e =>
 let ⟨o1,e1,d1⟩:=x b o e;let ⟨o2,e2,d2⟩:=y b o1 e1;⟨o2,e2,d2.trans d1⟩
structure Tame {α:Type}(t:Sem α):Prop where
 run:∀ (M:Model) (Γ:PySem.Ctx) (Q:α->Pos->Shared->Prop) (E:Value->Pos->Shared->Prop) (p:Pos) (s:Shared),wp M Γ t Q E p s ->
 wp M Γ t (fun a p' s'=>Q a p' s'/\DK s.heap s'.heap) (fun e p' s'=>E e p' s'/\DK s.heap s'.heap) p s
section
variable {α β:Type}
theorem ZU (a:α):Tame (pure a:Sem α):=⟨fun M Γ Q E p s h=>by
 rw [Sem.wp_pure'] at h ⊢
 exact⟨h,.refl _⟩⟩
theorem YA (x:String):Tame (unsupported x:Sem α):=⟨fun M Γ Q E p s h=>by
 unfold unsupported at h
 rw [Sem.wp_unsupported] at h
 exact False.elim h⟩
theorem ZL {m:Sem α}{f:α->Sem β}(hm:Tame m)(hf:∀ a,Tame (f a)):Tame (m >>= f):=⟨fun M Γ Q E p s h=>by
 rw [Sem.wp_bind'] at h ⊢
 refine Sem.wp_mono _ _ _ (fun a p' s' x=>?_) (fun e p' s' x=>x) _ _ (hm.run M Γ _ _ p s h)
 exact Sem.wp_mono _ _ _ (fun b p2 s2 y=>⟨y.1,x.2.trans y.2⟩) (fun e p2 s2 y=>⟨y.1,x.2.trans y.2⟩) _ _ ((hf a).run M Γ _ _ p' s' x.1)⟩
theorem YK (a:Addr):Tame (load a):=⟨fun M Γ Q E p s h=>by
 unfold load at h ⊢
 rw [Sem.wp_load] at h ⊢
 obtain⟨o,h1,h2⟩:=h
 refine⟨o,h1,?_⟩
 rw [Sem.wp_pure] at h2 ⊢
 exact⟨h2,.refl _⟩⟩
theorem YF:Tame stack:=⟨fun M Γ Q E p s h=>by
 unfold stack at h ⊢
 rw [Sem.wp_stack] at h ⊢
 rw [Sem.wp_pure] at h ⊢
 exact⟨h,.refl _⟩⟩
theorem Xf (o:Obj):Tame (alloc o):=⟨fun M Γ Q E p s h=>by
 unfold alloc at h ⊢
 rw [Sem.wp_alloc] at h ⊢
 rw [Sem.wp_pure] at h ⊢
 exact⟨h,fun b ob e=>⟨ob,Heap.get?_push_of_some _ e,rfl⟩⟩⟩
theorem Vv {a:Addr}{f:Obj->Obj}(hf:∀ o:Obj,o.isFreed=false->(f o).isFreed=false/\(f o).dict=o.dict):Tame (update a f):=⟨fun M Γ Q E p s h=>by
 unfold update at h ⊢
 rw [Sem.wp_update] at h ⊢
 refine⟨h.1,?_⟩
 have h2:=h.2
 rw [Sem.wp_pure] at h2 ⊢
 refine⟨h2,fun b ob e=>?_⟩
 by_cases q:b=a
 ·subst q
  have z:=hf ob (Heap.get?_some_iff.mp e).2
  exact⟨f ob,Heap.get?_update_self _ e z.1,z.2⟩
 ·exact⟨ob,(Heap.get?_update_other _ _ (Ne.symm q)).trans e,rfl⟩⟩
theorem Yk {c:Prop}[Decidable c]{a b:Sem α}(x:Tame a)(y:Tame b):Tame (if c then a else b):=by split<;>assumption
theorem UP (v:Value):Tame (fieldsOf v):=by unfold fieldsOf;repeat (first | intro _ | exact ZU _ | exact YA _ | exact YK _ | exact YF | exact Xf _ | assumption | with_reducible apply ZL | with_reducible apply Yk | split)
theorem WK (v:Value)(i:Nat):Tame (field v i):=by
 unfold field
 have:=UP v
 repeat (first | intro _ | exact ZU _ | exact YA _ | exact YK _ | exact YF | exact Xf _ | assumption | with_reducible apply ZL | with_reducible apply Yk | split)
theorem Uh {a:Addr}{g:Array Value->Array Value}:Tame (update a (Obj.mapFields g)):=Vv fun o ho=>by
 obtain⟨c,d,dt,sl⟩:=o
 cases dt<;>first | exact⟨rfl,rfl⟩ | exact⟨ho,rfl⟩
theorem Wn (v:Value)(i:Nat)(x:Value):Tame (setField v i x):=by
 unfold setField updateField
 have:∀ (a:Addr) (g:Array Value->Array Value),Tame (update a (Obj.mapFields g)):=fun _ _=>Uh
 repeat (first | intro _ | exact YA _ | exact YK _ | exact this _ _ | with_reducible apply ZL | with_reducible apply Yk | split)
theorem Xa (v:Value)(f:Option Addr):Tame (setFlight v f):=by
 unfold setFlight
 have h1:=WK v 1
 have h2:=Wn
 repeat (first | intro _ | exact ZU _ | exact h1 | exact h2 _ _ _ | with_reducible apply ZL | with_reducible apply Yk | split)
theorem Uv:∀ l:List Env,Tame (readyFrames l)
 | []=>by unfold readyFrames;exact ZU _
 | env::outer=>by
  have ih:=Uv outer
  have hu:∀ (a:Addr) (g:Obj->Array (Option Value)),Tame (update a fun o=>{ o with slots:=g o }):=fun a g=>Vv fun o ho=>⟨by
   obtain⟨c,d,dt,sl⟩:=o
   cases dt<;>first | rfl | exact ho,rfl⟩
  have h1:∀ e o,Tame (behindIsImport e o):=fun e o=>by
   unfold behindIsImport
   have:=WK
   repeat (first | intro _ | exact ZU _ | exact this _ _ | with_reducible apply ZL | with_reducible apply Yk | split)
  have h2:∀ e b o,Tame (keptBack e b o):=fun e b o=>by
   unfold keptBack underTheClaimsCaller
   repeat (first | intro _ | exact ZU _ | exact YA _ | exact YK _ | exact YF | exact Xf _ | assumption | with_reducible apply ZL | with_reducible apply Yk | split)
  unfold readyFrames
  repeat (first | intro _ | exact ZU _ | exact YA _ | exact YK _ | exact ih | exact h1 _ _ | exact h2 _ _ _ | exact hu _ _ | with_reducible apply ZL | with_reducible apply Yk | split)
theorem JC (env:Env):Tame (PySem.frameOf env):=by
 unfold PySem.frameOf frameEnvs frameObject
 have:=Uv
 repeat (first | intro _ | exact ZU _ | exact YA _ | exact YF | exact this _ | with_reducible apply ZL | with_reducible apply Yk | split)
theorem UO (a b c d e:Value)(l:List Value):Tame (EntryCells.newEntry a b c d e l):=by
 unfold EntryCells.newEntry newFields newObj newObjAsIs
 repeat (first | intro _ | exact ZU _ | exact YA _ | exact YK _ | exact YF | exact Xf _ | assumption | with_reducible apply ZL | with_reducible apply Yk | split)
theorem Zb7 (f:Addr)(b:Bool):Tame (entryPlaceOf f b):=by
 unfold entryPlaceOf
 repeat (first | intro _ | exact ZU _ | exact YA _ | exact YK _ | exact YF | exact Xf _ | assumption | with_reducible apply ZL | with_reducible apply Yk | split)
theorem JB (e:Value)(env:Env):Tame (noteFrame e env):=by
 unfold noteFrame
 have h1:=WK
 have h2:=Wn
 have h3:=JC
 have h4:=UO
 have h5:=Zb7
 repeat (first | intro _ | exact ZU _ | exact YA _ | exact h1 _ _ | exact h2 _ _ _ | exact h3 _ | exact h4 _ _ _ _ _ _ | exact h5 _ _ | with_reducible apply ZL | with_reducible apply Yk | split)
theorem Vg (env:Env)(e:Value):Tame (leaving env e):=by
 unfold leaving
 exact ZL (JB e env) fun _=>Xa e none
theorem Tame.any {t:Sem α}(T:Tame t){M:Model}{A:Around}{Q:α->Shared->Prop}{E:Value->Shared->Prop}{s:Shared}(h:wpAny M A t (fun a s'=>DK s.heap s'.heap->Q a s') (fun e s'=>DK s.heap s'.heap->E e s') s):wpAny M A t Q E s :=
 fun Γ p hΓ=>Sem.wp_mono _ _ _ (fun a _ s' x=>x.1 x.2) (fun e _ s' x=>x.1 x.2) _ _ (T.run M Γ _ _ p s (h Γ p hΓ))
end
end L2
namespace L2
open PySem PySem.Spec PyProof.Rows
structure Fly (P:Program)(w:World)(outer:List Env)(H H':Hp)(h B:Heap)(ea:Addr)(cls a0:Value)(dct:Option Addr)(h':Heap):Prop where
 fl:Heap.FlyingW B outer ea cls a0 h'
 dd:∃ oe,h'.get? ea=some oe/\oe.dict=dct
 hok:HOk P w H' B
 new:h.get? ea=none
 keep:∀ b o,h.get? b=some o->H b=none->b∉frs outer->B.get? b=some o
 slot:∀ b o,h.get? b=some o->H b=none->b∈frs outer->∃ sl,h'.get? b=some { o with slots:=sl }
 free:∀ b o,h.get? b=some o->H b=none->H' b=none
 there:∀ b o,h.get? b=some o->b∉frs outer->∃ o',B.get? b=some o'
 tups:∀ b xs,H b=some (.tup xs)->H' b=some (.tup xs)
 frzs:∀ b o u,H b=some (.frz o u)->H' b=some (.frz o u)
 tbls:∀ b ps,H b=some (.tbl ps)->∃ more,H' b=some (.tbl (ps++more))
section
variable {P:Program}{w:World}{outer:List Env}{H H':Hp}{h B h':Heap}{ea:Addr}{cls a0:Value}{dct:Option Addr}
theorem ObjOk.here {a:Addr}{o:HO}(x:ObjOk P w H h a o):∃ ob,h.get? a=some ob:=by
 cases o with
 | lst xs=>obtain⟨_,_,_,_,e⟩:=x;exact⟨_,e⟩
 | tup xs=>obtain⟨_,_,_,ob,e,_⟩:=x;exact⟨_,e⟩
 | dK kvs=>obtain⟨_,_,_,_,o,_,_,e,_⟩:=x;exact⟨_,e⟩
 | dT kvs=>obtain⟨_,_,_,_,o,_,_,e,_⟩:=x;exact⟨_,e⟩
 | set S n=>obtain⟨o,_,_,_,e,_⟩:=x;exact⟨_,e⟩
 | ins C dx fs=>obtain⟨_,_,_,e,_⟩:=x;exact⟨_,e⟩
 | own y=>exact x
 | xd fs=>obtain⟨_,⟨_,_,_,e,_⟩,_⟩:=x;exact⟨_,e⟩
 | rng lo hi=>obtain⟨_,_,_,e⟩:=x;exact⟨_,e⟩
 | frz ob u=>obtain⟨e,_⟩:=x;exact⟨_,e⟩
 | tbl ps=>exact⟨_,show h.get? a=some _ from x⟩
 | met f y=>exact⟨_,show h.get? a=some _ from x⟩
 | ext φ=>obtain⟨_,e,_⟩:=x;exact e
theorem HOk.none {a:Addr}(x:HOk P w H h)(e:h.get? a=none):H a=none:=by
 cases q:H a with
 | none=>rfl
 | some u =>
  obtain⟨ob,z⟩:=ObjOk.here (x a u q)
  rw [e] at z;cases z
theorem Fly.nH (F:Fly P w outer H H' h B ea cls a0 dct h'):H' ea=none:=F.hok.none F.fl.2.1
theorem Fly.un (F:Fly P w outer H H' h B ea cls a0 dct h'):Un (frs outer) [] H H' h h' where
 keep:=fun b o q n hb _=>F.fl.1 b o (F.keep b o q n hb)
 slot:=fun b o q n hb _=>F.slot b o q n hb
 free:=fun b o q n _=>F.free b o q n
 there:=fun b o q _=>by
  by_cases hb:b∈frs outer
  ·obtain⟨_,o',ho',_⟩:=F.fl.2.2.1.mem hb
   exact⟨o',ho'⟩
  ·obtain⟨o',e⟩:=F.there b o q hb
   exact⟨o',F.fl.1 b o' e⟩
 tups:=F.tups
 frzs:=F.frzs
 tbls:=F.tbls
theorem Fly.hokH (F:Fly P w outer H H' h B ea cls a0 dct h'):HOk P w H' h':=F.hok.kept F.fl.1
end
noncomputable def XOk (P:Program)(w:World)(outer:List Env)(H:Hp)(s:Shared)(E:XK)(e:Value)(s':Shared):Prop :=
 ∃ (ea:Addr) (cls a0:Value) (dct:Option Addr) (B:Heap) (H':Hp),e=.ref ea/\s'.os=s.os/\AllBare s'.gens/\Fly P w outer H H' s.heap B ea cls a0 dct s'.heap/\E cls dct H'
noncomputable abbrev CXE (P:Program)(w:World):CXT:=fun outer H s E e s'=>XOk P w outer H s E e s'
section
variable {X:Cx}{pins:List (Addr×Obj)}{σ:St}{H H':Hp}{s s':Shared}{ea:Addr}{cls a0:Value}{dct:Option Addr}
structure WZ (X:Cx):Prop where
 stk:X.stack=X.env::X.outer
 fr:X.env.frame=some X.env.locals
 ex:X.ex=[]
theorem WA (S:WZ X):frs X.stack=X.env.locals::frs X.outer:=by
 unfold frs
 rw [S.stk,List.filterMap_cons,S.fr]
theorem Zg3 {l:List Env}{env:Env}{b:Addr}(h:env∈l)(hf:env.frame=some b):b∈frs l:=List.mem_filterMap.mpr ⟨env,h,hf⟩
theorem Zjj {B:Heap}{Q:Unit->Shared->Prop}{E:Value->Shared->Prop}(S:WZ X)(I:Inv X pins σ H s)(F:Fly X.prog X.w X.stack H H' s.heap B ea cls a0 dct s'.heap)
  (hQ:∀ h2,Fly X.prog X.w X.outer X.H₀ H' X.s₀.heap B ea cls a0 dct h2->Q () { s' with heap:=h2 }):wpAny (model X.prog X.w) X.A (leaving X.env (.ref ea)) Q E s':=by
 have hfr:X.A.frames=some (X.env::X.outer):=by rw [I.ok.frames,S.stk]
 have hlt:∀ b o,X.s₀.heap.get? b=some o->b≠X.env.locals:=fun b o q z=>by
  subst z
  exact absurd (Nat.lt_of_lt_of_le (Heap.lt_size q) I.ok.above) (Nat.lt_irrefl _)
 have hns:∀ b o,X.s₀.heap.get? b=some o->b∉frs X.outer->b∉frs X.stack:=fun b o q hb hm=>by
  rw [WA S] at hm
  rcases List.mem_cons.mp hm with z | z
  ·exact hlt b o q z
  ·exact hb z
 have hex:∀ b,b∉X.ex:=fun b hb=>by rw [S.ex] at hb;cases hb
 have fl:=F.fl
 rw [S.stk] at fl
 refine (Vg X.env (.ref ea)).any ?_
 refine wpAny_leaves_onW hfr S.fr fl fun h2 x1 x2 dk=>hQ h2 ⟨x1,(by obtain⟨o,e1,e2⟩:=F.dd;obtain⟨o2,e3,e4⟩:=dk _ _ e1;exact⟨o2,e3,e4.trans e2⟩),F.hok,?_,fun b o q n hb=>?_,fun b o q n hb=>?_,fun b o q n=>?_,fun b o q hb=>?_,fun b xs q=>F.tups b xs (I.base.tups b xs q),fun b o u q=>F.frzs b o u (I.base.frzs b o u q),fun b ps q=>?_⟩
 ·cases q:X.s₀.heap.get? ea with
  | none=>rfl
  | some o =>
   obtain⟨o',e⟩:=I.base.there ea o q (hex ea)
   rw [F.new] at e;cases e
 ·exact F.keep b o (I.base.keep b o q n hb (hex b)) (I.base.free b o q n (hex b)) (hns b o q hb)
 ·obtain⟨sl,e⟩:=I.base.slot b o q n hb (hex b)
  have hm:b∈frs X.stack:=by rw [WA S];exact List.mem_cons_of_mem _ hb
  obtain⟨sl2,e2⟩:=F.slot b _ e (I.base.free b o q n (hex b)) hm
  obtain⟨_,o',ho',hd⟩:=F.fl.2.2.1.mem hm
  rw [e2] at ho'
  cases ho'
  exact x2 b { o with slots:=sl2 } e2 hd
 ·obtain⟨o',e⟩:=I.base.there b o q (hex b)
  exact F.free b o' e (I.base.free b o q n (hex b))
 ·obtain⟨o',e⟩:=I.base.there b o q (hex b)
  exact F.there b o' e (hns b o q hb)
 ·obtain⟨m1,e1⟩:=I.base.tbls b ps q
  obtain⟨m2,e2⟩:=F.tbls b _ e1
  exact⟨m1++m2,by rw [e2,Array.append_assoc]⟩
end
structure Rz (X:Cx)(E:XK):Prop where
 on:WZ X
 calm:X.calm=true
 xe:X.xe=fun e s'=>wpAny (model X.prog X.w) X.A (leaving X.env e) (fun _ s''=>XOk X.prog X.w X.outer X.H₀ X.s₀ E e s'') (fun e' s''=>XOk X.prog X.w X.outer X.H₀ X.s₀ E e' s'') s'
theorem Zez {P:Program}{w:World}{K:W.Frag}{mg:Str->Option Value}{base:Heap}{N:List Str}{qual:Str}{scope:Scope}{f:Addr}{cd:Value}{A:Around}{outer:List Env}{s:Shared}{H:Hp}{E:XK} :
  Rz (Zeq (CXE P w) P w K mg base N qual scope f cd A outer s H E) E:=⟨⟨rfl,rfl,rfl⟩,rfl,rfl⟩
theorem Rz.passes {X:Cx}{E:XK}(R:Rz X E):ZbZ (CXE X.prog X.w) X E:=by
 rintro pins σ H s e s' I ⟨ea,cls,a0,dct,B,H',rfl,ho,hb,F,q⟩
 rw [R.xe]
 refine Zjj R.on I F fun h2 F2=>⟨ea,cls,a0,dct,B,H',rfl,ho.trans I.os,hb,F2,q⟩
theorem Rz.own {X:Cx}{E:XK}(R:Rz X E):PassesOwn (model X.prog X.w) X.A X.env X.xe:=by
 rw [R.xe]
 exact PassesOwn.leaving
structure Zlr (K:W.Frag)(C:Addr):Prop where
 obj:∀ h:Heap,K.In h->∃ bm N nm q bs hdct sn sub ab col dd k0 k1 k2 k3 k5 mN,h.get? C=some (excClassObj nm q C N bs bm hdct sn sub ab col dd k0 k1 k2 k3 k5 "ValueError.__new__")/\h.Ns N mN/\mN "__init__" = none /\
  OwnTail h [.type "ValueError",.type "Exception",.type "BaseException",.type "object"] bm
noncomputable def Zim (C:Addr)(E:XK)(ta:TA):TS:=fun _ σ H=>ta σ H fun vs H1=>vs.length<=sizeLine/\E (.ref C) none H1
section
variable {P:Program}{w:World}{outer:List Env}{H H':Hp}{h B h' h2:Heap}{ea:Addr}{cls a0:Value}{dct:Option Addr}
theorem Fly.again (F:Fly P w outer H H' h B ea cls a0 dct h')(x:Heap.FlyingW B outer ea cls a0 h2)(u:h'.UpToSlots h2)(dk:DK h' h2):Fly P w outer H H' h B ea cls a0 dct h2 :=
 ⟨x,(by obtain⟨o,e1,e2⟩:=F.dd;obtain⟨o2,e3,e4⟩:=dk _ _ e1;exact⟨o2,e3,e4.trans e2⟩),F.hok,F.new,F.keep,fun b o q n hb=>by
  obtain⟨sl,e⟩:=F.slot b o q n hb
  obtain⟨_,o',ho',hd⟩:=F.fl.2.2.1.mem hb
  rw [e] at ho'
  cases ho'
  exact u b { o with slots:=sl } e hd,F.free,F.there,F.tups,F.frzs,F.tbls⟩
noncomputable def XIs (ea:Addr)(cls:Value)(dct:Option Addr):Heap->Prop:=fun h=>∃ o vs,h.get? ea=some o/\o.cls=cls/\o.data=.fields vs/\o.dict=dct
theorem Fly.unX (F:Fly P w outer H H' h B ea cls a0 dct h')(o:HO):Un (frs outer) [] H (upd H' ea o) h h' where
 keep:=F.un.keep
 slot:=F.un.slot
 free:=fun b ob q n hx=>by
  rw [Zh (fun z=>by rw [z,F.new] at q;cases q)]
  exact F.un.free b ob q n hx
 there:=F.un.there
 tups:=fun b xs q=>by rw [Zh (Zj (F.tups b xs q) F.nH)];exact F.tups b xs q
 frzs:=fun b ob u q=>by rw [Zh (Zj (F.frzs b ob u q) F.nH)];exact F.frzs b ob u q
 tbls:=fun b ps q=>by
  obtain⟨m,e⟩:=F.tbls b ps q
  exact⟨m,by rw [Zh (Zj e F.nH)];exact e⟩
theorem Fly.hokX (F:Fly P w outer H H' h B ea cls a0 dct h'):HOk P w (upd H' ea (.ext (XIs ea cls dct))) h':=fun b u q=>by
 by_cases hb:b=ea
 ·subst hb
  rw [Zd] at q
  cases q
  obtain⟨oe,vs,he,hc,hd,_⟩:=F.fl.first
  obtain⟨oe',he',hdd⟩:=F.dd
  rw [he] at he'
  cases he'
  refine⟨⟨oe,vs,he,hc,hd,hdd⟩,⟨oe,he⟩,?_⟩
  rintro h1 h2 ⟨o,vs,e1,e2,e3⟩ k
  exact⟨o,vs,k o e1,e2,e3⟩
 ·rw [Zh hb] at q
  exact (F.hokH b u q).stay (fun c v _ r=>r) (fun c r=>by rw [Zh (Zj r F.nH)];exact r) fun c ys r=>by rw [Zh (Zj r F.nH)];exact r
end
noncomputable def WU (X:Cx)(e:Value):Cx:={ X with A:=X.A.mark (some e),calm:=false,xe:=fun _ _=>False }
section
variable {X:Cx}{pins:List (Addr×Obj)}{σ:St}{H H':Hp}{s s':Shared}{ea:Addr}{cls a0:Value}{dct:Option Addr}
theorem Cx.Ok.suite (ok:X.Ok)(e:Value):(WU X e).Ok :=
 ⟨ok.mod,ok.kind,ok.glob,ok.blt,ok.above,ok.inj,ok.has,ok.cab,(fun z=>nomatch z),ok.frames,ok.stk,ok.exf,ok.bs,ok.bsz,ok.noex,ok.exfs,ok.funs,ok.frf⟩
theorem Inv.suite (I:Inv X pins σ H s)(e:Value):Inv (WU X e) pins σ H s:=⟨I.ok.suite e,I.os,I.bare,I.base,I.loc,I.cell,I.free,I.freeC,I.pin,I.hok,I.len⟩
theorem Inv.unsuite {e:Value}(I:Inv (WU X e) pins σ H s)(ok:X.Ok):Inv X pins σ H s:=⟨ok,I.os,I.bare,I.base,I.loc,I.cell,I.free,I.freeC,I.pin,I.hok,I.len⟩
theorem Inv.goes {i:Nat}{n:Str}{v:Option Value}{m:Str->Option Value}{h2:Heap}{t':Nat}(I:Inv X pins σ H s)(hN:X.N.Nodup)(hi:X.N[i]? = some n)(hn:X.env.scope.names.lookup n=some .local)
  (hm:s.heap.Ns X.env.locals m) (hm2:h2.Ns X.env.locals (fun x=>if x=n then v else m x)) (hs:Heap.SameBut X.env.locals s.heap h2):Inv X pins (σ.set i none) H { s with heap:=h2,toks:=t' }:=by
 obtain⟨m',hn',hl⟩:=id I.loc
 have em:m'=m:=by
  funext x
  obtain⟨o,es,ep,ho,hd,hk,hmm⟩:=hm
  obtain⟨o',es',ep',ho',hd',hk',hmm'⟩:=hn'
  rw [ho] at ho'
  cases ho'
  rw [hd] at hd'
  cases hd'
  rw [<- hmm x,<- hmm' x]
 subst em
 have cne:=I.cne
 obtain⟨oL,_,_,hoL,_⟩:=id hm
 refine⟨I.ok,I.os,I.bare,⟨fun b o e n hb hx=>?_,fun b o e n hb hx=>?_,I.base.free,fun b o e hx=>?_,I.base.tups,I.base.frzs,I.base.tbls⟩,⟨_,hm2,fun j y v' e1 e2 e3=>?_⟩,fun y c e=>?_,I.free,I.freeC,fun p hp=>?_,fun b ob e=>?_,by simpa using I.len⟩
 ·exact (hs.2 b (Nat.ne_of_lt (Nat.lt_of_lt_of_le (Heap.lt_size e) I.ok.above))).trans (I.base.keep b o e n hb hx)
 ·obtain⟨sl,e1⟩:=I.base.slot b o e n hb hx
  exact⟨sl,(hs.2 b (Nat.ne_of_lt (Nat.lt_of_lt_of_le (Heap.lt_size e) I.ok.above))).trans e1⟩
 ·obtain⟨o',e1⟩:=I.base.there b o e hx
  exact⟨o',(hs.2 b (Nat.ne_of_lt (Nat.lt_of_lt_of_le (Heap.lt_size e) I.ok.above))).trans e1⟩
 ·by_cases hj:j=i
  ·subst hj
   rw [List.getElem?_set] at e2
   simp at e2
  ·rw [List.getElem?_set_ne (Ne.symm hj)] at e2
   obtain⟨u',r',q⟩:=hl j y v' e1 e2 e3
   refine⟨u',r',?_⟩
   rcases q with ⟨k,e⟩ | ⟨k,c,e,z⟩
   ·refine .inl ⟨k,?_⟩
    have:y≠n:=fun e=>hj (nodup_ix hN e1 (e▸hi))
    simp [this,e]
   ·exact .inr ⟨k,c,e,z.sameBut hs (cne y c e)⟩
 ·obtain⟨w',z⟩:=I.cell y c e
  exact⟨w',z.sameBut hs (cne y c e)⟩
 ·obtain⟨e,n,ne,nf,d⟩:=I.pin p hp
  exact⟨(hs.2 p.1 ne).trans e,n,ne,nf,d⟩
 ·refine (I.hok b ob e).stay (fun c w' hc q=>(hs.2 c ?_).trans q) (fun _ q=>q) fun _ _ q=>q
  rintro rfl
  rcases hc with z | z
  ·rw [<- z,I.free] at e;cases e
  ·rw [I.free] at z;cases z
end
noncomputable def ZfV (K:W.Frag)(C:Addr)(bm:List Value):Prop:=∃ nm q N bs hdct sn sub ab col dd k0 k1 k2 k3 k5 newId,K.lookup C=some (excClassObj nm q C N bs bm hdct sn sub ab col dd k0 k1 k2 k3 k5 newId)
section
variable {M:Model}{A:Around}{E:Value->Shared->Prop}{K:W.Frag}{s:Shared}
end
section
variable {X:Cx}{sp:Sp}{ta:TA}{t2:TS}{k:Nat}{f:Str}{ps:List Str}
noncomputable def FnX (P:Program)(w:World)(K:W.Frag)(mg:Str->Option Value)(base:Heap)(k:Nat)(x:Str)(ps:List Str)(sp:Sp):Prop :=
 ∃ f fd,FnOk P w K mg base (CXE P w) k f fd ps sp/\mg x=some (.ref f)/\W.keepIn K (.ref f)=true/\Binds K fd ps []/\FdAt K f fd
end
theorem Src.fnX {P:Program}{w:World}{K:W.Frag}{mg:Str->Option Value}{base:Heap}{x:Str}{st:Stmt}{ps N:List Str}{sp:Sp}{k:Nat}(S:Src K mg x st ps)(sc:Zm N ps (Zg st))(len:∀ vs H Q E,sp vs H Q E->vs.length=ps.length)
  (hbody:∀ (f:Addr) (cdv:Value) (A:Around) (outer:List Env) (s:Shared) (H:Hp) (vs:List V) (Q:VK) (E:XK),Room k (A.deeper (envOfC x (Zg st) s.heap.objs.size f cdv))->sp vs H Q E ->
   ∃ t,PSs (Zeq (CXE P w) P w K mg base N x (Zg st) f cdv A outer s H E) (ZR st) t/\t { nx:=fun _ H'=>Q .non H',rt:=Q } (start N vs) H):FnX P w K mg base (k+1) x ps sp:=by
 obtain⟨f,fd,hm,F,b⟩:=S
 have kp:=F.kp
 have fa:=F.fd
 obtain⟨oc,od,kV,doc,pm,an,cdv,ct,osl,rfl,lk,hcd⟩:=F.ex
 exact⟨f,_,Zhj lk hcd sc len fun A outer s H vs Q E hr h=>hbody f cdv A outer s H vs Q E hr h,hm,kp,b,fa⟩
theorem FnX.or {P:Program}{w:World}{K:W.Frag}{mg:Str->Option Value}{base:Heap}{x:Str}{ps:List Str}{sp sp':Sp}{j k:Nat}(F:Fn P w K mg base j x ps sp)(F':FnX P w K mg base k x ps sp'):FnX P w K mg base (max j k) x ps (fun vs H Q E=>sp vs H Q E\/sp' vs H Q E):=by
 obtain⟨f,fd,F,hm,hk,hb,ha⟩:=F
 obtain⟨f',fd',F',hm',hk',hb',ha'⟩:=F'
 rw [hm] at hm'
 cases hm'
 cases ha.one ha'
 refine⟨f,fd,⟨fun vs H Q E h=>h.elim (F.len vs H Q E) (F'.len vs H Q E),fun A outer s H args us vs Q E hr he hbd hv h=>?_⟩,hm,hk,hb,ha⟩
 rcases h with h | h
 ·refine codeAny_mono (F.run A outer s H args us vs Q E (hr.mono (Nat.le_max_left _ _)) he hbd hv h) fun r s' q=>?_
  cases r with
  | ok fl=>cases fl<;>exact q
  | error e=>exact False.elim q
 ·exact F'.run A outer s H args us vs Q E (hr.mono (Nat.le_max_right _ _)) he hbd hv h
section
variable {X:Cx}{E:XK}
theorem ZeI {k:Nat}{x:Str}{ps:List Str}{sp:Sp}{p pos:Pos}{e:Expr}{es:List Expr}{t:TA}(R:Rz X E)(F:FnX X.prog X.w X.K X.mg X.base k x ps sp)(hr:Room k X.A)(hg:Gl X x)(ha:PA X (e::es) t)
  (hdb:(x == ("__debug__" : Str))=false:=by decide) (he:starEach (e::es) X.env=(false,eval e X.env)::starEach es X.env:=by rfl) (hpl:(backTo pos (starEach es X.env)).any (·.1)=false:=by rfl) :
  PE X (.Call (.Name x p) (e::es) [] pos) (ZaU sp [] E t):=by
 intro pins s σ H Q I h
 obtain⟨f,fd,F,hm,hk,hb,_⟩:=F
 exact Zdh F hr hg hm hk hb .nil R.passes ha hdb he hpl pins s σ H Q I h
theorem ZfS {sp:Sp}{ti:TA}{σ:St}{H:Hp}{Q:VK}:ZaU sp [] E ti σ H Q=ti σ H fun vs H1=>sp vs H1 Q E:=by
 unfold ZaU;simp only [List.append_nil]
theorem ZfB {C:Addr}{ti:TA}{D:WH}{σ:St}{H:Hp}:Zim C E ti D σ H=ti σ H fun vs H1=>vs.length<=sizeLine/\E (.ref C) none H1:=rfl
noncomputable abbrev TJ:=St->Hp->(Hp->Prop)->Prop
noncomputable def PJ (X:Cx)(es:List Expr)(n:Nat)(t:TJ):Prop:=∀ (acc:Str) (pins:List (Addr×Obj)) (s:Shared) (σ:St) (H:Hp) (Q:Hp->Prop),acc.length+n*2000<=sizeLine->Inv X pins σ H s->t σ H Q ->
 wpAny (model X.prog X.w) X.A (joinParts acc (evalEach es X.env)) (EP X pins σ fun v H'=>(∃ z,v=.str z)/\Q H') X.xe s
noncomputable def Zk3:TJ:=fun _ H Q=>Q H
theorem ZiK:PJ X [] 0 Zk3:=fun acc _ s σ H Q hz I h=>joinParts_nil ⟨.str acc,H,I.tok _,⟨_,rfl⟩,⟨acc,rfl⟩,h⟩ (by omega)
theorem ZiJ {x:Str}{j:Nat}{pos:Pos}{es:List Expr}{n:Nat}{t:TJ}(h:PJ X es n t)(hx:x.length<=2000:=by decide):PJ X (.Constant (.str x) j pos::es) (n+1) t:=by
 intro acc pins s σ H Q hz I hw
 refine joinParts_cons (Calls.Constant_str ?_)
 have hl:=strLen_append acc x
 exact⟨by omega,h (acc++x) pins _ σ H Q (by omega) (I.tok _) hw⟩
noncomputable def Ziq (t:TJ):TE:=fun σ H Q=>t σ H fun H1=>∀ z:Str,Q (.str z) H1
theorem ZgT {v₁ v₂:Expr}{rest:List Expr}{pos:Pos}{n:Nat}{t:TJ}(h:PJ X (v₁::v₂::rest) n t)(hn:n<=1000:=by decide):PE X (.JoinedStr (v₁::v₂::rest) pos) (Ziq t):=by
 intro pins s σ H Q I hw
 refine JoinedStr_many (thn (h Str.empty pins s σ H _ (by have:Str.empty.length=0:=rfl;rw [this,sizeLine_eq];omega) I hw) fun v s1 ⟨y,H1,I1,r1,⟨z,e⟩,q⟩=>?_)
 subst e
 exact⟨_,H1,I1,r1,q z⟩
theorem ZhU {t:TJ}{σ:St}{H:Hp}{Q:VK}:Ziq t σ H Q=t σ H fun H1=>∀ z:Str,Q (.str z) H1:=rfl
theorem ZhL {σ:St}{H:Hp}{Q:Hp->Prop}:Zk3 σ H Q=Q H:=rfl
end
section
variable {X:Cx}
end
theorem Zcz {K:W.Frag}{C N:Addr}{nm q:Str}{bs bm:List Value}{hdct:Bool}{sn:List Str}{sub:List Value}{ab:Bool}{col:Option Bool}{dd:Option Addr}{k0 k1 k2 k3 k5:Option Value}{newId:String}
  (ho:K.lookup C=some (excClassObj nm q C N bs bm hdct sn sub ab col dd k0 k1 k2 k3 k5 newId)):ZfV K C bm:=⟨nm,q,N,bs,hdct,sn,sub,ab,col,dd,k0,k1,k2,k3,k5,newId,ho⟩
noncomputable def Zjo:Data->Option ClassData
 | .cls cd=>some cd
 | _=>none
noncomputable def Zb8 (l:List (Option Value)):List (Option Value):=[l.getD 0 none,l.getD 1 none,l.getD 2 none,l.getD 3 none,some (.builtin "ValueError.__new__"),l.getD 5 none]
noncomputable def excInZ (K:W.Frag)(C:Addr):Bool:=match K.lookup C with
 | none=>false
 | some o=>match Zjo o.data with
  | none=>false
  | some cd=>o.cls == .type "type" && cd.mro == .ref C::cd.mro.tail&&o.slots.toList == Zb8 o.slots.toList&&!cd.hasDel&&W.tailIn K [.type "ValueError",.type "Exception",.type "BaseException",.type "object"] cd.mro.tail&&W.nsOkIn K cd.ns&&W.nsIn K cd.ns "__init__" == some none
theorem Zer {K:W.Frag}{C:Addr}(q:excInZ K C=true):Zlr K C:=by
 constructor
 intro h XK
 unfold excInZ at q
 cases ho:K.lookup C with
 | none=>rw [ho] at q;cases q
 | some o =>
  rw [ho] at q
  obtain⟨c,dd,da,sl⟩:=o
  cases da with
  | cls cd =>
   have q:(c == .type "type" && cd.mro == .ref C::cd.mro.tail&&sl.toList == Zb8 sl.toList&&!cd.hasDel&&W.tailIn K [.type "ValueError",.type "Exception",.type "BaseException",.type "object"] cd.mro.tail&&W.nsOkIn K cd.ns&&W.nsIn K cd.ns "__init__" == some none)=true:=q
   simp only [Bool.not_eq_true',beq_iff_eq,Bool.and_eq_true] at q
   obtain⟨⟨⟨⟨⟨⟨c1,c2⟩,c3⟩,c4⟩,c5⟩,c6⟩,c7⟩:=q
   obtain⟨nm,bs,mro,ns,qn,hd,sn,sub,ab,col,del⟩:=cd
   have z4:del=false:=c4
   have z1:mro=Value.ref C::mro.tail:=c2
   have z2:sl=(Zb8 sl.toList).toArray:=by rw [<- c3]
   have e:=XK _ _ ho
   rw [z1,z2,c1,z4] at e
   exact⟨_,ns,nm,qn,bs,hd,sn,sub,ab,col,dd,_,_,_,_,_,_,e,Heap.Ns.of_isNs (W.isNs_of_in XK c6),W.nsMap_none_of_in XK c6 c7,W.tail_of_in XK c5⟩
  | _=>cases (show false=true from q)
theorem Zg9 {K:W.Frag} {C D:Addr} {cd:ClassData} (h1:W.clsIn K D=some cd) (h2:W.typeIn K (.ref D)=some (.type "type")) (h3:W.subIn K (.ref C) (.ref D)=some true):W.kitOne K (.ref C) (.ref D)=some true:=by
 unfold W.kitOne
 split
 ·rfl
 ·show (if ((W.clsIn K D).isSome&&W.typeIn K (.ref D) == some (.type "type"))=true then W.subIn K (.ref C) (.ref D) else none)=some true
  rw [h1,h2,h3]
  rfl
end L2
namespace L2
open PySem PySem.Spec PyProof.Rows PySem.W
structure ZbX (K:W.Frag)(C:Addr):Prop where
 cl:findIn K (.ref C) "__class__" = some (some (.builtin "object.__class__"))
 ga:findIn K (.ref C) "__getattribute__" = some (some (.builtin "BaseException.__getattribute__"))
 gt:findIn K (.ref C) "__getattr__" = some none
 cd:(clsIn K C).isSome=true
 ob:subIn K (.ref C) (.type "object")=some true
 bx:subIn K (.ref C) (.type "BaseException")=some true
section
variable {prog:Program}{w:World}{A:Around}{E:Value->Shared->Prop}{h:Heap}{g:Array GenState}{d:Drawn}{t:Nat}{os:OsState}{a:Addr}{o:Obj}{K:W.Frag}{C:Addr}
theorem Zb1 {R:Result->Shared->Prop}(Z:ZbX K C)(X:K.In h)(hx:h.get? a=some o)(hc:o.cls=.ref C)(hq:R (.ok (.ret (.ref C))) ⟨h,g,d,t,os⟩) :
  codeAny (model prog w) A (.call (.builtin "getset_descriptor.__get__") ⟨[.builtin "object.__class__",.ref a,.ref C],[]⟩) R ⟨h,g,d,t,os⟩:=by
 have hT5:(⟨h,g,d,t,os⟩:Shared).TypeIs (.builtin "object.__class__") "getset_descriptor" := PySem.F.typeOf_object_class
 have hs:Looks (model prog w) h (isSubtype (.ref C) (.type (".".intercalate ("object.__class__".cutAt '.').dropLast))) true:=by
  rw [PySem.F.owner_object_class];exact looks_subIn X Z.ob
 refine codeAny_call_builtin PySem.F.slot_gs_get.plain PySem.F.entry_gs_get (PySem.F.slot_gs_get.check _ _ _ _ _ _ _ _ hT5 (PySem.F.args_gs_get _ _ _) ?_)
 repeat (any_goals (first | assumption | (with_reducible refine wpAny_loadPart_at hx ?_;rw [hc]) | with_reducible refine hs.at ?_ | wp_step))
 refine⟨Code.quiet_builtin _ (by decide +kernel),codeAny_builtin PySem.F.entry_object_class ?_⟩
 repeat (any_goals (first | assumption | (with_reducible refine wpAny_loadPart_at hx ?_;rw [hc]) | wp_step))
theorem Jv {tk:Tok}{Q:Fin->Shared->Prop}(Z:ZbX K C)(X:K.In h)(hx:h.get? a=some o)(hc:o.cls=.ref C)(hq:Q (.done (.ret (.ref C))) ⟨h,g,d,t,os⟩) :
  wpAny (model prog w) A (Builtin.«object.__getattribute__» ⟨[.ref a,.str "__class__" tk],[]⟩) Q E ⟨h,g,d,t,os⟩:=by
 have hT5:(⟨h,g,d,t,os⟩:Shared).TypeIs (.builtin "object.__class__") "getset_descriptor" := PySem.F.typeOf_object_class
 have f4:Looks (model prog w) h (typeLookup (.ref C) "__class__") _:=looks_findIn X Z.cl
 have f5:=PySem.F.typeOf_object_class
 have f6:=PySem.F.slot_gs_get.lookup
 have f7:=PySem.F.slot_gs_set.lookup
 repeat (any_goals (first | assumption | (with_reducible refine wpAny_loadPart_at hx ?_;rw [hc]) | with_reducible refine f4.at ?_ | wp_step))
 refine Zb1 Z X hx hc ?_
 repeat (any_goals (first | assumption | wp_step))
theorem Va {M:Model}{nameV:Value}{Q:Unit->Shared->Prop}(Z:ZbX K C)(X:K.In h)(hx:h.get? a=some o)(hc:o.cls=.ref C)(hq:Q () ⟨h,g,d,t,os⟩) :
  wpAny M A (checkBuiltinCall "BaseException.__getattribute__" ⟨[.ref a,nameV],[]⟩) Q E ⟨h,g,d,t,os⟩:=by
 have kindB:builtinKind "BaseException.__getattribute__" = some .slot:=by decide +kernel
 have nameB:splitId "BaseException.__getattribute__" = some ("BaseException", "__getattribute__"):=by decide +kernel
 have hs:Looks M h (isSubtype (.ref C) (.type "BaseException")) true:=looks_subIn X Z.bx
 have ha:=PySem.F.args_bexc_ga (.ref a) nameV
 simp only [checkBuiltinCall,kindB,nameB]
 refine wpAny_bind ?_
 unfold isInstance
 repeat (first | (with_reducible refine wpAny_loadPart_at hx ?_;rw [hc]) | with_reducible refine hs.at ?_ | wp_step)
 exact hq
theorem ZcA {tk:Tok} {Q:Value->Shared->Prop} (Z:ZbX K C) (X:K.In h) (hx:h.get? a=some o) (hc:o.cls=.ref C) (hq:Q (.ref C) ⟨h,g,d,t,os⟩):wpAny (model prog w) A (getAttrBy (.ref a) (.str "__class__" tk) false) Q E ⟨h,g,d,t,os⟩:=by
 have FB:=PySem.F.excAttr_ValueError
 have lookA:Looks (model prog w) h (typeLookup (.ref C) "__getattribute__") _:=looks_findIn X Z.ga
 have bindA:=FB.ga.bind (.ref a)
 have lookB:Looks (model prog w) h (typeLookup (.ref C) "__getattr__") _:=looks_findIn X Z.gt
 have unlike:(Value.builtin "BaseException.__getattribute__" == Value.builtin "object.__getattribute__")=false:=by decide +kernel
 have noHook:(onTheHeap (Value.ref C)&&Value.builtin "BaseException.__getattribute__" == Value.builtin "object.__getattribute__")=false:=by rw [unlike];rfl
 repeat (any_goals (first | assumption | (with_reducible refine wpAny_loadPart_at hx ?_;rw [hc]) | with_reducible refine lookA.at ?_ | with_reducible refine lookB.at ?_ | wp_step))
 refine codeAny_call_builtin FB.ga.plain PySem.F.entry_bexc_ga (Va Z X hx hc (Jv Z X hx hc ?_))
 repeat (any_goals (first | assumption | wp_step))
theorem ZaQ {Q:Option Value->Shared->Prop} (Z:ZbX K C) (X:K.In h) (hx:h.get? a=some o) (hc:o.cls=.ref C) (hq:Q (some (.ref C)) ⟨h,g,d,t+1,os⟩):wpAny (model prog w) A (getAttr? (.ref a) "__class__") Q E ⟨h,g,d,t,os⟩:=by
 unfold getAttr? getAttrBy?
 repeat (any_goals (first | assumption | with_reducible apply ZcA Z X hx hc | wp_step))
end
theorem Zlc {K:W.Frag}{C a:Addr}{dct:Option Addr}(Z:ZbX K C):KitX K (.ref a) (.ref C) (XIs a (.ref C) dct) where
 ty:=fun M h _ p=>by
  obtain⟨o,vs,h1,h2,_⟩:=p
  exact h2▸(Looks.ld h1).andThen .now
 it:=fun M h X p=>by
  have z:=Z.cd
  unfold clsIn at z
  split at z
  ·rename_i c' d' cd' sl' ho
   intro A' Q' E' s' k q
   unfold isType loadHead
   exact wpAny_bind (wpAny_loadPart (k _ _ (X _ _ ho)) (wpAny_pure q))
  ·cases z
 ne:=fun h tp dd its n sl X e=>by
  have z:=Z.cd
  unfold clsIn at z
  split at z
  ·rename_i c' d' cd' sl' ho
   have:=X _ _ ho
   apply beq_eq_false_iff_ne.mpr
   intro q
   cases q
   rw [e] at this
   cases this
  ·cases z
 ca:=fun {prog w A E Q s} X p q=>by
  obtain⟨o,vs,h1,h2,_⟩:=p
  obtain⟨h,g,d,t,os⟩:=s
  exact ZaQ Z X h1 h2 q
theorem XC {K:W.Frag} {C D:Addr} {cd:ClassData} {b:Bool} (h1:W.clsIn K D=some cd) (h2:W.typeIn K (.ref D)=some (.type "type")) (h3:W.subIn K (.ref C) (.ref D)=some b) (hb:(Value.ref C == Value.ref D)=true->b=true):W.kitOne K (.ref C) (.ref D)=some b:=by
 unfold W.kitOne
 split
 ·rename_i z;rw [hb z]
 ·show (if ((W.clsIn K D).isSome&&W.typeIn K (.ref D) == some (.type "type"))=true then W.subIn K (.ref C) (.ref D) else none)=some b
  rw [h1,h2,h3]
  rfl
theorem Zg8 {K:W.Frag}{C:Addr}{T:String}{b:Bool}(h2:kitMeta T=true)(h3:W.subIn K (.ref C) (.type T)=some b):W.kitOne K (.ref C) (.type T)=some b:=by
 unfold W.kitOne
 rw [if_neg (by intro z;cases z)]
 show (if kitMeta T=true then W.subIn K (.ref C) (.type T) else none)=some b
 rw [if_pos h2,h3]
noncomputable def Zky:V->Option Value
 | .ref a=>some (.ref a)
 | .ty n=>some (.type n)
 | _=>none
theorem Zfs {D:V}{c u:Value}(e:Zky D=some c)(r:RelV D u):u=c:=by
 cases D<;>first | (cases e;exact r) | cases e
section
variable {X:Cx}
noncomputable def ZiE (K:W.Frag):List V->Hp->VK->Prop:=fun xs H Q=>∃ a C D c b dct,xs=[.ref a,D]/\H a=some (.ext (XIs a (.ref C) dct))/\ZbX K C/\Zky D=some c/\kitOne K (.ref C) c=some b/\Q (.bl b) H
theorem YE (K:W.Frag) (hK:X.K=K:=by rfl):XD X (.builtin "isinstance") (ZiE K):=by
 subst hK
 intro pins s σ H xs us Q I r h
 obtain⟨a,C,D,c,b,dct,rfl,ha,Z,e1,e,q⟩:=h
 obtain⟨u,v,rfl,ru,rv⟩:=Zb2 r
 cases (show u=Value.ref a from ru)
 cases Zfs e1 rv
 exact kia_one (Zlc Z) I.kIn (I.hok a _ ha).1 e (fun z=>nomatch z) fun tk=>⟨.bl b,H,I.tok tk,rfl,q⟩
theorem ZfA {K:W.Frag}{xs:List V}{H:Hp}{Q:VK}:ZiE K xs H Q=∃ a C D c b dct,xs=[.ref a,D]/\H a=some (.ext (XIs a (.ref C) dct))/\ZbX K C/\Zky D=some c/\kitOne K (.ref C) c=some b/\Q (.bl b) H:=rfl
end
end L2
namespace L2
open PySem PySem.Spec PyProof.Rows
section
variable {X:Cx}{sp:Sp}{ta:TA}{t2:TS}{k:Nat}{f:Str}{ps:List Str}
end
section
variable {M:Model}{A:Around}{E:Value->Shared->Prop}{K:W.Frag}{s:Shared}
theorem WC {b:Bool} {e C D:Addr} {bm bmD:List Value} {oe:Obj} {Q:Bool->Shared->Prop} (XK:K.In s.heap) (xC:ZfV K C bm) (xD:ZfV K D bmD) (he:s.heap.get? e=some oe) (hcls:oe.cls=.ref C) (hbase:bmD.contains (.type "BaseException")=true)
  (hsub:(Value.ref C::bm).contains (.ref D)=b) (hq:Q b s):wpAny M A (excMatches (.ref e) (.ref D)) Q E s:=by
 obtain⟨h,g,d,t,os⟩:=s
 obtain⟨nm,q,N,bs,hdct,sn,sub,ab,col,dd,k0,k1,k2,k3,k5,newId,lC⟩:=xC
 obtain⟨nm',q',N',bs',hdct',sn',sub',ab',col',dd',k0',k1',k2',k3',k5',newId',lD⟩:=xD
 have hC:=XK _ _ lC
 have hD:=XK _ _ lD
 have hcB:(Value.ref D::bmD).contains (.type "BaseException")=true:=by rw [List.contains_cons,hbase,Bool.or_true]
 have f:=tc_notTuple
 unfold excMatches
 repeat (first | (with_reducible refine wpAny_loadPart_at he ?_;rw [hcls]) | with_reducible refine wpAny_loadPart_at hD ?_ | (with_reducible refine wpAny_isSubtype_exc hD ?_;rw [hcB]) | (with_reducible refine wpAny_isSubtype_exc hC ?_;rw [hsub]) | wp_step)
 cases b with
 | true=>repeat (first | exact hq | wp_step)
 | false=>repeat (first | exact hq | wp_step)
end
noncomputable abbrev TB:=XK->(St->Hp->Prop)->St->Hp->Prop
noncomputable def PB (X : Cx) (body : List Stmt) (t : TB) : Prop :=
  ∀ (pins : List (Addr × Obj)) (s : Shared) (σ : St) (H : Hp) (E : XK) (N : St -> Hp -> Prop), Inv X pins σ H s -> t E N σ H -> wpAny (model X.prog X.w) X.A (execs body X.env) (fun fl s' => fl = .next ∧ ∃ σ' H', Inv X pins σ' H' s' ∧ N σ' H')
    (fun e s' => ∃ H1 s1, Inv X pins σ H1 s1 ∧ XOk X.prog X.w X.stack H1 s1 E e s') s
section
variable {X:Cx}{sp:Sp}{ta:TA}{t t1 t2:TB}{k:Nat}{f:Str}{ps:List Str}
noncomputable def Zkz (sp:Sp)(ta:TA):TB:=fun E N σ H=>ta σ H fun vs H1=>sp vs H1 (fun _ H2=>N σ H2) E
noncomputable def Zk9 (j:Nat)(sp:Sp)(ta:TA):TB:=fun E N σ H=>ta σ H fun vs H1=>sp vs H1 (fun v H2=>N (σ.set j (some v)) H2) E
noncomputable def bIf (tt:TT)(t1 t2:TB):TB:=fun E N σ H=>tt σ H fun b H1=>if b=true then t1 E N σ H1 else t2 E N σ H1
noncomputable def Zln:TB:=fun _ N σ H=>N σ H
noncomputable def Zlm (t1 t2:TB):TB:=fun E N σ H=>t1 E (fun σ' H'=>σ'=σ/\t2 E N σ H') σ H
theorem ZiS {j:Nat}{y:Str}{py p cpos epos:Pos}{e:Expr}{es:List Expr}(F:FnX X.prog X.w X.K X.mg X.base k f ps sp)(hr:Room k X.A)(hg:Gl X f)(hN:X.N.Nodup)(hj:X.N[j]? = some y)(hy:X.env.scope.names.lookup y=some .local)(ha:PA X.nox (e::es) ta)
  (hdb:(f == ("__debug__" : Str))=false:=by decide) (he:starEach (e::es) X.env=(false,eval e X.env)::starEach es X.env:=by rfl) (hpl:(backTo cpos (starEach es X.env)).any (·.1)=false:=by rfl)
  (hs:swapsWith (.Call (.Name f p) (e::es) [] cpos) (some (.Name y py)) epos.line X.env=pure false:=by rfl):PB X [.Assign [.Name y py] (.Call (.Name f p) (e::es) [] cpos) epos] (Zk9 j sp ta):=by
 intro pins s σ H E N I h
 obtain⟨fa,fd,F,hm,hk,hb,_⟩:=F
 refine wpAny_execs_cons (wpAny_Assign_Name (wpAny_Call_Name_kw (ld_glob I hg hm ?_ hdb)) hs)
 refine W.callWith_K (h₀:=X.base) I.ok.mod.kin hk (wpAny_mono (ha cpos pins s σ H _ (I.wish _) h) (fun us s1 ⟨vs,H1,I1,r,q⟩=>⟨I1.kIn,?_⟩) fun _ _ z=>False.elim z) he hpl
 replace I1:=I1.unwish
 have hl:us.length=ps.length:=by rw [<- r.length];exact F.len _ _ _ _ q
 have hbb:=hb s1 us I1.kIn (by rw [List.append_nil];exact hl)
 rw [List.append_nil] at hbb
 refine wpAny_call (codeAny_mono (F.run X.A X.stack s1 H1 ⟨us,[]⟩ us vs _ _ hr I1.env0 hbb r q) fun r s' hq=>?_)
 cases r with
 | ok fl =>
  cases fl with
  | ret u =>
   obtain⟨v,H2,I2,r2,q2⟩:=I1.after hq
   exact store_ok I2 hN hj (Or.inl hy) r2 (fun s3 I3=>wpAny_execs_nil ⟨rfl,_,H2,I3,q2⟩) (.inr hy)
  | next=>exact False.elim hq
  | brk=>exact False.elim hq
  | cont=>exact False.elim hq
 | error ex=>exact⟨H1,s1,I1,hq⟩
end
noncomputable abbrev TH:=Value->Option Addr->WH->St->Hp->Prop
noncomputable def HB (X:Cx)(hs:List ExceptHandler)(th:TH):Prop:=∀ (pins:List (Addr×Obj)) (σ:St) (H1:Hp) (s1:Shared) (H2:Hp) (ea:Addr) (cls a0:Value) (dct:Option Addr) (B:Heap) (s':Shared) (D:WH),
 Inv X pins σ H1 s1->s'.os=s1.os->AllBare s'.gens->Fly X.prog X.w X.stack H1 H2 s1.heap B ea cls a0 dct s'.heap->th cls dct D σ H2->wpAny (model X.prog X.w) X.A (handleBy (.ref ea) X.env hs) (SP X pins D) X.xe s'
noncomputable def Zk5:TH:=fun _ _ _ _ _=>False
noncomputable def hAs (K:W.Frag)(i:Nat)(t2:TS)(Dc:Addr)(th:TH):TH:=fun cls dct D σ H2=>∃ C bm,cls=.ref C/\ZfV K C bm/\(((Value.ref C::bm).contains (.ref Dc)=true/\∀ ea,H2 ea=none->t2 { nx:=fun σ3 H3=>D.nx (σ3.set i none) H3,rt:=fun _ _=>False } (σ.set i (some (.ref ea))) (upd H2 ea (.ext (XIs ea cls dct)))) \/
 ((Value.ref C::bm).contains (.ref Dc)=false/\th cls dct D σ H2))
noncomputable def hNo (K:W.Frag)(t2:TS)(Dc:Addr)(th:TH):TH:=fun cls dct D σ H2=>∃ C bm,cls=.ref C/\ZfV K C bm/\(((Value.ref C::bm).contains (.ref Dc)=true/\∀ ea,H2 ea=none->t2 { nx:=D.nx,rt:=fun _ _=>False } σ (upd H2 ea (.ext (XIs ea cls dct)))) \/
 ((Value.ref C::bm).contains (.ref Dc)=false/\th cls dct D σ H2))
section
variable {X:Cx}{t2:TS}{th:TH}{tb:TB}
theorem Zjf:HB X [] Zk5:=fun _ _ _ _ _ _ _ _ _ _ _ _ _ _ _ _ h=>h.elim
theorem Zku {i:Nat}{n x:Str}{Dc:Addr}{bmD:List Value}{np hpos:Pos}{b₀:Stmt}{suite:List Stmt}{hs:List ExceptHandler}(K:W.Frag)(S:WZ X)
  (hN:X.N.Nodup) (hi:X.N[i]? = some n) (hn:X.env.scope.names.lookup n=some .local) (hgx:Gl X x) (hmx:X.mg x=some (.ref Dc)) (xD:ZfV X.K Dc bmD) (hbase:bmD.contains (.type "BaseException")=true)
  (hsuite:∀ v,PSs (WU X v) (b₀::suite) t2) (hrest:HB X hs th) (hdx:(x == ("__debug__" : Str))=false:=by decide) (hK:X.K=K:=by rfl) :
  HB X (.ExceptHandler (some (.Name x np)) (some n) (b₀::suite) hpos::hs) (hAs K i t2 Dc th):=by
 subst hK
 intro pins σ H1 s1 H2 ea cls a0 dct B s' D I1 ho hbare F5 hth
 obtain⟨C,bm,rfl,xC,q2⟩:=hth
 have hcls:(X.env.scope.kind == .class || (X.env.scope.kind == .module&&X.env.locals != X.env.globals))=false:=by rw [I1.ok.kind];rfl
 have I5:Inv X pins σ H2 s':=I1.call' (ch:=[]) ho F5.un F5.hokH hbare (fun b hb=>nomatch hb)
 have fl5:=F5.fl
 rw [S.stk] at fl5
 refine wpAny_handleBy_cons (codeAny_handlers_test ?_) (by intro z;cases z)
 refine ld_glob (X:=WU X (.ref ea)) (I5.suite _) hgx hmx ?_ hdx
 obtain⟨oe,vs',he',hc',hd',_⟩:=F5.fl.first
 rcases q2 with ⟨hsub,q2⟩ | ⟨hsub,q2⟩
 ·refine WC I5.kIn xC xD he' hc' hbase hsub ?_
  refine codeAny_handlers_suite_as ?_
  refine (Xa (.ref ea) none).any (lands_againW fl5 fun h6 fl6 u6 dk6=>?_)
  have F6:=F5.again (by rw [S.stk];exact fl6) u6 dk6
  have I6:Inv X pins σ (upd H2 ea (.ext (XIs ea (.ref C) dct))) { s' with heap:=h6 }:=I1.call' (ch:=[]) ho (F6.unX _) F6.hokX hbare (fun b hb=>nomatch hb)
  refine store_ok (X:=WU X (.ref ea)) (I6.suite (.ref ea)) hN hi (Or.inl hn) (v:=.ref ea) rfl (fun s7 I7=>?_) (.inr hn)
  refine wpAny_mono (hsuite (.ref ea) pins s7 _ _ _ I7 (q2 ea F6.nH)) (fun fl s8 h8=>?_) (fun _ _ z=>False.elim z)
  cases fl with
  | next =>
   obtain⟨σ8,H8,I8,q8⟩:=h8
   obtain⟨m,hm8,_⟩:=id I8.loc
   exact wpAny_nameGoes_keeps hn hm8 hcls fun h9 v hm9 hs9=>⟨_,_,(I8.unsuite I1.ok).goes hN hi hn hm8 hm9 hs9,q8⟩
  | ret u=>obtain⟨_,_,_,_,_,z⟩:=h8;exact False.elim z
  | brk=>obtain⟨_,_,_,z⟩:=h8;exact False.elim z
  | cont=>obtain⟨_,_,_,z⟩:=h8;exact False.elim z
 ·refine WC I5.kIn xC xD he' hc' hbase hsub ?_
  exact hrest pins σ H1 s1 H2 ea (.ref C) a0 dct B s' D I1 ho hbare F5 q2
noncomputable def Zij (tb:TB)(th:TH):TS:=fun D σ H=>tb (fun cls dct H2=>th cls dct D σ H2) D.nx σ H
theorem ZgN {body:List Stmt}{h₀:ExceptHandler}{hs:List ExceptHandler}{pos:Pos}(S:WZ X)(hb:PB X body tb)(hh:HB X (h₀::hs) th):PS X (.Try body (h₀::hs) [] [] pos) (Zij tb th):=by
 intro pins s σ H D I h
 refine wpAny_Try_except (wpAny_mono (hb pins s σ H _ _ I h) (fun fl s' ⟨e,σ',H',I',q⟩=>?_) fun e s' ⟨H1,s1,I1,q⟩=>?_)
 ·subst e
  exact wpAny_execs_nil ⟨σ',H',I',q⟩
 ·obtain⟨ea,cls,a0,dct,B,H2,rfl,ho,hbare,F2,q2⟩:=q
  have hfr:X.A.frames=some (X.env::X.outer):=by rw [I.ok.frames,S.stk]
  have fl:=F2.fl
  rw [S.stk] at fl
  refine (JB (.ref ea) X.env).any (wpAny_looks_onW hfr S.fr fl fun h4 held4 u4 dk4=>?_)
  refine (Xa (.ref ea) none).any (wpAny_landsW held4 fun h5 fl5 u5 dk5=>?_)
  have F5:=F2.again (by rw [S.stk];exact fl5) (u4.trans u5) (dk4.trans dk5)
  exact hh pins σ H1 s1 H2 ea cls a0 dct B { s' with heap:=h5 } D I1 ho hbare F5 q2
end
section
variable {E:XK}{N:St->Hp->Prop}{σ:St}{H:Hp}{sp:Sp}{ta:TA}{t1 t2 tb:TB}{tt:TT}{j i:Nat}{K:W.Frag}{ts:TS}{Dc:Addr}{th:TH}{cls:Value}{dct:Option Addr}{D:WH}
theorem ZfU:Zkz sp ta E N σ H=ta σ H fun vs H1=>sp vs H1 (fun _ H2=>N σ H2) E:=rfl
theorem Zh4:Zk9 j sp ta E N σ H=ta σ H fun vs H1=>sp vs H1 (fun v H2=>N (σ.set j (some v)) H2) E:=rfl
theorem ZjT:bIf tt t1 t2 E N σ H=tt σ H fun b H1=>if b=true then t1 E N σ H1 else t2 E N σ H1:=rfl
theorem Zh3:Zln E N σ H=N σ H:=rfl
theorem Zh2:Zlm t1 t2 E N σ H=t1 E (fun σ' H'=>σ'=σ/\t2 E N σ H') σ H:=rfl
theorem ZhO:Zk5 cls dct D σ H=False:=rfl
theorem ZjP:hAs K i ts Dc th cls dct D σ H=∃ C bm,cls=.ref C/\ZfV K C bm/\(((Value.ref C::bm).contains (.ref Dc)=true/\∀ ea,H ea=none->ts { nx:=fun σ3 H3=>D.nx (σ3.set i none) H3,rt:=fun _ _=>False } (σ.set i (some (.ref ea))) (upd H ea (.ext (XIs ea cls dct)))) \/
 ((Value.ref C::bm).contains (.ref Dc)=false/\th cls dct D σ H)):=rfl
theorem ZjO:hNo K ts Dc th cls dct D σ H=∃ C bm,cls=.ref C/\ZfV K C bm/\(((Value.ref C::bm).contains (.ref Dc)=true/\∀ ea,H ea=none->ts { nx:=D.nx,rt:=fun _ _=>False } σ (upd H ea (.ext (XIs ea cls dct)))) \/
 ((Value.ref C::bm).contains (.ref Dc)=false/\th cls dct D σ H)):=rfl
theorem Zhv:Zij tb th D σ H=tb (fun cls dct H2=>th cls dct D σ H2) D.nx σ H:=rfl
end
end L2
namespace OG
structure Gr (E:Nat->Nat->Prop):Prop where
 sym:∀ {a b},E a b->E b a
 irr:∀ {a},¬ E a a
noncomputable def Nx (E:Nat->Nat->Prop)(p q:Nat×Nat):Prop:=E q.1 q.2/\((p.1=q.1/\p.2≠q.2/\¬ E p.2 q.2)\/(p.2=q.2/\p.1≠q.1/\¬ E p.1 q.1))
inductive Clo (E:Nat->Nat->Prop) (p:Nat×Nat):Nat×Nat->Prop
 | base:Clo E p p
 | step {q r:Nat×Nat}:Clo E p q->Nx E q r->Clo E p r
variable {E:Nat->Nat->Prop}{p q r:Nat×Nat}{a b c d x y:Nat}
theorem Clo.inE (h:Clo E p q)(hp:E p.1 p.2):E q.1 q.2:=by
 cases h with
 | base=>exact hp
 | step _ h2=>exact h2.1
theorem Clo.trans (h:Clo E p q)(h':Clo E q r):Clo E p r:=by
 induction h' with
 | base=>exact h
 | step _ h2 ih=>exact .step ih h2
theorem Nx.back (G:Gr E)(hp:E p.1 p.2)(h:Nx E p q):Nx E q p:=by
 refine⟨hp,?_⟩
 rcases h.2 with ⟨h1,h2,h3⟩ | ⟨h1,h2,h3⟩
 ·exact .inl ⟨h1.symm,Ne.symm h2,fun z=>h3 (G.sym z)⟩
 ·exact .inr ⟨h1.symm,Ne.symm h2,fun z=>h3 (G.sym z)⟩
theorem Clo.symm (G:Gr E)(hp:E p.1 p.2)(h:Clo E p q):Clo E q p:=by
 induction h with
 | base=>exact .base
 | step h1 h2 ih=>exact (Clo.step .base (h2.back G (h1.inE hp))).trans ih
theorem Nx.turn (G:Gr E)(h:Nx E p q):Nx E p.swap q.swap:=by
 refine⟨G.sym h.1,?_⟩
 rcases h.2 with ⟨h1,h2,h3⟩ | ⟨h1,h2,h3⟩
 ·exact .inr ⟨h1,h2,h3⟩
 ·exact .inl ⟨h1,h2,h3⟩
theorem Clo.turn (G:Gr E)(h:Clo E p q):Clo E p.swap q.swap:=by
 induction h with
 | base=>exact .base
 | step _ h2 ih=>exact .step ih (h2.turn G)
theorem Clo.turn2 (G:Gr E)(h:Clo E (a,b) (c,d)):Clo E (b,a) (d,c):=Clo.turn G h
theorem tri (G:Gr E)(hab:E a b)(hac:E a c)(hbc:E b c)(n1:¬ Clo E (b,c) (a,c))(n2:¬ Clo E (b,c) (b,a))(h:Clo E (b,c) q):Clo E (a,b) (a,q.1)/\Clo E (a,c) (a,q.2):=by
 induction h with
 | base=>exact⟨.base,.base⟩
 | @step q r h1 h2 ih =>
  obtain⟨i1,i2⟩:=ih
  have e1:E a q.1:=i1.inE hab
  have e2:E a q.2:=i2.inE hac
  have cr:Clo E (b,c) r:=h1.step h2
  obtain⟨r1,r2⟩:=r
  obtain⟨q1,q2⟩:=q
  rcases h2.2 with ⟨g1,g2,g3⟩ | ⟨g1,g2,g3⟩
  ·dsimp only at *
   subst g1
   have bad:¬ Clo E (b,c) (q1,a):=fun z=>n2 (z.trans ((i1.turn2 G).symm G (G.sym hab)))
   have hr:E a r2:=Classical.byContradiction fun hn=>bad (by
    by_cases e:r2=a
    ·rw [<- e];exact cr
    ·exact cr.step ⟨G.sym e1,.inl ⟨rfl,e,fun z=>hn (G.sym z)⟩⟩)
   exact⟨i1,i2.step ⟨hr,.inl ⟨rfl,g2,g3⟩⟩⟩
  ·dsimp only at *
   subst g1
   have bad:¬ Clo E (b,c) (a,q2):=fun z=>n1 (z.trans (i2.symm G hac))
   have hr:E a r1:=Classical.byContradiction fun hn=>bad (by
    by_cases e:r1=a
    ·rw [<- e];exact cr
    ·exact cr.step ⟨e2,.inr ⟨rfl,e,fun z=>hn (G.sym z)⟩⟩)
   exact⟨i1.step ⟨hr,.inl ⟨rfl,g2,g3⟩⟩,i2⟩
noncomputable def Ac (E:Nat->Nat->Prop):Prop:=∀ a b,E a b->¬ Clo E (a,b) (b,a)
theorem WE (G:Gr E)(hA:Ac E)(hp:E p.1 p.2)(h1:Clo E p (a,b))(h2:Clo E p (b,c)):Clo E p (a,c):=by
 have eab:E a b:=h1.inE hp
 have ebc:E b c:=h2.inE hp
 have k1:Clo E (a,b) (b,c):=(h1.symm G hp).trans h2
 have k2:Clo E (b,c) (a,b):=k1.symm G eab
 have hne:c≠a:=fun z=>hA a b eab (by rw [z] at k1;exact k1)
 have eac:E a c:=Classical.byContradiction fun hn=>hA a b eab (k1.step ⟨G.sym eab,.inl ⟨rfl,hne,fun z=>hn (G.sym z)⟩⟩)
 refine Classical.byContradiction fun hn=>?_
 have:=(tri G eab eac ebc (fun z=>hn (h2.trans z)) (fun z=>hA a b eab (k1.trans z)) k2).1
 exact G.irr (this.inE eab)
noncomputable def Hat (E:Nat->Nat->Prop)(p z:Nat×Nat):Prop:=Clo E p z\/Clo E p z.swap
noncomputable def ZbY (E:Nat->Nat->Prop)(p:Nat×Nat)(x y:Nat):Prop:=E x y/\¬ Hat E p (x,y)
theorem Hat.turn (h:Hat E p (a,b)):Hat E p (b,a):=h.elim .inr .inl
theorem ZcX (G:Gr E):Gr (ZbY E p):=⟨fun h=>⟨G.sym h.1,fun z=>h.2 z.turn⟩,fun h=>G.irr h.1⟩
theorem ZbK (G:Gr E)(hp:E p.1 p.2)(hbc:E b c)(h:Hat E p (b,c))(z:Nat×Nat):Hat E p z↔Hat E (b,c) z:=by
 rcases h with h | h
 ·have h':=h.symm G hp
  exact⟨fun k=>k.imp (fun w=>h'.trans w) (fun w=>h'.trans w),fun k=>k.imp (fun w=>h.trans w) (fun w=>h.trans w)⟩
 ·have h1:Clo E p (c,b):=h
  have h':=h1.symm G hp
  have t1:Clo E p.swap (b,c):=h1.turn G
  have t2:Clo E (b,c) p.swap:=h'.turn G
  constructor
  ·rintro (k | k)
   ·exact .inr (t2.trans (k.turn G))
   ·exact .inl (t2.trans (by have:=k.turn G;rwa [Prod.swap_swap] at this))
  ·rintro (k | k)
   ·have:=h1.trans (k.turn G)
    exact .inr this
   ·have:=k.turn G
    rw [Prod.swap_swap] at this
    exact .inl (h1.trans this)
structure Lk (E:Nat->Nat->Prop)(a b c:Nat):Prop where
 ab:E a b
 ac:E a c
 bc:E b c
 nB:¬ Hat E (b,c) (a,b)
 nC:¬ Hat E (b,c) (a,c)
 un:¬ Clo E (a,b) (a,c)
theorem Ji (G:Gr E)(z:Nat×Nat):Hat E (b,c) z↔Hat E (c,b) z:=by
 constructor
 ·rintro (k | k)
  ·exact .inr (k.turn G)
  ·have:=k.turn G
   rw [Prod.swap_swap] at this
   exact .inl this
 ·rintro (k | k)
  ·exact .inr (k.turn G)
  ·have:=k.turn G
   rw [Prod.swap_swap] at this
   exact .inl this
theorem Lk.about (G:Gr E)(L:Lk E a b c):Lk E a c b where
 ab:=L.ac
 ac:=L.ab
 bc:=G.sym L.bc
 nB:=fun z=>L.nC ((Ji G _).mpr z)
 nC:=fun z=>L.nB ((Ji G _).mpr z)
 un:=fun z=>L.un (z.symm G L.ac)
theorem Lk.t1 (G:Gr E)(L:Lk E a b c)(h:Clo E (b,c) q):Clo E (a,b) (a,q.1)/\Clo E (a,c) (a,q.2) :=
 tri G L.ab L.ac L.bc (fun z=>L.nC (.inl z)) (fun z=>L.nB (.inr z)) h
theorem Lk.t2 (G:Gr E)(L:Lk E a b c)(hx:Clo E (b,c) (x,y))(h:Clo E (a,c) q):Clo E (a,b) (q.1,x)/\Clo E (b,c) (x,q.2):=by
 obtain⟨t1,t2⟩:=L.t1 G hx
 have e1:E a x:=t1.inE L.ab
 have e2:E a y:=t2.inE L.ac
 have e3:E x y:=hx.inE L.bc
 have n1:¬ Clo E (a,y) (x,y):=fun z=>L.nC (.inl (hx.trans ((z.symm G e2).trans (t2.symm G L.ac))))
 have n2:¬ Clo E (a,y) (a,x):=fun z=>L.un (t1.trans ((z.symm G e2).trans (t2.symm G L.ac)))
 obtain⟨k1,k2⟩:=tri G (G.sym e1) e3 e2 n1 n2 ((t2.symm G L.ac).trans h)
 exact⟨t1.trans (k1.turn2 G),hx.trans k2⟩
theorem Lk.next (G:Gr E)(L:Lk E a b c)(h:Clo E (a,c) q)(hn:Nx (ZbY E (b,c)) q r):Clo E (a,b) r\/Clo E (a,c) r:=by
 obtain⟨q1,q2⟩:=q
 obtain⟨r1,r2⟩:=r
 obtain⟨⟨er,nr⟩,hn⟩:=hn
 rcases hn with ⟨g1,g2,g3⟩ | ⟨g1,g2,g3⟩
 ·dsimp only at *
  subst g1
  by_cases e:E q2 r2
  ·have hh:Hat E (b,c) (q2,r2):=Classical.byContradiction fun z=>g3 ⟨e,z⟩
   rcases hh with k | k
   ·exact absurd ((L.t2 G k h).2.inE L.bc) G.irr
   ·exact .inl (L.t2 G k h).1
  ·exact .inr (h.step ⟨er,.inl ⟨rfl,g2,e⟩⟩)
 ·dsimp only at *
  subst g1
  by_cases e:E q1 r1
  ·have hh:Hat E (b,c) (q1,r1):=Classical.byContradiction fun z=>g3 ⟨e,z⟩
   exfalso
   rcases hh with k | k
   ·exact G.irr ((L.t2 G k h).1.inE L.ab)
   ·have k:Clo E (b,c) (r1,q1):=k
    have s1:=(L.t2 G .base h).1
    have s2:=(L.t2 G .base (L.t1 G k).2).2
    exact L.nB (.inr (s2.trans ((s1.turn2 G).symm G (G.sym L.ab))))
  ·exact .inr (h.step ⟨er,.inr ⟨rfl,g2,e⟩⟩)
theorem UY {p p':Nat×Nat}(h:∀ z,Hat E p z↔Hat E p' z):ZbY E p=ZbY E p':=by
 funext x y
 unfold ZbY
 rw [h]
theorem Lk.both (G:Gr E)(L:Lk E a b c)(h:Clo E (a,b) q\/Clo E (a,c) q)(hn:Nx (ZbY E (b,c)) q r):Clo E (a,b) r\/Clo E (a,c) r:=by
 rcases h with h | h
 ·refine ((L.about G).next G h ?_).symm
  rw [UY (fun z=>(Ji G z).symm)]
  exact hn
 ·exact L.next G h hn
theorem ZgJ (G:Gr E)(hA:Ac E)(hp:E p.1 p.2):Ac (ZbY E p):=by
 intro x y hxy hw
 have key:∀ q,Clo (ZbY E p) (x,y) q->Clo E (x,y) q\/(∃ a b c,Lk E a b c/\Hat E p (b,c)/\Clo E (a,b) (x,y)/\Clo E (a,c) q)\/(∃ a b c,Lk E a b c/\Hat E p (b,c)/\Clo E (a,b) (y,x)/\Clo E (a,c) q.swap):=by
  intro q h
  induction h with
  | base=>exact .inl .base
  | @step q r h1 h2 ih =>
   have eq:ZbY E p q.1 q.2:=h1.inE hxy
   have lk:∀ {a b c},E a b->E a c->E b c->Hat E p (b,c)->¬ Hat E p (a,b)->¬ Hat E p (a,c)->¬ Clo E (a,b) (a,c)->Lk E a b c:=fun {a b c} u1 u2 u3 u4 u5 u6 u7 =>
    ⟨u1,u2,u3,fun z=>u5 ((ZbK G hp u3 u4 _).mpr z),fun z=>u6 ((ZbK G hp u3 u4 _).mpr z),u7⟩
   rcases ih with ih | ⟨a,b,c,L,hh,i1,i2⟩ | ⟨a,b,c,L,hh,i1,i2⟩
   ·obtain⟨q1,q2⟩:=q
    obtain⟨r1,r2⟩:=r
    obtain⟨⟨er,nr⟩,h2⟩:=h2
    obtain⟨eq,nq⟩:=eq
    by_cases hr:Clo E (x,y) (r1,r2)
    ·exact .inl hr
    rcases h2 with ⟨g1,g2,g3⟩ | ⟨g1,g2,g3⟩
    ·dsimp only at *
     subst g1
     by_cases e:E q2 r2
     ·have hh:Hat E p (q2,r2):=Classical.byContradiction fun z=>g3 ⟨e,z⟩
      refine .inr (.inl ⟨q1,q2,r2,lk eq er e hh nq nr (fun z=>hr (ih.trans z)),hh,ih.symm G hxy.1,.base⟩)
     ·exact .inl (ih.step ⟨er,.inl ⟨rfl,g2,e⟩⟩)
    ·dsimp only at *
     subst g1
     by_cases e:E q1 r1
     ·have hh:Hat E p (q1,r1):=Classical.byContradiction fun z=>g3 ⟨e,z⟩
      refine .inr (.inr ⟨q2,q1,r1,lk (G.sym eq) (G.sym er) e hh (fun z=>nq z.turn) (fun z=>nr z.turn) (fun z=>hr (ih.trans (z.turn2 G))),hh,(ih.symm G hxy.1).turn2 G,.base⟩)
     ·exact .inl (ih.step ⟨er,.inr ⟨rfl,g2,e⟩⟩)
   ·have h2':Nx (ZbY E (b,c)) q r:=by rw [<- UY (fun z=>ZbK G hp L.bc hh z)];exact h2
    rcases L.both G (.inr i2) h2' with k | k
    ·exact .inl ((i1.symm G L.ab).trans k)
    ·exact .inr (.inl ⟨a,b,c,L,hh,i1,k⟩)
   ·have h2':Nx (ZbY E (b,c)) q.swap r.swap:=by rw [<- UY (fun z=>ZbK G hp L.bc hh z)];exact h2.turn (ZcX G)
    rcases L.both G (.inr i2) h2' with k | k
    ·refine .inl ?_
     have:=((i1.symm G L.ab).trans k).turn G
     rw [Prod.swap_swap] at this
     exact this
    ·exact .inr (.inr ⟨a,b,c,L,hh,i1,k⟩)
 rcases key _ hw with h | ⟨a,b,c,L,hh,i1,i2⟩ | ⟨a,b,c,L,hh,i1,i2⟩
 ·exact hA x y hxy.1 h
 ·have k:Clo E (a,b) (c,b):=WE G hA L.ab (i1.trans ((i2.turn2 G).symm G (G.sym L.ac))) .base
  exact L.nB (.inr ((k.turn2 G).symm G (G.sym L.ab)))
 ·have i2:Clo E (a,c) (x,y):=i2
  have k:Clo E (a,b) (c,b):=WE G hA L.ab (i1.trans ((i2.turn2 G).symm G (G.sym L.ac))) .base
  exact L.nB (.inr ((k.turn2 G).symm G (G.sym L.ab)))
structure TO (E T:Nat->Nat->Prop):Prop where
 sub:∀ {a b},T a b->E a b
 one:∀ {a b},E a b->T a b\/T b a
 not:∀ {a b},T a b->¬ T b a
 tr:∀ {a b c},T a b->T b c->T a c
theorem Zii {T:Nat->Nat->Prop}(G:Gr E)(hA:Ac E)(hp:E p.1 p.2)(O:TO (ZbY E p) T):TO E (fun a b=>Clo E p (a,b)\/T a b) where
 sub:=fun h=>h.elim (fun z=>z.inE hp) fun z=>(O.sub z).1
 one:=fun {a b} h=>by
  by_cases k:Hat E p (a,b)
  ·exact k.imp .inl .inl
  ·exact (O.one ⟨h,k⟩).imp .inr .inr
 not:=fun {a b} h h'=>by
  rcases h with h | h
  ·rcases h' with h' | h'
   ·exact hA a b (h.inE hp) ((h.symm G hp).trans h')
   ·exact (O.sub h').2 (.inr h)
  ·rcases h' with h' | h'
   ·exact (O.sub h).2 (.inr h')
   ·exact O.not h h'
 tr:=fun {a b c} h h'=>by
  rcases h with h | h
  ·rcases h' with h' | h'
   ·exact .inl (WE G hA hp h h')
   ·have ebc:=O.sub h'
    have eab:E a b:=h.inE hp
    have hne:a≠c:=fun z=>ebc.2 (.inr (by rw [<- z];exact h))
    have eac:E a c:=Classical.byContradiction fun hn=>ebc.2 (.inr (h.step ⟨G.sym ebc.1,.inr ⟨rfl,hne,hn⟩⟩))
    by_cases k:Hat E p (a,c)
    ·rcases k with k | k
     ·exact .inl k
     ·exact absurd (.inr (WE G hA hp k h)) ebc.2
    ·rcases O.one ⟨eac,k⟩ with t | t
     ·exact .inr t
     ·exact absurd (.inr h) (O.sub (O.tr h' t)).2
  ·rcases h' with h' | h'
   ·have eab:=O.sub h
    have ebc:E b c:=h'.inE hp
    have hne:a≠c:=fun z=>eab.2 (.inr (by rw [z];exact h'))
    have eac:E a c:=Classical.byContradiction fun hn=>eab.2 (.inr (h'.step ⟨G.sym eab.1,.inl ⟨rfl,Ne.symm hne,fun z=>hn (G.sym z)⟩⟩))
    by_cases k:Hat E p (a,c)
    ·rcases k with k | k
     ·exact .inl k
     ·exact absurd (.inr (WE G hA hp h' k)) eab.2
    ·rcases O.one ⟨eac,k⟩ with t | t
     ·exact .inr t
     ·exact absurd (.inr h') (O.sub (O.tr t h)).2
   ·exact .inr (O.tr h h')
structure Ch (E R T:Nat->Nat->Prop):Prop where
 gr:Gr R
 ac:Ac R
 fits:∀ {T'},TO R T'->TO E (fun a b=>T a b\/T' a b)
theorem Ch.start (G:Gr E)(hA:Ac E):Ch E E (fun _ _=>False):=⟨G,hA,fun {T'} O=>by
 have:(fun a b=>False\/T' a b)=T':=by funext a b;simp
 rw [this];exact O⟩
theorem Ch.step {R T:Nat->Nat->Prop}(C:Ch E R T)(hp:R p.1 p.2):Ch E (ZbY R p) (fun a b=>T a b\/Clo R p (a,b)) :=
 ⟨ZcX C.gr,ZgJ C.gr C.ac hp,fun {T'} O=>by
  have:=C.fits (Zii C.gr C.ac hp O)
  have e:(fun a b=>(T a b\/Clo R p (a,b))\/T' a b)=fun a b=>T a b\/(Clo R p (a,b)\/T' a b):=by
   funext a b
   exact propext or_assoc
  rw [e];exact this⟩
theorem Ch.done {R T:Nat->Nat->Prop}(C:Ch E R T)(h:∀ a b,¬ R a b):TO E T:=by
 have:=C.fits (T':=fun _ _=>False) ⟨fun z=>z.elim,fun z=>absurd z (h _ _),fun z=>z.elim,fun z=>z.elim⟩
 have e:(fun a b=>T a b\/False)=T:=by funext a b;simp
 rw [e] at this;exact this
theorem Zih {L T:Nat->Nat->Prop}(lt:∀ {a b c},L a b->L b c->L a c)(ln:∀ {a},¬ L a a)(he:∀ {a b},E a b->¬ L a b/\¬ L b a)(O:TO E T){dom:Nat->Prop}(hd:∀ {a b},dom a->dom b->a≠b->L a b\/L b a\/E a b)
  (ha:dom a) (hb:dom b) (hc:dom c) (h:L a b\/T a b) (h':L b c\/T b c):L a c\/T a c:=by
 have irr:∀ {a},¬ T a a:=fun h=>O.not h h
 rcases h with h | h<;>rcases h' with h' | h'
 ·exact .inl (lt h h')
 ·by_cases e:a=c
  ·subst e;exact absurd h (he (O.sub h')).2
  rcases hd ha hc e with k | k | k
  ·exact .inl k
  ·exact absurd (lt k h) (he (O.sub h')).2
  ·rcases O.one k with k | k
   ·exact .inr k
   ·exact absurd h (he (O.sub (O.tr h' k))).2
 ·by_cases e:a=c
  ·subst e;exact absurd h' (he (O.sub h)).2
  rcases hd ha hc e with k | k | k
  ·exact .inl k
  ·exact absurd (lt h' k) (he (O.sub h)).2
  ·rcases O.one k with k | k
   ·exact .inr k
   ·exact absurd h' (he (O.sub (O.tr k h))).2
 ·exact .inr (O.tr h h')
theorem TO.back {T:Nat->Nat->Prop}(G:Gr E)(O:TO E T):TO E (fun a b=>T b a):=⟨fun h=>G.sym (O.sub h),fun h=>(O.one h).symm,fun h=>O.not h,fun h h'=>O.tr h' h⟩
end OG
namespace OM
noncomputable def Sub (a b:Nat):Prop:=∀ i,a.testBit i=true->b.testBit i=true
noncomputable def idx (row:List Nat)(x:Nat):Nat:=row.findIdx (· == x)
theorem Zko {row:List Nat}(h:row.Nodup){i j:Nat}(hi:i<row.length)(hj:j<row.length)(e:row.getD i 0=row.getD j 0):i=j:=by
 rw [Yi hi,Yi hj] at e
 rw [List.nodup_iff_pairwise_ne,List.pairwise_iff_getElem] at h
 rcases Nat.lt_trichotomy i j with z | z | z
 ·exact absurd e (h i j hi hj z)
 ·exact z
 ·exact absurd e.symm (h j i hj hi z)
end OM
namespace OM
theorem Zfx {n k:Nat}:(1<<<n-1:Nat).testBit k=true↔k<n:=by
 rw [Nat.one_shiftLeft,Nat.testBit_two_pow_sub_one]
 simp
end OM
namespace OM
theorem ZdH {row:List Nat}(h:row.Nodup){i:Nat}(hi:i<row.length):row.idxOf row[i]=i:=by
 have h1:row.idxOf row[i] < row.length:=List.idxOf_lt_length_iff.mpr (List.getElem_mem hi)
 have h2:row[row.idxOf row[i]]=row[i]:=List.getElem_idxOf h1
 exact ZeO h (List.getElem?_eq_some_iff.mpr ⟨h1,h2⟩) (List.getElem?_eq_getElem hi)
theorem Ze7 {row:List Nat}(h:row.Nodup){u m:Nat}:u∈row.take m↔u∈row/\row.idxOf u<m:=by
 constructor
 ·intro hu
  obtain⟨i,hi,e⟩:=List.mem_iff_getElem.mp hu
  rw [List.length_take] at hi
  rw [List.getElem_take] at e
  have hi':i<row.length:=by omega
  refine⟨by rw [<- e];exact List.getElem_mem hi',?_⟩
  rw [<- e,ZdH h hi']
  omega
 ·rintro⟨hu,hm⟩
  have h1:row.idxOf u<row.length:=List.idxOf_lt_length_iff.mpr hu
  refine List.mem_iff_getElem.mpr ⟨row.idxOf u,by rw [List.length_take];omega,?_⟩
  rw [List.getElem_take]
  exact List.getElem_idxOf h1
noncomputable def Vm (row:List Nat)(t:Nat):Nat:=Zd6 (row.take (row.idxOf t+1))
theorem Zek {row:List Nat}(h:row.Nodup){t u:Nat}:(Vm row t).testBit u=true↔u∈row/\row.idxOf u<=row.idxOf t:=by
 unfold Vm
 rw [Vf,decide_eq_true_iff,Ze7 h,Nat.lt_succ_iff]
noncomputable def dwF (rows:List (List Nat))(n t:Nat):Nat:=rows.foldl (fun s r=>s&&&Vm r t) (1<<<n-1)
noncomputable def dwL (rows:List (List Nat))(n:Nat):List Nat:=(List.range n).map (dwF rows n)
theorem ZbM {t u:Nat}:∀ (rows:List (List Nat)) (s:Nat),(∀ r∈rows,r.Nodup)->((rows.foldl (fun s r=>s&&&Vm r t) s).testBit u=true↔s.testBit u=true/\∀ r∈rows,u∈r/\r.idxOf u<=r.idxOf t)
 | [],s,_=>by simp
 | r::rows,s,h=>by
  rw [List.foldl_cons,ZbM rows _ fun q hq=>h q (by simp [hq]),Nat.testBit_and,Bool.and_eq_true,Zek (h r (by simp)),List.forall_mem_cons,and_assoc]
theorem Zgo {rows:List (List Nat)}{n t u:Nat}(h:∀ r∈rows,r.Perm (List.range n)):(dwF rows n t).testBit u=true↔u<n/\∀ r∈rows,r.idxOf u<=r.idxOf t:=by
 unfold dwF
 rw [ZbM rows _ fun r hr=>(h r hr).nodup_iff.mpr List.nodup_range,Zfx]
 constructor
 ·rintro⟨h1,h2⟩;exact⟨h1,fun r hr=>(h2 r hr).2⟩
 ·rintro⟨h1,h2⟩;exact⟨h1,fun r hr=>⟨(h r hr).mem_iff.mpr (List.mem_range.mpr h1),h2 r hr⟩⟩
theorem Zhl {rows:List (List Nat)}{r:List Nat}{n t:Nat}:dwF (rows++[r]) n t=dwF rows n t&&&Vm r t:=by
 unfold dwF
 rw [List.foldl_append]
 rfl
noncomputable def byN (rows:List (List Nat))(row:List Nat)(n j:Nat):List Nat:=(List.range n).map fun t=>if row.idxOf t<j then dwF rows n t&&&Vm row t else dwF rows n t
theorem ZaH {rows:List (List Nat)}{row:List Nat}{n j:Nat}:(byN rows row n j).length=n:=by unfold byN;simp
theorem Zht {rows:List (List Nat)}{row:List Nat}{n j i:Nat}(h:i<(byN rows row n j).length):(byN rows row n j)[i]=if row.idxOf i<j then dwF rows n i&&&Vm row i else dwF rows n i:=by
 unfold byN at h ⊢
 simp
theorem Zhr {rows:List (List Nat)}{row:List Nat}{n:Nat}:byN rows row n 0=dwL rows n:=by
 unfold byN dwL
 refine List.map_congr_left fun t _=>?_
 rw [if_neg (Nat.not_lt_zero _)]
theorem Zjq {rows:List (List Nat)}{row:List Nat}{n:Nat}(h:row.Perm (List.range n)):byN rows row n n=dwL (rows++[row]) n:=by
 unfold byN dwL
 refine List.map_congr_left fun t ht=>?_
 have h1:row.idxOf t<row.length:=List.idxOf_lt_length_iff.mpr (h.mem_iff.mpr ht)
 rw [h.length_eq,List.length_range] at h1
 rw [if_pos h1,Zhl]
theorem Zhs {rows:List (List Nat)}{row:List Nat}{n j t:Nat}(h:row.Perm (List.range n))(e:row[j]? = some t):(byN rows row n j).set t ((byN rows row n j).getD t 0&&&Zd6 (row.take (j+1)))=byN rows row n (j+1):=by
 have hnd:row.Nodup:=h.nodup_iff.mpr List.nodup_range
 obtain⟨hi,et⟩:=List.getElem?_eq_some_iff.mp e
 have hti:row.idxOf t=j:=by rw [<- et];exact ZdH hnd hi
 have ht:t<n:=List.mem_range.mp (h.mem_iff.mp (by rw [<- et];exact List.getElem_mem hi))
 apply List.ext_getElem
 ·rw [List.length_set,ZaH,ZaH]
 ·intro i h1 h2
  rw [ZaH] at h2
  rw [List.getElem_set,Zht,Zht]
  by_cases z:t=i
  ·subst z
   rw [if_pos rfl,hti,if_pos (by omega),Yi (by rw [ZaH];exact ht),Zht,hti,if_neg (Nat.lt_irrefl _)]
   unfold Vm
   rw [hti]
  ·rw [if_neg z]
   have:row.idxOf i≠j:=fun q=>z (by
    have hj:i∈row:=h.mem_iff.mpr (List.mem_range.mpr h2)
    have h3:row.idxOf i<row.length:=List.idxOf_lt_length_iff.mpr hj
    have:=List.getElem_idxOf h3
    rw [<- this,<- et]
    congr 1
    exact q.symm)
   by_cases q:row.idxOf i<j
   ·rw [if_pos q,if_pos (by omega)]
   ·rw [if_neg q,if_neg (by omega)]
end OM
namespace PySem.W
open PySem PySem.Calls PyProof.Rows
section
variable {key:Nat->Int}{n:Nat}{p:Array Nat}{s:Shared}
end
end PySem.W
namespace L2
open PySem PySem.Spec PyProof.Rows PySem.W Att
noncomputable def pkey (p:Nat×Nat):Nat:=p.1*2^256+p.2
theorem Za4 {p q:Nat×Nat}(hp:p.2<2^256)(hq:q.2<2^256):pkey p<pkey q↔p.1<q.1\/(p.1=q.1/\p.2<q.2):=by
 unfold pkey
 generalize (2:Nat)^256=M at hp hq
 constructor
 ·intro h
  rcases Nat.lt_trichotomy p.1 q.1 with z | z | z
  ·exact .inl z
  ·rw [z] at h;exact .inr ⟨z,by omega⟩
  ·have:=Nat.mul_le_mul_right M (show q.1+1<=p.1 from z)
   rw [Nat.add_mul] at this
   omega
 ·rintro (h | ⟨h1,h2⟩)
  ·have:=Nat.mul_le_mul_right M (show p.1+1<=q.1 from h)
   rw [Nat.add_mul] at this
   omega
  ·rw [h1];omega
theorem ZeE {p q:Nat×Nat}(hp:p.2<2^256)(hq:q.2<2^256)(h:pkey p=pkey q):p=q:=by
 have h1:=mt (Za4 hp hq).mpr (by omega)
 have h2:=mt (Za4 hq hp).mpr (by omega)
 obtain⟨a,b⟩:=p
 obtain⟨c,d⟩:=q
 simp only at h1 h2
 have e1:a=c:=by omega
 have e2:b=d:=by omega
 rw [e1,e2]
section
variable {prog:Program}{w:World}{A:Around}{E:Value->Shared->Prop}{s:Shared}
theorem ZgV {x y:Addr}{ox oy:Obj}{p q:Nat×Nat}{t1 t2 u1 u2:Tok}{n k:Nat}{Q:Bool->Shared->Prop}(hp:p.2<2^256)(hq:q.2<2^256)(hx:s.heap.get? x=some ox)(dx:ox.data=.seq #[.int p.1 t1,.int p.2 t2] n)(hy:s.heap.get? y=some oy)(dy:oy.data=.seq #[.int q.1 u1,.int q.2 u2] k)
  (h:Q (decide (pkey p<pkey q)) s):wpAny (model prog w) A (keyLt' (tuples' true) (.ref x) (.ref y)) Q E s:=by
 have hk:decide (pkey p<pkey q)=decide (p.1<q.1\/(p.1=q.1/\p.2<q.2)):=decide_eq_decide.mpr (Za4 hp hq)
 rw [hk] at h
 refine kat_lt hx dx hy dy (kat_cons (wpAny_eqBool_int ?_))
 by_cases h1:p.1=q.1
 ·rw [show (((p.1:Nat):Int) == ((q.1:Nat):Int))=true by rw [h1];simp]
  refine kat_yes (kat_cons (wpAny_eqBool_int ?_))
  by_cases h2:p.2=q.2
  ·rw [show (((p.2:Nat):Int) == ((q.2:Nat):Int))=true by rw [h2];simp]
   refine kat_yes (kat_nil ?_)
   rw [show decide (p.1<q.1\/(p.1=q.1/\p.2<q.2))=false from decide_eq_false (by omega)] at h
   exact h
  ·rw [show (((p.2:Nat):Int) == ((q.2:Nat):Int))=false by simp;omega]
   refine kat_no (kat_one _ _ (lt_int ?_))
   show Q (decide (((p.2:Nat):Int)<((q.2:Nat):Int))) s
   rw [show decide (((p.2:Nat):Int)<((q.2:Nat):Int))=decide (p.1<q.1\/(p.1=q.1/\p.2<q.2)) from decide_eq_decide.mpr (by omega)]
   exact h
 ·rw [show (((p.1:Nat):Int) == ((q.1:Nat):Int))=false by simp;omega]
  refine kat_no (oneLt_int ?_)
  rw [show decide (((p.1:Nat):Int)<((q.1:Nat):Int))=decide (p.1<q.1\/(p.1=q.1/\p.2<q.2)) from decide_eq_decide.mpr (by omega)]
  exact h
theorem ZcG {h:Heap}:∀ us:List Addr,(∀ u∈us,∃ o n x t1 y t2,h.get? u=some o/\o.cls=.type "tuple" /\ o.data=.seq #[Value.int x t1,Value.int y t2] n)->∃ fs,KatTups h (us.map Value.ref) fs/\fs.length=us.length/\∀ v∈fs,∃ x t,v=Value.int x t
 | [],_=>⟨[],.nil,rfl,fun v hv=>by cases hv⟩
 | u::us,hu=>by
  obtain⟨o,n,x,t1,y,t2,e1,e2,e3⟩:=hu u List.mem_cons_self
  obtain⟨fs,k,hl,hf⟩:=ZcG us fun v hv=>hu v (List.mem_cons_of_mem _ hv)
  refine⟨.int x t1::fs,.cons e1 e2 e3 rfl k,by rw [List.length_cons,List.length_cons,hl],fun v hv=>?_⟩
  rcases List.mem_cons.mp hv with rfl | hv
  ·exact⟨x,t1,rfl⟩
  ·exact hf v hv
end
section
variable {prog:Program}{w:World}{A:Around}{E:Value->Shared->Prop}{s:Shared}
end
section
variable {X:Cx}
theorem Vb:∀ rs:List Addr,Vals (rv rs) (rs.map Value.ref)
 | []=>.nil
 | r::rs=>.cons rfl (Vb rs)
theorem Zge {h:Heap}{L:Addr}{m m':Str->Option Value}(h1:h.Ns L m)(h2:h.Ns L m'):m=m':=by
 obtain⟨o,es,ep,a1,a2,_,a3⟩:=h1
 obtain⟨o',es',ep',b1,b2,_,b3⟩:=h2
 rw [a1] at b1
 cases b1
 rw [a2] at b2
 cases b2
 funext x
 rw [<- a3 x,<- b3 x]
theorem ZeM {P:Program}{w:World}{H:Hp}{h:Heap}{a:Addr}{o:HO}(x:ObjOk P w H h a o):∃ u,h.get? a=some u:=by
 cases o with
 | lst xs=>obtain⟨_,_,_,_,e⟩:=x;exact⟨_,e⟩
 | tup xs=>obtain⟨_,_,_,ob,e,_⟩:=x;exact⟨_,e⟩
 | dK kvs=>obtain⟨_,_,_,_,o,_,_,e,_⟩:=x;exact⟨_,e⟩
 | dT kvs=>obtain⟨_,_,_,_,o,_,_,e,_⟩:=x;exact⟨_,e⟩
 | set S n=>obtain⟨o,_,_,_,e,_⟩:=x;exact⟨_,e⟩
 | ins C dx fs=>obtain⟨_,_,_,e,_⟩:=x;exact⟨_,e⟩
 | own y=>obtain⟨_,e⟩:=x;exact⟨_,e⟩
 | xd fs=>obtain⟨_,⟨_,_,_,e,_⟩,_⟩:=x;exact⟨_,e⟩
 | rng lo hi=>obtain⟨_,_,_,e⟩:=x;exact⟨_,e⟩
 | frz ob u=>obtain⟨e,_⟩:=x;exact⟨_,e⟩
 | tbl ps=>exact⟨_,show h.get? a=some _ from x⟩
 | met f y=>exact⟨_,show h.get? a=some _ from x⟩
 | ext φ=>obtain⟨_,⟨_,e⟩,_⟩:=x;exact⟨_,e⟩
theorem Zg2 {h h':Heap}{L:Addr}{m:Str->Option Value}(hn:h.Ns L m)(k:∀ b o,h.get? b=some o->h'.get? b=some o):h'.Ns L m:=by
 obtain⟨o,es,ep,ho,r⟩:=hn
 exact⟨o,es,ep,k _ _ ho,r⟩
theorem Inv.laidL {pins:List (Addr×Obj)}{σ:St}{H:Hp}{s:Shared}{h':Heap}{D:Addr}{rs:List Addr}{m:Str->Option Value}{c:Nat}(I:Inv X pins σ H s)(hm:s.heap.Ns X.env.locals m)(hDL:D≠X.env.locals)(hDs:s.heap.get? D=none)(hn:h'.Ns X.env.locals m)
  (keep:∀ b o,b≠X.env.locals->s.heap.get? b=some o->h'.get? b=some o) (hz:rs.length<=sizeLine) (hD:h'.get? D=some (listOf (rs.map Value.ref).toArray c)):Inv X pins σ (upd H D (.lst (rv rs))) { s with heap:=h' }/\H D=none:=by
 have hfree:H D=none:=by
  cases e:H D with
  | none=>rfl
  | some u =>
   obtain⟨o,ho⟩:=ZeM (I.hok D u e)
   rw [hDs] at ho
   cases ho
 have neD:∀ b o,s.heap.get? b=some o->b≠D:=fun b o e z=>by rw [z,hDs] at e;cases e
 have neT:∀ b u,H b=some u->b≠D:=fun b u e z=>by rw [z,hfree] at e;cases e
 have neL:∀ b u,H b=some u->b≠X.env.locals:=fun b u e z=>by rw [z,I.free] at e;cases e
 refine⟨I.step (g':=s.gens) (d':=s.drawn) (t':=s.toks) (ch:=[]) (fun _ z=>nomatch z) (fun b o n1 _ _ e _=>keep b o n1 e) (fun b o n1 _ _ e _=>⟨o.slots,keep b o n1 e⟩) (fun b o _ e hb=>by rw [Zh (neD b o e)];exact hb)
  (fun b o _ e=>?_) (fun b xs e=>by rw [Zh (neT b _ e)];exact e) (fun b o u e=>by rw [Zh (neT b _ e)];exact e) (fun b ps e=>⟨#[],by rw [Zh (neT b _ e),e];simp⟩) (fun m' hm'=>by rw [<- Zge hm hm'];exact hn) (fun b u e=>?_) I.bare,hfree⟩
 ·by_cases hb:b=X.env.locals
  ·obtain⟨o',_,_,e',_⟩:=hn
   exact⟨o',by rw [hb];exact e'⟩
  ·exact⟨o,keep b o hb e⟩
 ·by_cases hb:b=D
  ·subst hb
   rw [Zd] at e
   cases e
   exact⟨by rw [Yn];exact hz,rs.map Value.ref,c,Vb rs,hD⟩
  ·rw [Zh hb] at e
   refine (I.hok b u e).stay (fun c v hc q=>keep c v ?_ q) (fun c q=>by rw [Zh (neT c _ q)];exact q) fun c xs q=>by rw [Zh (neT c _ q)];exact q
   rcases hc with z | z
   ·rw [z];exact neL b u e
   ·exact neL c _ z
end
end L2
namespace PyProof.Rows.Tim
open PySem
section
variable {prog:Program}{w:World}{A:Around}{E:Value->Shared->Prop}{s:Shared}
noncomputable def VY:Bool->Keyed->Array Keyed->Nat->Nat->Nat->StateT SortSt Sem (Option Nat):=sortPriv% PySem.Builtin.gallop
noncomputable def ZeU:Array Keyed->Array Keyed->StateT SortSt Sem (Array Keyed):=sortPriv% PySem.Builtin.mergeLo
noncomputable def ZeV:Array Keyed->Array Keyed->StateT SortSt Sem (Array Keyed):=sortPriv% PySem.Builtin.mergeHi
noncomputable def ZaP (prog:Program)(w:World)(A:Around)(E:Value->Shared->Prop)(s:Shared)(κ:SortKind)(ky:Keyed->Int)(ok:Keyed->Prop):Prop :=
 ∀ (x y:Keyed) (st:SortSt) (Q:Option Bool->SortSt->Prop),ok x->ok y->kindOf st=κ->Q (some (decide (ky x<ky y))) st->wpS (model prog w) A E s (lt' x y) Q st
theorem ZS {arr:Array Keyed}{i:Nat}{x:Keyed}{Q:Keyed->SortSt->Prop}{st:SortSt}(hx:arr[i]? = some x)(h:Q x st):wpS (model prog w) A E s (elem' arr i) Q st:=by
 rw [elem'_eq,hx]
 exact wpS_pure h
noncomputable def kyA (ky:Keyed->Int)(arr:Array Keyed)(j:Nat):Int:=ky (arr.getD j (Value.none,Value.none))
theorem ZN {ky:Keyed->Int}{arr:Array Keyed}{j:Nat}{x:Keyed}(h:arr[j]? = some x):kyA ky arr j=ky x:=by
 unfold kyA
 rw [Array.getD_eq_getD_getElem?,h]
 rfl
noncomputable def Bey (left:Bool)(ky:Keyed->Int)(arr:Array Keyed)(x:Keyed)(j:Nat):Prop:=if left=true then kyA ky arr j<ky x else kyA ky arr j<=ky x
noncomputable instance {left:Bool} {ky:Keyed->Int} {arr:Array Keyed} {x:Keyed} {j:Nat}:Decidable (Bey left ky arr x j):=by unfold Bey;infer_instance
theorem Zgu {c:Prop}{dc:Decidable c}{β:Type}{m n:StateT SortSt Sem β}{Q:β->SortSt->Prop}{st:SortSt}(h:c)(g:wpS (model prog w) A E s m Q st):wpS (model prog w) A E s (@ite _ c dc m n) Q st:=by rw [if_pos h];exact g
variable {κ:SortKind}{ky:Keyed->Int}{ok:Keyed->Prop}
noncomputable def LP {ρ β:Type}(I D:β->SortSt->Prop)(R:ρ->SortSt->Prop):ForInStep (Option ρ×β)->SortSt->Prop
 | .yield (none,x),st=>I x st
 | .done (none,x),st=>D x st
 | .done (some r,_),st=>R r st
 | .yield (some _,_),_=>False
section
variable {ρ α β γ:Type}{I D:β->SortSt->Prop}{R:ρ->SortSt->Prop}{st:SortSt}
theorem ZB {x:β}(h:I x st):wpS (model prog w) A E s (pure (ForInStep.yield (none,x))) (LP I D R) st:=wpS_pure h
theorem ZT {x:β}(h:D x st):wpS (model prog w) A E s (pure (ForInStep.done (none,x))) (LP I D R) st:=wpS_pure h
theorem ZO {r:ρ}{x:β}(h:R r st):wpS (model prog w) A E s (pure (ForInStep.done (some r,x))) (LP I D R) st:=wpS_pure h
theorem YI {lo n:Nat}{f:Nat->Option ρ×β->StateT SortSt Sem (ForInStep (Option ρ×β))}{g:Option ρ×β->StateT SortSt Sem γ}{Q:γ->SortSt->Prop}{x:β}(J:Nat->β->SortSt->Prop)(h0:J lo x st)
  (step:∀ i x st,lo<=i->i<n->J i x st->wpS (model prog w) A E s (f i (none,x)) (LP (J (i+1)) D R) st) (hend:∀ x st,J (max lo n) x st->D x st)
  (hd:∀ x st,D x st->wpS (model prog w) A E s (g (none,x)) Q st) (hr:∀ r q st,R r st->wpS (model prog w) A E s (g (some r,q)) Q st):wpS (model prog w) A E s (forIn [lo:n] (none,x) f >>= g) Q st:=by
 refine wpS_bind (wpS_mono (wpS_forRange (I:=fun i c st=>c.1=none/\J i c.2 st) (Q:=fun c st=>match c with | (none,x)=>D x st | (some r,_)=>R r st) ?_ ?_ ⟨rfl,h0⟩) ?_)
 ·rintro i ⟨c,x⟩ st h1 hi ⟨e,hx⟩
  cases e
  refine wpS_mono (step i x st h1 hi hx) ?_
  rintro (⟨_ | r,y⟩ | ⟨_ | r,y⟩) st' h
  ·exact h
  ·exact h
  ·exact⟨rfl,h⟩
  ·exact h.elim
 ·rintro⟨c,x⟩ st ⟨e,hx⟩
  cases e
  exact hend x st hx
 ·rintro⟨_ | r,y⟩ st' h
  ·exact hd y st' h
  ·exact hr r y st' h
theorem UL {n:Nat}{f:Nat->Option ρ×β->StateT SortSt Sem (ForInStep (Option ρ×β))}{g:Option ρ×β->StateT SortSt Sem γ}{Q:γ->SortSt->Prop}{x:β}(J:Nat->β->SortSt->Prop)(h0:J 0 x st)
  (step:∀ i x st,i<n->J i x st->wpS (model prog w) A E s (f i (none,x)) (LP (J (i+1)) D R) st) (hend:∀ x st,J n x st->D x st)
  (hd:∀ x st,D x st->wpS (model prog w) A E s (g (none,x)) Q st) (hr:∀ r q st,R r st->wpS (model prog w) A E s (g (some r,q)) Q st):wpS (model prog w) A E s (forIn [0:n] (none,x) f >>= g) Q st :=
 YI (D:=D) (R:=R) J h0 (fun i x st _=>step i x st) (fun x st h=>hend x st (by rwa [Nat.zero_max] at h)) hd hr
theorem Xx {α1 α2:Type}{lo n:Nat}{f:Nat->Option ρ×α1×α2->StateT SortSt Sem (ForInStep (Option ρ×α1×α2))}{g:Option ρ×α1×α2->StateT SortSt Sem γ}{Q:γ->SortSt->Prop}{x1:α1}{x2:α2}(J:Nat->α1->α2->SortSt->Prop)(D:α1->α2->SortSt->Prop)(h0:J lo x1 x2 st)
  (step:∀ i x1 x2 st,lo<=i->i<n->J i x1 x2 st->wpS (model prog w) A E s (f i (none,x1,x2)) (LP (fun x st=>J (i+1) x.1 x.2 st) (fun x st=>D x.1 x.2 st) fun _ _=>False) st) (hend:∀ x1 x2 st,J (max lo n) x1 x2 st->D x1 x2 st)
  (hd:∀ x1 x2 st,D x1 x2 st->wpS (model prog w) A E s (g (none,x1,x2)) Q st):wpS (model prog w) A E s (forIn [lo:n] (none,x1,x2) f >>= g) Q st :=
 YI (D:=fun x st=>D x.1 x.2 st) (R:=fun _ _=>False) (fun i x st=>J i x.1 x.2 st) h0 (fun i x=>step i _ _) (fun x=>hend _ _) (fun x=>hd _ _) fun _ _ _ h=>h.elim
theorem Zgv {c:Prop}{dc:Decidable c}{r:StateT SortSt Sem α}{n:StateT SortSt Sem γ}{Q:γ->SortSt->Prop}(P:SortSt->Prop)(pos:c->wpS (model prog w) A E s r (fun _ st'=>P st') st)(neg:¬ c->P st)(key:∀ st',P st'->wpS (model prog w) A E s n Q st'):wpS (model prog w) A E s (@ite _ c dc (r >>= fun _=>n) n) Q st:=by
 by_cases h:c
 ·rw [if_pos h];exact wpS_bind (wpS_mono (pos h) fun _=>key)
 ·rw [if_neg h];exact key st (neg h)
theorem Zes {m:StateT SortSt Sem γ}{Q:γ->SortSt->Prop}(jp:Unit->StateT SortSt Sem γ)(P:SortSt->Prop)(key:∀ st',P st'->wpS (model prog w) A E s (jp ()) Q st')(k:(∀ st',P st'->wpS (model prog w) A E s (jp ()) Q st')->wpS (model prog w) A E s m Q st):wpS (model prog w) A E s m Q st:=k key
theorem Jz {α1 α2 α3 α4:Type}{n:Nat}{f:Nat->Option ρ×α1×α2×α3×α4->StateT SortSt Sem (ForInStep (Option ρ×α1×α2×α3×α4))}{g:Option ρ×α1×α2×α3×α4->StateT SortSt Sem γ}{Q:γ->SortSt->Prop}{x1:α1}{x2:α2}{x3:α3}{x4:α4}(J:Nat->α1->α2->α3->α4->SortSt->Prop)(D:α1->α2->α3->α4->SortSt->Prop)(R:ρ->SortSt->Prop)(h0:J 0 x1 x2 x3 x4 st)
  (step:∀ i x1 x2 x3 x4 st,i<n->J i x1 x2 x3 x4 st->wpS (model prog w) A E s (f i (none,x1,x2,x3,x4)) (LP (fun x st=>J (i+1) x.1 x.2.1 x.2.2.1 x.2.2.2 st) (fun x st=>D x.1 x.2.1 x.2.2.1 x.2.2.2 st) R) st) (hend:∀ x1 x2 x3 x4 st,J n x1 x2 x3 x4 st->D x1 x2 x3 x4 st)
  (hd:∀ x1 x2 x3 x4 st,D x1 x2 x3 x4 st->wpS (model prog w) A E s (g (none,x1,x2,x3,x4)) Q st) (hr:∀ r q st,R r st->wpS (model prog w) A E s (g (some r,q)) Q st):wpS (model prog w) A E s (forIn [0:n] (none,x1,x2,x3,x4) f >>= g) Q st :=
 UL (D:=fun x st=>D x.1 x.2.1 x.2.2.1 x.2.2.2 st) (fun i x st=>J i x.1 x.2.1 x.2.2.1 x.2.2.2 st) h0 (fun i x=>step i _ _ _ _) (fun x=>hend _ _ _ _) (fun x=>hd _ _ _ _) hr
theorem Jy {α1 α2 α3 α4 α5:Type}{n:Nat}{f:Nat->Option ρ×α1×α2×α3×α4×α5->StateT SortSt Sem (ForInStep (Option ρ×α1×α2×α3×α4×α5))}{g:Option ρ×α1×α2×α3×α4×α5->StateT SortSt Sem γ}{Q:γ->SortSt->Prop}{x1:α1}{x2:α2}{x3:α3}{x4:α4}{x5:α5}(J:Nat->α1->α2->α3->SortSt->Prop)(D:α1->α2->α3->SortSt->Prop)(R:ρ->SortSt->Prop)(h0:J 0 x1 x2 x3 st)
  (step:∀ i x1 x2 x3 x4 x5 st,i<n->J i x1 x2 x3 st->wpS (model prog w) A E s (f i (none,x1,x2,x3,x4,x5)) (LP (fun x st=>J (i+1) x.1 x.2.1 x.2.2.1 st) (fun x st=>D x.1 x.2.1 x.2.2.1 st) R) st) (hend:∀ x1 x2 x3 st,J n x1 x2 x3 st->D x1 x2 x3 st)
  (hd:∀ x1 x2 x3 x4 x5 st,D x1 x2 x3 st->wpS (model prog w) A E s (g (none,x1,x2,x3,x4,x5)) Q st) (hr:∀ r q st,R r st->wpS (model prog w) A E s (g (some r,q)) Q st):wpS (model prog w) A E s (forIn [0:n] (none,x1,x2,x3,x4,x5) f >>= g) Q st :=
 UL (D:=fun x st=>D x.1 x.2.1 x.2.2.1 st) (fun i x st=>J i x.1 x.2.1 x.2.2.1 st) h0 (fun i x=>step i _ _ _ _ _) (fun x=>hend _ _ _) (fun x=>hd _ _ _ _ _) hr
theorem Jx {α1 α2 α3 α4 α5 α6:Type}{n:Nat}{f:Nat->Option ρ×α1×α2×α3×α4×α5×α6->StateT SortSt Sem (ForInStep (Option ρ×α1×α2×α3×α4×α5×α6))}{g:Option ρ×α1×α2×α3×α4×α5×α6->StateT SortSt Sem γ}{Q:γ->SortSt->Prop}{x1:α1}{x2:α2}{x3:α3}{x4:α4}{x5:α5}{x6:α6}(J:α1->α2->α3->SortSt->Prop)(R:ρ->SortSt->Prop)(h0:J x1 x2 x3 st)
  (step:∀ i x1 x2 x3 x4 x5 x6 st,J x1 x2 x3 st->wpS (model prog w) A E s (f i (none,x1,x2,x3,x4,x5,x6)) (LP (fun x st=>J x.1 x.2.1 x.2.2.1 st) (fun x st=>J x.1 x.2.1 x.2.2.1 st) R) st)
  (hd:∀ x1 x2 x3 x4 x5 x6 st,J x1 x2 x3 st->wpS (model prog w) A E s (g (none,x1,x2,x3,x4,x5,x6)) Q st) (hr:∀ r q st,R r st->wpS (model prog w) A E s (g (some r,q)) Q st):wpS (model prog w) A E s (forIn [0:n] (none,x1,x2,x3,x4,x5,x6) f >>= g) Q st :=
 UL (D:=fun x st=>J x.1 x.2.1 x.2.2.1 st) (fun i x st=>J x.1 x.2.1 x.2.2.1 st) h0 (fun i x st _=>step i _ _ _ _ _ _ st) (fun x st h=>h) (fun x=>hd _ _ _ _ _ _) hr
theorem ZF {c:Prop}{dc:Decidable c}{m n:StateT SortSt Sem β}{Q:β->SortSt->Prop}(hp:c->wpS (model prog w) A E s m Q st)(hn:¬ c->wpS (model prog w) A E s n Q st):wpS (model prog w) A E s (@ite _ c dc m n) Q st:=by
 by_cases h:c
 ·rw [if_pos h];exact hp h
 ·rw [if_neg h];exact hn h
theorem ZJ {a b:Nat}{dc:Decidable ((a == b)=true)}{m n:StateT SortSt Sem β}{Q:β->SortSt->Prop}(hp:a=b->wpS (model prog w) A E s m Q st)(hn:a≠b->wpS (model prog w) A E s n Q st):wpS (model prog w) A E s (@ite _ ((a == b)=true) dc m n) Q st :=
 ZF (fun h=>hp (eq_of_beq h)) fun h=>hn fun e=>h (beq_iff_eq.mpr e)
theorem YJ {c:Prop}{dc:Decidable c}{dd:Decidable (decide c=true)}{m n:StateT SortSt Sem β}{Q:β->SortSt->Prop}(hp:c->wpS (model prog w) A E s m Q st)(hn:¬ c->wpS (model prog w) A E s n Q st):wpS (model prog w) A E s (@ite _ (decide c=true) dd m n) Q st :=
 ZF (fun h=>hp (of_decide_eq_true h)) fun h=>hn fun e=>h (decide_eq_true e)
theorem XW {arr:Array Keyed}{i:Nat}{Q:Keyed->SortSt->Prop}{ok:Keyed->Prop}(h:∃ y,arr[i]? = some y/\ok y)(k:∀ y,arr[i]? = some y->ok y->Q y st):wpS (model prog w) A E s (elem' arr i) Q st:=by
 obtain⟨y,e,o⟩:=h
 exact ZS e (k y e o)
theorem UK {m:StateT SortSt Sem γ}{Q:γ->SortSt->Prop}(jp:Unit->α->β->StateT SortSt Sem γ)(P:α->β->Prop)(key:∀ o i,P o i->wpS (model prog w) A E s (jp () o i) Q st)(k:(∀ o i,P o i->wpS (model prog w) A E s (jp () o i) Q st)->wpS (model prog w) A E s m Q st):wpS (model prog w) A E s m Q st:=k key
theorem Zbu {m:StateT SortSt Sem γ}{Q:γ->SortSt->Prop}(jp:Unit->α->StateT SortSt Sem γ)(key:∀ o,wpS (model prog w) A E s (jp () o) Q st)(k:(∀ o,wpS (model prog w) A E s (jp () o) Q st)->wpS (model prog w) A E s m Q st):wpS (model prog w) A E s m Q st:=k key
theorem Zgw {c:Prop}{dc:Decidable c}{dd:Decidable ((!decide c)=true)}{m n:StateT SortSt Sem β}{Q:β->SortSt->Prop}(hp:¬ c->wpS (model prog w) A E s m Q st)(hn:c->wpS (model prog w) A E s n Q st):wpS (model prog w) A E s (@ite _ ((!decide c)=true) dd m n) Q st :=
 ZF (fun h=>hp fun z=>by rw [decide_eq_true z] at h;cases h) fun h=>hn (Decidable.byContradiction fun z=>h (by rw [decide_eq_false z];rfl))
theorem Zet {m:StateT SortSt Sem γ}{Q:γ->SortSt->Prop}(jp:Unit->Nat->Nat->Nat->Nat->StateT SortSt Sem γ)(P:Nat->Nat->Prop)(key:∀ x y l h,P l h->wpS (model prog w) A E s (jp () x y l h) Q st)(k:(∀ x y l h,P l h->wpS (model prog w) A E s (jp () x y l h) Q st)->wpS (model prog w) A E s m Q st):wpS (model prog w) A E s m Q st:=k key
end
structure Bis (n:Nat)(p:Nat->Prop)(l h:Nat):Prop where
 le:l<=h
 hn:h<=n
 f1:∀ i,i<l->p i
 f2:∀ i,h<=i->i<n->¬ p i
theorem Bis.up {n l h m:Nat}{p:Nat->Prop}(W:Bis n p l h)(mono:∀ i j,i<=j->j<n->p j->p i)(hm:m<h)(c:p m):Bis n p (m+1) h :=
 ⟨hm,W.hn,fun i hi=>mono i m (Nat.le_of_lt_succ hi) (Nat.lt_of_lt_of_le hm W.hn) c,W.f2⟩
theorem Bis.down {n l h m:Nat}{p:Nat->Prop}(W:Bis n p l h)(mono:∀ i j,i<=j->j<n->p j->p i)(hm:l<=m)(h':m<=h)(c:¬ p m):Bis n p l m :=
 ⟨hm,Nat.le_trans h' W.hn,W.f1,fun i hi hn b=>c (mono _ i hi hn b)⟩
theorem Ys (ask:ZaP prog w A E s κ ky ok){left:Bool}{x:Keyed}{arr:Array Keyed}{base n hint:Nat}{st:SortSt}{Q:Option Nat->SortSt->Prop}(hk:kindOf st=κ)(ox:ok x)(hok:∀ i,i<n->∃ y,arr[base+i]? = some y/\ok y)
  (hs:∀ i j,i<=j->j<n->kyA ky arr (base+i)<=kyA ky arr (base+j)) (hh:hint<n)
  (h:∀ k,k<=n->(∀ i,i<k->Bey left ky arr x (base+i))->(∀ i,k<=i->i<n->¬ Bey left ky arr x (base+i))->Q (some k) st):wpS (model prog w) A E s (VY left x arr base n hint) Q st:=by
 have bey:∀ i (Q:Option Bool->SortSt->Prop),i<n->Q (some (decide (Bey left ky arr x (base+i)))) st->wpS (model prog w) A E s (elem' arr (base+i) >>= fun y=>if left=true then lt' y x else lt' x y >>= fun r=>pure (Option.map (fun b=>!b) r)) Q st:=by
  intro i Q hi hq
  obtain⟨y,ey,oy⟩:=hok i hi
  refine wpS_bind (ZS ey ?_)
  have e:=ZN (ky:=ky) ey
  cases left with
  | true =>
   refine Zgu rfl ?_
   refine ask _ _ _ _ oy ox hk ?_
   rw [show decide (ky y<ky x)=decide (Bey true ky arr x (base+i)) from decide_eq_decide.mpr (by unfold Bey;rw [if_pos rfl,e])]
   exact hq
  | false =>
   rw [if_neg (by decide)]
   refine wpS_bind (ask _ _ _ _ ox oy hk (wpS_pure ?_))
   show Q (some (!decide (ky x<ky y))) st
   rw [show (!decide (ky x<ky y))=decide (Bey false ky arr x (base+i)) from by
    rw [<- decide_not];exact decide_eq_decide.mpr (by unfold Bey;rw [if_neg (by decide),e];exact Int.not_lt)]
   exact hq
 have mono:∀ i j,i<=j->j<n->Bey left ky arr x (base+j)->Bey left ky arr x (base+i):=by
  intro i j hij hj hb
  have:=hs i j hij hj
  unfold Bey at hb ⊢
  cases left with
  | true=>rw [if_pos rfl] at hb ⊢;omega
  | false=>rw [if_neg (by decide)] at hb ⊢;omega
 refine wpS_bind (bey hint _ hh ?_)
 dsimp (zeta:=false) only
 extract_lets jp
 refine Zet jp (Bis n fun i=>Bey left ky arr x (base+i)) (fun _ _ lo hi W=>?_) fun key=>?_
 ·refine Xx (fun z lo hi st'=>st=st'/\Bis n (fun i=>Bey left ky arr x (base+i)) lo hi/\hi-lo<=n-z) (fun lo hi st'=>st=st'/\lo=hi/\Bis n (fun i=>Bey left ky arr x (base+i)) lo hi) ⟨rfl,W,by have:=W.hn;omega⟩ (fun z lo hi st' _ hz W=>?_) (fun lo hi st' W=>?_) fun lo hi st' W=>?_
  ·obtain⟨rfl,W,q⟩:=W
   have le:=W.le
   have hn:=W.hn
   refine ZF (fun c=>ZT ⟨rfl,Nat.le_antisymm le c,W⟩) fun c=>?_
   have c:lo<hi:=Nat.lt_of_not_le c
   have m1:lo+(hi-lo)/2<hi:=by omega
   exact wpS_bind (bey (lo+(hi-lo)/2) _ (Nat.lt_of_lt_of_le m1 hn) (YJ (fun c2=>ZB ⟨rfl,W.up mono m1 c2,by show hi-(lo+(hi-lo)/2+1)<=_;omega⟩) fun c2=>ZB ⟨rfl,W.down mono (Nat.le_add_right _ _) (Nat.le_of_lt m1) c2,by show lo+(hi-lo)/2-lo<=_;omega⟩))
  ·obtain⟨rfl,W,q⟩:=W
   have:=W.le
   exact⟨rfl,by omega,W⟩
  ·obtain⟨rfl,rfl,W⟩:=W
   exact wpS_pure (h lo W.hn W.f1 W.f2)
 clear_value jp
 clear h
 refine YJ (fun hr=>?_) fun hr=>?_
 ·refine Xx (fun z la ofs st'=>st=st'/\la<ofs/\la<n-hint/\z+1<=ofs/\Bey left ky arr x (base+(hint+la))) (fun la ofs st'=>st=st'/\la<ofs/\la<n-hint/\Bey left ky arr x (base+(hint+la))/\(n-hint<=ofs\/(ofs<n-hint/\¬ Bey left ky arr x (base+(hint+ofs))))) ⟨rfl,by omega,by omega,by omega,hr⟩ (fun z la ofs st' _ hz W=>?_) (fun la ofs st' W=>?_) fun la ofs st' W=>?_
  ·obtain⟨rfl,h1,h2,h3,h4⟩:=W
   exact ZF (fun c=>ZT ⟨rfl,h1,h2,h4,.inl c⟩) fun c=>wpS_bind (bey (hint+ofs) _ (by show hint+ofs<n;have:¬ ofs ≥ n-hint:=c;omega) (Zgw (fun c2=>ZT ⟨rfl,h1,h2,h4,.inr ⟨Nat.lt_of_not_le c,c2⟩⟩) fun c2=>ZB ⟨rfl,by show ofs<2*ofs+1;omega,Nat.lt_of_not_le c,by show z+1+1<=2*ofs+1;omega,c2⟩))
  ·obtain⟨rfl,h1,h2,h3,h4⟩:=W
   exact⟨rfl,h1,h2,h4,.inl (by omega)⟩
  ·obtain⟨rfl,h1,h2,h3,h4⟩:=W
   refine key _ _ _ _ ⟨?_,?_,fun i hi=>mono i (hint+la) (Nat.le_of_lt_succ hi) (by omega) h3,fun i hi hn b=>?_⟩
   ·show hint+la+1<=hint+min ofs (n-hint)
    omega
   ·show hint+min ofs (n-hint)<=n
    omega
   ·have hi:hint+min ofs (n-hint)<=i:=hi
    rcases h4 with z | ⟨z1,z2⟩
    ·omega
    ·exact z2 (mono _ i (by omega) hn b)
 ·refine Xx (fun z la ofs st'=>st=st'/\la<ofs/\la<=hint/\z+1<=ofs/\¬ Bey left ky arr x (base+(hint-la))) (fun la ofs st'=>st=st'/\la<ofs/\la<=hint/\¬ Bey left ky arr x (base+(hint-la))/\(hint+1<=ofs\/(ofs<hint+1/\Bey left ky arr x (base+(hint-ofs))))) ⟨rfl,by omega,by omega,by omega,hr⟩ (fun z la ofs st' _ hz W=>?_) (fun la ofs st' W=>?_) fun la ofs st' W=>?_
  ·obtain⟨rfl,h1,h2,h3,h4⟩:=W
   exact ZF (fun c=>ZT ⟨rfl,h1,h2,h4,.inl c⟩) fun c=>wpS_bind (bey (hint-ofs) _ (by show hint-ofs<n;omega) (YJ (fun c2=>ZT ⟨rfl,h1,h2,h4,.inr ⟨Nat.lt_of_not_le c,c2⟩⟩) fun c2=>ZB ⟨rfl,by show ofs<2*ofs+1;omega,Nat.le_of_lt_succ (Nat.lt_of_not_le c),by show z+1+1<=2*ofs+1;omega,c2⟩))
  ·obtain⟨rfl,h1,h2,h3,h4⟩:=W
   exact⟨rfl,h1,h2,h4,.inl (by omega)⟩
  ·obtain⟨rfl,h1,h2,h3,h4⟩:=W
   refine key _ _ _ _ ⟨?_,?_,fun i hi=>?_,fun i hi hn b=>h3 (mono _ i hi hn b)⟩
   ·show hint+1-min ofs (hint+1)<=hint-la
    omega
   ·show hint-la<=n
    omega
   ·have hi:i<hint+1-min ofs (hint+1):=hi
    rcases h4 with z | ⟨z1,z2⟩
    ·omega
    ·exact mono i _ (by omega) (by omega) z2
noncomputable def GOnly (st st':SortSt):Prop:=∃ g,st'=SortSt.mk' (kindOf st) (arrOf st) (pendingOf st) g (failedOf st)
theorem GOnly.refl (st:SortSt):GOnly st st:=⟨gallopOf st,rfl⟩
theorem GOnly.set {st st':SortSt}(h:GOnly st st')(g:Nat):GOnly st (SortSt.mk' (kindOf st') (arrOf st') (pendingOf st') g (failedOf st')):=by
 obtain⟨g',rfl⟩:=h
 exact⟨g,rfl⟩
theorem GOnly.kind {st st':SortSt}(h:GOnly st st'):kindOf st'=kindOf st:=by
 obtain⟨g',rfl⟩:=h
 rfl
noncomputable def Srt (ky:Keyed->Int)(a:Array Keyed):Prop:=∀ i j,i<=j->j<a.size->kyA ky a i<=kyA ky a j
noncomputable def LeK (ky:Keyed->Int)(x y:Keyed):Prop:=ky x<=ky y
theorem Srt.pw {a:Array Keyed}(h:Srt ky a):a.toList.Pairwise (LeK ky):=by
 rw [List.pairwise_iff_getElem]
 intro i j hi hj hij
 have hi':i<a.size:=by simpa using hi
 have hj':j<a.size:=by simpa using hj
 have:=h i j (by omega) hj'
 rw [ZN (getElem?_pos a i hi'),ZN (getElem?_pos a j hj')] at this
 exact this
theorem JG {a:Array Keyed}(h:a.toList.Pairwise (LeK ky)):Srt ky a:=by
 rw [List.pairwise_iff_getElem] at h
 intro i j hij hj
 by_cases e:i=j
 ·rw [e];exact Int.le_refl _
 ·have:=h i j (by rw [Array.length_toList];omega) (by rw [Array.length_toList];omega) (by omega)
  rw [ZN (getElem?_pos a i (by omega)),ZN (getElem?_pos a j hj)]
  exact this
structure MInv (ky:Keyed->Int)(a b out:Array Keyed)(ia ib:Nat):Prop where
 hia:ia<=a.size
 hib:ib<=b.size
 pm:out.toList.Perm (a.toList.take ia++b.toList.take ib)
 so:out.toList.Pairwise (LeK ky)
 ua:∀ x∈out.toList,∀ y∈a.toList.drop ia,LeK ky x y
 ub:∀ x∈out.toList,∀ y∈b.toList.drop ib,LeK ky x y
theorem Vt {l:List Keyed}{x:Keyed}{i k:Nat}(h:x∈(l.drop i).take k):∃ j,i<=j/\j<i+k/\l[j]? = some x:=by
 obtain⟨j,hj⟩:=List.mem_iff_getElem?.mp h
 rw [List.getElem?_take] at hj
 by_cases c:j<k
 ·rw [if_pos c,List.getElem?_drop] at hj
  exact⟨i+j,by omega,by omega,hj⟩
 ·rw [if_neg c] at hj;cases hj
theorem ZeX {l:List Keyed}{x:Keyed}{i:Nat}(h:x∈l.drop i):∃ j,i<=j/\j<l.length/\l[j]? = some x:=by
 obtain⟨j,hj⟩:=List.mem_iff_getElem?.mp h
 rw [List.getElem?_drop] at hj
 exact⟨i+j,by omega,(List.getElem?_eq_some_iff.mp hj).1,hj⟩
theorem Wv (a:Array Keyed)(i k:Nat):(a.extract i (i+k)).toList=(a.toList.drop i).take k:=by
 rw [Array.toList_extract,List.extract_eq_take_drop,Nat.add_sub_cancel_left]
theorem WW {a:Array Keyed}{j:Nat}{x:Keyed}(h:a.toList[j]? = some x):kyA ky a j=ky x:=ZN (by rw [<- Array.getElem?_toList];exact h)
theorem MInv.takeA {a b out:Array Keyed}{ia ib:Nat}(m:MInv ky a b out ia ib)(k:Nat)(hk:ia+k<=a.size)(sa:Srt ky a)(hb:∀ i j,ia<=i->i<ia+k->ib<=j->j<b.size->kyA ky a i<=kyA ky b j):MInv ky a b (out++a.extract ia (ia+k)) (ia+k) ib:=by
 have e1:a.toList.drop ia=(a.toList.drop ia).take k++a.toList.drop (ia+k):=by
  rw [<- List.drop_drop,List.take_append_drop]
 have e2:a.toList.take (ia+k)=a.toList.take ia++(a.toList.drop ia).take k:=List.take_add ..
 have sp:=sa.pw
 have sub:∀ x,x∈(a.toList.drop ia).take k->x∈a.toList.drop ia:=fun x hx=>by rw [e1];exact List.mem_append_left _ hx
 have sub2:∀ x,x∈a.toList.drop (ia+k)->x∈a.toList.drop ia:=fun x hx=>by rw [e1];exact List.mem_append_right _ hx
 have pd:(a.toList.drop ia).Pairwise (LeK ky):=sp.sublist (List.drop_sublist ..)
 rw [e1,List.pairwise_append] at pd
 refine⟨hk,m.hib,?_,?_,?_,?_⟩<;>rw [Array.toList_append,Wv]
 ·rw [e2]
  refine (m.pm.append_right _).trans ?_
  rw [List.append_assoc,List.append_assoc]
  exact List.perm_append_comm.append_left _
 ·rw [List.pairwise_append]
  exact⟨m.so,pd.1,fun x hx y hy=>m.ua x hx y (sub y hy)⟩
 ·intro x hx y hy
  rcases List.mem_append.mp hx with z | z
  ·exact m.ua x z y (sub2 y hy)
  ·exact pd.2.2 x z y hy
 ·intro x hx y hy
  rcases List.mem_append.mp hx with z | z
  ·exact m.ub x z y hy
  ·obtain⟨i,i1,i2,i3⟩:=Vt z
   obtain⟨j,j1,j2,j3⟩:=ZeX hy
   have:=hb i j i1 i2 j1 (by simpa using j2)
   rw [WW i3,WW j3] at this
   exact this
theorem MInv.swap {a b out:Array Keyed}{ia ib:Nat}(m:MInv ky a b out ia ib):MInv ky b a out ib ia:=⟨m.hib,m.hia,m.pm.trans List.perm_append_comm,m.so,m.ub,m.ua⟩
theorem MInv.takeB {a b out:Array Keyed}{ia ib:Nat}(m:MInv ky a b out ia ib)(k:Nat)(hk:ib+k<=b.size)(sb:Srt ky b)(hb:∀ i j,ib<=i->i<ib+k->ia<=j->j<a.size->kyA ky b i<=kyA ky a j):MInv ky a b (out++b.extract ib (ib+k)) ia (ib+k):=(m.swap.takeA k hk sb hb).swap
theorem JT {a out:Array Keyed}{i:Nat}{x:Keyed}(h:a[i]? = some x):out.push x=out++a.extract i (i+1):=by
 apply Array.ext'
 rw [Array.toList_push,Array.toList_append,Wv]
 congr 1
 have hl:a.toList[i]? = some x:=by rw [Array.getElem?_toList];exact h
 obtain⟨hi,e⟩:=List.getElem?_eq_some_iff.mp hl
 rw [List.drop_eq_getElem_cons hi,e]
 rfl
theorem MInv.pushA {a b out:Array Keyed}{ia ib:Nat}{x:Keyed}(m:MInv ky a b out ia ib)(hx:a[ia]? = some x)(sa:Srt ky a)(hb:∀ j,ib<=j->j<b.size->kyA ky a ia<=kyA ky b j):MInv ky a b (out.push x) (ia+1) ib:=by
 rw [JT hx]
 refine m.takeA 1 (by have:=(Array.getElem?_eq_some_iff.mp hx).1;omega) sa fun i j h1 h2 h3 h4=>?_
 rw [show i=ia by omega]
 exact hb j h3 h4
theorem MInv.pushB {a b out:Array Keyed}{ia ib:Nat}{x:Keyed}(m:MInv ky a b out ia ib)(hx:b[ib]? = some x)(sb:Srt ky b)(hb:∀ j,ia<=j->j<a.size->kyA ky b ib<=kyA ky a j):MInv ky a b (out.push x) ia (ib+1):=(m.swap.pushA hx sb hb).swap
noncomputable def Yz (ky:Keyed->Int)(a b r:Array Keyed):Prop:=r.toList.Perm (a.toList++b.toList)/\Srt ky r
theorem MInv.done {a b out:Array Keyed}(m:MInv ky a b out a.size b.size):Yz ky a b out:=by
 refine⟨?_,JG m.so⟩
 have:=m.pm
 rwa [<- Array.length_toList,<- Array.length_toList,List.take_length,List.take_length] at this
theorem MInv.doneA {a b out:Array Keyed}{ia ib:Nat}(m:MInv ky a b out ia ib)(sa:Srt ky a)(sb:Srt ky b)(h:ia=a.size\/ib=b.size):Yz ky a b (out++a.extract ia a.size++b.extract ib b.size):=by
 have h1:=m.hia
 have h2:=m.hib
 have m1:=m.takeA (a.size-ia) (by omega) sa fun i j g1 g2 g3 g4=>by omega
 rw [show ia+(a.size-ia)=a.size by omega] at m1
 have m2:=m1.takeB (b.size-ib) (by omega) sb fun i j g1 g2 g3 g4=>by omega
 rw [show ib+(b.size-ib)=b.size by omega] at m2
 exact m2.done
theorem MInv.lastA {a b out:Array Keyed}{ia ib:Nat}(m:MInv ky a b out ia ib)(sa:Srt ky a)(sb:Srt ky b)(h:ia+1=a.size)(hl:∀ j,j<b.size->kyA ky b j<=kyA ky a ia):Yz ky a b (out++b.extract ib b.size++a.extract ia a.size):=by
 have h2:=m.hib
 have m1:=m.takeB (b.size-ib) (by omega) sb fun i j g1 g2 g3 g4=>by rw [show j=ia by omega];exact hl i (by omega)
 rw [show ib+(b.size-ib)=b.size by omega] at m1
 have m2:=m1.takeA (a.size-ia) (by omega) sa fun i j g1 g2 g3 g4=>by omega
 rw [show ia+(a.size-ia)=a.size by omega] at m2
 exact m2.done
structure LoI (ky:Keyed->Int)(a b:Array Keyed)(lo:Nat)(out:Array Keyed)(ia ib:Nat):Prop where
 m:MInv ky a b out ia ib
 q1:ia+1<a.size
 q2:ib<b.size
 q4:lo<=ia+ib
theorem LoI.toB {a b out o:Array Keyed}{ia ib lo lo':Nat}(w:LoI ky a b lo out ia ib)(m:MInv ky a b o ia (ib+1))(n:ib+1≠b.size)(e:lo'<=lo+1):LoI ky a b lo' o ia (ib+1):=by
 obtain⟨_,q1,q2,q4⟩:=w
 exact⟨m,q1,by omega,by omega⟩
theorem LoI.toA {a b out o:Array Keyed}{ia ib lo lo':Nat}(w:LoI ky a b lo out ia ib)(m:MInv ky a b o (ia+1) ib)(n:ia+1+1≠a.size)(e:lo'<=lo+1):LoI ky a b lo' o (ia+1) ib:=by
 obtain⟨_,q1,q2,q4⟩:=w
 exact⟨m,by omega,q2,by omega⟩
theorem LoI.farA {a b out o:Array Keyed}{ia ib lo k:Nat}(w:LoI ky a b lo out ia ib)(m:MInv ky a b o (ia+k) ib)(n:ia+k+1≠a.size)(n':ia+k≠a.size):LoI ky a b lo o (ia+k) ib:=by
 obtain⟨_,q1,q2,q4⟩:=w
 have:=m.hia
 exact⟨m,by omega,q2,by omega⟩
theorem LoI.farB {a b out o:Array Keyed}{ia ib lo k:Nat}(w:LoI ky a b lo out ia ib)(m:MInv ky a b o ia (ib+k))(n:ib+k≠b.size):LoI ky a b lo o ia (ib+k):=by
 obtain⟨_,q1,q2,q4⟩:=w
 have:=m.hib
 exact⟨m,q1,by omega,by omega⟩
theorem Zhg {ask:ZaP prog w A E s κ ky ok}{x:Keyed}{arr:Array Keyed}{base:Nat}{st:SortSt}{Q:Option Nat->SortSt->Prop}(hk:kindOf st=κ)(ox:ok x)(hok:∀ i,i<arr.size->∃ y,arr[i]? = some y/\ok y)(hs:Srt ky arr)(hh:base<arr.size)
  (h:∀ k,base+k<=arr.size->(∀ i,base<=i->i<base+k->kyA ky arr i<=ky x)->(∀ i,base+k<=i->i<arr.size->ky x<=kyA ky arr i)->Q (some k) st):wpS (model prog w) A E s (VY false x arr base (arr.size-base) 0) Q st :=
 Ys ask hk ox (fun i hi=>hok _ (by omega)) (fun i j h1 h2=>hs _ _ (by omega) (by omega)) (by omega) fun k h1 h2 h3=>h k (by omega) (fun i g1 g2=>by
  have:=h2 (i-base) (by omega)
  unfold Bey at this
  rw [if_neg (by decide),show base+(i-base)=i by omega] at this
  exact this) fun i g1 g2=>by
  have:=h3 (i-base) (by omega) (by omega)
  unfold Bey at this
  rw [if_neg (by decide),show base+(i-base)=i by omega] at this
  omega
theorem Zhh {ask:ZaP prog w A E s κ ky ok}{x:Keyed}{arr:Array Keyed}{base:Nat}{st:SortSt}{Q:Option Nat->SortSt->Prop}(hk:kindOf st=κ)(ox:ok x)(hok:∀ i,i<arr.size->∃ y,arr[i]? = some y/\ok y)(hs:Srt ky arr)(hh:base<arr.size)
  (h:∀ k,base+k<=arr.size->(∀ i,base<=i->i<base+k->kyA ky arr i<=ky x)->(∀ i,base+k<=i->i<arr.size->ky x<=kyA ky arr i)->Q (some k) st):wpS (model prog w) A E s (VY true x arr base (arr.size-base) 0) Q st :=
 Ys ask hk ox (fun i hi=>hok _ (by omega)) (fun i j h1 h2=>hs _ _ (by omega) (by omega)) (by omega) fun k h1 h2 h3=>h k (by omega) (fun i g1 g2=>by
  have:=h2 (i-base) (by omega)
  unfold Bey at this
  rw [if_pos rfl,show base+(i-base)=i by omega] at this
  omega) fun i g1 g2=>by
  have:=h3 (i-base) (by omega) (by omega)
  unfold Bey at this
  rw [if_pos rfl,show base+(i-base)=i by omega] at this
  omega
theorem Zaj (ask:ZaP prog w A E s κ ky ok){a b:Array Keyed}{st:SortSt}{Q:Array Keyed->SortSt->Prop}(hk:kindOf st=κ)(oa:∀ i,i<a.size->∃ y,a[i]? = some y/\ok y)(ob:∀ i,i<b.size->∃ y,b[i]? = some y/\ok y)(sa:Srt ky a)(sb:Srt ky b)(ha:1<=a.size)(hb:1<=b.size)
  (h0:kyA ky b 0<=kyA ky a 0) (hl:kyA ky b (b.size-1)<=kyA ky a (a.size-1)) (h:∀ r st',GOnly st st'->Yz ky a b r->Q r st'):wpS (model prog w) A E s (ZeU a b) Q st:=by
 have hL:∀ ia,ia+1=a.size->∀ j,j<b.size->kyA ky b j<=kyA ky a ia:=fun ia e j hj=>by
  rw [show ia=a.size-1 by omega]
  exact Int.le_trans (sb j (b.size-1) (by omega) (by omega)) hl
 refine wpS_bind (wpS_lift (wpAny_rule ⟨rfl,wpS_bind (XW (ob 0 hb) fun b0 eb0 ob0=>?_)⟩))
 have M1:MInv ky a b #[b0] 0 1:=by
  have m0:MInv ky a b #[] 0 0:=⟨by omega,by omega,by simp,by simp,by simp,by simp⟩
  exact m0.pushB eb0 sb fun j _ hj=>Int.le_trans h0 (sa 0 j (by omega) hj)
 clear h0 hl eb0 ob0
 refine ZJ (fun e=>wpS_pure (h _ st (.refl st) (M1.doneA sa sb (.inr e)))) fun n1=>ZJ (fun e=>wpS_pure (h _ st (.refl st) (M1.lastA sa sb e (hL 0 e)))) fun n2=>wpS_bind (wpS_get ?_)
 refine Jz (fun z out ia ib _ st'=>GOnly st st'/\LoI ky a b (z+1) out ia ib) (fun _ _ _ _ _=>False) (fun r st'=>GOnly st st'/\Yz ky a b r) ⟨.refl st,M1,by omega,by omega,by omega⟩ (fun z out ia ib g st' hz W=>?_) (fun out ia ib g st' W=>?_) (fun _ _ _ _ _ W=>W.elim) (fun r q st' W=>wpS_pure (h r st' W.1 W.2))
 rotate_left
 ·have:=W.2.q1
  have:=W.2.q2
  have:=W.2.q4
  omega
 clear h M1 n1 n2 ha hb hz
 refine Jy (fun z' o i j st'=>GOnly st st'/\LoI ky a b (z+1+z') o i j) (fun o i j st'=>GOnly st st'/\LoI ky a b (z+1+1) o i j) (fun r st'=>GOnly st st'/\Yz ky a b r) W (fun z' o i j x y st' hz' W=>?_) (fun o i j st' W=>?_) (fun o i j x y st' W=>?_) (fun r q st' W=>ZO W)
 ·refine wpS_bind (XW (ob j W.2.q2) fun vb eb okb=>wpS_bind (XW (oa i (Nat.lt_of_succ_lt W.2.q1)) fun va ea oka=>wpS_bind (ask _ _ _ _ okb oka (W.1.kind.trans hk) ?_)))
  refine YJ (fun cw=>wpS_bind (ZS eb ?_)) fun cw=>wpS_bind (ZS ea ?_)
  ·have m1:=W.2.m.pushB eb sb fun r h1 h2=>by
    rw [ZN eb]
    refine Int.le_trans (Int.le_of_lt cw) ?_
    rw [<- ZN (ky:=ky) ea]
    exact sa i r h1 h2
   exact ZJ (fun e=>ZO ⟨W.1,m1.doneA sa sb (.inr e)⟩) fun n3=>ZF (fun _=>ZT ⟨W.1,W.2.toB m1 n3 (Nat.succ_le_succ (Nat.le_add_right _ _))⟩) fun _=>ZB ⟨W.1,W.2.toB m1 n3 (Nat.le_refl _)⟩
  ·have m1:=W.2.m.pushA ea sa fun r h1 h2=>by
    rw [ZN ea]
    refine Int.le_trans (Int.not_lt.mp cw) ?_
    rw [<- ZN (ky:=ky) eb]
    exact sb j r h1 h2
   exact ZJ (fun e=>ZO ⟨W.1,m1.lastA sa sb e (hL _ e)⟩) fun n3=>ZF (fun _=>ZT ⟨W.1,W.2.toA m1 n3 (Nat.succ_le_succ (Nat.le_add_right _ _))⟩) fun _=>ZB ⟨W.1,W.2.toA m1 n3 (Nat.le_refl _)⟩
 ·exact⟨W.1,W.2.m,W.2.q1,W.2.q2,by
   have:=W.2.q4
   have:=W.2.q1
   omega⟩
 ·refine wpS_bind (wpS_lift (wpAny_rule ⟨rfl,?_⟩))
  refine Jx (fun o i j st'=>GOnly st st'/\LoI ky a b (z+1+1) o i j) (fun r st'=>GOnly st st'/\Yz ky a b r) W (fun _ o i j g x y st' W=>?_) (fun o i j g x y st' W=>wpS_bind (wpS_modify (ZB ⟨W.1.set _,W.2⟩))) (fun r q st' W=>ZO W)
  extract_lets s1 o' s2 i' s3 j' s4 g' s5 x' y' j1 jp
  replace W:GOnly st st'/\LoI ky a b (z+1+1) o' i' j':=W
  refine Zbu jp (fun g=>?_) fun key=>?_
  rotate_left
  ·clear_value jp
   exact ZF (fun _=>key _) fun _=>key _
  have g1:=W.1.set g
  have W:=W.2
  clear_value s1 o' s2 i' s3 j' s4 g' s5 x' y'
  refine wpS_bind (wpS_modify (wpS_bind (XW (ob j' W.q2) fun vb eb okb=>wpS_bind (Zhg (ask:=ask) (g1.kind.trans hk) okb oa sa (Nat.lt_of_succ_lt W.q1) fun k hk1 hk2 hk3=>?_))))
  rw [<- ZN (ky:=ky) eb] at hk2 hk3
  clear jp
  dsimp (zeta:=false) only
  extract_lets ac jp
  refine UK jp (fun o i=>LoI ky a b (z+1+1) o i j'/\∀ r,i<=r->r<a.size->kyA ky b j'<=kyA ky a r) (fun o i W=>?_) fun key=>?_
  rotate_left
  ·clear_value jp
   refine ZF (fun k0=>?_) fun k0=>key _ _ ⟨W,fun r h1 h2=>hk3 r (by omega) h2⟩
   have m1:=W.m.takeA k hk1 sa fun r l h1 h2 h3 h4=>Int.le_trans (hk2 r h1 h2) (sb j' l h3 h4)
   exact ZJ (fun e=>ZO ⟨g1,m1.lastA sa sb e (hL _ e)⟩) fun n3=>ZJ (fun e=>ZO ⟨g1,m1.doneA sa sb (.inl e)⟩) fun n4=>key _ _ ⟨W.farA m1 n3 n4,hk3⟩
  clear hk1 hk2 hk3
  refine wpS_bind (ZS eb ?_)
  have m2:=W.1.m.pushB eb sb W.2
  refine ZJ (fun e=>ZO ⟨g1,m2.doneA sa sb (.inr e)⟩) fun n5=>?_
  have W:=W.1.toB m2 n5 (Nat.le_refl _)
  clear m2 n5
  refine wpS_bind (XW (oa i (Nat.lt_of_succ_lt W.q1)) fun va ea oka=>wpS_bind (Zhh (ask:=ask) (g1.kind.trans hk) oka ob sb W.q2 fun k' hk1 hk2 hk3=>?_))
  rw [<- ZN (ky:=ky) ea] at hk2 hk3
  dsimp (zeta:=false) only
  extract_lets bc i1 jp
  refine UK jp (fun o j=>LoI ky a b (z+1+1+1) o i j/\∀ r,j<=r->r<b.size->kyA ky a i<=kyA ky b r) (fun o j W=>?_) fun key=>?_
  rotate_left
  ·clear_value jp
   refine ZF (fun k0=>?_) fun k0=>key _ _ ⟨W,fun r h1 h2=>hk3 r (by omega) h2⟩
   have m1:=W.m.takeB k' hk1 sb fun r l h1 h2 h3 h4=>Int.le_trans (hk2 r h1 h2) (sa i l h3 h4)
   exact ZJ (fun e=>ZO ⟨g1,m1.doneA sa sb (.inr e)⟩) fun n4=>key _ _ ⟨W.farB m1 n4,hk3⟩
  refine wpS_bind (ZS ea ?_)
  have m4:=W.1.m.pushA ea sa W.2
  exact ZJ (fun e=>ZO ⟨g1,m4.lastA sa sb e (hL _ e)⟩) fun n7=>ZF (fun _=>ZT ⟨g1,W.1.toA m4 n7 (by omega)⟩) fun _=>ZB ⟨g1,W.1.toA m4 n7 (by omega)⟩
structure HInv (ky:Keyed->Int)(a b out:Array Keyed)(na nb:Nat):Prop where
 hna:na<=a.size
 hnb:nb<=b.size
 pm:out.toList.Perm (a.toList.drop na++b.toList.drop nb)
 so:out.toList.Pairwise (fun x y=>LeK ky y x)
 ua:∀ x∈out.toList,∀ y∈a.toList.take na,LeK ky y x
 ub:∀ x∈out.toList,∀ y∈b.toList.take nb,LeK ky y x
theorem ZeW {l:List Keyed}{x:Keyed}{k:Nat}(h:x∈l.take k):∃ j,j<k/\l[j]? = some x:=by
 obtain⟨j,hj⟩:=List.mem_iff_getElem?.mp h
 rw [List.getElem?_take] at hj
 by_cases c:j<k
 ·rw [if_pos c] at hj
  exact⟨j,c,hj⟩
 ·rw [if_neg c] at hj;cases hj
theorem Xi (a:Array Keyed){i n:Nat}(h:i<=n):(a.extract i n).toList=(a.toList.drop i).take (n-i):=by
 have:=Wv a i (n-i)
 rwa [show i+(n-i)=n by omega] at this
theorem HInv.takeA {a b out:Array Keyed}{na nb:Nat}(m:HInv ky a b out na nb)(i:Nat)(hi:i<=na)(sa:Srt ky a)(hb:∀ k j,i<=k->k<na->j<nb->kyA ky b j<=kyA ky a k):HInv ky a b (out++(a.extract i na).reverse) i nb:=by
 have hna:=m.hna
 have e1:a.toList.take na=a.toList.take i++(a.toList.drop i).take (na-i):=by
  have:=List.take_add (l:=a.toList) (i:=i) (j:=na-i)
  rwa [show i+(na-i)=na by omega] at this
 have e2:a.toList.drop i=(a.toList.drop i).take (na-i)++a.toList.drop na:=by
  have:=List.take_append_drop (na-i) (a.toList.drop i)
  rw [List.drop_drop,show i+(na-i)=na by omega] at this
  exact this.symm
 have pd:(a.toList.take na).Pairwise (LeK ky):=sa.pw.sublist (List.take_sublist ..)
 rw [e1,List.pairwise_append] at pd
 refine⟨by omega,m.hnb,?_,?_,?_,?_⟩<;>rw [Array.toList_append,Array.toList_reverse,Xi a hi]
 ·refine (List.perm_append_comm.trans (((List.reverse_perm _).append m.pm).trans ?_))
  rw [<- List.append_assoc,<- e2]
 ·rw [List.pairwise_append,List.pairwise_reverse]
  refine⟨m.so,pd.2.1,fun x hx y hy=>?_⟩
  rw [List.mem_reverse] at hy
  exact m.ua x hx y (by rw [e1];exact List.mem_append_right _ hy)
 ·intro x hx y hy
  rcases List.mem_append.mp hx with z | z
  ·exact m.ua x z y (by rw [e1];exact List.mem_append_left _ hy)
  ·rw [List.mem_reverse] at z
   exact pd.2.2 y hy x z
 ·intro x hx y hy
  rcases List.mem_append.mp hx with z | z
  ·exact m.ub x z y hy
  ·rw [List.mem_reverse] at z
   obtain⟨k,i1,i2,i3⟩:=Vt z
   obtain⟨j,j1,j2⟩:=ZeW hy
   have:=hb k j i1 (by omega) j1
   rw [WW i3,WW j2] at this
   exact this
theorem HInv.swap {a b out:Array Keyed}{na nb:Nat}(m:HInv ky a b out na nb):HInv ky b a out nb na:=⟨m.hnb,m.hna,m.pm.trans List.perm_append_comm,m.so,m.ub,m.ua⟩
theorem HInv.takeB {a b out:Array Keyed}{na nb:Nat}(m:HInv ky a b out na nb)(i:Nat)(hi:i<=nb)(sb:Srt ky b)(hb:∀ k j,i<=k->k<nb->j<na->kyA ky a j<=kyA ky b k):HInv ky a b (out++(b.extract i nb).reverse) na i:=(m.swap.takeA i hi sb hb).swap
theorem Zc1 {a out:Array Keyed}{n:Nat}{x:Keyed}(h:a[n]? = some x):out.push x=out++(a.extract n (n+1)).reverse:=by
 rw [JT h]
 congr 1
 apply Array.ext'
 rw [Array.toList_reverse,Wv]
 have hl:a.toList[n]? = some x:=by rw [Array.getElem?_toList];exact h
 obtain⟨hi,e⟩:=List.getElem?_eq_some_iff.mp hl
 rw [List.drop_eq_getElem_cons hi,e]
 rfl
theorem HInv.pushA {a b out:Array Keyed}{na nb:Nat}{x:Keyed}(m:HInv ky a b out na nb)(h1:1<=na)(hx:a[na-1]? = some x)(sa:Srt ky a)(hb:∀ j,j<nb->kyA ky b j<=kyA ky a (na-1)):HInv ky a b (out.push x) (na-1) nb:=by
 rw [Zc1 hx]
 have:=m.takeA (na-1) (by omega) sa fun k j g1 g2 g3=>by rw [show k=na-1 by omega];exact hb j g3
 rwa [show na-1+1=na by omega]
theorem HInv.pushB {a b out:Array Keyed}{na nb:Nat}{x:Keyed}(m:HInv ky a b out na nb)(h1:1<=nb)(hx:b[nb-1]? = some x)(sb:Srt ky b)(hb:∀ j,j<na->kyA ky a j<=kyA ky b (nb-1)):HInv ky a b (out.push x) na (nb-1):=(m.swap.pushA h1 hx sb hb).swap
theorem HInv.done {a b out:Array Keyed}(m:HInv ky a b out 0 0):Yz ky a b out.reverse:=by
 refine⟨?_,JG ?_⟩
 ·rw [Array.toList_reverse]
  exact (List.reverse_perm _).trans m.pm
 ·rw [Array.toList_reverse,List.pairwise_reverse]
  exact m.so
theorem HInv.doneA {a b out:Array Keyed}{na nb:Nat}(m:HInv ky a b out na nb)(sa:Srt ky a)(sb:Srt ky b)(h:na=0\/nb=0):Yz ky a b (a.extract 0 na++b.extract 0 nb++out.reverse):=by
 have m2:=((m.takeB 0 (by omega) sb fun k j g1 g2 g3=>by omega).takeA 0 (by omega) sa fun k j g1 g2 g3=>by omega).done
 rwa [Array.reverse_append,Array.reverse_append,Array.reverse_reverse,Array.reverse_reverse,<- Array.append_assoc] at m2
theorem HInv.firstB {a b out:Array Keyed}{na nb:Nat}(m:HInv ky a b out na nb)(sa:Srt ky a)(sb:Srt ky b)(h:nb=1)(h0:kyA ky b 0<=kyA ky a 0):Yz ky a b (b.extract 0 nb++a.extract 0 na++out.reverse):=by
 have hna:=m.hna
 have m2:=((m.takeA 0 (by omega) sa fun k j g1 g2 g3=>by rw [show j=0 by omega];exact Int.le_trans h0 (sa 0 k (by omega) (by omega))).takeB 0 (by omega) sb fun k j g1 g2 g3=>by omega).done
 rwa [Array.reverse_append,Array.reverse_append,Array.reverse_reverse,Array.reverse_reverse,<- Array.append_assoc] at m2
structure HiI (ky:Keyed->Int)(a b:Array Keyed)(lo:Nat)(na nb:Nat)(out:Array Keyed):Prop where
 m:HInv ky a b out na nb
 q1:0<na
 q2:1<nb
 q4:lo+na+nb<=a.size+b.size
theorem HiI.toB {a b out o:Array Keyed}{na nb lo lo':Nat}(w:HiI ky a b lo na nb out)(m:HInv ky a b o na (nb-1))(n:nb-1≠1)(e:lo'<=lo+1):HiI ky a b lo' na (nb-1) o:=by
 obtain⟨_,q1,q2,q4⟩:=w
 exact⟨m,q1,by omega,by omega⟩
theorem HiI.toA {a b out o:Array Keyed}{na nb lo lo':Nat}(w:HiI ky a b lo na nb out)(m:HInv ky a b o (na-1) nb)(n:na-1≠0)(e:lo'<=lo+1):HiI ky a b lo' (na-1) nb o:=by
 obtain⟨_,q1,q2,q4⟩:=w
 exact⟨m,by omega,q2,by omega⟩
theorem HiI.farA {a b out o:Array Keyed}{na nb lo k:Nat}(w:HiI ky a b lo na nb out)(m:HInv ky a b o k nb)(n:k≠0)(h:k<=na):HiI ky a b lo k nb o:=by
 obtain⟨_,q1,q2,q4⟩:=w
 exact⟨m,by omega,q2,by omega⟩
theorem HiI.farB {a b out o:Array Keyed}{na nb lo k:Nat}(w:HiI ky a b lo na nb out)(m:HInv ky a b o na k)(n:k≠1)(n':k≠0)(h:k<=nb):HiI ky a b lo na k o:=by
 obtain⟨_,q1,q2,q4⟩:=w
 exact⟨m,q1,by omega,by omega⟩
theorem HiI.la {a b out:Array Keyed}{na nb lo:Nat}(w:HiI ky a b lo na nb out):na-1<a.size:=by
 have:=w.m.hna
 have:=w.q1
 omega
theorem HiI.lb {a b out:Array Keyed}{na nb lo:Nat}(w:HiI ky a b lo na nb out):nb-1<b.size:=by
 have:=w.m.hnb
 have:=w.q2
 omega
theorem Zfd {ask:ZaP prog w A E s κ ky ok}{x:Keyed}{arr:Array Keyed}{n:Nat}{st:SortSt}{Q:Option Nat->SortSt->Prop}(hk:kindOf st=κ)(ox:ok x)(hok:∀ i,i<arr.size->∃ y,arr[i]? = some y/\ok y)(hs:Srt ky arr)(hh:0<n)(hn:n<=arr.size)
  (h:∀ k,k<=n->(∀ i,i<k->kyA ky arr i<=ky x)->(∀ i,k<=i->i<n->ky x<=kyA ky arr i)->Q (some k) st):wpS (model prog w) A E s (VY false x arr 0 n (n-1)) Q st :=
 Ys ask hk ox (fun i hi=>hok _ (by omega)) (fun i j h1 h2=>hs _ _ (by omega) (by omega)) (by omega) fun k h1 h2 h3=>h k h1 (fun i g1=>by
  have:=h2 i g1
  unfold Bey at this
  rw [if_neg (by decide),Nat.zero_add] at this
  exact this) fun i g1 g2=>by
  have:=h3 i g1 g2
  unfold Bey at this
  rw [if_neg (by decide),Nat.zero_add] at this
  omega
theorem Zfe {ask:ZaP prog w A E s κ ky ok}{x:Keyed}{arr:Array Keyed}{n:Nat}{st:SortSt}{Q:Option Nat->SortSt->Prop}(hk:kindOf st=κ)(ox:ok x)(hok:∀ i,i<arr.size->∃ y,arr[i]? = some y/\ok y)(hs:Srt ky arr)(hh:0<n)(hn:n<=arr.size)
  (h:∀ k,k<=n->(∀ i,i<k->kyA ky arr i<=ky x)->(∀ i,k<=i->i<n->ky x<=kyA ky arr i)->Q (some k) st):wpS (model prog w) A E s (VY true x arr 0 n (n-1)) Q st :=
 Ys ask hk ox (fun i hi=>hok _ (by omega)) (fun i j h1 h2=>hs _ _ (by omega) (by omega)) (by omega) fun k h1 h2 h3=>h k h1 (fun i g1=>by
  have:=h2 i g1
  unfold Bey at this
  rw [if_pos rfl,Nat.zero_add] at this
  omega) fun i g1 g2=>by
  have:=h3 i g1 g2
  unfold Bey at this
  rw [if_pos rfl,Nat.zero_add] at this
  omega
theorem Zak (ask:ZaP prog w A E s κ ky ok){a b:Array Keyed}{st:SortSt}{Q:Array Keyed->SortSt->Prop}(hk:kindOf st=κ)(oa:∀ i,i<a.size->∃ y,a[i]? = some y/\ok y)(ob:∀ i,i<b.size->∃ y,b[i]? = some y/\ok y)(sa:Srt ky a)(sb:Srt ky b)(ha:1<=a.size)(hb:1<=b.size)
  (h0:kyA ky b 0<=kyA ky a 0) (hl:kyA ky b (b.size-1)<=kyA ky a (a.size-1)) (h:∀ r st',GOnly st st'->Yz ky a b r->Q r st'):wpS (model prog w) A E s (ZeV a b) Q st:=by
 refine wpS_bind (wpS_lift (wpAny_rule ⟨rfl,wpS_bind (XW (oa (a.size-1) (by omega)) fun a0 ea0 oa0=>?_)⟩))
 have M1:HInv ky a b #[a0] (a.size-1) b.size:=by
  have m0:HInv ky a b #[] a.size b.size:=⟨by omega,by omega,by simp,by simp,by simp,by simp⟩
  exact m0.pushA ha ea0 sa fun j hj=>Int.le_trans (sb j (b.size-1) (by omega) (by omega)) hl
 clear hl ea0 oa0
 refine ZJ (fun e=>wpS_pure (h _ st (.refl st) (M1.doneA sa sb (.inl e)))) fun n1=>ZJ (fun e=>wpS_pure (h _ st (.refl st) (M1.firstB sa sb e h0))) fun n2=>wpS_bind (wpS_get ?_)
 refine Jz (fun z na nb out _ st'=>GOnly st st'/\HiI ky a b (z+1) na nb out) (fun _ _ _ _ _=>False) (fun r st'=>GOnly st st'/\Yz ky a b r) ⟨.refl st,M1,by omega,by omega,by omega⟩ (fun z na nb out g st' hz W=>?_) (fun na nb out g st' W=>?_) (fun _ _ _ _ _ W=>W.elim) (fun r q st' W=>wpS_pure (h r st' W.1 W.2))
 rotate_left
 ·have:=W.2.q1
  have:=W.2.q2
  have:=W.2.q4
  omega
 clear h M1 n1 n2 ha hb hz
 refine Jy (fun z' na nb o st'=>GOnly st st'/\HiI ky a b (z+1+z') na nb o) (fun na nb o st'=>GOnly st st'/\HiI ky a b (z+1+1) na nb o) (fun r st'=>GOnly st st'/\Yz ky a b r) W (fun z' na nb o x y st' hz' W=>?_) (fun na nb o st' W=>?_) (fun na nb o x y st' W=>?_) (fun r q st' W=>ZO W)
 ·refine wpS_bind (XW (ob (nb-1) W.2.lb) fun vb eb okb=>wpS_bind (XW (oa (na-1) W.2.la) fun va ea oka=>wpS_bind (ask _ _ _ _ okb oka (W.1.kind.trans hk) ?_)))
  have la:=W.2.la
  have lb:=W.2.lb
  refine YJ (fun cw=>wpS_bind (ZS ea ?_)) fun cw=>wpS_bind (ZS eb ?_)
  ·have m1:=W.2.m.pushA W.2.q1 ea sa fun r h1=>by
    rw [ZN ea]
    refine Int.le_trans ?_ (Int.le_of_lt cw)
    rw [<- ZN (ky:=ky) eb]
    exact sb r (nb-1) (Nat.le_sub_one_of_lt h1) lb
   exact ZJ (fun e=>ZO ⟨W.1,m1.doneA sa sb (.inl e)⟩) fun n3=>ZF (fun _=>ZT ⟨W.1,W.2.toA m1 n3 (Nat.succ_le_succ (Nat.le_add_right _ _))⟩) fun _=>ZB ⟨W.1,W.2.toA m1 n3 (Nat.le_refl _)⟩
  ·have m1:=W.2.m.pushB (Nat.le_of_lt W.2.q2) eb sb fun r h1=>by
    rw [ZN eb]
    refine Int.le_trans ?_ (Int.not_lt.mp cw)
    rw [<- ZN (ky:=ky) ea]
    exact sa r (na-1) (Nat.le_sub_one_of_lt h1) la
   exact ZJ (fun e=>ZO ⟨W.1,m1.firstB sa sb e h0⟩) fun n3=>ZF (fun _=>ZT ⟨W.1,W.2.toB m1 n3 (Nat.succ_le_succ (Nat.le_add_right _ _))⟩) fun _=>ZB ⟨W.1,W.2.toB m1 n3 (Nat.le_refl _)⟩
 ·exact⟨W.1,W.2.m,W.2.q1,W.2.q2,by
   have:=W.2.q4
   have:=W.2.q1
   have:=W.2.m.hna
   omega⟩
 ·refine wpS_bind (wpS_lift (wpAny_rule ⟨rfl,?_⟩))
  refine Jx (fun na nb o st'=>GOnly st st'/\HiI ky a b (z+1+1) na nb o) (fun r st'=>GOnly st st'/\Yz ky a b r) W (fun _ na nb o g x y st' W=>?_) (fun na nb o g x y st' W=>wpS_bind (wpS_modify (ZB ⟨W.1.set _,W.2⟩))) (fun r q st' W=>ZO W)
  extract_lets s1 i' s2 j' s3 o' s4 g' s5 x' y' j1 jp
  replace W:GOnly st st'/\HiI ky a b (z+1+1) i' j' o':=W
  refine Zbu jp (fun g=>?_) fun key=>?_
  rotate_left
  ·clear_value jp
   exact ZF (fun _=>key _) fun _=>key _
  have g1:=W.1.set g
  have W:=W.2
  clear_value s1 o' s2 i' s3 j' s4 g' s5 x' y'
  refine wpS_bind (wpS_modify (wpS_bind (XW (ob (j' - 1) W.lb) fun vb eb okb=>wpS_bind (Zfd (ask:=ask) (g1.kind.trans hk) okb oa sa W.q1 W.m.hna fun k hk1 hk2 hk3=>?_))))
  rw [<- ZN (ky:=ky) eb] at hk2 hk3
  have lb:=W.lb
  clear jp
  dsimp (zeta:=false) only
  extract_lets kk ac jp
  refine UK jp (fun i o=>HiI ky a b (z+1+1) i j' o/\∀ r,r<i->kyA ky a r<=kyA ky b (j' - 1)) (fun i o W=>?_) fun key=>?_
  rotate_left
  ·clear_value jp
   refine ZF (fun k0=>?_) fun k0=>key _ _ ⟨W,fun r h1=>hk2 r (by have:¬ i' - k>0:=k0;omega)⟩
   have m1:=W.m.takeA k hk1 sa fun r l h1 h2 h3=>Int.le_trans (sb l (j' - 1) (Nat.le_sub_one_of_lt h3) lb) (hk3 r h1 h2)
   exact ZJ (fun e=>ZO ⟨g1,m1.doneA sa sb (.inl e)⟩) fun n4=>key _ _ ⟨W.farA m1 n4 hk1,hk2⟩
  clear hk1 hk2 hk3
  refine wpS_bind (ZS eb ?_)
  have m2:=W.1.m.pushB (Nat.le_of_lt W.1.q2) eb sb W.2
  refine ZJ (fun e=>ZO ⟨g1,m2.firstB sa sb e h0⟩) fun n5=>?_
  have W:=W.1.toB m2 n5 (Nat.le_refl _)
  clear m2 n5
  refine wpS_bind (XW (oa (i-1) W.la) fun va ea oka=>wpS_bind (Zfe (ask:=ask) (g1.kind.trans hk) oka ob sb (Nat.lt_of_succ_lt W.q2) W.m.hnb fun k' hk1 hk2 hk3=>?_))
  rw [<- ZN (ky:=ky) ea] at hk2 hk3
  have la:=W.la
  dsimp (zeta:=false) only
  extract_lets kk' bc i1 jp
  refine UK jp (fun j o=>HiI ky a b (z+1+1+1) i j o/\∀ r,r<j->kyA ky b r<=kyA ky a (i-1)) (fun j o W=>?_) fun key=>?_
  rotate_left
  ·clear_value jp
   refine ZF (fun k0=>?_) fun k0=>key _ _ ⟨W,fun r h1=>hk2 r (by have:¬ j' - 1-k' > 0:=k0;have:r<j' - 1:=h1;omega)⟩
   have m1:=W.m.takeB k' hk1 sb fun r l h1 h2 h3=>Int.le_trans (sa l (i-1) (Nat.le_sub_one_of_lt h3) la) (hk3 r h1 h2)
   exact ZJ (fun e=>ZO ⟨g1,m1.firstB sa sb e h0⟩) fun n4=>ZJ (fun e=>ZO ⟨g1,m1.doneA sa sb (.inr e)⟩) fun n5=>key _ _ ⟨W.farB m1 n4 n5 hk1,hk2⟩
  refine wpS_bind (ZS ea ?_)
  have m4:=W.1.m.pushA W.1.q1 ea sa W.2
  exact ZJ (fun e=>ZO ⟨g1,m4.doneA sa sb (.inl e)⟩) fun n7=>ZF (fun _=>ZT ⟨g1,W.1.toA m4 n7 (by omega)⟩) fun _=>ZB ⟨g1,W.1.toA m4 n7 (by omega)⟩
theorem Zgt {st st':SortSt}{Q:PUnit->SortSt->Prop}(h:Q ⟨⟩ st'):wpS (model prog w) A E s (set st':StateT SortSt Sem PUnit) Q st:=by
 unfold wpS
 rw [StateT.run_set]
 exact wpAny_pure ⟨rfl,h⟩
theorem Zv {xs ys:Array Keyed}{i j:Nat}(h:xs[i]? = ys[j]?):kyA ky xs i=kyA ky ys j:=by
 unfold kyA
 rw [Array.getD_eq_getD_getElem?,Array.getD_eq_getD_getElem?,h]
noncomputable def Seg (ky:Keyed->Int)(a:Array Keyed)(lo hi:Nat):Prop:=∀ i j,lo<=i->i<=j->j<hi->kyA ky a i<=kyA ky a j
theorem Seg.congr {a a':Array Keyed}{lo hi:Nat}(h:Seg ky a lo hi)(e:∀ j,lo<=j->j<hi->a'[j]? = a[j]?):Seg ky a' lo hi:=fun i j h1 h2 h3=>by
 rw [Zv (e i h1 (by omega)),Zv (e j (by omega) h3)]
 exact h i j h1 h2 h3
structure Bs (κ:SortKind)(a₀:Array Keyed)(st:SortSt):Prop where
 perm:(arrOf st).toList.Perm a₀.toList
 kind:kindOf st=κ
 failed:failedOf st=none
variable {a₀:Array Keyed}
theorem Bs.size {st:SortSt}(h:Bs κ a₀ st):(arrOf st).size=a₀.size:=by
 have:=h.perm.length_eq
 simpa using this
theorem Bs.at {st:SortSt}(h:Bs κ a₀ st)(h0:∀ x∈a₀.toList,ok x)(i:Nat)(hi:i<a₀.size):∃ y,(arrOf st)[i]? = some y/\ok y:=by
 have hi':i<(arrOf st).size:=by rw [h.size];exact hi
 refine⟨(arrOf st)[i],getElem?_pos _ i hi',h0 _ (h.perm.mem_iff.mp ?_)⟩
 simp
theorem Bs.set {st:SortSt}(h:Bs κ a₀ st){xs:Array Keyed}(p:xs.toList.Perm (arrOf st).toList):Bs κ a₀ (setArr st xs):=⟨p.trans h.perm,h.kind,h.failed⟩
theorem Bs.pend {st:SortSt}(h:Bs κ a₀ st)(p:Array (Nat×Nat×Nat)):Bs κ a₀ (setPending st p):=⟨h.perm,h.kind,h.failed⟩
theorem Xr (o:Nat):∀ (l:List Keyed) (n:Nat) (a:Array Keyed),o+n+l.length<=a.size->∀ j,
  ((l.zipIdx n).foldl (fun a (p:Keyed×Nat)=>a.setIfInBounds (o+p.2) p.1) a)[j]? = if o+n<=j/\j<o+n+l.length then l[j-(o+n)]? else a[j]?
 | [],n,a,h,j=>by
  rw [List.zipIdx_nil,List.foldl_nil,if_neg (by simp only [List.length_nil];omega)]
 | x::l,n,a,h,j=>by
  simp only [List.length_cons] at h
  rw [List.zipIdx_cons,List.foldl_cons,Xr o l (n+1) _ (by rw [Array.size_setIfInBounds];omega) j]
  simp only [List.length_cons]
  by_cases c:o+(n+1)<=j/\j<o+(n+1)+l.length
  ·rw [if_pos c,if_pos (by omega),show j-(o+n)=(j-(o+(n+1)))+1 by omega,List.getElem?_cons_succ]
  ·rw [if_neg c]
   by_cases e:j=o+n
   ·subst e
    rw [if_pos (by omega),Nat.sub_self,List.getElem?_cons_zero,Array.getElem?_setIfInBounds,if_pos rfl,if_pos (by omega)]
   ·rw [if_neg (by omega),Array.getElem?_setIfInBounds,if_neg (by omega)]
theorem Zdw {a r:Array Keyed}{o:Nat}(h:o+r.size<=a.size):(r.toList.zipIdx.foldl (fun a (p:Keyed×Nat)=>a.setIfInBounds (o+p.2) p.1) a).toList=a.toList.take o++r.toList++a.toList.drop (o+r.size):=by
 apply List.ext_getElem?
 intro j
 have e:=Xr o r.toList 0 a (by simpa using h) j
 rw [Array.getElem?_toList,e]
 simp only [Array.length_toList,Nat.add_zero,List.getElem?_append,List.length_append,List.length_take,Nat.min_eq_left (show o<=a.size by omega)]
 by_cases c:o<=j/\j<o+r.size
 ·rw [if_pos c,if_pos (by omega),if_neg (by omega)]
 ·rw [if_neg c]
  by_cases d:j<o
  ·rw [if_pos (by omega),if_pos d,List.getElem?_take,if_pos d,Array.getElem?_toList]
  ·rw [if_neg (by omega),List.getElem?_drop,Array.getElem?_toList]
   congr 1;omega
theorem Zfq (l:List Keyed){i j k:Nat}(h1:i<=j)(h2:j<=k):l=l.take i++((l.drop i).take (j-i)++(l.drop j).take (k-j))++l.drop k:=by
 have e1:∀ {i j:Nat},i<=j->l.drop i=(l.drop i).take (j-i)++l.drop j:=fun {i j} h=>by
  have:=List.take_append_drop (j-i) (l.drop i)
  rw [List.drop_drop,show i+(j-i)=j by omega] at this
  exact this.symm
 have e2:l.take i++l.drop i=l:=List.take_append_drop i l
 calc l=l.take i++l.drop i:=e2.symm
  _=_:=by rw [List.append_assoc,List.append_assoc,<- e1 h2,<- e1 h1]
structure MAt (ky:Keyed->Int)(a a':Array Keyed)(lo hi:Nat):Prop where
 perm:a'.toList.Perm a.toList
 out:∀ j,j<lo\/hi<=j->a'[j]? = a[j]?
 seg:Seg ky a' lo hi
theorem ZgM {f g F:Nat->Int}{lo p q hi:Nat}(h2:∀ j,p<=j->j<q->F j=g (j-p))(h1:∀ j,j<p->F j=f j)(h3:∀ j,q<=j->F j=f j)(sg:∀ i j,i<=j->j<q-p->g i<=g j)(s1:∀ i j,lo<=i->i<=j->j<p->f i<=f j)(s3:∀ i j,q<=i->i<=j->j<hi->f i<=f j)(s12:∀ i,i<q-p->∀ j,lo<=j->j<p->f j<=g i)(s23:∀ i,i<q-p->∀ j,q<=j->j<hi->g i<=f j)(pq:p<q)(i j:Nat)(g1:lo<=i)(g2:i<=j)(g3:j<hi):F i<=F j:=by
 by_cases ci:i<p
 ·rw [h1 i ci]
  by_cases cj:j<p
  ·rw [h1 j cj];exact s1 i j g1 g2 cj
  ·by_cases dj:j<q
   ·rw [h2 j (Nat.le_of_not_lt cj) dj];exact s12 _ (Nat.sub_lt_sub_right (Nat.le_of_not_lt cj) dj) i g1 ci
   ·rw [h3 j (Nat.le_of_not_lt dj)];exact Int.le_trans (s12 0 (Nat.sub_pos_of_lt pq) i g1 ci) (s23 0 (Nat.sub_pos_of_lt pq) j (Nat.le_of_not_lt dj) g3)
 ·have ci:=Nat.le_of_not_lt ci
  by_cases di:i<q
  ·rw [h2 i ci di]
   by_cases dj:j<q
   ·rw [h2 j (Nat.le_trans ci g2) dj];exact sg _ _ (Nat.sub_le_sub_right g2 _) (Nat.sub_lt_sub_right (Nat.le_trans ci g2) dj)
   ·rw [h3 j (Nat.le_of_not_lt dj)];exact s23 _ (Nat.sub_lt_sub_right ci di) j (Nat.le_of_not_lt dj) g3
  ·have di:=Nat.le_of_not_lt di
   rw [h3 i di,h3 j (Nat.le_trans di g2)];exact s3 i j di g2 g3
theorem MAt.put {a x y r:Array Keyed}{sa k sb nb nb':Nat}(sA:Seg ky a sa sb)(sB:Seg ky a sb (sb+nb))(hk:sa+k<sb)(hn:1<=nb')(hn':nb'<=nb)(hs:sb+nb<=a.size)
  (l1:∀ i,i<k->kyA ky a (sa+i)<=kyA ky a sb) (l2:∀ i,nb'<=i->i<nb->kyA ky a (sb-1)<=kyA ky a (sb+i)) (ex:x=a.extract (sa+k) sb) (ey:y=a.extract sb (sb+nb')) (m:Yz ky x y r) :
  MAt ky a (r.toList.zipIdx.foldl (fun a (p:Keyed×Nat)=>a.setIfInBounds (sa+k+p.2) p.1) a) sa (sb+nb):=by
 have rs:r.size=(sb-(sa+k))+nb':=by
  have:=m.1.length_eq
  subst ex ey
  simp only [Array.length_toList,List.length_append,Array.size_extract] at this
  omega
 have g:=Xr (sa+k) r.toList 0 a (by simp only [Array.length_toList];omega)
 have inn:∀ j,sa+k<=j->j<sb+nb'->kyA ky (r.toList.zipIdx.foldl (fun a (p:Keyed×Nat)=>a.setIfInBounds (sa+k+p.2) p.1) a) j=kyA ky r (j-(sa+k)):=fun j h1 h2=>by
  refine Zv ?_
  rw [g j,if_pos (by simp only [Array.length_toList];omega),Array.getElem?_toList]
  rfl
 have out:∀ j,j<sa+k\/sb+nb'<=j->(r.toList.zipIdx.foldl (fun a (p:Keyed×Nat)=>a.setIfInBounds (sa+k+p.2) p.1) a)[j]? = a[j]? := fun j h1=>by
  rw [g j,if_neg (by simp only [Array.length_toList];omega)]
 have one:∀ i,i<r.size->(∃ j,sa+k<=j/\j<sb/\kyA ky r i=kyA ky a j)\/(∃ j,sb<=j/\j<sb+nb'/\kyA ky r i=kyA ky a j):=fun i hi=>by
  have hm:r[i]∈x.toList++y.toList:=m.1.mem_iff.mp (by simp)
  rw [ZN (getElem?_pos r i hi)]
  rcases List.mem_append.mp hm with h | h
  ·rw [ex,Xi a (by omega)] at h
   obtain⟨j,j1,j2,j3⟩:=Vt h
   exact .inl ⟨j,j1,by omega,(WW j3).symm⟩
  ·rw [ey,Xi a (by omega)] at h
   obtain⟨j,j1,j2,j3⟩:=Vt h
   exact .inr ⟨j,j1,by omega,(WW j3).symm⟩
 refine⟨?_,fun j h=>out j (by omega),?_⟩
 ·rw [Zdw (by omega)]
  have c:=Zfq a.toList (i:=sa+k) (j:=sb) (k:=sb+nb') (by omega) (by omega)
  have p:=m.1
  rw [ex,ey,Xi a (by omega),Xi a (by omega)] at p
  rw [show sa+k+r.size=sb+nb' by omega]
  conv=>rhs;rw [c]
  exact (p.append_left _).append_right _
 ·have hd:∀ i,i<r.size->∀ j,sa<=j->j<sa+k->kyA ky a j<=kyA ky r i:=fun i hi j h1 h2=>by
   rcases one i hi with ⟨q,q1,q2,q3⟩ | ⟨q,q1,q2,q3⟩
   ·rw [q3];exact sA j q h1 (by omega) q2
   ·rw [q3]
    have:=l1 (j-sa) (by omega)
    rw [show sa+(j-sa)=j by omega] at this
    exact Int.le_trans this (sB sb q (by omega) (by omega) (by omega))
  have tl:∀ i,i<r.size->∀ j,sb+nb'<=j->j<sb+nb->kyA ky r i<=kyA ky a j:=fun i hi j h1 h2=>by
   rcases one i hi with ⟨q,q1,q2,q3⟩ | ⟨q,q1,q2,q3⟩
   ·rw [q3]
    have:=l2 (j-sb) (by omega) (by omega)
    rw [show sb+(j-sb)=j by omega] at this
    exact Int.le_trans (sA q (sb-1) (by omega) (by omega) (by omega)) this
   ·rw [q3];exact sB q j q1 (by omega) h2
  have rz:r.size=sb+nb' - (sa+k):=by clear hd tl one inn out g;omega
  have pq:sa+k<sb+nb':=Nat.lt_of_lt_of_le hk (Nat.le_add_right _ _)
  rw [rz] at hd tl
  exact ZgM inn (fun j h=>Zv (out j (.inl h))) (fun j h=>Zv (out j (.inr h))) (fun i j h1 h2=>m.2 i j h1 (by rw [rz];exact h2)) (fun i j h1 h2 h3=>sA i j h1 h2 (Nat.lt_trans h3 hk)) (fun i j h1 h2 h3=>sB i j (Nat.le_trans (Nat.le_add_right _ _) h1) h2 h3) hd tl pq
theorem Seg.join {a:Array Keyed}{sa sb hi:Nat}(sA:Seg ky a sa sb)(sB:Seg ky a sb hi)(h:∀ i j,sa<=i->i<sb->sb<=j->j<hi->kyA ky a i<=kyA ky a j):Seg ky a sa hi:=fun i j h1 h2 h3=>by
 by_cases c:j<sb
 ·exact sA i j h1 h2 c
 ·by_cases d:i<sb
  ·exact h i j h1 d (by omega) h3
  ·exact sB i j (by omega) h2 h3
theorem Zal (ask:ZaP prog w A E s κ ky ok)(h0:∀ x∈a₀.toList,ok x){st:SortSt}{i sa na sb nb p p':Nat}{Q:Bool->SortSt->Prop}(B:Bs κ a₀ st)
  (e1:(pendingOf st)[i]? = some (sa,na,p)) (e2:(pendingOf st)[i+1]? = some (sb,nb,p')) (esb:sb=sa+na) (ha:1<=na) (hb:1<=nb) (hs:sb+nb<=a₀.size) (sA:Seg ky (arrOf st) sa sb) (sB:Seg ky (arrOf st) sb (sb+nb))
  (h:∀ st',Bs κ a₀ st'->pendingOf st'=((pendingOf st).setIfInBounds i (sa,na+nb,p)).eraseIdxIfInBounds (i+1)->MAt ky (arrOf st) (arrOf st') sa (sb+nb)->Q true st'):wpS (model prog w) A E s (mergeAt' i) Q st:=by
 refine wpS_bind (wpS_get ?_)
 rw [e1,e2]
 dsimp only
 refine wpS_bind (Zgt ?_)
 have sz:=B.size
 have at':=fun i hi=>B.at h0 i hi
 obtain⟨vb,eb,okb⟩:=at' sb (by omega)
 refine wpS_bind (ZS eb (wpS_bind (Ys ask B.kind okb (fun i hi=>at' _ (by omega)) (fun i j h1 h2=>sA _ _ (by omega) (by omega) (by omega)) (by omega) fun k hk1 hk2 hk3=>?_)))
 dsimp only
 have l1:∀ i,i<k->kyA ky (arrOf st) (sa+i)<=kyA ky (arrOf st) sb:=fun i hi=>by
  have:=hk2 i hi
  unfold Bey at this
  rw [if_neg (by decide)] at this
  rw [ZN eb];exact this
 have l1':∀ j,sa+k<=j->j<sb->kyA ky (arrOf st) sb<=kyA ky (arrOf st) j:=fun j h1 h2=>by
  have:=hk3 (j-sa) (by omega) (by omega)
  unfold Bey at this
  rw [if_neg (by decide),show sa+(j-sa)=j by omega] at this
  have this':¬ kyA ky (arrOf st) j<=ky vb:=this
  rw [ZN eb];omega
 by_cases c1:(na-k == 0)=true
 ·rw [if_pos c1]
  have n1:na-k=0:=by simpa using c1
  refine wpS_pure (h _ (B.pend _) rfl ⟨List.Perm.refl _,fun j _=>rfl,sA.join sB fun i j g1 g2 g3 g4=>?_⟩)
  have:=l1 (i-sa) (by omega)
  rw [show sa+(i-sa)=i by omega] at this
  exact Int.le_trans this (sB sb j (by omega) g3 g4)
 rw [if_neg c1]
 have n1':na-k≠0:=by simpa using c1
 have n1:k<na:=by clear hs hb sz ha;omega
 clear n1' c1
 obtain⟨va,ea,oka⟩:=at' (sa+k+(na-k)-1) (by omega)
 refine wpS_bind (ZS ea (wpS_bind (Ys ask B.kind oka (fun i hi=>at' _ (by omega)) (fun i j h1 h2=>sB _ _ (by omega) (by omega) (by omega)) (by omega) fun k' hk1' hk2' hk3'=>?_)))
 dsimp only
 have ela:sa+k+(na-k)-1=sb-1:=by omega
 rw [ela] at ea
 clear ela
 have l2:∀ i,k'<=i->i<nb->kyA ky (arrOf st) (sb-1)<=kyA ky (arrOf st) (sb+i):=fun i h1 h2=>by
  have:=hk3' i h1 h2
  unfold Bey at this
  rw [if_pos rfl] at this
  have this':¬ kyA ky (arrOf st) (sb+i)<ky va:=this
  rw [ZN ea];omega
 have l2':∀ i,i<k'->kyA ky (arrOf st) (sb+i)<=kyA ky (arrOf st) (sb-1):=fun i h1=>by
  have:=hk2' i h1
  unfold Bey at this
  rw [if_pos rfl] at this
  have this':kyA ky (arrOf st) (sb+i)<ky va:=this
  rw [ZN ea];omega
 by_cases c2:(k' == 0)=true
 ·rw [if_pos c2]
  have n2:k'=0:=by simpa using c2
  refine wpS_pure (h _ (B.pend _) rfl ⟨List.Perm.refl _,fun j _=>rfl,sA.join sB fun i j g1 g2 g3 g4=>?_⟩)
  have:=l2 (j-sb) (by omega) (by omega)
  rw [show sb+(j-sb)=j by omega] at this
  exact Int.le_trans (sA i (sb-1) g1 (by omega) (by omega)) this
 rw [if_neg c2]
 have n2:k'≠0:=by simpa using c2
 clear c2
 have kx:∀ {o e i:Nat},o+i<e->e<=(arrOf st).size->((arrOf st).extract o e)[i]? = (arrOf st)[o+i]? := fun {o e i} g1 g2=>by
  rw [Array.getElem?_extract,if_pos (by omega)]
 have zx:((arrOf st).extract (sa+k) sb).size+(sa+k)=sb:=by rw [Array.size_extract];omega
 have zy:((arrOf st).extract sb (sb+k')).size=k':=by rw [Array.size_extract];omega
 have sbl:sb<=(arrOf st).size:=by omega
 have syl:sb+k'<=(arrOf st).size:=by omega
 have inx:∀ {i},i<((arrOf st).extract (sa+k) sb).size->sa+k+i<sb:=fun {i} hi=>by clear hs hb sz ha hk1 hk1' esb;omega
 have iny:∀ {i},i<((arrOf st).extract sb (sb+k')).size->sb+i<sb+k':=fun {i} hi=>by rw [zy] at hi;exact Nat.add_lt_add_left hi _
 have ox:∀ i,i<((arrOf st).extract (sa+k) sb).size->∃ y,((arrOf st).extract (sa+k) sb)[i]? = some y/\ok y:=fun i hi=>by
  rw [kx (inx hi) sbl]
  exact at' _ (by have:=inx hi;rw [sz] at sbl;exact Nat.lt_of_lt_of_le this sbl)
 have oy:∀ i,i<((arrOf st).extract sb (sb+k')).size->∃ y,((arrOf st).extract sb (sb+k'))[i]? = some y/\ok y:=fun i hi=>by
  rw [kx (iny hi) syl]
  exact at' _ (by have:=iny hi;rw [sz] at syl;exact Nat.lt_of_lt_of_le this syl)
 have sx:Srt ky ((arrOf st).extract (sa+k) sb):=fun i j g1 g2=>by
  have e2:=inx g2
  rw [Zv (kx (inx (Nat.lt_of_le_of_lt g1 g2)) sbl),Zv (kx e2 sbl)]
  exact sA _ _ (Nat.le_trans (Nat.le_add_right _ _) (Nat.le_add_right _ _)) (Nat.add_le_add_left g1 _) e2
 have sy:Srt ky ((arrOf st).extract sb (sb+k')):=fun i j g1 g2=>by
  have e2:=iny g2
  rw [Zv (kx (iny (Nat.lt_of_le_of_lt g1 g2)) syl),Zv (kx e2 syl)]
  exact sB _ _ (Nat.le_add_right _ _) (Nat.add_le_add_left g1 _) (Nat.lt_of_lt_of_le e2 (Nat.add_le_add_left hk1' _))
 have px:1<=((arrOf st).extract (sa+k) sb).size:=by clear hs hb sz ha hk1';omega
 have py:1<=((arrOf st).extract sb (sb+k')).size:=by rw [zy];exact Nat.pos_of_ne_zero n2
 have f0:kyA ky ((arrOf st).extract sb (sb+k')) 0<=kyA ky ((arrOf st).extract (sa+k) sb) 0:=by
  rw [Zv (kx (iny py) syl),Zv (kx (inx px) sbl)]
  exact l1' _ (Nat.le_refl _) (inx px)
 have fl:kyA ky ((arrOf st).extract sb (sb+k')) (((arrOf st).extract sb (sb+k')).size-1)<=kyA ky ((arrOf st).extract (sa+k) sb) (((arrOf st).extract (sa+k) sb).size-1):=by
  rw [Zv (kx (iny (Nat.sub_lt py Nat.one_pos)) syl),Zv (kx (inx (Nat.sub_lt px Nat.one_pos)) sbl),show sa+k+(((arrOf st).extract (sa+k) sb).size-1)=sb-1 by clear hs hb sz ha hk1' esb hk1;omega]
  exact l2' _ (by rw [zy];exact Nat.sub_lt (Nat.pos_of_ne_zero n2) Nat.one_pos)
 have fin:∀ (r:Array Keyed) (st':SortSt),GOnly (setPending st (((pendingOf st).setIfInBounds i (sa,na+nb,p)).eraseIdxIfInBounds (i+1))) st'->Yz ky ((arrOf st).extract (sa+k) sb) ((arrOf st).extract sb (sb+k')) r ->
   Q (failedOf (setArr st' (r.toList.zipIdx.foldl (fun a (p:Keyed×Nat)=>a.setIfInBounds (sa+k+p.2) p.1) (arrOf st')))).isNone (setArr st' (r.toList.zipIdx.foldl (fun a (p:Keyed×Nat)=>a.setIfInBounds (sa+k+p.2) p.1) (arrOf st'))):=fun r st' g m=>by
  obtain⟨g',rfl⟩:=g
  have ma:=MAt.put sA sB (by omega) (by omega) hk1' (by omega) l1 l2 rfl rfl m
  have hB:Bs κ a₀ (setArr (SortSt.mk' (kindOf st) (arrOf st) (((pendingOf st).setIfInBounds i (sa,na+nb,p)).eraseIdxIfInBounds (i+1)) g' (failedOf st)) (r.toList.zipIdx.foldl (fun a (p:Keyed×Nat)=>a.setIfInBounds (sa+k+p.2) p.1) (arrOf st))):=⟨ma.perm.trans B.perm,B.kind,B.failed⟩
  have hf:=hB.failed
  rw [show (failedOf (setArr (SortSt.mk' (kindOf st) (arrOf st) (((pendingOf st).setIfInBounds i (sa,na+nb,p)).eraseIdxIfInBounds (i+1)) g' (failedOf st)) (r.toList.zipIdx.foldl (fun a (p:Keyed×Nat)=>a.setIfInBounds (sa+k+p.2) p.1) (arrOf st)))).isNone=true from by rw [hf];rfl]
  exact h _ hB rfl ma
 by_cases c3:na-k<=k'
 case' pos=>rw [if_pos c3];refine wpS_bind (Zaj ask B.kind ox oy sx sy px py f0 fl fun r st' g m=>?_)
 case' neg=>rw [if_neg c3];refine wpS_bind (Zak ask B.kind ox oy sx sy px py f0 fl fun r st' g m=>?_)
 all_goals
  refine wpS_bind (wpS_modify (wpS_bind (wpS_get (wpS_pure ?_))))
  exact fin r st' g m
noncomputable def Kept (lo:Nat)(st st':SortSt):Prop:=pendingOf st'=pendingOf st/\∀ j,j<lo->(arrOf st')[j]? = (arrOf st)[j]?
theorem Kept.refl (lo:Nat)(st:SortSt):Kept lo st st:=⟨rfl,fun _ _=>rfl⟩
theorem Xk (ask:ZaP prog w A E s κ ky ok)(h0:∀ x∈a₀.toList,ok x){st:SortSt}{i j:Nat}{Q:Option Bool->SortSt->Prop}(B:Bs κ a₀ st)(hi:i<a₀.size)(hj:j<a₀.size)
  (h:Q (some (decide (kyA ky (arrOf st) i<kyA ky (arrOf st) j))) st):wpS (model prog w) A E s (ltAt' i j) Q st:=by
 obtain⟨x,ex,ox⟩:=B.at h0 i hi
 obtain⟨y,ey,oy⟩:=B.at h0 j hj
 rw [ZN ex,ZN ey] at h
 refine wpS_bind (wpS_get ?_)
 exact wpS_bind (ZS ex (wpS_bind (ZS ey (ask _ _ _ _ ox oy B.kind h))))
theorem WS {xs:Array Keyed}{i j:Nat}(hj:j<=xs.size)(k:Nat):kyA ky (mirror xs i j ((j-i)/2)) k=if i<=k/\k<j then kyA ky xs (i+j-1-k) else kyA ky xs k:=by
 have e:=getElem?_mirror_all (i:=i) hj k
 by_cases h1:i<=k/\k<j
 ·rw [if_pos h1] at e ⊢;exact Zv e
 ·rw [if_neg h1] at e ⊢;exact Zv e
theorem Ze3 {xs:Array Keyed}{i j:Nat}(hj:j<=xs.size)(h:∀ k,i<=k->k<j->kyA ky xs k=kyA ky xs (j-1))(k:Nat):kyA ky (mirror xs i j ((j-i)/2)) k=kyA ky xs k:=by
 rw [WS hj]
 by_cases c:i<=k/\k<j
 ·rw [if_pos c,h k c.1 c.2,h (i+j-1-k) (by omega) (by omega)]
 ·rw [if_neg c]
theorem Bs.mir {st:SortSt}(h:Bs κ a₀ st)(i j:Nat):Bs κ a₀ (setArr st (mirror (arrOf st) i j ((j-i)/2))):=h.set (Array.perm_iff_toList_perm.mp (mirror_perm _ _ _ _))
theorem Kept.mir {lo:Nat}{st st':SortSt}(h:Kept lo st st'){i j:Nat}(hi:lo<=i)(hj:j<=(arrOf st').size):Kept lo st (setArr st' (mirror (arrOf st') i j ((j-i)/2))):=⟨h.1,fun k hk=>by
 have e:=getElem?_mirror_all (xs:=arrOf st') (i:=i) hj k
 rw [if_neg (by omega)] at e
 exact e.trans (h.2 k hk)⟩
noncomputable def Fal (ky:Keyed->Int)(a:Array Keyed)(lo hi:Nat):Prop:=∀ i j,lo<=i->i<=j->j<hi->kyA ky a j<=kyA ky a i
theorem Seg.more {a:Array Keyed}{lo hi:Nat}(h:Seg ky a lo hi)(h1:lo<hi)(e:kyA ky a (hi-1)<=kyA ky a hi):Seg ky a lo (hi+1):=fun i j g1 g2 g3=>by
 by_cases c:j<hi
 ·exact h i j g1 g2 c
 ·by_cases d:i=hi
  ·rw [show j=i by omega];exact Int.le_refl _
  ·rw [show j=hi by omega];exact Int.le_trans (h i (hi-1) g1 (by omega) (by omega)) e
theorem Fal.more {a:Array Keyed}{lo hi:Nat}(h:Fal ky a lo hi)(h1:lo<hi)(e:kyA ky a hi<=kyA ky a (hi-1)):Fal ky a lo (hi+1):=fun i j g1 g2 g3=>by
 by_cases c:j<hi
 ·exact h i j g1 g2 c
 ·by_cases d:i=hi
  ·rw [show j=i by omega];exact Int.le_refl _
  ·rw [show j=hi by omega];exact Int.le_trans e (h i (hi-1) g1 (by omega) (by omega))
theorem JQ {F:Nat->Option (Option Nat)×Nat->StateT SortSt Sem (ForInStep (Option (Option Nat)×Nat))}{g:Option (Option Nat)×Nat->StateT SortSt Sem (Option Nat)}{lo n0 nrem:Nat}{st:SortSt}{Q:Option Nat->SortSt->Prop}
  (hF:∀ x n R,n0<=n->n<nrem->(kyA ky (arrOf st) (lo+n)<kyA ky (arrOf st) (lo+n-1)->R (ForInStep.done (none,n)) st)->(¬ kyA ky (arrOf st) (lo+n)<kyA ky (arrOf st) (lo+n-1)->R (ForInStep.yield (none,n+1)) st)->wpS (model prog w) A E s (F x (none,n)) R st)
  (h1:1<=n0) (hn:n0<=nrem) (hs:Seg ky (arrOf st) lo (lo+n0)) (k:∀ n,n0<=n->n<=nrem->Seg ky (arrOf st) lo (lo+n)->(n=nrem\/kyA ky (arrOf st) (lo+n)<kyA ky (arrOf st) (lo+n-1))->wpS (model prog w) A E s (g (none,n)) Q st):wpS (model prog w) A E s (forIn [n0:nrem] (none,n0) F >>= g) Q st:=by
 refine YI (fun i n st'=>st=st'/\n=i/\Seg ky (arrOf st) lo (lo+i)) (D:=fun n st'=>st=st'/\n0<=n/\n<=nrem/\Seg ky (arrOf st) lo (lo+n)/\(n=nrem\/kyA ky (arrOf st) (lo+n)<kyA ky (arrOf st) (lo+n-1))) (R:=fun _ _=>False) ⟨rfl,rfl,hs⟩ ?_ ?_ ?_ fun _ _ _ h=>h.elim
 ·rintro i _ _ i1 i2 ⟨rfl,rfl,hs⟩
  exact hF _ _ _ i1 i2 (fun c=>⟨rfl,i1,Nat.le_of_lt i2,hs,.inr c⟩) fun c=>⟨rfl,rfl,hs.more (by omega) (Int.not_lt.mp c)⟩
 ·rintro _ _ ⟨rfl,rfl,hs⟩
  rw [Nat.max_eq_right hn] at hs ⊢
  exact⟨rfl,hn,Nat.le_refl _,hs,.inl rfl⟩
 ·rintro n _ ⟨rfl,n1,n2,hs,hl⟩
  exact k n n1 n2 hs hl
structure Cr (ky:Keyed->Int)(κ:SortKind)(a₀:Array Keyed)(lo:Nat)(st0:SortSt)(m neq:Nat)(st:SortSt):Prop where
 B:Bs κ a₀ st
 K:Kept lo st0 st
 F:Fal ky (arrOf st) lo (lo+m)
 q1:neq+1<=m
 q2:∀ i,lo+m-(neq+1)<=i->i<lo+m->kyA ky (arrOf st) i=kyA ky (arrOf st) (lo+m-1)
theorem Cr.fall {lo m:Nat}{st0 st:SortSt}(B:Bs κ a₀ st)(K:Kept lo st0 st)(F:Fal ky (arrOf st) lo (lo+m))(hm:1<=m)(e:kyA ky (arrOf st) (lo+m)<=kyA ky (arrOf st) (lo+m-1)):Cr ky κ a₀ lo st0 (m+1) 0 st :=
 ⟨B,K,F.more (by omega) e,by omega,fun i g1 g2=>by rw [show i=lo+(m+1)-1 by omega]⟩
theorem Cr.even {lo m neq:Nat}{st0 st:SortSt}(W:Cr ky κ a₀ lo st0 m neq st)(e:kyA ky (arrOf st) (lo+m)=kyA ky (arrOf st) (lo+m-1)):Cr ky κ a₀ lo st0 (m+1) (neq+1) st:=by
 obtain⟨B,K,F,q1,q2⟩:=W
 refine⟨B,K,F.more (by omega) (Int.le_of_eq e),by omega,fun i g1 g2=>?_⟩
 rw [show lo+(m+1)-1=lo+m by omega]
 by_cases c:i=lo+m
 ·rw [c]
 ·rw [q2 i (by omega) (by omega),e]
theorem Cr.turn {lo m neq:Nat}{st0 st:SortSt}(W:Cr ky κ a₀ lo st0 m neq st)(hm:lo+m<=a₀.size){Q:SortSt->Prop}(h:∀ st',Bs κ a₀ st'->Kept lo st0 st'->(∀ k,kyA ky (arrOf st') k=kyA ky (arrOf st) k)->Q st'):Q (setArr st (mirror (arrOf st) (lo+m-(neq+1)) (lo+m) ((lo+m-(lo+m-(neq+1)))/2))):=by
 have sz:=W.B.size
 have q1:=W.q1
 exact h _ (W.B.mir _ _) (W.K.mir (by omega) (by omega)) (Ze3 (by omega) W.q2)
theorem Jr (ask:ZaP prog w A E s κ ky ok)(h0:∀ x∈a₀.toList,ok x){st:SortSt}{lo nrem:Nat}{Q:Option Nat->SortSt->Prop}(B:Bs κ a₀ st)(hn:lo+nrem<=a₀.size)(h1:1<=nrem)
  (h:∀ m st',Bs κ a₀ st'->Kept lo st st'->1<=m->m<=nrem->Seg ky (arrOf st') lo (lo+m)->Q (some m) st'):wpS (model prog w) A E s (countRun' lo nrem) Q st:=by
 rw [countRun'_eq]
 refine JQ (fun x n R g1 g2 r1 r2=>wpS_bind (Xk ask h0 B (by omega) (by omega) (YJ (fun c=>wpS_pure (r1 c)) fun c=>wpS_pure (r2 c)))) (Nat.le_refl _) h1 (fun i j g1 g2 g3=>by rw [show i=j by omega];exact Int.le_refl _) fun n n1 n2 hs hl=>?_
 refine ZJ (fun e=>wpS_pure (h n st B (.refl lo st) n1 n2 hs)) fun ne=>?_
 have hl:=hl.resolve_left ne
 have lt:n<nrem:=Nat.lt_of_le_of_ne n2 ne
 clear ne n2
 dsimp (zeta:=false) only
 extract_lets n' z0 jp
 refine Zes jp (Cr ky κ a₀ lo st (n+1) 0) (fun st' W=>?_) fun key=>?_
 rotate_left
 ·clear_value jp
  refine ZF (fun c2=>wpS_bind (Xk ask h0 B (by omega) (by omega) (YJ (fun c=>wpS_pure (h n st B (.refl lo st) n1 (Nat.le_of_lt lt) hs)) fun c=>wpS_bind (wpS_reverse ?_)))) fun c2=>key _ (.fall B (.refl lo st) (fun i j g1 g2 g3=>by rw [show i=j by omega];exact Int.le_refl _) n1 (Int.le_of_lt hl))
  have fl:∀ k,lo+n-(n-1+1)<=k->k<lo+n->kyA ky (arrOf st) k=kyA ky (arrOf st) (lo+n-1):=fun k g1 g2=>by
   have a1:=hs lo k (by omega) (by omega) g2
   have a2:=hs k (lo+n-1) (by omega) (by omega) (by omega)
   omega
  have W:Cr ky κ a₀ lo st n (n-1) st:=⟨B,.refl lo st,fun i j g1 g2 g3=>by rw [fl i (by omega) (by omega),fl j (by omega) g3];exact Int.le_refl _,by omega,fl⟩
  have:=W.turn (by omega) fun st' B K e=>key _ (.fall B K (fun i j g1 g2 g3=>by rw [e,e];exact W.F i j g1 g2 g3) n1 (by rw [e,e];exact Int.le_of_lt hl))
  rwa [show lo+n-(n-1+1)=lo by omega] at this
 refine wpS_bind (wpS_lift (wpAny_rule ⟨rfl,?_⟩))
 refine Xx (fun i m neq st'=>m=i/\Cr ky κ a₀ lo st m neq st') (fun m neq st'=>m<=nrem/\Cr ky κ a₀ lo st m neq st') ⟨rfl,W⟩ (fun i m neq st' i1 i2 W=>?_) (fun m neq st' W=>?_) fun m neq st' W=>?_
 ·obtain⟨rfl,W⟩:=W
  have m1:1<=m:=Nat.le_trans (Nat.le_add_left 1 n) i1
  have l1:lo+m<a₀.size:=by omega
  have l2:lo+m-1<a₀.size:=by omega
  refine wpS_bind (Xk ask h0 W.B l1 l2 (YJ (fun c=>ZF (fun cq=>wpS_bind (wpS_reverse (ZB ⟨rfl,?_⟩))) fun cq=>ZB ⟨rfl,.fall W.B W.K W.F m1 (Int.le_of_lt c)⟩) fun c=>wpS_bind (Xk ask h0 W.B l2 l1 (YJ (fun c'=>ZT ⟨Nat.le_of_lt i2,W⟩) fun c'=>ZB ⟨rfl,W.even (Int.le_antisymm (Int.not_lt.mp c') (Int.not_lt.mp c))⟩))))
  exact W.turn (Nat.le_of_lt l1) fun st' B K e=>.fall B K (fun i j g1 g2 g3=>by rw [e,e];exact W.F i j g1 g2 g3) m1 (by rw [e,e];exact Int.le_of_lt c)
 ·rw [Nat.max_eq_right lt] at W
  exact⟨Nat.le_of_eq W.1,W.2⟩
 dsimp only
 refine Zgv (fun st'=>Bs κ a₀ st'/\Kept lo st st'/\Fal ky (arrOf st') lo (lo+m)) (fun _=>wpS_reverse ?_) (fun _=>⟨W.2.B,W.2.K,W.2.F⟩) fun st' Y=>wpS_bind (wpS_reverse ?_)
 ·exact W.2.turn (Q:=fun st'=>Bs κ a₀ st'/\Kept lo st st'/\Fal ky (arrOf st') lo (lo+m)) (by have:=W.1;omega) fun st' B K e=>⟨B,K,fun i j g1 g2 g3=>by rw [e,e];exact W.2.F i j g1 g2 g3⟩
 have sz:=Y.1.size
 have hm:=W.1
 have m1:=W.2.q1
 have B3:=Y.1.mir lo (lo+m)
 refine JQ (fun x n R g1 g2 r1 r2=>wpS_bind (Xk ask h0 B3 (by omega) (by omega) (YJ (fun c=>wpS_pure (r1 c)) fun c=>wpS_pure (r2 c)))) (by omega) hm (fun i j g1 g2 g3=>?_) fun n n1 n2 hs _=>wpS_pure (h n _ B3 (Y.2.1.mir (Nat.le_refl _) (by omega)) (by omega) n2 hs)
 show kyA ky (mirror (arrOf st') lo (lo+m) ((lo+m-lo)/2)) i<=kyA ky (mirror (arrOf st') lo (lo+m) ((lo+m-lo)/2)) j
 rw [WS (by omega),WS (by omega),if_pos ⟨g1,by omega⟩,if_pos ⟨by omega,g3⟩]
 exact Y.2.2 _ _ (by omega) (by omega) (by omega)
theorem UF {xs:Array Keyed}{src d:Nat}(hs:src<xs.size)(hd:d<=src)(k:Nat):kyA ky (bubble xs src d) k=if k=src-d then kyA ky xs src else if src-d<k/\k<=src then kyA ky xs (k-1) else kyA ky xs k:=by
 have e:=getElem?_bubble hs d hd k
 by_cases h1:k=src-d
 ·rw [if_pos h1] at e ⊢;exact Zv e
 ·rw [if_neg h1] at e ⊢
  by_cases h2:src-d<k/\k<=src
  ·rw [if_pos h2] at e ⊢;exact Zv e
  ·rw [if_neg h2] at e ⊢;exact Zv e
theorem Zhc {f:Nat->Int}{x:Int}{lo d s i j:Nat}(hs:∀ i j,lo<=i->i<=j->j<s->f i<=f j)(f1:∀ i,lo<=i->i<d->f i<=x)(f2:∀ i,d<=i->i<s->x<=f i)(hd:d<=s)(hl:lo<=d)(g1:lo<=i)(g2:i<=j)(g3:j<=s):(if i=d then x else if d<i/\i<=s then f (i-1) else f i)<=(if j=d then x else if d<j/\j<=s then f (j-1) else f j):=by
 have up:∀ k,d<k->k<=s->(if k=d then x else if d<k/\k<=s then f (k-1) else f k)=f (k-1):=fun k h1 h2=>by rw [if_neg (Nat.ne_of_gt h1),if_pos ⟨h1,h2⟩]
 have dn:∀ k,k<d->(if k=d then x else if d<k/\k<=s then f (k-1) else f k)=f k:=fun k h1=>by rw [if_neg (Nat.ne_of_lt h1),if_neg fun h=>Nat.lt_asymm h1 h.1]
 rcases Nat.lt_trichotomy j d with c | c | c
 ·rw [dn j c,dn i (Nat.lt_of_le_of_lt g2 c)]
  exact hs i j g1 g2 (Nat.lt_of_lt_of_le c hd)
 ·rw [if_pos c]
  by_cases e:i=d
  ·rw [if_pos e];exact Int.le_refl _
  ·have:=Nat.lt_of_le_of_ne (c▸g2) e
   rw [dn i this];exact f1 i g1 this
 ·rw [up j c g3]
  have cj:d<=j-1:=Nat.le_sub_one_of_lt c
  have js:j-1<s:=by omega
  rcases Nat.lt_trichotomy i d with b | b | b
  ·rw [dn i b];exact hs i _ g1 (Nat.le_trans (Nat.le_of_lt b) cj) js
  ·rw [if_pos b];exact f2 _ cj js
  ·rw [up i b (Nat.le_trans g2 g3)];exact hs _ _ (Nat.le_trans hl (Nat.le_sub_one_of_lt b)) (Nat.sub_le_sub_right g2 1) js
theorem Uc (ask:ZaP prog w A E s κ ky ok)(h0:∀ x∈a₀.toList,ok x){st:SortSt}{lo n o:Nat}{Q:Bool->SortSt->Prop}(B:Bs κ a₀ st)(hn:lo+n<=a₀.size)(ho:o<=n)(ho1:1<=o)(hs:Seg ky (arrOf st) lo (lo+o))
  (h:∀ st',Bs κ a₀ st'->Kept lo st st'->Seg ky (arrOf st') lo (lo+n)->Q true st'):wpS (model prog w) A E s (binarySort' lo n o) Q st:=by
 rw [binarySort'_eq]
 refine YI (fun k _ st'=>Bs κ a₀ st'/\Kept lo st st'/\Seg ky (arrOf st') lo (lo+k)) (D:=fun _ st'=>Bs κ a₀ st'/\Kept lo st st'/\Seg ky (arrOf st') lo (lo+n)) (R:=fun _ _=>False) ⟨B,.refl lo st,by rwa [Nat.max_eq_left ho1]⟩ (fun k _ st' k1 k2 W=>?_) (fun _ st' W=>?_) (fun _ st' W=>wpS_pure (h st' W.1 W.2.1 W.2.2)) (fun _ _ _ h=>h.elim)
 rotate_left
 ·rwa [Nat.max_eq_left ho1,Nat.max_eq_right ho] at W
 clear hs B h ho ho1 k1
 have B:=W.1
 have hs:=W.2.2
 have lk:lo+k<a₀.size:=by omega
 have mono:∀ i j,i<=j->j<k->kyA ky (arrOf st') (lo+j)<=kyA ky (arrOf st') (lo+k)->kyA ky (arrOf st') (lo+i)<=kyA ky (arrOf st') (lo+k):=fun i j g1 g2 g3=>Int.le_trans (hs _ _ (Nat.le_add_right _ _) (Nat.add_le_add_left g1 _) (Nat.add_lt_add_left g2 _)) g3
 refine Xx (fun x l r st''=>st'=st''/\Bis k (fun i=>kyA ky (arrOf st') (lo+i)<=kyA ky (arrOf st') (lo+k)) l r/\r-l<=k-x) (fun l r st''=>st'=st''/\l=r/\Bis k (fun i=>kyA ky (arrOf st') (lo+i)<=kyA ky (arrOf st') (lo+k)) l r) ⟨rfl,⟨Nat.zero_le _,Nat.le_refl _,fun i h=>absurd h (Nat.not_lt_zero _),fun i h1 h2=>absurd h2 (Nat.not_lt.mpr h1)⟩,Nat.le_refl _⟩ (fun x l r st'' _ hx Y=>?_) (fun l r st'' Y=>?_) fun l r st'' Y=>?_
 ·obtain⟨rfl,Y,q⟩:=Y
  have le:=Y.le
  have hr:=Y.hn
  refine ZF (fun c=>ZT ⟨rfl,Nat.le_antisymm le c,Y⟩) fun c=>?_
  have c:l<r:=Nat.lt_of_not_le c
  have m1:(l+r)/2<r:=by omega
  have m2:l<=(l+r)/2:=by omega
  exact wpS_bind (Xk ask h0 B lk (show lo+(l+r)/2<a₀.size by omega) (YJ (fun c2=>ZB ⟨rfl,Y.down mono m2 (Nat.le_of_lt m1) (Int.not_le.mpr c2),show (l+r)/2-l<=k-(x+1) by omega⟩) fun c2=>ZB ⟨rfl,Y.up mono m1 (Int.not_lt.mp c2),show r-((l+r)/2+1)<=k-(x+1) by omega⟩))
 ·obtain⟨rfl,Y,q⟩:=Y
  have:=Y.le
  exact⟨rfl,by omega,Y⟩
 obtain⟨rfl,rfl,Y⟩:=Y
 have sz:=B.size
 have lk':l<=k:=Y.hn
 refine wpS_bind (?_:wpS _ _ _ _ (moveDown' (lo+k) (lo+l)) _ _)
 rw [moveDown'_eq]
 refine wpS_modify (ZB ⟨B.set (Array.perm_iff_toList_perm.mp (bubble_perm _ _ _)),⟨W.2.1.1,fun j hj=>?_⟩,fun i j g1 g2 g3=>?_⟩)
 ·have e:=getElem?_bubble (xs:=arrOf st') (src:=lo+k) (by omega) (lo+k-(lo+l)) (by omega) j
  rw [if_neg (by omega),if_neg (by omega)] at e
  exact e.trans (W.2.1.2 j hj)
 ·show kyA ky (bubble (arrOf st') (lo+k) (lo+k-(lo+l))) i<=kyA ky (bubble (arrOf st') (lo+k) (lo+k-(lo+l))) j
  rw [UF (by omega) (by omega),UF (by omega) (by omega),show lo+k-(lo+k-(lo+l))=lo+l by omega]
  have sh:∀ i,lo<=i->i=lo+(i-lo):=fun i h=>(Nat.add_sub_of_le h).symm
  exact Zhc (f:=kyA ky (arrOf st')) hs (fun i h1 h2=>by rw [sh i h1];exact Y.f1 _ (by omega)) (fun i h1 h2=>by rw [sh i (by omega)];exact Int.le_of_lt (Int.not_le.mp (Y.f2 _ (by omega) (by omega)))) (Nat.add_le_add_left lk' _) (Nat.le_add_right _ _) g1 g2 (Nat.le_of_lt_succ g3)
noncomputable def Runs (ky:Keyed->Int)(a:Array Keyed):Nat->List (Nat×Nat×Nat)->Nat->Prop
 | lo,[],hi=>lo=hi
 | lo,(o,n,_)::t,hi=>o=lo/\1<=n/\Seg ky a lo (lo+n)/\Runs ky a (lo+n) t hi
theorem Runs.len {a:Array Keyed}:∀ {l:List (Nat×Nat×Nat)} {lo hi:Nat},Runs ky a lo l hi->lo+l.length<=hi
 | [],lo,hi,h=>by have:lo=hi:=h;simp only [List.length_nil];omega
 | (o,n,p)::t,lo,hi,h=>by
  have:=h.2.2.2.len
  have:=h.2.1
  simp only [List.length_cons];omega
theorem YO {a:Array Keyed}:∀ {l1 l2:List (Nat×Nat×Nat)} {lo hi:Nat},Runs ky a lo (l1++l2) hi↔∃ mid,Runs ky a lo l1 mid/\Runs ky a mid l2 hi
 | [],l2,lo,hi=>⟨fun h=>⟨lo,rfl,h⟩,fun ⟨mid,h1,h2⟩=>by have:lo=mid:=h1;rw [this];exact h2⟩
 | (o,n,p)::t,l2,lo,hi=>⟨fun ⟨h1,h2,h3,h4⟩=>by
   obtain⟨mid,m1,m2⟩:=YO.mp h4
   exact⟨mid,⟨h1,h2,h3,m1⟩,m2⟩,fun ⟨mid,⟨h1,h2,h3,m1⟩,m2⟩=>⟨h1,h2,h3,YO.mpr ⟨mid,m1,m2⟩⟩⟩
theorem Runs.congr {a a':Array Keyed}:∀ {l:List (Nat×Nat×Nat)} {lo hi:Nat},Runs ky a lo l hi->(∀ j,lo<=j->j<hi->a'[j]? = a[j]?)->Runs ky a' lo l hi
 | [],lo,hi,h,e=>h
 | (o,n,p)::t,lo,hi,⟨h1,h2,h3,h4⟩,e=>by
  have:=h4.len
  exact⟨h1,h2,h3.congr fun j g1 g2=>e j g1 (by omega),h4.congr fun j g1 g2=>e j (by omega) g2⟩
theorem Runs.mod {a:Array Keyed}{f:Nat×Nat×Nat->Nat×Nat×Nat}(hf:∀ x,(f x).1=x.1/\(f x).2.1=x.2.1):∀ {l:List (Nat×Nat×Nat)} {i lo hi:Nat},Runs ky a lo l hi->Runs ky a lo (l.modify i f) hi
 | [],i,lo,hi,h=>by rw [List.modify_nil];exact h
 | (o,n,p)::t,0,lo,hi,h=>by
  rw [List.modify_zero_cons]
  have hx:=hf (o,n,p)
  generalize f (o,n,p)=y at hx
  obtain⟨o',n',p'⟩:=y
  obtain⟨rfl,rfl⟩:=hx
  exact h
 | (o,n,p)::t,i+1,lo,hi,h=>by
  rw [List.modify_succ_cons]
  exact⟨h.1,h.2.1,h.2.2.1,h.2.2.2.mod hf⟩
theorem ZcB (x y v:Nat×Nat×Nat)(l2:List (Nat×Nat×Nat)):∀ l1:List (Nat×Nat×Nat),((l1++x::y::l2).set l1.length v).eraseIdx (l1.length+1)=l1++v::l2
 | []=>rfl
 | z::l1=>congrArg (z :: ·) (ZcB x y v l2 l1)
theorem Zhn (l:List (Nat×Nat×Nat)){i:Nat}(h:i+1<l.length):∃ l1 x y l2,l=l1++x::y::l2/\l1.length=i:=by
 refine⟨l.take i,l[i],l[i+1],l.drop (i+2),?_,by rw [List.length_take];omega⟩
 have e1:=List.drop_eq_getElem_cons (l:=l) (i:=i) (by omega)
 have e2:=List.drop_eq_getElem_cons (l:=l) (i:=i+1) h
 rw [<- e2,<- e1,List.take_append_drop]
theorem Zai (ask:ZaP prog w A E s κ ky ok)(h0:∀ x∈a₀.toList,ok x){st:SortSt}{i hi:Nat}{Q:Bool->SortSt->Prop}(B:Bs κ a₀ st)(R:Runs ky (arrOf st) 0 (pendingOf st).toList hi)(hhi:hi<=a₀.size)(hi1:i+1<(pendingOf st).size)
  (h:∀ st',Bs κ a₀ st'->Runs ky (arrOf st') 0 (pendingOf st').toList hi->(pendingOf st').size+1=(pendingOf st).size->(∀ j,hi<=j->(arrOf st')[j]? = (arrOf st)[j]?)->Q true st'):wpS (model prog w) A E s (mergeAt' i) Q st:=by
 obtain⟨l1,⟨sa,na,p⟩,⟨sb,nb,p'⟩,l2,e,el⟩:=Zhn (pendingOf st).toList (i:=i) (by simpa using hi1)
 have R':=R
 rw [e] at R'
 obtain⟨mid,r1,⟨m1,m2,m3,m4,m5,m6,m7⟩⟩:=YO.mp R'
 subst m1
 have q:=m7.len
 refine Zal ask h0 B (sa:=sa) (na:=na) (sb:=sb) (nb:=nb) (p:=p) (p':=p') ?_ ?_ m4 m2 m5 (by omega) (by rw [m4];exact m3) (by rw [m4];exact m6) fun st' B' e' ma=>?_
 ·rw [<- Array.getElem?_toList,e,List.getElem?_append_right (by omega),el,Nat.sub_self];rfl
 ·rw [<- Array.getElem?_toList,e,List.getElem?_append_right (by omega),el,show i+1-i=1 by omega];rfl
 have e3:(pendingOf st').toList=l1++(sa,na+nb,p)::l2:=by
  rw [e',Array.toList_eraseIdxIfInBounds,Array.toList_setIfInBounds,e,<- el]
  exact ZcB _ _ _ _ _
 refine h st' B' ?_ ?_ fun j hj=>ma.out j (by omega)
 ·rw [e3]
  refine YO.mpr ⟨sa,r1.congr fun j g1 g2=>ma.out j (by omega),rfl,by omega,?_,?_⟩
  ·have:=ma.seg
   rwa [m4,Nat.add_assoc] at this
  ·rw [<- Nat.add_assoc]
   exact m7.congr fun j g1 g2=>ma.out j (by omega)
 ·have g1:=congrArg List.length e
  have g2:=congrArg List.length e3
  simp only [Array.length_toList,List.length_append,List.length_cons] at g1 g2
  omega
structure Rn (ky:Keyed->Int)(κ:SortKind)(a₀:Array Keyed)(lo n:Nat)(st:SortSt):Prop where
 B:Bs κ a₀ st
 R:Runs ky (arrOf st) 0 (pendingOf st).toList lo
 S:Seg ky (arrOf st) lo (lo+n)
 n1:1<=n
 n2:lo+n<=a₀.size
structure Rs (ky:Keyed->Int)(κ:SortKind)(a₀:Array Keyed)(x lo:Nat)(st:SortSt):Prop where
 B:Bs κ a₀ st
 R:Runs ky (arrOf st) 0 (pendingOf st).toList lo
 l1:x<=lo
 l2:lo<=a₀.size
theorem Zeu {γ:Type}{st:SortSt}{m:StateT SortSt Sem γ}{Q:γ->SortSt->Prop}(jp:Unit->Nat->StateT SortSt Sem γ)(P:Nat->SortSt->Prop)(key:∀ n st',P n st'->wpS (model prog w) A E s (jp () n) Q st')(k:(∀ n st',P n st'->wpS (model prog w) A E s (jp () n) Q st')->wpS (model prog w) A E s m Q st):wpS (model prog w) A E s m Q st:=k key
theorem UW (ask:ZaP prog w A E s κ ky ok)(h0:∀ x∈a₀.toList,ok x){st:SortSt}{Q:Unit->SortSt->Prop}(B:Bs κ a₀ st)(hp:pendingOf st=#[])
  (h:∀ st',Bs κ a₀ st'->Srt ky (arrOf st')->Q () st'):wpS (model prog w) A E s sortRuns' Q st:=by
 rw [sortRuns'_eq]
 refine wpS_bind (wpS_get ?_)
 rw [B.size]
 refine YI (fun x lo st'=>Rs ky κ a₀ x lo st') (D:=fun lo st'=>Rs ky κ a₀ a₀.size lo st') (R:=fun _ _=>False) ⟨B,by rw [hp];exact rfl,Nat.le_refl _,Nat.zero_le _⟩ (fun x lo st' _ hx W=>?_) (fun lo st' W=>by rwa [Nat.zero_max] at W) (fun lo st' W=>?_) (fun _ _ _ h=>h.elim)
 ·clear B hp h
  refine ZF (fun c0=>ZT ⟨W.B,W.R,c0,W.l2⟩) fun c0=>?_
  have c0:lo<a₀.size:=Nat.lt_of_not_le c0
  refine wpS_bind (Jr ask h0 W.B (show lo+(a₀.size-lo)<=a₀.size by omega) (show 1<=a₀.size-lo by omega) fun m st2 B2 K2 m1 m2 S2=>?_)
  have l1:=W.l1
  have R2:Runs ky (arrOf st2) 0 (pendingOf st2).toList lo:=by
   rw [K2.1]
   exact W.R.congr fun j _ g2=>K2.2 j g2
  clear K2 W
  dsimp (zeta:=false) only
  extract_lets n0 jp
  refine Zeu jp (Rn ky κ a₀ lo) (fun n st3 W=>?_) fun key=>?_
  rotate_left
  ·clear_value jp
   refine ZF (fun c1=>wpS_bind (wpS_lift (wpAny_rule ⟨rfl,wpS_bind (Uc ask h0 B2 (show lo+min (a₀.size-lo) (minRun' a₀.size a₀.size 0)<=a₀.size by omega) (show m<=min (a₀.size-lo) (minRun' a₀.size a₀.size 0) from Nat.le_min.mpr ⟨m2,Nat.le_of_lt c1⟩) m1 S2 fun st3 B3 K3 S3=>?_)⟩))) fun c1=>key _ _ ⟨B2,R2,S2,m1,show lo+m<=a₀.size by omega⟩
   refine ZF (fun h=>absurd h (by decide)) fun _=>key _ _ ⟨B3,?_,S3,Nat.le_trans m1 (Nat.le_min.mpr ⟨m2,Nat.le_of_lt c1⟩),show lo+min (a₀.size-lo) (minRun' a₀.size a₀.size 0)<=a₀.size by omega⟩
   rw [K3.1]
   exact R2.congr fun j _ g2=>K3.2 j g2
  clear B2 R2 S2 m1 m2
  refine wpS_bind (wpS_get ?_)
  have last:∀ st4,Rn ky κ a₀ lo n st4->Rs ky κ a₀ (x+1) (lo+n) (setPending st4 ((pendingOf st4).push (lo,n,0))):=fun st4 W=>by
   refine⟨W.B.pend _,?_,by have:=W.n1;omega,W.n2⟩
   show Runs ky (arrOf st4) 0 ((pendingOf st4).push (lo,n,0)).toList (lo+n)
   rw [Array.toList_push]
   exact YO.mpr ⟨lo,W.R,rfl,W.n1,W.S,rfl⟩
  obtain⟨bk,ebk⟩:∃ bk,(pendingOf st3).back? = bk:=⟨_,rfl⟩
  rw [ebk]
  cases bk with
  | none=>exact wpS_bind (wpS_modify (ZB (last _ W)))
  | some b =>
   obtain⟨s1,l1,p1⟩:=b
   refine YI (fun _ _ st'=>Rn ky κ a₀ lo n st') (D:=fun _ st'=>Rn ky κ a₀ lo n st') (R:=fun _ _=>False) W (fun x' _ st4 _ hx' W=>?_) (fun _ st' W=>W) (fun _ st4 W=>wpS_bind (wpS_modify (wpS_bind (wpS_modify (ZB (last _ ⟨W.B.pend _,?_,W.S,W.n1,W.n2⟩)))))) (fun _ _ _ h=>h.elim)
   ·refine wpS_bind (wpS_get ?_)
    dsimp only
    by_cases c2:(pendingOf st4).size>1
    ·rw [if_pos c2,getElem?_pos (pendingOf st4) ((pendingOf st4).size-2) (by omega)]
     exact ZF (fun _=>ZT W) fun _=>wpS_bind (Zai ask h0 W.B W.R (by omega) (by omega) fun st5 B5 R5 _ o5=>ZF (fun h=>absurd h (by decide)) fun _=>ZB ⟨B5,R5,W.S.congr fun j g1 _=>o5 j g1,W.n1,W.n2⟩)
    ·rw [if_neg c2]
     exact ZT W
   ·show Runs ky (arrOf st4) 0 ((pendingOf st4).modify ((pendingOf st4).size-1) _).toList lo
    rw [Array.toList_modify]
    exact W.R.mod (f:=fun x=>(x.1,x.2.1,power' a₀.size (2*s1+l1) (2*s1+l1+l1+n) a₀.size)) fun x=>⟨rfl,rfl⟩
 clear B hp
 obtain⟨B,R,l1,l2⟩:=W
 cases Nat.le_antisymm l2 l1
 clear l1 l2
 refine YI (fun x _ st'=>Bs κ a₀ st'/\Runs ky (arrOf st') 0 (pendingOf st').toList a₀.size/\(pendingOf st').size+x<=a₀.size) (D:=fun _ st'=>Bs κ a₀ st'/\Runs ky (arrOf st') 0 (pendingOf st').toList a₀.size/\(pendingOf st').size<=1) (R:=fun _ _=>False) ⟨B,R,by have:=R.len;simp only [Array.length_toList] at this;omega⟩ (fun x _ st' _ hx W=>?_) (fun _ st' W=>⟨W.1,W.2.1,by have:=W.2.2;omega⟩) (fun _ st' W=>wpS_pure (h st' W.1 ?_)) (fun _ _ _ h=>h.elim)
 ·refine wpS_bind (wpS_get (ZF (fun c1=>ZT ⟨W.1,W.2.1,c1⟩) fun c1=>wpS_bind (Zai ask h0 W.1 W.2.1 (by omega) ?_ fun st5 B5 R5 z5 o5=>ZF (fun h=>absurd h (by decide)) fun _=>ZB ⟨B5,R5,by have:=W.2.2;omega⟩)))
  (repeat' split)<;>omega
 ·have R:=W.2.1
  have sz:=W.1.size
  intro i j g1 g2
  obtain⟨l,el⟩:∃ l,(pendingOf st').toList=l:=⟨_,rfl⟩
  rw [el] at R
  have hl:l.length<=1:=by rw [<- el];simpa using W.2.2
  match l,hl,R with
  | [],_,R =>
   have:0=a₀.size:=R
   omega
  | [(o,n,p)],_,R =>
   obtain⟨_,_,r3,r4⟩:=R
   have r4:0+n=a₀.size:=r4
   exact r3 i j (by omega) g1 (by omega)
end
section
variable {prog:Program}{w:World}{A:Around}{E:Value->Shared->Prop}{s:Shared}{κ:SortKind}{k:Value->Int}{o:Value->Prop}
noncomputable def Xq (h:Heap) (a:Addr) (vs:List Value):Heap:=((h.update a (Obj.mapSeq fun _=>(#[]:Array Value))).push (seqObj "tuple" vs.toArray 0)).push (seqObj "list" #[] 0)
theorem Zdt {a:Addr} {vs:List Value} {n:Nat} {P:PySem.Fin->Shared->Prop} (ho:s.heap.get? a=some (seqObj "list" vs.toArray n)) (hz:vs.length<=sizeLine)
  (hk:2<=vs.length->∀ Q:SortKind->Shared->Prop,Q κ { s with heap:=Xq s.heap a vs }->wpAny (model prog w) A (keyKind' vs.toArray) Q E { s with heap:=Xq s.heap a vs })
  (ask:ZaP prog w A E { s with heap:=Xq s.heap a vs } κ (fun x=>k x.1) (fun x=>o x.1)) (h0:∀ v∈vs,o v)
  (h:∀ ws:List Value,ws.Perm vs->ws.Pairwise (fun x y=>k x<=k y)->P (.done (.ret .none)) { s with heap:=sortedHeap s.heap a vs ws.toArray }):wpAny (model prog w) A (Builtin.«list.sort» ⟨[.ref a],[]⟩) P E s:=by
 have ha:a<s.heap.objs.size:=Heap.lt_size ho
 have hz':vs.toArray.size=vs.length:=by simp
 obtain⟨e1,ho1⟩:∃ e1,(s.heap.update a (Obj.mapSeq fun _=>(#[]:Array Value))).get? a=some (seqObj "list" #[] e1):=⟨_,get?_update_seq ho fun _=>#[]⟩
 have ho6:(Xq s.heap a vs).get? a=some (seqObj "list" #[] e1):=by
  unfold Xq
  rw [Heap.get?_push_of_some _ (Heap.get?_push_of_some _ ho1)]
 rw [list_sort_plain]
 refine wpAny_bind (listItems_at ho rfl (wpAny_bind (listUpdate_at ho rfl ?_ (by rw [List.size_toArray];exact hz) (Nat.zero_le _))))
 refine wpAny_bind (seqEpoch_at ho1 rfl (wpAny_bind (wpAny_newTuple ?_ (by show vs.length<=_;exact hz))))
 refine wpAny_bind (wpAny_newList (wpAny_holding ?_) (Nat.zero_le _))
 show wpAny (model prog w) A _ P E { s with heap:=Xq s.heap a vs }
 dsimp only
 have fin:∀ xs:Array Keyed,xs.toList.Perm (vs.zip vs)->xs.toList.Pairwise (LeK fun x=>k x.1)->P (.done (.ret .none)) { s with heap:=(Xq s.heap a vs).update a (Obj.mapSeq fun _=>xs.map (·.2)) }:=fun xs hp hs=>by
  have e:xs.map (·.2)=(xs.toList.map (·.2)).toArray:=by
   apply Array.ext'
   rw [Array.toList_map]
  rw [e]
  refine h _ ?_ ?_
  ·have:=hp.map (·.2)
   rwa [List.map_snd_zip (Nat.le_refl _)] at this
  ·rw [List.pairwise_map]
   refine hs.imp_of_mem fun {x y} hx hy g=>?_
   have x1:=(mem_zip_self (hp.mem_iff.mp hx)).1
   have y1:=(mem_zip_self (hp.mem_iff.mp hy)).1
   rw [<- x1,<- y1]
   exact g
 by_cases c:vs.toArray.size<2
 ·rw [if_pos c,if_pos c]
  refine wpAny_bind (wpAny_pure ?_)
  rw [StateT.run_pure]
  refine wpAny_bind (wpAny_pure ?_)
  dsimp only
  refine wpAny_bind (seqEpoch_at ho6 rfl (wpAny_bind (listUpdate_at ho6 rfl ?_ (Nat.zero_le _) (by rw [Array.size_map];show (pairsOf vs).size<=_;rw [pairsOf_size];omega))))
  simp only [bne_self_eq_false,Bool.false_eq_true,if_false]
  refine wpAny_pure (fin (vs.toArray.zip vs.toArray) (by rw [<- pairsOf_toList];exact List.Perm.refl _) ?_)
  rw [show (vs.toArray.zip vs.toArray).toList=vs.zip vs from pairsOf_toList vs]
  match vs,(show vs.length<=1 by omega) with
  | [],_=>exact .nil
  | [v],_=>exact List.pairwise_singleton _ _
 ·rw [if_neg c,if_neg c]
  refine wpAny_bind (hk (by omega) _ ?_)
  refine wpAny_bind (wpAny_mono (UW (a₀:=pairsOf vs) (st:=SortSt.mk' κ (vs.toArray.zip vs.toArray) #[] 7 none) (Q:=fun _ st'=>Bs κ (pairsOf vs) st'/\Srt (fun x=>k x.1) (arrOf st')) ask (fun x hx=>?_) ⟨List.Perm.refl _,rfl,rfl⟩ rfl fun st' a1 a2=>⟨a1,a2⟩) ?_ fun _ _ e=>e)
  ·rw [pairsOf_toList] at hx
   exact h0 _ (mem_zip_self hx).2
  rintro⟨⟨⟩,st'⟩ s' ⟨rfl,B,hs⟩
  dsimp only
  have hsz:=B.size
  rw [pairsOf_size] at hsz
  refine wpAny_bind (seqEpoch_at ho6 rfl (wpAny_bind (listUpdate_at ho6 rfl ?_ (Nat.zero_le _) (by refine Nat.le_trans (Nat.le_of_eq ((Array.size_map ..).trans hsz)) ?_;omega))))
  rw [B.failed]
  simp only [bne_self_eq_false,Bool.false_eq_true,if_false]
  exact wpAny_pure (fin _ (by have:=B.perm;rwa [pairsOf_toList] at this) hs.pw)
theorem Zjs (h:∀ (x y:Keyed) (Q:Bool->Shared->Prop) (E:Value->Shared->Prop),o x.1->o y.1->Q (decide (k x.1<k y.1)) s->wpAny (model prog w) A (keyLt' κ x.1 y.1) Q E s):ZaP prog w A E s κ (fun x=>k x.1) (fun x=>o x.1):=by
 intro x y st Q ox oy hk hq
 rw [lt'_eq]
 refine wpS_bind (wpS_get ?_)
 rw [hk]
 refine wpS_bind (wpS_lift (wpAny_attempt (h x y _ _ ox oy ?_)))
 exact⟨rfl,wpS_pure hq⟩
end
end PyProof.Rows.Tim
namespace L2
open PySem PySem.Spec PyProof.Rows PyProof.Rows.Tim PySem.W Att
variable {prog:Program}{w:World}{A:Around}{E:Value->Shared->Prop}{s:Shared}
noncomputable def Zar (h:Heap):Value->Nat×Nat
 | .ref a=>match h.get? a with
  | some ob=>match ob.data with
   | .seq xs _=>match xs.toList with
    | [.int x _,.int y _]=>(x.toNat,y.toNat)
    | _=>(0,0)
   | _=>(0,0)
  | none=>(0,0)
 | _=>(0,0)
noncomputable def ZkN (h:Heap) (v:Value):Prop:=∃ a ob n t1 t2,∃ p:Nat×Nat,v=.ref a/\h.get? a=some ob/\ob.cls=.type "tuple" /\ ob.data=.seq #[.int (p.1:Nat) t1,.int (p.2:Nat) t2] n/\p.2<2^256
theorem Jh {h:Heap}{a:Addr}{ob:Obj}{n:Nat}{t1 t2:Tok}{p:Nat×Nat}(e1:h.get? a=some ob)(e2:ob.data=.seq #[.int (p.1:Nat) t1,.int (p.2:Nat) t2] n):Zar h (.ref a)=p:=by
 unfold Zar
 simp only [e1,e2]
 rfl
section
variable {X:Cx}
theorem Zf9 {H:Hp}{rs:List Addr}{ps:List (Nat×Nat)}(f:Addr->Nat×Nat)(h:PrT H rs (ps.map np))(hf:rs.map f=ps):∀ rs':List Addr,(∀ r∈rs',r∈rs)->PrT H rs' ((rs'.map f).map np)
 | [],_=>.nil
 | r::rs',hr=>by
  refine .cons ?_ (Zf9 f h hf rs' fun x hx=>hr x (List.mem_cons_of_mem _ hx))
  obtain⟨i,hi,e⟩:=List.mem_iff_getElem.mp (hr r List.mem_cons_self)
  have ep:(ps.map np)[i]? = some (np (f r)):=by rw [<- hf,List.getElem?_map,List.getElem?_map,List.getElem?_eq_getElem hi,e];rfl
  obtain⟨r',er,tp⟩:=h.get ep
  rw [List.getElem?_eq_getElem hi,e] at er
  cases er
  exact tp
end
end L2
namespace L2
open PySem PySem.Spec PyProof.Rows
noncomputable def Itz (K:W.Frag)(a b:Addr):It :=
 ⟨fun i H=>∃ xs ys x y,SqL K H a xs/\SqL K H b ys/\xs[i]? = some x/\ys[i]? = some y,
  fun i H v H'=>∃ T x y,H T=none/\v=.ref T/\(∀ xs,SqL K H a xs->xs[i]? = some x)/\(∀ ys,SqL K H b ys->ys[i]? = some y)/\H'=upd H T (.tup [x,y]),
  fun i H=>∃ xs ys,SqL K H a xs/\SqL K H b ys/\(xs.length<=i\/ys.length<=i)⟩
theorem Zex {P:Program}{w:World}{K:W.Frag}{es:List Expr}{k:Nat}{tpos:Pos}(a b z TI TO i1 i2:Addr)(hz:ZipApart z TI TO i1 i2 a b) :
  Zh8 P w K (.Tuple es k tpos) (Itz K a b) [z,TO,i1,i2,TI] z (fun i h=>IsZip h z TI TO .none/\IsPair h TI (.ref i1) (.ref i2)/\(∃ p q,IsPair h TO p q)/\h.IsListIter i1 a i/\h.IsListIter i2 b i) where
 mem:=by simp
 obj:=fun i h st c hc=>by
  obtain⟨h1,h2,⟨p,q,h3⟩,h4,h5⟩:=st
  simp only [List.mem_cons,List.not_mem_nil,or_false] at hc
  rcases hc with rfl | rfl | rfl | rfl | rfl
  ·exact⟨_,h1,fun v y=>by
    have y':Data.fields _=Data.cell v:=y
    cases y'⟩
  ·exact⟨_,h3,fun v y=>by
    have y':Data.seq _ _=Data.cell v:=y
    cases y'⟩
  ·obtain⟨o,e,c,d⟩:=h4
   exact⟨o,e,fun v y=>by rw [d] at y;cases y⟩
  ·obtain⟨o,e,c,d⟩:=h5
   exact⟨o,e,fun v y=>by rw [d] at y;cases y⟩
  ·exact⟨_,h2,fun v y=>by
    have y':Data.seq _ _=Data.cell v:=y
    cases y'⟩
 keep:=fun i h h' st k=>by
  obtain⟨h1,h2,⟨p,q,h3⟩,h4,h5⟩:=st
  exact⟨k z (by simp) _ h1,k TI (by simp) _ h2,⟨p,q,k TO (by simp) _ h3⟩,h4.at fun o e=>k i1 (by simp) o e,h5.at fun o e=>k i2 (by simp) o e⟩
 item:=by
  intro X hP hw hK hc i pins s σ H E I hf st hg
  subst hP hw hK
  obtain⟨h1,h2,⟨p0,q0,h3⟩,h4,h5⟩:=st
  obtain⟨xs,ys,x,y,hq,hr,hx,hy⟩:=hg
  obtain⟨its,rv,p,_⟩:=I.list hq
  obtain⟨u,hu,ru⟩:=rv.get hx
  obtain⟨jts,rv2,p2,_⟩:=I.list hr
  obtain⟨u2,hu2,ru2⟩:=rv2.get hy
  have fok:=fun c hc=>hf c hc
  refine wpAny_pyNext_zip_item hz h1 h2 h3 h4 h5 p.isList p2.isList (x:=u) (y:=u2) (by simpa using hu) (by simpa using hu2) fun g1 o1 o2 o3 o4 o5 osz hk=>⟨_,rfl,?_⟩
  refine wpAny_letOwnedTupleGo_zip o1 fun g2 he2 hs2=>?_
  replace hs2:Heap.SameBut z g1 g2:=hs2
  have nz:∀ c,c∈[z,TO,i1,i2,TI]->c≠s.heap.objs.size:=fun c hc=>by
   simp only [List.mem_cons,List.not_mem_nil,or_false] at hc
   rcases hc with rfl | rfl | rfl | rfl | rfl
   ·exact Nat.ne_of_lt (Heap.lt_size h1)
   ·exact Nat.ne_of_lt (Heap.lt_size h3)
   ·obtain⟨o,e,_⟩:=h4;exact Nat.ne_of_lt (Heap.lt_size e)
   ·obtain⟨o,e,_⟩:=h5;exact Nat.ne_of_lt (Heap.lt_size e)
   ·exact Nat.ne_of_lt (Heap.lt_size h2)
  have hk2:∀ c o,c≠z->c≠TO->c≠i1->c≠i2->s.heap.get? c=some o->g2.get? c=some o:=fun c o n1 n2 n3 n4 q=>hs2.extBut c o n1 (hk c o n1 n2 n3 n4 q)
  have ht2:=hs2.extBut _ _ (nz z (by simp)).symm o5
  have out:∀ c,c∉[z,TO,i1,i2,TI]->c≠z/\c≠TO/\c≠i1/\c≠i2:=fun c hc=>by
   simp only [List.mem_cons,List.not_mem_nil,or_false,not_or] at hc
   exact⟨hc.1,hc.2.1,hc.2.2.1,hc.2.2.2.1⟩
  have hko:∀ c o,c∉[z,TO,i1,i2,TI]->s.heap.get? c=some o->g2.get? c=some o:=fun c o hc q=>hk2 c o (out c hc).1 (out c hc).2.1 (out c hc).2.2.1 (out c hc).2.2.2 q
  have hn:∀ c o,H c=some o->c∉[z,TO,i1,i2,TI]:=fun c o q hc=>by rw [(hf c hc).1] at q;cases q
  have hok:HOk X.prog X.w (upd H s.heap.objs.size (.tup [x,y])) g2:=fun c o q=>by
   by_cases hb:c=s.heap.objs.size
   ·subst hb
    rw [Zd] at q
    cases q
    exact⟨(by show 2<=sizeLine;rw [sizeLine_eq];decide),[u,u2],.cons ru (.cons ru2 .nil),_,ht2,rfl,_,rfl⟩
   ·rw [Zh hb] at q
    refine (I.hok c o q).stay (fun d v hd r=>?_) (fun d r=>by rw [Zh (Zj r I.fresh)];exact r) fun d ys r=>by rw [Zh (Zj r I.fresh)];exact r
    rcases hd with z1 | z1
    ·subst z1;exact hko d v (hn d _ q) r
    ·exact hko d v (hn d _ z1) r
  have I2:Inv X pins σ (upd H s.heap.objs.size (.tup [x,y])) { s with heap:=g2 }:=by
   refine I.call (g':=s.gens) (d':=s.drawn) (t':=s.toks) (ch:=[z,TO,i1,i2,TI]) ⟨fun b o q n _ hx=>hko b o hx q,fun b o q n _ hx=>⟨o.slots,hko b o hx q⟩,fun b o q n hx=>?_,fun b o q hx=>⟨o,hko b o hx q⟩,
    fun b ys q=>by rw [Zh (Zj q I.fresh)];exact q,fun b o ys q=>by rw [Zh (Zj q I.fresh)];exact q,fun b ps q=>⟨#[],by rw [Zh (Zj q I.fresh),q];simp⟩⟩ hok I.bare fun b hb=>?_
   ·rw [Zh (Nat.ne_of_lt (Heap.lt_size q))];exact n
   ·obtain⟨f0,f1,f2,f3,f4,f5⟩:=hf b hb
    exact⟨f3,f1,f4,f5⟩
  refine⟨.ref _,_,I2,rfl,⟨_,x,y,I.fresh,rfl,fun zs hz=>by rw [I.list_inj hz hq];exact hx,fun zs hz=>by rw [I.list_inj hz hr];exact hy,rfl⟩,⟨he2,hs2.extBut _ _ hz.TIz (hk TI _ hz.TIz hz.TITO hz.TIi1 hz.TIi2 h2),⟨_,_,hs2.extBut _ _ hz.TOz o2⟩,o3.at fun o q=>hs2.extBut _ _ hz.i1z q,o4.at fun o q=>hs2.extBut _ _ hz.i2z q⟩,fun c hc=>?_⟩
  rw [Zh (nz c hc)]
  exact (hf c hc).1
 done:=by
  intro X hP hw hK hc i pins s σ H E I hf st hg
  subst hP hw hK
  obtain⟨h1,h2,⟨p0,q0,h3⟩,h4,h5⟩:=st
  obtain⟨xs,ys,hq,hr,hx⟩:=hg
  obtain⟨its,rv,p,_⟩:=I.list hq
  obtain⟨jts,rv2,p2,_⟩:=I.list hr
  have hl:=rv.length
  have hl2:=rv2.length
  refine wpAny_pyNext_zip_end (I.ok.hd hc) hz h1 h2 h3 h4 h5 p.isList p2.isList (by simp;omega) fun h' hk=>⟨rfl,?_⟩
  have out:∀ c,c∉[z,TO,i1,i2,TI]->c≠z/\c≠TO/\c≠i1/\c≠i2:=fun c hc=>by
   simp only [List.mem_cons,List.not_mem_nil,or_false,not_or] at hc
   exact⟨hc.1,hc.2.1,hc.2.2.1,hc.2.2.2.1⟩
  have hko:∀ c o,c∉[z,TO,i1,i2,TI]->s.heap.get? c=some o->h'.get? c=some o:=fun c o hc q=>hk c o (out c hc).1 (out c hc).2.1 (out c hc).2.2.1 (out c hc).2.2.2 q
  have hn:∀ c o,H c=some o->c∉[z,TO,i1,i2,TI]:=fun c o q hc=>by rw [(hf c hc).1] at q;cases q
  have hok:HOk X.prog X.w H h':=fun c o q=>by
   refine (I.hok c o q).stay (fun d v hd r=>?_) (fun d r=>r) fun d ys r=>r
   rcases hd with z1 | z1
   ·subst z1;exact hko d v (hn d _ q) r
   ·exact hko d v (hn d _ z1) r
  refine I.call (g':=s.gens) (d':=s.drawn) (t':=s.toks) (ch:=[z,TO,i1,i2,TI]) ⟨fun b o q n _ hx=>hko b o hx q,fun b o q n _ hx=>⟨o.slots,hko b o hx q⟩,fun b o q n hx=>n,fun b o q hx=>⟨o,hko b o hx q⟩,fun b ys q=>q,fun b o ys q=>q,fun b ps q=>⟨#[],by rw [q];simp⟩⟩ hok I.bare fun b hb=>?_
  obtain⟨f0,f1,f2,f3,f4,f5⟩:=hf b hb
  exact⟨f3,f1,f4,f5⟩
 self:=fun _ _ _ _ _ st h=>wpAny_pyIter_zip st.1 h
theorem Zie {n a b:Nat}(la:a<n)(lb:b<n):ZipApart (n+4) (n+2) (n+3) n (n+1) a b:=⟨by intro h;have h':@Eq Nat _ _:=h;omega,by intro h;have h':@Eq Nat _ _:=h;omega,by intro h;have h':@Eq Nat _ _:=h;omega,by intro h;have h':@Eq Nat _ _:=h;omega,by intro h;have h':@Eq Nat _ _:=h;omega,by intro h;have h':@Eq Nat _ _:=h;omega,by intro h;have h':@Eq Nat _ _:=h;omega,by intro h;have h':@Eq Nat _ _:=h;omega,by intro h;have h':@Eq Nat _ _:=h;omega,by intro h;have h':@Eq Nat _ _:=h;omega,by intro h;have h':@Eq Nat _ _:=h;omega,by intro h;have h':@Eq Nat _ _:=h;omega,by intro h;have h':@Eq Nat _ _:=h;omega,by intro h;have h':@Eq Nat _ _:=h;omega,by intro h;have h':@Eq Nat _ _:=h;omega,by intro h;have h':@Eq Nat _ _:=h;omega,by intro h;have h':@Eq Nat _ _:=h;omega,by intro h;have h':@Eq Nat _ _:=h;omega⟩
section
variable {X:Cx}
noncomputable def Zk4 (K:W.Frag)(ta:TA):TI:=fun σ H R=>ta σ H fun vs H1=>∃ a b,vs=[.ref a,.ref b]/\(∃ xs,SqL K H1 a xs)/\(∃ ys,SqL K H1 b ys)/\R (Itz K a b) H1
theorem ZiN (K:W.Frag) {l l':Expr} {ta:TA} {es:List Expr} {k:Nat} {tpos p pos:Pos} (hg:Gl X "zip") (hm:X.mg "zip" = none) (ha:PA X [l,l'] ta) (hs:starEach [l,l'] X.env=(false,eval l X.env)::starEach [l'] X.env:=by rfl) (hs2:starEach [l'] X.env=[(false,eval l' X.env)]:=by rfl) (hK:X.K=K:=by rfl) :
  PI X (.Tuple es k tpos) (.Call (.Name "zip" p) [l,l'] [] pos) (Zk4 K ta):=by
 subst hK
 intro pins s σ H R I h
 refine Call_ (ld_blt I hg hm boot_zip (PyProof.Rows.callWith_type1 (thn (ha pos pins s σ H _ I h) fun us s1 ⟨vs,H1,I1,r1,q1⟩=>?_) (by rw [hs,hs2]) (by rw [hs2];rfl)))
 obtain⟨a,b,e,⟨xs,hq⟩,⟨ys,hr⟩,q⟩:=q1
 subst e
 obtain⟨u,u2,rfl,rx,ry⟩:∃ u u2,us=[u,u2]/\RelV (.ref a) u/\RelV (.ref b) u2:=by
  cases r1 with
  | cons rx t =>
   cases t with
   | cons ry t=>cases t;exact⟨_,_,rfl,rx,ry⟩
 cases (show u=Value.ref a from rx)
 cases (show u2=Value.ref b from ry)
 obtain⟨its,rv,pl,_⟩:=I1.list hq
 obtain⟨jts,rv2,pl2,_⟩:=I1.list hr
 obtain⟨oa,hoa,_⟩:=id pl.isList
 obtain⟨ob,hob,_⟩:=id pl2.isList
 have la:=Heap.lt_size hoa
 have lb:=Heap.lt_size hob
 refine call_zip_2 pl.isList pl2.isList fun h' z1 z2 z3 z4 z5 hsz hk=>?_
 refine wpAny_pyIter_zip z1 ?_
 refine⟨s1.heap.objs.size+4,[s1.heap.objs.size+4,s1.heap.objs.size+3,s1.heap.objs.size,s1.heap.objs.size+1,s1.heap.objs.size+2],_,_,H1,rfl,I1.kept (t':=s1.toks) hk,Zex a b _ _ _ _ _ (Zie la lb),⟨z1,z2,⟨_,_,z3⟩,z4,z5⟩,fun c hc=>?_,q⟩
 have hb2:s1.heap.objs.size<=c:=by
  simp only [List.mem_cons,List.not_mem_nil,or_false] at hc
  rcases hc with rfl | rfl | rfl | rfl | rfl<;>omega
 exact I1.fpOk hb2 (I1.hok.fresh hb2)
end
section
variable {t:TS}{D:WH}{σ:St}{H H₀:Hp}{ti:TA}{g:TG}{K:W.Frag}{a b:Addr}{xs ys:List V}
theorem ZhM {R:It->Hp->Prop}:Zk4 K ti σ H R=ti σ H fun vs H1=>∃ a b,vs=[.ref a,.ref b]/\(∃ xs,SqL K H1 a xs)/\(∃ ys,SqL K H1 b ys)/\R (Itz K a b) H1:=rfl
theorem Zgk (h:SqL K H₀ a xs)(h':SqL K H₀ b ys)(hl:xs.length=ys.length):Jw (Itz K a b) H₀ xs.length (fun i v H=>∃ T x y,v=.ref T/\xs[i]? = some x/\ys[i]? = some y/\H T=some (.tup [x,y])) where
 go:=fun i H s hi=>⟨xs,ys,xs[i],ys[i],s.seq h,s.seq h',List.getElem?_eq_getElem hi,List.getElem?_eq_getElem (by omega)⟩
 yld:=fun i H v H' s hi q=>by
  obtain⟨T,x,y,hT,rfl,h1,h2,rfl⟩:=q
  exact⟨Same.upd hT,T,x,y,rfl,h1 xs (s.seq h),h2 ys (s.seq h'),Zd⟩
 stop:=fun i H s hi=>⟨xs,ys,s.seq h,s.seq h',.inl hi⟩
end
end L2
namespace L2
open PySem PySem.Spec PyProof.Rows PySem.W
section
variable {X:Cx}
noncomputable def Zli (K:W.Frag):R2:=fun x y H Q=>∃ t p,∃ (a b:Int) (rs:List Addr) (qs:List (Int×Int)),x=.ref t/\y=.ref p/\SqT K H t [.int a,.int b]/\SqL K H p (rv rs)/\PrA K H rs qs/\Q (.bl (decide ((a,b)∈qs))) H
open Classical in
theorem ZjM {K:W.Frag}{x y:V}{H:Hp}{Q:VK}:Zli K x y H Q=∃ t p,∃ (a b:Int) (rs:List Addr) (qs:List (Int×Int)),x=.ref t/\y=.ref p/\SqT K H t [.int a,.int b]/\SqL K H p (rv rs)/\PrA K H rs qs/\Q (.bl (decide ((a,b)∈qs))) H:=rfl
noncomputable def Zkb (K:W.Frag)(te tk:TE):TE:=fun σ H Q=>te σ H fun x H1=>tk σ H1 fun k H2=>∃ a xs,∃ j:Int,x=.ref a/\k=.int j/\0<j/\SqL K H2 a xs/\∀ (is:List Nat) p,(is.filterMap (xs[·]?)).length<=xs.length->H2 p=none->Q (.ref p) (upd H2 p (.lst (is.filterMap (xs[·]?))))
theorem Zhx {K:W.Frag}{te tk:TE}{σ:St}{H:Hp}{Q:VK}:Zkb K te tk σ H Q=te σ H fun x H1=>tk σ H1 fun k H2=>∃ a xs,∃ j:Int,x=.ref a/\k=.int j/\0<j/\SqL K H2 a xs/\∀ (is:List Nat) p,(is.filterMap (xs[·]?)).length<=xs.length->H2 p=none->Q (.ref p) (upd H2 p (.lst (is.filterMap (xs[·]?)))):=rfl
end
end L2
namespace L2
open PySem PySem.Spec PyProof.Rows
section
variable {κ:Type}[DecidableEq κ]
noncomputable def Ug (kvs:List (κ×V))(k:κ):Option V:=(kvs.find? fun kv=>decide (kv.1=k)).map (·.2)
noncomputable def JS (kvs:List (κ×V))(k:κ)(v:V):List (κ×V) :=
 if (kvs.any fun kv=>decide (kv.1=k))=true then kvs.map (fun kv=>if kv.1=k then (kv.1,v) else kv) else kvs++[(k,v)]
theorem UM {p:κ×V}{r:List (κ×V)}{k:κ}(e:p.1=k):Ug (p::r) k=some p.2:=by simp [Ug,List.find?_cons,e]
theorem UN {p:κ×V}{r:List (κ×V)}{k:κ}(e:¬ p.1=k):Ug (p::r) k=Ug r k:=by simp [Ug,List.find?_cons,e]
theorem XE (k:κ):∀ kvs:List (κ×V),(kvs.any fun kv=>decide (kv.1=k))=(Ug kvs k).isSome
 | []=>rfl
 | p::r=>by
  rw [List.any_cons]
  by_cases e:p.1=k
  ·simp only [UM e,decide_eq_true e,Bool.true_or,Option.isSome_some]
  ·rw [UN e,decide_eq_false e,Bool.false_or];exact XE k r
theorem VT (kvs:List (κ×V))(k:κ)(v:V):(JS kvs k v).length<=kvs.length+1:=by
 unfold JS
 split
 ·rw [List.length_map];omega
 ·rw [List.length_append,List.length_cons,List.length_nil];omega
theorem Jb {kvs:List (κ×V)}{k:κ}(v:V)(h:Ug kvs k=none):JS kvs k v=kvs++[(k,v)]:=by
 unfold JS
 rw [XE,h]
 exact if_neg (by decide)
theorem RelO.isSome_eq {o:Option V}{u:Option Value}(r:RelO o u):o.isSome=u.isSome:=by
 cases o with
 | none=>cases u with
  | none=>rfl
  | some _=>exact (show False from r).elim
 | some _=>cases u with
  | none=>exact (show False from r).elim
  | some _=>rfl
theorem KV.val {kvs:List (κ×V)}{vs:List (κ×Value)}(r:KV kvs vs)(k:κ):RelO (Ug kvs k) (valueAt vs k):=by
 unfold KV at r
 induction r with
 | nil=>exact True.intro
 | @cons p q ps qs h t ih =>
  obtain⟨h1,h2⟩:=h
  by_cases e:p.1=k
  ·have e':q.1=k:=h1.symm.trans e
   have b:valueAt (q::qs) k=some q.2:=by simp [valueAt,List.find?_cons,e']
   rw [UM e,b];exact h2
  ·have e':¬ q.1=k:=fun z=>e (h1.trans z)
   have b:valueAt (q::qs) k=valueAt qs k:=by simp [valueAt,List.find?_cons,e']
   rw [UN e,b];exact ih
theorem KV.any {kvs:List (κ×V)}{vs:List (κ×Value)}(r:KV kvs vs)(k:κ):(kvs.any fun kv=>decide (kv.1=k))=vs.any fun kv=>decide (kv.1=k):=by
 unfold KV at r
 induction r with
 | nil=>rfl
 | cons h t ih=>rw [List.any_cons,List.any_cons,ih,h.1]
theorem KV.repl {kvs:List (κ×V)}{vs:List (κ×Value)}(r:KV kvs vs)(k:κ){y:V}{u:Value}(ry:RelV y u) :
  KV (kvs.map fun kv=>if kv.1=k then (kv.1,y) else kv) (vs.map fun kv=>if kv.1=k then (kv.1,u) else kv):=by
 unfold KV at r ⊢
 induction r with
 | nil=>exact .nil
 | @cons p q ps qs h t ih =>
  rw [List.map_cons,List.map_cons]
  refine .cons ?_ ih
  obtain⟨h1,h2⟩:=h
  by_cases e:p.1=k
  ·rw [if_pos e,if_pos (h1.symm.trans e)];exact⟨h1,ry⟩
  ·rw [if_neg e,if_neg (fun z=>e (h1.trans z))];exact⟨h1,h2⟩
theorem KV.put {kvs:List (κ×V)}{vs:List (κ×Value)}(r:KV kvs vs)(k:κ){y:V}{u:Value}(ry:RelV y u):KV (JS kvs k y) (stored vs k u):=by
 unfold JS stored
 rw [r.any k]
 by_cases e:(vs.any fun kv=>decide (kv.1=k))=true
 ·rw [if_pos e,if_pos e];exact r.repl k ry
 ·rw [if_neg e,if_neg e];exact Paired.snoc r ⟨rfl,ry⟩
theorem KV.length {kvs:List (κ×V)}{vs:List (κ×Value)}(r:KV kvs vs):kvs.length=vs.length:=Paired.length r
end
theorem ZdC {P:Program}{w:World}{k:Key}{u:Value}(r:RelV (kV k) u):(ZC P w).is k u=true:=by
 cases k with
 | inl i=>obtain⟨t,e⟩:=(show ∃ t,u=Value.int i t from r);subst e;exact Za9 P w i t
 | inr x=>obtain⟨t,e⟩:=(show ∃ t,u=Value.str x t from r);subst e;exact Za8 P w x t
theorem Zaq {P:Program}{w:World}:∀ {ks:List Key} {us:List Value},Vals (ks.map kV) us->ItemsAre (ZC P w) ks us
 | [],_,r=>by rw [List.map_nil] at r;cases r;exact .nil
 | k::ks,_,r=>by
  rw [List.map_cons] at r
  cases r with
  | cons h t=>exact .cons (ZdC h) (Zaq t)
noncomputable abbrev KT (H:Hp):List (List Key×V)->List (List Key×Addr×Value)->Prop:=Paired fun p q=>p.1=q.1/\H q.2.1=some (.tup (p.1.map kV))/\RelV p.2 q.2.2
theorem KT.val {H:Hp}{kvs:List (List Key×V)}{xs:List (List Key×Addr×Value)}(r:KT H kvs xs)(k:List Key):RelO (Ug kvs k) ((atKey xs k).map (·.2)):=by
 induction r with
 | nil=>exact True.intro
 | @cons p q ps qs h t ih =>
  obtain⟨h1,_,h2⟩:=h
  by_cases e:p.1=k
  ·have e':q.1=k:=h1.symm.trans e
   have b:atKey (q::qs) k=some q.2:=by simp [atKey,List.find?_cons,e']
   rw [UM e,b];exact h2
  ·have e':¬ q.1=k:=fun z=>e (h1.trans z)
   have b:atKey (q::qs) k=atKey qs k:=by simp [atKey,List.find?_cons,e']
   rw [UN e,b];exact ih
theorem KT.repl {H:Hp}{kvs:List (List Key×V)}{xs:List (List Key×Addr×Value)}(r:KT H kvs xs)(k:List Key){y:V}{u:Value}(ry:RelV y u) :
  KT H (kvs.map fun kv=>if kv.1=k then (kv.1,y) else kv) (xs.map (putAt k u)):=by
 induction r with
 | nil=>exact .nil
 | @cons p q ps qs h t ih =>
  rw [List.map_cons,List.map_cons]
  refine .cons ?_ ih
  obtain⟨h1,h2,h3⟩:=h
  unfold putAt
  by_cases e:p.1=k
  ·rw [if_pos e,if_pos (h1.symm.trans e)];exact⟨h1,h2,ry⟩
  ·rw [if_neg e,if_neg (fun z=>e (h1.trans z))];exact⟨h1,h2,h3⟩
theorem KT.put {H:Hp}{kvs:List (List Key×V)}{xs:List (List Key×Addr×Value)}(r:KT H kvs xs)(k:List Key){b:Addr}{y:V}{u:Value}(hb:H b=some (.tup (k.map kV)))(ry:RelV y u) :
  KT H (JS kvs k y) (storedH xs k b u):=by
 have e:(kvs.any fun kv=>decide (kv.1=k))=(atKey xs k).isSome:=by
  rw [XE,(r.val k).isSome_eq,Option.isSome_map]
 unfold JS storedH
 rw [e]
 by_cases q:(atKey xs k).isSome=true
 ·rw [if_pos q,if_pos q];exact r.repl k ry
 ·rw [if_neg q,if_neg q];exact Paired.snoc r ⟨rfl,hb,ry⟩
theorem KT.keeps {H H':Hp}{kvs:List (List Key×V)}{xs:List (List Key×Addr×Value)}(r:KT H kvs xs)(ht:∀ b ys,H b=some (.tup ys)->H' b=some (.tup ys)):KT H' kvs xs :=
 Paired.mapP r fun _ _ z=>⟨z.1,ht _ _ z.2.1,z.2.2⟩
section
variable {P:Program}{w:World}{H:Hp}{h:Heap}{a:Addr}
theorem Ziz {u:HO}(ok:HOk P w H h)(e:Rd H a u):ObjOk P w H h a u:=e.ok ok
theorem ZdU {kvs:List (Key×V)}(ok:HOk P w H h)(e:Rd H a (.dK kvs)):kvs.length<=sizeLine/\(a == sysModules)=false/\∃ vs,KV kvs vs/\h.DictOf (ZC P w) a vs :=
 show ObjOk P w H h a (.dK kvs) from Ziz ok e
theorem Zkx {kvs:List (Key×V)}(ok:HOk P w H h)(e:H a=some (.dK kvs)):kvs.length<=sizeLine/\(a == sysModules)=false/\∃ vs,KV kvs vs/\h.DictOf (ZC P w) a vs:=ZdU ok (.inl e)
theorem UG {ks:List Key}(ok:HOk P w H h)(e:H a=some (.tup (ks.map kV))):(tupleKind (ZC P w)).is h ks a:=by
 obtain⟨_,its,r,o,h1,h2,n,h3⟩:=(show ObjOk P w H h a (.tup (ks.map kV)) from ok a _ e)
 exact⟨o,its.toArray,n,h1,h2,h3,by simpa using Zaq r⟩
theorem Zcq {kvs:List (List Key×V)}(ok:HOk P w H h)(e:Rd H a (.dT kvs)):kvs.length<=sizeLine/\(a == sysModules)=false /\
  ∃ xs,KT H kvs xs/\h.DictOfH (tupleKind (ZC P w)) a xs:=by
 obtain⟨z,y,xs,r,o,es,ep,h1,h2,h3,h4,h5⟩:=(show ObjOk P w H h a (.dT kvs) from Ziz ok e)
 refine⟨z,y,xs,r,o,es,ep,h1,h2,h3,h4,fun x hx=>?_,h5⟩
 have all:∀ {l:List (List Key×V)} {m:List (List Key×Addr×Value)},KT H l m->∀ x∈m,(tupleKind (ZC P w)).is h x.1 x.2.1:=by
  intro l m q
  induction q with
  | nil=>intro x hx;exact nomatch hx
  | @cons p q ps qs hq t ih =>
   intro x hx
   rcases List.mem_cons.mp hx with e | hx
   ·subst e
    exact UG ok (by rw [<- hq.1];exact hq.2.1)
   ·exact ih x hx
 exact all r x hx
theorem Zfo {kvs:List (List Key×V)}(ok:HOk P w H h)(e:H a=some (.dT kvs)):kvs.length<=sizeLine/\(a == sysModules)=false /\
  ∃ xs,KT H kvs xs/\h.DictOfH (tupleKind (ZC P w)) a xs:=Zcq ok (.inl e)
end
noncomputable def DGet (H:Hp)(a:Addr)(y:V)(r:Option V):Prop :=
 (∃ kvs k,Rd H a (.dK kvs)/\y=kV k/\r=Ug kvs k)\/∃ kvs k b,Rd H a (.dT kvs)/\y=.ref b/\H b=some (.tup (k.map kV))/\r=Ug kvs k
noncomputable def DPut (H:Hp)(a:Addr)(y v:V)(H':Hp):Prop :=
 (∃ kvs k,H a=some (.dK kvs)/\y=kV k/\kvs.length<sizeLine/\H'=upd H a (.dK (JS kvs k v))) \/
 ∃ kvs k b,H a=some (.dT kvs)/\y=.ref b/\H b=some (.tup (k.map kV))/\kvs.length<sizeLine/\H'=upd H a (.dT (JS kvs k v))
theorem DGet.t {H:Hp}{a b:Addr}{kvs:List (List Key×V)}{k:List Key}(e:H a=some (.dT kvs))(eb:H b=some (.tup (k.map kV))):DGet H a (.ref b) (Ug kvs k):=.inr ⟨kvs,k,b,.inl e,rfl,eb,rfl⟩
theorem DPut.t {H:Hp}{a b:Addr}{kvs:List (List Key×V)}{k:List Key}{v:V}(e:H a=some (.dT kvs))(eb:H b=some (.tup (k.map kV)))(hl:kvs.length<sizeLine) :
  DPut H a (.ref b) v (upd H a (.dT (JS kvs k v))):=.inr ⟨kvs,k,b,e,rfl,eb,hl,rfl⟩
section
variable {X:Cx}{pins:List (Addr×Obj)}{σ:St}{H:Hp}{s:Shared}{a:Addr}{y v:V}{u r:Value}{o:Option V}{A:Around}{E:Value->Shared->Prop}
theorem Inv.big (I:Inv X pins σ H s):sysModules<s.heap.objs.size:=by
 have h:mainGlobals<s.heap.objs.size:=(I.mod.glob.keeps I.bk).lt
 exact Nat.lt_trans (by decide) h
theorem ZdZ {Q:Value->Shared->Prop}(hu:A.units+1<cLine)(I:Inv X pins σ H s)(g:DGet H a y (some v))(ry:RelV y u)(h:∀ w' s',Inv X pins σ H s'->RelV v w'->Q w' s') :
  wpAny (model X.prog X.w) A (getItem (.ref a) u) Q E s:=by
 rcases g with ⟨kvs,k,e,ey,l⟩ | ⟨kvs,k,b,e,ey,eb,l⟩
 ·subst ey
  obtain⟨z,hd,vs,rel,dd⟩:=ZdU I.hok e
  obtain⟨w',hw,rw'⟩:=RelO.some_of (v:=v) (o:=valueAt vs k) (by rw [l];exact rel.val k)
  exact wpAny_getItem_of (ZdC ry) dd.mapOf hw (h w' _ (I.tok _) rw')
 ·subst ey
  cases (show u=Value.ref b from ry)
  obtain⟨z,hd,xs,rel,dd⟩:=Zcq I.hok e
  obtain⟨w',hw,rw'⟩:=RelO.some_of (v:=v) (o:=(atKey xs k).map (·.2)) (by rw [l];exact rel.val k)
  obtain⟨p,hp,hp2⟩:=Option.map_eq_some_iff.mp hw
  refine wpAny_getItem_heap (tupleKind_room_in1 hu) (UG I.hok eb) dd hp ?_
  rw [hp2]
  exact h w' _ (I.tok _) rw'
theorem Zll {Q:Value->Shared->Prop}(hu:A.units+1<cLine)(I:Inv X pins σ H s)(g:DGet H a y o)(ry:RelV y u)(h:∀ s',Inv X pins σ H s'->Q (.bool o.isSome) s') :
  wpAny (model X.prog X.w) A (compareOp .In u (.ref a)) Q E s:=by
 rcases g with ⟨kvs,k,e,ey,l⟩ | ⟨kvs,k,b,e,ey,eb,l⟩
 ·subst ey
  obtain⟨z,hd,vs,rel,dd⟩:=ZdU I.hok e
  refine wpAny_in_of (ZdC ry) hd dd.mapOf ?_
  rw [<- (rel.val k).isSome_eq,<- l]
  exact h _ (I.tok _)
 ·subst ey
  cases (show u=Value.ref b from ry)
  obtain⟨z,hd,xs,rel,dd⟩:=Zcq I.hok e
  refine wpAny_in_heap (tupleKind_room_in1 hu) (UG I.hok eb) hd dd ?_
  have q:=(rel.val k).isSome_eq
  rw [Option.isSome_map] at q
  rw [<- q,<- l]
  exact h _ (I.tok _)
theorem Zhm {Q:Value->Shared->Prop}(hu:A.units+1<cLine)(I:Inv X pins σ H s)(g:DGet H a y o)(ry:RelV y u)(h:∀ s',Inv X pins σ H s'->Q (.bool (!o.isSome)) s') :
  wpAny (model X.prog X.w) A (compareOp .NotIn u (.ref a)) Q E s:=by
 rcases g with ⟨kvs,k,e,ey,l⟩ | ⟨kvs,k,b,e,ey,eb,l⟩
 ·subst ey
  obtain⟨z,hd,vs,rel,dd⟩:=ZdU I.hok e
  refine wpAny_notIn_of (ZdC ry) hd dd.mapOf ?_
  rw [<- (rel.val k).isSome_eq,<- l]
  exact h _ (I.tok _)
 ·subst ey
  cases (show u=Value.ref b from ry)
  obtain⟨z,hd,xs,rel,dd⟩:=Zcq I.hok e
  refine wpAny_notIn_heap (tupleKind_room_in1 hu) (UG I.hok eb) hd dd ?_
  have q:=(rel.val k).isSome_eq
  rw [Option.isSome_map] at q
  rw [<- q,<- l]
  exact h _ (I.tok _)
theorem Jq {h':Heap}{t':Nat}{ob:HO}(I:Inv X pins σ H s)(mu:Mut (H a))(hs:Heap.SameBut a s.heap h')(he:∃ q,h'.get? a=some q)(new:ObjOk X.prog X.w (upd H a ob) h' a ob) :
  Inv X pins σ (upd H a ob) { s with heap:=h',toks:=t' } :=
 I.write (x:=a) (e:=a) mu (.inl rfl) (fun b q hb z=>(hs.2 b hb).trans z) he new
theorem Zjn {P:Program}{w:World}{H':Hp}{h':Heap}{kvs:List (Key×V)}{vs:List (Key×Value)}(z:kvs.length<=sizeLine)(hd:(a == sysModules)=false)(rel:KV kvs vs)(dd:h'.DictOf (ZC P w) a vs) :
  ObjOk P w H' h' a (.dK kvs):=⟨z,hd,vs,rel,dd⟩
theorem ZdY {H':Hp}{Q:Unit->Shared->Prop}(hu:A.units+1<cLine)(I:Inv X pins σ H s)(g:DPut H a y v H')(ry:RelV y u)(rv:RelV v r)(h:∀ s',Inv X pins σ H' s'->Q () s') :
  wpAny (model X.prog X.w) A (setItem (.ref a) u r) Q E s:=by
 rcases g with ⟨kvs,k,e,ey,l,eH⟩ | ⟨kvs,k,b,e,ey,eb,l,eH⟩
 ·subst ey eH
  obtain⟨z,hd,vs,rel,dd⟩:=Zkx I.hok e
  have hz:vs.length<=sizeLine:=by rw [<- rel.length];exact z
  have hl:(JS kvs k v).length<=sizeLine:=by have:=VT kvs k v;omega
  refine wpAny_setItem_pairs (hsz:=hz) (ZdC ry) dd fun h' dd' hs=>h _ ?_
  have he:∃ q,h'.get? a=some q:=let ⟨q,_,_,hq,_⟩:=dd';⟨q,hq⟩
  exact Jq I (by rw [e];exact True.intro) hs he (Zjn hl hd (rel.put k rv) dd')
 ·subst ey eH
  cases (show u=Value.ref b from ry)
  obtain⟨z,hd,xs,rel,dd⟩:=Zfo I.hok e
  have hz:xs.length<=sizeLine:=by rw [<- Paired.length rel];exact z
  have hl:(JS kvs k v).length<=sizeLine:=by have:=VT kvs k v;omega
  refine wpAny_setItem_heap (hsz:=hz) (tupleKind_room_in1 hu) (UG I.hok eb) dd fun h' dd' hs=>h _ ?_
  obtain⟨q,es,ep,hq,h2,h3,h4,_,h5⟩:=dd'
  refine Jq I (by rw [e];exact True.intro) hs ⟨q,hq⟩ ⟨hl,hd,_,(rel.put k eb rv).keeps fun c ys ec=>?_,q,es,ep,hq,h2,h3,h4,h5⟩
  rw [Zh (ZeS ec e (fun z=>nomatch z))]
  exact ec
end
section
variable {X:Cx}{pins:List (Addr×Obj)}{σ:St}{H:Hp}{s:Shared}{a:Addr}{kvs:List (Key×V)}{k:Key}{u:Value}{A:Around}{E:Value->Shared->Prop}
end
noncomputable def Zla (i:Expr):Prop:=∀ ov iv,subscripted i false ov iv=operate [ov,iv] (getItem ov iv)
theorem subD_of {prog:Program}{w:World}{A:Around}{E:Value->Shared->Prop}{s:Shared}{env:Env}{value slice:Expr}{pos:Pos}{T id:String}{Q:Value->Shared->Prop}
  (hl:typeLookup (.type T) "__getitem__" = pure (some (.builtin id))) (hs:Zla slice)
  (h:wpAny (model prog w) A (eval value env) (fun o s₁=>wpAny (model prog w) A (eval slice env) (fun i s₂=>s₂.TypeIs o T/\wpAny (model prog w) A (getItem o i) Q E s₂) E s₁) E s) :
  wpAny (model prog w) A (eval (.Subscript value slice pos) env) Q E s:=by
 refine Subscript_ (wpAny_mono h (fun o s₁ h₁=>wpAny_mono h₁ (fun i s₂ h₂=>?_) fun _ _ x=>x) fun _ _ x=>x)
 obtain⟨hT,h₂⟩:=h₂
 unfold subscriptTail
 refine wpAny_bind ?_
 rw [getitemInPython_of_ne hT.not_modules]
 refine wpAny_bind (wpAny_specialOf hT hl ?_)
 have fin:wpAny (model prog w) A (subscripted slice false o i) (fun r s₃=>wpAny (model prog w) A (letTemporaryGo value o r >>= fun _=>pure r) Q E s₃) E s₂:=by
  rw [hs o i]
  exact wpAny_operating (wpAny_mono h₂ (fun r s₃ h₃=>wpAny_bind (wpAny_letTemporaryGo (wpAny_pure h₃))) fun _ _ x=>x)
 first
  | exact wpAny_pure (wpAny_bind fin)
  | exact wpAny_bind (wpAny_pure (wpAny_bind fin))
  | exact wpAny_bind fin
theorem Zbo {X:Cx} {pins:List (Addr×Obj)} {σ:St} {H:Hp} {s:Shared} {a:Addr} {y:V} {o:Option V} (I:Inv X pins σ H s) (g:DGet H a y o):s.TypeIs (.ref a) "dict" := by
 rcases g with ⟨kvs,k,e,_,_⟩ | ⟨kvs,k,b,e,_,_,_⟩
 ·obtain⟨_,_,vs,_,dd⟩:=ZdU I.hok e
  exact dd.typeIs
 ·obtain⟨_,_,xs,_,dd⟩:=Zcq I.hok e
  exact dd.typeIs
noncomputable def Zis (td ty:TE):TE:=fun σ H Q=>td σ H fun x H1=>ty σ H1 fun y H2=>∃ a v,x=.ref a/\DGet H2 a y (some v)/\Q v H2
noncomputable def ZkY (ty td:TE):TE:=fun σ H Q=>ty σ H fun y H1=>td σ H1 fun x H2=>∃ a o,x=.ref a/\DGet H2 a y o/\Q (.bl o.isSome) H2
noncomputable def ZcO (ty td:TE):TE:=fun σ H Q=>ty σ H fun y H1=>td σ H1 fun x H2=>∃ a o,x=.ref a/\DGet H2 a y o/\Q (.bl (!o.isSome)) H2
noncomputable def Zix (td ty tv:TE):TS:=fun D σ H=>tv σ H fun v H1=>td σ H1 fun x H2=>ty σ H2 fun y H3=>∃ a H4,x=.ref a/\DPut H3 a y v H4/\D.nx σ H4
section
variable {X:Cx}{o i e value:Expr}{pos pos' tpos:Pos}{td ty tv:TE}
theorem Zdg (hu:X.A.units+1<cLine)(ho:PE X o td)(hi:PE X i ty)(hs:Zla i):PE X (.Subscript o i pos) (Zis td ty):=by
 intro pins s σ H Q I h
 refine subD_of PySem.F.slot_dict_getitem.lookup hs (thn (ho pins s σ H _ I h) fun u s1 ⟨x,H1,I1,rx,q1⟩=>thn (hi pins s1 σ H1 _ I1 q1) fun iv s2 ⟨y,H2,I2,ry,a,v,ex,g,q2⟩=>?_)
 subst ex
 obtain rfl:u=Value.ref a:=rx
 exact⟨Zbo I2 g,ZdZ hu I2 g ry fun w' s3 I3 rw'=>⟨v,H2,I3,rw',q2⟩⟩
theorem Zdi (hu:X.A.units+1<cLine)(hi:PE X i ty)(ho:PE X o td):PC X .In i o (ZkY ty td):=by
 intro pins s σ H Q I h
 refine thn (hi pins s σ H _ I h) fun iv s1 ⟨y,H1,I1,ry,q1⟩=>thn (ho pins s1 σ H1 _ I1 q1) fun u s2 ⟨x,H2,I2,rx,a,ov,ex,g,q2⟩=>?_
 subst ex
 obtain rfl:u=Value.ref a:=rx
 exact Zll hu I2 g ry fun s3 I3=>⟨.bl ov.isSome,H2,I3,rfl,q2⟩
theorem VI (hu:X.A.units+1<cLine)(hi:PE X i ty)(ho:PE X o td):PC X .NotIn i o (ZcO ty td):=by
 intro pins s σ H Q I h
 refine thn (hi pins s σ H _ I h) fun iv s1 ⟨y,H1,I1,ry,q1⟩=>thn (ho pins s1 σ H1 _ I1 q1) fun u s2 ⟨x,H2,I2,rx,a,ov,ex,g,q2⟩=>?_
 subst ex
 obtain rfl:u=Value.ref a:=rx
 exact Zhm hu I2 g ry fun s3 I3=>⟨.bl (!ov.isSome),H2,I3,rfl,q2⟩
theorem Zc5 (hu:X.A.units+1<cLine)(ho:PE X o td)(hi:PE X i ty)(hv:PE X value tv)(hs:swapsWith value (some (.Subscript o i pos')) pos.line X.env=pure false) :
  PS X (.Assign [.Subscript o i pos'] value pos) (Zix td ty tv):=by
 intro pins s σ H D I h
 refine wpAny_Assign_Subscript (thn (hv pins s σ H _ I h) fun r s1 ⟨v,H1,I1,rv,q1⟩=>thn (ho pins s1 σ H1 _ I1 q1) fun u s2 ⟨x,H2,I2,rx,q2⟩=>thn (hi pins s2 σ H2 _ I2 q2) fun iv s3 ⟨y,H3,I3,ry,a,H4,ex,g,q3⟩=>?_) hs
 subst ex
 obtain rfl:u=Value.ref a:=rx
 exact ZdY hu I3 g ry rv fun s4 I4=>⟨σ,H4,I4,q3⟩
end
theorem ZbS {P:Program} {w:World} {H:Hp} (h:Heap) (hb:sysModules<h.objs.size):ObjOk P w H (h.push { cls:=.type "dict",data:=.dict #[] }) h.objs.size (.dT []) :=
 ⟨Nat.zero_le _,beq_eq_false_iff_ne.mpr (Ne.symm (Nat.ne_of_lt hb)),[],.nil,_,#[],0,Heap.get?_push_size _ rfl,⟨rfl,rfl,rfl⟩,rfl,rfl,List.nodup_nil⟩
noncomputable def Zf3:TE:=fun _ H Q=>∀ p,H p=none->Q (.ref p) (upd H p (.dT []))
section
variable {X:Cx}{pos:Pos}
theorem Je:PE X (.Dict [] [] pos) Zf3:=fun pins s σ H Q I h =>
 wpAny_Dict_empty ⟨.ref s.heap.objs.size,_,I.laid (a:=s.heap.objs.size) (o:=.dT []) (t':=s.toks) (fun _ _ q=>Heap.get?_push_of_some _ q) (Nat.le_refl _) (ZbS s.heap I.big),rfl,h _ (I.hok.fresh (Nat.le_refl _))⟩
end
noncomputable def Zf0:List (TE×TE)->St->Hp->(List (V×V)->Hp->Prop)->Prop
 | [],_,H,Q=>Q [] H
 | (tk,tv)::r,σ,H,Q=>tk σ H fun x H1=>tv σ H1 fun y H2=>Zf0 r σ H2 fun ps H3=>Q ((x,y)::ps) H3
noncomputable abbrev VV:List (V×V)->List (Value×Value)->Prop:=Paired fun p q=>RelV p.1 q.1/\RelV p.2 q.2
noncomputable def PPs (X : Cx) (pos : Pos) (keys : List (Option Expr)) (values : List Expr) (trs : List (TE × TE)) : Prop :=
  ∀ (pins : List (Addr × Obj)) (s : Shared) (σ : St) (H : Hp) (Q : List (V × V) -> Hp -> Prop), Inv X pins σ H s -> Zf0 trs σ H Q ->
    wpAny (model X.prog X.w) X.A (evalPairs (pairTrees keys values X.env pos)) (fun vs s' => ∃ ps H', Inv X pins σ H' s' ∧ VV ps vs ∧ Q ps H') X.xe s
theorem ZgR {X:Cx}{pos:Pos}:PPs X pos [] [] []:=fun pins s σ H Q I h=>pairTrees_nil_walk ⟨[],H,I,.nil,h⟩
theorem ZeD {X:Cx}{pos:Pos}{k v:Expr}{ks:List (Option Expr)}{vs:List Expr}{tk tv:TE}{trs:List (TE×TE)}(hk:PE X k tk)(hv:PE X v tv)(hr:PPs X pos ks vs trs) :
  PPs X pos (some k::ks) (v::vs) ((tk,tv)::trs):=fun pins s σ H Q I h =>
 pairTrees_cons_walk (thn (hk pins s σ H _ I h) fun u s1 ⟨x,H1,I1,rx,q1⟩=>thn (hv pins s1 σ H1 _ I1 q1) fun w2 s2 ⟨y,H2,I2,ry,q2⟩ =>
  thn (hr pins s2 σ H2 _ I2 q2) fun ws s3 ⟨ps,H3,I3,rel,q3⟩=>⟨(x,y)::ps,H3,I3,.cons ⟨rx,ry⟩ rel,q3⟩)
section
variable {X:Cx}{pins:List (Addr×Obj)}{σ:St}{H:Hp}{s:Shared}{a:Addr}{y d:V}{u r:Value}{o:Option V}{A:Around}{E:Value->Shared->Prop}
end
section
variable {X:Cx}{o e f:Expr}{apos cpos:Pos}{td ty tx:TE}
end
section
variable {X:Cx}{pins:List (Addr×Obj)}{σ:St}{H:Hp}{s:Shared}{a:Addr}{kvs:List (Key×V)}{A:Around}{E:Value->Shared->Prop}
end
section
variable {X:Cx}{pins:List (Addr×Obj)}{σ:St}{H:Hp}{s:Shared}{a:Addr}{y:V}{u:Value}{A:Around}{E:Value->Shared->Prop}
end
section
variable {X:Cx}
end
section
variable {κ:Type}[DecidableEq κ]
theorem Zew {kvs:List (κ×V)}{k:κ}(h:Ug kvs k=none):¬ k∈kvs.map (·.1):=by
 intro m
 obtain⟨p,hp,e⟩:=List.mem_map.mp m
 have q:(kvs.any fun kv=>decide (kv.1=k))=true:=List.any_eq_true.mpr ⟨p,hp,decide_eq_true e⟩
 rw [XE,h] at q
 exact absurd q (by simp)
theorem Zgz {kvs:List (κ×V)}{k:κ}{v:V}(h:Ug kvs k=some v):k∈kvs.map (·.1):=by
 have q:(kvs.any fun kv=>decide (kv.1=k))=true:=by
  rw [XE,h]
  all_goals rfl
 obtain⟨p,hp,e⟩:=List.any_eq_true.mp q
 exact List.mem_map.mpr ⟨p,hp,of_decide_eq_true e⟩
end
end L2
namespace L2
open PySem PySem.Spec PyProof.Rows PySem.W
namespace DO
section
variable {prog:Program}{w:World}{A:Around}{E:Value->Shared->Prop}{s:Shared}
end
section
variable {prog:Program}{w:World}{A:Around}{R:Result->Shared->Prop}{I:Addr}{fp wr:List Addr}{G:Array GenState->Array GenState->Prop}{n:Nat}{P:Nat->Value->Prop}{St:Nat->Shared->Prop}
end
section
variable {prog:Program}{w:World}{A:Around}{E:Value->Shared->Prop}{s:Shared}
end
end DO
section
variable {X:Cx}
end
end L2
namespace L2
open PySem PySem.Spec PyProof.Rows PySem.W
section
variable {X:Cx}{k:Nat}{C:Addr}{ps:List Str}{sp:Sp}{x m f:Str}{p pos pos' apos:Pos}{e o value:Expr}{es:List Expr}{ta tv:TE}{t:TA}
end
section
variable {C:Addr}{m f:Str}{sp:Sp}{ta tv:TE}{t:TA}{σ:St}{H:Hp}{Q:VK}{D:WH}
end
section
variable {X:Cx}{C:Addr}{x:Str}{p pos:Pos}
end
theorem piT {X:Cx}(K:W.Frag){tg l:Expr}{tl:TE}(hl:PE X l tl)(hK:X.K=K:=by rfl):PI X tg l (Zks K tl):=by subst hK;exact ZiL hl
theorem ZhN {K:W.Frag}{tl:TE}{σ:St}{H:Hp}{R:It->Hp->Prop}:Zks K tl σ H R=tl σ H fun x H1=>∃ a,x=.ref a/\(∃ xs,SqT K H1 a xs)/\R (Itt K a) H1:=rfl
theorem Zjk {K:W.Frag}{a:Addr}{xs:List V}{g:TG}{t:TS}{D:WH}{σ:St}{H:Hp}(Pv:Nat->St->Hp->Prop)(h0:Pv 0 σ H)(hl:∀ i σ H,i<=xs.length->Pv i σ H->SqT K H a xs)
  (hs:∀ (i:Nat) x σ H,xs[i]? = some x->Pv i σ H->g x σ H fun σ2 H2=>t { nx:=Pv (i+1),rt:=D.rt,ct:=Pv (i+1),bk:=D.nx } σ2 H2) (hd:∀ σ H,Pv xs.length σ H->D.nx σ H):FG (Itt K a) g t D σ H:=Zhi Pv h0 hl hs hd
noncomputable def iOr (t u:TI):TI:=fun σ H R=>t σ H R\/u σ H R
theorem Zj0 {X:Cx}{tg l:Expr}{t u:TI}(h:PI X tg l t)(k:PI X tg l u):PI X tg l (iOr t u):=by
 intro pins s σ H R I q
 exact q.elim (h pins s σ H R I) (k pins s σ H R I)
theorem ZjL {t u:TI}{σ:St}{H:Hp}{R:It->Hp->Prop}:iOr t u σ H R=(t σ H R\/u σ H R):=rfl
theorem ZbO {K:W.Frag}{a:Addr}{xs:List V}{g:TG}{t:TS}{D:WH}{σ:St}{H₀ H:Hp}(h:SqL K H₀ a xs\/SqT K H₀ a xs)(Pv:Nat->St->Hp->Prop)(h0:Pv 0 σ H)(hl:∀ i σ' H',Pv i σ' H'->Same H₀ H')
  (hs:∀ (i:Nat) x σ H,xs[i]? = some x->Pv i σ H->g x σ H fun σ2 H2=>t { nx:=Pv (i+1),rt:=D.rt,ct:=Pv (i+1),bk:=D.nx } σ2 H2) (hd:∀ σ H,Pv xs.length σ H->D.nx σ H) :
  ((∃ xs,SqL K H a xs)/\FG (Itl K a) g t D σ H)\/((∃ xs,SqT K H a xs)/\FG (Itt K a) g t D σ H):=by
 rcases h with h | h
 ·exact .inl ⟨⟨_,(hl _ _ _ h0).seq h⟩,Wk Pv h0 (fun i σ' H' hi p=>(hl i σ' H' p).seq h) hs hd⟩
 ·exact .inr ⟨⟨_,(hl _ _ _ h0).tup h⟩,Zjk Pv h0 (fun i σ' H' hi p=>(hl i σ' H' p).tup h) hs hd⟩
end L2
namespace L2
open PySem PySem.Spec PyProof.Rows PySem.W Att
theorem Vc:∀ {ns:List Int} {us:List Value},Vals (ns.map V.int) us->IntsAre us ns
 | [],_,.nil=>.nil
 | n::ns,_,.cons r t=>by
  obtain⟨k,rfl⟩:=r
  exact .cons n k (Vc t)
theorem ZaB:∀ (xs acc:List Int),(acc++xs).Nodup->(xs.foldl step_dedup acc).length=acc.length+xs.length
 | [],acc,_=>rfl
 | x::xs,acc,h=>by
  have hx:x∉acc:=fun z=>by
   rw [List.nodup_append] at h
   exact h.2.2 x z x List.mem_cons_self rfl
  have e:step_dedup acc x=acc++[x]:=by
   unfold step_dedup
   rw [if_neg]
   simpa using hx
  rw [List.foldl_cons,e,ZaB xs (acc++[x]) (by rw [List.append_assoc];exact h)]
  simp
  omega
theorem Zaz {ns:List Int}{k:Nat}(hk:k=ns.length)(h:ns.Nodup):(firstMet (fun i=>ns.getD i 0) k).length=ns.length:=by
 have e:(List.range k).map (fun i=>ns.getD i 0)=ns:=by
  subst hk
  apply List.ext_getElem
  ·simp
  ·intro i h1 h2
   simp [List.getElem?_eq_getElem h2]
 unfold firstMet
 rw [e,ZaB ns [] h]
 simp
section
variable {X:Cx}
noncomputable def Zk0 (K:W.Frag):List V->Hp->VK->Prop:=fun xs H Q=>∃ p,∃ ns:List Int,xs=[.ref p]/\SqL K H p (ns.map V.int)/\ns.length<=4000/\∀ l S n,H l=none->(ns.Nodup->n=ns.length)->Q (.ref l) (upd H l (.set S n))
theorem callSet (K:W.Frag) (hc:X.calm=true) (hK:X.K=K:=by rfl):XD X (.type "set") (Zk0 K):=by
 subst hK
 intro pins s σ H xs us Q I r h
 obtain⟨p,ns,rfl,hq,hl,k⟩:=h
 obtain⟨u,rfl,ru⟩:=WI r
 cases (show u=Value.ref p from ru)
 obtain⟨its,rv,pl,hz⟩:=I.list hq
 have hsz:its.toArray.size=its.length:=List.size_toArray
 have hln:its.length=ns.length:=by rw [<- rv.length,List.length_map]
 refine call_set_list (I.ok.hd hc) pl.isList (ns:=ns) (Vc rv) (by rw [hsz,hln];unfold scanBound;omega) fun h' tk hS kk=>?_
 have hn:H s.heap.objs.size=none:=I.hok.fresh (Nat.le_refl _)
 exact⟨.ref s.heap.objs.size,_,I.laid (o:=.set _ _) (t':=tk) (fun b o e=>kk b o (Heap.lt_size e) e) (Nat.le_refl _) hS,rfl,k _ _ _ hn fun hnd=>Zaz (by rw [hsz,hln]) hnd⟩
noncomputable def ZiD:List V->Hp->VK->Prop:=fun xs H Q=>∃ p S n,xs=[.ref p]/\H p=some (.set S n)/\Q (.int n) H
theorem Zfv:XD X (.builtin "len") ZiD:=by
 intro pins s σ H xs us Q I r h
 obtain⟨p,S,n,rfl,hq,q⟩:=h
 obtain⟨u,rfl,ru⟩:=WI r
 cases (show u=Value.ref p from ru)
 obtain⟨o,es,ep,t,e1,e2,e3,_,_,e4,e5,rfl⟩:s.heap.SetOf (intKind X.prog X.w) p S n:=I.hok _ _ hq
 exact call_len_set e1 e2 e3 e5 (by unfold scanBound at e4;omega) ⟨.int es.size,H,I.tok _,⟨s.toks+1,rfl⟩,q⟩
theorem ZhE {K:W.Frag}{xs:List V}{H:Hp}{Q:VK}:Zk0 K xs H Q=∃ p,∃ ns:List Int,xs=[.ref p]/\SqL K H p (ns.map V.int)/\ns.length<=4000/\∀ l S n,H l=none->(ns.Nodup->n=ns.length)->Q (.ref l) (upd H l (.set S n)):=rfl
theorem ZfE {xs:List V}{H:Hp}{Q:VK}:ZiD xs H Q=∃ p S n,xs=[.ref p]/\H p=some (.set S n)/\Q (.int n) H:=rfl
end
end L2
namespace OM
structure Mat (ties:List Nat)(tk:List (Option Nat)):Prop where
 len:tk.length=ties.length
 tie:∀ l r:Nat,tk[l]? = some (some r)->(ties.getD l 0).testBit r=true
 inj:∀ l m r:Nat,tk[l]? = some (some r)->tk[m]? = some (some r)->l=m
noncomputable def Cl (ties:List Nat)(tk:List (Option Nat))(U T:Nat->Prop):Prop:=(∀ l,U l->∀ r,(ties.getD l 0).testBit r=true->T r)/\∀ r,T r->∃ l,U l/\tk[l]? = some (some r)
structure Src (ties:List Nat)(tk:List (Option Nat))(lefts:List Nat)(kv:List (Nat×Nat)):Prop where
 nd:(kv.map (·.1)).Nodup
 src:∀ (i r l:Nat),kv[i]? = some (r,l)->l<ties.length/\(ties.getD l 0).testBit r=true/\(l∈lefts\/∃ j q m:Nat,j<i/\kv[j]? = some (q,m)/\tk[l]? = some (some q))
noncomputable def Zia (kv:List (Nat×Nat))(r:Nat):Prop:=r∈kv.map (·.1)
noncomputable def Zka (tk:List (Option Nat))(r:Nat):Option Nat:=(List.range tk.length).find? fun l=>decide (tk[l]? = some (some r))
noncomputable def more (tk:List (Option Nat))(rs:List Nat):List Nat:=rs.filterMap (Zka tk)
structure MInv (ties:List Nat)(i:Nat)(tk:List (Option Nat)):Prop where
 m:Mat ties tk
 rest:∀ l:Nat,i<=l->l<ties.length->tk[l]? = some none
 cert:∃ U T,Cl ties tk U T/\∀ l:Nat,l<i->tk[l]? = some none->U l
end OM
namespace OM
inductive Run {α:Type} (f:α->Option α):α->α->Prop
 | stop {a:α}:f a=none->Run f a a
 | go {a b c:α}:f a=some b->Run f b c->Run f a c
noncomputable instance {kv:List (Nat×Nat)} {r:Nat}:Decidable (Zia kv r):=inferInstanceAs (Decidable (r∈kv.map (·.1)))
noncomputable def Vw (kv:List (Nat×Nat))(r:Nat):Nat:=((kv.find? fun p=>decide (p.1=r)).map (·.2)).getD 0
theorem Jf:∀ {xs ys:List Nat},xs.Nodup->(∀ x∈xs,x∈ys)->xs.length<=ys.length
 | [],_,_,_=>Nat.zero_le _
 | x::xs,ys,hn,hs=>by
  obtain⟨h1,h2⟩:=List.nodup_cons.mp hn
  have hx:=hs x List.mem_cons_self
  have ih:=Jf (ys:=ys.erase x) h2 fun y hy=>by
   have hne:y≠x:=fun z=>h1 (z▸hy)
   exact (List.mem_erase_of_ne hne).mpr (hs y (List.mem_cons_of_mem _ hy))
  rw [List.length_erase_of_mem hx] at ih
  have:=List.length_pos_of_mem hx
  rw [List.length_cons]
  omega
end OM
namespace OM
section
variable {n:Nat}{ds:List Nat}{tk:List (Option Nat)}
structure Ch (tk:List (Option Nat))(a:Nat)(c:List Nat):Prop where
 ne:c≠[]
 hd:c[0]? = some a
 nx:∀ k t u:Nat,c[k]? = some t->c[k+1]? = some u->tk[t]? = some (some u)
end
end OM
namespace L2
open PySem PySem.Spec PyProof.Rows
section
variable {X:Cx}{tg:Expr}
end
section
variable {t:TS}{D:WH}{σ:St}{H H₀:Hp}{td:TE}{g:TG}{K:W.Frag}{a:Addr}{o:Obj}{kvs:List (Key×V)}
theorem ZhY {ty:TE}{Q:VK}:Zis td ty σ H Q=td σ H fun x H1=>ty σ H1 fun y H2=>∃ a v,x=.ref a/\DGet H2 a y (some v)/\Q v H2:=rfl
theorem ZjR {ty:TE}{Q:VK}:ZkY ty td σ H Q=ty σ H fun y H1=>td σ H1 fun x H2=>∃ a o,x=.ref a/\DGet H2 a y o/\Q (.bl o.isSome) H2:=rfl
theorem Zeg {ty:TE}{Q:VK}:ZcO ty td σ H Q=ty σ H fun y H1=>td σ H1 fun x H2=>∃ a o,x=.ref a/\DGet H2 a y o/\Q (.bl (!o.isSome)) H2:=rfl
theorem ZhX {ty tv:TE}:Zix td ty tv D σ H=tv σ H fun v H1=>td σ H1 fun x H2=>ty σ H2 fun y H3=>∃ a H4,x=.ref a/\DPut H3 a y v H4/\D.nx σ H4:=rfl
end
end L2
namespace L2
open PySem PySem.Spec PyProof.Rows PySem.W
noncomputable def oV:Option Nat->V
 | none=>.non
 | some r=>.int (r:Nat)
noncomputable def ov (tk:List (Option Nat)):List V:=tk.map oV
end L2
namespace L2
open PySem
theorem huD {A:Around}(h:A.units+60<cLine):A.units+1<cLine:=by omega
end L2
namespace L2
open PySem PySem.Spec PyProof.Rows PyProof.Rows.Tim PySem.W
noncomputable def KeysAt (h:Heap)(d:Addr)(ks:List Value)(ep:Nat):Prop:=∃ o es,h.get? d=some o/\o.ExactDict/\o.data=.dict es ep/\es.toList.map (·.key)=ks
section
variable {prog:Program}{w:World}{A:Around}{E:Value->Shared->Prop}{s:Shared}{d it:Addr}{ks:List Value}{ep i:Nat}
theorem KeysAt.to {h h':Heap}(x:KeysAt h d ks ep)(e:∀ o,h.get? d=some o->h'.get? d=some o):KeysAt h' d ks ep:=let ⟨o,es,ho,r⟩:=x;⟨o,es,e o ho,r⟩
theorem KeysAt.lt {h:Heap}(x:KeysAt h d ks ep):d<h.objs.size:=let ⟨_,_,ho,_⟩:=x;Heap.lt_size ho
theorem KeysAt.isD (x:KeysAt s.heap d ks ep):s.TypeIs (.ref d) "dict" := let ⟨o,_,ho,hc,_⟩:=x;⟨o,ho,hc.1⟩
theorem Zdz {Q:Value->Shared->Prop} (hd:(d == sysModules)=false) (x:KeysAt s.heap d ks ep) (h:Q (.ref s.heap.objs.size) { s with heap:=s.heap.push { cls:=.type "dict_keyiterator",data:=.fields #[.ref d,.int 0 0,.int ks.length 0,.int ep 0] } }) :
  wpAny (model prog w) A (pyIter (.ref d)) Q E s:=by
 obtain⟨o,es,ho,hc,hdat,hk⟩:=id x
 refine wpAny_pyIter_slot x.isD PySem.F.slot_dict_iter (wpAny_call_entry PySem.F.slot_dict_iter x.isD PySem.F.entry_dict_iter ?_ (PySem.F.args_dict_iter_1 _))
 unfold Builtin.«dict.__iter__» Builtin.Dict.dictSlotNone
 refine wpAny_bind (wpAny_bind (wpAny_notOrdered_dict x.isD (wpAny_pure ?_)))
 refine wpAny_bind (m:=Builtin.Dict.showsAll d) ?_
 unfold Builtin.Dict.showsAll
 rw [if_neg (fun z=>by rw [hd] at z;cases z)]
 refine wpAny_pure (wpAny_bind (wpAny_dictEntries ho hdat (wpAny_bind (wpAny_dictEpoch ho hdat ?_))))
 have e:es.size=ks.length:=by rw [<- hk,List.length_map,Array.length_toList]
 refine wpAny_bind (wpAny_newObj_type (wpAny_pure ⟨_,rfl, "dict_keyiterator",_,⟨_,Heap.get?_push_size _ rfl,rfl⟩,PySem.F.slot_dict_keyiterator_next.lookup,?_⟩))
 simpa [rawInt,e] using h
theorem Zdy {Q:Option Value->Shared->Prop}(hit:s.heap.IsKeyIter it d i ks.length ep)(x:KeysAt s.heap d ks ep)(hi:i<ks.length)
  (h:∀ h',h'.IsKeyIter it d (i+1) ks.length ep->Heap.SameBut it s.heap h'->Q (some ks[i]) { s with heap:=h' }):wpAny (model prog w) A (pyNext (.ref it)) Q E s:=by
 obtain⟨o,ho,hc,hf⟩:=id hit
 obtain⟨od,es,hod,hcd,hdat,hk⟩:=id x
 have e:es.size=ks.length:=by rw [<- hk,List.length_map,Array.length_toList]
 have hi':i<es.size:=by omega
 have ek:es[i].key=ks[i]:=by subst hk;rw [List.getElem_map,Array.getElem_toList]
 unfold pyNext
 refine wpAny_bind (wpAny_attempt (wpAny_callSpecial?_slot (name:=Str.ofString "__next__") hit.typeIs PySem.F.slot_dict_keyiterator_next (wpAny_call_entry PySem.F.slot_dict_keyiterator_next hit.typeIs PySem.F.entry_dict_keyiterator_next ?_ (PySem.F.args_dict_keyiterator_next_1 _))))
 refine wpAny_bind (wpAny_pure (wpAny_bind (wpAny_bind ?_)))
 first | refine wpAny_bind (wpAny_typeNameOfWhole_keyiter hit.typeIs (wpAny_pure ?_)) | refine wpAny_bind (wpAny_typeNameOf_keyiter hit.typeIs (wpAny_pure ?_))
 refine wpAny_bind (wpAny_fieldsOf ho hf ?_)
 simp only [show Builtin.Dict_items.ownsTuple "dict_keyiterator" = false by decide,Bool.false_eq_true,if_false]
 show wpAny _ _ (if (Value.ref d == Value.none)=true then _ else _) _ _ s
 rw [if_neg (show ¬ ((Value.ref d == Value.none)=true) from Bool.false_ne_true)]
 refine wpAny_bind (wpAny_pure (wpAny_bind (wpAny_dictEntries hod hdat ?_)))
 rw [if_neg (by rw [e];simp)]
 refine wpAny_bind (wpAny_pure (wpAny_bind (wpAny_dictEpoch hod hdat ?_)))
 rw [if_neg (by simp)]
 refine wpAny_pure ?_
 simp only [show ¬ ((i:Int)<0) from by omega,if_false,Int.toNat_natCast,Array.getElem?_eq_getElem hi']
 refine wpAny_bind ?_
 first | refine wpAny_bind (wpAny_typeNameOfWhole_keyiter hit.typeIs (wpAny_pure ?_)) | refine wpAny_bind (wpAny_typeNameOf_keyiter hit.typeIs (wpAny_pure ?_))
 refine wpAny_bind (wpAny_isOneOf_keyiter hit.typeIs ?_)
 refine wpAny_bind (m:=setField (.ref it) 1 (rawInt ((i:Int)+1))) (wpAny_setField ho hf (by simp) ?_)
 have hit':(s.heap.update it (Obj.mapFields (·.setIfInBounds 1 (rawInt ((i:Int)+1))))).IsKeyIter it d (i+1) ks.length ep :=
  ⟨_,Heap.get?_update_self _ ho (Obj.isFreed_of_fields (Obj.data_mapFields hf _)),(Obj.cls_mapFields ..).trans hc,by rw [Obj.data_mapFields hf];simp [rawInt]⟩
 refine wpAny_bind (wpAny_holding ?_)
 refine wpAny_bind (wpAny_isOneOf_keyiter (s:={ s with heap:=s.heap.update it (Obj.mapFields (·.setIfInBounds 1 (rawInt ((i:Int)+1)))) }) hit'.typeIs ?_)
 show wpAny _ _ (pure es[i].key) _ _ _
 rw [ek]
 exact wpAny_pure (wpAny_pure ⟨_,rfl,wpAny_pure (h _ hit' (Heap.SameBut.update ..))⟩)
theorem Ze5 {Q:Option Value->Shared->Prop}(hh:A.handled=none)(hit:s.heap.IsKeyIter it d ks.length ks.length ep)(x:KeysAt s.heap d ks ep)(h:∀ h',Heap.ExtBut it s.heap h'->Q none { s with heap:=h' }) :
  wpAny (model prog w) A (pyNext (.ref it)) Q E s:=by
 obtain⟨o,ho,hc,hf⟩:=id hit
 obtain⟨od,es,hod,hcd,hdat,hk⟩:=id x
 have e:es.size=ks.length:=by rw [<- hk,List.length_map,Array.length_toList]
 unfold pyNext
 refine wpAny_bind (wpAny_attempt (wpAny_callSpecial?_slot (name:=Str.ofString "__next__") hit.typeIs PySem.F.slot_dict_keyiterator_next (wpAny_call_entry PySem.F.slot_dict_keyiterator_next hit.typeIs PySem.F.entry_dict_keyiterator_next ?_ (PySem.F.args_dict_keyiterator_next_1 _))))
 refine wpAny_bind (wpAny_pure (wpAny_bind (wpAny_bind ?_)))
 first | refine wpAny_bind (wpAny_typeNameOfWhole_keyiter hit.typeIs (wpAny_pure ?_)) | refine wpAny_bind (wpAny_typeNameOf_keyiter hit.typeIs (wpAny_pure ?_))
 refine wpAny_bind (wpAny_fieldsOf ho hf ?_)
 simp only [show Builtin.Dict_items.ownsTuple "dict_keyiterator" = false by decide,Bool.false_eq_true,if_false]
 show wpAny _ _ (if (Value.ref d == Value.none)=true then _ else _) _ _ s
 rw [if_neg (show ¬ ((Value.ref d == Value.none)=true) from Bool.false_ne_true)]
 refine wpAny_bind (wpAny_pure (wpAny_bind (wpAny_dictEntries hod hdat ?_)))
 rw [if_neg (by rw [e];simp)]
 refine wpAny_bind (wpAny_pure (wpAny_bind (wpAny_dictEpoch hod hdat ?_)))
 rw [if_neg (by simp)]
 refine wpAny_pure ?_
 simp only [show ¬ ((ks.length:Int)<0) from by omega,if_false,Int.toNat_natCast,Array.getElem?_eq_none (Nat.le_of_eq e)]
 refine wpAny_bind ?_
 first | refine wpAny_bind (wpAny_typeNameOfWhole_keyiter hit.typeIs (wpAny_pure ?_)) | refine wpAny_bind (wpAny_typeNameOf_keyiter hit.typeIs (wpAny_pure ?_))
 refine wpAny_bind (m:=setField (.ref it) 0 .none) (wpAny_setField ho hf (by simp) ?_)
 refine wpAny_bind (m:=newExc (.type "StopIteration") []) ?_
 simp only [newExc,newTuple]
 refine wpAny_bind (wpAny_newObj_type ?_ (by size_fits))
 refine wpAny_bind (m:=firstArgMember _ _) (wpAny_of_eq (a:=Value.none) (by first | rfl | (simp only [firstArgMember];rfl)) ?_)
 refine wpAny_newObj_type ?_ (by size_fits)
 simp only [raiseNew]
 refine wpAny_bind (wpAny_handled ?_)
 rw [show A.in1.handled=none from hh]
 refine wpAny_bind (wpAny_pure (wpAny_throw ?_))
 refine wpAny_bind (wpAny_isInstance (T := "StopIteration") (b:=true) ⟨_,Heap.get?_push_size _ rfl,rfl⟩ isSubtype_stop ?_)
 exact wpAny_pure (h _ (((Heap.SameBut.update ..).extBut.push _).push _))
theorem Zch (hh:A.handled=none)(it d:Addr)(hne:d≠it)(ks:List Value)(ep:Nat) :
  Walks prog w A it [it,d] [it] ks.length (fun i v=>ks[i]? = some v) (fun i h=>h.IsKeyIter it d i ks.length ep/\KeysAt h d ks ep) where
 sub:=fun b hb=>by simp at hb;simp [hb]
 frame:=fun _ _ _ st hk=>⟨st.1.at fun o e=>hk it (by simp) o e,st.2.to fun o e=>hk d (by simp) o e⟩
 item:=fun i s Q E hi st hQ=>Zdy st.1 st.2 hi fun h' a1 a2=>hQ _ h' s.toks (List.getElem?_eq_getElem hi) ⟨a1,st.2.to fun o e=>a2.extBut d o hne e⟩ fun b o hb e=>a2.extBut b o (fun z=>hb (by simp [z])) e
 done:=fun s Q E st hQ=>Ze5 hh st.1 st.2 fun h' a=>hQ h' s.toks fun b o hb e=>a b o (fun z=>hb (by simp [z])) e
 self:=fun _ _ _ _ st hQ=>wpAny_pyIter_keyiter st.1 hQ
theorem Ze4 (lo:(d == sysModules)=false):KdlSrc prog w "dict" d d ks.length (fun i v=>ks[i]? = some v) (fun h=>KeysAt h d ks ep) where
 type:=fun _ x=>x.isD
 there:=fun _ x=>⟨x.lt,x.lt⟩
 keep:=fun _ _ x hk=>x.to fun o e=>hk d (.inl rfl) o e
 notList:=by decide
 notTuple:=by decide
 hint:=fun _ _ _ _ x hq=>kdl_hint_dict x.isD hq
 iter:=fun _ _ hh x=>⟨_,_,(fun _ _ hq=>Zdz lo x hq),Zch hh _ d (Nat.ne_of_lt x.lt) ks ep,⟨⟨_,Heap.get?_push_size _ rfl,rfl,rfl⟩,x.to fun o e=>Heap.get?_push_of_some _ e⟩⟩
theorem Zap {Q:List Value->Shared->Prop}(lo:(d == sysModules)=false)(hh:A.handled=none)(x:KeysAt s.heap d ks ep)(hz:ks.length<=sizeLine)
  (h:∀ h' tk,(∀ b o,s.heap.get? b=some o->h'.get? b=some o)->Q ks { s with heap:=h',toks:=tk }):wpAny (model prog w) A (collect (.ref d)) Q E s:=by
 have ne:=Nat.ne_of_gt x.lt
 have hS:(s.heap.push (seqObj "list" #[] 0)).get? s.heap.objs.size=some { cls:=.type "list",data:=.seq #[] 0 }:=Heap.get?_push_size _ rfl
 have key:∀ R:Result->Shared->Prop,(∀ h' tk acc c,(∀ b o,s.heap.get? b=some o->h'.get? b=some o)->h'.get? s.heap.objs.size=some { cls:=.type "list",dict:=none,data:=.seq acc c,slots:=#[] }->ItemsOf (fun i v=>ks[i]? = some v) acc ks.length->R (.ok (.ret (.ref s.heap.objs.size))) { s with heap:=h',toks:=tk }) ->
   codeAny (model prog w) A (.builtin "list.__iadd__" ⟨[.ref s.heap.objs.size,.ref d],[]⟩) R { s with heap:=s.heap.push (seqObj "list" #[] 0) }:=fun R hR =>
  codeAny_builtin entry_list_iadd' (kdl_extend (A:=A) (R:=R) (s:={ s with heap:=s.heap.push (seqObj "list" #[] 0) }) (Ze4 (ep:=ep) (ks:=ks) lo) hh (x.to fun o e=>Heap.get?_push_of_some _ e) s.heap.objs.size ne ne (.ref s.heap.objs.size) 0 hS
   (fun h' tk acc c hk hS' hacc=>hR h' tk acc c (fun b o eb=>hk b o (Nat.ne_of_lt (Heap.lt_size eb)) (Heap.get?_push_of_some _ eb)) hS' hacc) hz)
 unfold collect
 refine wpAny_bind (wpAny_runValue (codeAny_builtin entry_proto_collect' ?_))
 show wpAny _ _ (do again (.builtin "list.__iadd__" ⟨[<- newList [],.ref d],[]⟩)) _ _ s
 refine wpAny_bind (wpAny_newList (wpAny_pure ⟨Code.quiet_builtin _ (by decide +kernel),key _ fun h' tk acc c hk hS' hacc=>?_⟩))
 show wpAny (model prog w) A _ Q E { s with heap:=h',toks:=tk }
 refine wpAny_bind (wpAny_load hS' ?_)
 have e:acc.toList=ks:=by
  apply List.ext_getElem?
  intro j
  cases hj:acc.toList[j]? with
  | none =>
   have:acc.size=ks.length:=hacc.1
   rw [List.getElem?_eq_none_iff,Array.length_toList] at hj
   rw [List.getElem?_eq_none (by omega)]
  | some v =>
   rw [Array.getElem?_toList] at hj
   exact (hacc.2 j v hj).symm
 show wpAny _ _ (pure acc.toList) Q E _
 rw [e]
 exact wpAny_pure (h h' tk hk)
end
end L2
namespace L2
open PySem PySem.Spec PyProof.Rows PyProof.Rows.Tim PySem.W Att
section
variable {prog:Program}{w:World}{A:Around}{E:Value->Shared->Prop}{s:Shared}{κ:SortKind}{k:Value->Int}{o:Value->Prop}
theorem Zbd {d:Addr}{vs:List Value}{ep:Nat}{Q:Value->Shared->Prop}(lo:(d == sysModules)=false)(hh:A.handled=none)(x:KeysAt s.heap d vs ep)(hz:vs.length<=sizeLine)
  (hk:2<=vs.length->∀ (A:Around) (E:Value->Shared->Prop) (h1:Heap) (tk:Nat),(∀ b ob,s.heap.get? b=some ob->h1.get? b=some ob)->∀ Q:SortKind->Shared->Prop,Q κ { s with heap:=h1,toks:=tk }->wpAny (model prog w) A (keyKind' vs.toArray) Q E { s with heap:=h1,toks:=tk })
  (ask:∀ (A:Around) (E:Value->Shared->Prop) (h1:Heap) (tk:Nat),(∀ b ob,s.heap.get? b=some ob->h1.get? b=some ob)->ZaP prog w A E { s with heap:=h1,toks:=tk } κ (fun x=>k x.1) (fun x=>o x.1)) (h0:∀ v∈vs,o v)
  (h:∀ ws:List Value,ws.Perm vs->ws.Pairwise (fun x y=>k x<=k y)->∀ D h' tk c,s.heap.get? D=none->(∀ b ob,s.heap.get? b=some ob->h'.get? b=some ob)->h'.get? D=some (listOf ws.toArray c)->Q (.ref D) { s with heap:=h',toks:=tk }) :
  wpAny (model prog w) A (call (.builtin "sorted") [.ref d]) Q E s:=by
 refine Calls.call_function_entry kind_sorted plain_sorted entry_sorted (args_sorted1 _) ?_
 unfold Builtin.«sorted»
 refine wpAny_bind (m:=checkCount "sorted" 1 1 _) (wpAny_pure (wpAny_bind (Zap lo hh x hz fun h1 tk old1=>?_)))
 refine wpAny_bind (wpAny_newList ?_ hz)
 have hoL:(h1.push (seqObj "list" vs.toArray 0)).get? h1.objs.size=some (seqObj "list" vs.toArray 0):=Heap.get?_push_size _ rfl
 show wpAny _ _ _ _ _ { s with heap:=h1.push (seqObj "list" vs.toArray 0),toks:=tk }
 have old:∀ b ob,s.heap.get? b=some ob->(Xq (h1.push (seqObj "list" vs.toArray 0)) h1.objs.size vs).get? b=some ob:=fun b ob e=>by
  have hlt:b<h1.objs.size:=Heap.lt_size (old1 _ _ e)
  unfold Xq
  refine Heap.get?_push_of_some _ (Heap.get?_push_of_some _ ?_)
  rw [Heap.get?_update_ne _ _ _ _ (Nat.ne_of_lt hlt)]
  exact Heap.get?_push_of_some _ (old1 _ _ e)
 refine wpAny_bind (wpAny_holding (wpAny_call_entry slot_list_sort ⟨_,hoL,rfl⟩ entry_list_sort (Zdt (s:={ s with heap:=h1.push (seqObj "list" vs.toArray 0),toks:=tk }) (κ:=κ) (k:=k) (o:=o) hoL hz (fun g Q q=>hk g _ _ _ tk old Q q) (ask _ _ _ tk old) h0 fun ws g1 g2=>?_) (args_list_sort _)))
 obtain⟨c,hc⟩:=sortedHeap_at (vs:=vs) (out:=ws.toArray) hoL
 refine⟨_,rfl,?_⟩
 refine wpAny_pure ⟨_,rfl,h ws g1 g2 h1.objs.size (sortedHeap (h1.push (seqObj "list" vs.toArray 0)) h1.objs.size vs ws.toArray) tk c ?_ (fun b ob e=>?_) hc⟩
 ·cases e:s.heap.get? h1.objs.size with
  | none=>rfl
  | some ob=>exact absurd (Heap.lt_size (old1 _ _ e)) (Nat.lt_irrefl _)
 ·have hlt:b<h1.objs.size:=Heap.lt_size (old1 _ _ e)
  unfold sortedHeap
  rw [Heap.get?_update_ne _ _ _ _ (Nat.ne_of_lt hlt)]
  exact old b ob e
end
section
variable {X:Cx}
noncomputable def kp (p:Nat×Nat):List Key:=[Sum.inl (p.1:Int),Sum.inl (p.2:Int)]
theorem Zgh {p q:Nat×Nat}(h:kp p=kp q):p=q:=by
 unfold kp at h
 simp only [List.cons.injEq,Sum.inl.injEq,Int.natCast_inj,and_true] at h
 exact Prod.ext h.1 h.2
theorem Zg7 (p:Nat×Nat):(kp p).map kV=[V.int (p.1:Nat),V.int (p.2:Nat)]:=rfl
theorem Zgg {H:Hp}:∀ {kvs:List (List Key×V)} {xs:List (List Key×Addr×Value)} {ps:List (Nat×Nat)},KT H kvs xs->kvs.map (·.1)=ps.map kp->PrT H (xs.map (·.2.1)) (ps.map np)
 | [],_,ps,h,e=>by
  cases h
  cases ps with
  | nil=>exact .nil
  | cons _ _=>cases e
 | kv::kvs,_,ps,h,e=>by
  cases h with
  | cons h1 h2 =>
   cases ps with
   | nil=>cases e
   | cons p ps =>
    rw [List.map_cons,List.map_cons,List.cons.injEq] at e
    refine .cons ?_ (Zgg h2 e.2)
    have:=h1.2.1
    rw [e.1,Zg7] at this
    exact this
noncomputable def Zf5:List V->Hp->VK->Prop:=fun xs H Q=>∃ a,∃ (kvs:List (List Key×V)) (ps:List (Nat×Nat)),xs=[.ref a]/\Rd H a (.dT kvs)/\kvs.map (·.1)=ps.map kp/\(∀ p∈ps,p.2<2^256) /\
 ∀ l rs' (ps':List (Nat×Nat)),H l=none->ps'.Perm ps->ps'.Pairwise (fun x y=>pkey x<=pkey y)->PrT H rs' (ps'.map np)->Q (.ref l) (upd H l (.lst (rv rs')))
theorem Zd3 (K:W.Frag) (hc:X.calm=true) (hK:X.K=K:=by rfl):XD X (.builtin "sorted") Zf5:=by
 subst hK
 intro pins s σ H xs us Q I r h
 obtain⟨a,kvs,ps,rfl,ha,hkeys,hb,q⟩:=h
 obtain⟨u,rfl,ru⟩:=WI r
 cases (show u=Value.ref a from ru)
 obtain⟨hz,lo,ys,hT,o,es,ep,ho,hc1,hd,he,_,_⟩:=Zcq I.hok ha
 have hPT:=Zgg hT hkeys
 have hP:=hPT.a (K:=X.K)
 obtain⟨rs,ers⟩:∃ rs,rs=ys.map (·.2.1):=⟨_,rfl⟩
 rw [<- ers] at hP hPT
 have hKA:KeysAt s.heap a (rs.map Value.ref) ep:=⟨o,es,ho,hc1,hd,by rw [he,ers,List.map_map,List.map_map];rfl⟩
 obtain⟨m,hm,_⟩:=id I.loc
 have hlen:rs.length=ps.length:=by rw [hP.len,List.length_map]
 have hzr:rs.length<=sizeLine:=by
  rw [ers,List.length_map,<- Paired.length hT]
  exact hz
 have one:∀ i (hi:i<rs.length),∃ ob n t1 t2,∃ p:Nat×Nat,ps[i]? = some p/\s.heap.get? rs[i]=some ob/\ob.cls=.type "tuple" /\ ob.data=.seq #[.int (p.1:Nat) t1,.int (p.2:Nat) t2] n:=fun i hi=>by
  obtain⟨p,ep,tp⟩:=hP.getN (List.getElem?_eq_getElem hi)
  obtain⟨its,rt,⟨ob,ho,hc,n,hd⟩,_⟩:=I.tuple tp
  cases rt with
  | cons r1 rt =>
   cases rt with
   | cons r2 rt =>
    cases rt
    obtain⟨t1,rfl⟩:=r1
    obtain⟨t2,rfl⟩:=r2
    exact⟨ob,n,t1,t2,p,ep,ho,hc,hd⟩
 have hf:rs.map (fun r=>Zar s.heap (.ref r))=ps:=by
  apply List.ext_getElem
  ·rw [List.length_map,hlen]
  ·intro i h1 h2
   obtain⟨ob,n,t1,t2,p,ep,e1,e2,e3⟩:=one i (by omega)
   rw [List.getElem_map,Jh e1 e3]
   rw [List.getElem?_eq_getElem h2] at ep
   exact (Option.some.inj ep).symm
 have hp:∀ r∈rs,ZkN s.heap (.ref r):=fun r hr=>by
  obtain⟨i,hi,rfl⟩:=List.mem_iff_getElem.mp hr
  obtain⟨ob,n,t1,t2,p,ep,e1,e2,e3⟩:=one i hi
  exact⟨_,ob,n,t1,t2,p,rfl,e1,e2,e3,hb p (List.mem_of_getElem? ep)⟩
 refine Zbd (κ:=tuples' true) (k:=fun v=>((pkey (Zar s.heap v):Nat):Int)) (o:=ZkN s.heap) lo (I.ok.hd hc) hKA (by rw [List.length_map];exact hzr) (fun g A E h1 tk k1 Q q=>?_) (fun A E h1 tk k1=>Zjs (k:=fun v=>((pkey (Zar s.heap v):Nat):Int)) (o:=ZkN s.heap) fun x y Q E ox oy q=>?_) (fun v hv=>?_) fun ws g1 g2 D h' tk c hD0 keep hD=>?_
 ·obtain⟨fs,kt,hfl,hfi⟩:=ZcG (h:=h1) rs fun u hu=>by
   obtain⟨a,ob,n,t1,t2,p,e0,e1,e2,e3,_⟩:=hp u hu
   cases e0
   exact⟨ob,n,_,t1,_,t2,k1 _ _ e1,e2,e3⟩
  rw [List.length_map] at g
  refine kat_kind kt (by omega) (T:=.type "int") (fun v hv=>?_) (by simp) ?_
  ·obtain⟨x,t,rfl⟩:=hfi v hv
   exact .now
  rw [show (Value.type "int" != Value.type "tuple")=true by decide]
  exact q
 ·obtain⟨a,ob,n,t1,t2,p,e0,e1,e2,e3,e4⟩:=ox
  obtain⟨a',ob',n',t1',t2',p',e0',e1',e2',e3',e4'⟩:=oy
  rw [e0,e0'] at q ⊢
  rw [Jh e1 e3,Jh e1' e3'] at q
  refine ZgV e4 e4' (k1 _ _ e1) e3 (k1 _ _ e1') e3' ?_
  rw [show decide (pkey p<pkey p')=decide (((pkey p:Nat):Int)<((pkey p':Nat):Int)) from decide_eq_decide.mpr (by omega)]
  exact q
 ·obtain⟨r,hr,rfl⟩:=List.mem_map.mp hv
  exact hp r hr
 ·obtain⟨rs',e,pm⟩:∃ rs':List Addr,ws=rs'.map Value.ref/\rs'.Perm rs:=by
   refine⟨ws.map fun v=>match v with | .ref a=>a | _=>0,?_,?_⟩
   ·rw [List.map_map]
    conv=>lhs;rw [<- List.map_id ws]
    refine List.map_congr_left fun v hv=>?_
    obtain⟨r,_,rfl⟩:=List.mem_map.mp (g1.mem_iff.mp hv)
    rfl
   ·have:=g1.map fun v=>match v with | .ref a=>a | _=>0
    rw [List.map_map] at this
    have e:List.map ((fun v:Value=>match v with | .ref a=>a | _=>0) ∘ Value.ref) rs=rs:=by
     conv=>rhs;rw [<- List.map_id rs]
     rfl
    rwa [e] at this
  subst e
  rw [List.pairwise_map] at g2
  have pw:(rs'.map fun r=>Zar s.heap (.ref r)).Pairwise (fun x y=>pkey x<=pkey y):=by
   rw [List.pairwise_map]
   exact g2.imp fun {x y} g=>Int.ofNat_le.mp g
  have hDL:D≠X.env.locals:=fun z=>by
   obtain⟨oL,_,_,hL,_⟩:=id hm
   rw [<- z,hD0] at hL
   cases hL
  obtain⟨I',hfr⟩:=I.laidL (c:=c) (h':=h') hm hDL hD0 (Zg2 hm keep) (fun b o _ e=>keep b o e) (by rw [pm.length_eq];exact hzr) hD
  refine⟨.ref D,_,I'.tok tk,rfl,q _ rs' (rs'.map fun r=>Zar s.heap (.ref r)) hfr ?_ pw (Zf9 _ hPT hf rs' fun r hr=>pm.mem_iff.mp hr)⟩
  have:=pm.map fun r=>Zar s.heap (.ref r)
  rwa [hf] at this
theorem Zfz {H:Hp}{Q:VK}{xs:List V}:Zf5 xs H Q=∃ a,∃ (kvs:List (List Key×V)) (ps:List (Nat×Nat)),xs=[.ref a]/\Rd H a (.dT kvs)/\kvs.map (·.1)=ps.map kp/\(∀ p∈ps,p.2<2^256) /\
 ∀ l rs' (ps':List (Nat×Nat)),H l=none->ps'.Perm ps->ps'.Pairwise (fun x y=>pkey x<=pkey y)->PrT H rs' (ps'.map np)->Q (.ref l) (upd H l (.lst (rv rs'))):=rfl
noncomputable def Zf2 (tk tv:TE):TE:=fun σ H Q=>∀ p,H p=none->tk σ (upd H p (.dT [])) fun x H1=>tv σ H1 fun y H2=>∃ b ks,x=.ref b/\H2 p=some (.dT [])/\H2 b=some (.tup (ks.map kV))/\Q (.ref p) (upd H2 p (.dT [(ks,y)]))
theorem ZfQ {σ:St}{H:Hp}{Q:VK}{tk tv:TE}:Zf2 tk tv σ H Q=∀ p,H p=none->tk σ (upd H p (.dT [])) fun x H1=>tv σ H1 fun y H2=>∃ b ks,x=.ref b/\H2 p=some (.dT [])/\H2 b=some (.tup (ks.map kV))/\Q (.ref p) (upd H2 p (.dT [(ks,y)])):=rfl
theorem ZeH {pos:Pos}{k v:Expr}{tk tv:TE}(hu:X.A.units+1<cLine)(hk:PE X k tk)(hv:PE X v tv):PE X (.Dict [some k] [v] pos) (Zf2 tk tv):=by
 intro pins s σ H Q I q
 have hn:=I.hok.fresh (Nat.le_refl s.heap.objs.size)
 have I1:=I.laid (a:=s.heap.objs.size) (o:=.dT []) (h':=s.heap.push { cls:=.type "dict",data:=.dict #[] }) (t':=s.toks) (fun _ _ q=>Heap.get?_push_of_some _ q) (Nat.le_refl _) (ZbS s.heap I.big)
 refine wpAny_Dict_any rfl rfl (by simp) (by simp) (thn (ZeD (pos:=pos) hk hv ZgR pins _ σ _ (fun ps H2=>match ps with
  | [(x,y)]=>∃ b ks,x=.ref b/\H2 s.heap.objs.size=some (.dT [])/\H2 b=some (.tup (ks.map kV))/\Q (.ref s.heap.objs.size) (upd H2 s.heap.objs.size (.dT [(ks,y)]))
  | _=>False) I1 (q _ hn)) fun ws s2 h2=>?_)
 obtain⟨ps,H2,I2,rel,h2⟩:=h2
 cases ps with
 | nil=>exact False.elim h2
 | cons p ps =>
 cases ps with
 | cons _ _=>exact False.elim h2
 | nil =>
  obtain⟨x,y⟩:=p
  obtain⟨b,ks,ex,e,eb,q2⟩:=h2
  subst ex
  cases rel with
  | @cons _ c _ cs h1 hr =>
   cases hr
   obtain⟨c1,c2⟩:=c
   obtain⟨r1,r2⟩:=h1
   cases (show c1=Value.ref b from r1)
   obtain⟨z,hd,xs0,r0,dd⟩:=Zfo I2.hok e
   cases r0
   unfold storeAll
   rw [List.forIn_cons]
   refine wpAny_bind (wpAny_bind (wpAny_dictSet_heap (hsz:=Nat.zero_le _) (knd:=tupleKind (ZC X.prog X.w)) (Nat.lt_of_succ_lt hu) (UG I2.hok eb) dd fun h' dd' hs=>wpAny_pure ?_))
   dsimp only
   rw [List.forIn_nil]
   refine wpAny_pure ?_
   obtain⟨o,es,ep,hq,h2,h3,h4,_,h5⟩:=dd'
   have eb':upd H2 s.heap.objs.size (.dT [(ks,y)]) b=some (.tup (ks.map kV)):=by
    rw [Zh (ZeS eb e (fun z=>nomatch z))]
    exact eb
   have new:ObjOk X.prog X.w (upd H2 s.heap.objs.size (.dT [(ks,y)])) h' s.heap.objs.size (.dT [(ks,y)]):=⟨by show 1<=sizeLine;rw [sizeLine_eq];decide,hd,_,.cons ⟨rfl,eb',r2⟩ .nil,o,es,ep,hq,h2,h3,h4,h5⟩
   exact⟨.ref s.heap.objs.size,_,Jq I2 (by rw [e];exact True.intro) hs ⟨o,hq⟩ new,rfl,q2⟩
end
end L2
namespace L2
open PySem PySem.Spec PyProof.Rows PySem.W
noncomputable def Zfm (qual:Str)(scope:Scope)(L f:Addr)(cd:Value)(cl:List (Str×Addr)):Env :=
 { scope:=scope,locals:=L,globals:=mainGlobals,cells:=cl,qual:=qual ++ ".<locals>.",func:=some f,code:=cd,frame:=some L,builtins:=builtinsNs }
noncomputable def Zcr (X:Cx)(N:List Str)(qual:Str)(scope:Scope)(f:Addr)(cd:Value)(cl:List (Str×Addr))(A:Around)(s:Shared)(H:Hp):Cx where
 prog:=X.prog
 w:=X.w
 K:=X.K
 mg:=X.mg
 base:=X.base
 A:=A.deeper (Zfm qual scope s.heap.objs.size f cd cl)
 N:=N
 s₀:=s
 H₀:=H
 env:=Zfm qual scope s.heap.objs.size f cd cl
 outer:=X.stack
 stack:=Zfm qual scope s.heap.objs.size f cd cl::X.stack
 ex:=[]
 calm:=true
 fn:=fun _=>false
 pn:=[]
 xe:=fun _ _=>False
structure Zcy (p z:Str)(scope:Scope):Prop where
 kind:scope.kind=.function
 gen:scope.isGenerator=false
 co:scope.isCoroutine=false
 noc:∀ x∈scope.names,x.2≠.cell
 par:scope.names.lookup p=some .local
 fre:scope.names.lookup z=some .free
 one:∀ y,scope.names.lookup y=some .free->y=z
section
variable {X:Cx}{pins:List (Addr×Obj)}{σ:St}{H:Hp}{s:Shared}{A:Around}{qual p z:Str}{params:Arguments}{body:Expr}{scope:Scope}{pm ctv:Value}{c c' f:Addr}{u uz:Value}{v vz:V}{te:TE}{Q:VK}{E:XK}{k:Nat}
theorem Zg6 {h₁:Heap}{tk:Nat}(I:Inv X pins σ H s)(hd:A.handled=none)(hA:A.frames=some X.stack)(S:Zcy p z scope)(hcell:s.heap.IsCell c (some uz))(hcH:H c=none)(ru:RelV v u)(rz:RelV vz uz)
  (hns:h₁.Ns s.heap.objs.size (fun x=>[(p,u)].reverse.lookup x)) (hk:∀ b o,s.heap.get? b=some o->h₁.get? b=some o) :
  Inv (Zcr X [p,z] qual scope f (.ref c') [(z,c)] A s H) [] [some v,some vz] H { s with heap:=h₁,toks:=tk }:=by
 have e0:=I.env0
 have lk:∀ x a,([(z,c)]:List (Str×Addr)).lookup x=some a->x=z/\a=c:=fun x a e=>by
  rw [List.lookup_cons] at e
  cases q:x == z with
  | true=>rw [q] at e;cases e;exact⟨eq_of_beq q,rfl⟩
  | false=>rw [q] at e;cases e
 have lz:([(z,c)]:List (Str×Addr)).lookup z=some c:=by rw [List.lookup_cons,beq_self_eq_true]
 have noA:∀ b:Addr,b∉(Zcr X [p,z] qual scope f (.ref c') [(z,c)] A s H).ex:=fun b z=>absurd (show b∈([]:List Addr) from z) (by simp)
 refine⟨⟨e0.mod,S.kind,rfl,rfl,Nat.le_refl _,fun x y a h1 h2=>?_,fun y hy=>?_,fun y a hfn _=>absurd hfn (by show ¬ (false=true);decide),fun _=>hd,Around.frames_deeper hA,.inr ⟨rfl,rfl⟩,fun b z=>absurd z (noA b),e0.bs,e0.bsz,fun b _ _=>noA b,fun b z=>absurd z (noA b),e0.funs,e0.frf⟩,
  rfl,e0.bare,Un.kept hk,⟨_,hns,fun i y v' h1 h2 h3=>?_⟩,fun y a h=>?_,e0.hok.fresh (Nat.le_refl _),fun y a h=>?_,fun p hp=>absurd (show p∈([]:List (Addr×Obj)) from hp) (by simp),e0.hok.kept hk,rfl⟩
 ·exact (lk x a h1).1.trans (lk y a h2).1.symm
 ·have hy:scope.names.lookup y=some .cell\/scope.names.lookup y=some .free:=hy
  rcases hy with hy | hy
  ·exact absurd rfl (S.noc _ (PySem.mem_of_lookup hy))
  ·rw [S.one y hy];exact⟨c,lz⟩
 ·match i,h1,h2 with
  | 0,h1,h2 =>
   cases h1
   cases h2
   refine⟨u,ru,.inl ⟨S.par,?_⟩⟩
   show List.lookup p [(p,u)]=some u
   rw [List.lookup_cons,beq_self_eq_true]
  | 1,h1,h2 =>
   cases h1
   cases h2
   exact⟨uz,rz,.inr ⟨.inr S.fre,c,lz,hcell.keeps hk⟩⟩
  | i+2,h1,h2=>cases h2
 ·obtain⟨_,rfl⟩:=lk y a h
  exact⟨_,hcell.keeps hk⟩
 ·obtain⟨_,rfl⟩:=lk y a h
  exact hcH
theorem Ze1 (I:Inv X pins σ H s) (hr:Room (k+1) A) (hA:A.frames=some X.stack) (hf:s.heap.get? f=some (kla_obj "<lambda>" qual params body scope [(z,c)] pm c' ctv)) (hcd:s.heap.CodeRec (.ref c') qual) (S:Zcy p z scope)
  (hb:bindArgs (kla_fn "<lambda>" qual params body scope [(z,c)] pm (.ref c') ctv) ⟨[u],[]⟩=pure [(p,u)]) (hcell:s.heap.IsCell c (some uz)) (hcH:H c=none) (ru:RelV v u) (rz:RelV vz uz)
  (hbody:PE (Zcr X [p,z] qual scope f (.ref c') [(z,c)] A s H) body te) (hq:te [some v,some vz] H Q):codeAny (model X.prog X.w) A (.call (.ref f) ⟨[u],[]⟩) (CR CX0 X.stack X.prog X.w H s Q E) s:=by
 have lim:s.heap.NoLimit:=I.nolimit
 refine kla_callFunE (by have:=hr.dp;omega) hf rfl S.co S.gen rfl hcd ?_
 rw [hb]
 refine wpAny_pure (wpAny_newFunctionEnv S.noc (fun x hx=>?_) (fun h₁ hns hsb=>?_) S.kind)
 ·rw [List.mem_singleton.mp hx];exact S.par
 have hk:∀ b o,s.heap.get? b=some o->h₁.get? b=some o:=fun b o e=>hsb.extBut b o (Nat.ne_of_lt (Heap.lt_size e)) (Heap.get?_push_of_some _ e)
 refine⟨lim.keeps hk,?_⟩
 show codeAny _ _ (.expr body (Zfm qual scope s.heap.objs.size f (.ref c') [(z,c)])) _ _
 refine kla_codeExpr ?_
 have J:=Zg6 (qual:=qual) (f:=f) (c':=c') (tk:=s.toks + [(p,u)].length) I hr.hd hA S hcell hcH ru rz hns hk
 refine wpAny_mono (hbody [] _ _ H _ J hq) (fun u' s' hs=>?_) fun e s' hs=>False.elim hs
 obtain⟨v',H',J',rv,q⟩:=hs
 exact⟨v',H',J'.os,J'.bare,J'.base,J'.hok,rv,q⟩
end
section
variable {prog:Program}{w:World}{A:Around}{E:Value->Shared->Prop}{s:Shared}
theorem UZ {r:Addr}{n:Nat}{t u v:Tok}{Q:List Value->Shared->Prop}(hh:A.handled=none)(hr:IsRange s.heap r 0 (n:Int) 1 t u v)(hn:n<=1000)
  (h:∀ h' tk (vs:List Value),(∀ b o,s.heap.get? b=some o->h'.get? b=some o)->IntsAre vs ((List.range n).map fun k:Nat=>(k:Int))->Q vs { s with heap:=h',toks:=tk }):wpAny (model prog w) A (collect (.ref r)) Q E s:=by
 have hS:(s.heap.push (seqObj "list" #[] 0)).get? s.heap.objs.size=some { cls:=.type "list",data:=.seq #[] 0 }:=Heap.get?_push_size _ rfl
 have hz:Builtin.Range.rangeSize 0 (n:Int) 1=(n:Nat):=by rw [rangeSize_one];split<;>omega
 have hr':IsRange (s.heap.push (seqObj "list" #[] 0)) r 0 (n:Int) 1 t u v:=Heap.get?_push_of_some _ hr
 have key:∀ R:Result->Shared->Prop,(∀ h' tk acc c,(∀ b o,s.heap.get? b=some o->h'.get? b=some o)->h'.get? s.heap.objs.size=some { cls:=.type "list",dict:=none,data:=.seq acc c,slots:=#[] }->ItemsOf (fun i v=>∃ t,v=.int (0+i*1) t) acc n->R (.ok (.ret (.ref s.heap.objs.size))) { s with heap:=h',toks:=tk }) ->
   codeAny (model prog w) A (.builtin "list.__iadd__" ⟨[.ref s.heap.objs.size,.ref r],[]⟩) R { s with heap:=s.heap.push (seqObj "list" #[] 0) }:=fun R hR =>
  codeAny_builtin entry_list_iadd' (wpAny_extend_range (A:=A) (R:=R) (s:={ s with heap:=s.heap.push (seqObj "list" #[] 0) }) hh hr' (small_one (by omega) (by omega) (by omega) (by omega)) hz (by omega) s.heap.objs.size (.ref s.heap.objs.size) 0 hS
   (fun h' tk acc c hk hS' hacc=>hR h' tk acc c (fun b o eb=>hk b o (Nat.ne_of_lt (Heap.lt_size eb)) (Heap.get?_push_of_some _ eb)) hS' hacc))
 unfold collect
 refine wpAny_bind (wpAny_runValue (codeAny_builtin entry_proto_collect' ?_))
 show wpAny _ _ (do again (.builtin "list.__iadd__" ⟨[<- newList [],.ref r],[]⟩)) _ _ s
 refine wpAny_bind (wpAny_newList (wpAny_pure ⟨Code.quiet_builtin _ (by decide +kernel),key _ fun h' tk acc c hk hS' hacc=>?_⟩))
 show wpAny (model prog w) A _ Q E { s with heap:=h',toks:=tk }
 refine wpAny_bind (wpAny_load hS' ?_)
 show wpAny _ _ (pure acc.toList) Q E _
 refine wpAny_pure (h h' tk _ hk ?_)
 have hl:acc.toList.length=n:=by rw [Array.length_toList];exact hacc.1
 have hi:∀ (i:Nat) (v:Value),acc.toList[i]? = some v->∃ t,v=Value.int (i:Int) t:=fun i v e=>by
  rw [Array.getElem?_toList] at e
  obtain⟨t,e'⟩:=hacc.2 i v e
  exact⟨t,by rw [e'];congr 1;omega⟩
 clear hacc hS'
 generalize acc.toList=vs at hl hi
 have go:∀ (m:Nat) (vs:List Value),vs.length=m->∀ j:Nat,(∀ (i:Nat) (v:Value),vs[i]? = some v->∃ t,v=Value.int ((j+i:Nat):Int) t)->IntsAre vs ((List.range m).map fun k:Nat=>((j+k:Nat):Int)):=by
  intro m
  induction m with
  | zero=>intro vs hl j _;rw [List.length_eq_zero_iff.mp hl];exact .nil
  | succ m ih =>
   intro vs hl j hv
   match vs,hl with
   | x::vs,hl =>
    obtain⟨t,rfl⟩:=hv 0 x rfl
    rw [List.range_succ_eq_map,List.map_cons,List.map_map]
    refine .cons _ t ?_
    have:=ih vs (by simpa using hl) (j+1) fun i v e=>by
     obtain⟨t,e'⟩:=hv (i+1) v e
     exact⟨t,by rw [e'];congr 2;omega⟩
    have ee:(List.range m).map (fun k:Nat=>((j+1+k:Nat):Int))=(List.range m).map ((fun k:Nat=>((j+k:Nat):Int)) ∘ Nat.succ):=List.map_congr_left fun k _=>by show ((j+1+k:Nat):Int)=((j+(k+1):Nat):Int);congr 1;omega
    rw [ee] at this
    exact this
 have:=go n vs hl 0 fun i v e=>by
  obtain⟨t,e'⟩:=hi i v e
  exact⟨t,by rw [e',Nat.zero_add]⟩
 have ee:(List.range n).map (fun k:Nat=>((0+k:Nat):Int))=(List.range n).map fun k:Nat=>(k:Int):=List.map_congr_left fun k _=>by rw [Nat.zero_add]
 rw [ee] at this
 exact this
end
section
variable {X:Cx}{pins:List (Addr×Obj)}{σ:St}{H:Hp}{s:Shared}{qual p z:Str}{params:Arguments}{body:Expr}{scope:Scope}{pm ctv:Value}{c c' f:Addr}{co:Obj}{te:TE}{k iz i:Nat}{vz:V}{gi:Int}
noncomputable def Uf (c':Addr)(qual:Str):Heap->Prop:=fun h=>h.CodeRec (.ref c') qual
theorem Ze6 (I:Inv X pins σ H s) (hr:Room (k+4) X.A) (pf:(f,kla_obj "<lambda>" qual params body scope [(z,c)] pm c' ctv)∈pins) (hco:H c'=some (.ext (Uf c' qual)))
  (S:Zcy p z scope) (hb:∀ u,bindArgs (kla_fn "<lambda>" qual params body scope [(z,c)] pm (.ref c') ctv) ⟨[u],[]⟩=pure [(p,u)]) (hzc:X.env.cells.lookup z=some c) (hzk:X.env.kindOf z=some .cell) (hzi:X.N[iz]? = some z) (hzv:σ[iz]? = some (some vz))
  (hbody:PE (Zcr X [p,z] qual scope f (.ref c') [(z,c)] X.A.in1.in1 s H) body te) (hte:te [some (.int i),some vz] H (fun v H''=>v=.int gi/\Same H H'')) (t:Tok) :
  wpAny (model X.prog X.w) X.A.in1.in1 (call (.ref f) [.int i t]) (fun v s'=>∃ t' H',v=.int gi t'/\Inv X pins σ H' s'/\Same H H') (fun _ _=>False) s:=by
 obtain⟨m,hm,hloc⟩:=id I.loc
 obtain⟨uz,rz,lk⟩:=hloc iz z vz hzi hzv (.inr (.inl hzk))
 have hcell:s.heap.IsCell c (some uz):=by
  rcases lk with ⟨h1,_⟩ | ⟨_,a,h1,h2⟩
  ·rw [hzk] at h1;cases h1
  ·rw [hzc] at h1;cases h1;exact h2
 refine wpAny_call (codeAny_mono (Ze1 (E:=fun _ _ _=>False) I (k:=k+1) ((hr.in1).in1) I.ok.frames ((I.pin _ (List.mem_append_right _ pf)).1) (I.hok _ _ hco).1 S (hb _) hcell (I.freeC z c hzc) (v:=.int i) ⟨t,rfl⟩ rz hbody hte) fun r s' hq=>?_)
 cases r with
 | ok fl =>
  cases fl with
  | ret u =>
   obtain⟨v,H',I',rv,rfl,sm⟩:=I.after hq
   obtain⟨t',rfl⟩:=rv
   exact⟨t',H',rfl,I',sm⟩
  | next=>exact False.elim hq
  | brk=>exact False.elim hq
  | cont=>exact False.elim hq
 | error e=>exact False.elim hq
end
section
variable {X:Cx}
end
end L2
namespace L2
open PySem PySem.Spec PyProof.Rows PySem.W Att
section
variable {X:Cx}{pins:List (Addr×Obj)}{σ:St}{H:Hp}{s:Shared}
structure Zel (X:Cx)(pins:List (Addr×Obj))(b:Addr):Prop where
 up:X.s₀.heap.objs.size<=b
 loc:b≠X.env.locals
 cel:∀ x c,X.env.cells.lookup x=some c->c≠b
 nofs:b∉X.fs
 pin:∀ p∈X.pn++pins,p.1≠b
theorem Inv.newAt (I:Inv X pins σ H s){b:Addr}(hb:s.heap.objs.size<=b):Zel X pins b :=
 ⟨Nat.le_trans I.sz hb,fun z=>absurd I.lt (by rw [<- z];exact Nat.not_lt.mpr hb),fun x c e z=>by
  obtain⟨v,o,ho,_⟩:=I.cell x c e
  have:=Heap.lt_size ho
  rw [z] at this
  exact absurd this (Nat.not_lt.mpr hb),I.nofs hb,fun p hp z=>by
  have:=Heap.lt_size (I.pin p hp).1
  rw [z] at this
  exact absurd this (Nat.not_lt.mpr hb)⟩
theorem ZaX {n:Nat}{g:Nat->Int}{vs:List Value}{ps:List (Int×Value)}(hv:IntsAre vs ((List.range n).map fun k:Nat=>(k:Int)))(hp:ps.Perm (((List.range n).map g).zip vs))(hs:ps.Pairwise fun p q=>p.1<=q.1) :
  ∃ ns:List Nat,ns.Perm (List.range n)/\ns.Pairwise (fun a b=>g a<=g b)/\Vals (nv ns) (ps.map Prod.snd):=by
 have hl:vs.length=n:=by have:=hv.length;simpa using this
 have rel:∀ p∈ps,∃ (k:Nat) (t:Tok),p.1=g k/\p.2=Value.int (k:Int) t:=fun p hp'=>by
  obtain⟨i,hi,e⟩:=List.mem_iff_getElem.mp (hp.mem_iff.mp hp')
  rw [List.getElem_zip] at e
  have hi1:i<n:=by rw [List.length_zip] at hi;simp at hi;omega
  obtain⟨t,ht⟩:=hv.get i (i:Int) (by rw [List.getElem?_map,List.getElem?_range hi1];rfl)
  refine⟨i,t,?_,?_⟩
  ·rw [<- e];simp
  ·rw [<- e]
   have:=(List.getElem?_eq_some_iff.mp ht).2
   exact this
 refine⟨ps.map fun p=>(numOf p.2).toNat,?_,?_,?_⟩
 ·have h1:=hp.map fun p=>(numOf p.2).toNat
  have e:(((List.range n).map g).zip vs).map (fun p=>(numOf p.2).toNat)=List.range n:=by
   have e1:(((List.range n).map g).zip vs).map (fun p=>(numOf p.2).toNat)=(((((List.range n).map g).zip vs).map Prod.snd).map numOf).map Int.toNat:=by rw [List.map_map,List.map_map];rfl
   rw [e1,List.map_snd_zip (by simp;omega),hv.nums,List.map_map]
   conv=>rhs;rw [<- List.map_id (List.range n)]
   rfl
  rwa [e] at h1
 ·rw [List.pairwise_map]
  refine hs.imp_of_mem fun {p q} h1 h2 h3=>?_
  obtain⟨k,t,e1,e2⟩:=rel p h1
  obtain⟨k',t',e1',e2'⟩:=rel q h2
  rw [e1,e1'] at h3
  rw [e2,e2']
  exact h3
 ·clear hp hs
  induction ps with
  | nil=>exact .nil
  | cons p ps ih =>
   obtain⟨k,t,e1,e2⟩:=rel p (by simp)
   refine .cons ?_ (ih fun q hq=>rel q (by simp [hq]))
   refine⟨t,?_⟩
   show p.2=Value.int (((numOf p.2).toNat:Nat):Int) t
   rw [e2]
   rfl
theorem Inv.adopt {a kS:Addr}{h':Heap}{tk c:Nat}{xs:List V}{us:List Value}{m:Str->Option Value}(I:Inv X pins σ H s)(hm:s.heap.Ns X.env.locals m)(na:Zel X pins a)(nk:Zel X pins kS)(ha:H a=none)(hk:H kS=none)(hn:h'.Ns X.env.locals m)
  (keep:∀ b o,b≠X.env.locals->b≠a->b≠kS->s.heap.get? b=some o->h'.get? b=some o) (hz:xs.length<=sizeLine) (hv:Vals xs us) (hD:h'.get? a=some (seqObj "list" us.toArray c)):Inv X pins σ (upd H a (.lst xs)) { s with heap:=h',toks:=tk }:=by
 have neT:∀ b u,H b=some u->b≠a:=fun b u e z=>by rw [z,ha] at e;cases e
 have neK:∀ b u,H b=some u->b≠kS:=fun b u e z=>by rw [z,hk] at e;cases e
 have neL:∀ b u,H b=some u->b≠X.env.locals:=fun b u e z=>by rw [z,I.free] at e;cases e
 have nch:∀ b,b∉[a,kS]->b≠a/\b≠kS:=fun b hb=>⟨fun z=>hb (by rw [z];simp),fun z=>hb (by rw [z];simp)⟩
 refine I.step (g':=s.gens) (d':=s.drawn) (t':=tk) (ch:=[a,kS]) (fun b hb=>?_) (fun b o n1 _ n2 e _=>keep b o n1 (nch b n2).1 (nch b n2).2 e) (fun b o n1 _ n2 e _=>⟨o.slots,keep b o n1 (nch b n2).1 (nch b n2).2 e⟩) (fun b o n2 e hb=>by rw [Zh (nch b n2).1];exact hb)
  (fun b o n2 e=>?_) (fun b xs e=>by rw [Zh (neT b _ e)];exact e) (fun b o u e=>by rw [Zh (neT b _ e)];exact e) (fun b ps e=>⟨#[],by rw [Zh (neT b _ e),e];simp⟩) (fun m' hm'=>by rw [<- Zge hm hm'];exact hn) (fun b u e=>?_) I.bare
 ·rcases List.mem_cons.mp hb with z | z
  ·rw [z];exact⟨.inr na.up,na.loc,na.cel,na.pin⟩
  ·rw [List.mem_singleton.mp z];exact⟨.inr nk.up,nk.loc,nk.cel,nk.pin⟩
 ·by_cases hb:b=X.env.locals
  ·obtain⟨o',_,_,e',_⟩:=hn
   exact⟨o',by rw [hb];exact e'⟩
  ·exact⟨o,keep b o hb (nch b n2).1 (nch b n2).2 e⟩
 ·by_cases hb:b=a
  ·subst hb
   rw [Zd] at e
   cases e
   exact⟨hz,us,c,hv,hD⟩
  ·rw [Zh hb] at e
   refine (I.hok b u e).stay (fun c v hc q=>keep c v ?_ ?_ ?_ q) (fun c q=>by rw [Zh (neT c _ q)];exact q) fun c xs q=>by rw [Zh (neT c _ q)];exact q
   ·rcases hc with z | z
    ·rw [z];exact neL b u e
    ·exact neL c _ z
   ·rcases hc with z | z
    ·rw [z];exact hb
    ·exact neT c _ z
   ·rcases hc with z | z
    ·rw [z];exact neK b u e
    ·exact neK c _ z
structure ZkM (X:Cx)(pins:List (Addr×Obj))(σ:St)(H:Hp)(n k:Nat)(g:Nat->Int)(qual p z:Str)(params:Arguments)(body:Expr)(scope:Scope)(pm ctv:Value)(c c' f:Addr)(te:TE)(iz:Nat)(vz:V):Prop where
 room:Room (k+4) X.A
 pf:(f,kla_obj "<lambda>" qual params body scope [(z,c)] pm c' ctv)∈pins
 code:H c'=some (.ext (Uf c' qual))
 sc:Zcy p z scope
 bind:∀ u,bindArgs (kla_fn "<lambda>" qual params body scope [(z,c)] pm (.ref c') ctv) ⟨[u],[]⟩=pure [(p,u)]
 cell:X.env.cells.lookup z=some c
 kind:X.env.kindOf z=some .cell
 slot:X.N[iz]? = some z
 val:σ[iz]? = some (some vz)
 body:∀ s' H',PE (Zcr X [p,z] qual scope f (.ref c') [(z,c)] X.A.in1.in1 s' H') body te
 keys:∀ i,i<n->∀ H',Same H H'->te [some (.int (i:Nat)),some vz] H' (fun v H''=>v=.int (g i)/\Same H' H'')
variable {n k:Nat}{g:Nat->Int}{qual p z:Str}{params:Arguments}{body:Expr}{scope:Scope}{pm ctv:Value}{c c' f:Addr}{te:TE}{iz:Nat}{vz:V}{E:Value->Shared->Prop}
theorem ZeZ {a kS:Addr}{e1:Nat}{vs:List Value}{P:PySem.Fin->Shared->Prop}(L:ZkM X pins σ H n k g qual p z params body scope pm ctv c c' f te iz vz)(hv:IntsAre vs ((List.range n).map fun k:Nat=>(k:Int)))(h64:n<64)(na:Zel X pins a)(nk:Zel X pins kS)(hka:kS≠a)
  (I:Inv X ((a,seqObj "list" #[] e1)::(kS,seqObj "list" #[] 0)::pins) σ H s)
  (h:∀ s' H' (ns:List Nat),Inv X pins σ (upd H' a (.lst (nv ns))) s'->Same H H'->H' a=none->ns.Perm (List.range n)->ns.Pairwise (fun a b=>g a<=g b)->P (.done (.ret .none)) s') :
  wpAny (model X.prog X.w) X.A.in1.in1 (ksk_rest a (.ref f) false vs.toArray e1 (.ref kS)) P E s:=by
 have hvl:vs.length=n:=by have:=hv.length;simpa using this
 unfold ksk_rest
 refine wpAny_bind (wpAny_rule ?_)
 first
  | rw [List.forIn_toArray]
  | (rw [<- Array.forIn_toList];simp only [List.toList_toArray])
  | rw [<- Array.forIn_toList]
 refine wpAny_bind (ksk_fold (fun i s'=>∃ H' kA e,Inv X ((a,seqObj "list" #[] e1)::(kS,seqObj "list" kA e)::pins) σ H' s'/\Same H H'/\IntsAre kA.toList ((List.range i).map g)) vs 0 s
  ⟨H,#[],0,I,Same.refl _,by simpa using IntsAre.nil⟩ ?step ?done)
 case step =>
  rintro j x s' hx ⟨H',kA,e,I',sm,hk⟩
  simp only [Nat.zero_add] at hk ⊢
  have hj:j<n:=by rw [<- hvl];exact (List.getElem?_eq_some_iff.mp hx).1
  obtain⟨t,ht⟩:=hv.get j (j:Int) (by rw [List.getElem?_map,List.getElem?_range hj];rfl)
  rw [hx] at ht
  cases ht
  have hz:kA.size<=64:=by
   have h1:=hk.length
   rw [Array.length_toList] at h1
   simp at h1
   omega
  refine wpAny_bind (wpAny_attempt (wpAny_mono (Ze6 (i:=j) (gi:=g j) I' L.room (List.mem_cons_of_mem _ (List.mem_cons_of_mem _ L.pf)) (sm _ _ L.code) L.sc L.bind L.cell L.kind L.slot L.val (L.body _ _) (L.keys j hj H' sm) t) (fun v s'' he=>?_) fun _ _ hF=>hF.elim))
  obtain⟨t2,H2,rfl,I2,sm2⟩:=he
  try dsimp only
  have pk:=I2.pin (kS,seqObj "list" kA e) (List.mem_append_right _ (.tail _ (.head _)))
  have pa:=I2.pin (a,seqObj "list" #[] e1) (List.mem_append_right _ (.head _))
  obtain⟨c2,hc2⟩:∃ c2,(s''.heap.update kS (Obj.mapSeq (·.push (.int (g j) t2)))).get? kS=some (seqObj "list" (kA.push (.int (g j) t2)) c2):=⟨_,get?_update_seq pk.1 (·.push (.int (g j) t2))⟩
  have s1:=Heap.SameBut.update s''.heap kS (Obj.mapSeq (·.push (.int (g j) t2)))
  have J0:Inv X ((a,seqObj "list" #[] e1)::pins) σ H2 s'':=I2.pins_of fun q hq=>by
   rcases List.mem_cons.mp hq with z | z
   ·rw [z];exact pa
   ·exact I2.pin q (List.mem_append_right _ (.tail _ (.tail _ z)))
  have J1:Inv X ((a,seqObj "list" #[] e1)::pins) σ H2 { s'' with heap:=s''.heap.update kS (Obj.mapSeq (·.push (.int (g j) t2))) }:=J0.turned (t':=s''.toks) (it:=kS) (fun b o hb e=>(s1.2 b hb).trans e) pk.2.1 nk.loc (.inr nk.up) nk.cel fun q hq=>by
   rcases List.mem_append.mp hq with z | z
   ·exact nk.pin q (List.mem_append_left _ z)
   ·rcases List.mem_cons.mp z with y | y
    ·rw [y];exact hka.symm
    ·exact nk.pin q (List.mem_append_right _ y)
  have J2:Inv X ((a,seqObj "list" #[] e1)::(kS,seqObj "list" (kA.push (.int (g j) t2)) c2)::pins) σ H2 { s'' with heap:=s''.heap.update kS (Obj.mapSeq (·.push (.int (g j) t2))) }:=J1.pins_of fun q hq=>by
   rcases List.mem_cons.mp hq with z | z
   ·rw [z];exact J1.pin _ (List.mem_append_right _ (.head _))
   ·rcases List.mem_cons.mp z with y | y
    ·rw [y];exact⟨hc2,pk.2.1,pk.2.2.1,pk.2.2.2.1,fun v=>by intro q;cases q⟩
    ·exact J1.pin q (List.mem_append_right _ (.tail _ y))
  refine wpAny_bind (listUpdate_at pk.1 rfl ?_ (by rw [sizeLine_eq];omega) (Nat.le_trans (Nat.le_of_eq (Array.size_push ..)) (by rw [sizeLine_eq];omega)))
  refine wpAny_pure ⟨rfl,H2,kA.push (.int (g j) t2),c2,J2,sm.trans sm2,?_⟩
  have ea:(kA.push (Value.int (g j) t2)).toList=kA.toList++[Value.int (g j) t2]:=by simp
  rw [ea,List.range_succ,List.map_append]
  exact ksk_snoc hk
 case done =>
  rintro s' ⟨H',kA,e,I',sm,hk⟩
  rw [Nat.zero_add,hvl] at hk
  have pk:=I'.pin (kS,seqObj "list" kA e) (List.mem_append_right _ (.tail _ (.head _)))
  have pa:=I'.pin (a,seqObj "list" #[] e1) (List.mem_append_right _ (.head _))
  have J:Inv X pins σ H' s':=I'.pins_of fun q hq=>I'.pin q (List.mem_append_right _ (.tail _ (.tail _ hq)))
  obtain⟨m,hm,_⟩:=id J.loc
  try dsimp only
  refine wpAny_bind (listItems_at pk.1 rfl ?_)
  have hN:News (VN s'.heap) X.env.locals s'.heap (WY (VN s'.heap) s'.heap X.env.locals):=ZeR
  refine ksk_end_ (e:=e) (kz:=(List.range n).map g) (h₀:=VN s'.heap) (L:=X.env.locals) (m:=m) (news:=(WY (VN s'.heap) s'.heap X.env.locals).filter fun q=>decide (q.1≠kS)&&decide (q.1≠a)) (Zjh hm) (fun q hq=>?_) hka (fun q hq=>?_) (fun q hq=>?_) hk (by simp [hvl]) (by omega) fun h' tk out cc F' N' ko=>?_
  ·rcases List.mem_append.mp hq with z | z
   ·exact hN q (List.mem_filter.mp z).1
   ·rcases List.mem_cons.mp z with y | y
    ·rw [y];exact⟨pk.1,pk.2.2.1,XQ _ _⟩
    ·rw [List.mem_singleton.mp y];exact⟨pa.1,pa.2.2.1,XQ _ _⟩
  ·have:=(List.mem_filter.mp hq).2
   simp at this
   exact this.1
  ·have:=(List.mem_filter.mp hq).2
   simp at this
   exact this.2
  obtain⟨ps,hp,ho,hs⟩:=ko
  obtain⟨ns,h1,h2,h3⟩:=ZaX hv hp hs
  rw [<- ho] at h3
  have hD:=(N' _ (.head _)).1
  have hD':h'.get? a=some (seqObj "list" out.toList.toArray cc):=by simpa using hD
  refine h _ H' ns (J.adopt (kS:=kS) hm na nk pa.2.1 pk.2.1 F'.ns (fun b o b1 b2 b3 q=>(N' (b,o) (.tail _ (List.mem_filter.mpr ⟨Zbb b1 (XQ _ _) q,by simp [b2,b3]⟩))).1) ?_ h3 hD') sm pa.2.1 h1 h2
  rw [Zu,h1.length_eq,List.length_range,sizeLine_eq]
  omega
theorem Zcg {r:Addr}{Q:VK}(L:ZkM X pins σ H n k g qual p z params body scope pm ctv c c' f te iz vz)(hc:X.calm=true)(h64:n<64)(hr:H r=some (.rng 0 (n:Int)))(I:Inv X pins σ H s)
  (h:∀ D (ns:List Nat) H',ns.Perm (List.range n)->ns.Pairwise (fun a b=>g a<=g b)->Same H H'->H' D=none->Q (.ref D) (upd H' D (.lst (nv ns)))) :
  wpAny (model X.prog X.w) X.A (call (.builtin "sorted") [.ref r] [(Str.ofString "key",.ref f)]) (EP X pins σ Q) E s:=by
 obtain⟨t,u,v,e⟩:=(show ObjOk X.prog X.w H s.heap r (.rng 0 (n:Int)) from I.hok r _ hr)
 refine call_function_entry_kw kind_sorted plain_sorted entry_sorted (ksk_s1 _ _) ?_
 unfold Builtin.«sorted»
 refine wpAny_bind (m:=checkCount "sorted" 1 1 _) (wpAny_pure ?_)
 refine wpAny_bind (UZ (A:=X.A.in1) (n:=n) (I.ok.hd hc) (show IsRange s.heap r 0 (n:Int) 1 t u v from e) (by omega) fun h1 tk vs keep hv=>?_)
 have hvl:vs.length=n:=by have:=hv.length;simpa using this
 refine wpAny_bind (wpAny_newList ?_ (by rw [hvl,sizeLine_eq];omega))
 have I1:Inv X pins σ H { s with heap:=h1,toks:=tk }:=I.kept keep
 have hoL:(h1.push (seqObj "list" vs.toArray 0)).get? h1.objs.size=some (seqObj "list" vs.toArray 0):=Heap.get?_push_size _ rfl
 show wpAny _ _ _ _ _ { s with heap:=h1.push (seqObj "list" vs.toArray 0),toks:=tk }
 refine wpAny_bind (wpAny_holding (wpAny_call_entry_kw slot_list_sort ⟨_,hoL,rfl⟩ entry_list_sort ?body (ksk_l1 _ _)))
 case body =>
  show wpAny (model X.prog X.w) X.A.in1.in1 (Builtin.«list.sort» ⟨[.ref h1.objs.size],[(Str.ofString "key",.ref f)]⟩) _ _ _
  rw [ksk_t1]
  obtain⟨e1,ho1⟩:∃ e1,((h1.push (seqObj "list" vs.toArray 0)).update h1.objs.size (Obj.mapSeq fun _=>(#[]:Array Value))).get? h1.objs.size=some (seqObj "list" #[] e1):=⟨_,get?_update_seq hoL fun _=>#[]⟩
  unfold ksk_tree
  refine wpAny_bind (listItems_at hoL rfl ?_)
  refine wpAny_bind (listUpdate_at hoL rfl ?_ (by rw [List.size_toArray,hvl,sizeLine_eq];omega) (Nat.zero_le _))
  refine wpAny_bind (seqEpoch_at ho1 rfl ?_)
  refine wpAny_bind (wpAny_newTuple ?_ (by show vs.length<=_;rw [hvl,sizeLine_eq];omega))
  refine wpAny_bind (wpAny_newList ?_ (Nat.zero_le _))
  refine wpAny_holding ?_
  have hsz:((h1.push (seqObj "list" vs.toArray 0)).update h1.objs.size (Obj.mapSeq fun _=>(#[]:Array Value))).objs.size=h1.objs.size+1:=(Heap.size_update ..).trans (size_push' ..)
  have hkS:(((h1.push (seqObj "list" vs.toArray 0)).update h1.objs.size (Obj.mapSeq fun _=>(#[]:Array Value))).push (seqObj "tuple" vs.toArray 0)).objs.size=h1.objs.size+2:=by rw [size_push',hsz]
  have old:∀ b o,h1.get? b=some o->((((h1.push (seqObj "list" vs.toArray 0)).update h1.objs.size (Obj.mapSeq fun _=>(#[]:Array Value))).push (seqObj "tuple" vs.toArray 0)).push (seqObj "list" #[] 0)).get? b=some o:=fun b o eb=>by
   have hlt:b<h1.objs.size:=Heap.lt_size eb
   refine Heap.get?_push_of_some _ (Heap.get?_push_of_some _ ?_)
   rw [Heap.get?_update_ne _ _ _ _ (Nat.ne_of_lt hlt)]
   exact Heap.get?_push_of_some _ eb
  have na:=I1.newAt (b:=h1.objs.size) (Nat.le_refl _)
  have nk:=I1.newAt (b:=h1.objs.size+2) (Nat.le_add_right _ _)
  have I2:Inv X pins σ H { s with heap:=(((h1.push (seqObj "list" vs.toArray 0)).update h1.objs.size (Obj.mapSeq fun _=>(#[]:Array Value))).push (seqObj "tuple" vs.toArray 0)).push (seqObj "list" #[] 0),toks:=tk }:=I1.kept old
  show wpAny (model X.prog X.w) X.A.in1.in1 (ksk_rest h1.objs.size (.ref f) false vs.toArray e1 (.ref (((h1.push (seqObj "list" vs.toArray 0)).update h1.objs.size (Obj.mapSeq fun _=>(#[]:Array Value))).push (seqObj "tuple" vs.toArray 0)).objs.size)) _ _ { s with heap:=(((h1.push (seqObj "list" vs.toArray 0)).update h1.objs.size (Obj.mapSeq fun _=>(#[]:Array Value))).push (seqObj "tuple" vs.toArray 0)).push (seqObj "list" #[] 0),toks:=tk }
  have ekS:((((h1.push (seqObj "list" vs.toArray 0)).update h1.objs.size (Obj.mapSeq fun _=>(#[]:Array Value))).push (seqObj "tuple" vs.toArray 0)).push (seqObj "list" #[] 0)).get? (h1.objs.size+2)=some (seqObj "list" #[] 0):=by rw [<- hkS];exact Heap.get?_push_size _ rfl
  have eaS:((((h1.push (seqObj "list" vs.toArray 0)).update h1.objs.size (Obj.mapSeq fun _=>(#[]:Array Value))).push (seqObj "tuple" vs.toArray 0)).push (seqObj "list" #[] 0)).get? h1.objs.size=some (seqObj "list" #[] e1):=Heap.get?_push_of_some _ (Heap.get?_push_of_some _ ho1)
  rw [hkS]
  have I3:Inv X ((h1.objs.size,seqObj "list" #[] e1)::(h1.objs.size+2,seqObj "list" #[] 0)::pins) σ H { s with heap:=(((h1.push (seqObj "list" vs.toArray 0)).update h1.objs.size (Obj.mapSeq fun _=>(#[]:Array Value))).push (seqObj "tuple" vs.toArray 0)).push (seqObj "list" #[] 0),toks:=tk }:=I2.pins_of fun q hq=>by
   rcases List.mem_cons.mp hq with y | y
   ·rw [y];exact⟨eaS,I1.hok.fresh (Nat.le_refl _),na.loc,na.nofs,fun v=>by intro q;cases q⟩
   ·rcases List.mem_cons.mp y with y | y
    ·rw [y];exact⟨ekS,I1.hok.fresh (Nat.le_add_right _ _),nk.loc,nk.nofs,fun v=>by intro q;cases q⟩
    ·exact I2.pin q (List.mem_append_right _ y)
  refine ZeZ L hv h64 na nk (Nat.ne_of_gt (Nat.lt_add_of_pos_right (by decide))) I3 fun s' H' ns J sm hD g1 g2=>⟨_,rfl,?_⟩
  exact wpAny_pure ⟨_,rfl,⟨.ref h1.objs.size,_,J,rfl,h _ ns H' g1 g2 sm hD⟩⟩
end
noncomputable def SameT (H H':Hp):Prop:=∀ b o,H b=some o->(∀ ps,o≠.tbl ps)->H' b=some o
theorem Same.t {H H':Hp}(h:Same H H'):SameT H H':=fun b o e _=>h b o e
theorem SameT.trans {H H' H2:Hp}(h:SameT H H')(k:SameT H' H2):SameT H H2:=fun b o e n=>k b o (h b o e n) n
theorem SameT.refl (H:Hp):SameT H H:=fun _ _ e _=>e
theorem SameT.lst {H H':Hp}{a:Addr}{xs:List V}(h:SameT H H')(e:H a=some (.lst xs)):H' a=some (.lst xs):=h _ _ e fun _ z=>by cases z
theorem SameT.rng {H H':Hp}{a:Addr}{x y:Int}(h:SameT H H')(e:H a=some (.rng x y)):H' a=some (.rng x y):=h _ _ e fun _ z=>by cases z
noncomputable def FreshT (H:Hp)(a:Addr):Prop:=∀ o,H a=some o->∃ ps,o=.tbl ps
theorem FreshT.of {H H':Hp}{a:Addr}(s:SameT H H')(e:H' a=none):FreshT H a:=fun o h=>Classical.byContradiction fun z=>by
 have:=s _ _ h fun ps q=>z ⟨ps,q⟩
 rw [e] at this
 cases this
theorem FreshT.back {H H':Hp}{a:Addr}(s:SameT H H')(h:FreshT H' a):FreshT H a:=fun o e=>Classical.byContradiction fun z=>z (h o (s _ _ e fun ps q=>z ⟨ps,q⟩))
theorem FreshT.lst {H:Hp}{a b:Addr}{xs:List V}(h:FreshT H a)(e:H b=some (.lst xs)):a≠b:=fun z=>by
 subst z
 obtain⟨ps,q⟩:=h _ e
 cases q
noncomputable def TblOk (H:Hp)(P:Addr)(lpos:Pos)(qual:Str):Prop:=∃ ps,H P=some (.tbl ps)/\(ps=#[]\/∃ c',ps=#[rawInt lpos.line,rawInt lpos.col,.ref c']/\H c'=some (.ext (Uf c' qual)))
theorem TblOk.same {H H':Hp}{P:Addr}{lpos:Pos}{qual:Str}(h:TblOk H P lpos qual)(s:Same H H'):TblOk H' P lpos qual:=by
 obtain⟨ps,h1,h2⟩:=h
 refine⟨ps,s _ _ h1,?_⟩
 rcases h2 with z | ⟨c',e,q⟩
 ·exact .inl z
 ·exact .inr ⟨c',e,s _ _ q⟩
section
variable {X:Cx}{pins:List (Addr×Obj)}{σ:St}{H:Hp}{s:Shared}{E:Value->Shared->Prop}{z:Str}{params:Arguments}{body:Expr}{scope:Scope}{lpos:Pos}{c P cc:Addr}
theorem Zct {c':Addr}{qual:Str}:∀ h1 h2:Heap,Uf c' qual h1->(∀ o,h1.get? c'=some o->h2.get? c'=some o)->Uf c' qual h2:=fun h1 h2 x k=>by
 obtain⟨d,o,vs,t,e,g,r⟩:=x
 cases e
 exact⟨_,o,vs,t,rfl,k o g,r⟩
theorem Ze0 (I:Inv X pins σ H s) (hT:TblOk H P lpos (X.env.qual ++ "<lambda>")) (hcc:X.env.code=.ref cc) (hHd:codeHdIn X.K cc P=true) (hPm:mainGlobals≠P) (BM:X.base.BuiltinsAt X.mg P) (hcl:closureFor scope X.env=pure [(z,c)]) (hdef:defaultsOf params X.env=([],[])) :
  wpAny (model X.prog X.w) X.A (eval (.Lambda params body scope lpos) X.env) (fun v s'=>∃ f c' ctv H',v=.ref f/\Inv X ((f,kla_obj "<lambda>" (X.env.qual ++ "<lambda>") params body scope [(z,c)] ((X.mg "__name__").getD .none) c' ctv)::pins) σ H' s'/\SameT H H'/\TblOk H' P lpos (X.env.qual ++ "<lambda>")/\H' c'=some (.ext (Uf c' (X.env.qual ++ "<lambda>")))) E s:=by
 obtain⟨ps,hP,hps⟩:=hT
 have hraw:s.heap.get? P=some (tabObj ps):=I.hok P _ hP
 have hC:CodeHd s.heap cc P:=codeHd_of_K I.kIn hHd
 have hg:s.heap.Ns mainGlobals X.mg:=I.mod.glob.keeps I.bk
 have hB:s.heap.BuiltinsAt X.mg P:=by
  obtain⟨bm,o,b1,b2,b3,b4,b5,b6⟩:=BM
  exact⟨bm,o,b1,b2,b3,b4,I.bk _ _ b5,b6⟩
 refine kla_eval hdef ?_
 rcases hps with rfl | ⟨c',rfl,hc'⟩
 ·refine kla_makeFunction hcl I.ok.glob hg hcc hC hraw trivial rfl hPm hB fun c' ctv h' tk hx hc1 hc2 hcr hP'=>?_
  have kp:∀ b o,b≠P->s.heap.get? b=some o->h'.get? b=some o:=fun b o hb e=>hx b o hb e
  have neP:∀ b,H b=none->b≠P:=fun b e q=>by rw [q,hP] at e;cases e
  have hcP:c'≠P:=fun q=>by
   have:=Heap.lt_size hraw
   rw [<- q] at this
   exact absurd this (Nat.not_lt.mpr hc1)
  have hcn:H c'=none:=I.hok.fresh hc1
  have ltc:∀ b o,s.heap.get? b=some o->b≠c':=fun b o e q=>by
   have:=Heap.lt_size e
   rw [q] at this
   exact absurd this (Nat.not_lt.mpr hc1)
  have neC:∀ b u,H b=some u->b≠c':=fun b u e q=>by rw [q,hcn] at e;cases e
  have hpush:∀ (o':Obj) b o,h'.get? b=some o->(h'.push o').get? b=some o:=fun o' b o e=>Heap.get?_push_of_some _ e
  have J:Inv X pins σ (upd (upd H c' (.ext (Uf c' (X.env.qual ++ "<lambda>")))) P (.tbl #[rawInt lpos.line,rawInt lpos.col,.ref c'])) { s with heap:=h'.push (kla_obj "<lambda>" (X.env.qual ++ "<lambda>") params body scope [(z,c)] ((X.mg "__name__").getD .none) c' ctv),toks:=tk }:=by
   refine I.step (g':=s.gens) (d':=s.drawn) (t':=tk) (ch:=[]) (fun _ q=>nomatch q) (fun b o _ _ _ e n=>hpush _ _ _ (kp b o (neP b n) e)) (fun b o _ _ _ e n=>⟨o.slots,hpush _ _ _ (kp b o (neP b n) e)⟩) (fun b o _ e n=>by rw [Zh (neP b n),Zh (ltc b o e)];exact n)
    (fun b o _ e=>?_) (fun b xs e=>?_) (fun b o u e=>?_) (fun b ps e=>?_) (fun m hm=>?_) (fun b u e=>?_) I.bare
   ·by_cases hb:b=P
    ·rw [hb];exact⟨_,hpush _ _ _ hP'⟩
    ·exact⟨o,hpush _ _ _ (kp b o hb e)⟩
   ·have:b≠P:=fun q=>by rw [q,hP] at e;cases e
    rw [Zh this,Zh (neC b _ e)];exact e
   ·have:b≠P:=fun q=>by rw [q,hP] at e;cases e
    rw [Zh this,Zh (neC b _ e)];exact e
   ·by_cases hb:b=P
    ·subst hb
     rw [hP] at e
     cases e
     exact⟨#[rawInt lpos.line,rawInt lpos.col,.ref c'],by rw [Zd];rfl⟩
    ·exact⟨#[],by rw [Zh hb,Zh (neC b _ e),e];simp⟩
   ·obtain⟨o,es,ep,ho,r⟩:=hm
    exact⟨o,es,ep,hpush _ _ _ (kp _ o (neP _ I.free) ho),r⟩
   ·by_cases hb:b=P
    ·subst hb
     rw [Zd] at e
     cases e
     exact hpush _ _ _ hP'
    ·rw [Zh hb] at e
     by_cases hb2:b=c'
     ·subst hb2
      rw [Zd] at e
      cases e
      refine⟨hcr.push _,?_,Zct⟩
      obtain⟨d,o,vs,t,e1,e2,_⟩:=hcr
      cases e1
      exact⟨o,hpush _ _ _ e2⟩
     ·rw [Zh hb2] at e
      refine (I.hok b u e).stay (fun d v hd q=>hpush _ _ _ (kp d v ?_ q)) (fun d q=>?_) fun d xs q=>?_
      ·rcases hd with w | w
       ·rw [w];exact hb
       ·exact fun y=>by rw [y,hP] at w;cases w
      ·have:d≠P:=fun y=>by rw [y,hP] at q;cases q
       rw [Zh this,Zh (neC d _ q)];exact q
      ·have:d≠P:=fun y=>by rw [y,hP] at q;cases q
       rw [Zh this,Zh (neC d _ q)];exact q
  have hfs:s.heap.objs.size<=h'.objs.size:=Nat.le_trans hc1 (Nat.le_of_lt hc2)
  have na:=I.newAt hfs
  have hfP:h'.objs.size≠P:=fun q=>by
   have:=Heap.lt_size hraw
   rw [<- q] at this
   exact absurd this (Nat.not_lt.mpr hfs)
  refine⟨h'.objs.size,c',ctv,_,rfl,J.pins_of fun q hq=>?_,fun b o e n=>?_,⟨_,Zd,.inr ⟨c',rfl,by rw [Zh hcP];exact Zd⟩⟩,by rw [Zh hcP];exact Zd⟩
  ·rcases List.mem_cons.mp hq with y | y
   ·rw [y]
    exact⟨Heap.get?_push_size _ rfl,by rw [Zh hfP,Zh (Nat.ne_of_gt hc2)];exact I.hok.fresh hfs,na.loc,na.nofs,fun v=>by intro q;cases q⟩
   ·exact J.pin q (List.mem_append_right _ y)
  ·have:b≠P:=fun q=>by rw [q,hP] at e;cases e;exact n _ rfl
   rw [Zh this,Zh (neC b _ e)];exact e
 ·have hf:codeAmong lpos (#[rawInt lpos.line,rawInt lpos.col,.ref c']:Array Value).toList=some (.ref c'):=by simp [codeAmong,rawInt]
  refine kla_makeFunctionHit hcl I.ok.glob hg hcc hC hraw ⟨⟩ hf hB fun ctv h' tk hk hsz=>?_
  have J:Inv X pins σ H { s with heap:=h'.push (kla_obj "<lambda>" (X.env.qual ++ "<lambda>") params body scope [(z,c)] ((X.mg "__name__").getD .none) c' ctv),toks:=tk }:=I.kept fun b o e=>Heap.get?_push_of_some _ (hk b o e)
  have na:=I.newAt hsz
  refine⟨h'.objs.size,c',ctv,H,rfl,J.pins_of fun q hq=>?_,SameT.refl _,⟨_,hP,.inr ⟨c',rfl,hc'⟩⟩,hc'⟩
  rcases List.mem_cons.mp hq with y | y
  ·rw [y]
   exact⟨Heap.get?_push_size _ rfl,I.hok.fresh hsz,na.loc,na.nofs,fun v=>by intro q;cases q⟩
  ·exact J.pin q (List.mem_append_right _ y)
noncomputable def Zbx (t:TA)(te:TE)(P:Addr)(lpos:Pos)(qual:Str)(iz:Nat):TE:=fun σ H Q=>t σ H fun vs H1=>∃ (r:Addr) (n:Nat) (g:Nat->Int) (vz:V),vs=[.ref r]/\H1 r=some (.rng 0 (n:Int))/\n<64/\TblOk H1 P lpos qual/\σ[iz]? = some (some vz) /\
 (∀ i,i<n->∀ H',SameT H1 H'->te [some (.int (i:Nat)),some vz] H' fun v H''=>v=.int (g i)/\Same H' H'') /\
 ∀ D (ns:List Nat) H',ns.Perm (List.range n)->ns.Pairwise (fun a b=>g a<=g b)->SameT H1 H'->FreshT H1 D->TblOk H' P lpos qual->H' D=some (.lst (nv ns))->Q (.ref D) H'
theorem Zca {k iz:Nat} {p:Str} {p1 pos kpos:Pos} {e:Expr} {t:TA} {te:TE} (hc:X.calm=true) (hr:Room (k+4) X.A) (hg:Gl X "sorted") (hm:X.mg "sorted" = none) (ha:PA X [e] t) (S:Zcy p z scope) (hcc:X.env.code=.ref cc) (hHd:codeHdIn X.K cc P=true) (hPm:mainGlobals≠P) (BM:X.base.BuiltinsAt X.mg P)
  (hcl:closureFor scope X.env=pure [(z,c)]) (hdef:defaultsOf params X.env=([],[])) (hb:∀ pm c' ctv u,bindArgs (kla_fn "<lambda>" (X.env.qual ++ "<lambda>") params body scope [(z,c)] pm (.ref c') ctv) ⟨[u],[]⟩=pure [(p,u)])
  (hzc:X.env.cells.lookup z=some c) (hzk:X.env.kindOf z=some .cell) (hzi:X.N[iz]? = some z)
  (hbody:∀ f c' s' H',PE (Zcr X [p,z] (X.env.qual ++ "<lambda>") scope f (.ref c') [(z,c)] X.A.in1.in1 s' H') body te) (he:starEach [e] X.env=[(false,eval e X.env)]:=by rfl) :
  PE X (.Call (.Name "sorted" p1) [e] [⟨some "key",.Lambda params body scope lpos,kpos⟩] pos) (Zbx t te P lpos (X.env.qual ++ "<lambda>") iz):=by
 intro pins s σ H Q I h
 refine wpAny_Call_Name_kw (ld_blt I hg hm boot_sorted ?_)
 refine callWith_kw (thn (ha pos pins s σ H _ I h) fun us s1 ⟨vs,H1,I1,r1,q1⟩=>?_) (by rw [he];rfl) (by rw [he];rfl)
 obtain⟨r,n,g,vz,rfl,hrr,h64,hT,hv,hkeys,hq⟩:=q1
 obtain⟨u,rfl,ru⟩:=WI r1
 cases (show u=Value.ref r from ru)
 show wpAny _ _ (evalAll [do let v <- eval (.Lambda params body scope lpos) X.env;standAt pos;pure v]) _ _ _
 unfold evalAll
 refine wpAny_bind (wpAny_bind (wpAny_mono (Ze0 (E:=X.xe) I1 hT hcc hHd hPm BM hcl hdef) (fun v s2 hs=>?_) fun _ _ q=>q))
 obtain⟨f,c',ctv,H2,rfl,I2,sm,hT2,hc'⟩:=hs
 refine wpAny_bind (wpAny_standAt (wpAny_pure ?_))
 refine wpAny_bind (wpAny_holding ?_)
 unfold evalAll
 refine wpAny_pure (wpAny_pure ?_)
 show wpAny _ _ (call (.builtin "sorted") [.ref r] [(Str.ofString "key",.ref f)]) _ _ _
 have L:ZkM X ((f,kla_obj "<lambda>" (X.env.qual ++ "<lambda>") params body scope [(z,c)] ((X.mg "__name__").getD .none) c' ctv)::pins) σ H2 n k g (X.env.qual ++ "<lambda>") p z params body scope ((X.mg "__name__").getD .none) ctv c c' f te iz vz :=
  ⟨hr,.head _,hc',S,hb _ _ _,hzc,hzk,hzi,hv,hbody f c',fun i hi H' sm'=>hkeys i hi H' (sm.trans sm'.t)⟩
 refine wpAny_mono (Zcg (Q:=Q) L hc h64 (sm.rng hrr) I2 fun D ns H' g1 g2 sm' hD=>?_) (fun v s3 hs=>?_) fun _ _ q=>q
 ·have s3:Same H' (upd H' D (.lst (nv ns))):=Same.upd hD
  exact hq D ns _ g1 g2 (sm.trans (sm'.trans s3).t) (FreshT.of (sm.trans sm'.t) hD) ((hT2.same sm').same s3) Zd
 ·obtain⟨v',H',J,rv,q⟩:=hs
  exact⟨v',H',J.pins_of fun b hb=>J.pin b (List.mem_append_right _ (.tail _ hb)),rv,q⟩
end
end L2
namespace L2
open PySem PySem.Spec PyProof.Rows
theorem Zdu {P:Program}{w:World}{K:W.Frag}{mg mb:Str->Option Value}{CX:CXT}{k:Nat}{fa a T cc:Addr}{fd:FuncData}{x:Str}{sp:Sp}{s₁:Shared}{vs:List Value}{ns:List Int}
  (KX:K.In s₁.heap) (hT:s₁.heap.get? T=some (W.tabObj #[])) (hHd:W.codeHdIn K cc T=true) (hTK:K.lookup T=none) (hns:s₁.heap.Ns mainGlobals mg) (hb:s₁.heap.Ns builtinsNs mb) (hbb:∀ x:Str,x ≠ "__name__" -> mb x=bootBuiltins x) (hlim:s₁.heap.NoLimit) (hg:s₁.gens=#[])
  (ha:s₁.heap.get? a=some { cls:=.type "list",data:=.seq vs.toArray }) (hi:IntsAre vs ns) (hl:ns.length<=sizeLine) (hr:Room k callerA)
  (hbm:s₁.heap.BuiltinsAt mg T) (F:∀ base:Heap,K.In base->base.Ns mainGlobals mg->base.BuiltinsAt mg T->FnOk P w K mg base CX k fa fd [x] sp) (hbind:∀ (s:Shared) (u:Value),BindsTo s fd ⟨[u],[]⟩ [(x,u)])
  (hsp:∀ H:Hp,H T=some (.tbl #[])->SqL K H a (ns.map V.int)->sp [.ref a] H (fun v _=>v=.bl true) fun _ _ _=>False)
  (hCX:∀ H e s',CX [] H s₁ (fun _ _ _=>False) e s'->False) :
  codeAny (model P w) callerA (.call (.ref fa) ⟨[.ref a],[]⟩) (fun r s'=>r=.ok (.ret (.bool true))/\OldK s₁.heap s'.heap/\s'.os=s₁.os/\AllBare s'.gens) s₁:=by
 have rv:=JA hi
 have lenV:=hi.length
 have haT:a≠T:=fun q=>by rw [q,hT] at ha;cases ha
 have core:∀ H:Hp,H T=some (.tbl #[])->(∀ b,b≠T->H b=none\/∃ o xs,H b=some (.frz o (.lst xs)))->SqL K H a (ns.map V.int)->HOk P w H s₁.heap->(∀ b,H b≠none->b=a\/b=T)->(H a≠none->K.lookup a=none) ->
   codeAny (model P w) callerA (.call (.ref fa) ⟨[.ref a],[]⟩) (fun r s'=>r=.ok (.ret (.bool true))/\OldK s₁.heap s'.heap/\s'.os=s₁.os/\AllBare s'.gens) s₁:=by
  intro H hHT hO hS hok hA hK
  have base_of:∀ {b:Addr} {o:Obj},s₁.heap.get? b=some o->H b=none->(Zep s₁.heap H).get? b=some o:=fun e n=>Zfa e n
  have noA:∀ {b:Addr} {o:Obj} {es:Array DictEntry} {ep:Nat},s₁.heap.get? b=some o->o.data=.dict es ep->H b=none:=fun {b o es ep} e d=>by
   cases q:H b with
   | none=>rfl
   | some u =>
    rcases hA b (by rw [q];simp) with e' | e'
    ·subst e'
     rw [ha] at e;cases e
     have d':Data.seq vs.toArray _=Data.dict es ep:=d
     cases d'
    ·subst e'
     rw [hT] at e;cases e
     cases d
  have nsK:∀ {b:Addr} {m:Str->Option Value},s₁.heap.Ns b m->(Zep s₁.heap H).Ns b m:=fun {b m} ⟨o,es,ep,e,d,r⟩=>⟨o,es,ep,base_of e (noA e d),d,r⟩
  have hKb:K.In (Zep s₁.heap H):=fun b o e=>base_of (KX b o e) (by
   cases q:H b with
   | none=>rfl
   | some u =>
    rcases hA b (by rw [q];simp) with e' | e'
    ·subst e'
     rw [hK (by rw [q];simp)] at e;cases e
    ·subst e'
     rw [hTK] at e;cases e)
  have hM:Mod K mg (Zep s₁.heap H):=⟨hKb,nsK hns,⟨mb,nsK hb,hbb⟩,let ⟨mc,h1,h2⟩:=hlim;⟨mc,nsK h1,h2⟩⟩
  have e0:Env0 P w K mg (Zep s₁.heap H) callerA [] s₁ H:=⟨rfl,hM,fun b o e=>Zg0 e,Nat.le_of_eq (ZdI _ _),trivial,fun b hb=>absurd (show b∈([]:List Addr) from hb) (by simp),hok,.of_eq hg⟩
  have hBb:(Zep s₁.heap H).BuiltinsAt mg T:=by
   obtain⟨bm,o,b1,b2,b3,b4,b5,b6,b7,b8⟩:=hbm
   refine⟨bm,o,b1,b2,b3,b4,base_of b5 ?_,b6,b7,b8⟩
   cases q:H bm with
   | none=>rfl
   | some u =>
    rcases hA bm (by rw [q];simp) with e' | e'
    ·rw [e',ha] at b5;cases b5;cases b8
    ·exact absurd e' b4
  refine codeAny_mono ((F _ hKb (nsK hns) hBb).run callerA [] s₁ H ⟨[.ref a],[]⟩ [.ref a] [.ref a] _ _ hr e0 (hbind s₁ (.ref a)) (.cons rfl .nil) (hsp H hHT hS)) fun r s' h=>?_
  cases r with
  | error e=>exact (hCX H e s' h).elim
  | ok fl =>
   cases fl with
   | next=>exact False.elim h
   | brk=>exact False.elim h
   | cont=>exact False.elim h
   | ret u =>
    obtain⟨v,H',os,bare,un,hok',r',q⟩:=h
    have q':v=.bl true:=q
    subst q'
    obtain rfl:u=Value.bool true:=r'
    have tab:=(W.codeHd_of_K KX hHd).tab hT
    obtain⟨more,hmore⟩:=un.tbls T _ hHT
    have hT':s'.heap.get? T=some (W.tabObj (#[]++more)):=hok' T _ hmore
    have kp:∀ b o,b≠T->s₁.heap.get? b=some o->s'.heap.get? b=some o:=fun b o hb e=>by
     cases q:H b with
     | none=>exact un.keep b o e q (by intro z;exact absurd (show b∈([]:List Addr) from z) (by simp)) (by simp)
     | some u =>
      rcases hO b hb with z | ⟨ob,xs,z⟩
      ·rw [q] at z;cases z
      ·have z2:=un.frzs b ob _ z
       obtain⟨e1,_⟩:=hok b _ z
       obtain⟨e2,_⟩:=hok' b _ z2
       rw [e] at e1;cases e1
       exact e2
    refine⟨rfl,⟨fun b o e=>?_,fun b o e=>?_⟩,os,bare⟩
    ·by_cases hb:b=T
     ·subst hb
      rw [hT] at e
      cases e
      exact .inr (.inl ⟨tab.isCodeTable,rfl,#[],more,rfl,hT'⟩)
     ·exact .inl (kp b o hb e)
    ·by_cases hb:b=T
     ·rw [hb];exact⟨_,hT'⟩
     ·exact⟨o,kp b o hb e⟩
 cases hk:K.lookup a with
 | some o =>
  have e:=KX a o hk
  rw [ha] at e
  cases e
  refine core (fun b=>if b=T then some (.tbl #[]) else none) (if_pos rfl) (fun b hb=>.inl (if_neg hb)) (.inr ⟨_,vs.toArray,_,hk,rfl,rfl,rfl,by rw [List.size_toArray,lenV];exact hl,by simpa using rv⟩) (fun b u z=>?_) (fun b z=>?_) fun z=>absurd (if_neg haT) z
  ·by_cases hb:b=T
   ·have z':=(if_pos hb).symm.trans z
    cases z'
    subst hb
    exact hT
   ·have z':=(if_neg hb).symm.trans z
    cases z'
  ·by_cases hb:b=T
   ·exact .inr hb
   ·exact absurd (if_neg hb) z
 | none =>
  refine core (fun b=>if b=T then some (.tbl #[]) else if b=a then some (.frz { cls:=.type "list",data:=.seq vs.toArray } (.lst (ns.map V.int))) else none) (if_pos rfl) (fun b hb=>?_) (.inl (.inr ⟨{ cls:=.type "list",data:=.seq vs.toArray },(if_neg haT).trans (if_pos rfl)⟩)) (fun b u z=>?_) (fun b z=>?_) fun _=>hk
  ·by_cases hb2:b=a
   ·exact .inr ⟨_,_,(if_neg hb).trans (if_pos hb2)⟩
   ·exact .inl ((if_neg hb).trans (if_neg hb2))
  ·by_cases hb:b=T
   ·have z':=(if_pos hb).symm.trans z
    cases z'
    subst hb
    exact hT
   ·by_cases hb2:b=a
    ·have z':=((if_neg hb).trans (if_pos hb2)).symm.trans z
     cases z'
     subst hb2
     exact⟨ha,by rw [List.length_map];exact hl,vs,_,rv,ha⟩
    ·have z':=((if_neg hb).trans (if_neg hb2)).symm.trans z
     cases z'
  ·by_cases hb:b=T
   ·exact .inr hb
   ·by_cases hb2:b=a
    ·exact .inl hb2
    ·exact absurd ((if_neg hb).trans (if_neg hb2)) z
theorem Zev {l : W.OpenLaw} {n k : Nat} {q : Program} {loose : List Str} {XP : (Str -> Option Value) -> Heap -> Prop} {YP : World -> Heap -> Prop} {d : DefRec} {K : Params -> W.Frag} {CX : World -> CXT} {sp : World -> Sp} {x : Str} {T : Addr}
    (hn : l.most = some n) (hn2 : n <= sizeLine) (hdf : d.params.defaults = []) (hr : Room k callerA)
    (hY : ∀ (w : World) (h : Heap), YP w h -> (K w.params).In h ∧ h.get? T = some (W.tabObj #[]) ∧ (K w.params).lookup T = none)
    (F : ∀ (w : World) (mg : Str -> Option Value) (fa : Addr) (h : Heap), (K w.params).In h -> h.Ns mainGlobals mg -> mg d.name = some (.ref fa) ->
      ∃ cc, W.codeHdIn (K w.params) cc T = true ∧ ∃ fd : FuncData, (∀ (s : Shared) (u : Value), BindsTo s fd ⟨[u], []⟩ [(x, u)]) ∧
        ∀ base : Heap, (K w.params).In base -> base.Ns mainGlobals mg -> base.BuiltinsAt mg T -> FnOk l.prog w (K w.params) mg base (CX w) k fa fd [x] (sp w))
    (hsp : ∀ (w : World) (H : Hp) (a : Addr) (ns : List Int), ns.length <= n -> H T = some (.tbl #[]) -> SqL (K w.params) H a (ns.map V.int) -> sp w [.ref a] H (fun v _ => v = .bl true) fun _ _ _ => False)
    (hCX : ∀ (w : World) (H : Hp) (s : Shared) (e : Value) (s' : Shared), CX w [] H s (fun _ _ _ => False) e s' -> False) :
    W.WalkO q loose XP YP l.row.toRowW d [] (fun f vs => PySem.call f vs) := by
  refine Att.Zbr hn hdf fun w s₀ s₁ mg mb fa o pm cd doc a vs ns G Y ho hd hcd hmg hobj hints hlen hg => ?_
  obtain ⟨KX, hT, h2⟩ := hY w _ Y
  obtain ⟨cc, h1, fd, hb, hF⟩ := F w mg fa _ KX G.T.g hmg
  have hbm : s₁.heap.BuiltinsAt mg T := by
    obtain ⟨bm, ob, b1, b2, b3, b4, b5, b6⟩ := G.T.bmain
    refine ⟨bm, ob, b1, b2, fun q => ?_, fun q => ?_, b3, b4, b5, b6⟩
    · obtain ⟨o, es, ep, e, hd, _⟩ := G.T.g
      rw [q, e] at b3; cases b3; rw [hd] at b6; cases b6
    · rw [q, hT] at b3; cases b3; cases b4
  exact Zdu KX hT h1 h2 G.T.g G.T.b G.T.builtins G.T.nolimit hg hobj hints (Nat.le_trans hlen hn2) hr hbm hF hb (fun H hO hS => hsp w H a ns hlen hO hS) fun H e s' => hCX w H s₁ e s'
theorem Zkq {K:Params->W.Frag}{as:List Addr}{e:∀ P,as=(K P).map (·.1)}{ts:List Addr}{w:World}{h:Heap}(Y:(W.kmHook K as e ts).says w h)(T:Addr)(hT:T∉as):(K w.params).lookup T=none:=by
 rw [e w.params] at hT
 generalize K w.params=L at hT
 induction L with
 | nil=>rfl
 | cons p L ih =>
  obtain⟨b,o⟩:=p
  rw [List.map_cons,List.mem_cons,not_or] at hT
  show List.lookup T ((b,o)::L)=none
  rw [List.lookup_cons,show (T == b)=false from beq_eq_false_iff_ne.mpr hT.1]
  exact ih hT.2
noncomputable def SrcC (K:W.Frag)(mg:Str->Option Value)(x:Str)(st:Stmt)(ps:List Str)(cc:Addr):Prop :=
 ∃ f oc od kV doc pm an ct osl,mg x=some (.ref f)/\K.lookup f=some ⟨oc,od,.func (W.fnOf x x (Yt st) (ZR st) (Zg st) .none kV doc pm an (.ref cc) ct),osl⟩/\W.codeIn K (.ref cc) x=true/\W.keepIn K (.ref f)=true/\Binds K (W.fnOf x x (Yt st) (ZR st) (Zg st) .none kV doc pm an (.ref cc) ct) ps []
theorem SrcC.fn {P:Program}{w:World}{K:W.Frag}{mg:Str->Option Value}{base:Heap}{x:Str}{st:Stmt}{ps N:List Str}{sp:Sp}{k:Nat}{cc:Addr}(S:SrcC K mg x st ps cc)(sc:Zm N ps (Zg st))(len:∀ vs H Q E,sp vs H Q E->vs.length=ps.length)
  (hbody:∀ (f:Addr) (A:Around) (outer:List Env) (s:Shared) (H:Hp) (vs:List V) (Q:VK) (E:XK),Room k (A.deeper (envOfC x (Zg st) s.heap.objs.size f (.ref cc)))->sp vs H Q E ->
   ∃ t,PSs (Zeq CX0 P w K mg base N x (Zg st) f (.ref cc) A outer s H E).nox (ZR st) t/\t { nx:=fun _ H'=>Q .non H',rt:=Q } (start N vs) H):Fn P w K mg base (k+1) x ps sp:=by
 obtain⟨f,oc,od,kV,doc,pm,an,ct,osl,hm,lk,hcd,hkp,hb⟩:=S
 have F:Fun K x x st f (W.fnOf x x (Yt st) (ZR st) (Zg st) .none kV doc pm an (.ref cc) ct):=Wz lk hcd hkp
 refine⟨f,_,Zhj lk hcd sc len fun A outer s H vs Q E hr hsp=>?_,hm,hkp,hb,F.fd⟩
 obtain⟨t,h,q⟩:=hbody f A outer s H vs Q E hr hsp
 exact⟨t,h.nox,q⟩
noncomputable def Zdv (p z:Str)(scope:Scope):Bool:=scope.kind == .function&&!scope.isGenerator&&!scope.isCoroutine&&scope.names.all (fun x=>x.2 != .cell)&&scope.names.lookup p == some .local&&scope.names.lookup z == some .free&&scope.names.all (fun x=>x.2 != .free || x.1 == z)
theorem Ze2 {p z:Str}{scope:Scope}(h:Zdv p z scope=true):Zcy p z scope:=by
 unfold Zdv at h
 simp only [Bool.and_eq_true,Bool.not_eq_true',beq_iff_eq,List.all_eq_true,bne_iff_ne,Bool.or_eq_true] at h
 obtain⟨⟨⟨⟨⟨⟨h1,h2⟩,h3⟩,h4⟩,h5⟩,h6⟩,h7⟩:=h
 refine⟨h1,h2,h3,h4,h5,h6,fun y hy=>?_⟩
 have:=h7 _ (PySem.mem_of_lookup hy)
 rcases this with q | q
 ·exact absurd rfl q
 ·exact q
noncomputable def Zd0 (vs:Array Value)(c P:Addr):Bool:=(match (vs[11]? : Option Value) with | some (.ref P')=>P' == P | _=>false) &&
   (match vs.getD 18 .none with | .str _ _=>true | _=>false)&&(match vs.getD 7 .none with | .int _ _=>true | _=>false) &&
   (match vs.getD 9 .none with | .bool _=>true | _=>false)&&(match vs.getD 10 .none with | .int _ _=>true | _=>false)&&c != P
theorem ZaD {K:W.Frag} {cc T:Addr} {dd:Option Addr} {vv:Array Value} {ss:Array (Option Value)} (cl:K.lookup cc=some ⟨.type "code",dd,.fields vv,ss⟩) (hx:Zd0 vv cc T=true):W.codeHdIn K cc T=true:=by
 unfold W.codeHdIn
 rw [cl]
 exact hx
noncomputable def Jg (st:Stmt):Pos:=match ZR st with
 | [.Return (some (.Call _ _ [⟨_,.Lambda _ _ _ p,_⟩] _)) _]=>p
 | _=>⟨0,0,0,0⟩
theorem Zcv {t:TA}{te:TE}{P:Addr}{lpos:Pos}{qual:Str}{iz:Nat}{σ:St}{H:Hp}{Q:VK}:Zbx t te P lpos qual iz σ H Q=t σ H fun vs H1=>∃ (r:Addr) (n:Nat) (g:Nat->Int) (vz:V),vs=[.ref r]/\H1 r=some (.rng 0 (n:Int))/\n<64/\TblOk H1 P lpos qual/\σ[iz]? = some (some vz) /\
 (∀ i,i<n->∀ H',SameT H1 H'->te [some (.int (i:Nat)),some vz] H' fun v H''=>v=.int (g i)/\Same H' H'') /\
 ∀ D (ns:List Nat) H',ns.Perm (List.range n)->ns.Pairwise (fun a b=>g a<=g b)->SameT H1 H'->FreshT H1 D->TblOk H' P lpos qual->H' D=some (.lst (nv ns))->Q (.ref D) H':=rfl
end L2
namespace L2
open PySem PySem.Spec PyProof.Rows PySem.W
noncomputable def UD:List Nat->Nat->Bool
 | [],_=>true
 | x::xs,m=>!m.testBit x&&UD xs (m|||1<<<x)
theorem UC {x:Nat}:∀ {xs:List Nat} {m:Nat},UD xs m=true->m.testBit x=true->x∉xs
 | [],_,_,_=>by simp
 | y::ys,m,h,hx=>by
  unfold UD at h
  rw [Bool.and_eq_true,Bool.not_eq_true'] at h
  rw [List.mem_cons,not_or]
  refine⟨fun e=>?_,UC h.2 (by rw [Nat.testBit_or,hx,Bool.true_or])⟩
  subst e
  rw [hx] at h
  cases h.1
theorem Vk:∀ {xs:List Nat} {m:Nat},UD xs m=true->xs.Nodup
 | [],_,_=>List.nodup_nil
 | y::ys,m,h=>by
  unfold UD at h
  rw [Bool.and_eq_true] at h
  exact List.nodup_cons.mpr ⟨UC h.2 (by rw [Nat.testBit_or,Nat.one_shiftLeft,Nat.testBit_two_pow_self,Bool.or_true]),Vk h.2⟩
noncomputable def ZdJ (a b:Nat):Int:=reduceHash (Builtin.Tuple.tupleHashOf [hashInt (a:Int),hashInt (b:Int)])
noncomputable def Wb (c:Nat):Nat:=(ZdJ (c/32) (c%32)%6554).toNat
theorem Zcj:UD ((List.range 1024).map Wb) 0=true:=by decide +kernel
theorem Zck {c d:Nat}(hc:c<1024)(hd:d<1024)(h:Wb c=Wb d):c=d:=by
 have hn:=Vk Zcj
 have e1:((List.range 1024).map Wb)[c]? = some (Wb c):=by rw [List.getElem?_map,List.getElem?_range hc];rfl
 have e2:((List.range 1024).map Wb)[d]? = some (Wb d):=by rw [List.getElem?_map,List.getElem?_range hd];rfl
 rw [<- h] at e2
 exact (List.getElem?_inj (by rw [List.length_map,List.length_range];exact hc) hn).mp (e1.trans e2.symm)
theorem Zdj {a b c d:Nat}(ha:a<32)(hb:b<32)(hc:c<32)(hd:d<32)(h:ZdJ a b=ZdJ c d):(a,b)=(c,d):=by
 have e:Wb (a*32+b)=Wb (c*32+d):=by
  unfold Wb
  rw [show (a*32+b)/32=a by omega,show (a*32+b)%32=b by omega,show (c*32+d)/32=c by omega,show (c*32+d)%32=d by omega,h]
 have:=Zck (by omega) (by omega) e
 exact Prod.ext (by omega) (by omega)
theorem Zdx {P:Program}{w:World}(p:Nat×Nat):(tupleKind (ZC P w)).hash (kp p)=ZdJ p.1 p.2:=by
 show tupleKeyHash (ZC P w) (kp p)=_
 unfold tupleKeyHash ZdJ
 congr 1
theorem Zbc {P:Program}{w:World}{p q:Nat×Nat}(h1:p.1<32)(h2:p.2<32)(h3:q.1<32)(h4:q.2<32)(h:(tupleKind (ZC P w)).hash (kp p)=(tupleKind (ZC P w)).hash (kp q)):p=q:=by
 rw [Zdx,Zdx] at h
 exact Zdj h1 h2 h3 h4 h
section
variable {prog:Program}{w:World}{T:Type}[DecidableEq T]{knd:HeapKind prog w T}{A:Around}{E:Value->Shared->Prop}{s:Shared}
theorem ZaV {xs:List (T×Addr×Value)}{k:T}{a:Addr}{v:Value}:(storedH xs k a v).length<=xs.length+1:=by
 cases h:atKey xs k with
 | none=>rw [storedH_new h,List.length_append];exact Nat.le_refl _
 | some p=>rw [storedH_old h,List.length_map];exact Nat.le_succ _
theorem Ui {d a:Addr}{xs:List (T×Addr×Value)}{k:T}{v:Value}{Q:Unit->Shared->Prop}(hu:knd.room A)(hkey:knd.is s.heap k a)(hm:s.heap.DictOfH knd d xs)(hsz:xs.length<=sizeLine)
  (hQ:∀ h',h'.DictOfH knd d (storedH xs k a v)->Heap.SameBut d s.heap h'->Q () { s with heap:=h' }):wpAny (model prog w) A (dictSetHashed d (.ref a) (knd.hash k) v) Q E s:=by
 obtain⟨o,es,ep,ho,hc,hd,he,his,hn⟩:=hm
 have hes:es.size<=sizeLine:=by rw [size_of_entries he];exact hsz
 unfold dictSetHashed
 refine wpAny_holding (wpAny_bind (wpAny_dictFind_heap hu hkey ho hd he his hn (fun hno=>?_) fun j p hj=>?_))
 ·have ha:=atKey_none_of_get hno
  refine wpAny_bind (wpAny_rule (wpAny_updateDictKeys (hz:=by omega) ho hd (hQ _ ⟨_,_,ep+1,Heap.get?_update_self _ ho (Obj.isFreed_of_dict (Obj.data_mapDictKeys hd _)),hc.mapDictKeys _,Obj.data_mapDictKeys hd _,?_,fun x hx=>?_,?_⟩ (Heap.SameBut.update ..))))
  ·rw [storedH_new ha,Array.toList_push,he,List.map_append];rfl
  ·rw [storedH_new ha,List.mem_append,List.mem_singleton] at hx
   rcases hx with hx | rfl
   ·exact knd.keeps (his x hx) ho hd (Heap.SameBut.update ..)
   ·exact knd.keeps hkey ho hd (Heap.SameBut.update ..)
  ·rw [storedH_new ha,List.map_append,List.nodup_append]
   exact⟨hn,by simp,fun x hx y hy e=>not_mem_keys_of_get hno (by rw [e] at hx;rw [List.mem_singleton.mp hy] at hx;exact hx)⟩
 ·have ha:=atKey_of_get hn hj
  refine wpAny_bind (wpAny_rule (wpAny_bind (wpAny_updateDict ho hd (wpAny_point (hQ _ ⟨_,_,ep,Heap.get?_update_self _ ho (Obj.isFreed_of_dict (Obj.data_mapDict hd _)),hc.mapDict _,Obj.data_mapDict hd _,?_,fun x hx=>?_,?_⟩ (Heap.SameBut.update ..))))))
  ·rw [storedH_old ha,<- modify_map_putAt (entryOfKey knd) (fun e:DictEntry=>{ e with val:=v }) k v (fun _ _=>rfl) hn hj,<- he]
   simp
  ·rw [storedH_old ha] at hx
   obtain⟨y,hy,rfl⟩:=List.mem_map.mp hx
   unfold putAt
   split<;>exact knd.keeps (his y hy) ho hd (Heap.SameBut.update ..)
  ·rw [storedH_old ha,keys_map_putAt];exact hn
noncomputable def Ye (xs ys:List (T×Addr×Value)):List (T×Addr×Value):=ys.foldl (fun acc x=>storedH acc x.1 x.2.1 x.2.2) xs
theorem Zah {xs ys:List (T×Addr×Value)}{i:Nat}{x:T×Addr×Value}(e:ys[i]? = some x):Ye xs (ys.take (i+1))=storedH (Ye xs (ys.take i)) x.1 x.2.1 x.2.2:=by
 unfold Ye
 rw [List.take_add_one,e,Option.toList_some,List.foldl_append]
 rfl
theorem Wi:∀ {ys xs:List (T×Addr×Value)},(Ye xs ys).length<=xs.length+ys.length
 | [],xs=>Nat.le_refl _
 | y::ys,xs=>by
  have h1:=Wi (ys:=ys) (xs:=storedH xs y.1 y.2.1 y.2.2)
  have h2:=ZaV (xs:=xs) (k:=y.1) (a:=y.2.1) (v:=y.2.2)
  have h3:Ye xs (y::ys)=Ye (storedH xs y.1 y.2.1 y.2.2) ys:=rfl
  rw [h3,List.length_cons]
  omega
theorem VQ:∀ {ys xs:List (T×Addr×Value)},((xs++ys).map (·.1)).Nodup->Ye xs ys=xs++ys
 | [],xs,_=>by rw [List.append_nil];rfl
 | y::ys,xs,h=>by
  have ha:atKey xs y.1=none:=atKey_none_of_get fun j p e=>by
   rw [List.map_append,List.nodup_append] at h
   exact h.2.2 y.1 (List.mem_map.mpr ⟨_,List.mem_of_getElem? e,rfl⟩) y.1 (by simp) rfl
  have h3:Ye xs (y::ys)=Ye (storedH xs y.1 y.2.1 y.2.2) ys:=rfl
  rw [h3,storedH_new ha,VQ (by rw [List.append_assoc];exact h),List.append_assoc]
  rfl
theorem Jj {id:String}{d:Addr}{o:Obj}{es:Array DictEntry}{ep:Nat}{Q:Array DictEntry->Shared->Prop}(ho:s.heap.get? d=some o)(hd:o.data=.dict es ep)
  (hq:∀ e∈es.toList,∀ R:Bool->Shared->Prop,(∀ b,R b s)->wpAny (model prog w) A (Builtin.Dict.quietEq e.key) R E s) (hn:(es.toList.map (·.hash)).Nodup) (h:Q es s):wpAny (model prog w) A (Builtin.Dict.entriesForEmpty id d) Q E s:=by
 have few:∀ e∈es.toList,¬ (es.filter (·.hash == e.hash)).size>1:=fun e he=>by
  have h1:=List.nodup_iff_count.mp hn e.hash
  rw [List.count,List.countP_map,List.countP_eq_length_filter] at h1
  rw [<- Array.length_toList,Array.toList_filter]
  exact Nat.not_lt.mpr h1
 unfold Builtin.Dict.entriesForEmpty
 refine wpAny_bind (wpAny_dictEntries ho hd (wpAny_bind ?_))
 rw [<- Array.forIn_toList]
 refine wpAny_forIn_list _ (fun rest _ s'=>s'=s/\∀ e∈rest,e∈es.toList) _ ?_ ?_ _ _ ⟨rfl,fun _ he=>he⟩
 ·rintro e rest b s' ⟨rfl,hr⟩
  have he:=hr e List.mem_cons_self
  refine wpAny_bind (hq e he _ fun q=>?_)
  have k:s'=s'/\∀ e∈rest,e∈es.toList:=⟨rfl,fun e h=>hr e (List.mem_cons_of_mem _ h)⟩
  cases q
  ·rw [if_pos (show (!false)=true from rfl),if_neg (few e he)]
   exact wpAny_pure k
  ·exact wpAny_pure k
 ·rintro b s' ⟨rfl,_⟩
  exact wpAny_pure h
theorem merge_heap {nm:String}{d o:Addr}{xs ys:List (T×Addr×Value)}{Q:Unit->Shared->Prop}(hu:knd.room A)(hdo:d≠o)(hoS:(o == sysModules)=false)(hd:s.heap.DictOfH knd d xs)(ho:s.heap.DictOfH knd o ys)(hsz:xs.length+ys.length<=sizeLine)
  (hq:∀ x∈ys,∀ R:Bool->Shared->Prop,(∀ b,R b s)->wpAny (model prog w) A (Builtin.Dict.quietEq (.ref x.2.1)) R E s) (hh:(ys.map fun x=>knd.hash x.1).Nodup)
  (hQ:∀ h',h'.DictOfH knd d (Ye xs ys)->Heap.SameBut d s.heap h'->Q () { s with heap:=h' }):wpAny (model prog w) A (Builtin.Dict.mergeDict nm d o) Q E s:=by
 obtain⟨od,esd,epd,hod,hcd,hdd,hed,hid,hnd⟩:=id hd
 obtain⟨oo,eso,epo,hoo,hco,hdo',heo,hio,hno⟩:=id ho
 have hlo:=size_of_entries heo
 have hld:=size_of_entries hed
 unfold Builtin.Dict.mergeDict
 rw [if_neg (by simpa using hdo)]
 unfold Builtin.Dict.showsAll
 rw [if_neg (by rw [hoS];exact Bool.false_ne_true)]
 refine wpAny_bind (wpAny_pure (wpAny_bind (wpAny_dictEntries hoo hdo' ?_)))
 dsimp only
 split
 refine wpAny_bind (wpAny_dictEntries hod hdd ?_)
 split
 ·rename_i hemp
  have hx:xs=[]:=List.length_eq_zero_iff.mp (by rw [<- hld,Array.isEmpty_iff.mp hemp];rfl)
  subst hx
  rw [VQ (by simpa using hno),List.nil_append] at hQ
  refine wpAny_bind (Jj hoo hdo' (fun e he R hR=>?_) ?_ ?_)
  ·rw [heo] at he
   obtain⟨x,hx,rfl⟩:=List.mem_map.mp he
   exact hq x hx R hR
  ·rw [heo,List.map_map];exact hh
  ·split
   ·refine wpAny_bind (wpAny_updateDictKeysTo hod hdd (wpAny_pure (hQ _ ⟨_,_,epd+1,Heap.get?_update_self _ hod (Obj.isFreed_of_dict (Obj.data_mapDictKeys hdd _)),hcd.mapDictKeys _,Obj.data_mapDictKeys hdd _,heo,fun x hx=>knd.keeps (hio x hx) hod hdd (Heap.SameBut.update ..),hno⟩ (Heap.SameBut.update ..))) (by simp at hsz;omega))
   ·rename_i hne
    have h0:eso=#[]:=Array.isEmpty_iff.mp (by simpa using hne)
    have hy:ys=[]:=List.length_eq_zero_iff.mp (by rw [<- hlo,h0];rfl)
    subst hy
    exact wpAny_pure (hQ _ hd (Heap.SameBut.refl _ _))
 all_goals
  refine wpAny_bind (wpAny_dictEpoch hoo hdo' (wpAny_bind (wpAny_dictEntries hoo hdo' (wpAny_bind ?_))))
  rw [Std.Legacy.Range.forIn_eq_forIn_range']
  simp only [Std.Legacy.Range.size,Nat.sub_zero,Nat.add_sub_cancel,Nat.div_one]
  refine wpAny_forIn_list _ (fun rest _ s'=>∃ h' i,s'={ s with heap:=h' }/\rest=List.range' i (eso.size-i)/\i<=eso.size/\h'.DictOfH knd d (Ye xs (ys.take i))/\Heap.SameBut d s.heap h') _ ?_ ?_ _ _ ⟨s.heap,0,rfl,by simp,Nat.zero_le _,hd,Heap.SameBut.refl _ _⟩
  ·rintro x rest b s' ⟨h',i,rfl,hr,hi,hm,hs⟩
   have hlt:i<eso.size:=by
    refine Nat.lt_of_not_le fun z=>?_
    rw [Nat.sub_eq_zero_of_le z] at hr
    cases hr
   rw [show eso.size-i=(eso.size-(i+1))+1 by omega,List.range'_succ] at hr
   injection hr with h1 h2
   subst h1
   have hoo1:h'.get? o=some oo:=(hs.2 o (Ne.symm hdo)).trans hoo
   obtain⟨y,hy⟩:∃ y,ys[x]? = some y:=⟨_,List.getElem?_eq_getElem (by omega)⟩
   have hkey:knd.is h' y.1 y.2.1:=knd.keeps (hio y (List.mem_of_getElem? hy)) hod hdd hs
   have hlen:(Ye xs (ys.take x)).length<=sizeLine:=by
    have h5:=Wi (ys:=ys.take x) (xs:=xs)
    rw [List.length_take] at h5
    omega
   refine wpAny_bind (wpAny_dictEntries hoo1 hdo' ?_)
   rw [entry_at heo x,hy]
   refine wpAny_bind (wpAny_holding (Ui hu hkey hm hlen fun h'' hm2 hs2=>?_))
   have hoo2:h''.get? o=some oo:=(hs2.2 o (Ne.symm hdo)).trans hoo1
   refine wpAny_bind (wpAny_dictEpoch hoo2 hdo' ?_)
   rw [if_neg (by simp)]
   exact wpAny_pure ⟨h'',x+1,rfl,h2,hlt,by rw [Zah hy];exact hm2,hs.trans hs2⟩
  ·rintro b s' ⟨h',i,rfl,hr,hi,hm,hs⟩
   have hin:i=eso.size:=by
    refine Nat.le_antisymm hi (Nat.le_of_not_lt fun z=>?_)
    rw [show eso.size-i=(eso.size-(i+1))+1 by omega,List.range'_succ] at hr
    cases hr
   rw [hin,hlo,List.take_length] at hm
   exact wpAny_pure (hQ h' hm hs)
theorem WR (knd:HeapKind prog w T)(d o:Addr)(hdo:d≠o)(hoS:(o == sysModules)=false) :
  MeetsIn prog w (Builtin.«dict.update» ⟨[.ref d,.ref o],[]⟩) (fun A R s=>∃ xs ys,knd.room A.in1/\s.heap.DictOfH knd d xs/\s.heap.DictOfH knd o ys/\xs.length+ys.length<=sizeLine/\(∀ x∈ys,s.TypeIs (.ref x.2.1) "tuple")/\(ys.map fun x=>knd.hash x.1).Nodup /\
   ∀ h',h'.DictOfH knd d (Ye xs ys)->Heap.SameBut d s.heap h'->R (.ok (.ret .none)) { s with heap:=h' }) :=
 .of_wp fun A R s ⟨xs,ys,hu,hd,ho,hsz,ht,hh,h⟩=>by
  unfold Builtin.«dict.update» Builtin.Dict.selfAndRest
  refine wpAny_bind (wpAny_bind (wpAny_notOrdered_dict hd.typeIs ?_))
  show wpAny _ _ (pure (d,[Value.ref o])) _ _ s
  refine wpAny_pure ?_
  show wpAny _ _ (Builtin.Dict.updateFrom "dict.update" d (.ref o) [] .none) _ _ s
  unfold Builtin.Dict.updateFrom
  refine wpAny_bind (wpAny_typeOf ho.typeIs ?_)
  rw [if_neg (by decide)]
  unfold Builtin.Dict.merge Builtin.Dict.readDirectly
  refine wpAny_bind (wpAny_bind (wpAny_bind (wpAny_isInstance ho.typeIs isSubtype_dict_dict ?_)))
  simp only [Bool.not_true,Bool.false_eq_true,if_false]
  refine wpAny_bind (wpAny_specialOf ho.typeIs F.slot_dict_iter.lookup (wpAny_pure ?_))
  simp only [beq_self_eq_true,if_true]
  refine wpAny_bind (wpAny_pure ?_)
  refine merge_heap hu hdo hoS hd ho hsz (fun x hx Rq hR=>?_) hh fun h' hd' hs'=>?_
  ·unfold Builtin.Dict.quietEq
   exact wpAny_bind (wpAny_specialOf (ht x hx) F.slot_tuple_eq.lookup (wpAny_pure (hR _)))
  ·show wpAny _ _ (Builtin.Dict.addKeywords d [] >>= _) _ _ _
   exact wpAny_bind (wpAny_pure (wpAny_pure ⟨.none,rfl,h h' hd' hs'⟩))
end
noncomputable def Vl (kvs more:List (List Key×V)):List (List Key×V):=more.foldl (fun acc kv=>JS acc kv.1 kv.2) kvs
theorem KT.merge {H:Hp}{more:List (List Key×V)}{ys:List (List Key×Addr×Value)}(r:KT H more ys):∀ {kvs:List (List Key×V)} {xs:List (List Key×Addr×Value)},KT H kvs xs->KT H (Vl kvs more) (Ye xs ys):=by
 induction r with
 | nil=>intro kvs xs q;exact q
 | @cons p q ps qs hq t ih =>
  intro kvs xs r0
  have:=r0.put p.1 (b:=q.2.1) (y:=p.2) (u:=q.2.2) hq.2.1 hq.2.2
  have e:Ye xs (q::qs)=Ye (storedH xs p.1 q.2.1 q.2.2) qs:=by rw [hq.1];rfl
  rw [e]
  exact ih this
theorem KT.keys {H:Hp}{kvs:List (List Key×V)}{xs:List (List Key×Addr×Value)}(r:KT H kvs xs):xs.map (·.1)=kvs.map (·.1):=by
 induction r with
 | nil=>rfl
 | @cons p q ps qs hq t ih=>rw [List.map_cons,List.map_cons,ih,hq.1]
theorem KT.tups {H:Hp}{kvs:List (List Key×V)}{xs:List (List Key×Addr×Value)}(r:KT H kvs xs):∀ x∈xs,H x.2.1=some (.tup (x.1.map kV)):=by
 induction r with
 | nil=>intro x hx;exact nomatch hx
 | @cons p q ps qs hq t ih =>
  intro x hx
  rcases List.mem_cons.mp hx with e | hx
  ·subst e;rw [<- hq.1];exact hq.2.1
  ·exact ih x hx
noncomputable def ZcY:V->List V->Hp->VK->Prop:=fun x vs H Q=>∃ (a b:Addr) (kvs more:List (List Key×V)) (qs:List (Nat×Nat)),x=.ref a/\vs=[.ref b]/\a≠b/\H a=some (.dT kvs)/\H b=some (.dT more)/\more.map (·.1)=qs.map kp/\(∀ q∈qs,q.1<32/\q.2<32)/\kvs.length+more.length<=sizeLine/\Q .non (upd H a (.dT (Vl kvs more)))
theorem Zaf {X:Cx} (hu:X.A.units+1<cLine):MtM X "dict.update" ZcY:=by
 intro pins s σ H x vs v us Q I rx rv h
 obtain⟨a,b,kvs,more,qs,rfl,rfl,hne,ha,hb,hk,hq,hsz,q⟩:=h
 cases rx
 obtain⟨u,rfl,ru⟩:=rv.one
 cases (show u=Value.ref b from ru)
 obtain⟨z1,y1,xs,r1,d1⟩:=Zfo I.hok ha
 obtain⟨z2,y2,ys,r2,d2⟩:=Zfo I.hok hb
 refine call_meetsIn PySem.F.slot_dict_update d1.typeIs PySem.F.entry_dict_update (PySem.F.args_dict_update_2 _ _) (WR (tupleKind (ZC X.prog X.w)) a b hne y2)
  ⟨xs,ys,tupleKind_room_in1 hu,d1,d2,by rw [<- r1.length,<- r2.length];exact hsz,fun x hx=>?_,?_,fun h' hm hs=>?_⟩
 ·obtain⟨_,its,_,o,h1,h2,_⟩:=(show ObjOk X.prog X.w H s.heap x.2.1 (.tup (x.1.map kV)) from I.hok _ _ (r2.tups x hx))
  exact⟨o,h1,h2⟩
 ·obtain⟨_,_,_,_,_,_,_,_,hn⟩:=d2
  have e1:ys.map (fun x=>(tupleKind (ZC X.prog X.w)).hash x.1)=qs.map fun q=>(tupleKind (ZC X.prog X.w)).hash (kp q):=by
   have e2:ys.map (·.1)=qs.map kp:=r2.keys.trans hk
   have e3:=congrArg (List.map (tupleKind (ZC X.prog X.w)).hash) e2
   rw [List.map_map,List.map_map] at e3
   exact e3
  have hnq:qs.Nodup:=by
   rw [r2.keys,hk] at hn
   rw [List.Nodup,List.pairwise_map] at hn
   exact hn.imp fun h e=>h (by rw [e])
  rw [e1,List.Nodup,List.pairwise_map]
  refine hnq.imp_of_mem fun {p q} hp hq' hne e=>hne ?_
  exact Zbc (hq p hp).1 (hq p hp).2 (hq q hq').1 (hq q hq').2 e
 ·obtain⟨o,es,ep,ho,h2,h3,h4,_,h5⟩:=hm
  have hl:(Vl kvs more).length<=sizeLine:=by
   have h6:=Wi (ys:=ys) (xs:=xs)
   have h7:=Paired.length (KT.merge r2 r1)
   have h8:=Paired.length r1
   have h9:=Paired.length r2
   omega
  have new:ObjOk X.prog X.w (upd H a (.dT (Vl kvs more))) h' a (.dT (Vl kvs more)):=by
   refine⟨hl,y1,_,(KT.merge r2 r1).keeps fun c zs ec=>?_,o,es,ep,ho,h2,h3,h4,h5⟩
   rw [Zh (ZeS ec ha (fun z=>nomatch z))]
   exact ec
  exact⟨.non,_,Jq I (by rw [ha];exact True.intro) hs ⟨o,ho⟩ new,rfl,q⟩
theorem ZfP {σ:St}{H:Hp}{Q:VK}:Zf3 σ H Q=∀ p,H p=none->Q (.ref p) (upd H p (.dT [])):=rfl
theorem Zcw {x:V}{vs:List V}{H:Hp}{Q:VK}:ZcY x vs H Q=∃ (a b:Addr) (kvs more:List (List Key×V)) (qs:List (Nat×Nat)),x=.ref a/\vs=[.ref b]/\a≠b/\H a=some (.dT kvs)/\H b=some (.dT more)/\more.map (·.1)=qs.map kp/\(∀ q∈qs,q.1<32/\q.2<32)/\kvs.length+more.length<=sizeLine/\Q .non (upd H a (.dT (Vl kvs more))):=rfl
end L2
namespace L2
open PySem PySem.Spec PyProof.Rows
namespace Z3
noncomputable abbrev Tri (h:Heap) (T:Addr) (a b c:Value):Prop:=h.get? T=some { cls:=.type "tuple",data:=.seq #[a,b,c] }
noncomputable abbrev Zp (h:Heap)(n:Nat)(f:Value):Prop:=IsZip h (n+5) (n+3) (n+4) f
theorem ad {n a b:Nat}(h:a≠b):(n+a:Nat)≠n+b:=fun z=>h (Nat.add_left_cancel z)
theorem ad0 {n b:Nat}(h:0≠b):(n:Nat)≠n+b:=ad (a:=0) h
theorem ad1 {n b:Nat}(h:b≠0):(n+b:Nat)≠n:=ad (b:=0) h
theorem Yy {a b:Nat}(h:a<b):(a:Addr)≠(b:Addr):=Nat.ne_of_lt h
theorem Uk {a b:Nat}(h:b<a):(a:Addr)≠(b:Addr):=Nat.ne_of_gt h
noncomputable def Out (n c:Nat):Prop:=c<n\/c=n+3\/n+5<c
noncomputable def Kept (n:Nat)(h h':Heap):Prop:=∀ c o,Out n c->h.get? c=some o->h'.get? c=some o
structure St3 (h:Heap)(n:Nat)(f:Value)(k:Nat)(l1 l2 l3:Addr):Prop where
 zp:Zp h n f
 ti:Tri h (n+3) (.ref n) (.ref (n+1)) (.ref (n+2))
 to:∃ a b c,Tri h (n+4) a b c
 i1:h.IsListIter n l1 k
 i2:h.IsListIter (n+1) l2 k
 i3:h.IsListIter (n+2) l3 k
section
variable {prog:Program}{w:World}{A:Around}{E:Value->Shared->Prop}{s:Shared}{n k l1 l2 l3:Nat}{xs ys zs:Array Value}
theorem ZaT {T:Addr}{a b c x:Value}{j:Nat}{Q:Unit->Shared->Prop}(e:Tri s.heap T a b c)
  (q:∀ h',h'.get? T=some { cls:=.type "tuple",data:=.seq ((#[a,b,c]:Array Value).setIfInBounds j x) }->Heap.SameBut T s.heap h'->Q () { s with heap:=h' }):wpAny (model prog w) A (updateSeq T (·.setIfInBounds j x)) Q E s:=by
 refine wpAny_updateSeq e rfl (q _ ?_ (Heap.SameBut.update ..))
 rw [Heap.get?_update_self _ e rfl]
 simp [Obj.mapSeq]
theorem Zdo {x y z:Value}{Q:Value->Shared->Prop}(S:St3 s.heap n .none k l1 l2 l3)(b1:l1<n)(b2:l2<n)(b3:l3<n)(L1:s.heap.IsList l1 xs)(L2:s.heap.IsList l2 ys)(L3:s.heap.IsList l3 zs)(ex:xs[k]? = some x)(ey:ys[k]? = some y)(ez:zs[k]? = some z)
  (q:∀ h',St3 h' n (rawInt s.heap.objs.size) (k+1) l1 l2 l3->Tri h' s.heap.objs.size x y z->Kept n s.heap h'->Q (.ref s.heap.objs.size) { s with heap:=h' }) :
  wpAny (model prog w) A (Builtin.«zip.__next__» ⟨[.ref (n+5)],[]⟩) (fun fin s'=>∃ v,fin=.done (.ret v)/\Q v s') E s:=by
 obtain⟨Z,TI,⟨a,b,c,TO⟩,I1,I2,I3⟩:=S
 show wpAny _ _ (field (.ref (n+5)) 2 >>= _) _ _ _
 refine wpAny_bind (wpAny_field Z rfl (x:=.bool false) rfl ?_)
 show wpAny _ _ (field (.ref (n+5)) 3 >>= _) _ _ _
 refine wpAny_bind (wpAny_field Z rfl (x:=.ref (n+3)) rfl (wpAny_bind (wpAny_seqItems TI rfl ?_)))
 show wpAny _ _ (Builtin.SmallTypes.ownedTupleIsFree (.ref (n+5)) >>= _) _ _ _
 unfold Builtin.SmallTypes.ownedTupleIsFree
 refine wpAny_bind (wpAny_bind (wpAny_field Z rfl (x:=.none) rfl (wpAny_pure ?_)))
 simp only [if_true]
 refine wpAny_bind (wpAny_rule (wpAny_bind (wpAny_field Z rfl (x:=.ref (n+4)) rfl (wpAny_bind (wpAny_setField_rec Z (by simp) fun g1 Z1 c1=>wpAny_bind ?_)))))
 replace Z1:Zp g1 n .ellipsis:=Z1
 simp only [List.zipIdx_cons,List.zipIdx_nil,List.forIn_cons,List.forIn_nil]
 refine wpAny_bind (wpAny_bind (wpAny_onRaise ?_))
 show wpAny _ _ (Builtin.SmallTypes.nextOf (.ref n) >>= _) _ _ _
 refine wpAny_bind (wpAny_nextOf_list_item (I1.extBut c1.extBut (by first | exact ad (by decide) | exact ad0 (by decide) | exact ad1 (by decide) | exact Yy (by omega))) (L1.extBut c1.extBut (by first | exact ad (by decide) | exact ad0 (by decide) | exact ad1 (by decide) | exact Yy (by omega))) ex fun g2 J1 c2=>wpAny_pure ?_)
 have TO2:Tri g2 (n+4) a b c:=c2.extBut _ _ (by first | exact ad (by decide) | exact ad0 (by decide) | exact ad1 (by decide) | exact Uk (by omega)) (c1.extBut _ _ (by first | exact ad (by decide) | exact ad0 (by decide) | exact ad1 (by decide) | exact Yy (by omega)) TO)
 refine wpAny_bind (wpAny_seqItems TO2 rfl (wpAny_bind (ZaT TO2 fun g3 TO3 c3=>wpAny_bind (wpAny_letGo (wpAny_pure ?_)))))
 replace TO3:Tri g3 (n+4) x b c:=TO3
 have k3:∀ d o,Out n d\/d=n+1\/d=n+2->s.heap.get? d=some o->g3.get? d=some o:=fun d o hd e=>by
  have h1:d≠n+5/\d≠n/\d≠n+4:=by unfold Out at hd;exact⟨by omega,by omega,by omega⟩
  exact c3.extBut _ _ h1.2.2 (c2.extBut _ _ h1.2.1 (c1.extBut _ _ h1.1 e))
 refine wpAny_bind (wpAny_bind (wpAny_onRaise ?_))
 show wpAny _ _ (Builtin.SmallTypes.nextOf (.ref (n+1)) >>= _) _ _ _
 refine wpAny_bind (wpAny_nextOf_list_item (I2.at fun o e=>k3 _ o (.inr (.inl rfl)) e) (L2.at fun o e=>k3 _ o (.inl (.inl b2)) e) ey fun g4 J2 c4=>wpAny_pure ?_)
 have TO4:Tri g4 (n+4) x b c:=c4.extBut _ _ (by first | exact ad (by decide) | exact ad0 (by decide) | exact ad1 (by decide) | exact Uk (by omega)) TO3
 refine wpAny_bind (wpAny_seqItems TO4 rfl (wpAny_bind (ZaT TO4 fun g5 TO5 c5=>wpAny_bind (wpAny_letGo (wpAny_pure ?_)))))
 replace TO5:Tri g5 (n+4) x y c:=TO5
 have k5:∀ d o,Out n d\/d=n+2->s.heap.get? d=some o->g5.get? d=some o:=fun d o hd e=>by
  have h1:d≠n+1/\d≠n+4:=by unfold Out at hd;exact⟨by omega,by omega⟩
  exact c5.extBut _ _ h1.2 (c4.extBut _ _ h1.1 (k3 d o (hd.imp_right .inr) e))
 refine wpAny_bind (wpAny_bind (wpAny_onRaise ?_))
 show wpAny _ _ (Builtin.SmallTypes.nextOf (.ref (n+2)) >>= _) _ _ _
 refine wpAny_bind (wpAny_nextOf_list_item (I3.at fun o e=>k5 _ o (.inr rfl) e) (L3.at fun o e=>k5 _ o (.inl (.inl b3)) e) ez fun g6 J3 c6=>wpAny_pure ?_)
 have TO6:Tri g6 (n+4) x y c:=c6.extBut _ _ (by first | exact ad (by decide) | exact ad0 (by decide) | exact ad1 (by decide) | exact Uk (by omega)) TO5
 refine wpAny_bind (wpAny_seqItems TO6 rfl (wpAny_bind (ZaT TO6 fun g7 TO7 c7=>wpAny_bind (wpAny_letGo (wpAny_pure (wpAny_pure ?_))))))
 replace TO7:Tri g7 (n+4) x y z:=TO7
 have k7:Kept n s.heap g7:=fun d o hd e=>by
  have h1:d≠n+2/\d≠n+4:=by unfold Out at hd;exact⟨by omega,by omega⟩
  exact c7.extBut _ _ h1.2 (c6.extBut _ _ h1.1 (k5 d o (.inl hd) e))
 have sz:g7.objs.size=s.heap.objs.size:=by rw [c7.1,c6.1,c5.1,c4.1,c3.1,c2.1,c1.1]
 have Z7:Zp g7 n .ellipsis:=c7.extBut _ _ (by first | exact ad (by decide) | exact ad0 (by decide) | exact ad1 (by decide) | exact Uk (by omega)) (c6.extBut _ _ (by first | exact ad (by decide) | exact ad0 (by decide) | exact ad1 (by decide) | exact Uk (by omega)) (c5.extBut _ _ (by first | exact ad (by decide) | exact ad0 (by decide) | exact ad1 (by decide) | exact Uk (by omega)) (c4.extBut _ _ (by first | exact ad (by decide) | exact ad0 (by decide) | exact ad1 (by decide) | exact Uk (by omega)) (c3.extBut _ _ (by first | exact ad (by decide) | exact ad0 (by decide) | exact ad1 (by decide) | exact Uk (by omega)) (c2.extBut _ _ (by first | exact ad (by decide) | exact ad0 (by decide) | exact ad1 (by decide) | exact Uk (by omega)) Z1)))))
 have J1:g7.IsListIter n l1 (k+1):=((((J1.extBut c3.extBut (by first | exact ad (by decide) | exact ad0 (by decide) | exact ad1 (by decide) | exact Yy (by omega))).extBut c4.extBut (by first | exact ad (by decide) | exact ad0 (by decide) | exact ad1 (by decide) | exact Yy (by omega))).extBut c5.extBut (by first | exact ad (by decide) | exact ad0 (by decide) | exact ad1 (by decide) | exact Yy (by omega))).extBut c6.extBut (by first | exact ad (by decide) | exact ad0 (by decide) | exact ad1 (by decide) | exact Yy (by omega))).extBut c7.extBut (by first | exact ad (by decide) | exact ad0 (by decide) | exact ad1 (by decide) | exact Yy (by omega))
 have J2:g7.IsListIter (n+1) l2 (k+1):=((J2.extBut c5.extBut (by first | exact ad (by decide) | exact ad0 (by decide) | exact ad1 (by decide) | exact Yy (by omega))).extBut c6.extBut (by first | exact ad (by decide) | exact ad0 (by decide) | exact ad1 (by decide) | exact Yy (by omega))).extBut c7.extBut (by first | exact ad (by decide) | exact ad0 (by decide) | exact ad1 (by decide) | exact Yy (by omega))
 have J3:g7.IsListIter (n+2) l3 (k+1):=J3.extBut c7.extBut (by first | exact ad (by decide) | exact ad0 (by decide) | exact ad1 (by decide) | exact Yy (by omega))
 refine wpAny_bind (wpAny_seqItems TO7 rfl (wpAny_bind (wpAny_newTuple ?_)))
 have zl:n+5<g7.objs.size:=Heap.lt_size Z7
 show wpAny _ _ (Builtin.SmallTypes.ownedTupleHandOut (.ref (n+5)) (.ref g7.objs.size) >>= _) _ _ _
 unfold Builtin.SmallTypes.ownedTupleHandOut
 have Z8:Zp (g7.push { cls:=.type "tuple",data:=.seq #[x,y,z] }) n .ellipsis:=Heap.get?_push_of_some _ Z7
 refine wpAny_bind (wpAny_bind (wpAny_setField_rec Z8 (by simp) fun g8 Z8 c8=>?_))
 replace Z8:Zp g8 n (rawInt g7.objs.size):=Z8
 refine wpAny_setField_rec Z8 (by simp) fun g9 Z9 c9=>?_
 replace Z9:Zp g9 n (rawInt g7.objs.size):=Z9
 have up:∀ d o,d≠n+5->g7.get? d=some o->g9.get? d=some o:=fun d o hd e=>c9.extBut _ _ hd (c8.extBut _ _ hd (Heap.get?_push_of_some _ e))
 have T9:Tri g9 g7.objs.size x y z:=c9.extBut _ _ (Nat.ne_of_gt zl) (c8.extBut _ _ (Nat.ne_of_gt zl) (Heap.get?_push_size _ rfl))
 refine wpAny_pure ⟨_,rfl,?_⟩
 show Q (.ref g7.objs.size) _
 rw [sz] at Z9 T9 ⊢
 refine q g9 ⟨Z9,up _ _ (by first | exact ad (by decide) | exact ad0 (by decide) | exact ad1 (by decide) | exact Yy (by omega)) (k7 _ _ (.inr (.inl rfl)) TI),⟨_,_,_,up _ _ (by first | exact ad (by decide) | exact ad0 (by decide) | exact ad1 (by decide) | exact Yy (by omega)) TO7⟩,J1.at fun o e=>up _ o (by first | exact ad (by decide) | exact ad0 (by decide) | exact ad1 (by decide) | exact Yy (by omega)) e,J2.at fun o e=>up _ o (by first | exact ad (by decide) | exact ad0 (by decide) | exact ad1 (by decide) | exact Yy (by omega)) e,J3.at fun o e=>up _ o (by first | exact ad (by decide) | exact ad0 (by decide) | exact ad1 (by decide) | exact Yy (by omega)) e⟩ T9 fun d o hd e=>up d o ?_ (k7 d o hd e)
 unfold Out at hd
 have:(d:Nat)≠n+5:=by omega
 exact this
theorem ZeQ {Q:Fin->Shared->Prop}(hh:A.handled=none)(S:St3 s.heap n .none k l1 l2 l3)(b1:l1<n)(L1:s.heap.IsList l1 xs)(ex:xs[k]? = none)
  (q:∀ h' e,Kept n s.heap h'->(∃ o,h'.get? e=some o/\o.cls=.type "StopIteration")->E (.ref e) { s with heap:=h' }):wpAny (model prog w) A (Builtin.«zip.__next__» ⟨[.ref (n+5)],[]⟩) Q E s:=by
 obtain⟨Z,TI,⟨a,b,c,TO⟩,I1,I2,I3⟩:=S
 show wpAny _ _ (field (.ref (n+5)) 2 >>= _) _ _ _
 refine wpAny_bind (wpAny_field Z rfl (x:=.bool false) rfl ?_)
 show wpAny _ _ (field (.ref (n+5)) 3 >>= _) _ _ _
 refine wpAny_bind (wpAny_field Z rfl (x:=.ref (n+3)) rfl (wpAny_bind (wpAny_seqItems TI rfl ?_)))
 show wpAny _ _ (Builtin.SmallTypes.ownedTupleIsFree (.ref (n+5)) >>= _) _ _ _
 unfold Builtin.SmallTypes.ownedTupleIsFree
 refine wpAny_bind (wpAny_bind (wpAny_field Z rfl (x:=.none) rfl (wpAny_pure ?_)))
 simp only [if_true]
 refine wpAny_bind (wpAny_rule (wpAny_bind (wpAny_field Z rfl (x:=.ref (n+4)) rfl (wpAny_bind (wpAny_setField_rec Z (by simp) fun g1 Z1 c1=>wpAny_bind ?_)))))
 replace Z1:Zp g1 n .ellipsis:=Z1
 simp only [List.zipIdx_cons,List.zipIdx_nil,List.forIn_cons,List.forIn_nil]
 refine wpAny_bind (wpAny_bind (wpAny_onRaise ?_))
 show wpAny _ _ (Builtin.SmallTypes.nextOf (.ref n) >>= _) _ _ _
 refine wpAny_bind (wpAny_nextOf_list_end hh (I1.extBut c1.extBut (by first | exact ad (by decide) | exact ad0 (by decide) | exact ad1 (by decide) | exact Yy (by omega))) (L1.extBut c1.extBut (by first | exact ad (by decide) | exact ad0 (by decide) | exact ad1 (by decide) | exact Yy (by omega))) ex fun g2 e c2 he=>?_)
 obtain⟨oe,e1,e2⟩:=he
 have Z2:Zp g2 n .ellipsis:=c2 _ _ (by first | exact ad (by decide) | exact ad0 (by decide) | exact ad1 (by decide) | exact Uk (by omega)) Z1
 have ez:e≠n+5:=fun z=>by subst z;rw [Z2] at e1;cases e1;simp at e2
 refine wpAny_setField_rec Z2 (by simp) fun g3 _ c3=>q g3 e (fun d o hd x=>?_) ⟨oe,c3.extBut _ _ ez e1,e2⟩
 have h1:d≠n+5/\d≠n:=by unfold Out at hd;exact⟨by omega,by omega⟩
 exact c3.extBut _ _ h1.1 (c2 _ _ h1.2 (c1.extBut _ _ h1.1 x))
theorem ZgL {x y z:Value}{Q:Option Value->Shared->Prop}(S:St3 s.heap n .none k l1 l2 l3)(b1:l1<n)(b2:l2<n)(b3:l3<n)(L1:s.heap.IsList l1 xs)(L2:s.heap.IsList l2 ys)(L3:s.heap.IsList l3 zs)(ex:xs[k]? = some x)(ey:ys[k]? = some y)(ez:zs[k]? = some z)
  (q:∀ h',St3 h' n (rawInt s.heap.objs.size) (k+1) l1 l2 l3->Tri h' s.heap.objs.size x y z->Kept n s.heap h'->Q (some (.ref s.heap.objs.size)) { s with heap:=h' }):wpAny (model prog w) A (pyNext (.ref (n+5))) Q E s:=by
 have hT:s.TypeIs (.ref (n+5)) "zip" := ⟨_,S.zp,rfl⟩
 unfold pyNext
 exact wpAny_bind (wpAny_attempt (wpAny_callSpecial?_slot (name:=Str.ofString "__next__") hT F.slot_zip_next (wpAny_call_entry F.slot_zip_next hT F.entry_zip_next (Zdo S b1 b2 b3 L1 L2 L3 ex ey ez fun h' a1 a2 a3=>wpAny_pure (q h' a1 a2 a3)) (F.args_zip_next_1 _))))
theorem ZiI {Q:Option Value->Shared->Prop}(hh:A.handled=none)(S:St3 s.heap n .none k l1 l2 l3)(b1:l1<n)(L1:s.heap.IsList l1 xs)(ex:xs[k]? = none)(q:∀ h',Kept n s.heap h'->Q none { s with heap:=h' }):wpAny (model prog w) A (pyNext (.ref (n+5))) Q E s:=by
 have hT:s.TypeIs (.ref (n+5)) "zip" := ⟨_,S.zp,rfl⟩
 unfold pyNext
 refine wpAny_bind (wpAny_attempt (wpAny_callSpecial?_slot (name:=Str.ofString "__next__") hT F.slot_zip_next (wpAny_call_entry F.slot_zip_next hT F.entry_zip_next (ZeQ hh S b1 L1 ex fun h' e hk he=>?_) (F.args_zip_next_1 _))))
 obtain⟨o,ho,hc⟩:=he
 exact wpAny_bind (wpAny_isInstance (T := "StopIteration") (b:=true) ⟨o,ho,hc⟩ isSubtype_stop (wpAny_pure (q _ hk)))
end
theorem Zb3 (a b c:Value):checkTypeCall "zip" ⟨[a,b,c],[]⟩=pure ():=by kernel_rfl
theorem Zdp (a b c:Value):checkBuiltinCall "zip.__new__" ⟨[.type "zip",a,b,c],[]⟩=pure ():=by kernel_rfl
theorem Zja (a b c d:Value):argsOk "object.__init__" ⟨[a,b,c,d],[]⟩:=by
 unfold argsOk;rw [signature?_of (id := "object.__init__") (n := "__init__".toList.reverse) (o := "object".toList.reverse) (by kernel_rfl) F.owner_object];kernel_rfl
noncomputable abbrev Zkp (h:Heap) (l1 l2 l3:Addr):Heap:=(((((h.push { cls:=.type "list_iterator",data:=.fields #[.ref l1,.int 0 0] }).push { cls:=.type "list_iterator",data:=.fields #[.ref l2,.int 0 0] }).push { cls:=.type "list_iterator",data:=.fields #[.ref l3,.int 0 0] }).push { cls:=.type "tuple",data:=.seq #[.ref h.objs.size,.ref (h.push { cls:=.type "list_iterator",data:=.fields #[.ref l1,.int 0 0] }).objs.size,.ref ((h.push { cls:=.type "list_iterator",data:=.fields #[.ref l1,.int 0 0] }).push { cls:=.type "list_iterator",data:=.fields #[.ref l2,.int 0 0] }).objs.size] }).push { cls:=.type "tuple",data:=.seq #[.none,.none,.none] }).push
 { cls:=.type "zip",data:=.fields #[.none,.bool false,.bool false,.ref (((h.push { cls:=.type "list_iterator",data:=.fields #[.ref l1,.int 0 0] }).push { cls:=.type "list_iterator",data:=.fields #[.ref l2,.int 0 0] }).push { cls:=.type "list_iterator",data:=.fields #[.ref l3,.int 0 0] }).objs.size,.ref ((((h.push { cls:=.type "list_iterator",data:=.fields #[.ref l1,.int 0 0] }).push { cls:=.type "list_iterator",data:=.fields #[.ref l2,.int 0 0] }).push { cls:=.type "list_iterator",data:=.fields #[.ref l3,.int 0 0] }).push { cls:=.type "tuple",data:=.seq #[.ref h.objs.size,.ref (h.push { cls:=.type "list_iterator",data:=.fields #[.ref l1,.int 0 0] }).objs.size,.ref ((h.push { cls:=.type "list_iterator",data:=.fields #[.ref l1,.int 0 0] }).push { cls:=.type "list_iterator",data:=.fields #[.ref l2,.int 0 0] }).objs.size] }).objs.size] }
set_option maxHeartbeats 2000000 in
theorem Zdr (l1 l2 l3:Addr)(xs ys zs:Array Value) :
  Meets (Builtin.«zip.__new__» ⟨[.type "zip",.ref l1,.ref l2,.ref l3],[]⟩) (fun _ R s=>s.heap.IsList l1 xs/\s.heap.IsList l2 ys/\s.heap.IsList l3 zs/\∀ a,a=s.heap.objs.size+5->R (.ok (.ret (.ref a))) { s with heap:=Zkp s.heap l1 l2 l3 }) :=
 .of_wp fun prog w A R s h=>by
  obtain⟨hp,g,d,tk,os⟩:=s
  obtain⟨a1,a2,a3,h⟩:=h
  have hsub:=sub_zip
  have A1:Heap.IsList (Shared.heap ⟨hp,g,d,tk,os⟩) l1 xs:=a1
  have A2:Heap.IsList (Shared.heap ⟨hp.push { cls:=.type "list_iterator",data:=.fields #[.ref l1,.int 0 0] },g,d,tk,os⟩) l2 ys:=Heap.IsList.push a2 _
  have A3:Heap.IsList (Shared.heap ⟨(hp.push { cls:=.type "list_iterator",data:=.fields #[.ref l1,.int 0 0] }).push { cls:=.type "list_iterator",data:=.fields #[.ref l2,.int 0 0] },g,d,tk,os⟩) l3 zs:=Heap.IsList.push (Heap.IsList.push a3 _) _
  wp_walk using wpAny_pyIter_list A1,wpAny_pyIter_list A2,wpAny_pyIter_list A3
  exact⟨_,rfl,h _ (by simp only [Heap.size_push])⟩
section
variable {prog:Program}{w:World}{A:Around}{E:Value->Shared->Prop}{s:Shared}{l1 l2 l3:Nat}{xs ys zs:Array Value}
theorem Zjp {Q:Value->Shared->Prop}(L1:s.heap.IsList l1 xs)(L2:s.heap.IsList l2 ys)(L3:s.heap.IsList l3 zs)(q:∀ h',St3 h' s.heap.objs.size .none 0 l1 l2 l3->(∀ c o,s.heap.get? c=some o->h'.get? c=some o)->Q (.ref (s.heap.objs.size+5)) { s with heap:=h' }) :
  wpAny (model prog w) A (call (.type "zip") [.ref l1,.ref l2,.ref l3]) Q E s:=by
 refine callType_new F.called_zip (by decide) (Zb3 _ _ _) (Zdp _ _ _) (fun obj=>Zja obj _ _ _) F.entry_zip_new (Zdr l1 l2 l3 xs ys zs) ⟨L1,L2,L3,fun a ha=>?_⟩
 subst ha
 have z:∀ (h:Heap) (o:Obj),(h.push o).objs.size=h.objs.size+1:=fun h o=>Heap.size_push ..
 have ob:∀ (h:Heap) (o:Obj),o.isFreed=false->∀ m,h.objs.size=m->(h.push o).get? m=some o:=fun h o ho m e=>by rw [<- e];exact Heap.get?_push_size _ ho
 have up:∀ (h:Heap) (o o':Obj) (m:Nat),h.get? m=some o->(h.push o').get? m=some o:=fun h o o' m e=>Heap.get?_push_of_some _ e
 have g5:=ob (((((s.heap.push { cls:=.type "list_iterator",data:=.fields #[.ref l1,.int 0 0] }).push { cls:=.type "list_iterator",data:=.fields #[.ref l2,.int 0 0] }).push { cls:=.type "list_iterator",data:=.fields #[.ref l3,.int 0 0] }).push { cls:=.type "tuple",data:=.seq #[.ref s.heap.objs.size,.ref (s.heap.objs.size+1),.ref (s.heap.objs.size+2)] }).push { cls:=.type "tuple",data:=.seq #[.none,.none,.none] })
  { cls:=.type "zip",data:=.fields #[.none,.bool false,.bool false,.ref (s.heap.objs.size+3),.ref (s.heap.objs.size+4)] } rfl (s.heap.objs.size+5) (by simp only [z])
 have hm:Zkp s.heap l1 l2 l3=(((((s.heap.push { cls:=.type "list_iterator",data:=.fields #[.ref l1,.int 0 0] }).push { cls:=.type "list_iterator",data:=.fields #[.ref l2,.int 0 0] }).push { cls:=.type "list_iterator",data:=.fields #[.ref l3,.int 0 0] }).push { cls:=.type "tuple",data:=.seq #[.ref s.heap.objs.size,.ref (s.heap.objs.size+1),.ref (s.heap.objs.size+2)] }).push { cls:=.type "tuple",data:=.seq #[.none,.none,.none] }).push
   { cls:=.type "zip",data:=.fields #[.none,.bool false,.bool false,.ref (s.heap.objs.size+3),.ref (s.heap.objs.size+4)] }:=by
  unfold Zkp
  simp only [z]
 rw [hm]
 refine⟨⟨_,g5,rfl⟩,q _ ⟨g5,?_,⟨.none,.none,.none,?_⟩,⟨{ cls:=.type "list_iterator",data:=.fields #[.ref l1,.int 0 0] },?_,rfl,rfl⟩,⟨{ cls:=.type "list_iterator",data:=.fields #[.ref l2,.int 0 0] },?_,rfl,rfl⟩,⟨{ cls:=.type "list_iterator",data:=.fields #[.ref l3,.int 0 0] },?_,rfl,rfl⟩⟩ fun c o e=>?_⟩
 ·exact up _ _ _ _ (up _ _ _ _ (ob _ _ rfl _ (by simp only [z])))
 ·exact up _ _ _ _ (ob _ _ rfl _ (by simp only [z]))
 ·exact up _ _ _ _ (up _ _ _ _ (up _ _ _ _ (up _ _ _ _ (up _ _ _ _ (ob _ _ rfl _ rfl)))))
 ·exact up _ _ _ _ (up _ _ _ _ (up _ _ _ _ (up _ _ _ _ (ob _ _ rfl _ (by simp only [z])))))
 ·exact up _ _ _ _ (up _ _ _ _ (up _ _ _ _ (ob _ _ rfl _ (by simp only [z]))))
 ·exact up _ _ _ _ (up _ _ _ _ (up _ _ _ _ (up _ _ _ _ (up _ _ _ _ (up _ _ _ _ e)))))
end
end Z3
noncomputable def Zj6 (K:PySem.W.Frag)(a b c:Addr):It :=
 ⟨fun i H=>∃ xs ys zs x y z,SqL K H a xs/\SqL K H b ys/\SqL K H c zs/\xs[i]? = some x/\ys[i]? = some y/\zs[i]? = some z,
  fun i H v H'=>∃ T x y z,H T=none/\v=.ref T/\(∀ xs,SqL K H a xs->xs[i]? = some x)/\(∀ ys,SqL K H b ys->ys[i]? = some y)/\(∀ zs,SqL K H c zs->zs[i]? = some z)/\H'=upd H T (.tup [x,y,z]),
  fun i H=>∃ xs,SqL K H a xs/\xs.length<=i⟩
theorem ZcD {P:Program}{w:World}{K:PySem.W.Frag}{es:List Expr}{k:Nat}{tpos:Pos}(a b c n:Nat)(b1:a<n)(b2:b<n)(b3:c<n) :
  Zh8 P w K (.Tuple es k tpos) (Zj6 K a b c) [n+5,n+4,n,n+1,n+2,n+3] (n+5) (fun i h=>Z3.St3 h n .none i a b c) where
 mem:=by simp
 obj:=fun i h st d hd=>by
  obtain⟨h1,h2,⟨p,q,r,h3⟩,h4,h5,h6⟩:=st
  simp only [List.mem_cons,List.not_mem_nil,or_false] at hd
  have it:∀ {j:Nat} {l:Addr},h.IsListIter j l i->∃ o,h.get? j=some o/\∀ v,o.data≠.cell v:=fun ⟨o,e,c,d⟩=>⟨o,e,fun v y=>by rw [d] at y;cases y⟩
  rcases hd with rfl | rfl | rfl | rfl | rfl | rfl
  ·exact⟨_,h1,fun v y=>nomatch (show Data.fields _=Data.cell v from y)⟩
  ·exact⟨_,h3,fun v y=>nomatch (show Data.seq _ _=Data.cell v from y)⟩
  ·exact it h4
  ·exact it h5
  ·exact it h6
  ·exact⟨_,h2,fun v y=>nomatch (show Data.seq _ _=Data.cell v from y)⟩
 keep:=fun i h h' st k=>by
  obtain⟨h1,h2,⟨p,q,r,h3⟩,h4,h5,h6⟩:=st
  exact⟨k _ (by simp) _ h1,k _ (by simp) _ h2,⟨p,q,r,k _ (by simp) _ h3⟩,h4.at fun o e=>k _ (by simp) o e,h5.at fun o e=>k _ (by simp) o e,h6.at fun o e=>k _ (by simp) o e⟩
 item:=by
  intro X hP hw hK hc i pins s σ H E I hf st hg
  subst hP hw hK
  obtain⟨xs,ys,zs,x,y,z,hq,hr,ht,hx,hy,hz⟩:=hg
  obtain⟨its,rv,p,_⟩:=I.list hq
  obtain⟨u,hu,ru⟩:=rv.get hx
  obtain⟨jts,rv2,p2,_⟩:=I.list hr
  obtain⟨u2,hu2,ru2⟩:=rv2.get hy
  obtain⟨kts,rv3,p3,_⟩:=I.list ht
  obtain⟨u3,hu3,ru3⟩:=rv3.get hz
  have lt:n+5<s.heap.objs.size:=Heap.lt_size st.zp
  refine Z3.ZgL st b1 b2 b3 p.isList p2.isList p3.isList (x:=u) (y:=u2) (z:=u3) (by simpa using hu) (by simpa using hu2) (by simpa using hu3) fun g1 S1 T1 hk=>⟨_,rfl,?_⟩
  refine wpAny_letOwnedTupleGo_zip S1.zp fun g2 he2 hs2=>?_
  replace hs2:Heap.SameBut (n+5) g1 g2:=hs2
  have nz:∀ d,d∈[n+5,n+4,n,n+1,n+2,n+3]->d≠s.heap.objs.size:=fun d hd=>by
   simp only [List.mem_cons,List.not_mem_nil,or_false] at hd
   rcases hd with rfl | rfl | rfl | rfl | rfl | rfl<;>exact Z3.Yy (by omega)
  have out:∀ d,d∉[n+5,n+4,n,n+1,n+2,n+3]->Z3.Out n d/\d≠n+5:=fun d hd=>by
   simp only [List.mem_cons,List.not_mem_nil,or_false,not_or] at hd
   obtain⟨d1,d2,d3,d4,d5,d6⟩:=hd
   have d1:(d:Nat)≠n+5:=d1
   have d2:(d:Nat)≠n+4:=d2
   have d3:(d:Nat)≠n:=d3
   have d4:(d:Nat)≠n+1:=d4
   have d5:(d:Nat)≠n+2:=d5
   have d6:(d:Nat)≠n+3:=d6
   exact⟨by unfold Z3.Out;omega,d1⟩
  have hko:∀ d o,d∉[n+5,n+4,n,n+1,n+2,n+3]->s.heap.get? d=some o->g2.get? d=some o:=fun d o hd q=>hs2.extBut d o (out d hd).2 (hk d o (out d hd).1 q)
  have ht2:=hs2.extBut _ _ (nz (n+5) (by simp)).symm T1
  have hn:∀ d o,H d=some o->d∉[n+5,n+4,n,n+1,n+2,n+3]:=fun d o q hd=>by rw [(hf d hd).1] at q;cases q
  have hok:HOk X.prog X.w (upd H s.heap.objs.size (.tup [x,y,z])) g2:=fun d o q=>by
   by_cases hb:d=s.heap.objs.size
   ·subst hb
    rw [Zd] at q
    cases q
    exact⟨(by show 3<=sizeLine;rw [sizeLine_eq];decide),[u,u2,u3],.cons ru (.cons ru2 (.cons ru3 .nil)),_,ht2,rfl,_,rfl⟩
   ·rw [Zh hb] at q
    refine (I.hok d o q).stay (fun e v he r=>?_) (fun e r=>by rw [Zh (Zj r I.fresh)];exact r) fun e ys r=>by rw [Zh (Zj r I.fresh)];exact r
    rcases he with z1 | z1
    ·subst z1;exact hko e v (hn e _ q) r
    ·exact hko e v (hn e _ z1) r
  have I2:Inv X pins σ (upd H s.heap.objs.size (.tup [x,y,z])) { s with heap:=g2 }:=by
   refine I.call (g':=s.gens) (d':=s.drawn) (t':=s.toks) (ch:=[n+5,n+4,n,n+1,n+2,n+3]) ⟨fun b o q n _ hx=>hko b o hx q,fun b o q n _ hx=>⟨o.slots,hko b o hx q⟩,fun b o q n hx=>?_,fun b o q hx=>⟨o,hko b o hx q⟩,
    fun b ys q=>by rw [Zh (Zj q I.fresh)];exact q,fun b o ys q=>by rw [Zh (Zj q I.fresh)];exact q,fun b ps q=>⟨#[],by rw [Zh (Zj q I.fresh),q];simp⟩⟩ hok I.bare fun b hb=>?_
   ·rw [Zh (Nat.ne_of_lt (Heap.lt_size q))];exact n
   ·obtain⟨f0,f1,f2,f3,f4,f5⟩:=hf b hb
    exact⟨f3,f1,f4,f5⟩
  obtain⟨S1z,S1t,⟨p1,p2,p3,S1o⟩,S11,S12,S13⟩:=S1
  refine⟨.ref _,_,I2,rfl,⟨_,x,y,z,I.fresh,rfl,fun zs hz=>by rw [I.list_inj hz hq];exact hx,fun zs hz=>by rw [I.list_inj hz hr];exact hy,fun zs hz'=>by rw [I.list_inj hz' ht];exact hz,rfl⟩,⟨he2,hs2.extBut _ _ (by first | exact Z3.ad (by decide) | exact Z3.ad0 (by decide) | exact Z3.ad1 (by decide) | exact Z3.Yy (by omega)) S1t,⟨_,_,_,hs2.extBut _ _ (by first | exact Z3.ad (by decide) | exact Z3.ad0 (by decide) | exact Z3.ad1 (by decide) | exact Z3.Yy (by omega)) S1o⟩,S11.at fun o q=>hs2.extBut _ _ (by first | exact Z3.ad (by decide) | exact Z3.ad0 (by decide) | exact Z3.ad1 (by decide) | exact Z3.Yy (by omega)) q,S12.at fun o q=>hs2.extBut _ _ (by first | exact Z3.ad (by decide) | exact Z3.ad0 (by decide) | exact Z3.ad1 (by decide) | exact Z3.Yy (by omega)) q,S13.at fun o q=>hs2.extBut _ _ (by first | exact Z3.ad (by decide) | exact Z3.ad0 (by decide) | exact Z3.ad1 (by decide) | exact Z3.Yy (by omega)) q⟩,fun d hd=>?_⟩
  rw [Zh (nz d hd)]
  exact (hf d hd).1
 done:=by
  intro X hP hw hK hc i pins s σ H E I hf st hg
  subst hP hw hK
  obtain⟨xs,hq,hx⟩:=hg
  obtain⟨its,rv,p,_⟩:=I.list hq
  have hl:=rv.length
  refine Z3.ZiI (I.ok.hd hc) st b1 p.isList (by simp;omega) fun h' hk=>⟨rfl,?_⟩
  have hko:∀ d o,d∉[n+5,n+4,n,n+1,n+2,n+3]->s.heap.get? d=some o->h'.get? d=some o:=fun d o hd q=>by
   refine hk d o ?_ q
   simp only [List.mem_cons,List.not_mem_nil,or_false,not_or] at hd
   obtain⟨d1,d2,d3,d4,d5,d6⟩:=hd
   have d1:(d:Nat)≠n+5:=d1
   have d2:(d:Nat)≠n+4:=d2
   have d3:(d:Nat)≠n:=d3
   have d4:(d:Nat)≠n+1:=d4
   have d5:(d:Nat)≠n+2:=d5
   unfold Z3.Out;omega
  have hn:∀ d o,H d=some o->d∉[n+5,n+4,n,n+1,n+2,n+3]:=fun d o q hd=>by rw [(hf d hd).1] at q;cases q
  have hok:HOk X.prog X.w H h':=fun d o q=>by
   refine (I.hok d o q).stay (fun e v he r=>?_) (fun e r=>r) fun e ys r=>r
   rcases he with z1 | z1
   ·subst z1;exact hko e v (hn e _ q) r
   ·exact hko e v (hn e _ z1) r
  refine I.call (g':=s.gens) (d':=s.drawn) (t':=s.toks) (ch:=[n+5,n+4,n,n+1,n+2,n+3]) ⟨fun b o q n _ hx=>hko b o hx q,fun b o q n _ hx=>⟨o.slots,hko b o hx q⟩,fun b o q n hx=>n,fun b o q hx=>⟨o,hko b o hx q⟩,fun b ys q=>q,fun b o ys q=>q,fun b ps q=>⟨#[],by rw [q];simp⟩⟩ hok I.bare fun b hb=>?_
  obtain⟨f0,f1,f2,f3,f4,f5⟩:=hf b hb
  exact⟨f3,f1,f4,f5⟩
 self:=fun _ _ _ _ _ st h=>wpAny_pyIter_zip st.zp h
section
variable {X:Cx}
noncomputable def Zjb (K:PySem.W.Frag)(ta:TA):TI:=fun σ H R=>ta σ H fun vs H1=>∃ a b c,vs=[.ref a,.ref b,.ref c]/\(∃ xs,SqL K H1 a xs)/\(∃ ys,SqL K H1 b ys)/\(∃ zs,SqL K H1 c zs)/\R (Zj6 K a b c) H1
theorem ZiM (K:PySem.W.Frag) {l l' l2:Expr} {ta:TA} {es:List Expr} {k:Nat} {tpos p pos:Pos} (hg:Gl X "zip") (hm:X.mg "zip" = none) (ha:PA X [l,l',l2] ta) (hs:starEach [l,l',l2] X.env=(false,eval l X.env)::starEach [l',l2] X.env:=by rfl) (hs2:starEach [l',l2] X.env=[(false,eval l' X.env),(false,eval l2 X.env)]:=by rfl) (hK:X.K=K:=by rfl) :
  PI X (.Tuple es k tpos) (.Call (.Name "zip" p) [l,l',l2] [] pos) (Zjb K ta):=by
 subst hK
 intro pins s σ H R I h
 refine Call_ (ld_blt I hg hm boot_zip (PyProof.Rows.callWith_type1 (thn (ha pos pins s σ H _ I h) fun us s1 ⟨vs,H1,I1,r1,q1⟩=>?_) (by rw [hs]) (by rw [hs2];rfl)))
 obtain⟨a,b,c,e,⟨xs,hq⟩,⟨ys,hr⟩,⟨zs,ht⟩,q⟩:=q1
 subst e
 obtain⟨u,u2,u3,rfl,rx,ry,rz⟩:∃ u u2 u3,us=[u,u2,u3]/\RelV (.ref a) u/\RelV (.ref b) u2/\RelV (.ref c) u3:=by
  cases r1 with
  | cons rx t =>
   cases t with
   | cons ry t =>
    cases t with
    | cons rz t=>cases t;exact⟨_,_,_,rfl,rx,ry,rz⟩
 cases (show u=Value.ref a from rx)
 cases (show u2=Value.ref b from ry)
 cases (show u3=Value.ref c from rz)
 obtain⟨its,rv,pl,_⟩:=I1.list hq
 obtain⟨jts,rv2,pl2,_⟩:=I1.list hr
 obtain⟨kts,rv3,pl3,_⟩:=I1.list ht
 obtain⟨oa,hoa,_⟩:=id pl.isList
 obtain⟨ob,hob,_⟩:=id pl2.isList
 obtain⟨oc,hoc,_⟩:=id pl3.isList
 refine Z3.Zjp pl.isList pl2.isList pl3.isList fun h' S3 hk=>?_
 refine wpAny_pyIter_zip S3.zp ?_
 refine⟨s1.heap.objs.size+5,[s1.heap.objs.size+5,s1.heap.objs.size+4,s1.heap.objs.size,s1.heap.objs.size+1,s1.heap.objs.size+2,s1.heap.objs.size+3],_,_,H1,rfl,I1.kept (t':=s1.toks) hk,ZcD a b c _ (Heap.lt_size hoa) (Heap.lt_size hob) (Heap.lt_size hoc),S3,fun d hd=>?_,q⟩
 have hb2:s1.heap.objs.size<=d:=by
  simp only [List.mem_cons,List.not_mem_nil,or_false] at hd
  rcases hd with rfl | rfl | rfl | rfl | rfl | rfl<;>omega
 exact I1.fpOk hb2 (I1.hok.fresh hb2)
end
section
variable {t:TS}{D:WH}{σ:St}{H H₀:Hp}{ti:TA}{g:TG}{K:PySem.W.Frag}{a b c:Addr}{xs ys zs:List V}
theorem ZfH {R:It->Hp->Prop}:Zjb K ti σ H R=ti σ H fun vs H1=>∃ a b c,vs=[.ref a,.ref b,.ref c]/\(∃ xs,SqL K H1 a xs)/\(∃ ys,SqL K H1 b ys)/\(∃ zs,SqL K H1 c zs)/\R (Zj6 K a b c) H1:=rfl
theorem Zha (h:SqL K H₀ a xs)(h':SqL K H₀ b ys)(h2:SqL K H₀ c zs)(hl:xs.length=ys.length)(hl':xs.length=zs.length):Jw (Zj6 K a b c) H₀ xs.length (fun i v H=>∃ T x y z,v=.ref T/\xs[i]? = some x/\ys[i]? = some y/\zs[i]? = some z/\H T=some (.tup [x,y,z])) where
 go:=fun i H s hi=>⟨xs,ys,zs,xs[i],ys[i],zs[i],s.seq h,s.seq h',s.seq h2,List.getElem?_eq_getElem hi,List.getElem?_eq_getElem (by omega),List.getElem?_eq_getElem (by omega)⟩
 yld:=fun i H v H' s hi q=>by
  obtain⟨T,x,y,z,hT,rfl,h1,h3,h4,rfl⟩:=q
  exact⟨Same.upd hT,T,x,y,z,rfl,h1 xs (s.seq h),h3 ys (s.seq h'),h4 zs (s.seq h2),Zd⟩
 stop:=fun i H s hi=>⟨xs,s.seq h,hi⟩
end
end L2
namespace L2
open PySem PySem.Spec PyProof.Rows PySem.W
noncomputable abbrev Zbv:List Value:=[.type "ValueError",.type "Exception",.type "BaseException",.type "object"]
noncomputable def excInI (K:W.Frag)(C:Addr):Bool:=match K.lookup C with
 | none=>false
 | some o=>match Zjo o.data with
  | none=>false
  | some cd=>o.cls == .type "type" && cd.mro == .ref C::cd.mro.tail&&o.slots.toList == Zb8 o.slots.toList&&!cd.hasDel&&cd.hasDict&&tailIn K Zbv cd.mro.tail
structure Vq (K:W.Frag)(C:Addr):Prop where
 obj:∀ h:Heap,K.In h->∃ bm N nm q bs sn sub ab col dd k0 k1 k2 k3 k5,h.get? C=some (excClassObj nm q C N bs bm true sn sub ab col dd k0 k1 k2 k3 k5 "ValueError.__new__")/\OwnTail h Zbv bm
theorem Zj7 {K:W.Frag}{C:Addr}(q:excInI K C=true):Vq K C:=by
 constructor
 intro h XK
 unfold excInI at q
 cases ho:K.lookup C with
 | none=>rw [ho] at q;cases q
 | some o =>
  rw [ho] at q
  obtain⟨c,dd,da,sl⟩:=o
  cases da with
  | cls cd =>
   have q:(c == .type "type" && cd.mro == .ref C::cd.mro.tail&&sl.toList == Zb8 sl.toList&&!cd.hasDel&&cd.hasDict&&tailIn K Zbv cd.mro.tail)=true:=q
   simp only [Bool.not_eq_true',beq_iff_eq,Bool.and_eq_true] at q
   obtain⟨⟨⟨⟨⟨c1,c2⟩,c3⟩,c4⟩,c5⟩,c6⟩:=q
   obtain⟨nm,bs,mro,ns,qn,hd,sn,sub,ab,col,del⟩:=cd
   have z4:del=false:=c4
   have z5:hd=true:=c5
   have z1:mro=Value.ref C::mro.tail:=c2
   have z2:sl=(Zb8 sl.toList).toArray:=by rw [<- c3]
   have e:=XK _ _ ho
   rw [z1,z2,c1,z4,z5] at e
   exact⟨_,ns,nm,qn,bs,sn,sub,ab,col,dd,_,_,_,_,_,e,tail_of_in XK c6⟩
  | _=>cases (show false=true from q)
section
variable {prog:Program}{w:World}{A:Around}{E:Value->Shared->Prop}{s:Shared}{K:W.Frag}{C f:Addr}
theorem Zfj {us:List Value} {Q:Fin->Shared->Prop} (X:K.In s.heap) (c:Vq K C) (hi:findIn K (.ref C) "__init__" = some (some (.ref f))) (hfn:typeIn K (.ref f)=some (.type "function")) (hz:us.length<=sizeLine)
  (hq:∀ h' e,s.heap.objs.size<=e->Heap.MadeExcOf s.heap h' e (.ref C) us->wpAny (model prog w) A (call (.ref f) (.ref e::us)) (fun r s'=>r=.none/\Q (.done (.ret (.ref e))) s') E { s with heap:=h' }) :
  wpAny (model prog w) A (Builtin.«type.__call__» ⟨.ref C::us,[]⟩) Q E s:=by
 obtain⟨h,g,d,t,os⟩:=s
 obtain⟨bm,N,nm,q,bs,sn,sub,ab,col,dd,k0,k1,k2,k3,k5,hC,T⟩:=c.obj h X
 have FB:=PySem.F.excBase_ValueError
 repeat (first | with_reducible refine wpAny_madeBy_exc hC ?_ | with_reducible refine wpAny_loadPart_at hC ?_ | wp_step)
 refine codeAny_call_builtin_code (Code.quiet_builtin _ FB.quiet) (wpAny_check_new_subU FB FB.hasB T hC (codeAny_exc_new_subU FB FB.hasB FB T hC ?_ hz))
 show wpAny _ _ _ _ _ _
 generalize hh:((h.push { cls:=.type "tuple",data:=.seq us.toArray }).push { cls:=.ref C,data:=.fields #[.ref h.objs.size,.none,.none,.none,.bool false,.none] }:Heap)=hN
 have kp:∀ b o,h.get? b=some o->hN.get? b=some o:=fun b o e=>by rw [<- hh];exact Heap.get?_push_of_some _ (Heap.get?_push_of_some _ e)
 have he:hN.get? (h.objs.size+1)=some { cls:=.ref C,data:=.fields #[.ref h.objs.size,.none,.none,.none,.bool false,.none] }:=by rw [<- hh];exact Heap.get?_push_at (by simp only [Heap.size_push]) rfl
 have ht:hN.get? h.objs.size=some { cls:=.type "tuple",data:=.seq us.toArray }:=by rw [<- hh];exact Heap.get?_push_of_some _ (Heap.get?_push_at rfl rfl)
 have XN:K.In hN:=fun a o e=>kp a o (X a o e)
 have hCN:=kp _ _ hC
 have hcc:(Value.ref C::bm).contains (.ref C)=true:=by simp
 have li:Looks (model prog w) hN (typeLookup (.ref C) "__init__") (some (.ref f)):=looks_findIn XN hi
 have lf:Looks (model prog w) hN (typeOf (.ref f)) (.type "function"):=looks_typeIn XN hfn
 unfold isInstance
 repeat (first | with_reducible refine wpAny_loadPart_at he ?_ | (with_reducible refine wpAny_isSubtype_exc hCN ?_;rw [hcc]) | wp_step)
 show wpAny _ _ (typeLookup (.ref C) _) _ _ _
 refine li.at ?_
 refine wpAny_holding (wpAny_bind ?_)
 unfold bindSpecial
 refine wpAny_bind (lf.at ?_)
 rw [if_pos (by decide)]
 refine wpAny_pure (wpAny_bind (wpAny_mono (hq hN (h.objs.size+1) (Nat.le_succ _) ⟨kp,Heap.get?_none_of_le (Nat.le_succ _),h.objs.size,he,Heap.get?_none_of_le (Nat.le_refl _),ht⟩) (fun r s' hr=>?_) fun _ _ x=>x))
 obtain⟨rfl,hQ⟩:=hr
 wp_walk
 exact hQ
theorem Zfi {us:List Value} {Q:Value->Shared->Prop} (X:K.In s.heap) (c:Vq K C) (hi:findIn K (.ref C) "__init__" = some (some (.ref f))) (hfn:typeIn K (.ref f)=some (.type "function")) (hz:us.length<=sizeLine)
  (hq:∀ h' e,s.heap.objs.size<=e->Heap.MadeExcOf s.heap h' e (.ref C) us->wpAny (model prog w) (A.under (.builtin "type.__call__" ⟨.ref C::us,[]⟩)) (call (.ref f) (.ref e::us)) (fun r s'=>r=.none/\Q (.ref e) s') E { s with heap:=h' }) :
  wpAny (model prog w) A (call (.ref C) us) Q E s:=by
 obtain⟨h,g,d,t,os⟩:=s
 obtain⟨bm,N,nm,q,bs,sn,sub,ab,col,dd,k0,k1,k2,k3,k5,hC,T⟩:=c.obj h X
 have l1:=tc_lookup
 have l2:=tc_bind (.ref C)
 have hT:(⟨h,g,d,t,os⟩:Shared).TypeIs (.ref C) "type" := ⟨_,hC,rfl⟩
 refine wpAny_call (codeAny_of_tree ?_)
 show wpAny _ _ (callAny (.ref C) _) _ _ _
 repeat (any_goals (first | assumption | with_reducible refine wpAny_loadPart_at hC ?_ | wp_step))
 exact⟨rfl,codeAny_call_builtin_at (Code.quiet_builtin _ (by decide +kernel)) entry_typeCall (wpAny_check_type_call_sub hC (Zfj (s:=⟨h,g,d,t,os⟩) X c hi hfn hz fun h' e hle hm=>hq h' e hle hm))⟩
noncomputable abbrev Zem (C:Addr)(dct:Option Addr)(t:Addr):Obj:={ cls:=.ref C,dict:=dct,data:=.fields #[.ref t,.none,.none,.none,.bool false,.none] }
theorem Zd7 {e t:Addr}{dct:Option Addr}{v:Value}{Q:Value->Shared->Prop}(X:K.In s.heap)(c:Vq K C)(he:s.heap.get? e=some (Zem C dct t))
  (hq:∀ h' t',h'.get? e=some (Zem C dct t')->(∀ b o,b≠e->s.heap.get? b=some o->h'.get? b=some o)->Q .none { s with heap:=h' }) :
  wpAny (model prog w) A (call (.builtin "ValueError.__init__") [.ref e,v]) Q E s:=by
 obtain⟨h,g,d,tk,os⟩:=s
 obtain⟨bm,N,nm,q,bs,sn,sub,ab,col,dd,k0,k1,k2,k3,k5,hC,T⟩:=c.obj h X
 have FB:=PySem.F.excBase_ValueError
 refine wpAny_call (codeAny_call_builtin FB.init.plain FB.initEntry (wpAny_check_init_subU FB T hC he rfl ?_))
 wp_walk
 refine hq _ h.objs.size ?_ fun b o hb e1=>?_
 ·rw [Heap.get?_update_self _ (Heap.get?_push_of_some _ he) rfl]
  rfl
 ·rw [Heap.get?_update_other _ _ (Ne.symm hb)]
  exact Heap.get?_push_of_some _ e1
theorem ZaZ {h:Heap} {bm:List Value} (T:OwnTail h Zbv bm) (self:Value):refuseLoop self "__setattr__" bm=pure ():=by
 induction T with
 | base=>exact PySem.F.store_ValueError.passes self
 | own _ _ _ _ ih=>rw [refuseLoop_ref];exact ih
theorem Zif {M:Model}{h:Heap}{g:Array GenState}{d:Drawn}{tk:Nat}{os:OsState}{x t N:Addr}{bm bs sub:List Value}{nm q:Str}{sn:List Str}{ab:Bool}{col:Option Bool}{dd:Option Addr}{k0 k1 k2 k3 k5:Option Value}{newId:String}{Q:Option Addr->Shared->Prop}
  (hC:h.get? C=some (excClassObj nm q C N bs bm true sn sub ab col dd k0 k1 k2 k3 k5 newId)) (hx:h.get? x=some (Zem C none t))
  (hq:Q (some h.objs.size) ⟨(h.push { cls:=.type "dict",data:=.dict #[] }).update x fun o=>{ cls:=o.cls,dict:=some h.objs.size,data:=o.data,slots:=o.slots },g,d,tk,os⟩) :
  wpAny M A (instanceDict x true) Q E ⟨h,g,d,tk,os⟩:=by
 unfold instanceDict
 repeat (first | with_reducible refine wpAny_loadPart_at hx ?_ | with_reducible refine wpAny_loadPart_at hC ?_ | wp_step)
 exact hq
theorem Zgs {x t:Addr} {name:Str} {v:Value} {Q:Unit->Shared->Prop} (X:K.In s.heap) (c:Vq K C) (hs:findIn K (.ref C) "__setattr__" = some (some (.builtin "object.__setattr__"))) (ht:findIn K (.ref C) name=some none)
  (hob:subIn K (.ref C) (.type "object")=some true) (hx:s.heap.get? x=some (Zem C none t))
  (hq:∀ h' tk' dx,s.heap.get? dx=none->h'.get? x=some (Zem C (some dx) t)->h'.Ns1 dx (fun y=>if y=name then some v else none)->(∀ b o,b≠x->s.heap.get? b=some o->h'.get? b=some o)->Q () { s with heap:=h',toks:=tk' }) :
  wpAny (model prog w) A (setAttr (.ref x) name v) Q E s:=by
 obtain⟨h,g,d,tk,os⟩:=s
 obtain⟨bm,N,nm,q,bs,sn,sub,ab,col,dd,k0,k1,k2,k3,k5,hC,T⟩:=c.obj h X
 have SF:=PySem.F.store_object
 have I:InstAt h x (Zem C none t) C none:=⟨hx,rfl,rfl,trivial⟩
 refine set_plain X I hs ?_
 have lo:Looks (model prog w) h (isInstance (.ref x) (.type "object")) true:=I.type.andThen (looks_subIn X hob)
 refine codeAny_call_builtin SF.slot.plain SF.entry (@check_slot (model prog w) _ _ _ "object.__setattr__" "object" "__setattr__" (.ref x) [.str name tk,v] [] _ SF.kind SF.split lo (SF.args (.ref x) (.str name tk) v) ?_)
 rw [osa_eq,refuse_eq]
 refine wpAny_bind (wpAny_bind (I.type.at (wpAny_bind (wpAny_mroOf_exc hC ?_))))
 rw [refuseLoop_ref,ZaZ T]
 have lt:Looks (model prog w) h (typeLookup (.ref C) name) none:=looks_findIn X ht
 refine wpAny_pure (wpAny_bind (I.type.at (wpAny_bind (lt.at (wpAny_bind ?_)))))
 refine wpAny_pure ?_
 show wpAny _ _ (instanceDict x true >>= fun r=>match r with | some d=>Builtin.ObjectAttr.storeInDict d (.str name tk) name v | none=>Builtin.ObjectAttr.noDictFor (.ref x) (.ref C) name false) _ _ _
 refine wpAny_bind (Zif hC hx ?_)
 have hx1:(h.push { cls:=.type "dict",data:=.dict #[] }).get? x=some (Zem C none t):=Heap.get?_push_of_some _ hx
 have hxs:x≠h.objs.size:=Nat.ne_of_lt (Heap.lt_size hx)
 generalize hh:((h.push { cls:=.type "dict",data:=.dict #[] }).update x fun o=>{ cls:=o.cls,dict:=some h.objs.size,data:=o.data,slots:=o.slots }:Heap)=hD
 have e1:hD.get? h.objs.size=some { cls:=.type "dict",data:=.dict #[] }:=by rw [<- hh];exact (Heap.get?_update_ne _ _ _ _ hxs.symm).trans (Heap.get?_push_at rfl rfl)
 have e2:hD.get? x=some (Zem C (some h.objs.size) t):=by rw [<- hh];exact Heap.get?_update_self _ hx1 rfl
 have e3:∀ b o,b≠x->h.get? b=some o->hD.get? b=some o:=fun b o hb e=>by rw [<- hh];exact (Heap.get?_update_ne _ _ _ _ hb).trans (Heap.get?_push_of_some _ e)
 have hnd:hD.Ns h.objs.size (fun _=>none):=⟨_,#[],_,e1,rfl,fun e he=>absurd he (by simp),fun _=>rfl⟩
 show wpAny _ _ (Builtin.ObjectAttr.storeInDict h.objs.size (.str name tk) name v) _ _ _
 unfold Builtin.ObjectAttr.storeInDict Builtin.ObjectAttr.newKeyGuard
 refine wpAny_bind (wpAny_pure (wpAny_bind (wpAny_nsSet1 (Heap.Ns1.of_empty hnd) fun h' hn' hs=>?_)))
 obtain⟨oD,esD,epD,hoD,hdD,hcD⟩:=hn'.count (Within.cons name v Within.nil)
 refine wpAny_bind (wpAny_lookBehind hoD (by rw [hdD];exact pastItsLine_dict (Nat.le_trans hcD (by simp only [List.length_cons,List.length_nil,sizeLine_eq];omega))) ?_)
 refine wpAny_pure ?_
 exact hq h' _ h.objs.size (Heap.get?_none_of_le (Nat.le_refl _)) ((hs.2 x hxs).trans e2) hn' fun b o hb e=>(hs.2 b (Nat.ne_of_lt (Heap.lt_size e))).trans (e3 b o hb e)
end
section
variable {prog:Program}{w:World}{A:Around}{E:Value->Shared->Prop}{s:Shared}{K:W.Frag}{C f:Addr}
theorem Zj8 {x dx:Addr}{ox:Obj}{vs:Array Value}{m:Str->Option Value}{name:Str}{v:Value}{expr:Bool}{Q:Value->Shared->Prop}(X:K.In s.heap)(Z:ZbX K C)(hh:hasDictIn K C=true)(hf:findIn K (.ref C) name=some none)
  (hx:s.heap.get? x=some ox) (hc:ox.cls=.ref C) (hd:ox.data=.fields vs) (hdd:ox.dict=some dx) (hn:s.heap.Ns1 dx m) (hm:m name=some v) (hv:handedIn v=true) (hq:Q v { s with toks:=s.toks+1 }) :
  wpAny (model prog w) A (getAttr (.ref x) name expr) Q E s:=by
 obtain⟨od,ho,hl⟩:=Zam hn
 have I:InstAt s.heap x ox C (some od):=⟨hx,hc,by unfold notCls;rw [hd],by rw [hdd];exact ho⟩
 have lk:=looks_find (M:=model prog w) X I (findObj_own hh hf rfl ((hl name).trans (congrArg some hm)))
 obtain⟨h,g,d,t,os⟩:=s
 have FB:=PySem.F.excAttr_ValueError
 have l1:Looks (model prog w) h (typeLookup (.ref C) "__getattribute__") _:=looks_findIn X Z.ga
 have l2:Looks (model prog w) h (typeLookup (.ref C) "__getattr__") _:=looks_findIn X Z.gt
 have l3:=FB.ga.bind (.ref x)
 have n1:(Value.builtin "BaseException.__getattribute__" == Value.builtin "object.__getattribute__")=false:=by decide +kernel
 have n2:(onTheHeap (Value.ref C)&&Value.builtin "BaseException.__getattribute__" == Value.builtin "object.__getattribute__")=false:=by rw [n1];rfl
 have n3:(expr&&onTheHeap (Value.builtin "BaseException.__getattribute__"))=false:=by cases expr<;>rfl
 have ho2:=handedOut_of hv
 unfold getAttr
 repeat (any_goals (first | assumption | (with_reducible refine wpAny_loadPart_at hx ?_;rw [hc]) | with_reducible refine l1.at ?_ | with_reducible refine l2.at ?_ | wp_step))
 refine codeAny_call_builtin FB.ga.plain PySem.F.entry_bexc_ga (Va Z X hx hc ?_)
 unfold Builtin.«object.__getattribute__»
 repeat (any_goals (first | assumption | (with_reducible refine wpAny_loadPart_at hx ?_;rw [hc]) | with_reducible refine lk.at ?_ | wp_step))
theorem ZgK {env:Env}{x:Sem Value}{Q:Flow->Shared->Prop}(c:Vq K C)(hh:A.handled=none)
  (h:wpAny (model prog w) A x (fun v s₁=>∃ e t dct,v=.ref e/\K.In s₁.heap/\s₁.heap.get? e=some (Zem C dct t)/\E (.ref e) s₁) E s):wpAny (model prog w) A (raiseStmt env (some x) none) Q E s:=by
 unfold raiseStmt
 refine wpAny_bind (wpAny_mono h (fun v s1 h1=>?_) fun _ _ z=>z)
 obtain⟨e,t,dct,rfl,X,he,hE⟩:=h1
 obtain⟨hp,g,d,tk,os⟩:=s1
 obtain⟨bm,N,nm,q,bs,sn,sub,ab,col,dd,k0,k1,k2,k3,k5,hC,T⟩:=c.obj hp X
 have FB:=PySem.F.excBase_ValueError
 have hb:(Value.ref C::bm).contains (.type "BaseException")=true:=by rw [List.contains_cons,T.hasType FB.hasBase,Bool.or_true]
 repeat (first | with_reducible refine wpAny_loadPart_at he ?_ | with_reducible refine wpAny_loadPart_at hC ?_ | (with_reducible refine wpAny_isSubtype_exc hC ?_;rw [hb]) | wp_step)
 exact wpAny_raiseNew_none hh hE
end
noncomputable def XN (x C:Addr)(dct:Option Addr):Heap->Prop:=fun h=>∃ t,h.get? x=some (Zem C dct t)
noncomputable def del (H:Hp)(x:Addr):Hp:=fun b=>if b=x then none else H b
theorem Wd {H:Hp}{x b:Addr}(h:b≠x):del H x b=H b:=by unfold del;rw [if_neg h]
theorem Zfp {H:Hp}{x:Addr}:del H x x=none:=by unfold del;rw [if_pos rfl]
section
variable {X:Cx}{pins:List (Addr×Obj)}{σ:St}{H:Hp}{s:Shared}{ea C:Addr}{dct:Option Addr}
theorem Zfh {Q:Unit->Shared->Prop}{E:Value->Shared->Prop}(S:WZ X)(I:Inv X pins σ H s)(hx:H ea=some (.ext (XN ea C dct)))(hnew:X.s₀.heap.get? ea=none)
  (hQ:∀ h2 B a0,Fly X.prog X.w X.outer X.H₀ (del H ea) X.s₀.heap B ea (.ref C) a0 dct h2->Q () { s with heap:=h2 }) :
  wpAny (model X.prog X.w) X.A (leaving X.env (.ref ea)) Q E s:=by
 obtain⟨t,he⟩:=(show XN ea C dct s.heap from (I.hok ea _ hx).1)
 have hin:∀ env∈X.stack,∀ b,env.frame=some b->b∈ea::frs X.stack:=fun env h1 b hb=>List.mem_cons_of_mem _ (Zg3 h1 hb)
 have hfr:X.A.frames=some (X.env::X.outer):=by rw [I.ok.frames,S.stk]
 have hff0:=W.funFrames_hide (as:=ea::frs X.stack) I.stack hin
 have hff:s.heap.FunFrames (W.hideAll s.heap (ea::frs X.stack)) (X.env::X.outer):=by
  rw [<- S.stk];exact hff0
 have hlt:∀ b o,X.s₀.heap.get? b=some o->b≠X.env.locals:=fun b o q z=>by
  subst z
  exact absurd (Nat.lt_of_lt_of_le (Heap.lt_size q) I.ok.above) (Nat.lt_irrefl _)
 have hns:∀ b o,X.s₀.heap.get? b=some o->b∉frs X.outer->b∉ea::frs X.stack:=fun b o q hb hm=>by
  rcases List.mem_cons.mp hm with z | z
  ·subst z;rw [hnew] at q;cases q
  ·rw [WA S] at z
   rcases List.mem_cons.mp z with z | z
   ·exact hlt b o q z
   ·exact hb z
 have hex:∀ b,b∉X.ex:=fun b hb=>by rw [S.ex] at hb;cases hb
 have hen:(W.hideAll s.heap (ea::frs X.stack)).get? ea=none:=W.hideAll_none _ List.mem_cons_self
 refine (Vg X.env (.ref ea)).any ?_
 refine wpAny_leaving_firstW (base:=W.hideAll s.heap (ea::frs X.stack)) (a0:=.ref t) hfr hff S.fr he (fun b o q=>W.of_hideAll _ q) hen rfl rfl rfl fun h2 hL dk=>?_
 obtain⟨k1,⟨_,_,k2⟩,k3,k4⟩:=hL
 refine hQ h2 _ _ ⟨⟨k1,hen,k2,k3⟩,(by obtain⟨o2,e3,e4⟩:=dk _ _ he;exact⟨o2,e3,e4⟩),fun b u q=>?_,hnew,fun b o q n hb=>?_,fun b o q n hb=>?_,fun b o q n=>?_,fun b o q hb=>?_,fun b xs q=>?_,fun b o u q=>?_,fun b ps q=>?_⟩
 ·have hbe:b≠ea:=fun z=>by subst z;rw [Zfp] at q;cases q
  rw [Wd hbe] at q
  refine (I.hok b u q).stay (fun c v hc r=>W.hideAll_get _ r fun hm=>?_) (fun c r=>?_) fun c xs r=>?_
  ·rcases List.mem_cons.mp hm with z | z
   ·subst z
    rcases hc with z | z
    ·exact hbe z.symm
    ·rw [hx] at z;cases z
   ·have:=I.stkFree c z
    rcases hc with z | z
    ·subst z;rw [this] at q;cases q
    ·rw [this] at z;cases z
  ·rw [Wd (fun z=>by subst z;rw [hx] at r;cases r)];exact r
  ·rw [Wd (fun z=>by subst z;rw [hx] at r;cases r)];exact r
 ·exact W.hideAll_get _ (I.base.keep b o q n hb (hex b)) (hns b o q hb)
 ·obtain⟨sl,e⟩:=I.base.slot b o q n hb (hex b)
  obtain⟨_,o',ho',hd⟩:=I.stack.mem (show b∈frs X.stack by rw [WA S];exact List.mem_cons_of_mem _ hb)
  rw [e] at ho'
  cases ho'
  exact k4 b { o with slots:=sl } e hd
 ·rw [Wd (fun z=>by subst z;rw [hnew] at q;cases q)]
  exact I.base.free b o q n (hex b)
 ·obtain⟨o',e⟩:=I.base.there b o q (hex b)
  exact⟨o',W.hideAll_get _ e (hns b o q hb)⟩
 ·have r:=I.base.tups b xs q
  rw [Wd (fun z=>by subst z;rw [hx] at r;cases r)];exact r
 ·have r:=I.base.frzs b o u q
  rw [Wd (fun z=>by subst z;rw [hx] at r;cases r)];exact r
 ·obtain⟨m,r⟩:=I.base.tbls b ps q
  exact⟨m,by rw [Wd (fun z=>by subst z;rw [hx] at r;cases r)];exact r⟩
end
section
variable {X:Cx}{k:Nat}{f C:Addr}{fd:FuncData}{ps:List Str}{sp:Sp}{x:Str}{p pos np cpos:Pos}{e₀:Expr}{rest:List Expr}{ta:TA}{E:XK}
structure MkX (K:W.Frag)(C f:Addr):Prop where
 cls:Vq K C
 init:findIn K (.ref C) "__init__" = some (some (.ref f))
 fn:typeIn K (.ref f)=some (.type "function")
 kp:keepIn K (.ref C)=true
theorem ZcU {pins:List (Addr×Obj)}{σ:St}{H:Hp}{s:Shared}{Q:Addr->Hp->Prop}{us:List Value}{vs:List V}(M:MkX X.K C f)(F:FnOk X.prog X.w X.K X.mg X.base CX0 k f fd ps sp)(hr:Room (k+1) X.A)(hb:Binds X.K fd ps [])
  (I:Inv X pins σ H s) (r:Vals vs us) (hz:us.length<=sizeLine) (h:∀ y,H y=none->sp (.ref y::vs) (upd H y (.ext (XN y C none))) (fun v H2=>v=.non/\Q y H2) E0) :
  wpAny (model X.prog X.w) X.A (call (.ref C) us) (fun u s'=>∃ y H2,u=.ref y/\s.heap.objs.size<=y/\Inv X pins σ H2 s'/\Q y H2) X.xe s:=by
 refine Zfi I.kIn M.cls M.init M.fn hz fun h' y hle hm=>?_
 obtain⟨t,he,_⟩:=hm.there
 have hy:H y=none:=I.hok.fresh hle
 have I2:Inv X pins σ (upd H y (.ext (XN y C none))) { s with heap:=h',toks:=s.toks }:=I.laid (t':=s.toks) hm.keeps hle ⟨⟨t,he⟩,⟨_,he⟩,fun h1 h2 ⟨t,e⟩ k=>⟨t,k _ e⟩⟩
 have hq:=h y hy
 have r2:Vals (V.ref y::vs) (Value.ref y::us):=.cons rfl r
 have hl:(Value.ref y::us++[]).length=ps.length:=by
  rw [List.append_nil,<- r2.length];exact F.len _ _ _ _ hq
 have hbb:=hb { s with heap:=h' } (Value.ref y::us) I2.kIn hl
 rw [List.append_nil] at hbb
 refine wpAny_call (codeAny_mono (F.run _ X.stack _ _ ⟨Value.ref y::us,[]⟩ (Value.ref y::us) _ _ E0 (hr.make C us []) (I2.env0.make C us []) hbb r2 hq) fun r s' hq'=>?_)
 cases r with
 | error e=>exact False.elim hq'
 | ok fl =>
  cases fl with
  | ret u =>
   obtain⟨v,H',I3,rv,ev,q3⟩:=I2.after hq'
   subst ev
   exact⟨rv,⟨y,H',rfl,hle,I3,q3⟩⟩
  | next=>exact False.elim hq'
  | brk=>exact False.elim hq'
  | cont=>exact False.elim hq'
noncomputable def ZcL (C:Addr)(sp:Sp)(E:XK)(ta:TA):TS:=fun _ σ H=>ta σ H fun vs H1=>vs.length<=sizeLine/\∀ y,H1 y=none->sp (.ref y::vs) (upd H1 y (.ext (XN y C none))) (fun v H2=>v=.non/\∃ dct,H2 y=some (.ext (XN y C dct))/\E (.ref C) dct (del H2 y)) E0
theorem Zc4 (R:Rz X E)(M:MkX X.K C f)(F:FnOk X.prog X.w X.K X.mg X.base CX0 k f fd ps sp)(hr:Room (k+1) X.A)(hb:Binds X.K fd ps [])(hg:Gl X x)(hm:X.mg x=some (.ref C))(ha:PA X (e₀::rest) ta)
  (hdb:(x == ("__debug__" : Str))=false:=by decide) (he:starEach (e₀::rest) X.env=(false,eval e₀ X.env)::starEach rest X.env:=by rfl) (hpl:(backTo cpos (starEach rest X.env)).any (·.1)=false:=by rfl) :
  PS X (.Raise (some (.Call (.Name x np) (e₀::rest) [] cpos)) none pos) (ZcL C sp E ta):=by
 intro pins s σ H D I h
 rw [arm_exec_Raise]
 refine wpAny_bind (wpAny_standAt (ZgK (K:=X.K) M.cls (I.ok.hd R.calm) (wpAny_bind ?_)))
 refine wpAny_Call_Name_kw (ld_glob I hg hm ?_ hdb)
 refine W.callWith_K (h₀:=X.base) I.ok.mod.kin M.kp (thn (ha cpos pins s σ H _ I h) fun us s1 ⟨vs,H1,I1,r,hz,q⟩=>⟨I1.kIn,?_⟩) he hpl
 refine wpAny_mono (ZcU M F hr hb I1 r (show us.length<=sizeLine by rw [<- r.length];exact hz) q) (fun u s' ⟨y,H2,eu,hle,I2,dct,hy,qE⟩=>?_) fun _ _ z=>z
 subst eu
 obtain⟨t,hyt⟩:=(show XN y C dct s'.heap from (I2.hok y _ hy).1)
 have hnew:X.s₀.heap.get? y=none:=by
  cases q:X.s₀.heap.get? y with
  | none=>rfl
  | some o =>
   obtain⟨o',e⟩:=I1.base.there y o q (fun hb=>by rw [R.on.ex] at hb;cases hb)
   exact absurd (Nat.lt_of_lt_of_le (Heap.lt_size e) hle) (Nat.lt_irrefl _)
 refine wpAny_bind (wpAny_standAt (wpAny_pure ⟨y,t,dct,rfl,I2.kIn,hyt,?_⟩))
 rw [R.xe]
 exact Zfh R.on I2 hy hnew fun h3 B a0 F=>⟨y,_,a0,dct,B,_,rfl,I2.os,I2.bare,F,qE⟩
theorem Zec {D:WH}{σ:St}{H:Hp}:ZcL C sp E ta D σ H=ta σ H fun vs H1=>vs.length<=sizeLine/\∀ y,H1 y=none->sp (.ref y::vs) (upd H1 y (.ext (XN y C none))) (fun v H2=>v=.non/\∃ dct,H2 y=some (.ext (XN y C dct))/\E (.ref C) dct (del H2 y)) E0:=rfl
end
theorem Zig {H:Hp}{a:Addr}{o:HO}(h:H a=some o):upd H a o=H:=by
 funext b
 by_cases q:b=a
 ·subst q;rw [Zd,h]
 ·rw [Zh q]
section
variable {X:Cx}{B:Addr}{bx f:Str}{np apos pos pos':Pos}{e o value:Expr}{es:List Expr}{t:TA}{ta tv:TE}
structure Zic (K:W.Frag)(B:Addr):Prop where
 ga:specialIn K (.ref B) "__getattribute__" = some (some (.builtin "type.__getattribute__"))
 rd:readsIn K B (.type "type")=true
 fi:findCls K (.ref B) (.type "type") "__init__" = some (.val (.builtin "ValueError.__init__"))
noncomputable def JE (K:W.Frag)(t:TA):TE:=fun σ H Q=>t σ H fun vs H1=>∃ y v C dct,vs=[.ref y,v]/\H1 y=some (.ext (XN y C dct))/\Vq K C/\Q .non H1
theorem Za5 {pl:Sem Bool} (b:Zic X.K B) (hg:Gl X bx) (hm:X.mg bx=some (.ref B)) (ha:PA X (e::es) t) (hdb:(bx == ("__debug__" : Str))=false:=by decide)
  (hst:starEach (e::es) X.env=(false,eval e X.env)::starEach es X.env:=by rfl) (hpl:(backTo pos (starEach es X.env)).any (·.1)=false:=by rfl)
  (ht:eval (.Call (.Attribute (.Name bx np) "__init__" apos) (e::es) [] pos) X.env=(do
   let ov <- eval (.Name bx np) X.env
   standAt apos.atName
   let (f,first) <- holding [ov] (getMethod ov "__init__" pl)
   callWith pos f first (backTo pos (starEach (e::es) X.env)) (backToKw pos (keywordEach [] X.env))):=by rfl) :
  PE X (.Call (.Attribute (.Name bx np) "__init__" apos) (e::es) [] pos) (JE X.K t):=by
 intro pins s σ H Q I h
 refine W.methodCall_KW (pl:=pl) (ld_glob I hg hm ?_ hdb) ht
 refine method_cls I.kIn b.ga (cls_value I.kIn b.rd b.fi (by decide +kernel) ?_)
 have I':Inv X pins σ H { s with toks:=s.toks+1 }:=I.tok _
 refine PyProof.Rows.callWith_builtin1 (thn (ha pos pins _ σ H _ I' h) fun us s1 ⟨vs,H1,I1,r,y,v,C,dct,ev,hy,c,q⟩=>?_) hst hpl
 subst ev
 obtain⟨u1,u2,rfl,r1,r2⟩:=Zb2 r
 cases (show u1=Value.ref y from r1)
 obtain⟨t0,he⟩:=(show XN y C dct s1.heap from (I1.hok y _ hy).1)
 refine Zd7 I1.kIn c he fun h' t' he' k=>?_
 have I2:=Inv.write (e:=y) (o:=.ext (XN y C dct)) (t':=s1.toks) I1 (by rw [hy];trivial) (.inl rfl) k ⟨_,he'⟩ ⟨⟨t',he'⟩,⟨_,he'⟩,fun h1 h2 ⟨t,e⟩ k=>⟨t,k _ e⟩⟩
 rw [Zig hy] at I2
 exact⟨.non,H1,I2,rfl,q⟩
noncomputable def Ziw (K:W.Frag) (ta tv:TE) (f:Str):TS:=fun D σ H=>tv σ H fun y H1=>ta σ H1 fun x H2=>∃ a C,x=.ref a/\H2 a=some (.ext (XN a C none))/\Vq K C/\findIn K (.ref C) "__setattr__" = some (some (.builtin "object.__setattr__"))/\findIn K (.ref C) f=some none /\
 subIn K (.ref C) (.type "object")=some true/\∀ dx,H2 dx=none->dx≠a->D.nx σ (upd (upd H2 dx (.xd [(f,y)])) a (.ext (XN a C (some dx))))
theorem ZgO (ha:PE X o ta)(hv:PE X value tv)(hs:swapsWith value (some (.Attribute o f pos')) pos.line X.env=pure false):PS X (.Assign [.Attribute o f pos'] value pos) (Ziw X.K ta tv f):=by
 intro pins s σ H D I h
 refine plainObj_wpAny_Assign_Attribute (thn (hv pins s σ H _ I h) fun u s1 ⟨y,H1,I1,ry,q⟩=>thn (ha pins s1 σ H1 _ I1 q) fun ov s2 ⟨x,H2,I2,rx,a,C,ex,ea,c,f1,f2,f3,q2⟩=>?_) hs
 subst ex
 cases (show ov=Value.ref a from rx)
 obtain⟨t0,he⟩:=(show XN a C none s2.heap from (I2.hok a _ ea).1)
 refine Zgs I2.kIn c f1 f2 f3 he fun h' tk' dx hdx he' hn k=>?_
 have hn2:H2 dx=none:=I2.hok.none hdx
 have hda:dx≠a:=fun z=>by subst z;rw [he] at hdx;cases hdx
 have at1:∀ b v,H2 b=some v->b≠a->upd (upd H2 dx (.xd [(f,y)])) a (.ext (XN a C (some dx))) b=some v:=fun b v r hb=>by
  rw [Zh hb,Zh (Zj r hn2)];exact r
 have hok:HOk X.prog X.w (upd (upd H2 dx (.xd [(f,y)])) a (.ext (XN a C (some dx)))) h':=fun b v r=>by
  by_cases hb:b=a
  ·subst hb
   rw [Zd] at r
   cases r
   exact⟨⟨t0,he'⟩,⟨_,he'⟩,fun h1 h2 ⟨t,e⟩ k=>⟨t,k _ e⟩⟩
  ·rw [Zh hb] at r
   by_cases hb2:b=dx
   ·subst hb2
    rw [Zd] at r
    cases r
    refine⟨_,hn,fun g=>?_⟩
    by_cases hg:g=f
    ·subst hg;simp [List.lookup];exact ry
    ·have z:(g == f)=false:=beq_eq_false_iff_ne.mpr hg
     simp only [List.lookup,z,if_neg hg]
     trivial
   ·rw [Zh hb2] at r
    refine (I2.hok b v r).stay (fun c u hc z=>?_) (fun c z=>?_) fun c xs z=>?_
    ·refine k c u (fun hca=>?_) z
     subst hca
     rcases hc with q | q
     ·exact hb q.symm
     ·rw [ea] at q;cases q
    ·exact at1 c _ z (fun q=>by subst q;rw [ea] at z;cases z)
    ·exact at1 c _ z (fun q=>by subst q;rw [ea] at z;cases z)
 have un:Un X.fs [] H2 (upd (upd H2 dx (.xd [(f,y)])) a (.ext (XN a C (some dx)))) s2.heap h':=by
  refine⟨fun b v r n _ _=>?_,fun b v r n _ _=>?_,fun b v r n _=>?_,fun b v r _=>?_,fun b xs r=>?_,fun b v w r=>?_,fun b ps r=>?_⟩
  ·exact k b v (fun z=>by subst z;rw [ea] at n;cases n) r
  ·exact⟨v.slots,k b v (fun z=>by subst z;rw [ea] at n;cases n) r⟩
  ·rw [Zh (fun z=>by subst z;rw [ea] at n;cases n),Zh (fun z=>by subst z;rw [hdx] at r;cases r)];exact n
  ·by_cases hb:b=a
   ·subst hb;exact⟨_,he'⟩
   ·exact⟨v,k b v hb r⟩
  ·exact at1 b _ r (fun q=>by subst q;rw [ea] at r;cases r)
  ·exact at1 b _ r (fun q=>by subst q;rw [ea] at r;cases r)
  ·exact⟨#[],by rw [Array.append_empty];exact at1 b _ r (fun q=>by subst q;rw [ea] at r;cases r)⟩
 exact⟨σ,_,I2.un un hok,q2 dx hn2 hda⟩
noncomputable def ZgC (K:W.Frag)(ta:TE)(f:Str):TE:=fun σ H Q=>ta σ H fun x H1=>∃ a C dx fs v,x=.ref a/\H1 a=some (.ext (XIs a (.ref C) (some dx)))/\H1 dx=some (.xd fs)/\ZbX K C/\hasDictIn K C=true/\findIn K (.ref C) f=some none/\fs.lookup f=some v/\Q v H1
theorem ZgU (he:PE X e ta)(hb:attributeBase e f X.env (eval e X.env)=eval e X.env):PE X (.Attribute e f pos) (ZgC X.K ta f):=by
 intro pins s σ H Q I h
 refine attr_of hb (thn (he pins s σ H _ I h) fun u s1 ⟨x,H1,I1,rx,a,C,dx,fs,v,ex,ea,ed,Z,hd,n,l,q⟩=>?_)
 subst ex
 cases (show u=Value.ref a from rx)
 obtain⟨ob,vs,o1,o2,o3,o4⟩:=(show XIs a (.ref C) (some dx) s1.heap from (I1.hok a _ ea).1)
 obtain⟨mA,n1,n2⟩:=(show ObjOk X.prog X.w H1 s1.heap dx (.xd fs) from I1.hok dx _ ed)
 have rl:=n2 f
 rw [l] at rl
 cases hm:mA f with
 | none=>rw [hm] at rl;exact False.elim rl
 | some w =>
  rw [hm] at rl
  have hv:handedIn w=true:=by cases v<;>first | (cases (show w=_ from rl);rfl) | (obtain⟨_,e⟩:=(show ∃ _,w=_ from rl);subst e;rfl)
  exact Zj8 I1.kIn Z hd n o1 o2 o3 o4 n1 hm hv ⟨v,H1,I1.tok _,rl,q⟩
end
section
variable {X:Cx}
theorem Inv.kept2 {pins:List (Addr×Obj)}{σ:St}{H:Hp}{s:Shared}{h':Heap}{t':Nat}(I:Inv X pins σ H s)(k:∀ b o,s.heap.get? b=some o->h'.get? b=some o):Inv X pins σ H { s with heap:=h',toks:=t' } :=
 I.un ⟨fun b o q _ _ _=>k b o q,fun b o q _ _ _=>⟨o.slots,k b o q⟩,fun _ _ _ n _=>n,fun b o q _=>⟨o,k b o q⟩,fun _ _ q=>q,fun _ _ _ q=>q,fun b ps q=>⟨#[],by rw [Array.append_empty];exact q⟩⟩ (I.hok.kept k)
section
variable {K:W.Frag}{t:TA}{ta tv:TE}{f:Str}{D:WH}{σ:St}{H:Hp}{Q:VK}
theorem ZfT:JE K t σ H Q=t σ H fun vs H1=>∃ y v C dct,vs=[.ref y,v]/\H1 y=some (.ext (XN y C dct))/\Vq K C/\Q .non H1:=rfl
theorem ZhV:Ziw K ta tv f D σ H=tv σ H fun y H1=>ta σ H1 fun x H2=>∃ a C,x=.ref a/\H2 a=some (.ext (XN a C none))/\Vq K C/\findIn K (.ref C) "__setattr__" = some (some (.builtin "object.__setattr__"))/\findIn K (.ref C) f=some none /\
 subIn K (.ref C) (.type "object")=some true/\∀ dx,H2 dx=none->dx≠a->D.nx σ (upd (upd H2 dx (.xd [(f,y)])) a (.ext (XN a C (some dx)))):=rfl
theorem ZhS:ZgC K ta f σ H Q=ta σ H fun x H1=>∃ a C dx fs v,x=.ref a/\H1 a=some (.ext (XIs a (.ref C) (some dx)))/\H1 dx=some (.xd fs)/\ZbX K C/\hasDictIn K C=true/\findIn K (.ref C) f=some none/\fs.lookup f=some v/\Q v H1:=rfl
end
end
noncomputable def pD (p:Nat×Nat):PyData:=.tuple [.int p.1,.int p.2]
theorem Uz:∀ i:Nat,i<32->(Str.ofString (toString (i:Int))).length<=2:=by decide +kernel
theorem JN {i:Nat}(h:i<32):(i:Int).natAbs.log2<1920:=by
 rw [Int.natAbs_natCast]
 exact Nat.lt_of_le_of_lt (Nat.log2_le_self i) (by omega)
theorem Wa:∀ {ps:List (Nat×Nat)},(∀ p∈ps,p.1<32/\p.2<32)->PyData.showableAll (ps.map pD)=true
 | [],_=>rfl
 | p::ps,h=>by
  have h0:=h p List.mem_cons_self
  show ((decide ((p.1:Int).natAbs.log2<1920)&&(decide ((p.2:Int).natAbs.log2<1920)&&true))&&PyData.showableAll (ps.map pD))=true
  rw [decide_eq_true (JN h0.1),decide_eq_true (JN h0.2),Wa fun q hq=>h q (List.mem_cons_of_mem _ hq)]
  rfl
theorem Vi:∀ {ps:List (Nat×Nat)},PyData.hasDictAll (ps.map pD)=false
 | []=>rfl
 | p::ps=>by
  show ((false || (false || false)) || PyData.hasDictAll (ps.map pD))=false
  rw [Vi];rfl
theorem VJ:∀ {ps:List (Nat×Nat)},PyData.depthAll (ps.map pD)<=1
 | []=>Nat.zero_le _
 | p::ps=>by
  have:=VJ (ps:=ps)
  show max (max 0 (max 0 0)+1) (PyData.depthAll (ps.map pD))<=1
  omega
theorem ZeJ {p:Nat×Nat}(h:p.1<32/\p.2<32):(pD p).shown.length<=11:=by
 have h1:=Uz _ h.1
 have h2:=Uz _ h.2
 have h3:=tupleText_len_le [Str.ofString (toString (p.1:Int)),Str.ofString (toString (p.2:Int))]
 have e:(([Str.ofString (toString (p.1:Int)),Str.ofString (toString (p.2:Int))]:List Str).map (·.length)).sum=(Str.ofString (toString (p.1:Int))).length+(Str.ofString (toString (p.2:Int))).length:=by simp
 rw [e,List.length_cons,List.length_cons,List.length_nil] at h3
 show (tupleText [Str.ofString (toString (p.1:Int)),Str.ofString (toString (p.2:Int))]).length<=11
 omega
theorem Zaa:∀ {ps:List (Nat×Nat)},(∀ p∈ps,p.1<32/\p.2<32)->((PyData.shownAll (ps.map pD)).map (·.length)).sum<=11*ps.length
 | [],_=>Nat.le_refl _
 | p::ps,h=>by
  have h1:=ZeJ (h p List.mem_cons_self)
  have h2:=Zaa (ps:=ps) fun q hq=>h q (List.mem_cons_of_mem _ hq)
  show (pD p).shown.length+((PyData.shownAll (ps.map pD)).map (·.length)).sum<=11*(ps.length+1)
  omega
theorem VL:∀ {ps:List (Nat×Nat)},(PyData.shownAll (ps.map pD)).length=ps.length
 | []=>rfl
 | p::ps=>by
  show (PyData.shownAll (ps.map pD)).length+1=ps.length+1
  rw [VL]
theorem Zcc {ps:List (Nat×Nat)}(h:∀ p∈ps,p.1<32/\p.2<32)(hl:ps.length<=1024):(PyData.list (ps.map pD)).shown.length<=20000:=by
 have h1:=listText_len_le (PyData.shownAll (ps.map pD))
 have h2:=Zaa h
 rw [VL] at h1
 show (listText (PyData.shownAll (ps.map pD))).length<=20000
 omega
section
variable {X:Cx}
theorem VC {H:Hp}{h:Heap}(hok:HOk X.prog X.w H h):∀ {ps:List (Nat×Nat)} {rs:List Addr} {us:List Value},Vals (rv rs) us->PrT H rs (ps.map np)->ReadsAll h us (ps.map pD) []
 | [],[],_,.nil,_=>.nil
 | p::ps,r::rs,_,.cons e q,.cons t ts=>by
  obtain⟨_,its,rvt,o,ho,hc,m,hd⟩:=(show ObjOk X.prog X.w H h r (.tup [.int (p.1:Nat),.int (p.2:Nat)]) from hok r _ t)
  cases (show _=Value.ref r from e)
  cases rvt with
  | cons r1 rt =>
   cases rt with
   | cons r2 rn =>
    cases rn
    obtain⟨t1,rfl⟩:=r1
    obtain⟨t2,rfl⟩:=r2
    refine .cons (as:=[]) (bs:=[]) (.tuple ho hc hd ?_) (VC hok q ts)
    exact .cons (as:=[]) (bs:=[]) (.int _ t1) (.cons (as:=[]) (bs:=[]) (.int _ t2) .nil)
noncomputable def Zgl (te:TE)(t:TJ):TJ:=fun σ H Q=>te σ H fun x H1=>∃ (a:Addr) (rs:List Addr) (ps:List (Nat×Nat)),x=.ref a/\H1 a=some (.lst (rv rs))/\PrT H1 rs (ps.map np)/\(∀ p∈ps,p.1<32/\p.2<32)/\ps.length<=1024/\t σ H1 Q
theorem ZeF {k:Nat}{e:Expr}{te:TE}{pos:Pos}{es:List Expr}{n:Nat}{t:TJ}(hr:Room k X.A)(he:PE X e te)(h:PJ X es n t):PJ X (.FormattedValue e 114 none pos::es) (n+10) (Zgl te t):=by
 intro acc pins s σ H Q hz I hw
 refine joinParts_cons ?_
 show wpAny _ _ (do let v <- eval e X.env;standAt pos;formatted pos (<- holding [v] (converted 114 v)) none) _ _ s
 refine wpAny_bind (thn (he pins s σ H _ I hw) fun v s1 ⟨x,H1,I1,r1,a,rs,ps,ex,ha,hP,hi,hl,q⟩=>?_)
 subst ex
 cases (show v=Value.ref a from r1)
 refine wpAny_bind (wpAny_standAt (wpAny_bind (wpAny_holding ?_)))
 obtain⟨_,its,m,rv',ho⟩:=(show ObjOk X.prog X.w H1 s1.heap a (.lst (rv rs)) from I1.hok a _ ha)
 have rd:Reads s1.heap (.ref a) (.list (ps.map pD)) (a::[]):=.list ho rfl rfl (by simpa using VC I1.hok rv' hP)
 have ht:=Zcc hi hl
 show wpAny _ _ (pyReprObj (.ref a)) _ _ s1
 have hd:(PyData.list (ps.map pD)).depth<=2:=by
  have:=VJ (ps:=ps)
  show PyData.depthAll (ps.map pD)+1<=2
  omega
 refine pyReprObj_of_reads rd (Wa hi) (fun z=>absurd z (by show ¬ PyData.hasDictAll (ps.map pD)=true;rw [Vi];decide)) hr.gd (by have:=hr.un;omega) (fun b o q=>q) (fun h' u tk kp=>?_) (by rw [sizeLine_eq];omega)
 have I2:Inv X pins σ H1 { s1 with heap:=h',toks:=tk }:=I1.kept2 kp
 show wpAny _ _ (formatField (.str _ u) Str.empty) _ _ _
 refine formatField_str (fun t' tk'=>?_) (by rw [sizeLine_eq];omega)
 have hl2:=strLen_append acc (PyData.list (ps.map pD)).shown
 exact⟨by omega,h _ pins _ σ H1 Q (by omega) (I2.tok _) q⟩
theorem Zee {te:TE}{t:TJ}{σ:St}{H:Hp}{Q:Hp->Prop}:Zgl te t σ H Q=te σ H fun x H1=>∃ (a:Addr) (rs:List Addr) (ps:List (Nat×Nat)),x=.ref a/\H1 a=some (.lst (rv rs))/\PrT H1 rs (ps.map np)/\(∀ p∈ps,p.1<32/\p.2<32)/\ps.length<=1024/\t σ H1 Q:=rfl
end
end L2
namespace L2
open PySem PySem.Spec PyProof.Rows
section
variable {prog:Program}{w:World}{A:Around}{E:Value->Shared->Prop}
theorem ZaA {it l:Addr}{items:Array Value}(hne:l≠it):∀ (n i:Nat) (s:Shared) (Q:List Value->Shared->Prop),s.heap.IsListIter it l i->s.heap.IsList l items->i+n<=items.size ->
  (∀ h',h'.IsListIter it l (i+n)->Heap.SameBut it s.heap h'->Q ((items.toList.drop i).take n) { s with heap:=h' })->wpAny (model prog w) A (draw (.ref it) n) Q E s
 | 0,i,s,Q,hit,_,_,hQ=>by
  show wpAny _ _ (pure []) Q E s
  exact wpAny_pure (by simpa using hQ s.heap hit (Heap.SameBut.refl ..))
 | n+1,i,s,Q,hit,ht,hle,hQ=>by
  have hlt:i<items.size:=by omega
  show wpAny _ _ (pyNext (.ref it) >>= _) Q E s
  refine wpAny_bind (wpAny_pyNext_list_item hit ht (x:=items[i]) (by simp [hlt]) fun h₁ hit₁ hs₁=>?_)
  refine wpAny_bind (wpAny_holding (ZaA hne n (i+1) _ _ hit₁ (ht.extBut hs₁.extBut hne) (by omega) fun h₂ hit₂ hs₂=>wpAny_pure ?_))
  have hd:items.toList.drop i=items[i]::items.toList.drop (i+1):=by simp [List.drop_eq_getElem_cons,hlt]
  have:=hQ h₂ (by rw [show i+(n+1)=i+1+n by omega];exact hit₂) (hs₁.trans hs₂)
  rw [hd,List.take_succ_cons] at this
  exact this
theorem ZaS {s:Shared}{l:Addr}{items:Array Value}{Q:List Value->Shared->Prop}(hh:A.handled=none)(ht:s.heap.IsList l items)
  (hQ:∀ h',(∀ b o,s.heap.get? b=some o->h'.get? b=some o)->Q items.toList { s with heap:=h' }):wpAny (model prog w) A (unpackItems (.ref l) items.size none) Q E s:=by
 have ho:=ht
 obtain⟨ob,hob,hcls,_⟩:=ho
 have hlt:l≠s.heap.objs.size:=Nat.ne_of_lt (Heap.lt_size hob)
 unfold unpackItems
 refine wpAny_bind ?_
 unfold notIterableAtAll
 refine wpAny_bind (wpAny_specialOf (T := "list") ⟨ob,hob,hcls⟩ PySem.F.slot_list_iter.lookup ?_)
 refine wpAny_pure ?_
 simp only [Bool.false_eq_true,if_false]
 refine wpAny_bind (wpAny_holding (wpAny_pyIter_list ht ?_))
 have k0:∀ b o,s.heap.get? b=some o->(s.heap.push { cls:=.type "list_iterator",data:=.fields #[.ref l,.int 0 0] }).get? b=some o:=fun b o e=>Heap.get?_push_of_some _ e
 have hit:(s.heap.push { cls:=.type "list_iterator",data:=.fields #[.ref l,.int 0 0] }).IsListIter s.heap.objs.size l 0:=⟨_,Heap.get?_push_size _ rfl,rfl,rfl⟩
 have ht1:(s.heap.push { cls:=.type "list_iterator",data:=.fields #[.ref l,.int 0 0] }).IsList l items:=ht.at fun o e=>k0 l o e
 generalize s.heap.push { cls:=.type "list_iterator",data:=.fields #[.ref l,.int 0 0] }=g at k0 hit ht1
 refine wpAny_bind (wpAny_holding (ZaA hlt items.size 0 _ _ hit ht1 (by omega) fun h₁ hit₁ hs₁=>?_))
 have hall:List.take items.size (List.drop 0 items.toList)=items.toList:=by
  rw [List.drop_zero];exact List.take_of_length_le (by simp)
 rw [hall]
 rw [if_neg (by simp)]
 have ht₁:h₁.IsList l items:=ht1.extBut hs₁.extBut hlt
 refine wpAny_bind (wpAny_holding (wpAny_pyNext_list_end hh hit₁ ht₁ (by simp) fun h₂ he₂=>?_))
 simp only [Option.isSome_none,Bool.false_eq_true,if_false]
 exact wpAny_pure (hQ h₂ fun b o e=>he₂ b o (Nat.ne_of_lt (Heap.lt_size e)) (hs₁.extBut b o (Nat.ne_of_lt (Heap.lt_size e)) (k0 b o e)))
end
section
variable {X:Cx}{pos:Pos}
noncomputable def Zk7 (K:W.Frag)(n:Nat)(t:TGs):TG:=fun v σ H Q=>∃ a xs,v=.ref a/\SqL K H a xs/\xs.length=n/\t xs σ H Q
theorem pgL (K:W.Frag){es:List Expr}{k:Nat}{t:TGs}{n:Nat}(hc:X.calm=true)(h:PGs X es t)(hn:(assignEach es X.env).length=n:=by rfl)(hst:(assignEach es X.env).findIdx? (·.1)=none:=by rfl)(hK:X.K=K:=by rfl):PG X (.Tuple es k pos) (Zk7 K n t):=by
 subst hK
 intro pins s σ H v u Q I r hw
 obtain⟨a,xs,e1,hq,hl,hw⟩:=hw
 subst e1
 cases r
 obtain⟨its,rv,pl,_⟩:=I.list hq
 rw [assign_Tuple]
 refine wpAny_bind (wpAny_standAt ?_)
 unfold unpack
 rw [hst,hn,<- hl,rv.length]
 have hz:its.length=its.toArray.size:=by simp
 rw [hz]
 refine wpAny_bind (wpAny_holding (ZaS (I.ok.hd hc) pl.isList fun h' hx=>?_))
 have I1:Inv X pins σ H { s with heap:=h' }:=I.kept (t':=s.toks) hx
 exact h pins _ σ H xs _ Q I1 (by simpa using rv) hw
theorem ZhT {K:W.Frag}{n:Nat}{t:TGs}{v:V}{σ:St}{H:Hp}{Q:St->Hp->Prop}:Zk7 K n t v σ H Q=∃ a xs,v=.ref a/\SqL K H a xs/\xs.length=n/\t xs σ H Q:=rfl
end
end L2
namespace L2
open PySem PySem.Spec PyProof.Rows PySem.W
section
variable {X:Cx}
open Classical in
theorem JZ (K:W.Frag){e:Expr}{f:Str}{pos:Pos}{ta:TE}(he:PE X e ta)(hb:attributeBase e f X.env (eval e X.env)=eval e X.env:=by rfl)(hK:X.K=K:=by rfl):PE X (.Attribute e f pos) (ZgC K ta f):=by
 subst hK;exact ZgU he hb
end
section
variable {X:Cx}
noncomputable def ZiA (K:W.Frag):List V->Hp->VK->Prop:=fun xs H Q=>∃ t,∃ a b:Int,xs=[.ref t]/\SqT K H t [.int a,.int b]/\Q (.int (if b<a then b else a)) H
noncomputable def ZiB (K:W.Frag):List V->Hp->VK->Prop:=fun xs H Q=>∃ t,∃ a b:Int,xs=[.ref t]/\SqT K H t [.int a,.int b]/\Q (.int (if b>a then b else a)) H
theorem Zft (K:W.Frag) (hc:X.calm=true) (hK:X.K=K:=by rfl):XD X (.builtin "min") (ZiA K):=by
 subst hK
 intro pins s σ H xs us Q I r h
 obtain⟨t,a,b,rfl,ht,q⟩:=h
 obtain⟨u,rfl,ru⟩:=WI r
 cases (show u=Value.ref t from ru)
 obtain⟨its,rv,tp,hz⟩:=I.tuple ht
 obtain⟨u1,u2,rfl,⟨ta,rfl⟩,⟨tb,rfl⟩⟩:=Zb2 rv
 have hT:s.heap.IsTuple t (intItems #[(a,ta),(b,tb)]):=by
  obtain⟨o,ho,hcl,n,hd⟩:=tp
  exact⟨o,ho,hcl,n,by rw [hd];simp [intItems]⟩
 obtain⟨ot,hot,_⟩:=id hT
 have hlt:=Heap.lt_size hot
 refine call_min_walk (wpAny_pyIter_tuple hT ?_)
 refine⟨_,[_,t],[_],_,_,_,_,rfl,Walks.tuple (A:=X.A.in1) (I.ok.hd hc) _ t (Nat.ne_of_lt hlt) (intItems #[(a,ta),(b,tb)]),⟨⟨_,Heap.get?_push_size _ rfl,rfl,rfl⟩,hT.push _⟩,fun c hcm=>?_,by simp [intItems],CmpOf.ints_lt (numAt #[(a,ta),(b,tb)]) (fun _ _=>intItems_at),fun v h' tk hP hk=>?_⟩
 ·show c<(s.heap.push _).objs.size
  rw [Heap.size_push]
  simp at hcm
  rcases hcm with z | z
  ·rw [z];exact Nat.lt_succ_self _
  ·rw [z];exact Nat.lt_succ_of_lt hlt
 ·have kp:∀ c o,s.heap.get? c=some o->h'.get? c=some o:=fun c o e=>hk c o (fun hm=>by simp at hm;exact absurd (Heap.lt_size e) (by rw [hm];exact Nat.lt_irrefl _)) (Heap.get?_push_of_some _ e)
  refine⟨_,H,I.kept kp,?_,q⟩
  by_cases hba:b<a
  ·simp [argBest,numAt,intItems,hba] at hP
   rw [if_pos hba,<- hP];exact⟨_,rfl⟩
  ·simp [argBest,numAt,intItems,hba] at hP
   rw [if_neg hba,<- hP];exact⟨_,rfl⟩
theorem Zfu (K:W.Frag) (hc:X.calm=true) (hK:X.K=K:=by rfl):XD X (.builtin "max") (ZiB K):=by
 subst hK
 intro pins s σ H xs us Q I r h
 obtain⟨t,a,b,rfl,ht,q⟩:=h
 obtain⟨u,rfl,ru⟩:=WI r
 cases (show u=Value.ref t from ru)
 obtain⟨its,rv,tp,hz⟩:=I.tuple ht
 obtain⟨u1,u2,rfl,⟨ta,rfl⟩,⟨tb,rfl⟩⟩:=Zb2 rv
 have hT:s.heap.IsTuple t (intItems #[(a,ta),(b,tb)]):=by
  obtain⟨o,ho,hcl,n,hd⟩:=tp
  exact⟨o,ho,hcl,n,by rw [hd];simp [intItems]⟩
 obtain⟨ot,hot,_⟩:=id hT
 have hlt:=Heap.lt_size hot
 refine call_max_walk (wpAny_pyIter_tuple hT ?_)
 refine⟨_,[_,t],[_],_,_,_,_,rfl,Walks.tuple (A:=X.A.in1) (I.ok.hd hc) _ t (Nat.ne_of_lt hlt) (intItems #[(a,ta),(b,tb)]),⟨⟨_,Heap.get?_push_size _ rfl,rfl,rfl⟩,hT.push _⟩,fun c hcm=>?_,by simp [intItems],CmpOf.ints_gt (numAt #[(a,ta),(b,tb)]) (fun _ _=>intItems_at),fun v h' tk hP hk=>?_⟩
 ·show c<(s.heap.push _).objs.size
  rw [Heap.size_push]
  simp at hcm
  rcases hcm with z | z
  ·rw [z];exact Nat.lt_succ_self _
  ·rw [z];exact Nat.lt_succ_of_lt hlt
 ·have kp:∀ c o,s.heap.get? c=some o->h'.get? c=some o:=fun c o e=>hk c o (fun hm=>by simp at hm;exact absurd (Heap.lt_size e) (by rw [hm];exact Nat.lt_irrefl _)) (Heap.get?_push_of_some _ e)
  refine⟨_,H,I.kept kp,?_,q⟩
  by_cases hba:b>a
  ·simp [argBest,numAt,intItems,hba] at hP
   rw [if_pos hba,<- hP];exact⟨_,rfl⟩
  ·simp [argBest,numAt,intItems,hba] at hP
   rw [if_neg hba,<- hP];exact⟨_,rfl⟩
theorem ZfC {K:W.Frag}{xs:List V}{H:Hp}{Q:VK}:ZiA K xs H Q=∃ t,∃ a b:Int,xs=[.ref t]/\SqT K H t [.int a,.int b]/\Q (.int (if b<a then b else a)) H:=rfl
theorem ZfD {K:W.Frag}{xs:List V}{H:Hp}{Q:VK}:ZiB K xs H Q=∃ t,∃ a b:Int,xs=[.ref t]/\SqT K H t [.int a,.int b]/\Q (.int (if b>a then b else a)) H:=rfl
end
end L2
namespace L2
open PySem PySem.Spec PyProof.Rows
noncomputable def DefAt (K:W.Frag)(x:Str)(st:Stmt):Prop:=∃ (f:Addr) (oc:Value) (od an:Option Addr) (sl:Array (Option Value)) (kV dc pm cd ct:Value),W.nsIn K mainGlobals x=some (some (.ref f))/\K.lookup f=some ⟨oc,od,.func (W.fnOf x x (Yt st) (ZR st) (Zg st) .none kV dc pm an cd ct),sl⟩/\W.codeIn K cd x=true/\W.keepIn K (.ref f)=true
theorem DefAt.src {K:W.Frag}{mg:Str->Option Value}{h:Heap}{x:Str}{st:Stmt}{ps:List Str}(d:DefAt K x st)(X:K.In h)(G:h.Ns mainGlobals mg)
  (b:∀ (kV doc pm:Value) (an:Option Addr) (cdv ct:Value) (us:List Value),us.length=ps.length->bindArgs (W.fnOf x x (Yt st) (ZR st) (Zg st) .none kV doc pm an cdv ct) ⟨us,[]⟩=pure (ps.zip us)):Src K mg x st ps:=by
 obtain⟨f,oc,od,an,sl,kV,dc,pm,cd,ct,a,l,c,k⟩:=d
 exact⟨_,_,W.mg_of X G a,Wz (st:=st) l c k,(Wz (st:=st) l c k).binds b⟩
end L2
set_option maxHeartbeats 4000000
local macro_rules|`(tactic|walk_at "rd")=>do
 let l<-("L2.ZiG L2.ZfK L2.ZfF L2.ZfR L2.ZjE L2.Zcx L2.ZhM L2.ZjM L2.Zhx L2.Zeg L2.ZhX L2.Zfz L2.ZfQ L2.ZhE L2.ZfE L2.ZjL L2.ZhN L2.ZfP L2.Zcw L2.ZjR L2.ZfH L2.Zcv L2.ZfC L2.ZfD L2.ZhT L2.ZfA L2.ZhS L2.ZfS L2.ZfB L2.Zec L2.ZhU L2.ZhL L2.Zee L2.ZfT L2.ZhV L2.ZhY L2.Zhv L2.ZfU L2.Zh4 L2.ZjT L2.Zh3 L2.Zh2 L2.ZhO L2.ZjP L2.ZjO L2.Zjx L2.ZhK L2.ZjV L2.ZfN L2.Zju L2.Zlo L2.ZjA L2.ZhC L2.ZhW L2.ZkH L2.ZjN L2.ZkF L2.ZkA L2.Zhw L2.Zlp L2.ZjW L2.ZkE L2.ZjG L2.Zh6 L2.ZjF L2.ZhJ L2.ZjH L2.ZhZ L2.ZjI L2.Zjv L2.ZkI L2.Zh1 L2.Zjy L2.ZjC L2.ZkD L2.ZkC L2.ZjD L2.ZjB L2.ZhG L2.ZhH L2.ZhF L2.ZjK L2.ZjJ L2.ZkG L2.ZkB L2.ZhI L2.Zed L2.Zjw L2.ZjS L2.ZkJ L2.Zeh L2.Zef L2.Zhz L2.ZfL L2.ZfM L2.ZfJ L2.ZfI L2.ZhP L2.ZfO L2.ZhR L2.ZhQ L2.Zhy L2.ZjU L2.Zh5 L2.ZfG L2.Zjt L2.Zfy L2.ZjQ L2.Zh0 L2.ZhA L2.ZhD L2.ZhB L2.Zjz L2.Zea L2.Zeb L2.Ziv L2.tyV List.length_cons List.length_nil List.map_cons List.map_nil List.replicate Nat.reduceAdd Nat.reduceSub Nat.zero_add List.nil_append List.cons_append List.append_nil List.getElem?_cons_zero List.getElem?_cons_succ List.getElem?_nil List.set_cons_zero List.set_cons_succ Option.join_some Option.join_none Option.some.injEq List.cons.injEq L2.V.int.injEq L2.V.bl.injEq L2.V.ref.injEq L2.V.str.injEq L2.V.ty.injEq reduceCtorEq and_true true_and and_false false_and or_false false_or exists_false exists_eq_left exists_eq_left' exists_eq_right exists_eq_right' exists_eq exists_eq' Int.natCast_inj eq_self not_true_eq_false not_false_eq_true exists_and_left exists_and_right and_assoc decide_eq_true_eq Bool.not_true Bool.not_false Bool.false_eq_true if_true if_false ite_true ite_false Bool.not_eq_true' Bool.not_eq_true decide_eq_false_iff_not".splitOn " ").toArray.mapM fun s=>`(Lean.Parser.Tactic.simpLemma|$(Lean.mkIdent s.toName):ident)
 `(tactic|try simp only [$l,*])
namespace OH
open PySem L2
noncomputable def top (i:Nat):Stmt:=PySem.Challenge.pw_orderhall_k35_whole_two_rows_or_walk.main.body.getD i (.Pass ⟨0,0,0,0⟩)
noncomputable abbrev YL:Stmt:=top 1
noncomputable abbrev Wq:Stmt:=top 2
noncomputable abbrev YB:Stmt:=top 13
noncomputable abbrev Yl:Stmt:=top 14
noncomputable abbrev Xh:Stmt:=top 17
noncomputable abbrev Yb:Stmt:=top 18
noncomputable abbrev YD:Stmt:=top 19
noncomputable abbrev Yj:Stmt:=top 20
noncomputable abbrev ZZ:Stmt:=top 21
noncomputable abbrev Wp:Stmt:=top 22
noncomputable abbrev ZW:Stmt:=top 23
noncomputable abbrev ZG:Stmt:=top 24
noncomputable abbrev YC:Stmt:=top 26
noncomputable abbrev Xl:Stmt:=top 27
noncomputable abbrev Xm:Stmt:=top 28
noncomputable abbrev Ws:Stmt:=top 29
noncomputable abbrev XJ:Stmt:=top 30
noncomputable abbrev XI:Stmt:=top 31
noncomputable abbrev Wt:Stmt:=top 32
noncomputable abbrev YM:Stmt:=top 33
noncomputable abbrev ZM:Stmt:=top 34
noncomputable abbrev Yq:Stmt:=top 35
noncomputable abbrev XO:Stmt:=top 36
noncomputable abbrev YU:Stmt:=top 37
noncomputable abbrev Wr:Stmt:=top 38
noncomputable abbrev Ym:Stmt:=top 39
noncomputable abbrev YN:Stmt:=top 40
noncomputable abbrev XM:Stmt:=top 41
noncomputable abbrev XH:Stmt:=top 42
noncomputable abbrev Xn:Stmt:=top 43
noncomputable abbrev Vn:Stmt:=top 44
noncomputable def Zkr:Stmt->List Stmt
 | .ClassDef _ _ _ b .. => b
 | _=>[]
noncomputable abbrev Zr:Stmt:=(Zkr (top 9)).getD 0 (.Pass ⟨0,0,0,0⟩)
section
variable {P:Program}{w:World}{K:W.Frag}{mg:Str->Option Value}{base:Heap}
theorem ZbP {K:W.Frag}{g:TG}{t:TS}{D:WH}{σ:St}{H:Hp}{a:Addr}{xs:List V}(Pv:Nat->St->Hp->Prop)(h0:Pv 0 σ H)(hl:∀ i σ H,i<=xs.length->Pv i σ H->SqL K H a xs)
  (hs:∀ (i:Nat) x σ H,xs[i]? = some x->Pv i σ H->∀ (N R:St->Hp->Prop) (T:VK),(∀ σ' H',Pv (i+1) σ' H'->N σ' H')->g x σ H fun σ2 H2=>t { nx:=N,rt:=T,ct:=N,bk:=R } σ2 H2) (hd:∀ σ H,Pv xs.length σ H->D.nx σ H):FG (Itl K a) g t D σ H :=
 Wk Pv h0 hl (fun i x σ H ex h=>hs i x σ H ex h _ _ _ fun _ _ z=>z) hd
theorem Zhk {K:W.Frag}{a:Addr}{xs:List V}{g:TG}{t:TS}{D:WH}{σ:St}{H₀ H:Hp}(h:SqL K H₀ a xs\/SqT K H₀ a xs)(Pv:Nat->St->Hp->Prop)(h0:Pv 0 σ H)(hl:∀ i σ' H',Pv i σ' H'->Same H₀ H')
  (hs:∀ (i:Nat) x σ H,xs[i]? = some x->Pv i σ H->∀ (N R:St->Hp->Prop) (T:VK),(∀ σ' H',Pv (i+1) σ' H'->N σ' H')->g x σ H fun σ2 H2=>t { nx:=N,rt:=T,ct:=N,bk:=R } σ2 H2) (hd:∀ σ H,Pv xs.length σ H->D.nx σ H) :
  ((∃ xs,SqL K H a xs)/\FG (Itl K a) g t D σ H)\/((∃ xs,SqT K H a xs)/\FG (Itt K a) g t D σ H) :=
 ZbO h Pv h0 hl (fun i x σ H ex h=>hs i x σ H ex h _ _ _ fun _ _ z=>z) hd
noncomputable def ZV:Sp:=fun vs H Q _=>∃ b:Nat,vs=[.int b]/\b<2^1000/\∀ l H',Same H H'->H l=none->H' l=some (.lst ((OM.ZA b).map fun k:Nat=>V.int k))->Q (.ref l) H'
theorem Zau (B:Blt mg) (S:Src K mg "places_of" YL ["bits"]):Fn P w K mg base 1 "places_of" ["bits"] ZV:=by
 have sc:Zm ["bits"] ["bits"] (Zg YL):=fsc
 refine S.fn sc (fun vs H Q E h=>by obtain⟨b,rfl,_⟩:=h;rfl) fun f cdv A outer s H vs Q E hr h=>?_
 have hu:=Wm hr
 obtain⟨b,rfl,hb,k⟩:=h
 refine⟨_,(@Zf _ _ _ (Zo (WN (YZ (M:=["place", "bits"]) (nt:=1) (cap:=[0]) (Zg YL) ["bits"] rfl rfl rfl (by decide +kernel) (by decide +kernel) (by decide +kernel) (fun j hj=>match j,hj with | 0,_=>⟨_,_,rfl,rfl,rfl,rfl⟩) rfl) rfl (ZX rfl B.range (Za (ZiR K PySem.F.plainAttrs_int PySem.F.slot_int_bit_length PySem.F.type_int_bit_length Zdq (pv 0)) Zc)) (fun cl C fp s' H'=>(pg_name (i:=0) (show (["place", "bits"]:List Str).Nodup by decide +kernel) rfl (Or.inl rfl))) (fun cl C fp s' H'=>(Zc2 (Zs (Yv K hu) (Zl Xj (Zl UB (pv 1) (pv 0)) Ze) Ze (Zt _)))) (fun cl C fp s' H'=>(pv 0))))),?_⟩
 walk_at "rd"
 rw [OM.Zfw]
 have hl:=OM.Zgf hb
 refine⟨by omega,by omega,fun l hl0=>?_⟩
 refine WF (H₀:=H) XS (fun i acc _=>acc=((List.range i).filter b.testBit).map fun k:Nat=>V.int k) ?_ (fun _ _ _ _ _ h=>h) hl0 rfl ?_ ?_
 ·rw [Int.toNat_natCast];exact Nat.le_trans hl (by rw [sizeLine_eq];decide)
 ·intro i m x acc pre H1 r hp ct
  subst r
  match pre,hp with
  | [p0],_ =>
  walk_at "rd"
  rw [Int.zero_add,OM.UI]
  refine⟨Int.natCast_nonneg i,?_⟩
  have hacc:=ct.hp
  by_cases hbit:b.testBit i=true
  ·rw [if_pos hbit,if_pos rfl]
   refine ct.yes (Same.refl _) ?_ (pre:=[_]) rfl rfl
   rw [hacc,List.range_succ,List.filter_append,List.map_append]
   simp [hbit]
  ·rw [if_neg hbit,if_neg (by decide)]
   refine ct.no (Same.refl _) ?_ (pre:=[_]) rfl rfl
   rw [hacc,List.range_succ,List.filter_append,List.map_append]
   simp [hbit]
 ·intro acc H1 sm hl1 e
  refine k l H1 sm hl0 ?_
  rw [hl1,e,Int.toNat_natCast]
  rfl
noncomputable def Zf4:Sp:=fun vs H Q _=>∃ i n:Int,vs=[.int i,.int n]/\i<=n/\Q .non H
theorem Up (S:Src K mg "refuse_more" YB ["many", "most"]):Fn P w K mg base 1 "refuse_more" ["many", "most"] Zf4:=by
 have sc:Zm ["many", "most"] ["many", "most"] (Zg YB):=fsc
 refine S.fn sc (fun vs H Q E h=>by obtain⟨i,n,rfl,_⟩:=h;rfl) fun f cdv A outer s H vs Q E hr h=>?_
 obtain⟨i,n,rfl,h0,k⟩:=h
 refine⟨_,(@Zf _ _ _ (Yc (Zs Za6 (pv 0) (pv 1) (Zt _))
   (@Zf _ _ _ ZbH)
   Zq)),?_⟩
 walk_at "rd"
 rw [if_neg (by omega)]
 exact k
noncomputable def XX (K:W.Frag):Sp:=fun vs H Q _=>∃ d,∃ ds:List Nat,vs=[.ref d]/\SqL K H d (nv ds)/\ds.length<=200/\(∀ i,i<ds.length->ds.getD i 0<2^ds.length)/\∀ l H',Same H H'->H l=none->H' l=some (.lst (nv (OM.tUp ds ds.length)))->Q (.ref l) H'
theorem Um (B:Blt mg) (S:Src K mg "turned_over" Yl ["downs"]) (ye:Fn P w K mg base 1 "places_of" ["bits"] ZV):Fn P w K mg base 2 "turned_over" ["downs"] (XX K):=by
 have sc:Zm ["downs", "ups", "high", "down", "low"] ["downs"] (Zg Yl):=fsc
 refine S.fn sc (fun vs H Q E h=>by obtain⟨d,ds,rfl,_⟩:=h;rfl) fun f cdv A outer s H vs Q E hr h=>?_
 have hu:=Wm hr
 obtain⟨d,ds,rfl,hD,hn,hb,k⟩:=h
 refine⟨_,(@Zb _ _ _ _ _ (Xz (i:=1) sc.nd rfl (Or.inl rfl) (YZ (M:=["down"]) (nt:=1) (cap:=[]) (Zg Yl) ["downs", "ups", "high", "down", "low"] rfl rfl rfl (by decide +kernel) (by decide +kernel) (by decide +kernel) (fun j hj=>absurd hj (Nat.not_lt_zero j)) rfl) rfl (piL K (pv 0)) (fun cl C fp s' H'=>(pg_name (i:=0) (show (["down"]:List Str).Nodup by decide +kernel) rfl (Or.inl rfl))) (fun cl C fp s' H'=>Yx) (fun cl C fp s' H'=>Ze))
   (@Zb _ _ _ _ _ (Yd PassesOwn.never rfl (Zdc K rfl B.enumerate (Za (pv 0) Zc)) (pgT K (n:=2) rfl (ZD (pg_name (i:=2) sc.nd rfl (Or.inl rfl)) (ZD (pg_name (i:=3) sc.nd rfl (Or.inl rfl)) XB)))
   (@Zf _ _ _ (Yd PassesOwn.never rfl (piL K (Zi ye hr.m rfl (Za (pv 3) Zc))) (pg_name (i:=4) sc.nd rfl (Or.inl rfl))
   (@Zf _ _ _ (Jd (pv 1) (pv 4) (Zj2 K) (Zl Xv Ze (pv 2)) Zi8 set_list)))))
   (@Zf _ _ _ (Zo (pv 1))))),?_⟩
 walk_at "rd"
 refine⟨⟨_,hD⟩,fun l hl=>?_⟩
 refine WF (H₀:=H) (VU hD) (fun i acc _=>acc=nv (List.replicate i 0)) (by rw [Zu];exact Nat.le_of_lt (Zz (by omega))) (fun _ _ _ _ _ h=>h) hl rfl ?_ ?_
 ·intro i m x acc pre H2 r hpre ct
  match pre,hpre with
  | [p0],_ =>
  walk_at "rd"
  refine ct.yes (Same.refl _) ?_ (pre:=[_]) rfl rfl
  have hacc:=ct.hp
  rw [hacc,show (0:Int)=((0:Nat):Int) from rfl,VM,<- List.replicate_succ']
 ·intro acc H1 s1 hl1 e
  rw [Zu] at e
  subst e
  walk_at "rd"
  refine⟨⟨_,s1.seq hD⟩,?_⟩
  refine Zbl (xs:=nv ds) (fun i σ' H'=>Same H H'/\H' l=some (.lst (nv (OM.tUp ds i)))/\∃ v2 v3 v4,σ'=[some (.ref d),some (.ref l),v2,v3,v4]) ⟨s1,hl1,none,none,none,rfl⟩ (fun i σ' H' _ ⟨s,_⟩=>s.seq hD) ?_ ?_
  ·rintro i x σ' H2 T ex ⟨s2,hl2,v2,v3,v4,rfl⟩ hT
   obtain⟨t,et,rfl⟩:=ZQ ex
   have hi:i<ds.length:=(List.getElem?_eq_some_iff.mp et).1
   have htd:ds.getD i 0=t:=by rw [OM.Yi hi];exact (List.getElem?_eq_some_iff.mp et).2
   have htb:t<2^ds.length:=by rw [<- htd];exact hb i hi
   have sT:Same H2 (upd H2 T (.tup [.int (i:Nat),.int (t:Nat)])):=Same.upd hT
   have eT:upd H2 T (.tup [.int (i:Nat),.int (t:Nat)]) T=some (.tup [.int (i:Nat),.int (t:Nat)]):=Zd
   generalize upd H2 T (.tup [.int (i:Nat),.int (t:Nat)])=H3 at sT eT
   walk_at "rd"
   refine⟨_,SqT.of eT,rfl,_,_,rfl,_,_,rfl,rfl,t,rfl,Nat.lt_of_lt_of_le htb (Nat.pow_le_pow_right (by decide) (by omega)),fun pl H4 s4 hpl0 hpl=>?_⟩
   walk_at "rd"
   refine⟨⟨_,SqL.of hpl⟩,?_⟩
   have hlpl:l≠pl:=fun z=>by subst z;rw [sT _ _ hl2] at hpl0;cases hpl0
   refine Wk (xs:=nv (OM.ZA t)) (fun j σ'' H5=>Same H H5/\H5 pl=some (.lst (nv (OM.ZA t)))/\H5 l=some (.lst (nv (((OM.ZA t).take j).foldl (OM.Zf1 i) (OM.tUp ds i))))/\∃ v4,σ''=[some (.ref d),some (.ref l),some (.int (i:Nat)),some (.int (t:Nat)),v4])
    ⟨(s2.trans sT).trans s4,hpl,s4 _ _ (sT _ _ hl2),v4,rfl⟩ (fun j σ' H' _ ⟨_,h,_⟩=>SqL.of h) ?_ ?_
   ·rintro j y σ'' H5 ey ⟨s5,hp5,hl5,v4,rfl⟩
    obtain⟨q,eq,rfl⟩:=ZQ ey
    have hbq:=OM.ZH.mp (List.mem_of_getElem? eq)
    have hq:q<ds.length:=by
     apply Nat.lt_of_not_le
     intro hle
     rw [Nat.testBit_lt_two_pow (Nat.lt_of_lt_of_le htb (Nat.pow_le_pow_right (by decide) hle))] at hbq
     cases hbq
    have hlen:(((OM.ZA t).take j).foldl (OM.Zf1 i) (OM.tUp ds i)).length=ds.length:=by rw [OM.JD,OM.UR]
    walk_at "rd"
    refine⟨_,SqL.of hl5,_,Xw (by rw [hlen];exact hq),⟨by omega,by omega,by decide⟩,_,rfl,_,hl5,_,Zdn (by rw [hlen];exact hq),s5.write hl,?_⟩
    rw [ZcR,OM.Vj,Zac]
    refine⟨by rw [Zh (Ne.symm hlpl)];exact hp5,?_⟩
    rw [Zd,List.take_add_one,eq,Option.toList_some,List.foldl_append]
    rfl
   ·rintro σ'' H5 ⟨s5,hp5,hl5,v4,rfl⟩
    rw [Zu,List.take_length] at hl5
    walk_at "rd"
    refine⟨s5,?_⟩
    rw [hl5,<- htd]
    rfl
  ·rintro σ' H2 ⟨s2,hl2,v2,v3,v4,rfl⟩
   rw [Zu] at hl2
   walk_at "rd"
   exact k l H2 s2 hl hl2
noncomputable def OkR (n:Nat)(ds:List Nat):Prop:=ds.length=n/\∀ i,i<n->ds.getD i 0<2^n/\(ds.getD i 0).testBit i=true
noncomputable def Xe (ds:List Nat)(x y:Nat):Bool:=!(ds.getD x 0).testBit y&&!(ds.getD y 0).testBit x
noncomputable def ZaY (ds:List Nat)(x:Nat):Nat:=OM.Zd6 ((List.range ds.length).filter fun y=>Xe ds x y)
noncomputable def sidesN (ds:List Nat):List Nat:=(List.range ds.length).map (ZaY ds)
theorem XG {ds:List Nat}{x y:Nat}:(ZaY ds x).testBit y=(decide (y<ds.length)&&Xe ds x y):=by
 unfold ZaY
 rw [OM.Vf,Bool.eq_iff_iff,decide_eq_true_iff,List.mem_filter,List.mem_range,Bool.and_eq_true,decide_eq_true_iff]
theorem ZgF {ds:List Nat}{x:Nat}:ZaY ds x<2^ds.length:=by
 apply Nat.lt_pow_two_of_testBit
 intro i hi
 rw [XG,decide_eq_false (by omega),Bool.false_and]
theorem Wo {ds:List Nat}{x:Nat}(h:x<ds.length):(sidesN ds).getD x 0=ZaY ds x:=by
 unfold sidesN
 rw [List.getD,List.getElem?_map,List.getElem?_range h]
 rfl
theorem Xg {ds:List Nat}:(sidesN ds).length=ds.length:=by
 unfold sidesN
 rw [List.length_map,List.length_range]
theorem Zej {n:Nat}:(1:Int)*(2:Int)^(n:Int).toNat-(1:Int)=((1<<<n-1:Nat):Int):=by
 have:0<1<<<n:=by rw [Nat.one_shiftLeft];exact Nat.two_pow_pos n
 rw [ZcR]
 omega
noncomputable def UU (K:W.Frag):Sp:=fun vs H Q _=>∃ (d:Addr) (ds:List Nat) (n:Nat),vs=[.ref d]/\SqL K H d (nv ds)/\OkR n ds/\n<=32/\∀ l H',Same H H'->H l=none->H' l=some (.lst (nv (sidesN ds)))->Q (.ref l) H'
theorem Zbg {tM:Tok} (B:Blt mg) (yT:mg "zip" = none) (S:Src K mg "sides_of" Xh ["downs"]) (yC:mg "MOST_PAIRED" = some (.int 32 tM)) (yja:Fn P w K mg base 1 "refuse_more" ["many", "most"] Zf4) (yka:Fn P w K mg base 2 "turned_over" ["downs"] (XX K)):Fn P w K mg base 3 "sides_of" ["downs"] (UU K):=by
 have sc:Zm ["downs", "everything"] ["downs"] (Zg Xh):=fsc
 refine S.fn sc (fun vs H Q E h=>by obtain⟨d,ds,n,rfl,_⟩:=h;rfl) fun f cdv A outer s H vs Q E hr h=>?_
 have hu:=Wm hr
 obtain⟨d,ds,n,rfl,hD,hO,hn,k⟩:=h
 obtain⟨rfl,hok⟩:=hO
 refine⟨_,(@Zb _ _ _ _ _ (Yo (Zi yja hr.m rfl (Za (Zk (ZI K) rfl B.len PySem.boot_len (Za (pv 0) Zc)) (Za (Xo (v:=.int 32) rfl yC ⟨_,rfl⟩) Zc))))
   (@Zb _ _ _ _ _ (Zn (i:=1) sc.nd rfl (Or.inr rfl) (Zl ZbI (Zl Xv Ze (Zk (ZI K) rfl B.len PySem.boot_len (Za (pv 0) Zc))) Ze))
   (@Zf _ _ _ (Zo (WN (YZ (M:=["down", "up", "everything"]) (nt:=2) (cap:=[1]) (Zg Xh) ["downs", "everything"] rfl rfl rfl (by decide +kernel) (by decide +kernel) (by decide +kernel) (fun j hj=>match j,hj with | 0,_=>⟨_,_,rfl,rfl,rfl,rfl⟩) rfl) rfl (ZiN K rfl yT (Za (pv 0) (Za (Zi yka hr.m rfl (Za (pv 0) Zc)) Zc))) (fun cl C fp s' H'=>(pgT K (n:=2) rfl (ZD (pg_name (i:=0) (show (["down", "up", "everything"]:List Str).Nodup by decide +kernel) rfl (Or.inl rfl)) (ZD (pg_name (i:=1) (show (["down", "up", "everything"]:List Str).Nodup by decide +kernel) rfl (Or.inl rfl)) XB)))) (fun cl C fp s' H'=>Yx) (fun cl C fp s' H'=>(Zl Xj (pv 2) (VH Vd (Zl Zdk (pv 0) (pv 1)))))))))),?_⟩
 walk_at "rd"
 refine⟨_,.inl hD,?_⟩
 rw [Zu]
 refine⟨_,_,rfl,by omega,?_⟩
 refine⟨_,.inl hD,?_⟩
 rw [Zu]
 refine⟨⟨by omega,by omega,by decide⟩,d,ds,rfl,hD,by omega,fun i hi=>(hok i hi).1,fun u H1 s1 hu0 hu1=>?_⟩
 refine⟨_,rfl,⟨_,s1.seq hD⟩,⟨_,SqL.of hu1⟩,fun l hl=>?_⟩
 have hul:(OM.tUp ds ds.length).length=ds.length:=OM.UR _
 refine WF (H₀:=H1) (Zgk (s1.seq hD) (SqL.of hu1) (by rw [Zu,Zu,hul])) (fun j acc _=>acc=nv ((List.range j).map (ZaY ds))) (by rw [Zu];exact Nat.le_of_lt (Zz (by omega))) (fun _ _ _ _ _ h=>h) hl rfl ?_ ?_
 ·rintro j mm v acc pre H2 ⟨T,x,y,rfl,hx,hy,hT⟩ hpre ct
  obtain⟨a,ea,rfl⟩:=ZQ hx
  obtain⟨b,eb,rfl⟩:=ZQ hy
  have hj:j<ds.length:=(List.getElem?_eq_some_iff.mp ea).1
  have hacc:=ct.hp
  match pre,hpre with
  | [p0,p1],_ =>
  walk_at "rd"
  refine⟨_,SqT.of hT,rfl,_,_,rfl,_,_,rfl,rfl,?_⟩
  refine⟨_,rfl,_,rfl,?_⟩
  rw [OM.Vj]
  have e0:=Yu (1<<<ds.length-1) (a|||b)
  rw [<- Zej] at e0
  rw [e0]
  refine ct.yes (Same.refl _) ?_ (pre:=[_,_]) rfl rfl
  rw [hacc,List.range_succ,List.map_append,VM]
  have e1:(1<<<ds.length-1)-((1<<<ds.length-1)&&&(a|||b))=ZaY ds j:=by
   apply Nat.eq_of_testBit_eq
   intro x
   rw [OM.YH,XG,Nat.one_shiftLeft,Nat.testBit_two_pow_sub_one,Nat.testBit_or]
   by_cases hx:x<ds.length
   ·have e2:b.testBit x=(ds.getD x 0).testBit j:=by
     have:=OM.ZcJ (ds:=ds) (x:=x) hj ds.length
     rw [List.getD,eb] at this
     rw [Bool.eq_iff_iff]
     exact this.trans ⟨fun z=>z.2,fun z=>⟨hx,z⟩⟩
    have e3:ds.getD j 0=a:=by rw [List.getD,ea];rfl
    unfold Xe
    rw [e2,e3,decide_eq_true hx,Bool.not_or]
   ·rw [decide_eq_false hx,Bool.false_and,Bool.false_and]
  rw [e1]
  rfl
 ·intro acc H2 s2 hl2 hacc
  subst hacc
  rw [Zu] at hl2
  exact k l H2 (s1.trans s2) (s1.free hl) hl2
theorem VO {n x:Nat}{ds:List Nat}(h:OkR n ds)(hx:x<n):Xe ds x x=false:=by
 unfold Xe
 rw [(h.2 x hx).2]
 rfl
theorem Zad {ds:List Nat}{x y:Nat}:Xe ds x y=Xe ds y x:=by
 unfold Xe
 rw [Bool.and_comm]
noncomputable def Jt (a b y:Nat):Nat:=(a-(a&&&b))-((a-(a&&&b))&&&(1<<<y))
theorem ZgW {a b y d:Nat}:(Jt a b y).testBit d=(a.testBit d&&!b.testBit d&&!decide (y=d)):=by
 unfold Jt
 rw [OM.YH,OM.YH,Nat.one_shiftLeft,Nat.testBit_two_pow]
theorem Zgc {a b y:Nat}:Jt a b y<=a:=by
 unfold Jt
 exact Nat.le_trans (Nat.sub_le _ _) (Nat.sub_le _ _)
noncomputable def EdS (ss:List Nat)(a b:Nat):Prop:=(ss.getD a 0).testBit b=true
structure Sds (ss:List Nat):Prop where
 len:ss.length<=32
 lt:∀ i,i<ss.length->ss.getD i 0<2^ss.length
 gr:OG.Gr (EdS ss)
theorem Jp {ss:List Nat}{a b:Nat}(h:EdS ss a b):a<ss.length:=by
 refine Classical.byContradiction fun z=>?_
 unfold EdS at h
 rw [List.getD,List.getElem?_eq_none (by omega)] at h
 simp at h
theorem Sds.lt2 {ss:List Nat}(S:Sds ss){a b:Nat}(h:EdS ss a b):a<ss.length/\b<ss.length:=⟨Jp h,Jp (S.gr.sym h)⟩
noncomputable def Zx (ss:List Nat)(x y:Nat):List (Nat×Nat):=(OM.ZA (Jt (ss.getD x 0) (ss.getD y 0) y)).map (fun t=>(x,t))++(OM.ZA (Jt (ss.getD y 0) (ss.getD x 0) x)).map fun t=>(t,y)
theorem VR {ss:List Nat}{x y c d:Nat}:(c,d)∈Zx ss x y↔(c=x/\EdS ss x d/\¬ EdS ss y d/\d≠y)\/(d=y/\EdS ss y c/\¬ EdS ss x c/\c≠x):=by
 unfold Zx EdS
 rw [List.mem_append,List.mem_map,List.mem_map]
 have bit:∀ a b y d,d∈OM.ZA (Jt a b y)↔(a.testBit d=true/\¬ b.testBit d=true/\d≠y):=fun a b y d=>by
  rw [OM.ZH,ZgW,Bool.and_eq_true,Bool.and_eq_true]
  constructor
  ·rintro⟨⟨h1,h2⟩,h3⟩
   exact⟨h1,by simpa using h2,fun z=>by simp [z] at h3⟩
  ·rintro⟨h1,h2,h3⟩
   exact⟨⟨h1,by simpa using h2⟩,by simpa using fun z=>h3 z.symm⟩
 constructor
 ·rintro (⟨t,h1,h2⟩ | ⟨t,h1,h2⟩)
  ·injection h2 with e1 e2
   subst e1 e2
   exact .inl ⟨rfl,(bit _ _ _ _).mp h1⟩
  ·injection h2 with e1 e2
   subst e1 e2
   exact .inr ⟨rfl,(bit _ _ _ _).mp h1⟩
 ·rintro (⟨rfl,h1⟩ | ⟨rfl,h1⟩)
  ·exact .inl ⟨d,(bit _ _ _ _).mpr h1,rfl⟩
  ·exact .inr ⟨c,(bit _ _ _ _).mpr h1,rfl⟩
theorem WB {ss:List Nat}(S:Sds ss){p q:Nat×Nat}:q∈Zx ss p.1 p.2↔OG.Nx (EdS ss) p q:=by
 obtain⟨x,y⟩:=p
 obtain⟨c,d⟩:=q
 rw [VR]
 constructor
 ·rintro (⟨rfl,h1,h2,h3⟩ | ⟨rfl,h1,h2,h3⟩)
  ·exact⟨h1,.inl ⟨rfl,Ne.symm h3,h2⟩⟩
  ·exact⟨S.gr.sym h1,.inr ⟨rfl,Ne.symm h3,h2⟩⟩
 ·rintro⟨h1,⟨h2,h3,h4⟩ | ⟨h2,h3,h4⟩⟩
  ·dsimp only at *
   subst h2
   exact .inl ⟨rfl,h1,h4,Ne.symm h3⟩
  ·dsimp only at *
   subst h2
   exact .inr ⟨rfl,S.gr.sym h1,h4,Ne.symm h3⟩
theorem ZgP {H H':Hp}{l:Addr}{rs:List Addr}{ps:List (Int×Int)}(h:PrT H rs ps)(hn:∀ r∈rs,r≠l)(k:∀ b o,b≠l->H b=some o->H' b=some o):PrT H' rs ps:=by
 unfold PrT at h ⊢
 induction h with
 | nil=>exact .nil
 | cons h1 _ ih=>exact .cons (k _ _ (hn _ List.mem_cons_self) h1) (ih fun r hr=>hn r (List.mem_cons_of_mem _ hr))
theorem ZgQ {H:Hp}{rs rs':List Addr}{ps ps':List (Int×Int)}(h:PrT H rs ps)(h':PrT H rs' ps'):PrT H (rs++rs') (ps++ps'):=by
 unfold PrT at h
 induction h with
 | nil=>exact h'
 | cons a _ ih=>exact Paired.cons a ih
theorem JV {m n:Nat}(h:m<2^n):(OM.ZA m).length<=n:=by
 rw [OM.JU h]
 exact Nat.le_trans (List.length_filter_le _ _) (by rw [List.length_range];exact Nat.le_refl _)
noncomputable def PaP (ps:List (Nat×Nat))(l:Addr)(i:Nat)(acc:List V)(H':Hp):Prop:=∃ ks:List Addr,acc=rv ks/\PrT H' ks ((ps.take i).map np)/\∀ r∈ks,r≠l
theorem PaP.off {ps:List (Nat×Nat)}{l:Addr}:∀ i acc H3 H4,(∀ b o,b≠l->H3 b=some o->H4 b=some o)->PaP ps l i acc H3->PaP ps l i acc H4:=fun _ _ _ _ h ⟨ks,e,hP,hn⟩=>⟨ks,e,ZgP hP hn h,hn⟩
theorem PaP.more {ps:List (Nat×Nat)}{l q:Addr}{i:Nat}{acc:List V}{H3 H4:Hp}{p:Nat×Nat}{o:HO}(h:PaP ps l i acc H3)(hl:H3 l=some o)(s:Same H3 H4)(ep:ps[i]? = some p)(hq:H3 q=none)(e:H4 q=some (.tup [.int (p.1:Nat),.int (p.2:Nat)])):PaP ps l (i+1) (acc++[.ref q]) H4:=by
 obtain⟨ks,rfl,hP,hn⟩:=h
 refine⟨ks++[q],ZbD ..,?_,fun r hr=>?_⟩
 ·rw [List.take_add_one,ep,Option.toList_some,List.map_append]
  exact (hP.same s).snoc e
 ·rcases List.mem_append.mp hr with z | z
  ·exact hn r z
  ·rw [List.mem_singleton] at z
   subst z
   exact fun z=>by subst z;rw [hl] at hq;cases hq
noncomputable def XY (K:W.Frag):Sp:=fun vs H Q _=>∃ (s t:Addr) (ss:List Nat) (x y:Nat),vs=[.ref s,.ref t]/\SqL K H s (nv ss)/\SqT K H t [.int x,.int y]/\Sds ss/\EdS ss x y /\
 ∀ l rs H',Same H H'->H l=none->H' l=some (.lst (rv rs))->PrT H' rs ((Zx ss x y).map np)->(Zx ss x y).length<=64->Q (.ref l) H'
theorem Ut (B:Blt mg) (S:Src K mg "forced_next" Yb ["sides", "pair"]) (ye:Fn P w K mg base 1 "places_of" ["bits"] ZV):Fn P w K mg base 2 "forced_next" ["sides", "pair"] (XY K):=by
 have sc:Zm ["sides", "pair", "one", "other", "others", "ones"] ["sides", "pair"] (Zg Yb):=fsc
 refine S.fn sc (fun vs H Q E h=>by obtain⟨s,t,ss,x,y,rfl,_⟩:=h;rfl) fun f cdv A outer s H vs Q E hr h=>?_
 have hu:=Wm hr
 obtain⟨sd,t,ss,x,y,rfl,hS,hT,hG,hE,k⟩:=h
 obtain⟨hx,hy⟩:=hG.lt2 hE
 have hn:=hG.len
 have ax:=Xw (ks:=ss) (i:=x) hx
 have ay:=Xw (ks:=ss) (i:=y) hy
 have b1:Jt (ss.getD x 0) (ss.getD y 0) y<2^32:=Nat.lt_of_le_of_lt Zgc (Nat.lt_of_lt_of_le (hG.lt x hx) (Nat.pow_le_pow_right (by decide) hn))
 have b2:Jt (ss.getD y 0) (ss.getD x 0) x<2^32:=Nat.lt_of_le_of_lt Zgc (Nat.lt_of_lt_of_le (hG.lt y hy) (Nat.pow_le_pow_right (by decide) hn))
 have l1:=JV b1
 have l2:=JV b2
 have c1:Jt (ss.getD x 0) (ss.getD y 0) y<2^1000:=Nat.lt_of_lt_of_le b1 (Nat.pow_le_pow_right (by decide) (by decide))
 have c2:Jt (ss.getD y 0) (ss.getD x 0) x<2^1000:=Nat.lt_of_lt_of_le b2 (Nat.pow_le_pow_right (by decide) (by decide))
 refine⟨_,(@Zb _ _ _ _ _ (Zn (i:=2) sc.nd rfl (Or.inr rfl) (Zw (ixT K) (pv 1) Ze (fun _ _=>rfl)))
   (@Zb _ _ _ _ _ (Zn (i:=3) sc.nd rfl (Or.inr rfl) (Zw (ixT K) (pv 1) Ze (fun _ _=>rfl)))
   (@Zb _ _ _ _ _ (Zn (i:=4) sc.nd rfl (Or.inl rfl) (Zl Xj (Zl Xj (Zw (ixL K) (pv 0) (pv 2) (fun _ _=>rfl)) (VH Vd (Zw (ixL K) (pv 0) (pv 3) (fun _ _=>rfl)))) (VH Vd (Zl Xv Ze (pv 3)))))
   (@Zb _ _ _ _ _ (Zn (i:=5) sc.nd rfl (Or.inl rfl) (Zl Xj (Zl Xj (Zw (ixL K) (pv 0) (pv 3) (fun _ _=>rfl)) (VH Vd (Zw (ixL K) (pv 0) (pv 2) (fun _ _=>rfl)))) (VH Vd (Zl Xv Ze (pv 2)))))
   (@Zf _ _ _ (Zo (Zl Yr (WN (YZ (M:=["thing", "one"]) (nt:=1) (cap:=[2]) (Zg Yb) ["sides", "pair", "one", "other", "others", "ones"] rfl rfl rfl (by decide +kernel) (by decide +kernel) (by decide +kernel) (fun j hj=>match j,hj with | 0,_=>⟨_,_,rfl,rfl,rfl,rfl⟩) rfl) rfl (piL K (Zi ye hr.m rfl (Za (pv 4) Zc))) (fun cl C fp s' H'=>(pg_name (i:=0) (show (["thing", "one"]:List Str).Nodup by decide +kernel) rfl (Or.inl rfl))) (fun cl C fp s' H'=>Yx) (fun cl C fp s' H'=>(Xu (Za (pv 1) (Za (pv 0) Zc))))) (WN (YZ (M:=["thing", "other"]) (nt:=1) (cap:=[3]) (Zg Yb) ["sides", "pair", "one", "other", "others", "ones"] rfl rfl rfl (by decide +kernel) (by decide +kernel) (by decide +kernel) (fun j hj=>match j,hj with | 0,_=>⟨_,_,rfl,rfl,rfl,rfl⟩) rfl) rfl (piL K (Zi ye hr.m rfl (Za (pv 5) Zc))) (fun cl C fp s' H'=>(pg_name (i:=0) (show (["thing", "other"]:List Str).Nodup by decide +kernel) rfl (Or.inl rfl))) (fun cl C fp s' H'=>Yx) (fun cl C fp s' H'=>(Xu (Za (pv 0) (Za (pv 1) Zc)))))))))))),?_⟩
 refine cut2 (fun σ' H1=>H1=H/\σ'=[some (.ref sd),some (.ref t),some (.int (x:Nat)),some (.int (y:Nat)),none,none]) (fun N hN=>?_) ?_
 ·walk_at "rd"
  exact⟨_,hT,_,rfl,_,hT,_,rfl,hN _ _ ⟨rfl,rfl⟩⟩
 rintro σ' H1 ⟨rfl,rfl⟩
 refine cut1 (fun σ' H2=>H2=H1/\σ'=[some (.ref sd),some (.ref t),some (.int (x:Nat)),some (.int (y:Nat)),some (.int (Jt (ss.getD x 0) (ss.getD y 0) y:Nat)),none]) (fun N hN=>?_) ?_
 ·walk_at "rd"
  refine⟨_,hS,_,ax,_,hS,_,ay,_,rfl,_,rfl,⟨by omega,by omega,by decide⟩,?_⟩
  rw [ZcR,Yu,Yu]
  exact hN _ _ ⟨rfl,rfl⟩
 rintro σ' H1 ⟨rfl,rfl⟩
 refine cut1 (fun σ' H2=>H2=H1/\σ'=[some (.ref sd),some (.ref t),some (.int (x:Nat)),some (.int (y:Nat)),some (.int (Jt (ss.getD x 0) (ss.getD y 0) y:Nat)),some (.int (Jt (ss.getD y 0) (ss.getD x 0) x:Nat))]) (fun N hN=>?_) ?_
 ·walk_at "rd"
  refine⟨_,hS,_,ay,_,hS,_,ax,_,rfl,_,rfl,⟨by omega,by omega,by decide⟩,?_⟩
  rw [ZcR,Yu,Yu]
  exact hN _ _ ⟨rfl,rfl⟩
 rintro σ' H0 ⟨rfl,rfl⟩
 walk_at "rd"
 refine⟨Jt (ss.getD x 0) (ss.getD y 0) y,rfl,c1,fun u H1 s1 hu0 hu1=>?_⟩
 refine⟨_,rfl,⟨_,SqL.of hu1⟩,fun l hl=>?_⟩
 refine WF (H₀:=H1) (VU (SqL.of hu1)) (PaP ((OM.ZA (Jt (ss.getD x 0) (ss.getD y 0) y)).map fun t=>(x,t)) l) (by rw [List.length_map];exact Nat.le_of_lt (Zz (by omega))) PaP.off hl ⟨[],rfl,.nil,by simp⟩ ?_ ?_
 ·intro i mm v acc pre H2 r hpre ct
  obtain⟨d,ed,rfl⟩:=ZQ r
  match pre,hpre with
  | [p0],_ =>
  have hl:=ct.hl
  have hp0:=ct.hp
  walk_at "rd"
  refine⟨by rw [sizeLine_eq];decide,?_⟩
  intro t2 hp_t2
  generalize hq_t2:upd _ t2 _=H3
  have s_H3:Same _ H3:=hq_t2▸Same.upd hp_t2
  have e_H3:H3 t2=some _:=hq_t2▸Zd
  clear hq_t2
  exact ct.yes s_H3 (hp0.more hl s_H3 (p:=(x,d)) (by rw [List.getElem?_map,ed];rfl) hp_t2 e_H3) (pre:=[_]) rfl rfl
 intro acc H2 s2 hl2 ⟨ks,hacc,hP',hn⟩
 subst hacc
 rw [List.length_map,<- List.length_map (f:=fun t=>(x,t)),List.take_length] at hP'
 refine⟨Jt (ss.getD y 0) (ss.getD x 0) x,rfl,c2,fun u2 H3 s3 hv0 hv1=>?_⟩
 refine⟨_,rfl,⟨_,SqL.of hv1⟩,fun l2 hl20=>?_⟩
 refine WF (H₀:=H3) (VU (SqL.of hv1)) (PaP ((OM.ZA (Jt (ss.getD y 0) (ss.getD x 0) x)).map fun t=>(t,y)) l2) (by rw [List.length_map];exact Nat.le_of_lt (Zz (by omega))) PaP.off hl20 ⟨[],rfl,.nil,by simp⟩ ?_ ?_
 ·intro i mm v acc pre H2 r hpre ct
  obtain⟨d,ed,rfl⟩:=ZQ r
  match pre,hpre with
  | [p0],_ =>
  have hl:=ct.hl
  have hp0:=ct.hp
  walk_at "rd"
  refine⟨by rw [sizeLine_eq];decide,?_⟩
  intro t2 hp_t2
  generalize hq_t2:upd _ t2 _=H3
  have s_H3:Same _ H3:=hq_t2▸Same.upd hp_t2
  have e_H3:H3 t2=some _:=hq_t2▸Zd
  clear hq_t2
  exact ct.yes s_H3 (hp0.more hl s_H3 (p:=(d,y)) (by rw [List.getElem?_map,ed];rfl) hp_t2 e_H3) (pre:=[_]) rfl rfl
 intro acc H4 s4 hl4 ⟨ks2,hacc,hP2,hn2⟩
 subst hacc
 rw [List.length_map,<- List.length_map (f:=fun t=>(t,y)),List.take_length] at hP2
 have s24:=s3.trans s4
 refine .inr ⟨l,rfl,l2,rfl,_,s24 _ _ hl2,_,hl4,?_,fun p hp=>?_⟩
 ·rw [Yn,Yn,hP'.len,hP2.len,List.length_map,List.length_map,List.length_map,List.length_map,sizeLine_eq]
  omega
 have s0:=(s1.trans s2).trans s24
 refine k p (ks++ks2) _ (s0.trans (Same.upd hp)) (s0.free hp) ?_ ?_ ?_
 ·rw [Zd]
  unfold rv
  rw [List.map_append]
 ·unfold Zx
  rw [List.map_append]
  exact ZgQ ((hP'.same s24).same (Same.upd hp)) (hP2.same (Same.upd hp))
 ·unfold Zx
  rw [List.length_append,List.length_map,List.length_map]
  omega
theorem JP {n:Nat}{ds:List Nat}(h:OkR n ds)(hn:n<=32):Sds (sidesN ds):=by
 have hl:=h.1
 refine⟨by rw [Xg];omega,fun i hi=>?_,⟨fun {a b} e=>?_,fun {a} e=>?_⟩⟩
 ·rw [Xg] at hi ⊢
  rw [Wo hi]
  exact ZgF
 ·have ha:a<ds.length:=by have:=Jp e;rwa [Xg] at this
  unfold EdS at e ⊢
  rw [Wo ha,XG,Bool.and_eq_true,decide_eq_true_iff] at e
  rw [Wo e.1,XG,Bool.and_eq_true,decide_eq_true_iff]
  exact⟨ha,by rw [Zad];exact e.2⟩
 ·have ha:a<ds.length:=by have:=Jp e;rwa [Xg] at this
  unfold EdS at e
  rw [Wo ha,XG,VO h (by omega),Bool.and_false] at e
  cases e
theorem ed_near {ds:List Nat}{x y:Nat}(hx:x<ds.length):EdS (sidesN ds) x y↔y<ds.length/\Xe ds x y=true:=by
 unfold EdS
 rw [Wo hx,XG,Bool.and_eq_true,decide_eq_true_iff]
theorem Zlg {m:Nat}(h:0<m):seqIndex? 0 m=some 0:=by
 unfold seqIndex?
 simp [h]
theorem Wx {ss:List Nat}(S:Sds ss){ps:List (Nat×Nat)}(hd:ps.Nodup)(hg:∀ q∈ps,EdS ss q.1 q.2):ps.length<=1024:=by
 have hn:=S.len
 have h1:(ps.map fun p=>p.1*32+p.2).Nodup:=by
  rw [List.Nodup,List.pairwise_map]
  refine hd.imp_of_mem fun {a b} ha hb hne e=>hne ?_
  obtain⟨a1,a2⟩:=S.lt2 (hg a ha)
  obtain⟨b1,b2⟩:=S.lt2 (hg b hb)
  exact Prod.ext (by omega) (by omega)
 have:=OM.Jf (ys:=List.range 1024) h1 fun r hr=>by
  obtain⟨p,hp,rfl⟩:=List.mem_map.mp hr
  obtain⟨a1,a2⟩:=S.lt2 (hg p hp)
  rw [List.mem_range]
  omega
 rwa [List.length_map,List.length_range] at this
structure Going (ss:List Nat)(p:Nat×Nat)(ps com:List (Nat×Nat)):Prop where
 nd:ps.Nodup
 at0:ps[0]? = some p
 clo:∀ q∈ps,OG.Clo (EdS ss) p q
 sub:∀ q∈com,q∈ps
 done:∀ q∈ps,q∉com->∀ r∈Zx ss q.1 q.2,r∈ps
theorem Going.start {ss:List Nat}{p:Nat×Nat}:Going ss p [p] [p]:=⟨List.pairwise_singleton _ _,rfl,fun q h=>by rw [List.mem_singleton.mp h];exact .base,fun _ h=>h,fun q h n=>absurd h n⟩
theorem Going.step {ss:List Nat}{p q:Nat×Nat}{ps com new:List (Nat×Nat)}(S:Sds ss)(G:Going ss p ps (q::com))(hn:(ps++new).Nodup)(h1:∀ r∈new,r∈Zx ss q.1 q.2)(h2:∀ r∈Zx ss q.1 q.2,r∈ps++new):Going ss p (ps++new) (com++new) where
 nd:=hn
 at0:=by
  have:=G.at0
  match ps,this with
  | a::ps,h=>exact h
 clo:=fun r hr=>by
  rcases List.mem_append.mp hr with z | z
  ·exact G.clo r z
  ·exact .step (G.clo q (G.sub q List.mem_cons_self)) ((WB S).mp (h1 r z))
 sub:=fun r hr=>by
  rcases List.mem_append.mp hr with z | z
  ·exact List.mem_append_left _ (G.sub r (List.mem_cons_of_mem _ z))
  ·exact List.mem_append_right _ z
 done:=fun r hr hc t ht=>by
  by_cases e:r=q
  ·rw [e] at ht
   exact h2 t ht
  ·rcases List.mem_append.mp hr with z | z
   ·refine List.mem_append_left _ (G.done r z (fun h=>?_) t ht)
    rcases List.mem_cons.mp h with h | h
    ·exact e h
    ·exact hc (List.mem_append_left _ h)
   ·exact absurd (List.mem_append_right _ z) hc
theorem Going.all {ss:List Nat}{p:Nat×Nat}{ps:List (Nat×Nat)}(S:Sds ss)(G:Going ss p ps [])(q:Nat×Nat):q∈ps↔OG.Clo (EdS ss) p q:=by
 refine⟨G.clo q,fun h=>?_⟩
 induction h with
 | base=>exact List.mem_of_getElem? G.at0
 | step _ h2 ih=>exact G.done _ ih (by simp) _ ((WB S).mpr h2)
theorem Zc7 {H:Hp}{l:Addr}{o o':HO}{rs:List Addr}{ps:List (Int×Int)}(h:PrT H rs ps)(e:H l=some o)(ht:∀ xs,o≠.tup xs):PrT (upd H l o') rs ps:=by
 unfold PrT at h ⊢
 induction h with
 | nil=>exact .nil
 | @cons a b _ _ h1 _ ih =>
  refine .cons ?_ ih
  rw [Zh (fun z=>by subst z;rw [e] at h1;exact ht _ (Option.some.inj h1))]
  exact h1
theorem Xy {kvs:List (List Key×V)}{ps:List (Nat×Nat)}(hk:kvs.map (·.1)=ps.map kp)(r:Nat×Nat):(Ug kvs (kp r)).isSome=decide (r∈ps):=by
 cases e:Ug kvs (kp r) with
 | none =>
  have:=Zew e
  rw [hk] at this
  rw [decide_eq_false (fun h=>this (List.mem_map_of_mem h))]
  rfl
 | some v =>
  have:=Zgz e
  rw [hk] at this
  obtain⟨q,hq,eq⟩:=List.mem_map.mp this
  rw [<- Zgh eq,decide_eq_true hq]
  rfl
theorem ZaR {kvs:List (List Key×V)}{ps:List (Nat×Nat)}(hk:kvs.map (·.1)=ps.map kp){r:Nat×Nat}(h:r∉ps):Ug kvs (kp r)=none:=by
 have:=Xy hk r
 rw [decide_eq_false h] at this
 cases e:Ug kvs (kp r) with
 | none=>rfl
 | some v=>rw [e] at this;cases this
noncomputable def SrcOk (ss:List Nat)(H:Hp)(kvs:List (List Key×V))(ps:List (Nat×Nat)):Prop:=kvs.map (·.1)=ps.map kp/\∀ (i:Nat) (kv:List Key×V),kvs[i]? = some kv->(i=0/\kv.2=.non) \/
 ∃ (a:Addr) (k:Nat) (q r:Nat×Nat),k<i/\ps[k]? = some q/\ps[i]? = some r/\kv.2=.ref a/\H a=some (.tup [.int q.1,.int q.2])/\r∈Zx ss q.1 q.2
theorem SrcOk.keep {ss:List Nat}{H H':Hp}{kvs:List (List Key×V)}{ps:List (Nat×Nat)}(h:SrcOk ss H kvs ps)(k:∀ a xs,H a=some (.tup xs)->H' a=some (.tup xs)):SrcOk ss H' kvs ps :=
 ⟨h.1,fun i kv e=>(h.2 i kv e).imp_right fun ⟨a,k',q,r,h1,h2,h3,h4,h5,h6⟩=>⟨a,k',q,r,h1,h2,h3,h4,k _ _ h5,h6⟩⟩
theorem SrcOk.snoc {ss:List Nat}{H:Hp}{kvs:List (List Key×V)}{ps:List (Nat×Nat)}{a:Addr}{q r:Nat×Nat}(h:SrcOk ss H kvs ps)(hq:q∈ps)(ha:H a=some (.tup [.int q.1,.int q.2]))(hr:r∈Zx ss q.1 q.2):SrcOk ss H (kvs++[(kp r,.ref a)]) (ps++[r]):=by
 have hl:kvs.length=ps.length:=by
  have:=congrArg List.length h.1
  rwa [List.length_map,List.length_map] at this
 refine⟨by rw [List.map_append,List.map_append,h.1];rfl,fun i kv e=>?_⟩
 by_cases hi:i<kvs.length
 ·rw [List.getElem?_append_left hi] at e
  refine (h.2 i kv e).imp_right fun ⟨a,k,q,r,h1,h2,h3,h4⟩=>⟨a,k,q,r,h1,?_,?_,h4⟩
  ·rw [List.getElem?_append_left (by omega)];exact h2
  ·rw [List.getElem?_append_left (by omega)];exact h3
 ·obtain⟨k,hk,eq⟩:=List.mem_iff_getElem.mp hq
  have hi2:i=kvs.length:=by
   have:=(List.getElem?_eq_some_iff.mp e).1
   rw [List.length_append,List.length_singleton] at this
   omega
  subst hi2
  rw [List.getElem?_append_right (Nat.le_refl _),Nat.sub_self] at e
  cases e
  refine .inr ⟨a,k,q,r,by omega,?_,?_,rfl,ha,hr⟩
  ·rw [List.getElem?_append_left hk,List.getElem?_eq_getElem hk,eq]
  ·rw [hl,List.getElem?_append_right (Nat.le_refl _),Nat.sub_self];rfl
noncomputable def Xb (K:W.Frag):Sp:=fun vs H Q _=>∃ (s t:Addr) (ss:List Nat) (x y:Nat),vs=[.ref s,.ref t]/\SqL K H s (nv ss)/\H t=some (.tup [.int x,.int y])/\Sds ss/\EdS ss x y /\
 ∀ l (kvs:List (List Key×V)) (ps:List (Nat×Nat)) H',Same H H'->H l=none->H' l=some (.dT kvs)->SrcOk ss H' kvs ps->ps.Nodup->ps[0]? = some (x,y)->ps.length<=1024->(∀ q,q∈ps↔OG.Clo (EdS ss) (x,y) q)->Q (.ref l) H'
noncomputable abbrev FL:Type:=List ((Nat×Nat)×Option (Nat×Nat))
noncomputable def Zj4 (q:Nat×Nat)(S:FL×List (Nat×Nat))(f:Nat×Nat):FL×List (Nat×Nat):=if f∈S.1.map (·.1) then S else (S.1++[(f,some q)],S.2++[f])
noncomputable def ZgD (ss:List Nat):FL×List (Nat×Nat)->FL×List (Nat×Nat)
 | (L,[])=>(L,[])
 | (L,q::com)=>(Zx ss q.1 q.2).foldl (Zj4 q) (L,com)
noncomputable def ZgI (ss:List Nat):Nat->FL×List (Nat×Nat)->FL×List (Nat×Nat)
 | 0,S=>S
 | k+1,S=>ZgD ss (ZgI ss k S)
noncomputable def ffL (ss:List Nat)(p:Nat×Nat):FL:=(ZgI ss 1024 ([(p,none)],[p])).1
theorem JR {ss:List Nat}{k:Nat}{S:FL×List (Nat×Nat)}{L:FL}(h:ZgI ss k S=(L,[])):∀ d,ZgI ss (k+d) S=(L,[])
 | 0=>h
 | d+1=>by
  show ZgD ss (ZgI ss (k+d) S)=_
  rw [JR h d]
  rfl
noncomputable def Tells (H:Hp)(kvs:List (List Key×V))(L:FL):Prop:=kvs.length=L.length/\∀ (i:Nat) (kv:List Key×V) (r:(Nat×Nat)×Option (Nat×Nat)),kvs[i]? = some kv->L[i]? = some r->(r.2=none/\kv.2=.non)\/∃ (q:Nat×Nat) (a:Addr),r.2=some q/\kv.2=.ref a/\H a=some (.tup [.int q.1,.int q.2])
theorem Tells.keep {H H':Hp}{kvs:List (List Key×V)}{L:FL}(h:Tells H kvs L)(k:∀ a xs,H a=some (.tup xs)->H' a=some (.tup xs)):Tells H' kvs L :=
 ⟨h.1,fun i kv r e1 e2=>(h.2 i kv r e1 e2).imp_right fun ⟨q,a,h1,h2,h3⟩=>⟨q,a,h1,h2,k _ _ h3⟩⟩
theorem Tells.snoc {H:Hp}{kvs:List (List Key×V)}{L:FL}{a:Addr}{q r:Nat×Nat}{ky:List Key}(h:Tells H kvs L)(ha:H a=some (.tup [.int q.1,.int q.2])):Tells H (kvs++[(ky,.ref a)]) (L++[(r,some q)]):=by
 refine⟨by rw [List.length_append,List.length_append,h.1];rfl,fun i kv t e1 e2=>?_⟩
 by_cases hi:i<kvs.length
 ·rw [List.getElem?_append_left hi] at e1
  rw [List.getElem?_append_left (by rw [<- h.1];exact hi)] at e2
  exact h.2 i kv t e1 e2
 ·have hi2:i=kvs.length:=by
   have:=(List.getElem?_eq_some_iff.mp e1).1
   rw [List.length_append,List.length_singleton] at this
   omega
  rw [hi2,List.getElem?_append_right (Nat.le_refl _),Nat.sub_self] at e1
  rw [hi2,h.1,List.getElem?_append_right (Nat.le_refl _),Nat.sub_self] at e2
  cases e1;cases e2
  exact .inr ⟨q,a,rfl,rfl,ha⟩
noncomputable def We (K:W.Frag):Sp:=fun vs H Q _=>∃ (s t:Addr) (ss:List Nat) (x y:Nat),vs=[.ref s,.ref t]/\SqL K H s (nv ss)/\H t=some (.tup [.int x,.int y])/\Sds ss/\EdS ss x y /\
 ∀ l (kvs:List (List Key×V)) (ps:List (Nat×Nat)) H',Same H H'->H l=none->H' l=some (.dT kvs)->SrcOk ss H' kvs ps->ps.Nodup->ps[0]? = some (x,y)->ps.length<=1024->(∀ q,q∈ps↔OG.Clo (EdS ss) (x,y) q)->(ffL ss (x,y)).map (·.1)=ps->Tells H' kvs (ffL ss (x,y))->Q (.ref l) H'
structure FFI (ss:List Nat)(H:Hp)(d cm r l:Addr)(rs:List Addr)(qx qy:Nat)(ps com:List (Nat×Nat))(i:Nat)(kvs:List (List Key×V))(new:List (Nat×Nat))(crs:List Addr)(H':Hp)(L0 L:FL):Prop where
 ml:L.map (·.1)=ps++new
 det:((Zx ss qx qy).take i).foldl (Zj4 (qx,qy)) (L0,com)=(L,com++new)
 tl:Tells H' kvs L
 nd:(ps++new).Nodup
 n1:∀ r∈new,r∈Zx ss qx qy
 n2:∀ r∈(Zx ss qx qy).take i,r∈ps++new
 sm:Same H H'
 hd:H' d=some (.dT kvs)
 hkv:SrcOk ss H' kvs (ps++new)
 hcm:H' cm=some (.lst (rv crs))
 hP:PrT H' crs ((com++new).map np)
 hl5:H' l=some (.lst (rv rs))
 hPl:PrT H' rs ((Zx ss qx qy).map np)
 hr5:H' r=some (.tup [.int (qx:Nat),.int (qy:Nat)])
structure FWI (ss:List Nat)(H:Hp)(d cm:Addr)(p:Nat×Nat)(kvs:List (List Key×V))(ps com:List (Nat×Nat))(crs:List Addr)(H':Hp)(k:Nat)(L:FL):Prop where
 ml:L.map (·.1)=ps
 det:ZgI ss k ([(p,none)],[p])=(L,com)
 tl:Tells H' kvs L
 G:Going ss p ps com
 hcl:com.length<=ps.length
 sm:Same H H'
 hd:H' d=some (.dT kvs)
 hkv:SrcOk ss H' kvs ps
 hcm:H' cm=some (.lst (rv crs))
 hP:PrT H' crs (com.map np)
theorem Zbk (B:Blt mg) (S:Src K mg "forced_from" YD ["sides", "pair"]) (yla:Fn P w K mg base 2 "forced_next" ["sides", "pair"] (XY K)):Fn P w K mg base 3 "forced_from" ["sides", "pair"] (We K):=by
 have sc:Zm ["sides", "pair", "sources", "coming", "source", "forced"] ["sides", "pair"] (Zg YD):=fsc
 refine S.fn sc (fun vs H Q E h=>by obtain⟨s,t,ss,x,y,rfl,_⟩:=h;rfl) fun f cdv A outer s H vs Q E hr h=>?_
 have hu:=Wm hr
 obtain⟨sd,t,ss,x,y,rfl,hS,hT,hG,g0,k⟩:=h
 refine⟨_,(@Zb _ _ _ _ _ (Zn (i:=2) sc.nd rfl (Or.inl rfl) (ZeH (huD hu) (pv 1) JX))
   (@Zb _ _ _ _ _ (Zn (i:=3) sc.nd rfl (Or.inl rfl) (Wu (Za (pv 1) Zc)))
   (@Zb _ _ _ _ _ (Jc PassesOwn.never (Zs Za6 (Zk (ZI K) rfl B.len PySem.boot_len (Za (pv 3) Zc)) Ze (Zt _))
   (@Zb _ _ _ _ _ (Zn (i:=4) sc.nd rfl (Or.inl rfl) (Zgb K PySem.F.plainAttrs_list PySem.F.slot_list_pop PySem.F.type_list_pop ZbJ (pv 3) (Za Ze Zc)))
   (@Zf _ _ _ (Yd PassesOwn.never rfl (piL K (Zi yla hr.m rfl (Za (pv 0) (Za (pv 4) Zc)))) (pg_name (i:=5) sc.nd rfl (Or.inl rfl))
   (@Zf _ _ _ (Yc (UA (VI (huD hu) (pv 5) (pv 2)))
   (@Zb _ _ _ _ _ (Zc5 (huD hu) (pv 2) (pv 5) (pv 4) rfl)
   (@Zf _ _ _ (Yo (Zgb K PySem.F.plainAttrs_list PySem.F.slot_list_append PySem.F.type_list_append VP (pv 3) (Za (pv 5) Zc)))))
   Zq))))))
   (@Zf _ _ _ (Zo (pv 2)))))),?_⟩
 walk_at "rd"
 intro d hp_d
 have s1:Same H (upd H d (.dT [])):=Same.upd hp_d
 refine⟨Zd,[Sum.inl (x:Int),Sum.inl (y:Int)],s1 _ _ hT,by rw [sizeLine_eq];decide,?_⟩
 generalize hq:upd (upd H d (.dT [])) d (.dT [([Sum.inl (x:Int),Sum.inl (y:Int)],V.non)])=H1
 have sH1:Same H H1:=hq▸s1.write hp_d
 have e1:H1 d=some (.dT [(kp (x,y),V.non)]):=hq▸Zd
 clear hq
 intro cm hp_cm
 generalize hq_cm:upd _ cm _=H2
 have s_H2:Same _ H2:=hq_cm▸Same.upd hp_cm
 have e_H2:H2 cm=some _:=hq_cm▸Zd
 clear hq_cm
 have hcd:cm≠d:=fun z=>by subst z;rw [e1] at hp_cm;cases hp_cm
 have hcm0:H cm=none:=sH1.free hp_cm
 have e2:H2 d=some (.dT [(kp (x,y),V.non)]):=s_H2 _ _ e1
 have sH2:=sH1.trans s_H2
 refine Zgx (fun z σ' H'=>∃ (kvs:List (List Key×V)) (ps com:List (Nat×Nat)) (crs:List Addr) (v4 v5:Option V) (n:Nat) (L:FL),n+z=1024/\z=com.length+(1024-ps.length)/\σ'=[some (.ref sd),some (.ref t),some (.ref d),some (.ref cm),v4,v5]/\FWI ss H d cm (x,y) kvs ps com crs H' n L) (1+1023)
  ⟨[(kp (x,y),V.non)],[(x,y)],[(x,y)],[t],none,none,0,[((x,y),none)],rfl,rfl,rfl,⟨rfl,rfl,⟨rfl,fun i kv r e1 e2=>by
   match i,e1,e2 with
   | 0,e1,e2=>cases e1;cases e2;exact .inl ⟨rfl,rfl⟩⟩,.start,Nat.le_refl _,sH2,e2,⟨rfl,fun i kv e=>by
   match i,e with
   | 0,e=>cases e;exact .inl ⟨rfl,rfl⟩⟩,e_H2,.cons (sH2 _ _ hT) .nil⟩⟩ ?_
 rintro z σ' H' ⟨kvs,ps,com,crs,v4,v5,n,L,hnz,rfl,rfl,FW⟩
 have G:=FW.G
 have hcl:=FW.hcl
 have sm:=FW.sm
 have hd:=FW.hd
 have hkv:=FW.hkv
 have hcm:=FW.hcm
 have hP:=FW.hP
 have ml:=FW.ml
 have det:=FW.det
 have tl:=FW.tl
 clear FW
 have hlc:crs.length=com.length:=by rw [hP.len,List.length_map]
 have gE:∀ q∈ps,EdS ss q.1 q.2:=fun q hq=>(G.clo q hq).inE g0
 have few:=Wx hG G.nd gE
 refine⟨decide (0<com.length),?_,?_,?_⟩
 ·intro Bb hB
  walk_at "rd"
  refine⟨_,.inl (SqL.of hcm),?_⟩
  rw [Yn]
  have e2:decide ((0:Int)<(crs.length:Int))=decide (0<com.length):=by rw [decide_eq_decide];omega
  rw [e2];exact hB
 ·intro hm N hN
  have hm:=of_decide_eq_true hm
  match com,crs,hP,hm,G,hcl,hlc,hcm,det,hnz with
  | q::com,r::crs,hP,_,G,hcl,hlc,hcm,det,hnz =>
  obtain⟨qx,qy⟩:=q
  have qps:(qx,qy)∈ps:=G.sub _ List.mem_cons_self
  have gq:EdS ss qx qy:=gE _ qps
  have hr1:H' r=some (.tup [.int (qx:Nat),.int (qy:Nat)]):=by
   cases hP with
   | cons h1 _=>exact h1
  have hP1:PrT H' crs (com.map np):=by
   cases hP with
   | cons _ h2=>exact h2
  rw [List.length_cons] at hlc hcl
  have hrl:=hlc
  walk_at "rd"
  refine⟨.inl ⟨_,SqL.of hcm⟩,?_⟩
  unfold Zf6
  refine⟨cm,_,0,0,.ref r,rfl,rfl,hcm,by decide,by decide,Zlg (by rw [Yn];simp),rfl,?_⟩
  have e0:(rv (r::crs)).eraseIdx 0=rv crs:=rfl
  rw [e0]
  have h2c:upd H' cm (.lst (rv crs)) cm=some (.lst (rv crs)):=Zd
  have tup:∀ a xs,H' a=some (.tup xs)->upd H' cm (.lst (rv crs)) a=some (.tup xs):=fun a xs e=>by rw [Zh (fun z=>by subst z;rw [hcm] at e;cases e)];exact e
  have sm2:Same H (upd H' cm (.lst (rv crs))):=sm.write hcm0
  have hd2:upd H' cm (.lst (rv crs)) d=some (.dT kvs):=by rw [Zh (Ne.symm hcd)];exact hd
  have hkv2:SrcOk ss (upd H' cm (.lst (rv crs))) kvs ps:=hkv.keep tup
  have hP2:PrT (upd H' cm (.lst (rv crs))) crs (com.map np):=hP1.write hcm
  have tl2:Tells (upd H' cm (.lst (rv crs))) kvs L:=tl.keep tup
  have hr2:=tup _ _ hr1
  generalize upd H' cm (.lst (rv crs))=H3 at h2c sm2 hd2 hkv2 hP2 hr2 tl2
  clear tup
  refine⟨sd,r,ss,qx,qy,rfl,sm2.seq hS,SqT.of hr2,hG,gq,fun l rs H4 s4 hl0 hl4 hPl h64=>?_⟩
  refine⟨l,rfl,⟨_,SqL.of hl4⟩,?_⟩
  have hlcm:l≠cm:=fun z=>by subst z;rw [h2c] at hl0;cases hl0
  have hld:l≠d:=fun z=>by subst z;rw [hd2] at hl0;cases hl0
  refine ZbP (xs:=rv rs) (fun i σ' H'=>∃ (kvs:List (List Key×V)) (new:List (Nat×Nat)) (crs:List Addr) (v5:Option V) (L':FL),σ'=[some (.ref sd),some (.ref t),some (.ref d),some (.ref cm),some (.ref r),v5]/\FFI ss H d cm r l rs qx qy ps com i kvs new crs H' L L')
   ⟨kvs,[],crs,v5,L,rfl,⟨by rw [List.append_nil];exact ml,by rw [List.append_nil];rfl,tl2.keep fun a xs e=>s4 _ _ e,by rw [List.append_nil];exact G.nd,by simp,by simp,sm2.trans s4,s4 _ _ hd2,by rw [List.append_nil];exact hkv2.keep fun a xs e=>s4 _ _ e,s4 _ _ h2c,by rw [List.append_nil];exact hP2.same s4,hl4,hPl,s4 _ _ hr2⟩⟩
   (fun i σ' H' _ ⟨_,_,_,_,_,_,F⟩=>SqL.of F.hl5) ?_ ?_
  ·rintro i v σ' H5 ev ⟨kvs,new,crs,v5,L',rfl,F⟩ N' R' T' hN'
   have nd:=F.nd
   have n1:=F.n1
   have n2:=F.n2
   have sm:=F.sm
   have hd:=F.hd
   have hkv:=F.hkv
   have hcm:=F.hcm
   have hP:=F.hP
   have hl5:=F.hl5
   have hPl:=F.hPl
   have hr5:=F.hr5
   have ml':=F.ml
   have det':=F.det
   have tl':=F.tl
   clear F
   obtain⟨f,ef,rfl⟩:=Wf ev
   obtain⟨⟨c,e⟩,ece,hce⟩:=(hPl.a (K:=K)).getN ef
   have hce:H5 f=some (.tup [.int (c:Nat),.int (e:Nat)]):=by
    obtain⟨f',ef',h⟩:=hPl.get (i:=i) (p:=np (c,e)) (by rw [List.getElem?_map,ece];rfl)
    rw [ef] at ef';cases ef';exact h
   have hmem:(c,e)∈Zx ss qx qy:=List.mem_of_getElem? ece
   have gE2:∀ q∈ps++new,EdS ss q.1 q.2:=fun q hq=>by
    rcases List.mem_append.mp hq with z | z
    ·exact gE q z
    ·exact ((WB (p:=(qx,qy)) hG).mp (n1 q z)).1
   have few2:=Wx hG nd gE2
   walk_at "rd"
   refine⟨_,DGet.t (k:=kp (c,e)) hd hce,?_⟩
   rw [Xy hkv.1]
   by_cases hin:(c,e)∈ps++new
   ·rw [decide_eq_true hin,if_neg (by decide)]
    refine hN' _ _ ⟨kvs,new,crs,_,L',rfl,⟨ml',by rw [List.take_add_one,ece,Option.toList_some,List.foldl_append,det',List.foldl_cons,List.foldl_nil];unfold Zj4;rw [if_pos (by rw [ml'];exact hin)],tl',nd,n1,fun r hr=>?_,sm,hd,hkv,hcm,hP,hl5,hPl,hr5⟩⟩
    rw [List.take_add_one,ece,Option.toList_some] at hr
    rcases List.mem_append.mp hr with z | z
    ·exact n2 r z
    ·rw [List.mem_singleton.mp z];exact hin
   ·rw [decide_eq_false hin,if_pos (by decide)]
    have hkl:kvs.length=(ps++new).length:=by
     have:=congrArg List.length hkv.1
     rwa [List.length_map,List.length_map] at this
    have hcl2:crs.length<=2048:=by
     rw [hP.len,List.length_map]
     rw [List.length_append] at few2 ⊢
     omega
    refine⟨_,DPut.t (k:=kp (c,e)) hd hce (by rw [sizeLine_eq];omega),?_⟩
    rw [Jb _ (ZaR hkv.1 hin)]
    have tup:∀ a xs,H5 a=some (.tup xs)->upd H5 d (.dT (kvs++[(kp (c,e),.ref r)])) a=some (.tup xs):=fun a xs e=>by rw [Zh (fun z=>by subst z;rw [hd] at e;cases e)];exact e
    have k1:upd H5 d (.dT (kvs++[(kp (c,e),.ref r)])) d=some (.dT (kvs++[(kp (c,e),.ref r)])):=Zd
    have k2:upd H5 d (.dT (kvs++[(kp (c,e),.ref r)])) cm=some (.lst (rv crs)):=by rw [Zh hcd];exact hcm
    have k3:upd H5 d (.dT (kvs++[(kp (c,e),.ref r)])) l=some (.lst (rv rs)):=by rw [Zh hld];exact hl5
    have k4:Same H (upd H5 d (.dT (kvs++[(kp (c,e),.ref r)]))):=sm.write hp_d
    have k5:SrcOk ss (upd H5 d (.dT (kvs++[(kp (c,e),.ref r)]))) (kvs++[(kp (c,e),.ref r)]) (ps++new++[(c,e)]):=(hkv.keep tup).snoc (List.mem_append_left _ qps) (tup _ _ hr5) hmem
    have k6:PrT (upd H5 d (.dT (kvs++[(kp (c,e),.ref r)]))) crs ((com++new).map np):=Zc7 hP hd (fun xs z=>nomatch z)
    have k7:PrT (upd H5 d (.dT (kvs++[(kp (c,e),.ref r)]))) rs ((Zx ss qx qy).map np):=Zc7 hPl hd (fun xs z=>nomatch z)
    have k8:=tup _ _ hr5
    have kt:Tells (upd H5 d (.dT (kvs++[(kp (c,e),.ref r)]))) (kvs++[(kp (c,e),.ref r)]) (L'++[((c,e),some (qx,qy))]):=(tl'.keep tup).snoc (q:=(qx,qy)) k8
    have k9:=tup _ _ hce
    generalize upd H5 d (.dT (kvs++[(kp (c,e),.ref r)]))=H6 at k1 k2 k3 k4 k5 k6 k7 k8 k9 kt
    refine⟨.inl ⟨_,SqL.of k2⟩,_,k2,by rw [Yn,sizeLine_eq];omega,?_⟩
    have tup:∀ a xs,H6 a=some (.tup xs)->upd H6 cm (.lst (rv crs++[.ref f])) a=some (.tup xs):=fun a xs e=>by rw [Zh (fun z=>by subst z;rw [k2] at e;cases e)];exact e
    have ea:ps++(new++[(c,e)])=ps++new++[(c,e)]:=(List.append_assoc _ _ _).symm
    refine hN' _ _ ⟨kvs++[(kp (c,e),.ref r)],new++[(c,e)],crs++[f],_,L'++[((c,e),some (qx,qy))],rfl,⟨by rw [List.map_append,ml',ea];rfl,by rw [List.take_add_one,ece,Option.toList_some,List.foldl_append,det',List.foldl_cons,List.foldl_nil];unfold Zj4;rw [if_neg (by rw [ml'];exact hin),List.append_assoc],kt.keep tup,?_,fun r hr=>?_,fun r hr=>?_,k4.write hcm0,by rw [Zh (Ne.symm hcd)];exact k1,by rw [ea];exact k5.keep tup,by rw [Zd,ZbD],?_,by rw [Zh hlcm];exact k3,k7.write k2,tup _ _ k8⟩⟩
    ·rw [ea,List.nodup_append]
     refine⟨nd,by simp,fun a ha b hb z=>?_⟩
     rw [List.mem_singleton] at hb
     rw [z,hb] at ha
     exact hin ha
    ·rcases List.mem_append.mp hr with z | z
     ·exact n1 r z
     ·rw [List.mem_singleton.mp z];exact hmem
    ·rw [ea]
     rw [List.take_add_one,ece,Option.toList_some] at hr
     rcases List.mem_append.mp hr with z | z
     ·exact List.mem_append_left _ (n2 r z)
     ·exact List.mem_append_right _ z
    ·rw [<- List.append_assoc,List.map_append]
     exact (k6.write k2).snoc (tup _ _ k9)
  ·rintro σ' H5 ⟨kvs,new,crs,v5,L',rfl,F⟩
   have det':=F.det
   have nd:=F.nd
   have n1:=F.n1
   have n2:=F.n2
   have hPl:=F.hPl
   have hfl:rs.length=(Zx ss qx qy).length:=by rw [hPl.len,List.length_map]
   rw [Yn,hfl,List.take_length] at n2 det'
   have gE2:∀ q∈ps++new,EdS ss q.1 q.2:=fun q hq=>by
    rcases List.mem_append.mp hq with z | z
    ·exact gE q z
    ·exact ((WB (p:=(qx,qy)) hG).mp (n1 q z)).1
   have few2:=Wx hG nd gE2
   rw [List.length_append] at few2
   refine hN _ _ (com.length+new.length+(1024-(ps++new).length)) (by rw [List.length_cons,List.length_append];omega) ⟨kvs,ps++new,com++new,crs,some (.ref r),v5,n+1,L',by rw [List.length_cons] at hnz;rw [List.length_append];omega,by simp only [List.length_append],rfl,⟨F.ml,by show ZgD ss (ZgI ss n _)=_;rw [det];exact det',F.tl,G.step hG nd n1 n2,by rw [List.length_append,List.length_append];omega,F.sm,F.hd,F.hkv,F.hcm,F.hP⟩⟩
 ·intro hm
  have hm:=of_decide_eq_false hm
  have:com=[]:=List.eq_nil_of_length_eq_zero (by omega)
  subst this
  walk_at "rd"
  have eF:ffL ss (x,y)=L:=by
   have:=JR det (1024-n)
   rw [show n+(1024-n)=1024 by omega] at this
   unfold ffL
   rw [this]
  exact k d kvs ps H' sm hp_d hd hkv G.nd G.at0 few (G.all hG) (by rw [eF];exact ml) (by rw [eF];exact tl)
theorem Fn.less {P:Program}{w:World}{K:W.Frag}{mg:Str->Option Value}{base:Heap}{x:Str}{ps:List Str}{sp sp':Sp}{k:Nat}(F:Fn P w K mg base k x ps sp)(h:∀ vs H Q E,sp' vs H Q E->sp vs H Q E):Fn P w K mg base k x ps sp':=by
 obtain⟨f,fd,F,r⟩:=F
 exact⟨f,fd,F.imp h,r⟩
theorem Uu (F:Fn P w K mg base 3 "forced_from" ["sides", "pair"] (We K)):Fn P w K mg base 3 "forced_from" ["sides", "pair"] (Xb K) :=
 Fn.less F fun vs H Q E ⟨s,t,ss,x,y,h1,h2,h3,h4,h5,h6⟩=>⟨s,t,ss,x,y,h1,h2,h3,h4,h5,fun l kvs ps H' a b c d e f g h _ _=>h6 l kvs ps H' a b c d e f g h⟩
theorem ZbW {rs:List Addr}{r:Addr}:atI (rv (rs++[r])) (-1)=some (.ref r):=by
 have hl:(rv (rs++[r])).length=rs.length+1:=by rw [Yn,List.length_append];rfl
 unfold atI ixN
 rw [hl,if_neg (by decide),if_pos (by omega)]
 show (rv (rs++[r]))[((-1:Int)+((rs.length+1:Nat):Int)).toNat]? = _
 rw [show ((-1:Int)+((rs.length+1:Nat):Int)).toNat=rs.length by omega]
 unfold rv
 rw [List.getElem?_map,List.getElem?_append_right (Nat.le_refl _),Nat.sub_self]
 rfl
theorem Zc8 {H:Hp}:∀ {rs:List Addr} {ps:List (Int×Int)},PrT H rs ps->PrT H rs.reverse ps.reverse
 | [],[],_=>.nil
 | r::rs,p::ps,.cons h t=>by
  rw [List.reverse_cons,List.reverse_cons]
  exact (Zc8 t).snoc h
theorem ZfW:∀ {kvs:List (List Key×V)} {ps:List (Nat×Nat)} {i:Nat} {q:Nat×Nat} {kv:List Key×V},kvs.map (·.1)=ps.map kp->ps.Nodup->ps[i]? = some q->kvs[i]? = some kv->Ug kvs (kp q)=some kv.2
 | [],_,i,q,kv,_,_,_,e=>by cases e
 | x::kvs,[],i,q,kv,h,_,_,_=>by cases h
 | x::kvs,p::ps,0,q,kv,h,hn,e1,e2=>by
  cases e1;cases e2
  rw [List.map_cons,List.map_cons,List.cons.injEq] at h
  unfold Ug
  rw [List.find?_cons_of_pos (by simpa using h.1)]
  rfl
 | x::kvs,p::ps,i+1,q,kv,h,hn,e1,e2=>by
  rw [List.map_cons,List.map_cons,List.cons.injEq] at h
  have hq:q∈ps:=List.mem_of_getElem? e1
  rw [List.nodup_cons] at hn
  have ih:=ZfW h.2 hn.2 e1 e2
  unfold Ug at ih ⊢
  rw [List.find?_cons_of_neg (by
   rw [h.1,decide_eq_true_iff]
   exact fun z=>hn.1 (by rw [Zgh z];exact hq))]
  exact ih
noncomputable def Vw (L:FL)(q:Nat×Nat):Option (Nat×Nat):=(L.find? fun r=>decide (r.1=q)).bind (·.2)
noncomputable def YT (L:FL):Nat->Nat×Nat->List (Nat×Nat)
 | 0,q=>[q]
 | f+1,q=>match Vw L q with
  | some q'=>q::YT L f q'
  | none=>[q]
theorem ZaM {L:FL}{f:Nat}{q q':Nat×Nat}(h:Vw L q=some q'):YT L (f+1) q=q::YT L f q':=by
 show (match Vw L q with | some q'=>q::YT L f q' | none=>[q])=_
 rw [h]
theorem ZaN {L:FL}{f:Nat}{q:Nat×Nat}(h:Vw L q=none):YT L f q=[q]:=by
 cases f with
 | zero=>rfl
 | succ f =>
  show (match Vw L q with | some q'=>q::YT L f q' | none=>[q])=_
  rw [h]
noncomputable def XT (L:FL)(q:Nat×Nat):List (Nat×Nat):=(YT L 1024 q).reverse
theorem ZcP:∀ {L:FL} {i:Nat} {r:(Nat×Nat)×Option (Nat×Nat)},(L.map (·.1)).Nodup->L[i]? = some r->Vw L r.1=r.2
 | [],i,r,_,e=>by cases e
 | x::L,0,r,_,e=>by
  cases e
  unfold Vw
  rw [List.find?_cons_of_pos (by simp)]
  rfl
 | x::L,i+1,r,hn,e=>by
  rw [List.map_cons,List.nodup_cons] at hn
  have ih:=ZcP hn.2 e
  have hm:r.1∈L.map (·.1):=List.mem_map.mpr ⟨r,List.mem_of_getElem? e,rfl⟩
  unfold Vw at ih ⊢
  rw [List.find?_cons_of_neg (by simpa using fun z=>hn.1 (by rw [z];exact hm))]
  exact ih
noncomputable def LOk (ss:List Nat)(p:Nat×Nat)(L:FL):Prop:=(L.map (·.1)).Nodup/\∀ (i:Nat) (r:(Nat×Nat)×Option (Nat×Nat)),L[i]? = some r->(i=0/\r=(p,none))\/∃ (k:Nat) (q:Nat×Nat) (o:Option (Nat×Nat)),k<i/\L[k]? = some (q,o)/\r.2=some q/\r.1∈Zx ss q.1 q.2
theorem Zi0 {ss:List Nat}{H:Hp}{kvs:List (List Key×V)}{ps:List (Nat×Nat)}{L:FL}{p:Nat×Nat}(h1:SrcOk ss H kvs ps)(hn:ps.Nodup)(h0:ps[0]? = some p)(ml:L.map (·.1)=ps)(tl:Tells H kvs L):LOk ss p L:=by
 subst ml
 refine⟨hn,fun i r e=>?_⟩
 have hi:i<kvs.length:=by rw [tl.1];exact (List.getElem?_eq_some_iff.mp e).1
 have ek:=List.getElem?_eq_getElem hi
 have er:(L.map (·.1))[i]? = some r.1:=by rw [List.getElem?_map,e];rfl
 rcases h1.2 i _ ek with ⟨e0,e1⟩ | ⟨a,k,q,r',k1,k2,k3,k4,k5,k6⟩
 ·subst e0
  rcases tl.2 0 _ _ ek e with ⟨e2,_⟩ | ⟨q,a,_,e3,_⟩
  ·rw [h0] at er
   exact .inl ⟨rfl,Prod.ext (Option.some.inj er).symm e2⟩
  ·rw [e1] at e3;cases e3
 ·rcases tl.2 i _ _ ek e with ⟨_,e2⟩ | ⟨q',a',e2,e3,e4⟩
  ·rw [k4] at e2;cases e2
  ·rw [k4] at e3
   cases e3
   rw [k5] at e4
   injection e4 with e4
   injection e4 with e4
   injection e4 with e5 e6
   injection e6 with e6 _
   injection e5 with e5
   injection e6 with e6
   have hq:q=q':=Prod.ext (Int.ofNat_inj.mp e5) (Int.ofNat_inj.mp e6)
   subst hq
   rw [List.getElem?_map] at k2
   cases hk:L[k]? with
   | none=>rw [hk] at k2;cases k2
   | some t =>
    rw [hk] at k2
    have e7:t.1=q:=Option.some.inj k2
    rw [er] at k3
    have e8:r.1=r':=Option.some.inj k3
    exact .inr ⟨k,q,t.2,k1,by rw [hk,<- e7],e2,by rw [e8];exact k6⟩
structure BackOk (ss:List Nat)(p:Nat×Nat)(L:FL)(z:Nat)(q:Nat×Nat)(bl:List (Nat×Nat)):Prop where
 hd:bl[0]? = some q
 la:bl[bl.length-1]? = some p
 inn:∀ x∈bl,∃ i,i<=z/\(L.map (·.1))[i]? = some x
 nd:bl.Nodup
 len:bl.length<=z+1
 nx:∀ (i:Nat) (a b:Nat×Nat),bl[i]? = some a->bl[i+1]? = some b->a∈Zx ss b.1 b.2
theorem BackOk.one {ss:List Nat}{p:Nat×Nat}{L:FL}{z:Nat}(h:(L.map (·.1))[z]? = some p):BackOk ss p L z p [p] :=
 ⟨rfl,rfl,fun x hx=>⟨z,Nat.le_refl _,by rw [List.mem_singleton.mp hx];exact h⟩,by simp,by simp,fun i a b h1 h2=>by cases h2⟩
theorem Zd8 {ss:List Nat}{p:Nat×Nat}{L:FL}(hL:LOk ss p L):∀ (f z:Nat) (r:(Nat×Nat)×Option (Nat×Nat)),L[z]? = some r->z<=f->BackOk ss p L z r.1 (YT L f r.1)
 | f,z,r,e,hz=>by
  have er:(L.map (·.1))[z]? = some r.1:=by rw [List.getElem?_map,e];rfl
  have es:=ZcP hL.1 e
  rcases hL.2 z r e with ⟨_,rfl⟩ | ⟨k,q,o,k1,k2,k3,k4⟩
  ·rw [ZaN es]
   exact .one er
  ·obtain⟨f,rfl⟩:∃ f',f=f'+1:=⟨f-1,by omega⟩
   rw [k3] at es
   rw [ZaM es]
   have ih:BackOk ss p L k q (YT L f q):=Zd8 hL f k (q,o) k2 (by omega)
   have hne:(YT L f q).length≠0:=fun z=>by
    have:=ih.hd
    rw [List.getElem?_eq_none (by omega)] at this
    cases this
   refine⟨rfl,?_,fun x hx=>?_,?_,?_,fun i a b h1 h2=>?_⟩
   ·have:=ih.la
    rw [List.length_cons,Nat.add_sub_cancel]
    rw [show (YT L f q).length=(YT L f q).length-1+1 by omega,List.getElem?_cons_succ]
    exact this
   ·rcases List.mem_cons.mp hx with rfl | hx
    ·exact⟨z,Nat.le_refl _,er⟩
    ·obtain⟨i,hi,e⟩:=ih.inn x hx
     exact⟨i,by omega,e⟩
   ·rw [List.nodup_cons]
    refine⟨fun hx=>?_,ih.nd⟩
    obtain⟨i,hi,e2⟩:=ih.inn _ hx
    have l1:=(List.getElem?_eq_some_iff.mp e2).1
    have l2:=(List.getElem?_eq_some_iff.mp er).1
    have:=(List.getElem?_inj l1 hL.1).mp (e2.trans er.symm)
    omega
   ·rw [List.length_cons]
    have:=ih.len
    omega
   ·cases i with
    | zero =>
     rw [List.getElem?_cons_zero] at h1
     rw [List.getElem?_cons_succ,ih.hd] at h2
     cases h1;cases h2
     exact k4
    | succ i =>
     rw [List.getElem?_cons_succ] at h1 h2
     exact ih.nx i a b h1 h2
termination_by f=>f
structure Ue (ss:List Nat)(p q:Nat×Nat)(ps ws:List (Nat×Nat)):Prop where
 hd:ws[0]? = some p
 la:ws[ws.length-1]? = some q
 inn:∀ x∈ws,x∈ps
 nd:ws.Nodup
 nx:∀ (i:Nat) (a b:Nat×Nat),ws[i]? = some a->ws[i+1]? = some b->b∈Zx ss a.1 a.2
theorem Zgy {ss:List Nat}{p q:Nat×Nat}{L:FL}(hL:LOk ss p L)(hl:L.length<=1024)(hq:q∈L.map (·.1)):Ue ss p q (L.map (·.1)) (XT L q):=by
 obtain⟨r,hr,rfl⟩:=List.mem_map.mp hq
 obtain⟨z,hz,e⟩:=List.mem_iff_getElem.mp hr
 have e:L[z]? = some r:=by rw [List.getElem?_eq_getElem hz,e]
 have b:=Zd8 hL 1024 z r e (by omega)
 have hne:(YT L 1024 r.1).length≠0:=fun z=>by
  have:=b.hd
  rw [List.getElem?_eq_none (by omega)] at this
  cases this
 have rv:∀ i,i<(YT L 1024 r.1).length->(XT L r.1)[i]? = (YT L 1024 r.1)[(YT L 1024 r.1).length-1-i]? := fun i hi=>by
  unfold XT
  rw [List.getElem?_reverse hi]
 have ln:(XT L r.1).length=(YT L 1024 r.1).length:=by unfold XT;rw [List.length_reverse]
 refine⟨by rw [rv 0 (by omega)];exact b.la,?_,fun x hx=>?_,?_,fun i a c h1 h2=>?_⟩
 ·rw [ln,rv _ (by omega),Nat.sub_self]
  exact b.hd
 ·obtain⟨i,_,e⟩:=b.inn x (List.mem_reverse.mp hx)
  exact List.mem_of_getElem? e
 ·unfold XT
  rw [(List.reverse_perm _).nodup_iff];exact b.nd
 ·have l2:=(List.getElem?_eq_some_iff.mp h2).1
  rw [ln] at l2
  rw [rv i (by omega),show (YT L 1024 r.1).length-1-i=(YT L 1024 r.1).length-1-(i+1)+1 by omega] at h1
  rw [rv (i+1) l2] at h2
  exact b.nx _ c a h2 h1
noncomputable def JI (K:W.Frag):Sp:=fun vs H Q _=>∃ (d t:Addr) (ss:List Nat) (kvs:List (List Key×V)) (ps:List (Nat×Nat)) (x y:Nat) (p:Nat×Nat) (L:FL),vs=[.ref d,.ref t]/\H d=some (.dT kvs)/\SrcOk ss H kvs ps/\ps.Nodup/\ps.length<=1024/\H t=some (.tup [.int x,.int y])/\(x,y)∈ps/\ps[0]? = some p/\L.map (·.1)=ps/\Tells H kvs L /\
 ∀ l (rs:List Addr) H',Same H H'->H l=none->H' l=some (.lst (rv rs))->PrT H' rs ((XT L (x,y)).map np)->Ue ss p (x,y) ps (XT L (x,y))->(XT L (x,y)).length<=1024->Q (.ref l) H'
theorem ZdN (B:Blt mg) (yU:mg "reversed" = none) (S:Src K mg "walk_to" Wp ["sources", "last"]):Fn P w K mg base 1 "walk_to" ["sources", "last"] (JI K):=by
 have sc:Zm ["sources", "last", "walk"] ["sources", "last"] (Zg Wp):=fsc
 refine S.fn sc (fun vs H Q E h=>by obtain⟨d,t,ss,kvs,ps,x,y,p0,L,rfl,_⟩:=h;rfl) fun f cdv A outer s H vs Q E hr h=>?_
 have hu:=Wm hr
 obtain⟨d,t,ss,kvs,ps,x,y,p0,L,rfl,hd,hsrc,hnd,hl,ht,hxy,h0,ml,tl,k⟩:=h
 have hLO:=Zi0 hsrc hnd h0 ml tl
 have hLl:L.length=ps.length:=by rw [<- ml,List.length_map]
 refine⟨_,(@Zb _ _ _ _ _ (Zn (i:=2) sc.nd rfl (Or.inl rfl) (Wu (Za (pv 1) Zc)))
   (@Zb _ _ _ _ _ (Jc PassesOwn.never (Zs ZgX (Zdg (huD hu) (pv 0) (Zw (ixL K) (pv 2) (VH ZcC Ze) (fun _ _=>rfl)) (fun _ _=>rfl)) JX (Zt _))
   (@Zf _ _ _ (Yo (Zgb K PySem.F.plainAttrs_list PySem.F.slot_list_append PySem.F.type_list_append VP (pv 2) (Za (Zdg (huD hu) (pv 0) (Zw (ixL K) (pv 2) (VH ZcC Ze) (fun _ _=>rfl)) (fun _ _=>rfl)) Zc)))))
   (@Zf _ _ _ (Zo (Zcb K rfl (pv 2) rfl B.list rfl yU PyProof.Rows.boot_list PyProof.Rows.boot_reversed))))),?_⟩
 walk_at "rd"
 refine⟨by rw [sizeLine_eq];decide,?_⟩
 intro p hp_p
 generalize hq_p:upd _ p _=H1
 have s_H1:Same _ H1:=hq_p▸Same.upd hp_p
 have e_H1:H1 p=some _:=hq_p▸Zd
 clear hq_p
 obtain⟨j0,hj0,ej0⟩:=List.mem_iff_getElem.mp hxy
 refine Zgx (fun z σ' H'=>∃ (wl:List Addr) (r:Addr) (ws:List (Nat×Nat)) (q:Nat×Nat),σ'=[some (.ref d),some (.ref t),some (.ref p)]/\Same H H'/\H' p=some (.lst (rv (wl++[r])))/\PrT H' (wl++[r]) ((ws++[q]).map np)/\H' r=some (.tup [.int q.1,.int q.2])/\ps[z]? = some q/\(∀ q'∈ws++[q],q'∈ps)/\ws.length+z<1024/\YT L 1024 (x,y)=ws++YT L (1024-ws.length) q) j0
  ⟨[],t,[],(x,y),rfl,s_H1,e_H1,.cons (s_H1 _ _ ht) .nil,s_H1 _ _ ht,by rw [List.getElem?_eq_getElem hj0,ej0],fun q' hq=>by rw [List.mem_singleton.mp hq];exact hxy,by simp only [List.length_nil];omega,rfl⟩ ?_
 rintro z σ' H' ⟨wl,r,ws,q,rfl,sm,hp',hP,hr',ez,hin,hlen,hbw⟩
 have hkl:kvs.length=ps.length:=by
  have:=congrArg List.length hsrc.1
  rwa [List.length_map,List.length_map] at this
 have hz:z<kvs.length:=by rw [hkl];exact (List.getElem?_eq_some_iff.mp ez).1
 have ekv:kvs[z]? = some kvs[z]:=List.getElem?_eq_getElem hz
 have ev:=ZfW hsrc.1 hnd ez ekv
 have hd':=sm _ _ hd
 have hget:DGet H' d (.ref r) (some kvs[z].2):=by rw [<- ev];exact DGet.t (k:=kp q) hd' hr'
 have hlw:wl.length=ws.length:=by
  have:=hP.len
  rw [List.length_map,List.length_append,List.length_append] at this
  exact Nat.succ.inj this
 obtain⟨lr,elr⟩:∃ lr,L[z]? = some lr:=⟨_,List.getElem?_eq_getElem (by rw [<- tl.1];exact hz)⟩
 have elq:lr.1=q:=by
  have:=ez
  rw [<- ml,List.getElem?_map,elr] at this
  exact Option.some.inj this
 have esr:=ZcP hLO.1 elr
 rw [elq] at esr
 refine⟨!decide (kvs[z].2=V.non),?_,?_,?_⟩
 ·intro Bb hB
  walk_at "rd"
  exact⟨_,SqL.of hp',_,ZbW,_,hget,hB⟩
 ·intro hm N hN
  rcases hsrc.2 z _ ekv with ⟨_,e⟩ | ⟨a,k',q',r',h1,h2,h3,h4,h5,h6⟩
  ·rw [e] at hm;cases hm
  walk_at "rd"
  refine⟨.inl ⟨_,SqL.of hp'⟩,_,SqL.of hp',_,ZbW,_,hget,?_⟩
  refine⟨_,hp',by rw [Yn,List.length_append,sizeLine_eq,hlw];simp only [List.length_singleton];omega,?_⟩
  rw [h4]
  have esq:Vw L q=some q':=by
   rcases tl.2 z _ _ ekv elr with ⟨_,e2⟩ | ⟨q2,a',e2,e3,e4⟩
   ·rw [h4] at e2;cases e2
   ·rw [h4] at e3
    cases e3
    rw [h5] at e4
    injection e4 with e4
    injection e4 with e4
    injection e4 with e5 e6
    injection e6 with e6 _
    injection e5 with e5
    injection e6 with e6
    rw [esr,e2,show q'=q2 from Prod.ext (Int.ofNat_inj.mp e5) (Int.ofNat_inj.mp e6)]
  have hbw':YT L 1024 (x,y)=(ws++[q])++YT L (1024-(ws++[q]).length) q':=by
   rw [hbw,show 1024-ws.length=(1024-(ws++[q]).length)+1 by rw [List.length_append,List.length_singleton];omega,ZaM esq,List.append_assoc]
   rfl
  have ha:=sm _ _ h5
  have up:∀ b xs,H' b=some (.tup xs)->upd H' p (.lst (rv (wl++[r])++[V.ref a])) b=some (.tup xs):=fun b xs e=>by rw [Zh (fun z=>by subst z;rw [hp'] at e;cases e)];exact e
  refine hN _ _ k' h1 ⟨wl++[r],a,ws++[q],q',rfl,sm.write hp_p,by rw [Zd,ZbD],?_,up _ _ ha,h2,fun q'' hq=>?_,by rw [List.length_append,List.length_singleton];omega,hbw'⟩
  ·rw [List.map_append (l₁:=ws++[q])]
   exact (hP.write hp').snoc (up _ _ ha)
  ·rcases List.mem_append.mp hq with e | e
   ·exact hin _ e
   ·rw [List.mem_singleton.mp e];exact List.mem_of_getElem? h2
 ·intro hm
  walk_at "rd"
  refine⟨_,SqL.of hp',fun l hl0=>?_⟩
  have e:(rv (wl++[r])).reverse=rv (wl++[r]).reverse:=by unfold rv;rw [List.map_reverse]
  rw [e]
  have esn:Vw L q=none:=by
   rcases tl.2 z _ _ ekv elr with ⟨e2,_⟩ | ⟨q2,a',e2,e3,e4⟩
   ·rw [esr];exact e2
   ·rw [e3] at hm;cases hm
  have eW:XT L (x,y)=(ws++[q]).reverse:=by
   unfold XT
   rw [hbw,ZaN esn]
  have hP2:PrT (upd H' l (.lst (rv (wl++[r]).reverse))) (wl++[r]).reverse ((XT L (x,y)).map np):=by
   rw [eW,List.map_reverse]
   exact Zc8 (hP.same (Same.upd hl0))
  have wk:=Zgy hLO (by omega) (by rw [ml];exact hxy:(x,y)∈L.map (·.1))
  rw [ml] at wk
  exact k l (wl++[r]).reverse _ (sm.trans (Same.upd hl0)) (sm.free hl0) Zd hP2 wk (by rw [eW,List.length_reverse,List.length_append,List.length_singleton];omega)
noncomputable def Uw (K:W.Frag):Sp:=fun vs H Q _=>∃ (s:Addr) (ss:List Nat),vs=[.ref s]/\SqL K H s (nv ss)/\Sds ss/\OG.Ac (EdS ss)/\∀ H',Same H H'->Q .non H'
theorem ZeC {kvs:List (List Key×V)}{ps:List (Nat×Nat)}{q:Nat×Nat}{v:V}(hk:kvs.map (·.1)=ps.map kp)(hn:ps.Nodup):∃ rs:List (Nat×Nat),(JS kvs (kp q) v).map (·.1)=rs.map kp/\rs.Nodup/\∀ r∈rs,r∈ps\/r=q:=by
 by_cases h:q∈ps
 ·refine⟨ps,?_,hn,fun r hr=>.inl hr⟩
  have e:(kvs.any fun kv=>decide (kv.1=kp q))=true:=by
   rw [XE,Xy hk q,decide_eq_true h]
  unfold JS
  rw [if_pos e,List.map_map,<- hk]
  refine List.map_congr_left fun kv _=>?_
  show (if kv.1=kp q then (kv.1,v) else kv).1=kv.1
  split<;>rfl
 ·refine⟨ps++[q],?_,?_,fun r hr=>?_⟩
  ·rw [Jb v (ZaR hk h),List.map_append,List.map_append,hk];rfl
  ·rw [List.nodup_append]
   exact⟨hn,by simp,fun x hx y hy e=>h (by rw [List.mem_singleton.mp hy] at e;rw [<- e];exact hx)⟩
  ·rw [List.mem_append,List.mem_singleton] at hr
   exact hr
theorem WQ:∀ {qs:List (Nat×Nat)} {more kvs:List (List Key×V)} {ps:List (Nat×Nat)},more.map (·.1)=qs.map kp->kvs.map (·.1)=ps.map kp->ps.Nodup->∃ rs:List (Nat×Nat),(Vl kvs more).map (·.1)=rs.map kp/\rs.Nodup/\∀ r∈rs,r∈ps\/r∈qs
 | [],[],kvs,ps,_,hk,hn=>⟨ps,hk,hn,fun r hr=>.inl hr⟩
 | [],m::ms,kvs,ps,h,_,_=>by cases h
 | q::qs,[],kvs,ps,h,_,_=>by cases h
 | q::qs,m::ms,kvs,ps,h,hk,hn=>by
  rw [List.map_cons,List.map_cons,List.cons.injEq] at h
  obtain⟨rs,h1,h2,h3⟩:=ZeC (q:=q) (v:=m.2) hk hn
  obtain⟨ts,k1,k2,k3⟩:=WQ (more:=ms) (qs:=qs) h.2 h1 h2
  refine⟨ts,?_,k2,fun r hr=>?_⟩
  ·rw [<- k1]
   show (Vl (JS kvs m.1 m.2) ms).map (·.1)=_
   rw [h.1]
  ·rcases k3 r hr with z | z
   ·exact (h3 r z).imp_right fun e=>by rw [e];exact List.mem_cons_self
   ·exact .inr (List.mem_cons_of_mem _ z)
structure RWI (ss:List Nat)(H:Hp)(p:Addr)(H':Hp):Prop where
 sm:Same H H'
 ex:∃ (kvs:List (List Key×V)) (ps:List (Nat×Nat)),H' p=some (.dT kvs)/\kvs.map (·.1)=ps.map kp/\ps.Nodup/\∀ q∈ps,EdS ss q.1 q.2
theorem RWI.same {ss:List Nat}{H H' H'':Hp}{p:Addr}(h:RWI ss H p H')(s:Same H' H''):RWI ss H p H'' :=
 ⟨h.sm.trans s,by obtain⟨kvs,ps,h1,h2⟩:=h.ex;exact⟨kvs,ps,s _ _ h1,h2⟩⟩
theorem Uo (B:Blt mg) (S:Src K mg "refuse_walk" ZZ ["sides"]) (ye:Fn P w K mg base 1 "places_of" ["bits"] ZV) (yo:Fn P w K mg base 3 "forced_from" ["sides", "pair"] (Xb K)):Fn P w K mg base 4 "refuse_walk" ["sides"] (Uw K):=by
 have sc:Zm ["sides", "asked", "one", "side", "other", "sources"] ["sides"] (Zg ZZ):=fsc
 refine S.fn sc (fun vs H Q E h=>by obtain⟨a,ss,rfl,_⟩:=h;rfl) fun f cdv A outer s H vs Q E hr h=>?_
 have hu:=Wm hr
 obtain⟨a,ss,rfl,hS,hD,hA,k⟩:=h
 refine⟨_,(@Zb _ _ _ _ _ (Zn (i:=1) sc.nd rfl (Or.inl rfl) Je)
   (@Zf _ _ _ (Yd PassesOwn.never rfl (Zdc K rfl B.enumerate (Za (pv 0) Zc)) (pgT K (n:=2) rfl (ZD (pg_name (i:=2) sc.nd rfl (Or.inl rfl)) (ZD (pg_name (i:=3) sc.nd rfl (Or.inl rfl)) XB)))
   (@Zf _ _ _ (Yd PassesOwn.never rfl (piL K (Zi ye hr.m rfl (Za (pv 3) Zc))) (pg_name (i:=4) sc.nd rfl (Or.inl rfl))
   (@Zf _ _ _ (Yc (UA (VI (huD hu) (Xu (Za (pv 2) (Za (pv 4) Zc))) (pv 1)))
   (@Zb _ _ _ _ _ (Zn (i:=5) sc.nd rfl (Or.inl rfl) (Zi yo hr.m rfl (Za (pv 0) (Za (Xu (Za (pv 2) (Za (pv 4) Zc))) Zc))))
   (@Zb _ _ _ _ _ (Yc (UA (Zdi (huD hu) (Xu (Za (pv 4) (Za (pv 2) Zc))) (pv 5)))
   (@Zf _ _ _ ZbH)
   Zq)
   (@Zf _ _ _ (Yo (Zgb K PySem.F.plainAttrs_dict PySem.F.slot_dict_update PySem.F.type_dict_update (Zaf (huD hu)) (pv 1) (Za (pv 5) Zc))))))
   Zq))))))),?_⟩
 walk_at "rd"
 intro p hp
 have s0:Same H (upd H p (.dT [])):=Same.upd hp
 refine⟨⟨_,s0.seq hS⟩,?_⟩
 refine Zbl (xs:=nv ss) (fun i σ' H'=>RWI ss H p H'/\∃ v2 v3 v4 v5,σ'=[some (.ref a),some (.ref p),v2,v3,v4,v5]) ⟨⟨s0,[],[],Zd,rfl,List.nodup_nil,by simp⟩,none,none,none,none,rfl⟩ (fun i σ' H' _ ⟨r,_⟩=>r.sm.seq hS) ?_ (fun σ' H' ⟨r,_⟩=>k _ r.sm)
 rintro i x σ' H1 T ex ⟨R,v2,v3,v4,v5,rfl⟩ hT
 obtain⟨sd,es,rfl⟩:=ZQ ex
 walk_at "rd"
 have hi:i<ss.length:=(List.getElem?_eq_some_iff.mp es).1
 have hsd:sd=ss.getD i 0:=by rw [OM.Yi hi];exact (List.getElem?_eq_some_iff.mp es).2.symm
 have sT:Same H1 (upd H1 T (.tup [.int (i:Nat),.int (sd:Nat)])):=Same.upd hT
 have eT:upd H1 T (.tup [.int (i:Nat),.int (sd:Nat)]) T=some (.tup [.int (i:Nat),.int (sd:Nat)]):=Zd
 generalize upd H1 T (.tup [.int (i:Nat),.int (sd:Nat)])=H4 at sT eT
 have big:sd<2^1000:=by
  rw [hsd]
  exact Nat.lt_of_lt_of_le (hD.lt i hi) (Nat.pow_le_pow_right (by decide) (by have:=hD.len;omega))
 refine⟨_,SqT.of eT,rfl,_,_,rfl,_,_,rfl,rfl,_,rfl,big,fun pl H5 s5 hpl0 hpl=>?_⟩
 walk_at "rd"
 refine⟨⟨_,SqL.of hpl⟩,?_⟩
 have R4:=R.same (sT.trans s5)
 have hpp:pl≠p:=by
  obtain⟨_,_,e,_⟩:=(R.same sT).ex
  exact fun z=>by subst z;rw [e] at hpl0;cases hpl0
 refine ZbP (xs:=nv (OM.ZA sd)) (fun j σ'' H6=>RWI ss H p H6/\H6 pl=some (.lst (nv (OM.ZA sd)))/\∃ v4 v5,σ''=[some (.ref a),some (.ref p),some (.int (i:Nat)),some (.int (sd:Nat)),v4,v5])
  ⟨R4,hpl,v4,v5,rfl⟩ (fun j σ' H' _ ⟨_,h,_⟩=>SqL.of h) ?_ (fun σ' H' ⟨r,_,v4,v5,e⟩=>by subst e;walk_at "rd";exact r)
 rintro j y σ'' H6 ey ⟨R6,hp6,v4,v5,rfl⟩ N' R' T' hN'
 obtain⟨q,eq,rfl⟩:=ZQ ey
 have hiq:EdS ss i q:=by
  have:=OM.ZH.mp (List.mem_of_getElem? eq)
  unfold EdS
  rw [<- hsd];exact this
 walk_at "rd"
 refine⟨by rw [sizeLine_eq];decide,?_⟩
 intro t1 hp_t1
 generalize hq_t1:upd _ t1 _=H7
 have s_H7:Same _ H7:=hq_t1▸Same.upd hp_t1
 have e_H7:H7 t1=some _:=hq_t1▸Zd
 clear hq_t1
 have R7:=R6.same s_H7
 have hp7:=s_H7 _ _ hp6
 obtain⟨kvs,ps,h1,h2,h3,h4⟩:=R7.ex
 refine⟨_,DGet.t (k:=kp (i,q)) h1 e_H7,?_⟩
 rw [Xy h2]
 by_cases hin:(i,q)∈ps
 ·rw [decide_eq_true hin,if_neg (by decide)]
  exact hN' _ _ ⟨R7,hp7,_,_,rfl⟩
 rw [decide_eq_false hin,if_pos (by decide)]
 refine⟨by rw [sizeLine_eq];decide,?_⟩
 intro t2 hp_t2
 generalize hq_t2:upd _ t2 _=H8
 have s_H8:Same _ H8:=hq_t2▸Same.upd hp_t2
 have e_H8:H8 t2=some _:=hq_t2▸Zd
 clear hq_t2
 have R8:=R7.same s_H8
 have hp8:=s_H8 _ _ hp7
 refine⟨a,t2,ss,i,q,rfl,R8.sm.seq hS,e_H8,hD,hiq,fun l more qs H9 s9 hl0 hl9 hsrc hnd hq0 hfew hclo=>?_⟩
 have R9:=R8.same s9
 have hp9:=s9 _ _ hp8
 have hE:∀ r∈qs,EdS ss r.1 r.2:=fun r hr=>((hclo r).mp hr).inE hiq
 have hlp:p≠l:=by
  obtain⟨_,_,e,_⟩:=R8.ex
  exact fun z=>by subst z;rw [e] at hl0;cases hl0
 walk_at "rd"
 refine⟨by rw [sizeLine_eq];decide,?_⟩
 intro t3 hp_t3
 generalize hq_t3:upd _ t3 _=Ha
 have s_Ha:Same _ Ha:=hq_t3▸Same.upd hp_t3
 have e_Ha:Ha t3=some _:=hq_t3▸Zd
 clear hq_t3
 have Ra:=R9.same s_Ha
 have hpa:=s_Ha _ _ hp9
 have hla:=s_Ha _ _ hl9
 refine⟨_,DGet.t (k:=kp (q,i)) hla e_Ha,?_⟩
 rw [Xy hsrc.1,decide_eq_false (fun z=>hA i q hiq ((hclo _).mp z)),if_neg (by decide)]
 obtain⟨kvs,ps,h1,h2,h3,h4⟩:=Ra.ex
 have few:=Wx hD h3 h4
 have l1:kvs.length=ps.length:=by
  have:=congrArg List.length h2
  rwa [List.length_map,List.length_map] at this
 have l2:more.length=qs.length:=by
  have:=congrArg List.length hsrc.1
  rwa [List.length_map,List.length_map] at this
 refine⟨.inr (.inr (.inl (.inr ⟨_,h1⟩))),hlp,kvs,h1,more,hla,qs,hsrc.1,fun r hr=>?_,by rw [sizeLine_eq];omega,hN' _ _ ⟨⟨Ra.sm.write hp,?_⟩,by rw [Zh hpp];exact hpa,_,_,rfl⟩⟩
 ·have:=hD.lt2 (hE r hr)
  have:=hD.len
  exact⟨by omega,by omega⟩
 ·obtain⟨rs,k1,k2,k3⟩:=WQ hsrc.1 h2 h3
  exact⟨_,rs,Zd,k1,k2,fun r hr=>(k3 r hr).elim (h4 r) (hE r)⟩
structure Zlb (K:W.Frag)(C:Addr)(f:Str):Prop where
 cls:Vq K C
 sa:W.findIn K (.ref C) "__setattr__" = some (some (.builtin "object.__setattr__"))
 no:W.findIn K (.ref C) f=some none
 ob:W.subIn K (.ref C) (.type "object")=some true
noncomputable def Vz (K:W.Frag)(C:Addr):Sp:=fun vs H Q _=>∃ (y a:Addr) (rs:List Addr) (ws:List (Nat×Nat)),vs=[.ref y,.ref a]/\H y=some (.ext (XN y C none))/\H a=some (.lst (rv rs))/\PrT H rs (ws.map np)/\(∀ q∈ws,q.1<32/\q.2<32)/\ws.length<=1024 /\
 ∀ l dx,H l=none->H dx=none->l≠dx->Q .non (upd (upd (upd H l (.lst (rv rs))) dx (.xd [("walk",.ref l)])) y (.ext (XN y C (some dx))))
theorem Zbi {C yb f:Addr} {fd:FuncData} (B:Blt mg) (S:Fun K "__init__" "NoTwoRows.__init__" Zr f fd) (ym:mg "OrderError" = some (.ref yb)) (yD:Zic K yb) (FX:Zlb K C "walk"):FnOk P w K mg base CX0 1 f fd ["self", "walk"] (Vz K C):=by
 have sc:Zm ["self", "walk"] ["self", "walk"] (Zg Zr):=fsc
 refine S.ok sc (fun vs H Q E h=>by obtain⟨y,a,rs,ws,rfl,_⟩:=h;rfl) fun cdv A outer s H vs Q E hr h=>?_
 have hu:=Wm hr
 obtain⟨y,a,rs,ws,rfl,hy,ha,hP,hi,hl,k⟩:=h
 refine⟨_,(@Zb _ _ _ _ _ (Yo (Za5 yD rfl ym (Za (pv 0) (Za (ZgT (ZiJ (ZeF hr (pv 1) ZiK))) Zc))))
   (@Zf _ _ _ (ZgO (pv 0) (YR (WG K) rfl B.list PyProof.Rows.boot_list (Za (pv 1) Zc)) rfl))),?_⟩
 walk_at "rd"
 refine⟨rs,ha,ws,hP,hi,hl,fun z=>⟨C,⟨_,hy⟩,FX.cls,_,.inl (SqL.of ha),fun l hl0=>?_⟩⟩
 refine⟨C,by rw [Zh (Zj hy hl0)];exact hy,FX.cls,FX.sa,FX.no,FX.ob,fun dx hdx hdy=>?_⟩
 have hne:dx≠l:=fun z=>by subst z;rw [Zd] at hdx;cases hdx
 rw [Zh hne] at hdx
 exact k l dx hl0 hdx (Ne.symm hne)
noncomputable def UJ (ss:List Nat)(i q:Nat):Prop:=EdS ss i q/\OG.Clo (EdS ss) (i,q) (q,i)/\(∀ a b,a<i->EdS ss a b->¬ OG.Clo (EdS ss) (a,b) (b,a))/\∃ j:Nat,(OM.ZA (ss.getD i 0))[j]? = some q/\∀ q'∈(OM.ZA (ss.getD i 0)).take j,¬ OG.Clo (EdS ss) (i,q') (q',i)
theorem ZbN {ps:List Nat}{j j' q:Nat}(e:ps[j]? = some q)(h:j<j'):q∈ps.take j':=by
 refine List.mem_of_getElem? (i:=j) ?_
 rw [List.getElem?_take_of_lt h];exact e
theorem ZdQ {ss:List Nat}{i q i' q':Nat}(h:UJ ss i q)(h':UJ ss i' q'):i=i'/\q=q':=by
 obtain⟨e,c,m,j,ej,mj⟩:=h
 obtain⟨e',c',m',j',ej',mj'⟩:=h'
 have hi:i=i':=by
  rcases Nat.lt_trichotomy i i' with z | z | z
  ·exact absurd c (m' i q z e)
  ·exact z
  ·exact absurd c' (m i' q' z e')
 subst hi
 refine⟨rfl,?_⟩
 rcases Nat.lt_trichotomy j j' with z | z | z
 ·exact absurd c (mj' q (ZbN ej z))
 ·subst z
  rw [ej] at ej'
  exact Option.some.inj ej'
 ·exact absurd c' (mj q' (ZbN ej' z))
noncomputable def Zby (K:W.Frag) (CN:Addr):Sp:=fun vs H Q E=>∃ (s:Addr) (ss:List Nat),vs=[.ref s]/\SqL K H s (nv ss)/\Sds ss/\¬ OG.Ac (EdS ss)/\∀ (i q:Nat) (ps:List (Nat×Nat)) (dx wl:Addr) (rs:List Addr) H',UJ ss i q->(∀ x∈ps,EdS ss x.1 x.2)->Ue ss (i,q) (q,i) ps (XT (ffL ss (i,q)) (q,i))->(XT (ffL ss (i,q)) (q,i)).length<=1024->Same H H'->H dx=none->H wl=none->H' dx=some (.xd [("walk",.ref wl)])->H' wl=some (.lst (rv rs))->PrT H' rs ((XT (ffL ss (i,q)) (q,i)).map np)->E (.ref CN) (some dx) H'
theorem Zhq {E:Nat->Nat->Prop}{p q:Nat×Nat}(G:OG.Gr E)(hp:E p.1 p.2)(h:¬ OG.Clo E p p.swap)(hq:OG.Clo E p q):¬ OG.Clo E q q.swap:=fun z =>
 h ((hq.trans z).trans ((hq.turn G).symm G (G.sym hp)))
structure RWX (ss:List Nat)(H:Hp)(p:Addr)(H':Hp):Prop where
 sm:Same H H'
 ex:∃ (kvs:List (List Key×V)) (ps:List (Nat×Nat)),H' p=some (.dT kvs)/\kvs.map (·.1)=ps.map kp/\ps.Nodup/\∀ q∈ps,EdS ss q.1 q.2/\¬ OG.Clo (EdS ss) q q.swap
theorem RWX.same {ss:List Nat}{H H' H'':Hp}{p:Addr}(h:RWX ss H p H')(s:Same H' H''):RWX ss H p H'' :=
 ⟨h.sm.trans s,by obtain⟨kvs,ps,h1,h2⟩:=h.ex;exact⟨kvs,ps,s _ _ h1,h2⟩⟩
theorem Vo {ya fI:Addr} {fdI:FuncData} (B:Blt mg) (S:Src K mg "refuse_walk" ZZ ["sides"]) (ye:Fn P w K mg base 1 "places_of" ["bits"] ZV) (yo:Fn P w K mg base 3 "forced_from" ["sides", "pair"] (We K)) (ycb:Fn P w K mg base 1 "walk_to" ["sources", "last"] (JI K))
  (yi:mg "NoTwoRows" = some (.ref ya)) (yK:MkX K ya fI) (yHa:FnOk P w K mg base CX0 1 fI fdI ["self", "walk"] (Vz K ya)) (yL:Binds K fdI ["self", "walk"] []):FnX P w K mg base 4 "refuse_walk" ["sides"] (Zby K ya):=by
 have sc:Zm ["sides", "asked", "one", "side", "other", "sources"] ["sides"] (Zg ZZ):=fsc
 refine S.fnX sc (fun vs H Q E h=>by obtain⟨a,ss,rfl,_⟩:=h;rfl) fun f cdv A outer s H vs Q E hr h=>?_
 have hu:=Wm hr
 obtain⟨a,ss,rfl,hS,hD,nA,k2⟩:=h
 refine⟨_,(@Zb _ _ _ _ _ (Zn (i:=1) sc.nd rfl (Or.inl rfl) Je)
   (@Zf _ _ _ (Yd (Rz.own Zez) rfl (Zdc K rfl B.enumerate (Za (pv 0) Zc)) (pgT K (n:=2) rfl (ZD (pg_name (i:=2) sc.nd rfl (Or.inl rfl)) (ZD (pg_name (i:=3) sc.nd rfl (Or.inl rfl)) XB)))
   (@Zf _ _ _ (Yd (Rz.own Zez) rfl (piL K (Zi ye hr.m rfl (Za (pv 3) Zc))) (pg_name (i:=4) sc.nd rfl (Or.inl rfl))
   (@Zf _ _ _ (Yc (UA (VI (huD hu) (Xu (Za (pv 2) (Za (pv 4) Zc))) (pv 1)))
   (@Zb _ _ _ _ _ (Zn (i:=5) sc.nd rfl (Or.inl rfl) (Zi yo hr.m rfl (Za (pv 0) (Za (Xu (Za (pv 2) (Za (pv 4) Zc))) Zc))))
   (@Zb _ _ _ _ _ (Yc (UA (Zdi (huD hu) (Xu (Za (pv 4) (Za (pv 2) Zc))) (pv 5)))
   (@Zf _ _ _ (Zc4 Zez yK yHa hr.m yL rfl yi (Za (Zi ycb hr.m rfl (Za (pv 5) (Za (Xu (Za (pv 4) (Za (pv 2) Zc))) Zc))) Zc)))
   Zq)
   (@Zf _ _ _ (Yo (Zgb K PySem.F.plainAttrs_dict PySem.F.slot_dict_update PySem.F.type_dict_update (Zaf (huD hu)) (pv 1) (Za (pv 5) Zc))))))
   Zq))))))),?_⟩
 walk_at "rd"
 intro p hp
 have s0:Same H (upd H p (.dT [])):=Same.upd hp
 refine⟨⟨_,s0.seq hS⟩,?_⟩
 refine Zbl (xs:=nv ss) (fun i σ' H'=>RWX ss H p H'/\(∀ a b,a<i->EdS ss a b->¬ OG.Clo (EdS ss) (a,b) (b,a))/\∃ v2 v3 v4 v5,σ'=[some (.ref a),some (.ref p),v2,v3,v4,v5]) ⟨⟨s0,[],[],Zd,rfl,List.nodup_nil,by simp⟩,fun a b h=>absurd h (Nat.not_lt_zero a),none,none,none,none,rfl⟩ (fun i σ' H' _ ⟨r,_⟩=>r.sm.seq hS) ?_
  (fun σ' H' ⟨r,hc,_⟩=>absurd (fun a b e=>hc a b (by rw [Zu];exact Jp e) e) nA)
 rintro i x σ' H1 T ex ⟨R,hc,v2,v3,v4,v5,rfl⟩ hT
 obtain⟨sd,es,rfl⟩:=ZQ ex
 walk_at "rd"
 have hi:i<ss.length:=(List.getElem?_eq_some_iff.mp es).1
 have hsd:sd=ss.getD i 0:=by rw [OM.Yi hi];exact (List.getElem?_eq_some_iff.mp es).2.symm
 have sT:Same H1 (upd H1 T (.tup [.int (i:Nat),.int (sd:Nat)])):=Same.upd hT
 have eT:upd H1 T (.tup [.int (i:Nat),.int (sd:Nat)]) T=some (.tup [.int (i:Nat),.int (sd:Nat)]):=Zd
 generalize upd H1 T (.tup [.int (i:Nat),.int (sd:Nat)])=H4 at sT eT
 have big:sd<2^1000:=by
  rw [hsd]
  exact Nat.lt_of_lt_of_le (hD.lt i hi) (Nat.pow_le_pow_right (by decide) (by have:=hD.len;omega))
 refine⟨_,SqT.of eT,rfl,_,_,rfl,_,_,rfl,rfl,_,rfl,big,fun pl H5 s5 hpl0 hpl=>?_⟩
 walk_at "rd"
 refine⟨⟨_,SqL.of hpl⟩,?_⟩
 have R4:=R.same (sT.trans s5)
 have hpp:pl≠p:=by
  obtain⟨_,_,e,_⟩:=(R.same sT).ex
  exact fun z=>by subst z;rw [e] at hpl0;cases hpl0
 refine Wk (xs:=nv (OM.ZA sd)) (fun j σ'' H6=>RWX ss H p H6/\H6 pl=some (.lst (nv (OM.ZA sd)))/\(∀ q∈(OM.ZA sd).take j,¬ OG.Clo (EdS ss) (i,q) (q,i))/\∃ v4 v5,σ''=[some (.ref a),some (.ref p),some (.int (i:Nat)),some (.int (sd:Nat)),v4,v5])
  ⟨R4,hpl,by simp,v4,v5,rfl⟩ (fun j σ' H' _ ⟨_,h,_⟩=>SqL.of h) ?_ (fun σ' H' ⟨r,_,hc2,v4,v5,e⟩=>by
   subst e
   rw [Zu,List.take_length] at hc2
   walk_at "rd"
   refine⟨r,fun a b hab e=>?_⟩
   by_cases ha:a=i
   ·subst ha
    refine hc2 b (OM.ZH.mpr ?_)
    rw [hsd];exact e
   ·exact hc a b (by omega) e)
 rintro j y σ'' H6 ey ⟨R6,hp6,hc2,v4,v5,rfl⟩
 obtain⟨q,eq,rfl⟩:=ZQ ey
 have hiq:EdS ss i q:=by
  have:=OM.ZH.mp (List.mem_of_getElem? eq)
  unfold EdS
  rw [<- hsd];exact this
 have cov:¬ OG.Clo (EdS ss) (i,q) (q,i)->∀ q'∈(OM.ZA sd).take (j+1),¬ OG.Clo (EdS ss) (i,q') (q',i):=fun z q' hq=>by
  rw [List.take_add_one,eq,Option.toList_some] at hq
  rcases List.mem_append.mp hq with h | h
  ·exact hc2 q' h
  ·rw [List.mem_singleton.mp h];exact z
 walk_at "rd"
 refine⟨by rw [sizeLine_eq];decide,?_⟩
 intro t1 hp_t1
 generalize hq_t1:upd _ t1 _=H7
 have s_H7:Same _ H7:=hq_t1▸Same.upd hp_t1
 have e_H7:H7 t1=some _:=hq_t1▸Zd
 clear hq_t1
 have R7:=R6.same s_H7
 have hp7:=s_H7 _ _ hp6
 obtain⟨kvs,ps,h1,h2,h3,h4⟩:=R7.ex
 refine⟨_,DGet.t (k:=kp (i,q)) h1 e_H7,?_⟩
 rw [Xy h2]
 by_cases hin:(i,q)∈ps
 ·rw [decide_eq_true hin,if_neg (by decide)]
  exact⟨R7,hp7,cov (h4 _ hin).2⟩
 rw [decide_eq_false hin,if_pos (by decide)]
 refine⟨by rw [sizeLine_eq];decide,?_⟩
 intro t2 hp_t2
 generalize hq_t2:upd _ t2 _=H8
 have s_H8:Same _ H8:=hq_t2▸Same.upd hp_t2
 have e_H8:H8 t2=some _:=hq_t2▸Zd
 clear hq_t2
 have R8:=R7.same s_H8
 have hp8:=s_H8 _ _ hp7
 refine⟨a,t2,ss,i,q,rfl,R8.sm.seq hS,e_H8,hD,hiq,fun l more qs H9 s9 hl0 hl9 hsrc hnd hq0 hfew hclo hml htl=>?_⟩
 have R9:=R8.same s9
 have hp9:=s9 _ _ hp8
 have hE:∀ r∈qs,EdS ss r.1 r.2:=fun r hr=>((hclo r).mp hr).inE hiq
 have hlt:∀ r∈qs,r.1<32/\r.2<32:=fun r hr=>by
  have:=hD.lt2 (hE r hr)
  have:=hD.len
  exact⟨by omega,by omega⟩
 have hlp:p≠l:=by
  obtain⟨_,_,e,_⟩:=R8.ex
  exact fun z=>by subst z;rw [e] at hl0;cases hl0
 walk_at "rd"
 refine⟨by rw [sizeLine_eq];decide,?_⟩
 intro t3 hp_t3
 generalize hq_t3:upd _ t3 _=Ha
 have s_Ha:Same _ Ha:=hq_t3▸Same.upd hp_t3
 have e_Ha:Ha t3=some _:=hq_t3▸Zd
 clear hq_t3
 have Ra:=R9.same s_Ha
 have hpa:=s_Ha _ _ hp9
 have hla:=s_Ha _ _ hl9
 have hsra:=hsrc.keep fun b xs e=>s_Ha _ _ e
 refine⟨_,DGet.t (k:=kp (q,i)) hla e_Ha,?_⟩
 rw [Xy hsrc.1]
 by_cases hwalk:(q,i)∈qs
 ·rw [decide_eq_true hwalk,if_pos (by decide)]
  refine⟨by rw [sizeLine_eq];decide,?_⟩
  intro t4 hp_t4
  generalize hq_t4:upd _ t4 _=Hb
  have s_Hb:Same _ Hb:=hq_t4▸Same.upd hp_t4
  have e_Hb:Hb t4=some _:=hq_t4▸Zd
  clear hq_t4
  refine⟨l,t4,ss,more,qs,q,i,(i,q),_,rfl,s_Hb _ _ hla,hsra.keep fun b xs e=>s_Hb _ _ e,hnd,hfew,e_Hb,hwalk,hq0,hml,(htl.keep fun b xs e=>s_Ha _ _ e).keep fun b xs e=>s_Hb _ _ e,fun wl rs Hc sc' hwl0 hwl hPw hwk hlw=>⟨by rw [sizeLine_eq];decide,?_⟩⟩
  intro yy hyy
  have smc:Same H Hc:=(Ra.sm.trans s_Hb).trans sc'
  have sy:Same Hc (upd Hc yy (.ext (XN yy ya none))):=Same.upd hyy
  refine⟨yy,wl,rs,_,rfl,Zd,sy _ _ hwl,hPw.same sy,fun q' hq=>hlt q' (hwk.inn q' hq),hlw,fun l' dx hl' hdx hne=>⟨rfl,some dx,Zd,?_⟩⟩
  have n1:l'≠yy:=fun z=>by subst z;rw [Zd] at hl';cases hl'
  have n2:dx≠yy:=fun z=>by subst z;rw [Zd] at hdx;cases hdx
  refine k2 i q qs dx l' rs _ ⟨hiq,(hclo _).mp hwalk,hc,j,by rw [<- hsd];exact eq,by rw [<- hsd];exact hc2⟩ hE hwk hlw (smc.trans ?sx) (smc.free (sy.free hdx)) (smc.free (sy.free hl')) ?_ ?_ (hPw.same ?sx)
  case sx =>
   intro b o eb
   have hb:b≠yy:=fun z=>by subst z;rw [hyy] at eb;cases eb
   have eb2:=sy _ _ eb
   rw [Wd hb,Zh hb,Zh (fun z=>by subst z;rw [hdx] at eb2;cases eb2),Zh (fun z=>by subst z;rw [hl'] at eb2;cases eb2)]
   exact eb2
  ·rw [Wd n2,Zh n2,Zd]
  ·rw [Wd n1,Zh n1,Zh hne,Zd]
 rw [decide_eq_false hwalk,if_neg (by decide)]
 have hno:¬ OG.Clo (EdS ss) (i,q) (q,i):=fun z=>hwalk ((hclo _).mpr z)
 obtain⟨kvs,ps,h1,h2,h3,h4⟩:=Ra.ex
 have few:=Wx hD h3 fun r hr=>(h4 r hr).1
 have l1:kvs.length=ps.length:=by
  have:=congrArg List.length h2
  rwa [List.length_map,List.length_map] at this
 have l2:more.length=qs.length:=by
  have:=congrArg List.length hsrc.1
  rwa [List.length_map,List.length_map] at this
 refine⟨.inr (.inr (.inl (.inr ⟨_,h1⟩))),hlp,kvs,h1,more,hla,qs,hsrc.1,hlt,by rw [sizeLine_eq];omega,⟨Ra.sm.write hp,?_⟩,by rw [Zh hpp];exact hpa,cov hno⟩
 obtain⟨rs,k1,k2,k3⟩:=WQ hsrc.1 h2 h3
 exact⟨_,rs,Zd,k1,k2,fun r hr=>(k3 r hr).elim (h4 r) fun z=>⟨hE r z,Zhq (p:=(i,q)) hD.gr hiq hno ((hclo r).mp z)⟩⟩
noncomputable def Zen (ds:List Nat)(i q:Nat):List (Nat×Nat):=XT (ffL (sidesN ds) (i,q)) (q,i)
noncomputable def JJ (K:W.Frag) (CN:Addr):Sp:=fun vs H Q E=>∃ (d:Addr) (ds:List Nat) (n:Nat),vs=[.ref d]/\SqL K H d (nv ds)/\OkR n ds/\n<=32/\¬ OG.Ac (EdS (sidesN ds))/\∀ (i q:Nat) (ps:List (Nat×Nat)) (dx wl:Addr) (rs:List Addr) H',UJ (sidesN ds) i q->(∀ x∈ps,EdS (sidesN ds) x.1 x.2)->Ue (sidesN ds) (i,q) (q,i) ps (Zen ds i q)->(Zen ds i q).length<=1024->Same H H'->H dx=none->H wl=none->H' dx=some (.xd [("walk",.ref wl)])->H' wl=some (.lst (rv rs))->PrT H' rs ((Zen ds i q).map np)->E (.ref CN) (some dx) H'
theorem ZdO {ya:Addr} (B:Blt mg) (S:Src K mg "two_rows" Yj ["downs"]) (yV:Fn P w K mg base 3 "sides_of" ["downs"] (UU K)) (yE:FnX P w K mg base 4 "refuse_walk" ["sides"] (Zby K ya)):FnX P w K mg base 5 "two_rows" ["downs"] (JJ K ya):=by
 have sc:Zm ["downs", "sides", "aheads", "first", "second"] ["downs"] (Zg Yj):=fsc
 refine S.fnX sc (fun vs H Q E h=>by obtain⟨d,ds,n,rfl,_⟩:=h;rfl) fun f cdv A outer s H vs Q E hr h=>?_
 have hu:=Wm hr
 obtain⟨d,ds,n,rfl,hS,hO,hn,hA,k⟩:=h
 refine⟨_,(@Zb _ _ _ _ _ (Zn (i:=1) sc.nd rfl (Or.inl rfl) (Zi yV hr.m rfl (Za (pv 0) Zc)))
   (@Zb _ _ _ _ _ (Yo (ZeI Zez yE hr.m rfl (Za (pv 1) Zc)))
   Zc3)),?_⟩
 walk_at "rd"
 refine⟨d,ds,n,rfl,hS,hO,hn,fun sd H1 s1 hs0 hs1=>?_⟩
 walk_at "rd"
 exact⟨sd,_,rfl,SqL.of hs1,JP hO hn,hA,fun i q ps dx wl rs H2 h1 h2 h3 h4 s2 h5 h6 h7 h8 h9=>k i q ps dx wl rs H2 h1 h2 h3 h4 (s1.trans s2) (s1.free h5) (s1.free h6) h7 h8 h9⟩
theorem VB:∀ {L M:List (Nat×Nat)},L.Perm M->(∀ p∈L,p.2<2^256)->L.Pairwise (fun x y=>pkey x<=pkey y)->M.Pairwise (fun x y=>pkey x<=pkey y)->L=M
 | [],M,h,_,_,_=>(List.nil_perm.mp h).symm
 | x::L,[],h,_,_,_=>absurd h.length_eq (by simp)
 | x::L,y::M,h,hb,h1,h2=>by
  obtain⟨a1,a2⟩:=List.pairwise_cons.mp h1
  obtain⟨b1,b2⟩:=List.pairwise_cons.mp h2
  have hb':∀ p∈y::M,p.2<2^256:=fun p hp=>hb p (h.mem_iff.mpr hp)
  have e:x=y:=by
   have hx:x∈y::M:=h.mem_iff.mp List.mem_cons_self
   have hy:y∈x::L:=h.mem_iff.mpr List.mem_cons_self
   rcases List.mem_cons.mp hx with z | z
   ·exact z
   ·rcases List.mem_cons.mp hy with z2 | z2
    ·exact z2.symm
    ·exact ZeE (hb x List.mem_cons_self) (hb' y List.mem_cons_self) (Nat.le_antisymm (a1 y z2) (b1 x z))
  subst e
  rw [VB (List.Perm.cons_inv h) (fun p hp=>hb p (List.mem_cons_of_mem _ hp)) a2 b2]
theorem Zhu {a b:Nat}(h:∀ i,a.testBit i=true->b.testBit i=true):a<=b:=by
 have e:a&&&b=a:=Nat.eq_of_testBit_eq fun i=>by
  rw [Nat.testBit_and]
  cases z:a.testBit i with
  | false=>rfl
  | true=>rw [h i z];rfl
 rw [<- e]
 exact Nat.and_le_right
noncomputable def Zeo (as:List Nat)(h l:Nat):List Nat:=as.set h (as.getD h 0|||1<<<l)
noncomputable def XV (rs:List Nat)(l h:Nat):List Nat:=rs.set l (rs.getD l 0-(rs.getD l 0&&&1<<<h))
theorem ZbL {xs:List Nat}{i j v:Nat}(hi:i<xs.length):(xs.set i v).getD j 0=if i=j then v else xs.getD j 0:=by
 rw [List.getD,List.getD,List.getElem?_set]
 by_cases e:i=j
 ·subst e;rw [if_pos rfl,if_pos hi,if_pos rfl];rfl
 ·rw [if_neg e,if_neg e]
theorem Zkw {as:List Nat}{h l x y:Nat}(hh:h<as.length):EdS (Zeo as h l) y x↔EdS as y x\/(l,h)=(x,y):=by
 unfold EdS Zeo
 rw [ZbL hh,Prod.mk.injEq]
 by_cases e:h=y
 ·subst e
  rw [if_pos rfl,Nat.testBit_or,Nat.one_shiftLeft,Nat.testBit_two_pow,Bool.or_eq_true,decide_eq_true_iff]
  exact or_congr_right ⟨fun z=>⟨z,rfl⟩,fun z=>z.1⟩
 ·rw [if_neg e]
  exact⟨.inl,fun z=>z.elim id fun z=>absurd z.2 e⟩
theorem Zgn {rs:List Nat}{h l x y:Nat}(hl:l<rs.length):EdS (XV rs l h) x y↔EdS rs x y/\(l,h)≠(x,y):=by
 unfold EdS XV
 rw [ZbL hl,Ne,Prod.mk.injEq]
 by_cases e:l=x
 ·subst e
  rw [if_pos rfl,OM.YH,Nat.one_shiftLeft,Nat.testBit_two_pow,Bool.and_eq_true,Bool.not_eq_true',decide_eq_false_iff_not]
  exact and_congr_right fun _=>⟨fun z w=>z w.2,fun z w=>z ⟨rfl,w⟩⟩
 ·rw [if_neg e]
  exact⟨fun z=>⟨z,fun w=>e w.1⟩,fun z=>z.1⟩
noncomputable def YW (as:List Nat)(ps:List (Nat×Nat)):List Nat:=ps.foldl (fun s p=>Zeo s p.2 p.1) as
noncomputable def ZP (rs:List Nat)(ps:List (Nat×Nat)):List Nat:=ps.foldl (fun s p=>XV (XV s p.1 p.2) p.2 p.1) rs
theorem Za0:∀ {ps:List (Nat×Nat)} {as:List Nat},(YW as ps).length=as.length
 | [],as=>rfl
 | p::ps,as=>by
  show (YW (Zeo as p.2 p.1) ps).length=_
  rw [Za0];unfold Zeo;rw [List.length_set]
theorem WP {rs:List Nat}{l h:Nat}:(XV rs l h).length=rs.length:=by unfold XV;rw [List.length_set]
theorem UQ:∀ {ps:List (Nat×Nat)} {rs:List Nat},(ZP rs ps).length=rs.length
 | [],rs=>rfl
 | p::ps,rs=>by
  show (ZP (XV (XV rs p.1 p.2) p.2 p.1) ps).length=_
  rw [UQ,WP,WP]
theorem Zgm {x y:Nat}:∀ {ps:List (Nat×Nat)} {as:List Nat},(∀ p∈ps,p.2<as.length)->(EdS (YW as ps) y x↔EdS as y x\/(x,y)∈ps)
 | [],as,_=>⟨.inl,fun h=>h.elim id fun z=>nomatch z⟩
 | p::ps,as,h=>by
  show EdS (YW (Zeo as p.2 p.1) ps) y x↔_
  rw [Zgm fun q hq=>by unfold Zeo;rw [List.length_set];exact h q (List.mem_cons_of_mem _ hq),Zkw (h p List.mem_cons_self),List.mem_cons,or_assoc,show (p.1,p.2)=p from rfl,eq_comm (a:=p)]
theorem Zbm {x y:Nat}:∀ {ps:List (Nat×Nat)} {rs:List Nat},(∀ p∈ps,p.1<rs.length/\p.2<rs.length)->(EdS (ZP rs ps) x y↔EdS rs x y/\(x,y)∉ps/\(y,x)∉ps)
 | [],rs,_=>⟨fun h=>⟨h,by simp,by simp⟩,fun h=>h.1⟩
 | p::ps,rs,h=>by
  show EdS (ZP (XV (XV rs p.1 p.2) p.2 p.1) ps) x y↔_
  have h0:=h p List.mem_cons_self
  rw [Zbm fun q hq=>by rw [WP,WP];exact h q (List.mem_cons_of_mem _ hq),Zgn (by rw [WP];exact h0.2),Zgn h0.1,List.mem_cons,List.mem_cons]
  obtain⟨p1,p2⟩:=p
  simp only [Ne,Prod.mk.injEq,not_or,not_and]
  constructor
  ·rintro⟨⟨⟨a,b⟩,c⟩,d,e⟩
   exact⟨a,⟨fun z w=>b z.symm w.symm,d⟩,⟨fun z w=>c w.symm z.symm,e⟩⟩
  ·rintro⟨a,⟨b,d⟩,⟨c,e⟩⟩
   exact⟨⟨⟨a,fun z w=>b z.symm w.symm⟩,fun z w=>c w.symm z.symm⟩,d,e⟩
theorem ZbR {rs ss:List Nat}{n:Nat}(hl:rs.length=n)(h:∀ x y,EdS rs x y->y<n):∀ i,i<n->rs.getD i 0<2^n:=fun i hi=>by
 apply Nat.lt_pow_two_of_testBit
 intro y hy
 cases e:(rs.getD i 0).testBit y with
 | false=>rfl
 | true=>exact absurd (h i y e) (by omega)
structure Grp (rs:List Nat)(one x:Nat)(ps:List (Nat×Nat)):Prop where
 nd:ps.Nodup
 mem:∀ q,q∈ps↔OG.Clo (EdS rs) (one,x) q
 up:ps.Pairwise (fun x y=>pkey x<=pkey y)
theorem Grp.one {rs:List Nat}{one x:Nat}{ps qs:List (Nat×Nat)}(S:Sds rs)(hx:EdS rs one x)(h:Grp rs one x ps)(h':Grp rs one x qs):ps=qs :=
 VB ((List.perm_ext_iff_of_nodup h.nd h'.nd).mpr fun q=>(h.mem q).trans (h'.mem q).symm) (fun p hp=>by
  have:=(S.lt2 (((h.mem p).mp hp).inE hx)).2
  have:=S.len
  exact Nat.lt_of_lt_of_le (show p.2<2^6 by omega) (Nat.pow_le_pow_right (by decide) (by decide))) h.up h'.up
inductive Run:Nat->List Nat->List Nat->List Nat->Prop
 | done {one:Nat} {rs as:List Nat} (h:rs.length<=one):Run one rs as as
 | next {one:Nat} {rs as out:List Nat} (h:one<rs.length) (h0:rs.getD one 0=0) (t:Run (one+1) rs as out):Run one rs as out
 | step {one x:Nat} {rs as out:List Nat} {ps:List (Nat×Nat)} (h:one<rs.length) (h0:rs.getD one 0≠0) (S:Sds rs) (hx:(OM.ZA (rs.getD one 0))[0]? = some x) (g:Grp rs one x ps) (t:Run one (ZP rs ps) (YW as ps) out):Run one rs as out
theorem Run.same {one:Nat}{rs as out out':List Nat}(h:Run one rs as out)(h':Run one rs as out'):out=out':=by
 induction h with
 | done h =>
  cases h' with
  | done _=>rfl
  | next k _ _=>omega
  | step k _ _ _ _ _=>omega
 | next h h0 t ih =>
  cases h' with
  | done k=>omega
  | next _ _ t'=>exact ih t'
  | step _ k _ _ _ _=>exact absurd h0 k
 | step h h0 S hx g t ih =>
  cases h' with
  | done k=>omega
  | next _ k _=>exact absurd k h0
  | step _ _ _ hx' g' t' =>
   rw [hx] at hx'
   cases hx'
   rw [(Grp.one S (OM.ZH.mp (List.mem_of_getElem? hx)) g' g)] at t'
   exact ih t'
noncomputable def chosenF (ss:List Nat):List Nat:=Classical.epsilon fun out=>Run 0 ss (List.replicate ss.length 0) out
theorem Zd1 {ss out:List Nat}(h:Run 0 ss (List.replicate ss.length 0) out):out=chosenF ss:=h.same (Classical.epsilon_spec (p:=fun out=>Run 0 ss (List.replicate ss.length 0) out) ⟨out,h⟩)
structure ChI (ss:List Nat)(one:Nat)(rs as:List Nat):Prop where
 lr:rs.length=ss.length
 la:as.length=ss.length
 ch:OG.Ch (EdS ss) (EdS rs) (fun a b=>EdS as b a)
 sub:∀ x y,EdS rs x y->EdS ss x y
 nil:∀ k,k<one->rs.getD k 0=0
 run:∀ out,Run one rs as out->Run 0 ss (List.replicate ss.length 0) out
theorem ChI.sds {ss rs as:List Nat}{one:Nat}(I:ChI ss one rs as)(S:Sds ss):Sds rs :=
 ⟨by rw [I.lr];exact S.len,fun i hi=>by rw [I.lr] at hi ⊢;exact ZbR (ss:=ss) I.lr (fun x y e=>(S.lt2 (I.sub x y e)).2) i hi,I.ch.gr⟩
theorem ChI.start {ss:List Nat}(S:Sds ss)(hA:OG.Ac (EdS ss)):ChI ss 0 ss (List.replicate ss.length 0):=by
 refine⟨rfl,List.length_replicate,?_,fun _ _ e=>e,fun k h=>absurd h (Nat.not_lt_zero k),fun _ h=>h⟩
 have e:(fun a b=>EdS (List.replicate ss.length 0) b a)=fun _ _=>False:=by
  funext a b
  refine propext ⟨fun h=>?_,False.elim⟩
  unfold EdS at h
  rw [List.getD,List.getElem?_replicate] at h
  split at h<;>simp at h
 rw [e]
 exact .start S.gr hA
theorem ChI.next {ss rs as:List Nat}{one:Nat}(I:ChI ss one rs as)(h:one<ss.length)(h0:rs.getD one 0=0):ChI ss (one+1) rs as :=
 ⟨I.lr,I.la,I.ch,I.sub,fun k hk=>by
  by_cases e:k=one
  ·rw [e];exact h0
  ·exact I.nil k (by omega),fun out t=>I.run out (.next (by rw [I.lr];exact h) h0 t)⟩
theorem ChI.step {ss rs as:List Nat}{one x:Nat}{ps:List (Nat×Nat)}(I:ChI ss one rs as)(S:Sds ss)(h:one<ss.length)(h0:rs.getD one 0≠0)(hx:(OM.ZA (rs.getD one 0))[0]? = some x)(g:Grp rs one x ps):ChI ss one (ZP rs ps) (YW as ps):=by
 have hS:=I.sds S
 have hox:EdS rs one x:=OM.ZH.mp (List.mem_of_getElem? hx)
 have hlt:∀ p∈ps,p.1<ss.length/\p.2<ss.length:=fun p hp=>by
  have:=hS.lt2 (((g.mem p).mp hp).inE hox)
  rw [I.lr] at this
  exact this
 have hr:∀ x y,EdS (ZP rs ps) x y↔EdS rs x y/\(x,y)∉ps/\(y,x)∉ps:=fun x y=>Zbm fun p hp=>by rw [I.lr];exact hlt p hp
 have ha:∀ x y,EdS (YW as ps) y x↔EdS as y x\/(x,y)∈ps:=fun x y=>Zgm fun p hp=>by rw [I.la];exact (hlt p hp).2
 have e1:EdS (ZP rs ps)=OG.ZbY (EdS rs) (one,x):=by
  funext u v
  refine propext ((hr u v).trans (and_congr_right fun _=>?_))
  rw [g.mem,g.mem,<- not_or]
  exact Iff.rfl
 have e2:(fun a b=>EdS (YW as ps) b a)=fun a b=>EdS as b a\/OG.Clo (EdS rs) (one,x) (a,b):=by
  funext u v
  exact propext ((ha u v).trans (or_congr_right (g.mem _)))
 refine⟨by rw [UQ];exact I.lr,by rw [Za0];exact I.la,by rw [e1,e2];exact I.ch.step (p:=(one,x)) hox,fun u v e=>I.sub u v ((hr u v).mp e).1,fun k hk=>?_,fun out t=>I.run out (.step (by rw [I.lr];exact h) h0 hS hx g t)⟩
 refine Nat.eq_of_testBit_eq fun v=>?_
 rw [Nat.zero_testBit]
 refine Bool.eq_false_iff.mpr fun e=>?_
 have e:=((hr k v).mp e).1
 unfold EdS at e
 rw [I.nil k hk,Nat.zero_testBit] at e
 cases e
theorem ChI.less {ss rs as:List Nat}{one x:Nat}{ps:List (Nat×Nat)}(I:ChI ss one rs as)(S:Sds ss)(hx:(OM.ZA (rs.getD one 0))[0]? = some x)(g:Grp rs one x ps):(ZP rs ps).getD one 0<rs.getD one 0:=by
 have hS:=I.sds S
 have hox:EdS rs one x:=OM.ZH.mp (List.mem_of_getElem? hx)
 have hr:∀ x y,EdS (ZP rs ps) x y↔EdS rs x y/\(x,y)∉ps/\(y,x)∉ps:=fun x y=>Zbm fun p hp=>hS.lt2 (((g.mem p).mp hp).inE hox)
 refine Nat.lt_of_le_of_ne (Zhu fun v e=>((hr one v).mp e).1) fun e=>?_
 have h1:EdS (ZP rs ps) one x:=by unfold EdS;rw [e];exact hox
 exact ((hr one x).mp h1).2.1 ((g.mem _).mpr .base)
theorem ChI.fin {ss rs as:List Nat}(I:ChI ss ss.length rs as):as=chosenF ss/\OG.TO (EdS ss) (fun a b=>EdS as b a):=by
 refine⟨Zd1 (I.run _ (.done (by rw [I.lr];exact Nat.le_refl _))),I.ch.done fun a b e=>?_⟩
 have:=Jp e
 rw [I.lr] at this
 unfold EdS at e
 rw [I.nil a this,Nat.zero_testBit] at e
 cases e
theorem Zfn {rows:List (List Nat)}{n:Nat}:(OM.dwL rows n).length=n:=by unfold OM.dwL;rw [List.length_map,List.length_range]
theorem Zdl {n a b u:Nat}(ha:a<2^n)(hb:b<2^n)(h:∀ i,a.testBit i=true->b.testBit i=true)(h1:b.testBit u=true)(h2:¬ a.testBit u=true):OM.Ju a<OM.Ju b:=by
 rw [<- OM.WO n a ha,<- OM.WO n b hb]
 have hu:u<n:=Classical.byContradiction fun z=>by
  rw [Nat.testBit_lt_two_pow (Nat.lt_of_lt_of_le hb (Nat.pow_le_pow_right (by decide) (Nat.le_of_not_lt z)))] at h1
  cases h1
 have:=OM.Jf (xs:=u::(List.range n).filter a.testBit) (ys:=(List.range n).filter b.testBit) (List.nodup_cons.mpr ⟨fun z=>h2 (List.mem_filter.mp z).2,List.Pairwise.filter _ List.nodup_range⟩) fun r hr=>by
  rcases List.mem_cons.mp hr with e | e
  ·rw [e];exact List.mem_filter.mpr ⟨List.mem_range.mpr hu,h1⟩
  ·have:=List.mem_filter.mp e
   exact List.mem_filter.mpr ⟨this.1,h r this.2⟩
 rw [List.length_cons] at this
 exact this
structure Tot (as:List Nat):Prop where
 lt:∀ a b,EdS as b a->a<as.length
 rf:∀ a,a<as.length->EdS as a a
 tr:∀ {a b c},EdS as b a->EdS as c b->EdS as c a
 an:∀ {a b},EdS as b a->EdS as a b->a=b
 to:∀ {a b},a<as.length->b<as.length->EdS as b a\/EdS as a b
theorem Tot.bd {as:List Nat}(T:Tot as){a:Nat}(h:a<as.length):as.getD a 0<2^as.length:=ZbR (ss:=as) rfl (fun x y e=>T.lt y x e) a h
theorem Tot.less {as:List Nat}(T:Tot as){u t:Nat}(hu:u<as.length)(ht:t<as.length)(h:EdS as t u)(hne:u≠t):OM.Ju (as.getD u 0)<OM.Ju (as.getD t 0) :=
 Zdl (u:=t) (T.bd hu) (T.bd ht) (fun i hi=>T.tr hi h) (T.rf t ht) fun z=>hne (T.an h z)
noncomputable def ZaO (as ns:List Nat):Prop:=ns.Perm (List.range as.length)/\ns.Pairwise (fun a b=>OM.Ju (as.getD a 0)<=OM.Ju (as.getD b 0))
theorem Tot.one {as ns ms:List Nat}(T:Tot as)(h:ZaO as ns)(h':ZaO as ms):ns=ms :=
 (h.1.trans h'.1.symm).eq_of_pairwise (fun a b ha hb h1 h2=>Classical.byContradiction fun hne=>by
  have ha:=List.mem_range.mp (h.1.mem_iff.mp ha)
  have hb:=List.mem_range.mp (h'.1.mem_iff.mp hb)
  rcases T.to ha hb with z | z
  ·have:=T.less ha hb z hne;omega
  ·have:=T.less hb ha z (Ne.symm hne);omega) h.2 h'.2
noncomputable def ZcW (as:List Nat):List Nat:=Classical.epsilon fun ns=>ZaO as ns
theorem Tot.is {as ns:List Nat}(T:Tot as)(h:ZaO as ns):ns=ZcW as:=T.one h (Classical.epsilon_spec (p:=fun ns=>ZaO as ns) ⟨ns,h⟩)
theorem Tot.idx {as ns:List Nat}(T:Tot as)(h:ZaO as ns){u t:Nat}(hu:u<as.length)(ht:t<as.length):ns.idxOf u<=ns.idxOf t↔EdS as t u:=by
 have lt:∀ {a b},a<as.length->b<as.length->EdS as b a->a≠b->ns.idxOf a<ns.idxOf b:=fun {a b} ha hb e hne=>by
  refine Nat.lt_of_not_le fun z=>?_
  have la:ns.idxOf a<ns.length:=List.idxOf_lt_length_iff.mpr (h.1.mem_iff.mpr (List.mem_range.mpr ha))
  have lb:ns.idxOf b<ns.length:=List.idxOf_lt_length_iff.mpr (h.1.mem_iff.mpr (List.mem_range.mpr hb))
  have h1:ns[ns.idxOf a]=a:=List.getElem_idxOf la
  have h2:ns[ns.idxOf b]=b:=List.getElem_idxOf lb
  have hlt:ns.idxOf b<ns.idxOf a:=Nat.lt_of_le_of_ne z fun e=>hne (by rw [<- h1,<- h2];congr 1;exact e.symm)
  have:=List.pairwise_iff_getElem.mp h.2 _ _ lb la hlt
  rw [h1,h2] at this
  have:=T.less ha hb e hne
  omega
 constructor
 ·intro z
  rcases T.to hu ht with e | e
  ·exact e
  ·by_cases hne:u=t
   ·rw [hne];exact T.rf t ht
   ·have:=lt ht hu e (Ne.symm hne);omega
 ·intro e
  by_cases hne:u=t
  ·rw [hne];exact Nat.le_refl _
  ·exact Nat.le_of_lt (lt hu ht e hne)
noncomputable def Wc (ds ah:List Nat):List Nat:=(List.range ds.length).map fun i=>ds.getD i 0|||ah.getD i 0
noncomputable def Xc (ds ss ah:List Nat):List Nat:=(List.range ds.length).map fun i=>ds.getD i 0|||(ss.getD i 0-(ss.getD i 0&&&ah.getD i 0))
theorem Ub {n:Nat}{f:Nat->Nat}{x y:Nat}:EdS ((List.range n).map f) x y↔x<n/\(f x).testBit y=true:=by
 constructor
 ·intro h
  have h1:=Jp h
  rw [List.length_map,List.length_range] at h1
  unfold EdS at h
  rw [OM.ZE h1] at h
  exact⟨h1,h⟩
 ·rintro⟨h1,h2⟩
  unfold EdS
  rw [OM.ZE h1]
  exact h2
theorem Xs {n:Nat}{ds:List Nat}(R:OM.PO n ds){x y:Nat}:EdS (sidesN ds) x y↔x<n/\y<n/\¬ EdS ds x y/\¬ EdS ds y x:=by
 have hl:=R.len
 constructor
 ·intro h
  have hx:=Jp h
  rw [Xg] at hx
  have:=(ed_near hx).mp h
  refine⟨by omega,by omega,?_⟩
  have h2:=this.2
  unfold Xe at h2
  unfold EdS
  rw [Bool.and_eq_true,Bool.not_eq_true',Bool.not_eq_true'] at h2
  first
   | exact⟨by rw [h2.1];decide,by rw [h2.2];decide⟩
   | exact⟨by rw [h2.2];decide,by rw [h2.1];decide⟩
 ·rintro⟨h1,h2,h3,h4⟩
  refine (ed_near (by omega)).mpr ⟨by omega,?_⟩
  unfold EdS at h3 h4
  unfold Xe
  rw [Bool.and_eq_true,Bool.not_eq_true',Bool.not_eq_true']
  first
   | exact⟨Bool.eq_false_iff.mpr h3,Bool.eq_false_iff.mpr h4⟩
   | exact⟨Bool.eq_false_iff.mpr h4,Bool.eq_false_iff.mpr h3⟩
theorem UH {n:Nat}{ds:List Nat}(R:OM.PO n ds){x y:Nat}(h:EdS ds x y):x<n/\y<n:=by
 have hx:=Jp h
 rw [R.len] at hx
 exact⟨hx,R.dom x y hx h⟩
theorem ZfY {n:Nat}{ds as:List Nat}{T:Nat->Nat->Prop}(R:OM.PO n ds)(O:OG.TO (EdS (sidesN ds)) T)(hl:as.length=n)(ha:∀ a b,EdS as b a↔EdS ds b a\/T a b):Tot as:=by
 have hE:=fun {x y}=>Xs R (x:=x) (y:=y)
 have irr:∀ {a},¬ T a a:=fun h=>O.not h h
 have tdom:∀ {a b},T a b->a<n/\b<n:=fun h=>⟨(hE.mp (O.sub h)).1,(hE.mp (O.sub h)).2.1⟩
 have row:∀ {a b c},a<n->b<n->c<n->(a≠b/\EdS ds b a)\/T a b->(b≠c/\EdS ds c b)\/T b c->(a≠c/\EdS ds c a)\/T a c:=fun {a b c} h1 h2 h3 h4 h5 =>
  OG.Zih (E:=EdS (sidesN ds)) (L:=fun a b=>a≠b/\EdS ds b a) (dom:=fun a=>a<n) (fun {a b c} p q=>by
   refine⟨fun z=>p.1 ?_,R.trans c b a (UH R q.2).1 q.2 p.2⟩
   subst z
   exact R.anti _ _ (UH R q.2).1 q.2 p.2) (fun z=>z.1 rfl) (fun {a b} e=>⟨fun z=>(hE.mp e).2.2.2 z.2,fun z=>(hE.mp e).2.2.1 z.2⟩) O (fun {a b} p q hne=>by
    by_cases k1:EdS ds b a
    ·exact .inl ⟨hne,k1⟩
    ·by_cases k2:EdS ds a b
     ·exact .inr (.inl ⟨Ne.symm hne,k2⟩)
     ·exact .inr (.inr (hE.mpr ⟨p,q,k2,k1⟩))) h1 h2 h3 h4 h5
 have st:∀ {a b},EdS as b a->a=b\/((a≠b/\EdS ds b a)\/T a b):=fun {a b} h=>by
  by_cases e:a=b
  ·exact .inl e
  ·exact .inr (((ha a b).mp h).imp_left fun z=>⟨e,z⟩)
 have dm:∀ {a b},EdS as b a->a<n/\b<n:=fun {a b} h=>((ha a b).mp h).elim (fun z=>⟨(UH R z).2,(UH R z).1⟩) tdom
 refine⟨fun a b h=>by rw [hl];exact (dm h).1,fun a h=>(ha a a).mpr (.inl (R.refl a (by omega))),fun {a b c} h1 h2=>?_,fun {a b} h1 h2=>?_,fun {a b} h1 h2=>?_⟩
 ·rcases st h1 with e | e
  ·rw [e];exact h2
  ·rcases st h2 with f | f
   ·rw [<- f];exact h1
   ·exact (ha a c).mpr ((row (dm h1).1 (dm h1).2 (dm h2).2 e f).imp_left fun z=>z.2)
 ·rcases st h1 with e | e
  ·exact e
  ·rcases st h2 with f | f
   ·exact f.symm
   ·rcases row (dm h1).1 (dm h1).2 (dm h1).1 e f with z | z
    ·exact absurd rfl z.1
    ·exact absurd z irr
 ·by_cases k1:EdS ds b a
  ·exact .inl ((ha a b).mpr (.inl k1))
  ·by_cases k2:EdS ds a b
   ·exact .inr ((ha b a).mpr (.inl k2))
   ·rcases O.one (hE.mpr ⟨by omega,by omega,k2,k1⟩:EdS (sidesN ds) a b) with z | z
    ·exact .inl ((ha a b).mpr (.inr z))
    ·exact .inr ((ha b a).mpr (.inr z))
theorem Yp {ds ah:List Nat}:(Wc ds ah).length=ds.length:=by unfold Wc;rw [List.length_map,List.length_range]
theorem ZY {ds ss ah:List Nat}:(Xc ds ss ah).length=ds.length:=by unfold Xc;rw [List.length_map,List.length_range]
theorem Vu {n:Nat}{ds ah:List Nat}(R:OM.PO n ds)(O:OG.TO (EdS (sidesN ds)) (fun a b=>EdS ah b a)):Tot (Wc ds ah):=by
 refine ZfY R O (by rw [Yp];exact R.len) fun a b=>?_
 unfold Wc
 rw [Ub,Nat.testBit_or,Bool.or_eq_true]
 constructor
 ·rintro⟨_,h⟩;exact h
 ·intro h
  refine⟨?_,h⟩
  rw [R.len]
  rcases h with h | h
  ·exact (UH R h).1
  ·exact ((Xs R).mp (O.sub h)).2.1
theorem WJ {n:Nat}{ds ah:List Nat}(R:OM.PO n ds)(O:OG.TO (EdS (sidesN ds)) (fun a b=>EdS ah b a)):Tot (Xc ds (sidesN ds) ah):=by
 have sym:∀ {x y},EdS (sidesN ds) x y->EdS (sidesN ds) y x:=fun h=>by
  have h:=(Xs R).mp h
  exact (Xs R).mpr ⟨h.2.1,h.1,h.2.2.2,h.2.2.1⟩
 have irr:∀ {x},¬ EdS (sidesN ds) x x:=fun {x} h=>by
  have h:=(Xs R).mp h
  exact h.2.2.1 (R.refl x h.1)
 refine ZfY R (OG.TO.back ⟨sym,irr⟩ O) (by rw [ZY];exact R.len) fun a b=>?_
 unfold Xc
 rw [Ub,Nat.testBit_or,Bool.or_eq_true,OM.YH,Bool.and_eq_true,Bool.not_eq_true']
 constructor
 ·rintro⟨_,h | ⟨h1,h2⟩⟩
  ·exact .inl h
  ·rcases O.one h1 with z | z
   ·exact .inr z
   ·have z:(ah.getD b 0).testBit a=true:=z
    rw [h2] at z;cases z
 ·intro h
  rcases h with h | h
  ·exact⟨by rw [R.len];exact (UH R h).1,.inl h⟩
  ·have e:=O.sub h
   refine⟨by rw [R.len];exact ((Xs R).mp e).1,.inr ⟨e,Bool.eq_false_iff.mpr fun z=>O.not h z⟩⟩
noncomputable def row1 (ds:List Nat):List Nat:=ZcW (Wc ds (chosenF (sidesN ds)))
noncomputable def row2 (ds:List Nat):List Nat:=ZcW (Xc ds (sidesN ds) (chosenF (sidesN ds)))
theorem ZcV {n:Nat}{ds ah r1 r2:List Nat}(R:OM.PO n ds)(O:OG.TO (EdS (sidesN ds)) (fun a b=>EdS ah b a))(h1:ZaO (Wc ds ah) r1)(h2:ZaO (Xc ds (sidesN ds) ah) r2):OM.dwL [r1,r2] n=ds:=by
 have hl:=R.len
 have p1:r1.Perm (List.range n):=by have:=h1.1;rwa [Yp,hl] at this
 have p2:r2.Perm (List.range n):=by have:=h2.1;rwa [ZY,hl] at this
 apply List.ext_getElem
 ·rw [Zfn,hl]
 ·intro i hi hi'
  rw [Zfn] at hi
  have e1:(OM.dwL [r1,r2] n)[i]'(by rw [Zfn];exact hi)=OM.dwF [r1,r2] n i:=by unfold OM.dwL;rw [List.getElem_map,List.getElem_range]
  rw [e1,<- OM.Yi hi']
  apply Nat.eq_of_testBit_eq
  intro u
  rw [Bool.eq_iff_iff,OM.Zgo (fun r hr=>by
   rcases List.mem_cons.mp hr with e | e
   ·rw [e];exact p1
   ·rw [List.mem_singleton.mp e];exact p2)]
  have both:∀ {p:List Nat->Prop},(∀ r∈[r1,r2],p r)↔p r1/\p r2:=fun {p}=>⟨fun h=>⟨h _ (by simp),h _ (by simp)⟩,fun h r hr=>by
   rcases List.mem_cons.mp hr with e | e
   ·rw [e];exact h.1
   ·rw [List.mem_singleton.mp e];exact h.2⟩
  rw [both]
  constructor
  ·rintro⟨hu,k1,k2⟩
   rw [(Vu R O).idx h1 (by rw [Yp];omega) (by rw [Yp];omega)] at k1
   rw [(WJ R O).idx h2 (by rw [ZY];omega) (by rw [ZY];omega)] at k2
   unfold Wc at k1
   unfold Xc at k2
   rw [Ub,Nat.testBit_or,Bool.or_eq_true] at k1
   rw [Ub,Nat.testBit_or,Bool.or_eq_true,OM.YH,Bool.and_eq_true,Bool.not_eq_true'] at k2
   rcases k1.2 with z | z
   ·exact z
   ·rcases k2.2 with y | y
    ·exact y
    ·rw [y.2] at z;cases z
  ·intro h
   have hu:=R.dom i u hi h
   refine⟨hu,((Vu R O).idx h1 (by rw [Yp];omega) (by rw [Yp];omega)).mpr ?_,((WJ R O).idx h2 (by rw [ZY];omega) (by rw [ZY];omega)).mpr ?_⟩
   ·unfold Wc
    rw [Ub,Nat.testBit_or,h];exact⟨by omega,rfl⟩
   ·unfold Xc
    rw [Ub,Nat.testBit_or,h];exact⟨by omega,rfl⟩
noncomputable def JM (K:W.Frag):Sp:=fun vs H Q _=>∃ (s:Addr) (ss:List Nat),vs=[.ref s]/\SqL K H s (nv ss)/\Sds ss/\OG.Ac (EdS ss) /\
 ∀ (l:Addr) H',Same H H'->H l=none->H' l=some (.lst (nv (chosenF ss)))->(chosenF ss).length=ss.length->OG.TO (EdS ss) (fun a b=>EdS (chosenF ss) b a)->Q (.ref l) H'
structure ChH (ss:List Nat)(H:Hp)(al rl:Addr)(one:Nat)(rs as:List Nat)(H':Hp):Prop where
 sm:Same H H'
 ha:H' al=some (.lst (nv as))
 hr:H' rl=some (.lst (nv rs))
 I:ChI ss one rs as
theorem ZeB {as:List Nat}{ps:List (Nat×Nat)}{j:Nat}{p:Nat×Nat}(e:ps[j]? = some p):YW as (ps.take (j+1))=Zeo (YW as (ps.take j)) p.2 p.1:=by
 unfold YW
 rw [List.take_add_one,e,Option.toList_some,List.foldl_append]
 rfl
theorem ZcH {rs:List Nat}{ps:List (Nat×Nat)}{j:Nat}{p:Nat×Nat}(e:ps[j]? = some p):ZP rs (ps.take (j+1))=XV (XV (ZP rs (ps.take j)) p.1 p.2) p.2 p.1:=by
 unfold ZP
 rw [List.take_add_one,e,Option.toList_some,List.foldl_append]
 rfl
theorem Zjr {K:W.Frag}{σ:St}{H:Hp}{D:WH}{u i j h l:Nat}{al:Addr}{as:List Nat}(ha:σ[u]? = some (some (.ref al)))(hi:σ[i]? = some (some (.int (h:Nat))))(hj:σ[j]? = some (some (.int (l:Nat))))(e:H al=some (.lst (nv as)))(hh:h<as.length)(hl:l<64)(q:D.nx σ (upd H al (.lst (nv (Zeo as h l))))) :
  tAugS (ZcI u) (ZcI i) (tOp (rI ZkP fun i j=>V.int (i*2^j.toNat)) (tC (V.int 1)) (ZcI j)) (ZeA K) (rI0 fun i j=>V.int (Builtin.bitOr i j)) Zb9 D σ H:=by
 dsimp only [tAugS,ZcI,tOp,tC,ZeA,rI,rI0,Zb9]
 refine⟨_,ha,_,hi,_,_,_,_,rfl,rfl,SqL.of e,Xw hh,_,hj,_,_,rfl,rfl,⟨by omega,by omega,by decide⟩,_,_,rfl,rfl,_,_,_,_,rfl,rfl,e,Zdn hh,?_⟩
 rw [ZcR,OM.Vj,Zac]
 exact q
theorem Zd9 {K:W.Frag}{σ:St}{H:Hp}{D:WH}{u i j h l:Nat}{al:Addr}{as:List Nat}(ha:σ[u]? = some (some (.ref al)))(hi:σ[i]? = some (some (.int (h:Nat))))(hj:σ[j]? = some (some (.int (l:Nat))))(e:H al=some (.lst (nv as)))(hh:h<as.length)(hl:l<64)(q:D.nx σ (upd H al (.lst (nv (XV as h l))))) :
  tAugS (ZcI u) (ZcI i) (tUn (rU fun i=>V.int (Builtin.bitNot i)) (tOp (rI ZkP fun i j=>V.int (i*2^j.toNat)) (tC (V.int 1)) (ZcI j))) (ZeA K) (rI0 fun i j=>V.int (Builtin.bitAnd i j)) Zb9 D σ H:=by
 dsimp only [tAugS,ZcI,tOp,tC,ZeA,rI,rI0,Zb9,tUn,rU]
 refine⟨_,ha,_,hi,_,_,_,_,rfl,rfl,SqL.of e,Xw hh,_,hj,_,_,rfl,rfl,⟨by omega,by omega,by decide⟩,_,rfl,_,_,rfl,rfl,_,_,_,_,rfl,rfl,e,Zdn hh,?_⟩
 rw [ZcR,Yu,Zac]
 exact q
structure GrH (H:Hp)(al rl l:Addr)(rs':List Addr)(ps':List (Nat×Nat))(as rs:List Nat)(H':Hp):Prop where
 sm:Same H H'
 ha:H' al=some (.lst (nv as))
 hr:H' rl=some (.lst (nv rs))
 hl:H' l=some (.lst (rv rs'))
 hp:PrT H' rs' (ps'.map np)
theorem GrH.setA {H H':Hp}{al rl l:Addr}{rs':List Addr}{ps':List (Nat×Nat)}{as rs as1:List Nat}(G:GrH H al rl l rs' ps' as rs H')(h0:H al=none)(d1:rl≠al)(d2:l≠al):GrH H al rl l rs' ps' as1 rs (upd H' al (.lst (nv as1))) :=
 ⟨G.sm.write h0,Zd,by rw [Zh d1];exact G.hr,by rw [Zh d2];exact G.hl,G.hp.write G.ha⟩
theorem GrH.setR {H H':Hp}{al rl l:Addr}{rs':List Addr}{ps':List (Nat×Nat)}{as rs rs1:List Nat}(G:GrH H al rl l rs' ps' as rs H')(h0:H rl=none)(d1:al≠rl)(d2:l≠rl):GrH H al rl l rs' ps' as rs1 (upd H' rl (.lst (nv rs1))) :=
 ⟨G.sm.write h0,by rw [Zh d1];exact G.ha,Zd,by rw [Zh d2];exact G.hl,G.hp.write G.hr⟩
theorem Zkv {K:W.Frag}{i j:Nat}{f:Addr}{σ:St}{H:Hp}{Q:St->Hp->Prop}{x y:V}(h:SqT K H f [x,y])(q:Q ((σ.set i (some x)).set j (some y)) H):Zjg K 2 (ZdK (Zbe i) (ZdK (Zbe j) Zj3)) (.ref f) σ H Q:=by
 dsimp only [Zjg,ZdK,Zbe,Zj3]
 exact⟨_,_,rfl,h,rfl,_,_,rfl,_,_,rfl,rfl,q⟩
theorem Vp (B:Blt mg) (yw:mg "sorted" = none) (S:Src K mg "aheads_chosen" ZW ["sides"]) (ye:Fn P w K mg base 1 "places_of" ["bits"] ZV) (yo:Fn P w K mg base 3 "forced_from" ["sides", "pair"] (Xb K)):Fn P w K mg base 4 "aheads_chosen" ["sides"] (JM K):=by
 have sc:Zm ["sides", "aheads", "rest", "one", "chosen", "low", "high"] ["sides"] (Zg ZW):=fsc
 refine S.fn sc (fun vs H Q E h=>by obtain⟨a,ss,rfl,_⟩:=h;rfl) fun f cdv A outer s H vs Q E hr h=>?_
 have hu:=Wm hr
 obtain⟨a,ss,rfl,hS,hD,hA,k⟩:=h
 have hlen:=hD.len
 refine⟨_,(@Zb _ _ _ _ _ (Xz (i:=1) sc.nd rfl (Or.inl rfl) (YZ (M:=["side"]) (nt:=1) (cap:=[]) (Zg ZW) ["sides", "aheads", "rest", "one", "chosen", "low", "high"] rfl rfl rfl (by decide +kernel) (by decide +kernel) (by decide +kernel) (fun j hj=>absurd hj (Nat.not_lt_zero j)) rfl) rfl (piL K (pv 0)) (fun cl C fp s' H'=>(pg_name (i:=0) (show (["side"]:List Str).Nodup by decide +kernel) rfl (Or.inl rfl))) (fun cl C fp s' H'=>Yx) (fun cl C fp s' H'=>Ze))
   (@Zb _ _ _ _ _ (Zn (i:=2) sc.nd rfl (Or.inl rfl) (YR (WG K) rfl B.list PyProof.Rows.boot_list (Za (pv 0) Zc)))
   (@Zb _ _ _ _ _ (Yd PassesOwn.never rfl (ZX rfl B.range (Za (Zk (ZI K) rfl B.len PySem.boot_len (Za (pv 0) Zc)) Zc)) (pg_name (i:=3) sc.nd rfl (Or.inl rfl))
   (@Zf _ _ _ (Jc PassesOwn.never (Zs (Ww K hu) (Zw (ixL K) (pv 2) (pv 3) (fun _ _=>rfl)) Ze (Zt _))
   (@Zb _ _ _ _ _ (Zn (i:=4) sc.nd rfl (Or.inl rfl) (Zk (Zd3 K rfl) rfl yw PyProof.Rows.boot_sorted (Za (Zi yo hr.m rfl (Za (pv 2) (Za (Xu (Za (pv 3) (Za (Zw (ixL K) (Zi ye hr.m rfl (Za (Zw (ixL K) (pv 2) (pv 3) (fun _ _=>rfl)) Zc)) Ze (fun _ _=>rfl)) Zc))) Zc))) Zc)))
   (@Zf _ _ _ (Yd PassesOwn.never rfl (piL K (pv 4)) (pgT K (n:=2) rfl (ZD (pg_name (i:=5) sc.nd rfl (Or.inl rfl)) (ZD (pg_name (i:=6) sc.nd rfl (Or.inl rfl)) XB)))
   (@Zb _ _ _ _ _ (Jd (pv 1) (pv 6) (Zj2 K) (Zl Xv Ze (pv 5)) Zi8 set_list)
   (@Zb _ _ _ _ _ (Jd (pv 2) (pv 5) (Zj2 K) (VH Vd (Zl Xv Ze (pv 6))) ZdF set_list)
   (@Zf _ _ _ (Jd (pv 2) (pv 6) (Zj2 K) (VH Vd (Zl Xv Ze (pv 5))) ZdF set_list))))))))))
   (@Zf _ _ _ (Zo (pv 1)))))),?_⟩
 refine cut1 (fun σ' H1=>∃ al,Same H H1/\H al=none/\H1 al=some (.lst (nv (List.replicate ss.length 0)))/\σ'=[some (.ref a),some (.ref al),none,none,none,none,none]) (fun N hN=>?_) ?_
 ·walk_at "rd"
  refine⟨⟨_,hS⟩,fun al hal=>?_⟩
  refine WF (H₀:=H) (VU hS) (fun j acc _=>acc=nv (List.replicate j 0)) (by rw [Zu];exact Nat.le_of_lt (Zz (by omega))) (fun _ _ _ _ _ h=>h) hal rfl ?_ ?_
  ·intro j m y acc pre H2 rr hpre ct
   obtain⟨o,eo,rfl⟩:=ZQ rr
   match pre,hpre with
   | [p0],_ =>
   have hacc:=ct.hp
   walk_at "rd"
   refine ct.yes (Same.refl _) ?_ (pre:=[_]) rfl rfl
   rw [hacc,List.replicate_succ']
   exact VM _ 0
  ·intro acc H2 s2 hl2 e
   rw [Zu] at e
   subst e
   walk_at "rd"
   exact hN _ _ ⟨al,s2,hal,hl2,rfl⟩
 rintro σ' H1 ⟨al,s1,hal0,hal1,rfl⟩
 refine cut1 (fun σ' H2=>∃ rl,Same H1 H2/\H1 rl=none/\H2 rl=some (.lst (nv ss))/\σ'=[some (.ref a),some (.ref al),some (.ref rl),none,none,none,none]) (fun N hN=>?_) ?_
 ·walk_at "rd"
  refine⟨_,.inl (s1.seq hS),?_⟩
  intro rl hp_rl
  generalize hq_rl:upd _ rl _=H2
  have s_H2:Same _ H2:=hq_rl▸Same.upd hp_rl
  have e_H2:H2 rl=some _:=hq_rl▸Zd
  clear hq_rl
  exact hN _ _ ⟨rl,s_H2,hp_rl,e_H2,rfl⟩
 rintro σ' H2 ⟨rl,s_H2,hp_rl,e_H2,rfl⟩
 walk_at "rd"
 refine⟨_,.inl ((s1.trans s_H2).seq hS),?_⟩
 rw [Zu]
 refine⟨by omega,by omega,?_⟩
 rw [Int.toNat_natCast]
 have hra:rl≠al:=fun z=>by subst z;rw [hal1] at hp_rl;cases hp_rl
 have hrl0:H rl=none:=s1.free hp_rl
 refine YY (fun i σ' H'=>∃ (rs as:List Nat) (v3 v4 v5 v6:Option V),ChH ss H al rl i rs as H'/\σ'=[some (.ref a),some (.ref al),some (.ref rl),v3,v4,v5,v6])
  ⟨ss,_,none,none,none,none,⟨s1.trans s_H2,s_H2 _ _ hal1,e_H2,.start hD hA⟩,rfl⟩ ?_ ?_
 ·rintro i σ' H' hi ⟨rs,as,v3,v4,v5,v6,W,rfl⟩
  rw [Int.zero_add]
  refine Zgx (fun z σ' H'=>∃ (rs as:List Nat) (v4 v5 v6:Option V),z=rs.getD i 0/\ChH ss H al rl i rs as H'/\σ'=[some (.ref a),some (.ref al),some (.ref rl),some (.int (i:Nat)),v4,v5,v6]) _ ⟨rs,as,v4,v5,v6,rfl,W,rfl⟩ ?_
  clear W
  rintro z σ' H' ⟨rs,as,v4,v5,v6,rfl,W,rfl⟩
  have hir:i<rs.length:=by rw [W.I.lr];exact hi
  refine⟨decide (rs.getD i 0≠0),?_,?_,?_⟩
  ·intro Bb hB
   walk_at "rd"
   refine⟨_,SqL.of W.hr,_,Xw hir,?_⟩
   have e:(!decide (V.int (rs.getD i 0:Nat)=V.int 0))=decide (rs.getD i 0≠0):=by
    by_cases z:rs.getD i 0=0
    ·rw [z];rfl
    ·rw [decide_eq_true z,decide_eq_false (fun h=>z (by injection h with h;exact_mod_cast h))];rfl
   rw [e]
   exact⟨rfl,hB⟩
  ·intro hm N hN
   have hm:rs.getD i 0≠0:=of_decide_eq_true hm
   have hG:=W.I.sds hD
   have hrl:=hG.len
   have big:rs.getD i 0<2^1000:=Nat.lt_of_lt_of_le (hG.lt i hir) (Nat.pow_le_pow_right (by decide) (by omega))
   obtain⟨x,xs,ex⟩:∃ x xs,OM.ZA (rs.getD i 0)=x::xs:=by
    cases e:OM.ZA (rs.getD i 0) with
    | cons x xs=>exact⟨x,xs,rfl⟩
    | nil =>
     refine absurd (Nat.eq_of_testBit_eq fun j=>?_) hm
     rw [Nat.zero_testBit]
     refine Bool.eq_false_iff.mpr fun h=>?_
     have:=OM.ZH.mpr h
     rw [e] at this
     cases this
   have hx:(OM.ZA (rs.getD i 0))[0]? = some x:=by rw [ex];rfl
   have hox:EdS rs i x:=OM.ZH.mp (List.mem_of_getElem? hx)
   refine cut1 (fun σ' H6=>∃ (l:Addr) (rs':List Addr) (ps':List (Nat×Nat)),Grp rs i x ps'/\l≠al/\l≠rl/\GrH H al rl l rs' ps' as rs H6/\σ'=[some (.ref a),some (.ref al),some (.ref rl),some (.int (i:Nat)),some (.ref l),v5,v6]) (fun N2 hN2=>?_) ?_
   ·walk_at "rd"
    refine⟨_,SqL.of W.hr,_,Xw hir,_,rfl,big,fun pl H3 s3 hpl0 hpl=>?_⟩
    walk_at "rd"
    refine⟨_,SqL.of hpl,.int (x:Nat),by rw [ex];exact WX (j:=0) rfl,by rw [sizeLine_eq];decide,?_⟩
    intro t hp_t
    generalize hq_t:upd _ t _=H4
    have s_H4:Same _ H4:=hq_t▸Same.upd hp_t
    have e_H4:H4 t=some _:=hq_t▸Zd
    clear hq_t
    have s4:=s3.trans s_H4
    refine⟨rl,t,rs,i,x,rfl,SqL.of (s4 _ _ W.hr),e_H4,hG,hox,fun d kvs ps H5 s5 hd0 hd5 hkv nd _ few mem=>?_⟩
    refine⟨d,rfl,kvs,.inl hd5,ps,hkv.1,fun p hp=>?_,fun l rs' ps' hl0 hpm hpw hP=>?_⟩
    ·have:=(hG.lt2 (((mem p).mp hp).inE hox)).2
     exact Nat.lt_of_lt_of_le (show p.2<2^6 by omega) (Nat.pow_le_pow_right (by decide) (by decide))
    have s6:=(s4.trans s5).trans (Same.upd (o:=HO.lst (rv rs')) hl0)
    exact hN2 _ _ ⟨l,rs',ps',⟨hpm.nodup_iff.mpr nd,fun q=>hpm.mem_iff.trans (mem q),hpw⟩,(fun z=>by subst z;rw [(s4.trans s5) _ _ W.ha] at hl0;cases hl0),(fun z=>by subst z;rw [(s4.trans s5) _ _ W.hr] at hl0;cases hl0),⟨W.sm.trans s6,s6 _ _ W.ha,s6 _ _ W.hr,Zd,hP.same (Same.upd hl0)⟩,rfl⟩
   rintro σ' H6 ⟨l,rs',ps',g,hla,hlr,G6,rfl⟩
   walk_at "rd"
   refine⟨⟨_,SqL.of G6.hl⟩,?_⟩
   have hlt:∀ p∈ps',p.1<ss.length/\p.2<ss.length:=fun p hp=>by
    have:=hG.lt2 (((g.mem p).mp hp).inE hox)
    rw [W.I.lr] at this
    exact this
   refine Wk (xs:=rv rs') (fun j σ' H'=>∃ (v5 v6:Option V),GrH H al rl l rs' ps' (YW as (ps'.take j)) (ZP rs (ps'.take j)) H'/\σ'=[some (.ref a),some (.ref al),some (.ref rl),some (.int (i:Nat)),some (.ref l),v5,v6])
    ⟨v5,v6,G6,rfl⟩ (fun j σ' H' _ ⟨_,_,G,_⟩=>SqL.of G.hl) ?_ ?_
   ·rintro j v σ' H7 ev ⟨v5,v6,G,rfl⟩
    obtain⟨f,ef,rfl⟩:=Wf ev
    obtain⟨⟨c,e⟩,ece,hce⟩:=(G.hp.a (K:=K)).getN ef
    obtain⟨hc,he⟩:=hlt _ (List.mem_of_getElem? ece)
    have l1:(YW as (ps'.take j)).length=ss.length:=by rw [Za0];exact W.I.la
    have l2:(ZP rs (ps'.take j)).length=ss.length:=by rw [UQ];exact W.I.lr
    have c32:c<64:=Nat.lt_of_lt_of_le hc (Nat.le_trans hlen (by decide))
    have e32:e<64:=Nat.lt_of_lt_of_le he (Nat.le_trans hlen (by decide))
    have G1:=G.setA (as1:=Zeo (YW as (ps'.take j)) e c) hal0 hra hla
    have G2:=G1.setR (rs1:=XV (ZP rs (ps'.take j)) c e) hrl0 (Ne.symm hra) hlr
    have G3:=G2.setR (rs1:=XV (XV (ZP rs (ps'.take j)) c e) e c) hrl0 (Ne.symm hra) hlr
    exact Zkv hce (Zjr rfl rfl rfl G.ha (by rw [l1];exact he) c32 (Zd9 rfl rfl rfl G1.hr (by rw [l2];exact hc) e32 (Zd9 rfl rfl rfl G2.hr (by rw [WP,l2];exact he) c32 ⟨_,_,by rw [ZeB ece,ZcH ece];exact G3,rfl⟩)))
   ·rintro σ' H7 ⟨v5,v6,⟨sm,h1,h2,h3,hP⟩,rfl⟩
    have:rs'.length=ps'.length:=by rw [hP.len,List.length_map]
    rw [Yn,this,List.take_length] at h1 h2
    exact hN _ _ _ (W.I.less hD hx g) ⟨_,_,_,_,_,rfl,⟨sm,h1,h2,W.I.step hD hi hm hx g⟩,rfl⟩
  ·intro hm
   have hm:rs.getD i 0=0:=Classical.not_not.mp (of_decide_eq_false hm)
   exact⟨rs,as,_,_,_,_,⟨W.sm,W.ha,W.hr,W.I.next hi hm⟩,rfl⟩
 ·rintro σ' H' ⟨rs,as,v3,v4,v5,v6,W,rfl⟩
  obtain⟨e1,e2⟩:=W.I.fin
  walk_at "rd"
  have hla:=W.I.la
  have ha:=W.ha
  rw [e1] at hla e2 ha
  exact k al H' W.sm hal0 ha hla e2
noncomputable def Ux:Sp:=fun vs H Q _=>∃ b:Nat,vs=[.int b]/\b<2^1000/\∀ H',Same H H'->Q (.int (OM.Ju b:Nat)) H'
theorem Zcl (B:Blt mg) (S:Src K mg "many_in" Wq ["bits"]) (ye:Fn P w K mg base 1 "places_of" ["bits"] ZV):Fn P w K mg base 2 "many_in" ["bits"] Ux:=by
 have sc:Zm ["bits"] ["bits"] (Zg Wq):=fsc
 refine S.fn sc (fun vs H Q E h=>by obtain⟨b,rfl,_⟩:=h;rfl) fun f cdv A outer s H vs Q E hr h=>?_
 have hu:=Wm hr
 obtain⟨b,rfl,hb,k⟩:=h
 refine⟨_,(@Zf _ _ _ (Zo (Zk (ZI K) rfl B.len PySem.boot_len (Za (Zi ye hr.m rfl (Za (pv 0) Zc)) Zc)))),?_⟩
 walk_at "rd"
 refine⟨b,rfl,hb,fun l H' sm hl0 hl=>?_⟩
 walk_at "rd"
 refine⟨_,.inl (SqL.of hl),?_⟩
 rw [List.length_map,OM.Za3]
 exact k H' sm
noncomputable def Vy (T:Addr):Sp:=fun vs H Q _=>∃ (al:Addr) (as:List Nat),vs=[.ref al]/\H al=some (.lst (nv as))/\as.length<64/\(∀ x∈as,x<2^1000)/\TblOk H T (Jg ZG) (("row_with" : Str) ++ ".<locals>." ++ "<lambda>") /\
 ∀ l (ns:List Nat) H',ns.Perm (List.range as.length)->ns.Pairwise (fun a b=>OM.Ju (as.getD a 0)<=OM.Ju (as.getD b 0))->SameT H H'->FreshT H l->TblOk H' T (Jg ZG) (("row_with" : Str) ++ ".<locals>." ++ "<lambda>")->H' l=some (.lst (nv ns))->Q (.ref l) H'
theorem Zbh {T cc:Addr} (B:Blt mg) (yw:mg "sorted" = none) (S:SrcC K mg "row_with" ZG ["aheads"] cc) (hHd:W.codeHdIn K cc T=true) (hPm:mainGlobals≠T) (BB:base.BuiltinsAt mg T) (ydb:Fn P w K mg base 2 "many_in" ["bits"] Ux):Fn P w K mg base 8 "row_with" ["aheads"] (Vy T):=by
 have sc:Zm ["aheads"] ["aheads"] (Zg ZG):=fsc
 refine S.fn sc (fun vs H Q E h=>by obtain⟨al,as,rfl,_⟩:=h;rfl) fun f A outer s H vs Q E hr h=>?_
 have hu:=Wm hr
 obtain⟨al,as,rfl,hal,h64,hbig,hT,k⟩:=h
 have hrL:∀ env,Room 2 (((A.deeper (PyProof.Rows.envOfC "row_with" (Zg ZG) s.heap.objs.size f (.ref cc))).in1.in1).deeper env):=fun env=>Room.deeper (k:=2) ((hr.mono (show 5<=7 by decide)).in1.in1) env
 refine⟨_,(@Zf _ _ _ (Zo (Zca (P:=T) (cc:=cc) (z := "aheads") (p := "thing") (iz:=0) (k:=3) rfl hr rfl yw (Za (Zdd rfl B.range (Za (Zk (ZI K) rfl B.len PySem.boot_len (Za (pv 0) Zc)) Zc)) Zc) (Ze2 (by decide +kernel)) rfl hHd hPm BB rfl rfl (fun _ _ _ _=>rfl) rfl rfl rfl (fun f' c' s' H'=>(Zi ydb (hrL _) rfl (Za (Zw (ixL K) (pv 1) (pv 0) (fun _ _=>rfl)) Zc)))))),?_⟩
 walk_at "rd"
 refine⟨_,.inl (SqL.of hal),?_⟩
 rw [Zu]
 intro r hp_r
 generalize hq_r:upd _ r _=H1
 have s_H1:Same _ H1:=hq_r▸Same.upd hp_r
 have e_H1:H1 r=some _:=hq_r▸Zd
 clear hq_r
 refine⟨as.length,e_H1,h64,hT.same s_H1,fun i=>((OM.Ju (as.getD i 0):Nat):Int),fun i hi H' sm=>?_,fun D ns H' g1 g2 sm hfr hT' hD=>k D ns H' g1 (g2.imp fun h=>Int.ofNat_le.mp h) (s_H1.t.trans sm) (hfr.back s_H1.t) hT' hD⟩
 have hal':=sm.lst (s_H1 _ _ hal)
 refine⟨_,SqL.of hal',_,Xw hi,_,rfl,?_,fun H'' s2=>⟨rfl,s2⟩⟩
 rw [OM.Yi hi]
 exact hbig _ (List.getElem_mem hi)
noncomputable abbrev Zj5 (H:Hp) (T:Addr):Prop:=TblOk H T (Jg ZG) (("row_with" : Str) ++ ".<locals>." ++ "<lambda>")
noncomputable def Vx (K : W.Frag) (T : Addr) : Sp := fun vs H Q _ => ∃ (d : Addr) (ds : List Nat) (n : Nat), vs = [.ref d] ∧ SqL K H d (nv ds) ∧ OM.PO n ds ∧ n <= 32 ∧ OG.Ac (EdS (sidesN ds)) ∧ Zj5 H T ∧
  ∀ (t a b : Addr) H', SameT H H' -> FreshT H t -> FreshT H a -> FreshT H b -> a ≠ b -> Zj5 H' T -> H' t = some (.tup [.ref a, .ref b]) -> H' a = some (.lst (nv (row1 ds))) -> H' b = some (.lst (nv (row2 ds))) ->
    (row1 ds).Perm (List.range n) -> (row2 ds).Perm (List.range n) -> OM.dwL [row1 ds, row2 ds] n = ds -> Q (.ref t) H'
theorem Zdb {n:Nat}{ds:List Nat}(R:OM.PO n ds):OkR n ds:=by
 refine⟨R.len,fun i hi=>⟨?_,R.refl i hi⟩⟩
 apply Nat.lt_pow_two_of_testBit
 intro y hy
 cases e:(ds.getD i 0).testBit y with
 | false=>rfl
 | true=>exact absurd (R.dom i y hi e) (by omega)
theorem Tot.big {as:List Nat}(T:Tot as)(h:as.length<=32):∀ x∈as,x<2^1000:=fun x hx=>by
 obtain⟨i,hi,e⟩:=List.mem_iff_getElem.mp hx
 have:=T.bd hi
 rw [OM.Yi hi,e] at this
 exact Nat.lt_of_lt_of_le this (Nat.pow_le_pow_right (by decide) (by omega))
theorem Zbf {T:Addr} (B:Blt mg) (yT:mg "zip" = none) (S:Src K mg "two_rows" Yj ["downs"]) (yV:Fn P w K mg base 3 "sides_of" ["downs"] (UU K)) (yE:Fn P w K mg base 4 "refuse_walk" ["sides"] (Uw K)) (yba:Fn P w K mg base 4 "aheads_chosen" ["sides"] (JM K)) (yca:Fn P w K mg base 8 "row_with" ["aheads"] (Vy T)):Fn P w K mg base 9 "two_rows" ["downs"] (Vx K T):=by
 have sc:Zm ["downs", "sides", "aheads", "first", "second"] ["downs"] (Zg Yj):=fsc
 refine S.fn sc (fun vs H Q E h=>by obtain⟨d,ds,n,rfl,_⟩:=h;rfl) fun f cdv A outer s H vs Q E hr h=>?_
 have hu:=Wm hr
 obtain⟨d,ds,n,rfl,hS,R,hn,hA,hT,k⟩:=h
 have hO:=Zdb R
 have hG:=JP hO hn
 have hl:=R.len
 have hsl:(sidesN ds).length=n:=by rw [Xg];exact hl
 refine⟨_,(@Zb _ _ _ _ _ (Zn (i:=1) sc.nd rfl (Or.inl rfl) (Zi yV hr.m rfl (Za (pv 0) Zc)))
   (@Zb _ _ _ _ _ (Yo (Zi yE hr.m rfl (Za (pv 1) Zc)))
   (@Zb _ _ _ _ _ (Zn (i:=2) sc.nd rfl (Or.inl rfl) (Zi yba hr.m rfl (Za (pv 1) Zc)))
   (@Zb _ _ _ _ _ (Xz (i:=3) sc.nd rfl (Or.inl rfl) (YZ (M:=["down", "ahead"]) (nt:=2) (cap:=[]) (Zg Yj) ["downs", "sides", "aheads", "first", "second"] rfl rfl rfl (by decide +kernel) (by decide +kernel) (by decide +kernel) (fun j hj=>absurd hj (Nat.not_lt_zero j)) rfl) rfl (ZiN K rfl yT (Za (pv 0) (Za (pv 2) Zc))) (fun cl C fp s' H'=>(pgT K (n:=2) rfl (ZD (pg_name (i:=0) (show (["down", "ahead"]:List Str).Nodup by decide +kernel) rfl (Or.inl rfl)) (ZD (pg_name (i:=1) (show (["down", "ahead"]:List Str).Nodup by decide +kernel) rfl (Or.inl rfl)) XB)))) (fun cl C fp s' H'=>Yx) (fun cl C fp s' H'=>(Zl Zdk (pv 0) (pv 1))))
   (@Zb _ _ _ _ _ (Xz (i:=4) sc.nd rfl (Or.inl rfl) (YZ (M:=["down", "side", "ahead"]) (nt:=3) (cap:=[]) (Zg Yj) ["downs", "sides", "aheads", "first", "second"] rfl rfl rfl (by decide +kernel) (by decide +kernel) (by decide +kernel) (fun j hj=>absurd hj (Nat.not_lt_zero j)) rfl) rfl (ZiM K rfl yT (Za (pv 0) (Za (pv 1) (Za (pv 2) Zc)))) (fun cl C fp s' H'=>(pgT K (n:=3) rfl (ZD (pg_name (i:=0) (show (["down", "side", "ahead"]:List Str).Nodup by decide +kernel) rfl (Or.inl rfl)) (ZD (pg_name (i:=1) (show (["down", "side", "ahead"]:List Str).Nodup by decide +kernel) rfl (Or.inl rfl)) (ZD (pg_name (i:=2) (show (["down", "side", "ahead"]:List Str).Nodup by decide +kernel) rfl (Or.inl rfl)) XB))))) (fun cl C fp s' H'=>Yx) (fun cl C fp s' H'=>(Zl Zdk (pv 0) (Zl Xj (pv 1) (VH Vd (pv 2))))))
   (@Zf _ _ _ (Zo (Xu (Za (Zi yca hr.m rfl (Za (pv 3) Zc)) (Za (Zi yca hr.m rfl (Za (pv 4) Zc)) Zc)))))))))),?_⟩
 walk_at "rd"
 refine⟨d,ds,n,rfl,hS,hO,hn,fun sd H1 s1 hs0 hs1=>?_⟩
 walk_at "rd"
 refine⟨sd,_,rfl,SqL.of hs1,hG,hA,fun H2 s2=>?_⟩
 walk_at "rd"
 refine⟨sd,_,rfl,SqL.of (s2 _ _ hs1),hG,hA,fun al H3 s3 ha0 ha3 hal O=>?_⟩
 walk_at "rd"
 have sm3:=(s1.trans s2).trans s3
 have hd3:=sm3.seq hS
 have hs3:=s3 _ _ (s2 _ _ hs1)
 have er1:row1 ds=ZcW (Wc ds (chosenF (sidesN ds))):=rfl
 have er2:row2 ds=ZcW (Xc ds (sidesN ds) (chosenF (sidesN ds))):=rfl
 generalize row1 ds=q1 at k er1
 generalize row2 ds=q2 at k er2
 generalize chosenF (sidesN ds)=ah at *
 refine⟨⟨_,hd3⟩,⟨_,SqL.of ha3⟩,fun l hl0=>?_⟩
 refine WF (H₀:=H3) (Zgk hd3 (SqL.of ha3) (by rw [Zu,Zu];omega)) (fun j acc _=>acc=nv ((List.range j).map fun i=>ds.getD i 0|||ah.getD i 0)) (by rw [Zu];exact Nat.le_of_lt (Zz (by omega))) (fun _ _ _ _ _ h=>h) hl0 rfl ?_ ?_
 ·rintro j mm v acc pre H4 ⟨t,x,y,rfl,hx,hy,ht⟩ hpre ct
  obtain⟨a,ea,rfl⟩:=ZQ hx
  obtain⟨b,eb,rfl⟩:=ZQ hy
  have hacc:=ct.hp
  match pre,hpre with
  | [p0,p1],_ =>
  walk_at "rd"
  refine⟨_,SqT.of ht,rfl,_,_,rfl,_,_,rfl,rfl,?_⟩
  refine⟨_,rfl,_,rfl,?_⟩
  rw [OM.Vj]
  refine ct.yes (Same.refl _) ?_ (pre:=[_,_]) rfl rfl
  rw [hacc,List.range_succ,List.map_append,VM]
  have e1:ds.getD j 0=a:=by rw [List.getD,ea];rfl
  have e2:ah.getD j 0=b:=by rw [List.getD,eb];rfl
  show _=nv (_++[ds.getD j 0|||ah.getD j 0])
  rw [e1,e2]
 intro acc H4 s4 hl4 hacc
 subst hacc
 rw [Zu] at hl4
 have hl4:H4 l=some (.lst (nv (Wc ds ah))):=hl4
 refine⟨⟨_,s4.seq hd3⟩,⟨_,SqL.of (s4 _ _ hs3)⟩,⟨_,SqL.of (s4 _ _ ha3)⟩,fun m hm0=>?_⟩
 refine WF (H₀:=H4) (Zha (s4.seq hd3) (SqL.of (s4 _ _ hs3)) (SqL.of (s4 _ _ ha3)) (by rw [Zu,Zu];omega) (by rw [Zu,Zu];omega)) (fun j acc _=>acc=nv ((List.range j).map fun i=>ds.getD i 0|||((sidesN ds).getD i 0-((sidesN ds).getD i 0&&&ah.getD i 0)))) (by rw [Zu];exact Nat.le_of_lt (Zz (by omega))) (fun _ _ _ _ _ h=>h) hm0 rfl ?_ ?_
 ·rintro j mm v acc pre H5 ⟨t,x,y,z,rfl,hx,hy,hz,ht⟩ hpre ct
  obtain⟨a,ea,rfl⟩:=ZQ hx
  obtain⟨b,eb,rfl⟩:=ZQ hy
  obtain⟨c,ec,rfl⟩:=ZQ hz
  have hacc:=ct.hp
  match pre,hpre with
  | [p0,p1,p2],_ =>
  walk_at "rd"
  refine⟨_,SqT.of ht,rfl,_,_,rfl,_,_,rfl,_,_,rfl,rfl,?_⟩
  refine⟨_,rfl,_,rfl,_,rfl,?_⟩
  rw [Yu,OM.Vj]
  refine ct.yes (Same.refl _) ?_ (pre:=[_,_,_]) rfl rfl
  rw [hacc,List.range_succ,List.map_append,VM]
  have e1:ds.getD j 0=a:=by rw [List.getD,ea];rfl
  have e2:(sidesN ds).getD j 0=b:=by rw [List.getD,eb];rfl
  have e3:ah.getD j 0=c:=by rw [List.getD,ec];rfl
  show _=nv (_++[ds.getD j 0|||((sidesN ds).getD j 0-((sidesN ds).getD j 0&&&ah.getD j 0))])
  rw [e1,e2,e3]
 intro acc H5 s5 hm5 hacc
 subst hacc
 rw [Zu] at hm5
 have hm5:H5 m=some (.lst (nv (Xc ds (sidesN ds) ah))):=hm5
 have T1:=Vu R O
 have T2:=WJ R O
 refine⟨l,_,rfl,s5 _ _ hl4,by rw [Yp];omega,T1.big (by rw [Yp];omega),hT.same ((sm3.trans s4).trans s5),fun r1 n1 H6 p1 w1 sm6 f1 hT6 hr1=>?_⟩
 refine⟨m,_,rfl,sm6.lst hm5,by rw [ZY];omega,T2.big (by rw [ZY];omega),hT6,fun r2 n2 H7 p2 w2 sm7 f2 hT7 hr2=>⟨by rw [sizeLine_eq];decide,?_⟩⟩
 intro t hp_t
 generalize hq_t:upd _ t _=H8
 have s_H8:Same _ H8:=hq_t▸Same.upd hp_t
 have e_H8:H8 t=some _:=hq_t▸Zd
 clear hq_t
 have s7:SameT H H7:=(((sm3.trans s4).trans s5).t.trans sm6).trans sm7
 have i1:=T1.is ⟨p1,w1⟩
 have i2:=T2.is ⟨p2,w2⟩
 have tell:=ZcV R O ⟨p1,w1⟩ ⟨p2,w2⟩
 rw [Yp,hl] at p1
 rw [ZY,hl] at p2
 rw [i1,<- er1] at p1 hr1 tell
 rw [i2,<- er2] at p2 hr2 tell
 exact k t r1 r2 H8 (s7.trans s_H8.t) (FreshT.of s7 hp_t) (f1.back ((sm3.trans s4).trans s5).t) (f2.back (((sm3.trans s4).trans s5).t.trans sm6)) (Ne.symm (f2.lst hr1)) (hT7.same s_H8) e_H8 (s_H8 _ _ (sm7.lst hr1)) (s_H8 _ _ hr2) p1 p2 tell
theorem Zbn {rows:List (List Nat)}{n t u:Nat}(h:∀ r∈rows,r.Perm (List.range n)):EdS (OM.dwL rows n) t u↔t<n/\u<n/\∀ r∈rows,r.idxOf u<=r.idxOf t:=by
 unfold OM.dwL
 rw [Ub,OM.Zgo h]
theorem Ze8 {r:List Nat}{n a b:Nat}(h:r.Perm (List.range n))(ha:a<n)(e:r.idxOf a=r.idxOf b):a=b:=by
 have la:r.idxOf a<r.length:=List.idxOf_lt_length_iff.mpr (h.mem_iff.mpr (List.mem_range.mpr ha))
 have lb:r.idxOf b<r.length:=by rw [<- e];exact la
 have h1:r[r.idxOf a]=a:=List.getElem_idxOf la
 have h2:r[r.idxOf b]=b:=List.getElem_idxOf lb
 rw [<- h1,<- h2]
 congr 1
noncomputable def cell (ns:List Int)(i:Int):Int:=if i<ns.length then (ns[i.toNat]?).getD 0 else 0
noncomputable def XF (K:W.Frag):Sp:=fun vs H Q _=>∃ a ns i,vs=[.ref a,.int i]/\SqL K H a (ns.map V.int)/\0<=i/\Q (.int (cell ns i)) H
theorem Us (B:Blt mg) (S:Src K mg "_law_cell_at" YC ["_law_script", "_law_k"]):Fn P w K mg base 1 "_law_cell_at" ["_law_script", "_law_k"] (XF K):=by
 have sc:Zm ["_law_script", "_law_k"] ["_law_script", "_law_k"] (Zg YC):=fsc
 refine S.fn sc (fun vs H Q E h=>by obtain⟨a,ns,i,rfl,_⟩:=h;rfl) fun f cdv A outer s H vs Q E hr h=>?_
 obtain⟨a,ns,i,rfl,hS,h0,k⟩:=h
 refine⟨_,(@Zb _ _ _ _ _ (Yc (Zs ZeK (pv 1) (Zk (ZI K) rfl B.len PySem.boot_len (Za (pv 0) Zc)) (Zt _))
   (@Zf _ _ _ (Zo (Zw (ixL K) (pv 0) (pv 1) (fun _ _=>rfl))))
   Zq)
   (@Zf _ _ _ (Zo Ze))),?_⟩
 walk_at "rd"
 refine⟨_,.inl hS,?_⟩
 rw [List.length_map]
 unfold cell at k
 by_cases h:i<ns.length
 ·rw [if_pos h] at k ⊢
  refine⟨_,hS,_,?_,k⟩
  have hi:atI (ns.map V.int) ((i.toNat:Nat):Int)=some (V.int ((ns[i.toNat]?).getD 0)):=WX (by
   rw [List.getElem?_map,List.getElem?_eq_getElem (by omega),Option.map_some,Option.getD_some])
  rwa [show ((i.toNat:Nat):Int)=i by omega] at hi
 ·rw [if_neg h] at k ⊢
  exact k
theorem Ve {n:Nat}(hn:0<n)(v:Int):∃ x:Nat,v%(n:Int)=(x:Int)/\x<n:=by
 have c0:=Int.emod_nonneg v (b:=(n:Int)) (by omega)
 have c1:=Int.emod_lt_of_pos v (b:=(n:Int)) (by omega)
 obtain⟨x,ex⟩:=Int.eq_ofNat_of_zero_le c0
 exact⟨x,ex,by omega⟩
theorem Zfr (xs:List Int)(lo hi:Option Int):∃ ys:List Int,Zho (xs.map V.int) lo hi=ys.map V.int/\ys.length<=xs.length:=by
 refine⟨(xs.drop (HT.sIx xs.length 0 lo)).take (HT.sIx xs.length xs.length hi-HT.sIx xs.length 0 lo),?_,?_⟩
 ·unfold Zho
  rw [List.length_map,List.map_take,List.map_drop]
 ·rw [List.length_take,List.length_drop];omega
noncomputable def Vr:Sp:=fun vs H Q _=>∃ c i:Int,vs=[.int c,.int i]/\0<=i/\i<2^20/\∀ v:Nat,v<2147483587->Q (.int v) H
theorem Zax (S:Src K mg "_law_mixed" Xm ["_law_cell", "_law_k"]):Fn P w K mg base 1 "_law_mixed" ["_law_cell", "_law_k"] Vr:=by
 have sc:Zm ["_law_cell", "_law_k", "_law_number"] ["_law_cell", "_law_k"] (Zg Xm):=fsc
 refine S.fn sc (fun vs H Q E h=>by obtain⟨c,i,rfl,_⟩:=h;rfl) fun f cdv A outer s H vs Q E hr h=>?_
 obtain⟨c,i,rfl,h0,h1,k⟩:=h
 refine⟨_,(@Zb _ _ _ _ _ (Zn (i:=2) sc.nd rfl (Or.inl rfl) (Zl Yg (Zl Yr (Zl Yr (Zl Wh (Zl Yg (pv 0) Ze) Ze) (Zl Wh (pv 1) Ze)) Ze) Ze))
   (@Zb _ _ _ _ _ (Zn (i:=2) sc.nd rfl (Or.inl rfl) (Zl Yg (Zl Wh (pv 2) (pv 2)) Ze))
   (@Zf _ _ _ (Zo (Zl Yg (Zl Wh (pv 2) (pv 2)) Ze))))),?_⟩
 walk_at "rd"
 have b0:0<=c%2147483647/\c%2147483647<2147483647:=⟨Int.emod_nonneg _ (by decide),Int.emod_lt_of_pos _ (by decide)⟩
 have b1:∀ x:Int,0<=x%2147483647/\x%2147483647<2147483647:=fun x=>⟨Int.emod_nonneg _ (by decide),Int.emod_lt_of_pos _ (by decide)⟩
 have b2:∀ x:Int,0<=x%2147483629/\x%2147483629<2147483629:=fun x=>⟨Int.emod_nonneg _ (by decide),Int.emod_lt_of_pos _ (by decide)⟩
 have b3:∀ x:Int,0<=x%2147483587/\x%2147483587<2147483587:=fun x=>⟨Int.emod_nonneg _ (by decide),Int.emod_lt_of_pos _ (by decide)⟩
 refine⟨by decide,Yh (.inr (by decide)),Yh (.inr (by decide)),by decide,?_⟩
 have c1:=b1 (c%2147483647*48271+i*69621+11)
 generalize (c%2147483647*48271+i*69621+11)%2147483647=n1 at c1
 refine⟨Yh (.inl (by omega)),by decide,?_⟩
 have c2:=b2 (n1*n1)
 generalize (n1*n1)%2147483629=n2 at c2
 refine⟨Yh (.inl (by omega)),by decide,?_⟩
 have c3:=b3 (n2*n2)
 obtain⟨v,ev⟩:=Int.eq_ofNat_of_zero_le c3.1
 rw [ev] at c3 ⊢
 exact k v (by omega)
noncomputable def ZbB:Sp:=fun vs H Q _=>∃ (d:Addr) (ds:List Nat) (low high n:Nat),vs=[.ref d,.int low,.int high]/\H d=some (.lst (nv ds))/\ds.length=n/\n<=200/\low<n/\∀ H',(∀ b,b≠d->H' b=H b)->H' d=some (.lst (nv (OM.ZbG low high ds n)))->Q .non H'
theorem Zcm (B:Blt mg) (S:Src K mg "_law_put" Ws ["_law_downs", "_law_low", "_law_high"]):Fn P w K mg base 1 "_law_put" ["_law_downs", "_law_low", "_law_high"] ZbB:=by
 have sc:Zm ["_law_downs", "_law_low", "_law_high", "_law_k"] ["_law_downs", "_law_low", "_law_high"] (Zg Ws):=fsc
 refine S.fn sc (fun vs H Q E h=>by obtain⟨d,ds,low,high,n,rfl,_⟩:=h;rfl) fun f cdv A outer s H vs Q E hr h=>?_
 have hu:=Wm hr
 obtain⟨d,ds,low,high,n,rfl,hD,hdl,hn,hlow,k⟩:=h
 refine⟨_,(@Zf _ _ _ (Yd PassesOwn.never rfl (ZX rfl B.range (Za (Zk (ZI K) rfl B.len PySem.boot_len (Za (pv 0) Zc)) Zc)) (pg_name (i:=3) sc.nd rfl (Or.inl rfl))
   (@Zf _ _ _ (Yc (Zs (Yv K hu) (Zl Xj (Zl UB (Zw (ixL K) (pv 0) (pv 3) (fun _ _=>rfl)) (pv 2)) Ze) Ze (Zt _))
   (@Zf _ _ _ (Zc6 (Zl Zdk (Zw (ixL K) (pv 0) (pv 3) (fun _ _=>rfl)) (Zw (ixL K) (pv 0) (pv 1) (fun _ _=>rfl))) (Zga (pv 0) (pv 3) set_list)))
   Zq)))),?_⟩
 walk_at "rd"
 refine⟨_,.inl (SqL.of hD),?_⟩
 rw [Zu,hdl]
 refine⟨by omega,by omega,?_⟩
 rw [Int.toNat_natCast]
 refine YY (fun i σ' H'=>(∀ b,b≠d->H' b=H b)/\H' d=some (.lst (nv (OM.ZbG low high ds i)))/\∃ v,σ'=[some (.ref d),some (.int low),some (.int high),v]) ⟨fun _ _=>rfl,hD,none,rfl⟩ ?_ (fun σ' H' ⟨h1,h2,_⟩=>k H' h1 h2)
 rintro i σ' H' hi ⟨h1,h2,v,rfl⟩
 have hl:(OM.ZbG low high ds i).length=n:=by rw [OM.Vs,hdl]
 walk_at "rd"
 rw [Int.zero_add]
 refine⟨_,SqL.of h2,_,Xw (by omega),_,rfl,Int.natCast_nonneg _,?_⟩
 rw [OM.UI,OM.VE]
 unfold OM.WM
 generalize OM.ZbG low high ds i=es at h2 hl
 cases hb:(es.getD i 0).testBit high with
 | true =>
  rw [if_pos rfl,if_pos rfl,if_pos rfl]
  refine⟨_,SqL.of h2,_,Xw (by omega),_,SqL.of h2,_,Xw (by omega),_,rfl,_,rfl,_,h2,_,Zdn (by omega),fun b hb=>by rw [Zh hb];exact h1 b hb,?_⟩
  rw [OM.Vj,Zd,Zac]
 | false =>
  rw [if_neg (by decide),if_neg (by decide)]
  exact⟨h1,h2⟩
noncomputable def ZcQ (K:W.Frag)(top:Nat):Sp:=fun vs H Q _=>∃ a,∃ ns:List Int,vs=[.ref a]/\SqL K H a (ns.map V.int)/\∀ (n:Nat) H',n<=top->Same H H'->Q (.int n) H'
theorem Jm (B:Blt mg) (S:Src K mg "_law_size" XJ ["_law_script"]) (yh:Fn P w K mg base 1 "_law_cell_at" ["_law_script", "_law_k"] (XF K)) (yj:Fn P w K mg base 1 "_law_mixed" ["_law_cell", "_law_k"] Vr):Fn P w K mg base 2 "_law_size" ["_law_script"] (ZcQ K 32):=by
 have sc:Zm ["_law_script", "_law_free", "_law_first"] ["_law_script"] (Zg XJ):=fsc
 refine S.fn sc (fun vs H Q E h=>by obtain⟨a,ns,rfl,_⟩:=h;rfl) fun f cdv A outer s H vs Q E hr h=>?_
 have hu:=Wm hr
 obtain⟨a,ns,rfl,hS,k⟩:=h
 refine⟨_,(@Zb _ _ _ _ _ (Zn (i:=1) sc.nd rfl (Or.inl rfl) (Xd (Yv K hu) (Zl Yg (Zi yh hr.m rfl (Za (pv 0) (Za Ze Zc))) Ze) Ze (Zt _)))
   (@Zb _ _ _ _ _ (Zn (i:=2) sc.nd rfl (Or.inl rfl) (Zl Xp (Zi yh hr.m rfl (Za (pv 0) (Za Ze Zc))) Ze))
   (@Zb _ _ _ _ _ (Yc (Zs (Yv K hu) (Zl Yg (Zl Xp (pv 2) Ze) Ze) Ze (Zt _))
   (@Zf _ _ _ (Zo (Zl Yg (Zw (ixL K) (Wu (Za (Zi yj hr.m rfl (Za (pv 2) (Za Ze Zc))) (Za (Zl Xp (pv 2) Ze) Zc))) (YR ZbU rfl B.int PyProof.Rows.boot_int (Za (pv 1) Zc)) (fun _ _=>rfl)) Ze)))
   Zq)
   (@Zf _ _ _ (Zo (Zl Yg (pv 2) Ze)))))),?_⟩
 walk_at "rd"
 refine⟨a,ns,0,rfl,hS,by omega,?_⟩
 walk_at "rd"
 refine⟨by decide,a,ns,0,rfl,hS,by omega,?_⟩
 walk_at "rd"
 refine⟨⟨by decide,by decide⟩,⟨by decide,by decide⟩,by decide,?_⟩
 generalize cell ns 0/2=first
 by_cases h3:first/11%16=15
 ·rw [if_pos h3]
  refine⟨_,_,rfl,by omega,by omega,fun v hv=>?_⟩
  walk_at "rd"
  refine⟨⟨by decide,by decide⟩,by rw [sizeLine_eq];decide,?_⟩
  intro p hp_p
  generalize hq_p:upd _ p _=H1
  have s_H1:Same _ H1:=hq_p▸Same.upd hp_p
  have e_H1:H1 p=some _:=hq_p▸Zd
  clear hq_p
  have fin:∀ z:Int,Q (.int (z%33)) H1:=fun z=>by
   have c0:=Int.emod_nonneg z (b:=33) (by decide)
   have c1:=Int.emod_lt_of_pos z (b:=33) (by decide)
   obtain⟨n,en⟩:=Int.eq_ofNat_of_zero_le c0
   rw [en] at c1 ⊢
   exact k n H1 (by omega) s_H1
  by_cases hc:cell ns 0%2=1
  ·rw [if_pos hc]
   exact⟨_,SqL.of e_H1,_,rfl,_,rfl,by decide,fin _⟩
  ·rw [if_neg hc]
   exact⟨_,SqL.of e_H1,_,rfl,_,rfl,by decide,fin _⟩
 ·rw [if_neg h3]
  refine⟨by decide,?_⟩
  have c0:=Int.emod_nonneg first (b:=11) (by decide)
  have c1:=Int.emod_lt_of_pos first (b:=11) (by decide)
  obtain⟨n,en⟩:=Int.eq_ofNat_of_zero_le c0
  rw [en] at c1 ⊢
  exact k n H (by omega) (Same.refl _)
noncomputable def YG (K:W.Frag):Sp:=fun vs H Q _=>∃ a,∃ ns:List Int,∃ n:Nat,vs=[.ref a,.int n]/\SqL K H a (ns.map V.int)/\ns.length<=63/\n<=32/\∀ ds l H',OM.PO n ds->Same H H'->H l=none->H' l=some (.lst (nv ds))->Q (.ref l) H'
theorem XA {i:Nat}:nv ((List.range i).map fun k=>1<<<k)++[V.int ((1<<<i:Nat):Int)]=nv ((List.range (i+1)).map fun k=>1<<<k):=by
 rw [VM,List.range_succ,List.map_append];rfl
theorem Wj (B:Blt mg) (S:Src K mg "_law_free_order" ZM ["_law_script", "_law_many"]) (yB:Fn P w K mg base 1 "_law_put" ["_law_downs", "_law_low", "_law_high"] ZbB):Fn P w K mg base 2 "_law_free_order" ["_law_script", "_law_many"] (YG K):=by
 have sc:Zm ["_law_script", "_law_many", "_law_downs", "_law_cell", "_law_rest", "_law_j", "_law_low", "_law_high"] ["_law_script", "_law_many"] (Zg ZM):=fsc
 refine S.fn sc (fun vs H Q E h=>by obtain⟨a,ns,n,rfl,_⟩:=h;rfl) fun f cdv A outer s H vs Q E hr h=>?_
 have hu:=Wm hr
 obtain⟨a,ns,n,rfl,hS,hlen,hn,k⟩:=h
 refine⟨_,(@Zb _ _ _ _ _ (Xz (i:=2) sc.nd rfl (Or.inl rfl) (YZ (M:=["_law_k"]) (nt:=1) (cap:=[]) (Zg ZM) ["_law_script", "_law_many", "_law_downs", "_law_cell", "_law_rest", "_law_j", "_law_low", "_law_high"] rfl rfl rfl (by decide +kernel) (by decide +kernel) (by decide +kernel) (fun j hj=>absurd hj (Nat.not_lt_zero j)) rfl) rfl (ZX rfl B.range (Za (pv 1) Zc)) (fun cl C fp s' H'=>(pg_name (i:=0) (show (["_law_k"]:List Str).Nodup by decide +kernel) rfl (Or.inl rfl))) (fun cl C fp s' H'=>Yx) (fun cl C fp s' H'=>(Zl Xv Ze (pv 0))))
   (@Zb _ _ _ _ _ (Yd PassesOwn.never rfl (piL K (ZeG (slL K) (pv 0) (Zda Ze) (Zda Ze))) (pg_name (i:=3) sc.nd rfl (Or.inl rfl))
   (@Zb _ _ _ _ _ (Zn (i:=4) sc.nd rfl (Or.inl rfl) (pv 3))
   (@Zf _ _ _ (Yd PassesOwn.never rfl (ZX rfl B.range (Za (Zl Wh Ze (YR ZbU rfl B.int PyProof.Rows.boot_int (Za (Xd Za6 (pv 1) Ze (Zt _)) Zc))) Zc)) (pg_name (i:=5) sc.nd rfl (Or.inl rfl))
   (@Zb _ _ _ _ _ (Zn (i:=6) sc.nd rfl (Or.inl rfl) (Zl Yg (pv 4) (pv 1)))
   (@Zb _ _ _ _ _ (Zn (i:=7) sc.nd rfl (Or.inl rfl) (Zl Yg (Zl Xp (pv 4) (pv 1)) (pv 1)))
   (@Zb _ _ _ _ _ (Zn (i:=4) sc.nd rfl (Or.inl rfl) (Zl Xp (pv 4) (Zl Wh (pv 1) (pv 1))))
   (@Zf _ _ _ (Yc (Zs (Yv K hu) (Zl Xj (Zl UB (Zw (ixL K) (pv 2) (pv 6) (fun _ _=>rfl)) (pv 7)) Ze) Ze (Zt _))
   (@Zf _ _ _ (Yo (Zi yB hr.m rfl (Za (pv 2) (Za (pv 6) (Za (pv 7) Zc))))))
   Zq)))))))))
   (@Zf _ _ _ (Zo (pv 2))))),?_⟩
 refine cut1 (fun σ' H1=>Same H H1/\∃ l,H l=none/\H1 l=some (.lst (nv ((List.range n).map fun k=>1<<<k)))/\σ'=[some (.ref a),some (.int n),some (.ref l),none,none,none,none,none]) (fun N hN=>?_) ?_
 ·walk_at "rd"
  refine⟨by omega,by omega,fun l hl=>?_⟩
  rw [Int.toNat_natCast]
  refine WF (H₀:=H) XS (fun i acc _=>acc=nv ((List.range i).map fun k=>1<<<k)) (Nat.le_of_lt (Zz (by omega))) (fun _ _ _ _ _ h=>h) hl rfl ?_ ?_
  ·intro i m x acc pre H2 r hpre ct
   subst r
   have hi:=ct.hi
   match pre,hpre with
   | [p0],_ =>
   walk_at "rd"
   rw [Int.zero_add]
   refine⟨⟨by omega,by omega,by decide⟩,?_⟩
   rw [ZcR]
   refine ct.yes (Same.refl _) ?_ (pre:=[_]) rfl rfl
   have hacc:=ct.hp
   rw [hacc,XA]
  ·intro acc H1 s1 hl1 e
   subst e
   walk_at "rd"
   exact hN _ _ ⟨s1,l,hl,hl1,rfl⟩
 rintro σ' H1 ⟨s1,l,hl0,hl1,rfl⟩
 walk_at "rd"
 refine⟨_,s1.seq hS,?_⟩
 intro c hp_c
 generalize hq_c:upd _ c _=H2
 have s_H2:Same _ H2:=hq_c▸Same.upd hp_c
 have e_H2:H2 c=some _:=hq_c▸Zd
 clear hq_c
 obtain⟨ys,ey,hyl⟩:=Zfr ns (some 2) (some 63)
 rw [ey] at e_H2
 have hcl:c≠l:=fun z=>by subst z;rw [hl1] at hp_c;cases hp_c
 have hc0:H c=none:=s1.free hp_c
 refine⟨⟨_,SqL.of e_H2⟩,?_⟩
 refine Wk (xs:=ys.map V.int) (fun i σ' H'=>Same H H'/\H' c=some (.lst (ys.map V.int))/\∃ ds,OM.PO n ds/\H' l=some (.lst (nv ds))/\∃ v3 v4 v5 v6 v7,σ'=[some (.ref a),some (.int n),some (.ref l),v3,v4,v5,v6,v7])
  ⟨s1.trans s_H2,e_H2,_,.flat,s_H2 _ _ hl1,none,none,none,none,none,rfl⟩ (fun i σ' H' _ ⟨_,e,_⟩=>SqL.of e) ?_ ?_
 ·rintro i x σ' H' ex ⟨sm,hc,ds,R,hd,v3,v4,v5,v6,v7,rfl⟩
  obtain⟨v,ev,rfl⟩:∃ v,ys[i]? = some v/\x=.int v:=by
   rw [List.getElem?_map] at ex
   cases e:ys[i]? with
   | none=>rw [e] at ex;cases ex
   | some v=>rw [e] at ex;cases ex;exact⟨v,rfl,rfl⟩
  walk_at "rd"
  refine⟨Yh (.inl (by decide)),?_⟩
  have hrng:(2*(if (0:Int)<(n:Int) then (1:Int) else 0))=((if 0<n then 2 else 0:Nat):Int):=by
   by_cases h:0<n
   ·rw [if_pos (by omega),if_pos h];rfl
   ·rw [if_neg (by omega),if_neg h];rfl
  rw [hrng]
  have hJ3:(if 0<n then 2 else 0:Nat)<=2:=by split<;>omega
  have hJn:0<(if 0<n then 2 else 0:Nat)->0<n:=by split<;>omega
  generalize (if 0<n then 2 else 0:Nat)=J at hJ3 hJn
  refine⟨by omega,by omega,?_⟩
  rw [Int.toNat_natCast]
  refine YY (fun j σ' H'=>Same H H'/\H' c=some (.lst (ys.map V.int))/\∃ ds,OM.PO n ds/\H' l=some (.lst (nv ds))/\∃ (v3:Option V) (r:Int) (v5 v6 v7:Option V),σ'=[some (.ref a),some (.int n),some (.ref l),v3,some (.int r),v5,v6,v7])
   ⟨sm,hc,ds,R,hd,_,v,v5,v6,v7,rfl⟩ ?_ (fun σ' H' ⟨h1,h2,es,h3,h4,v3,r,v5,v6,v7,h5⟩=>⟨h1,h2,es,h3,h4,v3,_,v5,v6,v7,h5⟩)
  rintro j σ' H' hj ⟨sm,hc,ds,R,hd,v3,r,v5,v6,v7,rfl⟩
  have hn0:0<n:=hJn (by omega)
  obtain⟨lo,elo,hlo⟩:=Ve hn0 r
  obtain⟨hi,ehi,hhi⟩:=Ve hn0 (r/(n:Int))
  have hnn:(n:Int)*(n:Int)<=1024:=by
   have h1:(n:Int)<=32:=by omega
   have:=Int.mul_le_mul h1 h1 (by omega) (by omega)
   omega
  have hnp:0<(n:Int)*(n:Int):=Int.mul_pos (by omega) (by omega)
  walk_at "rd"
  refine⟨by omega,⟨by omega,by omega⟩,by omega,Yh (.inl (by omega)),⟨hnp,by omega⟩,?_⟩
  rw [elo,ehi]
  refine⟨_,SqL.of hd,_,Xw (by rw [R.len];exact hlo),_,rfl,Int.natCast_nonneg _,?_⟩
  rw [OM.UI]
  cases hb:(ds.getD lo 0).testBit hi with
  | true =>
   rw [if_pos rfl,if_neg (by decide)]
   exact⟨sm,hc,ds,R,hd⟩
  | false =>
   rw [if_pos (by decide)]
   refine⟨l,ds,lo,hi,n,rfl,hd,R.len,by omega,hlo,fun H3 ho hd3=>?_⟩
   exact⟨fun b o e=>by rw [ho b (Zj e hl0)];exact sm _ _ e,by rw [ho c hcl];exact hc,_,R.put hlo hb,hd3⟩
 ·rintro σ' H' ⟨sm,hc,ds,R,hd,v3,v4,v5,v6,v7,rfl⟩
  walk_at "rd"
  exact k ds l H' R sm hl0 hd
theorem ZcS {x m:Nat}(h:x<m):seqIndex? (x:Int) m=some x:=by
 unfold seqIndex?
 have h1:¬ ((x:Int)<0):=by omega
 simp [h1]
 omega
theorem UE {α β:Type}(f:α->β):∀ (xs:List α) (i:Nat),(xs.map f).eraseIdx i=(xs.eraseIdx i).map f
 | [],_=>rfl
 | x::xs,0=>rfl
 | x::xs,i+1=>by
  show f x::(xs.map f).eraseIdx i=f x::(xs.eraseIdx i).map f
  rw [UE f xs i]
theorem VG:∀ (xs:List Nat) (i:Nat) (h:i<xs.length),(xs[i]::xs.eraseIdx i).Perm xs
 | x::xs,0,_=>.refl _
 | x::xs,i+1,h=>by
  show (xs[i]'(by simpa using h)::x::xs.eraseIdx i).Perm (x::xs)
  exact (List.Perm.swap _ _ _).trans (.cons _ (VG xs i (by simpa using h)))
noncomputable def UT (K:W.Frag):Sp:=fun vs H Q _=>∃ a,∃ ns:List Int,∃ n:Nat,∃ salt:Int,vs=[.ref a,.int n,.int salt]/\SqL K H a (ns.map V.int)/\ns.length<=63/\n<=128/\0<=salt/\salt<2^19/\∀ (row:List Nat) l H',row.Perm (List.range n)->Same H H'->H l=none->H' l=some (.lst (nv row))->Q (.ref l) H'
theorem Jk (B:Blt mg) (S:Src K mg "_law_turn" XI ["_law_script", "_law_many", "_law_salt"]) (yh:Fn P w K mg base 1 "_law_cell_at" ["_law_script", "_law_k"] (XF K)) (yj:Fn P w K mg base 1 "_law_mixed" ["_law_cell", "_law_k"] Vr):Fn P w K mg base 2 "_law_turn" ["_law_script", "_law_many", "_law_salt"] (UT K):=by
 have sc:Zm ["_law_script", "_law_many", "_law_salt", "_law_row_here", "_law_k", "_law_number"] ["_law_script", "_law_many", "_law_salt"] (Zg XI):=fsc
 refine S.fn sc (fun vs H Q E h=>by obtain⟨a,ns,n,i,rfl,_⟩:=h;rfl) fun f cdv A outer s H vs Q E hr h=>?_
 have hu:=Wm hr
 obtain⟨a,ns,n,salt,rfl,hS,hlen,hn,hs0,hs1,k⟩:=h
 refine⟨_,(@Zb _ _ _ _ _ (Zn (i:=3) sc.nd rfl (Or.inl rfl) (Wu Zc))
   (@Zb _ _ _ _ _ (Yd PassesOwn.never rfl (ZX rfl B.range (Za (pv 1) Zc)) (pg_name (i:=4) sc.nd rfl (Or.inl rfl))
   (@Zb _ _ _ _ _ (Zn (i:=5) sc.nd rfl (Or.inl rfl) (Zi yj hr.m rfl (Za (Zi yh hr.m rfl (Za (pv 0) (Za (Zl Yr Ze (pv 4)) Zc))) (Za (Zl Yr (pv 4) (pv 2)) Zc))))
   (@Zf _ _ _ (Yo (Zgb K PySem.F.plainAttrs_list PySem.F.slot_list_insert PySem.F.type_list_insert Zag (pv 3) (Za (Zl Yg (pv 5) (Zl Yr (pv 4) Ze)) (Za (pv 4) Zc)))))))
   (@Zb _ _ _ _ _ (Yd PassesOwn.never rfl (VF rfl B.range (Za (Zl Yr (pv 1) Ze) (Za (Zk (ZaE rfl) rfl B.min PyProof.Rows.boot_min (Za Ze (Za (Zk (ZI K) rfl B.len PySem.boot_len (Za (pv 0) Zc)) Zc))) Zc))) (pg_name (i:=4) sc.nd rfl (Or.inl rfl))
   (@Zb _ _ _ _ _ (Zn (i:=5) sc.nd rfl (Or.inl rfl) (Zi yj hr.m rfl (Za (Zw (ixL K) (pv 0) (pv 4) (fun _ _=>rfl)) (Za (Zl Yr (pv 4) (pv 2)) Zc))))
   (@Zf _ _ _ (Yc (Zs Za6 (pv 1) Ze (Zt _))
   (@Zf _ _ _ (Yo (Zgb K PySem.F.plainAttrs_list PySem.F.slot_list_insert PySem.F.type_list_insert Zag (pv 3) (Za (Zl Yg (Zl Xp (pv 5) (pv 1)) (pv 1)) (Za (Zgb K PySem.F.plainAttrs_list PySem.F.slot_list_pop PySem.F.type_list_pop ZbJ (pv 3) (Za (Zl Yg (pv 5) (pv 1)) Zc)) Zc)))))
   Zq))))
   (@Zf _ _ _ (Zo (pv 3)))))),?_⟩
 refine cut2 (fun σ' H1=>Same H H1/\∃ (l:Addr) (row:List Nat),H l=none/\row.Perm (List.range n)/\H1 l=some (.lst (nv row))/\∃ v1 v2,σ'=[some (.ref a),some (.int n),some (.int salt),some (.ref l),v1,v2]) (fun N hN=>?_) ?_
 ·walk_at "rd"
  refine⟨by simp,?_⟩
  intro l hl
  refine⟨by omega,by omega,?_⟩
  refine YY (fun i σ' H'=>Same H H'/\∃ row:List Nat,row.Perm (List.range i)/\H' l=some (.lst (nv row))/\∃ v w,σ'=[some (.ref a),some (.int n),some (.int salt),some (.ref l),v,w]) ⟨Same.upd hl,[],.refl _,Zd,none,none,rfl⟩ ?_ ?_
  ·rintro i σ' H' hi ⟨sm,row,hp,hl1,v,w,rfl⟩
   have hlen:row.length=i:=by rw [hp.length_eq,List.length_range]
   walk_at "rd"
   refine⟨a,ns,_,rfl,sm.seq hS,by omega,?_⟩
   walk_at "rd"
   refine⟨_,_,rfl,by omega,by omega,fun v hv=>?_⟩
   have b1:=Int.emod_nonneg (v:Int) (b:=0+(i:Int)+1) (by omega)
   have b2:=Int.emod_lt_of_pos (v:Int) (b:=0+(i:Int)+1) (by omega)
   refine⟨.inl ⟨_,SqL.of hl1⟩,_,rfl,by omega,_,hl1,by rw [Zu];exact Zz (by omega),b1,by omega,sm.write hl,?_⟩
   generalize (v:Int)%(0+(i:Int)+1)=at_ at b1 b2
   refine⟨row.take (min at_.toNat row.length)++i::row.drop (min at_.toNat row.length),?_,?_⟩
   ·rw [List.range_succ]
    refine List.perm_middle.trans ?_
    rw [List.take_append_drop]
    exact (List.Perm.cons _ hp).trans (List.perm_append_comm (l₁:=[i]))
   ·rw [Zd,Zu,Int.zero_add]
    unfold nv
    rw [List.map_append,List.map_cons,List.map_take,List.map_drop]
  ·rintro σ' H' ⟨sm,row,hp,hl1,v,w,rfl⟩
   rw [Int.toNat_natCast] at hp
   exact hN _ _ ⟨sm,l,row,hl,hp,hl1,v,w,rfl⟩
 rintro σ' H1 ⟨sm,l,row,hl0,hp,hl1,v1,v2,rfl⟩
 walk_at "rd"
 refine⟨_,.inl (sm.seq hS),?_⟩
 rw [List.length_map]
 have hmin:(if (ns.length:Int)<64 then (ns.length:Int) else 64)=((ns.length:Nat):Int):=by rw [if_pos (by omega)]
 rw [hmin]
 refine⟨by omega,by omega,by omega,by omega,?_⟩
 refine YY (fun i σ' H'=>Same H H'/\∃ row:List Nat,row.Perm (List.range n)/\H' l=some (.lst (nv row))/\∃ v w,σ'=[some (.ref a),some (.int n),some (.int salt),some (.ref l),v,w]) ⟨sm,row,hp,hl1,v1,v2,rfl⟩ ?_ ?_
 ·clear hp hl1 sm row
  rintro i σ' H' hi ⟨sm,row,hp,hl1,v,w,rfl⟩
  have hrl:row.length=n:=by rw [hp.length_eq,List.length_range]
  have hi2:n+1+i<ns.length:=by omega
  have a1:atI (ns.map V.int) ((n:Int)+1+(i:Int))=some (.int ns[n+1+i]):=by
   rw [show (n:Int)+1+(i:Int)=((n+1+i:Nat):Int) by omega]
   exact WX (by rw [List.getElem?_map,List.getElem?_eq_getElem hi2];rfl)
  walk_at "rd"
  refine⟨_,sm.seq hS,_,a1,_,_,rfl,by omega,by omega,fun v hv=>?_⟩
  walk_at "rd"
  by_cases hn0:0<n
  case neg=>rw [if_neg (by omega)];exact⟨sm,row,hp,hl1⟩
  rw [if_pos (by omega)]
  obtain⟨q,eq,hq⟩:=Ve hn0 (v:Int)
  obtain⟨r,er,hr⟩:=Ve hn0 ((v:Int)/(n:Int))
  rw [eq,er]
  have hql:q<row.length:=by omega
  have hel:(nv row).eraseIdx q=nv (row.eraseIdx q):=by unfold nv;exact UE _ _ _
  refine⟨.inl ⟨_,SqL.of hl1⟩,⟨by omega,by omega⟩,by omega,.inl ⟨_,SqL.of hl1⟩,by omega,l,_,q,q,_,rfl,rfl,hl1,by omega,by omega,ZcS (by rw [Zu];exact hql),Zgd hql,?_⟩
  rw [hel]
  refine⟨_,Zd,?_,by omega,by omega,(sm.write hl0).write hl0,(row.eraseIdx q).take (min r (row.eraseIdx q).length)++row.getD q 0::(row.eraseIdx q).drop (min r (row.eraseIdx q).length),?_,?_⟩
  ·rw [Zu,List.length_eraseIdx,if_pos hql]
   exact Zz (by omega)
  ·refine List.perm_middle.trans ?_
   rw [List.take_append_drop,OM.Yi hql]
   exact (VG row q hql).trans hp
  ·rw [Zd,Zu,Int.toNat_natCast]
   unfold nv
   rw [List.map_append,List.map_cons,List.map_take,List.map_drop]
 ·rintro σ' H' ⟨sm,row,hp,hl1,v,w,rfl⟩
  walk_at "rd"
  exact k row l H' hp sm hl0 hl1
noncomputable def ZaW (K:W.Frag):Sp:=fun vs H Q _=>∃ (r:Addr) (rs:List Addr) (rows:List (List Nat)) (n:Nat),vs=[.ref r,.int n]/\(SqL K H r (rv rs)\/SqT K H r (rv rs))/\LsA H rs rows/\n<=32/\(∀ row∈rows,row.Perm (List.range n))/\∀ l H',Same H H'->H l=none->H' l=some (.lst (nv (OM.dwL rows n)))->Q (.ref l) H'
theorem ZdT {rows:List (List Nat)}{n:Nat}:(OM.dwL rows n).length=n:=by unfold OM.dwL;rw [List.length_map,List.length_range]
theorem ZbV {row:List Nat}{j t:Nat}(e:row[j]? = some t):OM.Zd6 (row.take j)|||1<<<t=OM.Zd6 (row.take (j+1)):=by
 rw [List.take_add_one,e,Option.toList_some,OM.Zd5]
theorem Zbj (B:Blt mg) (S:Src K mg "_law_by" Wt ["_law_rows", "_law_many"]):Fn P w K mg base 1 "_law_by" ["_law_rows", "_law_many"] (ZaW K):=by
 have sc:Zm ["_law_rows", "_law_many", "_law_downs", "_law_row_here", "_law_held", "_law_thing"] ["_law_rows", "_law_many"] (Zg Wt):=fsc
 refine S.fn sc (fun vs H Q E h=>by obtain⟨a,rs,rows,n,rfl,_⟩:=h;rfl) fun f cdv A outer s H vs Q E hr h=>?_
 have hu:=Wm hr
 obtain⟨r,rs,rows,n,rfl,hR,hL,hn,hb,k⟩:=h
 refine⟨_,(@Zb _ _ _ _ _ (Xz (i:=2) sc.nd rfl (Or.inl rfl) (YZ (M:=["_law_k", "_law_many"]) (nt:=1) (cap:=[1]) (Zg Wt) ["_law_rows", "_law_many", "_law_downs", "_law_row_here", "_law_held", "_law_thing"] rfl rfl rfl (by decide +kernel) (by decide +kernel) (by decide +kernel) (fun j hj=>match j,hj with | 0,_=>⟨_,_,rfl,rfl,rfl,rfl⟩) rfl) rfl (ZX rfl B.range (Za (pv 1) Zc)) (fun cl C fp s' H'=>(pg_name (i:=0) (show (["_law_k", "_law_many"]:List Str).Nodup by decide +kernel) rfl (Or.inl rfl))) (fun cl C fp s' H'=>Yx) (fun cl C fp s' H'=>(Zl ZbI (Zl Xv Ze (pv 1)) Ze)))
   (@Zb _ _ _ _ _ (Yd PassesOwn.never rfl (Zj0 (piL K (pv 0)) (piT K (pv 0))) (pg_name (i:=3) sc.nd rfl (Or.inl rfl))
   (@Zb _ _ _ _ _ (Zn (i:=4) sc.nd rfl (Or.inl rfl) Ze)
   (@Zf _ _ _ (Yd PassesOwn.never rfl (piL K (pv 3)) (pg_name (i:=5) sc.nd rfl (Or.inl rfl))
   (@Zb _ _ _ _ _ (Zn (i:=4) sc.nd rfl (Or.inl rfl) (Zl Zdk (pv 4) (Zl Xv Ze (pv 5))))
   (@Zf _ _ _ (Zc6 (Zl Xj (Zw (ixL K) (pv 2) (pv 5) (fun _ _=>rfl)) (pv 4)) (Zga (pv 2) (pv 5) set_list))))))))
   (@Zf _ _ _ (Zo (pv 2))))),?_⟩
 refine cut1 (fun σ' H1=>Same H H1/\∃ (l:Addr),H l=none/\H1 l=some (.lst (nv ((List.range n).map fun _=>1<<<n-1)))/\σ'=[some (.ref r),some (.int n),some (.ref l),none,none,none]) (fun N hN=>?_) ?_
 ·walk_at "rd"
  refine⟨by omega,by omega,fun l hl=>?_⟩
  rw [Int.toNat_natCast]
  refine WF (H₀:=H) XS (fun i acc _=>acc=nv ((List.range i).map fun _=>1<<<n-1)) (Nat.le_of_lt (Zz (by omega))) (fun _ _ _ _ _ h=>h) hl rfl ?_ ?_
  ·intro i m x acc pre H2 r hpre ct
   subst r
   have hi:=ct.hi
   match pre,hpre with
   | [p0],_ =>
   walk_at "rd"
   refine⟨⟨by omega,by omega,by decide⟩,?_⟩
   rw [Zej]
   refine ct.yes (Same.refl _) ?_ (pre:=[_]) rfl rfl
   have hacc:=ct.hp
   rw [hacc,VM,List.range_succ,List.map_append]
   rfl
  ·intro acc H1 s1 hl1 e
   subst e
   walk_at "rd"
   exact hN _ _ ⟨s1,l,hl,hl1,rfl⟩
 rintro σ' H1 ⟨s1,l,hl0,hl1,rfl⟩
 walk_at "rd"
 have hrl:∀ q∈rs,q≠l:=fun q hq z=>by
  obtain⟨i,hi,e⟩:=List.mem_iff_getElem.mp hq
  obtain⟨xs,_,ex⟩:=hL.at (List.getElem?_eq_getElem hi)
  rw [e,z,hl0] at ex
  cases ex
 refine ZbO (xs:=rv rs) hR (fun i σ' H'=>Same H H'/\H' l=some (.lst (nv (OM.dwL (rows.take i) n)))/\∃ v3 v4 v5,σ'=[some (.ref r),some (.int n),some (.ref l),v3,v4,v5])
  ⟨s1,hl1,none,none,none,rfl⟩ (fun i σ' H' ⟨sm,_⟩=>sm) ?_ ?_
 ·rintro i x σ' H' ex ⟨sm,hd,v3,v4,v5,rfl⟩
  obtain⟨q,eq,rfl⟩:=Wf ex
  obtain⟨row,er,hq⟩:=hL.at eq
  have hbr:=hb row (List.mem_of_getElem? er)
  have hrl:row.length=n:=by rw [hbr.length_eq,List.length_range]
  walk_at "rd"
  refine⟨⟨_,sm.seq (SqL.of hq)⟩,?_⟩
  refine Wk (xs:=nv row) (fun j σ' H'=>Same H H'/\H' l=some (.lst (nv (OM.byN (rows.take i) row n j)))/\∃ (v5:Option V),σ'=[some (.ref r),some (.int n),some (.ref l),some (.ref q),some (.int (OM.Zd6 (row.take j):Nat)),v5])
   ⟨sm,by rw [OM.Zhr];exact hd,v5,rfl⟩ (fun i σ' H' _ ⟨sm,_⟩=>sm.seq (SqL.of hq)) ?_ (fun σ' H' ⟨h1,h4,v5,h5⟩=>⟨h1,by rw [Zu,hrl,OM.Zjq hbr] at h4;rw [List.take_add_one,er,Option.toList_some];exact h4,_,_,v5,h5⟩)
  rintro j x σ' H' ex ⟨sm,hd,v5,rfl⟩
  obtain⟨t,et,rfl⟩:=ZQ ex
  have hx:t<n:=List.mem_range.mp (hbr.mem_iff.mp (List.mem_of_getElem? et))
  have hxl:t<(OM.byN (rows.take i) row n j).length:=by rw [OM.ZaH];exact hx
  walk_at "rd"
  refine⟨⟨by omega,by omega,by decide⟩,_,SqL.of hd,_,Xw hxl,_,rfl,_,hd,_,Zdn hxl,sm.write hl0,?_,?_⟩
  ·rw [Zd,ZcR,OM.Vj,OM.Zei,Zac,ZbV et,OM.Zhs hbr et]
  ·rw [ZcR,OM.Vj,ZbV et]
 ·rintro σ' H' ⟨sm,hd,v3,v4,v5,rfl⟩
  walk_at "rd"
  rw [Yn,hL.1,List.take_length] at hd
  exact k l H' sm hl0 hd
noncomputable def CrOk (row ds:List Nat):Prop:=6<=row.length->∀ j m:Nat,j<3->m<3->(ds.getD (row.getD j 0) 0).testBit (row.getD (3+m) 0)=false
theorem Zcs {row:List Nat}{n:Nat}(hp:row.Perm (List.range n)):CrOk row ((List.range n).map fun k=>1<<<k):=fun h6 j m hj hm=>by
 have hl:row.length=n:=by rw [hp.length_eq,List.length_range]
 have hn:row.Nodup:=hp.nodup_iff.mpr List.nodup_range
 have hx:row.getD j 0<n:=by rw [OM.Yi (by omega)];exact List.mem_range.mp (hp.mem_iff.mp (List.getElem_mem _))
 rw [List.getD,List.getElem?_map,List.getElem?_range hx,Option.map_some,Option.getD_some,Nat.one_shiftLeft,Nat.testBit_two_pow,decide_eq_false_iff_not]
 intro e
 have:=OM.Zko hn (by omega:j<row.length) (by omega:3+m<row.length) e
 omega
theorem CrOk.put {row ds:List Nat}{n lo hi:Nat}(h:CrOk row ds)(hl:ds.length=n)(hb:(ds.getD lo 0).testBit hi=false)(hh:∃ m,m<3/\hi=row.getD (3+m) 0):CrOk row (OM.ZbG lo hi ds n):=fun h6 j m hj hm=>by
 obtain⟨m',hm',rfl⟩:=hh
 rw [OM.Za2 hb n (by omega),if_neg (by rw [h h6 j m' hj hm'];simp)]
 exact h h6 j m hj hm
theorem Ur (B:Blt mg) (S:Src K mg "_law_crown" YM ["_law_script", "_law_many"]) (yW:Fn P w K mg base 2 "_law_turn" ["_law_script", "_law_many", "_law_salt"] (UT K)) (yB:Fn P w K mg base 1 "_law_put" ["_law_downs", "_law_low", "_law_high"] ZbB):Fn P w K mg base 3 "_law_crown" ["_law_script", "_law_many"] (YG K):=by
 have sc:Zm ["_law_script", "_law_many", "_law_downs", "_law_row_here", "_law_k"] ["_law_script", "_law_many"] (Zg YM):=fsc
 refine S.fn sc (fun vs H Q E h=>by obtain⟨a,ns,n,rfl,_⟩:=h;rfl) fun f cdv A outer s H vs Q E hr h=>?_
 have hu:=Wm hr
 obtain⟨a,ns,n,rfl,hS,hlen,hn,k⟩:=h
 refine⟨_,(@Zb _ _ _ _ _ (Xz (i:=2) sc.nd rfl (Or.inl rfl) (YZ (M:=["_law_k"]) (nt:=1) (cap:=[]) (Zg YM) ["_law_script", "_law_many", "_law_downs", "_law_row_here", "_law_k"] rfl rfl rfl (by decide +kernel) (by decide +kernel) (by decide +kernel) (fun j hj=>absurd hj (Nat.not_lt_zero j)) rfl) rfl (ZX rfl B.range (Za (pv 1) Zc)) (fun cl C fp s' H'=>(pg_name (i:=0) (show (["_law_k"]:List Str).Nodup by decide +kernel) rfl (Or.inl rfl))) (fun cl C fp s' H'=>Yx) (fun cl C fp s' H'=>(Zl Xv Ze (pv 0))))
   (@Zb _ _ _ _ _ (Zn (i:=3) sc.nd rfl (Or.inl rfl) (Zi yW hr.m rfl (Za (pv 0) (Za (pv 1) (Za Ze Zc)))))
   (@Zb _ _ _ _ _ (Yd PassesOwn.never rfl (ZX rfl B.range (Za Ze Zc)) (pg_name (i:=4) sc.nd rfl (Or.inl rfl))
   (@Zf _ _ _ (Yc (PW.pt (ZbF (Zs ZgZ (pv 1) Ze (Zt _)) (Ja (Zs (Ww K hu) (Zl Xp (pv 4) Ze) (Zl Yg (pv 4) Ze) (Zt _)))))
   (@Zf _ _ _ (Yo (Zi yB hr.m rfl (Za (pv 2) (Za (Zw (ixL K) (pv 3) (Zl Xp (pv 4) Ze) (fun _ _=>rfl)) (Za (Zw (ixL K) (pv 3) (Zl Yr Ze (Zl Yg (pv 4) Ze)) (fun _ _=>rfl)) Zc))))))
   Zq)))
   (@Zf _ _ _ (Zo (pv 2)))))),?_⟩
 refine cut1 (fun σ' H1=>Same H H1/\∃ l,H l=none/\H1 l=some (.lst (nv ((List.range n).map fun k=>1<<<k)))/\σ'=[some (.ref a),some (.int n),some (.ref l),none,none]) (fun N hN=>?_) ?_
 ·walk_at "rd"
  refine⟨by omega,by omega,fun l hl=>?_⟩
  rw [Int.toNat_natCast]
  refine WF (H₀:=H) XS (fun i acc _=>acc=nv ((List.range i).map fun k=>1<<<k)) (Nat.le_of_lt (Zz (by omega))) (fun _ _ _ _ _ h=>h) hl rfl ?_ ?_
  ·intro i m x acc pre H2 r hpre ct
   subst r
   have hi:=ct.hi
   match pre,hpre with
   | [p0],_ =>
   walk_at "rd"
   rw [Int.zero_add]
   refine⟨⟨by omega,by omega,by decide⟩,?_⟩
   rw [ZcR]
   refine ct.yes (Same.refl _) ?_ (pre:=[_]) rfl rfl
   have hacc:=ct.hp
   rw [hacc,XA]
  ·intro acc H1 s1 hl1 e
   subst e
   walk_at "rd"
   exact hN _ _ ⟨s1,l,hl,hl1,rfl⟩
 rintro σ' H1 ⟨s1,l,hl0,hl1,rfl⟩
 walk_at "rd"
 refine⟨a,ns,n,500,rfl,s1.seq hS,hlen,by omega,by decide,by decide,fun row t H2 hp s2 ht0 ht=>?_⟩
 have hrl:row.length=n:=by rw [hp.length_eq,List.length_range]
 have hrb:∀ x∈row,x<n:=fun x hx=>List.mem_range.mp (hp.mem_iff.mp hx)
 have htl:t≠l:=fun z=>by subst z;rw [hl1] at ht0;cases ht0
 walk_at "rd"
 refine⟨by decide,by decide,?_⟩
 refine YY (fun i σ' H'=>Same H H'/\H' t=some (.lst (nv row))/\∃ ds,OM.PO n ds/\CrOk row ds/\H' l=some (.lst (nv ds))/\∃ v4,σ'=[some (.ref a),some (.int n),some (.ref l),some (.ref t),v4])
  ⟨s1.trans s2,ht,_,.flat,Zcs hp,s2 _ _ hl1,none,rfl⟩ ?_ ?_
 ·rintro i σ' H' hi ⟨sm,ht,ds,R,hC,hd,v4,rfl⟩
  walk_at "rd"
  have hi9:i<9:=hi
  rw [Int.zero_add]
  by_cases h6:6<=n
  case neg=>rw [if_neg (by omega)];exact⟨sm,ht,ds,R,hC,hd⟩
  rw [if_pos (by omega)]
  refine⟨⟨by decide,by decide⟩,by decide,?_⟩
  by_cases he:(i:Int)/3=(i:Int)%3
  ·rw [if_neg (fun z=>z he)];exact⟨sm,ht,ds,R,hC,hd⟩
  rw [if_pos he,show (i:Int)/3=((i/3:Nat):Int) by omega,show 3+(i:Int)%3=((3+i%3:Nat):Int) by omega]
  have g1:i/3<row.length:=by omega
  refine⟨⟨by decide,by decide⟩,_,SqL.of ht,_,Xw g1,by decide,_,SqL.of ht,_,Xw (by omega),l,ds,_,_,n,rfl,hd,R.len,by omega,?_,fun H3 ho hd3=>?_⟩
  ·rw [OM.Yi g1];exact hrb _ (List.getElem_mem g1)
  ·have hlo:row.getD (i/3) 0<n:=by rw [OM.Yi g1];exact hrb _ (List.getElem_mem g1)
   have hb:=hC (by omega) (i/3) (i%3) (by omega) (by omega)
   exact⟨fun b o e=>by rw [ho b (Zj e hl0)];exact sm _ _ e,by rw [ho t htl];exact ht,_,R.put hlo hb,hC.put R.len hb ⟨i%3,by omega,rfl⟩,hd3⟩
 ·rintro σ' H' ⟨sm,ht,ds,R,hC,hd,v4,rfl⟩
  walk_at "rd"
  exact k ds l H' R sm hl0 hd
noncomputable def ZjY (rows:List (List Nat))(i n:Nat):Prop:=rows.length=i/\∀ row∈rows,row.Perm (List.range n)
theorem Zjm {rows:List (List Nat)}{n:Nat}(h:∀ r∈rows,r.Perm (List.range n))(hne:rows≠[]):OM.PO n (OM.dwL rows n) where
 len:=Zfn
 refl:=fun i hi=>(Zbn h).mpr ⟨hi,hi,fun _ _=>Nat.le_refl _⟩
 dom:=fun i l _ q=>((Zbn h).mp q).2.1
 trans:=fun i j l _ q q'=>by
  have a:=(Zbn h).mp q
  have b:=(Zbn h).mp q'
  exact (Zbn h).mpr ⟨a.1,b.2.1,fun r hr=>Nat.le_trans (b.2.2 r hr) (a.2.2 r hr)⟩
 anti:=fun i j hi q q'=>by
  obtain⟨r,hr⟩:=List.exists_mem_of_ne_nil _ hne
  have a:=(Zbn h).mp q
  have b:=(Zbn h).mp q'
  exact Ze8 (h r hr) hi (Nat.le_antisymm (b.2.2 r hr) (a.2.2 r hr))
theorem Uq (B:Blt mg) (S:Src K mg "_law_order" Yq ["_law_script", "_law_many"]) (yh:Fn P w K mg base 1 "_law_cell_at" ["_law_script", "_law_k"] (XF K)) (yj:Fn P w K mg base 1 "_law_mixed" ["_law_cell", "_law_k"] Vr) (yB:Fn P w K mg base 1 "_law_put" ["_law_downs", "_law_low", "_law_high"] ZbB)
  (y9:Fn P w K mg base 2 "_law_free_order" ["_law_script", "_law_many"] (YG K)) (yW:Fn P w K mg base 2 "_law_turn" ["_law_script", "_law_many", "_law_salt"] (UT K)) (yaa:Fn P w K mg base 1 "_law_by" ["_law_rows", "_law_many"] (ZaW K)) (yZa:Fn P w K mg base 3 "_law_crown" ["_law_script", "_law_many"] (YG K)):Fn P w K mg base 4 "_law_order" ["_law_script", "_law_many"] (YG K):=by
 have sc:Zm ["_law_script", "_law_many", "_law_way", "_law_downs", "_law_share", "_law_k", "_law_number", "_law_low", "_law_high"] ["_law_script", "_law_many"] (Zg Yq):=fsc
 refine S.fn sc (fun vs H Q E h=>by obtain⟨a,ns,n,rfl,_⟩:=h;rfl) fun f cdv A outer s H vs Q E hr h=>?_
 have hu:=Wm hr
 obtain⟨a,ns,n,rfl,hS,hlen,hn,k⟩:=h
 refine⟨_,(@Zb _ _ _ _ _ (Yc (Zs (Yv K hu) (Zl Yg (Zi yh hr.m rfl (Za (pv 0) (Za Ze Zc))) Ze) Ze (Zt _))
   (@Zf _ _ _ (Zo (Zi y9 hr.m rfl (Za (pv 0) (Za (pv 1) Zc)))))
   Zq)
   (@Zb _ _ _ _ _ (Zn (i:=2) sc.nd rfl (Or.inl rfl) (Zl Yg (Zi yj hr.m rfl (Za (Zi yh hr.m rfl (Za (pv 0) (Za Ze Zc))) (Za Ze Zc))) Ze))
   (@Zb _ _ _ _ _ (Yc (Zs Za6 (pv 2) Ze (Zt _))
   (@Zf _ _ _ (Zo (Zi yaa hr.m rfl (Za (WN (YZ (M:=["_law_k", "_law_script", "_law_many"]) (nt:=1) (cap:=[0,1]) (Zg Yq) ["_law_script", "_law_many", "_law_way", "_law_downs", "_law_share", "_law_k", "_law_number", "_law_low", "_law_high"] rfl rfl rfl (by decide +kernel) (by decide +kernel) (by decide +kernel) (fun j hj=>match j,hj with | 0,_=>⟨_,_,rfl,rfl,rfl,rfl⟩ | 1,_=>⟨_,_,rfl,rfl,rfl,rfl⟩) rfl) rfl (ZX rfl B.range (Za (Zl ZbI (pv 2) Ze) Zc)) (fun cl C fp s' H'=>(pg_name (i:=0) (show (["_law_k", "_law_script", "_law_many"]:List Str).Nodup by decide +kernel) rfl (Or.inl rfl))) (fun cl C fp s' H'=>Yx) (fun cl C fp s' H'=>(Zi yW hr.m rfl (Za (pv 1) (Za (pv 2) (Za (Zl Yr Ze (Zl Wh Ze (pv 0))) Zc)))))) (Za (pv 1) Zc)))))
   Zq)
   (@Zb _ _ _ _ _ (Xz (i:=3) sc.nd rfl (Or.inl rfl) (YZ (M:=["_law_k"]) (nt:=1) (cap:=[]) (Zg Yq) ["_law_script", "_law_many", "_law_way", "_law_downs", "_law_share", "_law_k", "_law_number", "_law_low", "_law_high"] rfl rfl rfl (by decide +kernel) (by decide +kernel) (by decide +kernel) (fun j hj=>absurd hj (Nat.not_lt_zero j)) rfl) rfl (ZX rfl B.range (Za (pv 1) Zc)) (fun cl C fp s' H'=>(pg_name (i:=0) (show (["_law_k"]:List Str).Nodup by decide +kernel) rfl (Or.inl rfl))) (fun cl C fp s' H'=>Yx) (fun cl C fp s' H'=>(Zl Xv Ze (pv 0))))
   (@Zb _ _ _ _ _ (Yc (Zs (Yv K hu) (pv 2) Ze (Zt _))
   (@Zf _ _ _ (Zn (i:=3) sc.nd rfl (Or.inl rfl) (Zi yZa hr.m rfl (Za (pv 0) (Za (pv 1) Zc)))))
   Zq)
   (@Zb _ _ _ _ _ (Zn (i:=4) sc.nd rfl (Or.inl rfl) (Zl Yg (Zi yj hr.m rfl (Za (Zi yh hr.m rfl (Za (pv 0) (Za Ze Zc))) (Za Ze Zc))) Ze))
   (@Zb _ _ _ _ _ (Yd PassesOwn.never rfl (VF rfl B.range (Za Ze (Za (Zk (ZaE rfl) rfl B.min PyProof.Rows.boot_min (Za Ze (Za (Zk (ZI K) rfl B.len PySem.boot_len (Za (pv 0) Zc)) Zc))) Zc))) (pg_name (i:=5) sc.nd rfl (Or.inl rfl))
   (@Zb _ _ _ _ _ (Zn (i:=6) sc.nd rfl (Or.inl rfl) (Zi yj hr.m rfl (Za (Zw (ixL K) (pv 0) (pv 5) (fun _ _=>rfl)) (Za (pv 5) Zc))))
   (@Zf _ _ _ (Yc (PW.pt (ZbF (Zs Za6 (pv 1) Ze (Zt _)) (Ja (Zs Zkm (Zl Yg (Zi yj hr.m rfl (Za (Zw (ixL K) (pv 0) (pv 5) (fun _ _=>rfl)) (Za (Zl Yr (pv 5) Ze) Zc))) (Zw (ixL K) (Wu (Za Ze (Za Ze (Za Ze Zc)))) (pv 2) (fun _ _=>rfl))) (pv 4) (Zt _)))))
   (@Zb _ _ _ _ _ (Zn (i:=7) sc.nd rfl (Or.inl rfl) (Zl Yg (pv 6) (pv 1)))
   (@Zb _ _ _ _ _ (Zn (i:=8) sc.nd rfl (Or.inl rfl) (Zl Yg (Zl Xp (pv 6) (pv 1)) (pv 1)))
   (@Zf _ _ _ (Yc (Zs (Yv K hu) (Zl Xj (Zl UB (Zw (ixL K) (pv 3) (pv 7) (fun _ _=>rfl)) (pv 8)) Ze) Ze (Zt _))
   (@Zf _ _ _ (Yo (Zi yB hr.m rfl (Za (pv 3) (Za (pv 7) (Za (pv 8) Zc))))))
   Zq))))
   Zq))))
   (@Zf _ _ _ (Zo (pv 3)))))))))),?_⟩
 refine cut1 (fun σ' H1=>H1=H/\σ'=[some (.ref a),some (.int n),none,none,none,none,none,none,none]) (fun N hN=>?_) ?_
 ·walk_at "rd"
  refine⟨a,ns,0,rfl,hS,by omega,?_⟩
  walk_at "rd"
  refine⟨by decide,?_⟩
  by_cases hc:cell ns 0%2=1
  ·rw [if_pos hc]
   exact⟨a,ns,n,rfl,hS,hlen,hn,k⟩
  ·rw [if_neg hc]
   exact hN _ _ ⟨rfl,rfl⟩
 rintro σ' H1 ⟨rfl,rfl⟩
 refine cut2 (fun σ' H2=>H2=H1/\∃ way:Nat,way<=2/\σ'=[some (.ref a),some (.int n),some (.int way),none,none,none,none,none,none]) (fun N hN=>?_) ?_
 ·walk_at "rd"
  refine⟨a,ns,0,rfl,hS,by omega,?_⟩
  walk_at "rd"
  refine⟨_,_,rfl,by omega,by omega,fun v hv=>?_⟩
  obtain⟨way,ew,hw⟩:=Ve (n:=5) (by decide) (v:Int)
  have ew:(v:Int)%5=way:=ew
  walk_at "rd"
  rw [ew]
  refine⟨by decide,?_⟩
  by_cases h2:2<way
  case neg =>
   rw [if_neg (by omega)]
   exact hN _ _ ⟨rfl,way,by omega,rfl⟩
  rw [if_pos (by omega)]
  refine⟨by omega,by omega,fun l hl=>?_⟩
  refine WF (H₀:=H1) XS (fun i acc H'=>∃ (rs:List Addr),acc=rv rs/\∃ (rows:List (List Nat)),LsA H' rs rows/\ZjY rows i n/\(∀ r∈rs,r≠l)) (Nat.le_of_lt (Zz (by omega)))
   (fun _ _ _ _ h ⟨rs,e,rows,hL,hb,hn⟩=>⟨rs,e,rows,⟨hL.1,fun i r xs e1 e2=>h r _ (hn r (List.mem_of_getElem? e1)) (hL.2 i r xs e1 e2)⟩,hb,hn⟩) hl ⟨[],rfl,[],.nil,⟨rfl,by simp⟩,by simp⟩ ?_ ?_
  ·intro i m x acc pre H2 r hpre ct
   subst r
   have hi:=ct.hi
   obtain⟨rs,hacc,rows,hL,hb,hne⟩:=ct.hp
   match pre,hpre with
   | [p0],_ =>
   walk_at "rd"
   refine⟨Yh (.inl (by decide)),a,ns,n,_,rfl,ct.sm.seq hS,hlen,by omega,by omega,by omega,fun row y H3 hp s3 hy0 hy=>?_⟩
   have hyl:y≠l:=fun z=>by subst z;rw [ct.hl] at hy0;cases hy0
   refine ct.yes s3 ?_ (pre:=[_]) rfl rfl
   refine⟨rs++[y],by rw [hacc,ZbD],rows++[row],(hL.same s3).snoc hy,⟨by rw [List.length_append,hb.1];rfl,fun row' hr=>?_⟩,fun r hr=>?_⟩
   ·rcases List.mem_append.mp hr with z | z
    ·exact hb.2 row' z
    ·rw [List.mem_singleton] at z
     subst z
     exact hp
   ·rcases List.mem_append.mp hr with z | z
    ·exact hne r z
    ·rw [List.mem_singleton] at z;rw [z];exact hyl
  ·intro acc H2 s2 hl2 ⟨rs,hacc,rows,hL,hb,hne⟩
   subst hacc
   exact⟨l,rs,rows,n,rfl,.inl (SqL.of hl2),hL,hn,hb.2,fun l' H' s3 hl0 hd=>k _ l' H' (Zjm hb.2 (fun z=>by rw [z] at hb;have:=hb.1;simp at this;omega)) (s2.trans s3) (s2.free hl0) hd⟩
 rintro σ' H2 ⟨rfl,way,hway,rfl⟩
 refine cut1 (fun σ' H3=>Same H2 H3/\∃ l,H2 l=none/\H3 l=some (.lst (nv ((List.range n).map fun k=>1<<<k)))/\σ'=[some (.ref a),some (.int n),some (.int way),some (.ref l),none,none,none,none,none]) (fun N hN=>?_) ?_
 ·walk_at "rd"
  refine⟨by omega,by omega,fun l hl=>?_⟩
  rw [Int.toNat_natCast]
  refine WF (H₀:=H2) XS (fun i acc _=>acc=nv ((List.range i).map fun k=>1<<<k)) (Nat.le_of_lt (Zz (by omega))) (fun _ _ _ _ _ h=>h) hl rfl ?_ ?_
  ·intro i m x acc pre H2 r hpre ct
   subst r
   have hi:=ct.hi
   match pre,hpre with
   | [p0],_ =>
   walk_at "rd"
   rw [Int.zero_add]
   refine⟨⟨by omega,by omega,by decide⟩,?_⟩
   rw [ZcR]
   refine ct.yes (Same.refl _) ?_ (pre:=[_]) rfl rfl
   have hacc:=ct.hp
   rw [hacc,XA]
  ·intro acc H3 s2 hl2 e
   subst e
   walk_at "rd"
   exact hN _ _ ⟨s2,l,hl,hl2,rfl⟩
 rintro σ' H3 ⟨s3,l,hl0,hl3,rfl⟩
 refine cut1 (fun σ' H4=>Same H2 H4/\∃ l ds,H2 l=none/\OM.PO n ds/\H4 l=some (.lst (nv ds))/\σ'=[some (.ref a),some (.int n),some (.int way),some (.ref l),none,none,none,none,none]) (fun N hN=>?_) ?_
 ·walk_at "rd"
  by_cases h2:way=2
  ·rw [if_pos (by omega)]
   refine⟨a,ns,n,rfl,s3.seq hS,hlen,hn,fun ds l' H' R s4 hl' hd=>?_⟩
   exact hN _ _ ⟨s3.trans s4,l',ds,s3.free hl',R,hd,rfl⟩
  ·rw [if_neg (by omega)]
   exact hN _ _ ⟨s3,l,_,hl0,.flat,hl3,rfl⟩
 clear s3 hl0 hl3 l
 rintro σ' H4 ⟨s4,l,ds,hl0,R,hl4,rfl⟩
 refine cut1 (fun σ' H3=>H3=H4/\∃ sh:Nat,σ'=[some (.ref a),some (.int n),some (.int way),some (.ref l),some (.int sh),none,none,none,none]) (fun N hN=>?_) ?_
 ·walk_at "rd"
  refine⟨a,ns,0,rfl,s4.seq hS,by omega,?_⟩
  walk_at "rd"
  refine⟨_,_,rfl,by omega,by omega,fun v hv=>?_⟩
  obtain⟨x,ex,_⟩:=Ve (n:=8) (by decide) (v:Int)
  have ex:(v:Int)%8=x:=ex
  walk_at "rd"
  rw [ex]
  exact⟨by decide,hN _ _ ⟨rfl,x,rfl⟩⟩
 rintro σ' H3 ⟨rfl,sh,rfl⟩
 walk_at "rd"
 refine⟨_,.inl (s4.seq hS),?_⟩
 rw [List.length_map]
 have hmin:(if (ns.length:Int)<64 then (ns.length:Int) else 64)=((ns.length:Nat):Int):=by rw [if_pos (by omega)]
 rw [hmin]
 refine⟨by decide,by decide,by omega,by omega,?_⟩
 refine YY (fun i σ' H'=>Same H2 H'/\∃ ds,OM.PO n ds/\H' l=some (.lst (nv ds))/\∃ v5 v6 v7 v8,σ'=[some (.ref a),some (.int n),some (.int way),some (.ref l),some (.int sh),v5,v6,v7,v8])
  ⟨s4,_,R,hl4,none,none,none,none,rfl⟩ ?_ ?_
 ·rintro i σ' H' hi ⟨sm,ds,R,hd,v5,v6,v7,v8,rfl⟩
  have hi2:i+1<ns.length:=by omega
  have a1:atI (ns.map V.int) (1+(i:Int))=some (.int ns[i+1]):=by
   rw [show 1+(i:Int)=((i+1:Nat):Int) by omega]
   exact WX (by rw [List.getElem?_map,List.getElem?_eq_getElem hi2];rfl)
  walk_at "rd"
  refine⟨_,sm.seq hS,_,a1,_,_,rfl,by omega,by omega,fun v hv=>?_⟩
  walk_at "rd"
  by_cases hn0:0<n
  case neg=>rw [if_neg (by omega)];exact⟨sm,ds,R,hd⟩
  rw [if_pos (by omega)]
  refine⟨_,sm.seq hS,_,a1,_,_,rfl,by omega,by omega,fun v2 hv2=>?_⟩
  walk_at "rd"
  refine⟨by rw [sizeLine_eq];decide,?_⟩
  intro p hp_p
  generalize hq_p:upd _ p _=H5
  have s_H5:Same _ H5:=hq_p▸Same.upd hp_p
  have e_H5:H5 p=some _:=hq_p▸Zd
  clear hq_p
  obtain⟨m,em,hm⟩:∃ m:Int,atI [V.int 8,V.int 8,V.int 50] (way:Int)=some (.int m)/\0<m:=by
   match way,hway with
   | 0,_=>exact⟨8,rfl,by decide⟩
   | 1,_=>exact⟨8,rfl,by decide⟩
   | 2,_=>exact⟨50,rfl,by decide⟩
  have hd5:=s_H5 _ _ hd
  have sm5:=sm.trans s_H5
  refine⟨_,SqL.of e_H5,_,em,_,rfl,hm,?_⟩
  by_cases hsh:((v2:Int)%m<=(sh:Int))
  case neg=>rw [if_neg hsh];exact⟨sm5,ds,R,hd5⟩
  rw [if_pos hsh]
  obtain⟨lo,elo,hlo⟩:=Ve hn0 (v:Int)
  obtain⟨hi,ehi,hhi⟩:=Ve hn0 ((v:Int)/(n:Int))
  rw [elo,ehi]
  refine⟨by omega,⟨by omega,by omega⟩,by omega,_,SqL.of hd5,_,Xw (by rw [R.len];exact hlo),_,rfl,Int.natCast_nonneg _,?_⟩
  rw [OM.UI]
  cases hb:(ds.getD lo 0).testBit hi with
  | true =>
   rw [if_pos rfl,if_neg (by decide)]
   exact⟨sm5,ds,R,hd5⟩
  | false =>
   rw [if_pos (by decide)]
   refine⟨l,ds,lo,hi,n,rfl,hd5,R.len,by omega,hlo,fun H3 ho hd3=>?_⟩
   exact⟨fun b o e=>by rw [ho b (Zj e hl0)];exact sm5 _ _ e,_,R.put hlo hb,hd3⟩
 ·rintro σ' H' ⟨sm,ds,R,hd,v5,v6,v7,v8,rfl⟩
  walk_at "rd"
  exact k ds l H' R sm hl0 hd
noncomputable def US:Sp:=fun vs H Q _=>∃ i,vs=[.int i]/\Q (.bl true) H
theorem Zav (B:Blt mg) (S:Src K mg "_law_whole" Xl ["_law_found"]):Fn P w K mg base 1 "_law_whole" ["_law_found"] US:=by
 have sc:Zm ["_law_found"] ["_law_found"] (Zg Xl):=fsc
 refine S.fn sc (fun vs H Q E h=>by obtain⟨i,rfl,_⟩:=h;rfl) fun f cdv A outer s H vs Q E hr h=>?_
 obtain⟨i,rfl,k⟩:=h
 refine⟨_,(@Zf _ _ _ (Zo (JY (Zk (WV K) rfl B.isinstance PyProof.Rows.boot_isinstance (Za (pv 0) (Za (Wg (v:=.ty "int") rfl B.int PyProof.Rows.boot_int rfl) Zc))) (Zde (Zdf (Zk (WV K) rfl B.isinstance PyProof.Rows.boot_isinstance (Za (pv 0) (Za (Wg (v:=.ty "bool") rfl B.bool PyProof.Rows.boot_bool rfl) Zc)))))))),?_⟩
 walk_at "rd"
 refine⟨_,.int i,_,Zi1 K,?_⟩
 walk_at "rd"
 exact⟨_,.int i,_,Zi2 K,k⟩
noncomputable def VA (K:W.Frag):Sp:=fun vs H Q _=>∃ (d:Addr) (ds:List Nat) (n x y:Nat),vs=[.ref d,.int x,.int y]/\SqL K H d (nv ds)/\OkR n ds/\x<n/\y<n/\Q (.bl (Xe ds x y)) H
theorem Jn (B:Blt mg) (S:Src K mg "_law_near" XO ["_law_downs", "_law_one", "_law_other"]):Fn P w K mg base 1 "_law_near" ["_law_downs", "_law_one", "_law_other"] (VA K):=by
 have sc:Zm ["_law_downs", "_law_one", "_law_other"] ["_law_downs", "_law_one", "_law_other"] (Zg XO):=fsc
 refine S.fn sc (fun vs H Q E h=>by obtain⟨d,ds,n,x,y,rfl,_⟩:=h;rfl) fun f cdv A outer s H vs Q E hr h=>?_
 have hu:=Wm hr
 obtain⟨d,ds,n,x,y,rfl,hD,hO,hx,hy,k⟩:=h
 refine⟨_,(@Zf _ _ _ (Zo (JY (Xd (Ww K hu) (pv 1) (pv 2) (Zt _)) (JY (Xd (Yv K hu) (Zl Xj (Zl UB (Zw (ixL K) (pv 0) (pv 1) (fun _ _=>rfl)) (pv 2)) Ze) Ze (Zt _)) (Zde (Xd (Yv K hu) (Zl Xj (Zl UB (Zw (ixL K) (pv 0) (pv 2) (fun _ _=>rfl)) (pv 1)) Ze) Ze (Zt _))))))),?_⟩
 walk_at "rd"
 have a1:=Xw (ks:=ds) (i:=x) (by rw [hO.1];exact hx)
 have a2:=Xw (ks:=ds) (i:=y) (by rw [hO.1];exact hy)
 by_cases he:x=y
 ·subst he
  rw [if_neg (fun z=>z rfl)]
  rw [VO hO hx] at k
  exact k
 rw [if_pos he]
 refine⟨_,hD,_,a1,_,rfl,by omega,?_⟩
 rw [OM.UI]
 unfold Xe at k
 cases h1:(ds.getD x 0).testBit y with
 | true =>
  rw [if_pos rfl,if_neg (by decide)]
  rw [h1] at k
  exact k
 | false =>
  rw [if_pos (by decide)]
  rw [h1] at k
  refine⟨_,hD,_,a2,_,rfl,by omega,?_⟩
  rw [OM.UI]
  cases h2:(ds.getD y 0).testBit x with
  | true=>rw [h2] at k;exact k
  | false=>rw [h2] at k;exact k
noncomputable def WT (ds:List Nat)(x y c e:Nat):Bool:=if x=c/\y≠e then !Xe ds y e else if y=e/\x≠c then !Xe ds x c else false
noncomputable def Vh (K:W.Frag):Sp:=fun vs H Q _=>∃ (d t u:Addr) (ds:List Nat) (n x y c e:Nat),vs=[.ref d,.ref t,.ref u]/\SqL K H d (nv ds)/\OkR n ds/\SqT K H t [.int x,.int y]/\SqT K H u [.int c,.int e]/\x<n/\y<n/\c<n/\e<n/\Q (.bl (WT ds x y c e)) H
theorem VZ (B:Blt mg) (S:Src K mg "_law_forces" YU ["_law_downs", "_law_pair_here", "_law_other"]) (yJ:Fn P w K mg base 1 "_law_near" ["_law_downs", "_law_one", "_law_other"] (VA K)):Fn P w K mg base 2 "_law_forces" ["_law_downs", "_law_pair_here", "_law_other"] (Vh K):=by
 have sc:Zm ["_law_downs", "_law_pair_here", "_law_other"] ["_law_downs", "_law_pair_here", "_law_other"] (Zg YU):=fsc
 refine S.fn sc (fun vs H Q E h=>by obtain⟨d,t,u,ds,n,x,y,c,e,rfl,_⟩:=h;rfl) fun f cdv A outer s H vs Q E hr h=>?_
 have hu:=Wm hr
 obtain⟨d,t,u,ds,n,x,y,c,e,rfl,hD,hO,hT,hU,hx,hy,hc,he,k⟩:=h
 refine⟨_,(@Zb _ _ _ _ _ (Yc (PW.pt (ZbF (Zs (Yv K hu) (Zw (ixT K) (pv 1) Ze (fun _ _=>rfl)) (Zw (ixT K) (pv 2) Ze (fun _ _=>rfl)) (Zt _)) (Ja (Zs (Ww K hu) (Zw (ixT K) (pv 1) Ze (fun _ _=>rfl)) (Zw (ixT K) (pv 2) Ze (fun _ _=>rfl)) (Zt _)))))
   (@Zf _ _ _ (Zo (Zdf (Zi yJ hr.m rfl (Za (pv 0) (Za (Zw (ixT K) (pv 1) Ze (fun _ _=>rfl)) (Za (Zw (ixT K) (pv 2) Ze (fun _ _=>rfl)) Zc)))))))
   Zq)
   (@Zb _ _ _ _ _ (Yc (PW.pt (ZbF (Zs (Yv K hu) (Zw (ixT K) (pv 1) Ze (fun _ _=>rfl)) (Zw (ixT K) (pv 2) Ze (fun _ _=>rfl)) (Zt _)) (Ja (Zs (Ww K hu) (Zw (ixT K) (pv 1) Ze (fun _ _=>rfl)) (Zw (ixT K) (pv 2) Ze (fun _ _=>rfl)) (Zt _)))))
   (@Zf _ _ _ (Zo (Zdf (Zi yJ hr.m rfl (Za (pv 0) (Za (Zw (ixT K) (pv 1) Ze (fun _ _=>rfl)) (Za (Zw (ixT K) (pv 2) Ze (fun _ _=>rfl)) Zc)))))))
   Zq)
   (@Zf _ _ _ (Zo XU)))),?_⟩
 walk_at "rd"
 refine⟨_,hT,_,rfl,_,hU,_,rfl,.inl ⟨rfl,?_⟩⟩
 have tst:∀ a b:Nat,(V.int (a:Int)=V.int (b:Int))↔a=b:=fun a b=>by
  rw [V.int.injEq,Int.natCast_inj]
 unfold WT at k
 by_cases h1:x=c
 ·subst h1
  rw [if_pos rfl]
  refine⟨_,hT,_,rfl,_,hU,_,rfl,.inl ⟨rfl,?_⟩⟩
  by_cases h2:y=e
  ·subst h2
   rw [if_neg (by simp),if_neg (by simp)] at k
   rw [if_neg (by simp)]
   refine⟨_,hT,_,rfl,_,hU,_,rfl,.inl ⟨rfl,?_⟩⟩
   rw [if_pos rfl]
   refine⟨_,hT,_,rfl,_,hU,_,rfl,.inl ⟨rfl,?_⟩⟩
   rw [if_neg (by simp)]
   exact k
  ·rw [if_pos ⟨rfl,h2⟩] at k
   rw [if_pos (by rw [tst];exact h2)]
   exact⟨_,hT,_,rfl,_,hU,_,rfl,d,ds,n,y,e,rfl,hD,hO,hy,he,_,rfl,k⟩
 ·rw [if_neg (fun z=>h1 z.1)] at k
  rw [if_neg (by rw [tst];exact h1)]
  refine⟨_,hT,_,rfl,_,hU,_,rfl,.inl ⟨rfl,?_⟩⟩
  by_cases h2:y=e
  ·subst h2
   rw [if_pos ⟨rfl,h1⟩] at k
   rw [if_pos rfl]
   refine⟨_,hT,_,rfl,_,hU,_,rfl,.inl ⟨rfl,?_⟩⟩
   rw [if_pos (by rw [tst];exact h1)]
   exact⟨_,hT,_,rfl,_,hU,_,rfl,d,ds,n,x,c,rfl,hD,hO,hx,hc,_,rfl,k⟩
  ·rw [if_neg (fun z=>h2 z.1)] at k
   rw [if_neg (by rw [tst];exact h2)]
   exact k
noncomputable def ZbA (K:W.Frag):Sp:=fun vs H Q _=>∃ (a:Addr) (row:List Nat) (n:Nat),vs=[.ref a,.int n]/\H a=some (.lst (nv row))/\row.Perm (List.range n)/\n<=32/\∀ H',Same H H'->Q (.bl true) H'
theorem Zaw (B:Blt mg) (y5a:mg "set" = none) (S:Src K mg "_law_row" Wr ["_law_found", "_law_many"]) (yA:Fn P w K mg base 1 "_law_whole" ["_law_found"] US):Fn P w K mg base 2 "_law_row" ["_law_found", "_law_many"] (ZbA K):=by
 have sc:Zm ["_law_found", "_law_many", "_law_thing"] ["_law_found", "_law_many"] (Zg Wr):=fsc
 refine S.fn sc (fun vs H Q E h=>by obtain⟨a,row,n,rfl,_⟩:=h;rfl) fun f cdv A outer s H vs Q E hr h=>?_
 have hu:=Wm hr
 obtain⟨a,row,n,rfl,hA,hp,hn,k⟩:=h
 have hl:row.length=n:=by rw [hp.length_eq,List.length_range]
 refine⟨_,(@Zb _ _ _ _ _ (Yc (PW.pt (VD (YX (YQ (Zk (WV K) rfl B.isinstance PyProof.Rows.boot_isinstance (Za (pv 0) (Za (Wg (v:=.ty "list") rfl B.list PyProof.Rows.boot_list rfl) Zc))))) (XZ (Zs (Ww K hu) (Zk (ZI K) rfl B.len PySem.boot_len (Za (pv 0) Zc)) (pv 1) (Zt _)))))
   (@Zf _ _ _ (Zo XU))
   Zq)
   (@Zb _ _ _ _ _ (Yd PassesOwn.never rfl (Zj0 (piL K (pv 0)) (piT K (pv 0))) (pg_name (i:=2) sc.nd rfl (Or.inl rfl))
   (@Zf _ _ _ (Yc (PW.pt (VD (YX (YQ (Zi yA hr.m rfl (Za (pv 2) Zc)))) (VD (Zs ZeK (pv 2) Ze (Zt _)) (XZ (Zs ZgZ (pv 2) (pv 1) (Zt _))))))
   (@Zf _ _ _ (Zo XU))
   Zq)))
   (@Zf _ _ _ (Zo (Xd (Yv K hu) (Zk Zfv rfl B.len PySem.boot_len (Za (YR (callSet K rfl) rfl y5a PyProof.Rows.boot_set (Za (pv 0) Zc)) Zc)) (pv 1) (Zt _)))))),?_⟩
 walk_at "rd"
 refine⟨_,.lst hA,_,Zgj K,?_⟩
 walk_at "rd"
 refine⟨_,.inl (SqL.of hA),?_⟩
 rw [Zu,hl]
 rw [if_neg (by simp)]
 refine ZbO (xs:=nv row) (.inl (SqL.of hA)) (fun _ σ' H'=>H'=H/\∃ v,σ'=[some (.ref a),some (.int n),v]) ⟨rfl,none,rfl⟩ (fun i σ' H' ⟨e,_⟩=>by rw [e];exact Same.refl _) ?_ ?_
 ·rintro i x σ' H' ex ⟨rfl,v,rfl⟩
  obtain⟨t,et,rfl⟩:=ZQ ex
  have hx:t<n:=List.mem_range.mp (hp.mem_iff.mp (List.mem_of_getElem? et))
  walk_at "rd"
  refine⟨_,rfl,?_⟩
  walk_at "rd"
  rw [if_neg (by omega),if_neg (by omega)]
  trivial
 ·rintro σ' H' ⟨rfl,v,rfl⟩
  walk_at "rd"
  refine⟨row.map fun k:Nat=>(k:Int),by rw [Zg1] at hA;exact SqL.of hA,by rw [List.length_map];omega,fun l S m h0 hm=>⟨_,_,Zd,?_⟩⟩
  have hnd:(row.map fun k:Nat=>(k:Int)).Nodup:=by
   have h1:row.Nodup:=hp.nodup_iff.mpr List.nodup_range
   rw [List.Nodup,List.pairwise_map]
   exact h1.imp fun h=>by omega
  rw [hm hnd,List.length_map,hl,decide_eq_true rfl]
  exact k _ (Same.upd h0)
noncomputable def JK (K:W.Frag):Sp:=fun vs H Q _=>∃ (a b r1 r2:Addr) (row1 row2:List Nat) (n:Nat),vs=[.ref a,.ref b]/\H a=some (.tup [.ref r1,.ref r2])/\H r1=some (.lst (nv row1))/\H r2=some (.lst (nv row2))/\row1.Perm (List.range n)/\row2.Perm (List.range n)/\n<=32/\H b=some (.lst (nv (OM.dwL [row1,row2] n)))/\∀ H',Same H H'->Q (.bl true) H'
theorem Jl (B:Blt mg) (S:Src K mg "_law_rows_tell" Ym ["_law_found", "_law_downs"]) (yeb:Fn P w K mg base 2 "_law_row" ["_law_found", "_law_many"] (ZbA K)) (yaa:Fn P w K mg base 1 "_law_by" ["_law_rows", "_law_many"] (ZaW K)):Fn P w K mg base 3 "_law_rows_tell" ["_law_found", "_law_downs"] (JK K):=by
 have sc:Zm ["_law_found", "_law_downs", "_law_row_here"] ["_law_found", "_law_downs"] (Zg Ym):=fsc
 refine S.fn sc (fun vs H Q E h=>by obtain⟨a,b,r1,r2,row1,row2,n,rfl,_⟩:=h;rfl) fun f cdv A outer s H vs Q E hr h=>?_
 have hu:=Wm hr
 obtain⟨a,b,r1,r2,row1,row2,n,rfl,hA,h1,h2,p1,p2,hn,hB,k⟩:=h
 refine⟨_,(@Zb _ _ _ _ _ (Yc (PW.pt (VD (YX (YQ (Zk (WV K) rfl B.isinstance PyProof.Rows.boot_isinstance (Za (pv 0) (Za (Wg (v:=.ty "tuple") rfl B.tuple PyProof.Rows.boot_tuple rfl) Zc))))) (XZ (Zs (Ww K hu) (Zk (ZI K) rfl B.len PySem.boot_len (Za (pv 0) Zc)) Ze (Zt _)))))
   (@Zf _ _ _ (Zo XU))
   Zq)
   (@Zb _ _ _ _ _ (Yd PassesOwn.never rfl (Zj0 (piL K (pv 0)) (piT K (pv 0))) (pg_name (i:=2) sc.nd rfl (Or.inl rfl))
   (@Zf _ _ _ (Yc (YX (YQ (Zi yeb hr.m rfl (Za (pv 2) (Za (Zk (ZI K) rfl B.len PySem.boot_len (Za (pv 1) Zc)) Zc)))))
   (@Zf _ _ _ (Zo XU))
   Zq)))
   (@Zf _ _ _ (Zo (Xd (Yv K hu) (Zi yaa hr.m rfl (Za (pv 0) (Za (Zk (ZI K) rfl B.len PySem.boot_len (Za (pv 1) Zc)) Zc))) (pv 1) (Zt _)))))),?_⟩
 walk_at "rd"
 refine⟨_,.tup hA,_,Zgi K,?_⟩
 walk_at "rd"
 refine⟨_,.inr (SqT.of hA),?_⟩
 rw [if_neg (by simp)]
 have hL:LsA H [r1,r2] [row1,row2]:=⟨rfl,fun i r xs e1 e2=>by
  match i with
  | 0=>cases e1;cases e2;exact h1
  | 1=>cases e1;cases e2;exact h2⟩
 have hP:∀ row∈[row1,row2],row.Perm (List.range n):=fun row h=>by
  rcases List.mem_cons.mp h with e | e
  ·rw [e];exact p1
  ·rw [List.mem_singleton.mp e];exact p2
 refine ZbO (xs:=rv [r1,r2]) (.inr (SqT.of hA)) (fun _ σ' H'=>Same H H'/\∃ v,σ'=[some (.ref a),some (.ref b),v]) ⟨Same.refl _,none,rfl⟩ (fun i σ' H' ⟨e,_⟩=>e) ?_ ?_
 ·rintro i x σ' H' ex ⟨sm,v,rfl⟩
  obtain⟨q,eq,rfl⟩:=Wf ex
  obtain⟨row,er,hq⟩:=hL.at eq
  walk_at "rd"
  refine⟨_,.inl (sm.seq (SqL.of hB)),?_⟩
  rw [Zu,ZdT]
  refine⟨q,row,n,rfl,sm _ _ hq,hP _ (List.mem_of_getElem? er),hn,fun H2 s2=>?_⟩
  walk_at "rd"
  exact sm.trans s2
 ·rintro σ' H' ⟨sm,v,rfl⟩
  walk_at "rd"
  refine⟨_,.inl (sm.seq (SqL.of hB)),?_⟩
  rw [Zu,ZdT]
  refine⟨a,[r1,r2],[row1,row2],n,rfl,.inr (sm.tup (SqT.of hA)),LsA.same hL sm,hn,hP,fun l H2 s2 hl0 hl2=>⟨⟨_,rfl⟩,_,Jo (SqL.of hl2) (s2.seq (sm.seq (SqL.of hB))),?_⟩⟩
  rw [decide_eq_true rfl]
  exact k _ (sm.trans s2)
noncomputable def Js (K:W.Frag)(C:Addr):List Value->List Bool->Prop
 | d::ds,b::bs=>W.kitOne K (.ref C) d=some b/\Js K C ds bs
 | [],[]=>True
 | _,_=>False
noncomputable def ZbC (K:W.Frag)(ds:List Value):Sp:=fun vs H Q _=>∃ a C dct b1 b2 b3 b4 b5 b6 b7,vs=[.ref a]/\H a=some (.ext (XIs a (.ref C) dct))/\ZbX K C/\Js K C ds [true,b1,b2,b3,b4,b5,b6,b7,true]/\([b1,b2,b3,b4,b5,b6,b7].filter fun b=>b)=[true]/\∀ H',Same H H'->Q (.bl true) H'
theorem Zay {yb yk yl yp yt ya yf yd:Addr} (B:Blt mg) (yM:mg "ValueError" = none) (S:Src K mg "_law_alone" YN ["_law_error"]) (ym:mg "OrderError" = some (.ref yb))
  (y0:mg "TooMany" = some (.ref yk)) (y3:mg "NoThing" = some (.ref yl)) (yga:mg "NoWay" = some (.ref yp)) (yIa:mg "Ring" = some (.ref yt)) (yi:mg "NoTwoRows" = some (.ref ya)) (yS:mg "NoLattice" = some (.ref yf)) (yx:mg "NotSpreading" = some (.ref yd)) :
  Fn P w K mg base 1 "_law_alone" ["_law_error"] (ZbC K [.ref yb,.ref yk,.ref yl,.ref yt,.ref yp,.ref ya,.ref yf,.ref yd,.type "ValueError"]):=by
 have sc:Zm ["_law_error", "_law_told"] ["_law_error"] (Zg YN):=fsc
 refine S.fn sc (fun vs H Q E h=>by obtain⟨a,C,dct,b1,b2,b3,b4,b5,b6,b7,rfl,_⟩:=h;rfl) fun f cdv A outer s H vs Q E hr h=>?_
 have hu:=Wm hr
 obtain⟨a,C,dct,b1,b2,b3,b4,b5,b6,b7,rfl,ha,Z,⟨k0,k1,k2,k3,k4,k5,k6,k7,k8,_⟩,hf,k⟩:=h
 refine⟨_,(@Zb _ _ _ _ _ (Yc (PW.pt (VD (YX (YQ (Zk (YE K) rfl B.isinstance PyProof.Rows.boot_isinstance (Za (pv 0) (Za (Xo (v:=.ref yb) rfl ym rfl) Zc))))) (XZ (YX (YQ (Zk (YE K) rfl B.isinstance PyProof.Rows.boot_isinstance (Za (pv 0) (Za (Wg (v:=.ty "ValueError") rfl yM (by decide +kernel) rfl) Zc))))))))
   (@Zf _ _ _ (Zo XU))
   Zq)
   (@Zb _ _ _ _ _ (Zn (i:=1) sc.nd rfl (Or.inl rfl) (Wu (Za (Zk (YE K) rfl B.isinstance PyProof.Rows.boot_isinstance (Za (pv 0) (Za (Xo (v:=.ref yk) rfl y0 rfl) Zc))) (Za (Zk (YE K) rfl B.isinstance PyProof.Rows.boot_isinstance (Za (pv 0) (Za (Xo (v:=.ref yl) rfl y3 rfl) Zc))) (Za (Zk (YE K) rfl B.isinstance PyProof.Rows.boot_isinstance (Za (pv 0) (Za (Xo (v:=.ref yt) rfl yIa rfl) Zc))) Zc)))))
   (@Zb _ _ _ _ _ (Zn (i:=1) sc.nd rfl (Or.inl rfl) (Zl Yr (pv 1) (Wu (Za (Zk (YE K) rfl B.isinstance PyProof.Rows.boot_isinstance (Za (pv 0) (Za (Xo (v:=.ref yp) rfl yga rfl) Zc))) (Za (Zk (YE K) rfl B.isinstance PyProof.Rows.boot_isinstance (Za (pv 0) (Za (Xo (v:=.ref ya) rfl yi rfl) Zc))) Zc)))))
   (@Zb _ _ _ _ _ (Zn (i:=1) sc.nd rfl (Or.inl rfl) (Zl Yr (pv 1) (Wu (Za (Zk (YE K) rfl B.isinstance PyProof.Rows.boot_isinstance (Za (pv 0) (Za (Xo (v:=.ref yf) rfl yS rfl) Zc))) (Za (Zk (YE K) rfl B.isinstance PyProof.Rows.boot_isinstance (Za (pv 0) (Za (Xo (v:=.ref yd) rfl yx rfl) Zc))) Zc)))))
   (@Zf _ _ _ (Zo (Xd (Yv K hu) (Zk (ZI K) rfl B.len PySem.boot_len (Za (WN (YZ (M:=["_law_one"]) (nt:=1) (cap:=[]) (Zg YN) ["_law_error", "_law_told"] rfl rfl rfl (by decide +kernel) (by decide +kernel) (by decide +kernel) (fun j hj=>absurd hj (Nat.not_lt_zero j)) rfl) rfl (piL K (pv 1)) (fun cl C fp s' H'=>(pg_name (i:=0) (show (["_law_one"]:List Str).Nodup by decide +kernel) rfl (Or.inl rfl))) (fun cl C fp s' H'=>(Zc2 (YQ (pv 0)))) (fun cl C fp s' H'=>(pv 0))) Zc)) Ze (Zt _)))))))),?_⟩
 refine cut1 (fun σ' H1=>H1=H/\σ'=[some (.ref a),none]) (fun N hN=>?_) ?_
 ·walk_at "rd"
  refine⟨C,⟨_,ha⟩,Z,_,rfl,_,k0,?_⟩
  rw [if_neg (by decide)]
  refine⟨C,⟨_,ha⟩,Z,_,rfl,_,k8,?_⟩
  rw [if_neg (by decide)]
  exact hN _ _ ⟨rfl,rfl⟩
 clear k0 k8
 rintro σ' H0 ⟨rfl,rfl⟩
 refine cut1 (fun σ' H1=>Same H0 H1/\∃ p,H1 p=some (.lst ([b1,b2,b3].map V.bl))/\σ'=[some (.ref a),some (.ref p)]) (fun N hN=>?_) ?_
 ·walk_at "rd"
  refine⟨C,⟨_,ha⟩,Z,_,rfl,_,k1,C,⟨_,ha⟩,Z,_,rfl,_,k2,C,⟨_,ha⟩,Z,_,rfl,_,k3,by rw [sizeLine_eq];decide,?_⟩
  intro p1 hp_p1
  generalize hq_p1:upd _ p1 _=H1
  have s_H1:Same _ H1:=hq_p1▸Same.upd hp_p1
  have e_H1:H1 p1=some _:=hq_p1▸Zd
  clear hq_p1
  exact hN _ _ ⟨s_H1,p1,e_H1,rfl⟩
 clear k1 k2 k3
 rintro σ' H1 ⟨s1,p1,e1,rfl⟩
 have a1:=s1 _ _ ha
 refine cut1 (fun σ' H2=>Same H1 H2/\∃ p,H2 p=some (.lst ([b1,b2,b3,b4,b5].map V.bl))/\σ'=[some (.ref a),some (.ref p)]) (fun N hN=>?_) ?_
 ·walk_at "rd"
  refine⟨C,⟨_,a1⟩,Z,_,rfl,_,k4,C,⟨_,a1⟩,Z,_,rfl,_,k5,by rw [sizeLine_eq];decide,?_⟩
  intro p2 hp_p2
  generalize hq_p2:upd _ p2 _=H2
  have s_H2:Same _ H2:=hq_p2▸Same.upd hp_p2
  have e_H2:H2 p2=some _:=hq_p2▸Zd
  clear hq_p2
  refine⟨_,s_H2 _ _ e1,_,e_H2,by rw [sizeLine_eq];simp,?_⟩
  intro p3 hp_p3
  generalize hq_p3:upd _ p3 _=H3
  have s_H3:Same _ H3:=hq_p3▸Same.upd hp_p3
  have e_H3:H3 p3=some _:=hq_p3▸Zd
  clear hq_p3
  exact hN _ _ ⟨s_H2.trans s_H3,p3,e_H3,rfl⟩
 clear k4 k5 e1 ha
 rintro σ' H2 ⟨s2,p2,e2,rfl⟩
 have a2:=s2 _ _ a1
 refine cut1 (fun σ' H3=>Same H2 H3/\∃ p,H3 p=some (.lst ([b1,b2,b3,b4,b5,b6,b7].map V.bl))/\σ'=[some (.ref a),some (.ref p)]) (fun N hN=>?_) ?_
 ·walk_at "rd"
  refine⟨C,⟨_,a2⟩,Z,_,rfl,_,k6,C,⟨_,a2⟩,Z,_,rfl,_,k7,by rw [sizeLine_eq];decide,?_⟩
  intro p3 hp_p3
  generalize hq_p3:upd _ p3 _=H3
  have s_H3:Same _ H3:=hq_p3▸Same.upd hp_p3
  have e_H3:H3 p3=some _:=hq_p3▸Zd
  clear hq_p3
  refine⟨_,s_H3 _ _ e2,_,e_H3,by rw [sizeLine_eq];simp,?_⟩
  intro p4 hp_p4
  generalize hq_p4:upd _ p4 _=H4
  have s_H4:Same _ H4:=hq_p4▸Same.upd hp_p4
  have e_H4:H4 p4=some _:=hq_p4▸Zd
  clear hq_p4
  exact hN _ _ ⟨s_H3.trans s_H4,p4,e_H4,rfl⟩
 clear k6 k7 e2 a1 a2 Z
 rintro σ' H5 ⟨s5,p5,e5,rfl⟩
 walk_at "rd"
 have hfl:[b1,b2,b3,b4,b5,b6,b7].length<=7:=Nat.le_refl _
 generalize [b1,b2,b3,b4,b5,b6,b7]=bs at e5 hf hfl
 refine⟨⟨_,SqL.of e5⟩,fun l hl=>?_⟩
 refine WF (H₀:=H5) (VU (SqL.of e5)) (fun i acc _=>acc=((bs.take i).filter fun b=>b).map V.bl) (by rw [List.length_map];exact Nat.le_of_lt (Zz (by omega))) (fun _ _ _ _ _ h=>h) hl rfl ?_ ?_
 ·intro i mm x acc pre H6 r hpre ct
  match pre,hpre with
  | [p0],_ =>
  have hacc:=ct.hp
  obtain⟨b,eb,rfl⟩:∃ b,bs[i]? = some b/\x=V.bl b:=by
   rw [List.getElem?_map] at r
   cases e:bs[i]? with
   | none=>rw [e] at r;cases r
   | some b=>rw [e] at r;cases r;exact⟨b,rfl,rfl⟩
  walk_at "rd"
  cases b with
  | true =>
   rw [if_pos rfl]
   refine ct.yes (Same.refl _) ?_ (pre:=[_]) rfl rfl
   rw [hacc,Zco eb rfl,List.map_append]
   rfl
  | false =>
   rw [if_neg (by decide)]
   refine ct.no (Same.refl _) ?_ (pre:=[_]) rfl rfl
   rw [hacc,Zcp eb (by decide)]
 ·intro acc H6 s6 hl6 e
  rw [List.length_map,List.take_length,hf] at e
  subst e
  walk_at "rd"
  refine⟨_,.inl (SqL.of hl6),?_⟩
  exact k H6 (((s1.trans s2).trans s5).trans s6)
noncomputable def JL (K:W.Frag):Sp:=fun vs H Q _=>∃ (t d:Addr) (ds:List Nat) (n x y:Nat),vs=[.ref t,.ref d]/\H t=some (.tup [.int x,.int y])/\SqL K H d (nv ds)/\OkR n ds/\n<=32/\x<n/\y<n/\Xe ds x y=true/\Q (.bl true) H
theorem ZdP (B:Blt mg) (ykb:mg "min" = none) (ylb:mg "max" = none) (S:Src K mg "_law_pair" XM ["_law_found", "_law_downs"]) (yA:Fn P w K mg base 1 "_law_whole" ["_law_found"] US) (yJ:Fn P w K mg base 1 "_law_near" ["_law_downs", "_law_one", "_law_other"] (VA K)):Fn P w K mg base 2 "_law_pair" ["_law_found", "_law_downs"] (JL K):=by
 have sc:Zm ["_law_found", "_law_downs"] ["_law_found", "_law_downs"] (Zg XM):=fsc
 refine S.fn sc (fun vs H Q E h=>by obtain⟨t,d,ds,n,x,y,rfl,_⟩:=h;rfl) fun f cdv A outer s H vs Q E hr h=>?_
 have hu:=Wm hr
 obtain⟨t,d,ds,n,x,y,rfl,hT,hD,hO,hn,hx,hy,hxy,k⟩:=h
 refine⟨_,(@Zb _ _ _ _ _ (Yc (PW.pt (VD (YX (YQ (Zk (WV K) rfl B.isinstance PyProof.Rows.boot_isinstance (Za (pv 0) (Za (Wg (v:=.ty "tuple") rfl B.tuple PyProof.Rows.boot_tuple rfl) Zc))))) (XZ (Zs (Ww K hu) (Zk (ZI K) rfl B.len PySem.boot_len (Za (pv 0) Zc)) Ze (Zt _)))))
   (@Zf _ _ _ (Zo XU))
   Zq)
   (@Zb _ _ _ _ _ (Yc (PW.pt (VD (YX (YQ (Zi yA hr.m rfl (Za (Zw (ixT K) (pv 0) Ze (fun _ _=>rfl)) Zc)))) (XZ (YX (YQ (Zi yA hr.m rfl (Za (Zw (ixT K) (pv 0) Ze (fun _ _=>rfl)) Zc)))))))
   (@Zf _ _ _ (Zo XU))
   Zq)
   (@Zb _ _ _ _ _ (Yc (PW.pt (VD (Zs ZeK (Zk (Zft K rfl) rfl B.min PyProof.Rows.boot_min (Za (pv 0) Zc)) Ze (Zt _)) (XZ (Zs ZgZ (Zk (Zfu K rfl) rfl B.max PyProof.Rows.boot_max (Za (pv 0) Zc)) (Zk (ZI K) rfl B.len PySem.boot_len (Za (pv 1) Zc)) (Zt _)))))
   (@Zf _ _ _ (Zo XU))
   Zq)
   (@Zf _ _ _ (Zo (Zi yJ hr.m rfl (Za (pv 1) (Za (Zw (ixT K) (pv 0) Ze (fun _ _=>rfl)) (Za (Zw (ixT K) (pv 0) Ze (fun _ _=>rfl)) Zc))))))))),?_⟩
 have hT2:=SqT.of (K:=K) hT
 walk_at "rd"
 refine⟨_,.tup hT,_,Zgi K,?_⟩
 rw [if_neg (by decide)]
 refine⟨_,.inr hT2,?_⟩
 rw [if_neg (fun z=>z rfl)]
 refine⟨_,hT2,_,rfl,_,rfl,true,rfl,?_⟩
 rw [if_neg (by decide)]
 refine⟨_,hT2,_,rfl,_,rfl,true,rfl,?_⟩
 rw [if_neg (by decide)]
 refine⟨_,_,hT2,?_⟩
 rw [if_neg (by split<;>omega)]
 refine⟨_,_,hT2,_,.inl hD,?_⟩
 rw [Zu,hO.1,if_neg (by split<;>omega)]
 refine⟨_,hT2,_,rfl,_,hT2,_,rfl,d,ds,n,x,y,rfl,hD,hO,hx,hy,?_⟩
 rw [hxy]
 exact k
noncomputable def JH (K:W.Frag):Sp:=fun vs H Q _=>∃ (w d:Addr) (rs:List Addr) (ws:List (Nat×Nat)) (ds:List Nat) (n i q:Nat),vs=[.ref w,.ref d]/\H w=some (.lst (rv rs))/\PrT H rs (ws.map np)/\SqL K H d (nv ds)/\OkR n ds/\n<=32/\ws.length<=1024/\2<=ws.length/\ws.Nodup/\(∀ x∈ws,x.1<n/\x.2<n/\Xe ds x.1 x.2=true)/\(∀ (k:Nat) (a b:Nat×Nat),ws[k]? = some a->ws[k+1]? = some b->WT ds a.1 a.2 b.1 b.2=true)/\ws[0]? = some (i,q)/\ws[ws.length-1]? = some (q,i)/\∀ H',Same H H'->Q (.bl true) H'
theorem ZdM (B:Blt mg) (S:Src K mg "_law_walk" XH ["_law_found", "_law_downs"]) (y6a:Fn P w K mg base 2 "_law_pair" ["_law_found", "_law_downs"] (JL K)) (yJa:Fn P w K mg base 2 "_law_forces" ["_law_downs", "_law_pair_here", "_law_other"] (Vh K)):Fn P w K mg base 3 "_law_walk" ["_law_found", "_law_downs"] (JH K):=by
 have sc:Zm ["_law_found", "_law_downs", "_law_told", "_law_pair_here", "_law_k"] ["_law_found", "_law_downs"] (Zg XH):=fsc
 refine S.fn sc (fun vs H Q E h=>by obtain⟨a,d,rs,ws,ds,n,i,q,rfl,_⟩:=h;rfl) fun f cdv A outer s H vs Q E hr h=>?_
 have hu:=Wm hr
 obtain⟨wa,d,rs,ws,ds,n,i,q,rfl,hW,hP,hD,hO,hn,hl1,hl2,hnd,hin,hfo,h0,hla,k⟩:=h
 refine⟨_,(@Zb _ _ _ _ _ (Yc (PW.pt (VD (YX (YQ (Zk (WV K) rfl B.isinstance PyProof.Rows.boot_isinstance (Za (pv 0) (Za (Wg (v:=.ty "list") rfl B.list PyProof.Rows.boot_list rfl) Zc))))) (XZ (Zs ZeK (Zk (ZI K) rfl B.len PySem.boot_len (Za (pv 0) Zc)) Ze (Zt _)))))
   (@Zf _ _ _ (Zo XU))
   Zq)
   (@Zb _ _ _ _ _ (Zn (i:=2) sc.nd rfl (Or.inl rfl) Je)
   (@Zb _ _ _ _ _ (Yd PassesOwn.never rfl (Zj0 (piL K (pv 0)) (piT K (pv 0))) (pg_name (i:=3) sc.nd rfl (Or.inl rfl))
   (@Zb _ _ _ _ _ (Yc (PW.pt (VD (YX (YQ (Zi y6a hr.m rfl (Za (pv 3) (Za (pv 1) Zc))))) (XZ (UA (Zdi (huD hu) (pv 3) (pv 2))))))
   (@Zf _ _ _ (Zo XU))
   Zq)
   (@Zf _ _ _ (Zc5 (huD hu) (pv 2) (pv 3) XU rfl))))
   (@Zb _ _ _ _ _ (Yd PassesOwn.never rfl (VF rfl B.range (Za Ze (Za (Zk (ZI K) rfl B.len PySem.boot_len (Za (pv 0) Zc)) Zc))) (pg_name (i:=4) sc.nd rfl (Or.inl rfl))
   (@Zf _ _ _ (Yc (YX (YQ (Zi yJa hr.m rfl (Za (pv 1) (Za (Zw (ixL K) (pv 0) (Zl ZbI (pv 4) Ze) (fun _ _=>rfl)) (Za (Zw (ixL K) (pv 0) (pv 4) (fun _ _=>rfl)) Zc))))))
   (@Zf _ _ _ (Zo XU))
   Zq)))
   (@Zf _ _ _ (Zo (Xd (Yv K hu) (Zw (ixL K) (pv 0) (VH ZcC Ze) (fun _ _=>rfl)) (Xu (Za (Zw (ixT K) (Zw (ixL K) (pv 0) Ze (fun _ _=>rfl)) Ze (fun _ _=>rfl)) (Za (Zw (ixT K) (Zw (ixL K) (pv 0) Ze (fun _ _=>rfl)) Ze (fun _ _=>rfl)) Zc))) (Zt _)))))))),?_⟩
 have hrl:rs.length=ws.length:=by rw [hP.len,List.length_map]
 refine Zk8 (fun σ' H1=>Same H H1/\∃ v2 v3,σ'=[some (.ref wa),some (.ref d),v2,v3,none]) (fun N hN=>?_) ?_
 ·walk_at "rd"
  refine⟨_,.lst hW,_,Zgj K,?_⟩
  rw [if_neg (by decide)]
  refine⟨_,.inl (SqL.of hW),?_⟩
  rw [Yn,if_neg (by omega)]
  intro p hp
  have s0:Same H (upd H p (.dT [])):=Same.upd hp
  refine Zhk (xs:=rv rs) (H₀:=H) (.inl (SqL.of hW)) (fun i σ' H'=>Same H H'/\(∃ kvs:List (List Key×V),H' p=some (.dT kvs)/\kvs.map (·.1)=(ws.take i).map kp)/\∃ v3,σ'=[some (.ref wa),some (.ref d),some (.ref p),v3,none]) ⟨s0,⟨[],Zd,rfl⟩,none,rfl⟩ (fun i σ' H' h=>h.1) ?_ (fun σ' H' ⟨h1,_,v3,h3⟩=>hN _ _ ⟨h1,_,v3,h3⟩)
  rintro j v σ' H1 ev ⟨s1,⟨kvs,hk,hkm⟩,v3,rfl⟩ N' R' T' hN'
  obtain⟨r,er,rfl⟩:=Wf ev
  obtain⟨⟨x,y⟩,exy,_⟩:=(hP.a (K:=K)).getN er
  have hr1:H r=some (.tup [.int (x:Nat),.int (y:Nat)]):=by
   obtain⟨r',er',h⟩:=hP.get (i:=j) (p:=np (x,y)) (by rw [List.getElem?_map,exy];rfl)
   rw [er] at er';cases er';exact h
  have hm:=hin (x,y) (List.mem_of_getElem? exy)
  have hj:j<ws.length:=(List.getElem?_eq_some_iff.mp exy).1
  have hno:(x,y)∉ws.take j:=fun z=>by
   obtain⟨j',hj',e⟩:=List.mem_iff_getElem.mp z
   have hj2:j' < j:=by rw [List.length_take] at hj';omega
   rw [List.getElem_take] at e
   have:=(List.getElem?_inj (by omega:j' < ws.length) hnd).mp (by rw [List.getElem?_eq_getElem (by omega),e,exy]:ws[j']? = ws[j]?)
   omega
  have hkl:kvs.length=(ws.take j).length:=by
   have:=congrArg List.length hkm
   rwa [List.length_map,List.length_map] at this
  rw [List.length_take] at hkl
  walk_at "rd"
  refine⟨r,d,ds,n,x,y,rfl,s1 _ _ hr1,s1.seq hD,hO,hn,hm.1,hm.2.1,hm.2.2,true,rfl,?_⟩
  rw [if_neg (by decide)]
  refine⟨_,DGet.t (k:=kp (x,y)) hk (s1 _ _ hr1),?_⟩
  rw [Xy hkm,decide_eq_false hno,if_neg (by decide)]
  refine⟨_,DPut.t (k:=kp (x,y)) hk (s1 _ _ hr1) (by rw [sizeLine_eq];omega),?_⟩
  rw [Jb _ (ZaR hkm hno)]
  refine hN' _ _ ⟨s1.write hp,⟨_,Zd,?_⟩,_,rfl⟩
  rw [List.map_append,hkm,List.take_add_one,exy,Option.toList_some,List.map_append]
  rfl
 rintro σ' H1 ⟨s1,v2,v3,rfl⟩
 have at_:∀ (j:Nat) (x y:Nat),ws[j]? = some (x,y)->∃ r,atI (rv rs) (j:Int)=some (.ref r)/\SqT K H1 r [.int (x:Nat),.int (y:Nat)]/\(rv rs)[j]? = some (.ref r):=fun j x y e=>by
  obtain⟨r,er,h⟩:=(hP.a (K:=K)).at (i:=j) (p:=np (x,y)) (by rw [List.getElem?_map,e];rfl)
  have e2:(rv rs)[j]? = some (.ref r):=by unfold rv;rw [List.getElem?_map,er];rfl
  exact⟨r,WX e2,s1.tup h,e2⟩
 have hW1:=s1 _ _ hW
 refine cut1 (fun σ' H2=>H2=H1/\∃ v4,σ'=[some (.ref wa),some (.ref d),v2,v3,v4]) (fun N hN=>?_) ?_
 ·walk_at "rd"
  refine⟨_,.inl (SqL.of hW1),?_⟩
  rw [Yn]
  refine⟨by decide,by decide,by omega,by omega,?_⟩
  refine YY (fun i σ' H2=>H2=H1/\∃ v4,σ'=[some (.ref wa),some (.ref d),v2,v3,v4]) ⟨rfl,none,rfl⟩ ?_ (fun σ' H' h=>hN _ _ h)
  rintro j σ' H2 hj ⟨rfl,v4,rfl⟩
  have hj:j+1<ws.length:=by omega
  obtain⟨⟨x,y⟩,e1⟩:∃ q,ws[j]? = some q:=⟨_,List.getElem?_eq_getElem (by omega)⟩
  obtain⟨⟨c,e⟩,e2⟩:∃ q,ws[j+1]? = some q:=⟨_,List.getElem?_eq_getElem hj⟩
  obtain⟨r1,a1,t1,_⟩:=at_ j x y e1
  obtain⟨r2,a2,t2,_⟩:=at_ (j+1) c e e2
  have m1:=hin _ (List.mem_of_getElem? e1)
  have m2:=hin _ (List.mem_of_getElem? e2)
  walk_at "rd"
  rw [show (1:Int)+(j:Int)-1=(j:Int) by omega,show (1:Int)+(j:Int)=((j+1:Nat):Int) by omega]
  refine⟨_,SqL.of hW1,_,a1,_,SqL.of hW1,_,a2,d,r1,r2,ds,n,x,y,c,e,rfl,s1.seq hD,hO,t1,t2,m1.1,m1.2.1,m2.1,m2.2.1,?_⟩
  rw [hfo j _ _ e1 e2]
  exact⟨true,rfl,by rw [if_neg (by decide)]⟩
 rintro σ' H2 ⟨rfl,v4,rfl⟩
 obtain⟨r0,a0,t0,_⟩:=at_ 0 i q h0
 obtain⟨r9,_,t9,a9⟩:=at_ (ws.length-1) q i hla
 have a8:atI (rv rs) (-1)=some (.ref r9):=by
  unfold atI ixN
  rw [Yn,if_neg (by decide),if_pos (by omega)]
  show (rv rs)[((-1:Int)+(rs.length:Int)).toNat]? = _
  rw [show ((-1:Int)+(rs.length:Int)).toNat=ws.length-1 by omega]
  exact a9
 walk_at "rd"
 refine⟨_,SqL.of hW1,_,a8,_,SqL.of hW1,_,a0,_,rfl,_,t0,_,rfl,_,SqL.of hW1,_,a0,_,rfl,_,t0,_,rfl,by rw [sizeLine_eq];decide,fun p hp=>⟨⟨_,rfl⟩,_,ZbQ (n:=59) ((Same.upd hp).tup t9) (SqT.of Zd),?_⟩⟩
 rw [decide_eq_true rfl]
 exact k _ (s1.trans (Same.upd hp))
noncomputable def Zbz (K:W.Frag)(T CN:Addr):Sp:=fun vs H Q E=>Vx K T vs H Q E\/JJ K CN vs H Q E
noncomputable def Uy (K:W.Frag)(T CN:Addr):Sp:=fun vs H Q _=>∃ (h:Addr) (ds:List Nat) (n:Nat),vs=[.ref h]/\SqL K H h (nv ds)/\OM.PO n ds/\n<=32/\Zj5 H T /\
 (OG.Ac (EdS (sidesN ds))->∀ (l t a b:Addr) H',SameT H H'->H' l=some (.lst [.ref t,.non])->H' t=some (.tup [.ref a,.ref b])->H' a=some (.lst (nv (row1 ds)))->H' b=some (.lst (nv (row2 ds)))->(row1 ds).Perm (List.range n)->(row2 ds).Perm (List.range n)->OM.dwL [row1 ds,row2 ds] n=ds->Q (.ref l) H') /\
 (¬ OG.Ac (EdS (sidesN ds))->∀ (i q:Nat) (ps:List (Nat×Nat)) (l ea dx wl:Addr) (rs:List Addr) H',UJ (sidesN ds) i q->(∀ x∈ps,EdS (sidesN ds) x.1 x.2)->Ue (sidesN ds) (i,q) (q,i) ps (Zen ds i q)->(Zen ds i q).length<=1024->Same H H'->H wl=none->H' l=some (.lst [.non,.ref ea])->H' ea=some (.ext (XIs ea (.ref CN) (some dx)))->H' dx=some (.xd [("walk",.ref wl)])->H' wl=some (.lst (rv rs))->PrT H' rs ((Zen ds i q).map np)->Q (.ref l) H')
theorem Zcn {T ya:Addr} {yn:List Value} (B:Blt mg) (S:Src K mg "_law_asked" Xn ["_law_handed"]) (y7a:FnX P w K mg base 9 "two_rows" ["downs"] (Zbz K T ya)) (yi:mg "NoTwoRows" = some (.ref ya)) (yu:ZfV K ya yn) (yq:yn.contains (.type "BaseException")=true):Fn P w K mg base 10 "_law_asked" ["_law_handed"] (Uy K T ya):=by
 have sc:Zm ["_law_handed", "_law_found", "_law_error", "e"] ["_law_handed"] (Zg Xn):=fsc
 refine S.fn sc (fun vs H Q E h=>by obtain⟨h,ds,n,rfl,_⟩:=h;rfl) fun f cdv A outer s H vs Q E hr h=>?_
 have hu:=Wm hr
 obtain⟨h,ds,n,rfl,hS,R,hn,hT,k1,k2⟩:=h
 refine⟨_,(@Zb _ _ _ _ _ (Zn (i:=1) sc.nd rfl (Or.inl rfl) JX)
   (@Zb _ _ _ _ _ (Zn (i:=2) sc.nd rfl (Or.inl rfl) JX)
   (@Zb _ _ _ _ _ (ZgN ⟨rfl,rfl,rfl⟩ (ZiS (j:=1) y7a hr.m rfl sc.nd rfl rfl (Za (pv 0) Zc)) (Zku (i:=3) K ⟨rfl,rfl,rfl⟩ sc.nd rfl rfl rfl yi yu yq (fun v=>(@Zf _ _ _ (Zn (i:=2) sc.nd rfl (Or.inl rfl) (pv 3)))) Zjf))
   (@Zf _ _ _ (Zo (Wu (Za (pv 1) (Za (pv 2) Zc)))))))),?_⟩
 by_cases hA:OG.Ac (EdS (sidesN ds))
 ·have k:=k1 hA
  clear k1 k2
  walk_at "rd"
  refine .inl ⟨h,ds,n,rfl,hS,R,hn,hA,hT,fun t a b H1 s1 ft fa fb hab hT1 ht ha hb p1 p2 hd=>?_⟩
  walk_at "rd"
  refine⟨by rw [sizeLine_eq];decide,?_⟩
  intro l hp_l
  generalize hq_l:upd _ l _=H2
  have s_H2:Same _ H2:=hq_l▸Same.upd hp_l
  have e_H2:H2 l=some _:=hq_l▸Zd
  clear hq_l
  exact k l t a b H2 (s1.trans s_H2.t) e_H2 (s_H2 _ _ ht) (s_H2 _ _ ha) (s_H2 _ _ hb) p1 p2 hd
 ·have k:=k2 hA
  clear k1 k2
  walk_at "rd"
  refine .inr ⟨h,ds,n,rfl,hS,Zdb R,hn,hA,fun i q ps dx wl rs H1 hf he hw hl s1 hdx0 hwl0 hdx hwl hP=>⟨_,rfl,_,yu,by simp,fun ea hea=>?_⟩⟩
  walk_at "rd"
  refine⟨by rw [sizeLine_eq];decide,?_⟩
  have s2:Same H1 (upd H1 ea (.ext (XIs ea (.ref ya) (some dx)))):=Same.upd hea
  have e2:upd H1 ea (.ext (XIs ea (.ref ya) (some dx))) ea=some (.ext (XIs ea (.ref ya) (some dx))):=Zd
  generalize upd H1 ea (.ext (XIs ea (.ref ya) (some dx)))=H2 at s2 e2
  intro l hp_l
  generalize hq_l:upd _ l _=H3
  have s_H3:Same _ H3:=hq_l▸Same.upd hp_l
  have e_H3:H3 l=some _:=hq_l▸Zd
  clear hq_l
  have s23:=s2.trans s_H3
  exact k i q ps l ea dx wl rs H3 hf he hw hl (s1.trans s23) hwl0 e_H3 (s_H3 _ _ e2) (s23 _ _ hdx) (s23 _ _ hwl) (hP.same s23)
theorem Zas {n x y c e:Nat}{ds:List Nat}(hO:OkR n ds)(hx:x<n)(hy:y<n)(hc:c<n)(he:e<n)(n2:Xe ds c e=true):(c,e)∈Zx (sidesN ds) x y↔WT ds x y c e=true:=by
 have hl:=hO.1
 rw [VR,ed_near (by omega),ed_near (by omega),ed_near (by omega),ed_near (by omega)]
 unfold WT
 by_cases h1:x=c
 ·subst h1
  by_cases h2:y=e
  ·subst h2;simp
  ·simp [h2,n2,Ne.symm h2,hl,hc,he]
 ·by_cases h2:y=e
  ·subst h2
   have n3:Xe ds y c=true:=by rw [Zad];exact n2
   simp [h1,Ne.symm h1,n3,hl,hc,he]
  ·simp [h1,h2,Ne.symm h1,Ne.symm h2]
structure Zls (ds:List Nat)(n i q:Nat)(ws:List (Nat×Nat)):Prop where
 two:2<=ws.length
 nd:ws.Nodup
 inn:∀ x∈ws,x.1<n/\x.2<n/\Xe ds x.1 x.2=true
 nx:∀ (k:Nat) (a b:Nat×Nat),ws[k]? = some a->ws[k+1]? = some b->WT ds a.1 a.2 b.1 b.2=true
 hd:ws[0]? = some (i,q)
 la:ws[ws.length-1]? = some (q,i)
theorem Zj9 {ds:List Nat}{n i q:Nat}{ps ws:List (Nat×Nat)}(R:OM.PO n ds)(he:∀ x∈ps,EdS (sidesN ds) x.1 x.2)(h:Ue (sidesN ds) (i,q) (q,i) ps ws):Zls ds n i q ws:=by
 have hO:=Zdb R
 have hl:=R.len
 have inn:∀ x∈ws,x.1<n/\x.2<n/\Xe ds x.1 x.2=true:=fun x hx=>by
  have e:=he x (h.inn x hx)
  have e2:=(Xs R).mp e
  exact⟨e2.1,e2.2.1,((ed_near (by rw [hl];exact e2.1)).mp e).2⟩
 refine⟨?_,h.nd,inn,fun k a b h1 h2=>?_,h.hd,h.la⟩
 ·have m0:=inn _ (List.mem_of_getElem? h.hd)
  apply Classical.byContradiction
  intro hlt
  have:ws.length-1=0:=by omega
  have e:=h.la
  rw [this,h.hd] at e
  injection e with e
  injection e with e1 e2
  subst e1
  have:=m0.2.2
  rw [VO hO m0.1] at this
  cases this
 ·have ma:=inn _ (List.mem_of_getElem? h1)
  have mb:=inn _ (List.mem_of_getElem? h2)
  exact (Zas hO ma.1 ma.2.1 mb.1 mb.2.1 mb.2.2).mp (h.nx k a b h1 h2)
noncomputable def UV (K:W.Frag)(T:Addr):Sp:=fun vs H Q _=>∃ (a:Addr) (ns:List Int),vs=[.ref a]/\SqL K H a (ns.map V.int)/\ns.length<=63/\H T=some (.tbl #[])/\∀ H',Q (.bl true) H'
theorem Zji {T ya:Addr} {kds:List Value} {f:Addr} {fd:FuncData} (B:Blt mg) (F:Fun K "law" "law" Vn f fd) (y0a:Fn P w K mg base 4 "_law_order" ["_law_script", "_law_many"] (YG K)) (y8a:Fn P w K mg base 2 "_law_size" ["_law_script"] (ZcQ K 32)) (y6:Fn P w K mg base 10 "_law_asked" ["_law_handed"] (Uy K T ya))
  (yda:Fn P w K mg base 3 "_law_rows_tell" ["_law_found", "_law_downs"] (JK K)) (y8:Fn P w K mg base 1 "_law_alone" ["_law_error"] (ZbC K kds)) (yea:Fn P w K mg base 3 "_law_walk" ["_law_found", "_law_downs"] (JH K))
  (yg:ZbX K ya) (HD_NoTwoRows:PySem.W.hasDictIn K ya=true) (yc:PySem.W.findIn K (.ref ya) "walk" = some none) (yv:Js K ya kds [true,false,false,false,false,true,false,false,true]):FnOk P w K mg base CX0 11 f fd ["_law_script"] (UV K T):=by
 have sc:Zm ["_law_script", "_law_downs", "_law_handed", "_law_found", "_law_error", "_law_kept"] ["_law_script"] (Zg Vn):=fsc
 refine F.ok sc (fun vs H Q E h=>by obtain⟨a,ns,rfl,_⟩:=h;rfl) fun cdv A outer s H vs Q E hr h=>?_
 have hu:=Wm hr
 obtain⟨a,ns,rfl,hS,hns,hTb,k⟩:=h
 refine⟨_,(@Zb _ _ _ _ _ (Zn (i:=1) sc.nd rfl (Or.inl rfl) (Zi y0a hr.m rfl (Za (pv 0) (Za (Zi y8a hr.m rfl (Za (pv 0) Zc)) Zc))))
   (@Zb _ _ _ _ _ (Zn (i:=2) sc.nd rfl (Or.inl rfl) (YR (WG K) rfl B.list PyProof.Rows.boot_list (Za (pv 1) Zc)))
   (@Zb _ _ _ _ _ (Zc6 (Zi y6 hr.m rfl (Za (pv 2) Zc)) (pgL K (n:=2) rfl (ZD (pg_name (i:=3) sc.nd rfl (Or.inl rfl)) (ZD (pg_name (i:=4) sc.nd rfl (Or.inl rfl)) XB))))
   (@Zb _ _ _ _ _ (Yc (Zs (Ww K hu) (pv 2) (pv 1) (Zt _))
   (@Zf _ _ _ (Zo XU))
   Zq)
   (@Zb _ _ _ _ _ (Yc (Zs ZiW (pv 4) JX (Zt _))
   (@Zf _ _ _ (Zo (Zi yda hr.m rfl (Za (pv 3) (Za (pv 1) Zc)))))
   Zq)
   (@Zb _ _ _ _ _ (Yc (PW.pt (VD (YX (YQ (Zi y8 hr.m rfl (Za (pv 4) Zc)))) (XZ (YX (YQ (Zi yea hr.m rfl (Za (JZ K (pv 4)) (Za (pv 1) Zc))))))))
   (@Zf _ _ _ (Zo XU))
   Zq)
   (@Zb _ _ _ _ _ (Yc (Zs Za6 (Zk (ZI K) rfl B.len PySem.boot_len (Za (pv 1) Zc)) Ze (Zt _))
   (@Zf _ _ _ (Zo XU))
   Zq)
   (@Zb _ _ _ _ _ (Zn (i:=5) sc.nd rfl (Or.inl rfl) (YR (WG K) rfl B.list PyProof.Rows.boot_list (Za (JZ K (pv 4)) Zc)))
   (@Zb _ _ _ _ _ (Yo (ZiR K PySem.F.plainAttrs_list PySem.F.slot_list_clear PySem.F.type_list_clear ZeT (JZ K (pv 4))))
   (@Zb _ _ _ _ _ (Zn (i:=4) sc.nd rfl (Or.inl rfl) (Zw (ixL K) (Zi y6 hr.m rfl (Za (pv 2) Zc)) Ze (fun _ _=>rfl)))
   (@Zf _ _ _ (Zo (JY (Zi y8 hr.m rfl (Za (pv 4) Zc)) (JY (Zi yea hr.m rfl (Za (JZ K (pv 4)) (Za (pv 1) Zc))) (Zde (Xd (Yv K hu) (JZ K (pv 4)) (pv 5) (Zt _))))))))))))))))),?_⟩
 refine cut2 (fun σ' H1=>Same H H1/\∃ (d hd_:Addr) (ds:List Nat) (n:Nat),OM.PO n ds/\n<=32/\H1 d=some (.lst (nv ds))/\H1 hd_=some (.lst (nv ds))/\σ'=[some (.ref a),some (.ref d),some (.ref hd_),none,none,none]) (fun N hN=>?_) ?_
 ·walk_at "rd"
  refine⟨a,ns,rfl,hS,fun n H1 hn s1=>?_⟩
  walk_at "rd"
  refine⟨a,ns,n,rfl,s1.seq hS,hns,hn,fun ds d H2 R s2 hd0 hd=>?_⟩
  walk_at "rd"
  refine⟨_,.inl (SqL.of hd),?_⟩
  intro hd_ hp_hd_
  generalize hq_hd_:upd _ hd_ _=H3
  have s_H3:Same _ H3:=hq_hd_▸Same.upd hp_hd_
  have e_H3:H3 hd_=some _:=hq_hd_▸Zd
  clear hq_hd_
  exact hN _ _ ⟨(s1.trans s2).trans s_H3,d,hd_,ds,n,R,hn,s_H3 _ _ hd,e_H3,rfl⟩
 rintro σ' H1 ⟨s1,d,hd_,ds,n,R,hn,hd,hhd,rfl⟩
 have hT1:Zj5 H1 T:=⟨_,s1 _ _ hTb,.inl rfl⟩
 clear hTb hS s1
 by_cases hA:OG.Ac (EdS (sidesN ds))
 ·walk_at "rd"
  refine⟨hd_,ds,n,rfl,SqL.of hhd,R,hn,hT1,fun _ l t r1 r2 H2 s2 hl ht h1 h2 p1 p2 he=>?_,fun z=>absurd hA z⟩
  walk_at "rd"
  refine⟨_,SqL.of hl,rfl,_,_,rfl,_,_,rfl,rfl,_,Jo (n:=59) (SqL.of (s2.lst hhd)) (SqL.of (s2.lst hd)),?_⟩
  rw [decide_eq_true rfl,if_neg (by decide),if_pos rfl]
  exact⟨t,d,r1,r2,row1 ds,row2 ds,n,rfl,ht,h1,h2,p1,p2,hn,by rw [he];exact s2.lst hd,fun H' _=>k _⟩
 refine Zk8 (fun σ' H2=>∃ (i q:Nat) (ps:List (Nat×Nat)) (ea dx wl:Addr) (rs:List Addr),UJ (sidesN ds) i q/\(∀ x∈ps,EdS (sidesN ds) x.1 x.2)/\Ue (sidesN ds) (i,q) (q,i) ps (Zen ds i q)/\(Zen ds i q).length<=1024/\Same H1 H2/\H1 wl=none/\H2 ea=some (.ext (XIs ea (.ref ya) (some dx)))/\H2 dx=some (.xd [("walk",.ref wl)])/\H2 wl=some (.lst (rv rs))/\PrT H2 rs ((Zen ds i q).map np)/\σ'=[some (.ref a),some (.ref d),some (.ref hd_),some .non,some (.ref ea),none]) (fun N hN=>?_) ?_
 ·walk_at "rd"
  refine⟨hd_,ds,n,rfl,SqL.of hhd,R,hn,hT1,fun z=>absurd z hA,fun _ i q ps l ea dx wl rs H2 hf he hw hl s2 hwl0 hl2 hea hdx hwl hP=>?_⟩
  walk_at "rd"
  refine⟨_,SqL.of hl2,rfl,_,_,rfl,_,_,rfl,rfl,_,Jo (n:=59) (SqL.of (s2 _ _ hhd)) (SqL.of (s2 _ _ hd)),?_⟩
  rw [decide_eq_true rfl,if_neg (by decide),if_neg (fun z=>nomatch z)]
  exact hN _ _ ⟨i,q,ps,ea,dx,wl,rs,hf,he,hw,hl,s2,hwl0,hea,hdx,hwl,hP,rfl⟩
 rintro σ' H2 ⟨i,q,ps,ea,dx,wl,rs,hf,he,hw,hl,s2,hwl0,hea,hdx,hwl,hP,rfl⟩
 have W:=Zj9 R he hw
 have hd2:=s2 _ _ hd
 refine cut1 (fun σ' H3=>Same H2 H3/\σ'=[some (.ref a),some (.ref d),some (.ref hd_),some .non,some (.ref ea),none]) (fun N hN=>?_) ?_
 ·walk_at "rd"
  refine⟨ea,ya,some dx,false,false,false,false,true,false,false,rfl,hea,yg,yv,rfl,fun H3 s3=>⟨true,rfl,?_⟩⟩
  rw [if_neg (by decide)]
  refine⟨_,_,s3 _ _ hea,_,s3 _ _ hdx,yg,HD_NoTwoRows,yc,_,rfl,wl,d,rs,_,ds,n,i,q,rfl,s3 _ _ hwl,hP.same s3,SqL.of (s3 _ _ hd2),Zdb R,hn,hl,W.two,W.nd,W.inn,W.nx,W.hd,W.la,fun H4 s4=>⟨true,rfl,?_⟩⟩
  rw [if_neg (by decide)]
  exact hN _ _ ⟨s3.trans s4,rfl⟩
 rintro σ' H3 ⟨s3,rfl⟩
 have hea:=s3 _ _ hea
 have hdx:=s3 _ _ hdx
 have hwl:=s3 _ _ hwl
 have hP:=hP.same s3
 have s13:=s2.trans s3
 walk_at "rd"
 refine⟨_,.inl (SqL.of (s13 _ _ hd)),?_⟩
 rw [Zu,R.len]
 by_cases h10:10<n
 ·rw [if_pos (by omega)]
  exact k _
 rw [if_neg (by omega)]
 refine⟨_,_,hea,_,hdx,yg,HD_NoTwoRows,yc,_,rfl,_,rfl,_,.inl (SqL.of hwl),?_⟩
 intro kp hp_kp
 generalize hq_kp:upd _ kp _=H4
 have s_H4:Same _ H4:=hq_kp▸Same.upd hp_kp
 have e_H4:H4 kp=some _:=hq_kp▸Zd
 clear hq_kp
 have hwl4:=s_H4 _ _ hwl
 refine⟨_,_,s_H4 _ _ hea,_,s_H4 _ _ hdx,yg,HD_NoTwoRows,yc,_,rfl,.inl ⟨_,SqL.of hwl4⟩,wl,rfl,⟨_,hwl4⟩,?_⟩
 have s15:Same H1 (upd H4 wl (.lst [])):=(s13.trans s_H4).write hwl0
 have nkp:kp≠wl:=fun z=>by rw [z,hwl] at hp_kp;cases hp_kp
 have hkp5:upd H4 wl (.lst []) kp=some (.lst (rv rs)):=by rw [Zh nkp];exact e_H4
 have hP5:PrT (upd H4 wl (.lst [])) rs ((Zen ds i q).map np):=(hP.same s_H4).write hwl4
 generalize upd H4 wl (.lst [])=H5 at s15 hkp5 hP5
 refine⟨hd_,ds,n,rfl,SqL.of (s15 _ _ hhd),R,hn,hT1.same s15,fun z=>absurd z hA,fun _ i2 q2 ps2 l2 ea2 dx2 wl2 rs2 H6 hf2 he2 hw2 hlw2 s6 _ hl2 hea2 hdx2 hwl2 hP2=>?_⟩
 obtain⟨e1,e2⟩:=ZdQ hf hf2
 subst e1 e2
 refine⟨_,rfl,_,SqL.of hl2,_,rfl,?_⟩
 refine⟨ea2,ya,some dx2,false,false,false,false,true,false,false,rfl,hea2,yg,yv,rfl,fun H7 s7=>⟨true,rfl,?_⟩⟩
 rw [if_pos rfl]
 have s17:=(s15.trans s6).trans s7
 refine⟨_,rfl,_,_,s7 _ _ hea2,_,s7 _ _ hdx2,yg,HD_NoTwoRows,yc,_,rfl,wl2,d,rs2,_,ds,n,i,q,rfl,s7 _ _ hwl2,hP2.same s7,SqL.of (s17 _ _ hd),Zdb R,hn,hlw2,W.two,W.nd,W.inn,W.nx,W.hd,W.la,fun H8 s8=>⟨true,rfl,?_⟩⟩
 rw [if_pos rfl]
 have s58:=(s6.trans s7).trans s8
 have s68:=s7.trans s8
 refine⟨_,rfl,_,_,s68 _ _ hea2,_,s68 _ _ hdx2,yg,HD_NoTwoRows,yc,_,rfl,⟨_,rfl⟩,_,ZdR (n:=58) (SqL.of (s68 _ _ hwl2)) (SqL.of (s58 _ _ hkp5)) (hP2.same s68).a (hP5.same s58).a,?_⟩
 rw [decide_eq_true rfl]
 exact k _
end
theorem ZjX {l:W.OpenLaw} {w:World} {K:W.Frag} {h:Heap} {mg:Str->Option Value} {fa:Addr} (X:K.In h) (G:h.Ns mainGlobals mg) (hfa:mg "law" = some (.ref fa))
  {f11:Addr} {od11 an11:Option Addr} {sl11:Array (Option Value)} {oc11 kV11 dc11 pm11 ct11:Value} {cc:Addr} {ddm:Option Addr} {vvm:Array Value} {ssm:Array (Option Value)}
  {f30:Addr} {od30 an30:Option Addr} {sl30:Array (Option Value)} {oc30 kV30 dc30 pm30 cd30 ct30:Value}
  {u_MOST_PAIRED:Value}
  {yb N_OrderError:Addr} {yma q_OrderError:Str} {yna yX sub_OrderError:List Value} {yoa ypa:Bool} {yqa:List Str} {yha:Option Bool} {yra:Option Addr} {ysa yta yua yva ywa:Option Value} {yxa:ClassData}
  {ya N_NoTwoRows yr:Addr} {yKa q_NoTwoRows:Str} {yLa yn sub_NoTwoRows:List Value} {yMa yNa:Bool} {yOa:List Str} {yya:Option Bool} {yPa yza yAa:Option Addr} {yQa yRa ySa yTa yUa:Option Value} {yVa:ClassData} {yBa:Array (Option Value)} {yCa yDa yEa yFa yY yGa:Value}
  {yk:Addr} {y9a:ClassData}
  {yl:Addr} {yab:ClassData}
  {yt:Addr} {ymb:ClassData}
  {yp:Addr} {yib:ClassData}
  {yf:Addr} {yWa:ClassData}
  {yd:Addr} {yfa:ClassData}
  (d0:DefAt K "places_of" YL)
  (d1:DefAt K "many_in" Wq)
  (d2:DefAt K "refuse_more" YB)
  (d3:DefAt K "turned_over" Yl)
  (d4:DefAt K "sides_of" Xh)
  (d5:DefAt K "forced_next" Yb)
  (d6:DefAt K "forced_from" YD)
  (d7:DefAt K "two_rows" Yj)
  (d8:DefAt K "refuse_walk" ZZ)
  (d9:DefAt K "walk_to" Wp)
  (d10:DefAt K "aheads_chosen" ZW)
  (a11:W.nsIn K mainGlobals "row_with" = some (some (.ref f11))) (l11:K.lookup f11=some ⟨oc11,od11,.func (W.fnOf "row_with" "row_with" (Yt ZG) (ZR ZG) (Zg ZG) .none kV11 dc11 pm11 an11 (.ref cc) ct11),sl11⟩) (c11:W.codeIn K (.ref cc) "row_with" = true) (k11:W.keepIn K (.ref f11)=true) (clm:K.lookup cc=some ⟨.type "code",ddm,.fields vvm,ssm⟩) (chm:Zd0 vvm cc 206=true)
  (d12:DefAt K "_law_cell_at" YC)
  (d13:DefAt K "_law_whole" Xl)
  (d14:DefAt K "_law_mixed" Xm)
  (d15:DefAt K "_law_put" Ws)
  (d16:DefAt K "_law_size" XJ)
  (d17:DefAt K "_law_turn" XI)
  (d18:DefAt K "_law_by" Wt)
  (d19:DefAt K "_law_crown" YM)
  (d20:DefAt K "_law_free_order" ZM)
  (d21:DefAt K "_law_order" Yq)
  (d22:DefAt K "_law_near" XO)
  (d23:DefAt K "_law_forces" YU)
  (d24:DefAt K "_law_row" Wr)
  (d25:DefAt K "_law_rows_tell" Ym)
  (d26:DefAt K "_law_alone" YN)
  (d27:DefAt K "_law_pair" XM)
  (d28:DefAt K "_law_walk" XH)
  (d29:DefAt K "_law_asked" Xn)
  (a30:W.nsIn K mainGlobals "law" = some (some (.ref f30))) (l30:K.lookup f30=some ⟨oc30,od30,.func (W.fnOf "law" "law" (Yt Vn) (ZR Vn) (Zg Vn) .none kV30 dc30 pm30 an30 cd30 ct30),sl30⟩) (c30:W.codeIn K cd30 "law" = true) (k30:W.keepIn K (.ref f30)=true)
  (q_MOST_PAIRED:W.nsIn K mainGlobals "MOST_PAIRED" = some (some u_MOST_PAIRED)) (i_MOST_PAIRED:∃ t,u_MOST_PAIRED=.int 32 t)
  (m_OrderError:W.nsIn K mainGlobals "OrderError" = some (some (.ref yb))) (o_OrderError:K.lookup yb=some (excClassObj yma q_OrderError yb N_OrderError yna yX yoa yqa sub_OrderError ypa yha yra ysa yta yua yva ywa "ValueError.__new__")) (x_OrderError:excInZ K yb=true) (yZ:yX.contains (.type "BaseException")=true) (w_OrderError:W.clsIn K yb=some yxa) (v_OrderError:W.typeIn K (.ref yb)=some (.type "type"))
  (m_NoTwoRows:W.nsIn K mainGlobals "NoTwoRows" = some (some (.ref ya))) (o_NoTwoRows:K.lookup ya=some (excClassObj yKa q_NoTwoRows ya N_NoTwoRows yLa yn yMa yOa sub_NoTwoRows yNa yya yPa yQa yRa ySa yTa yUa "ValueError.__new__")) (e_NoTwoRows:excInI K ya=true) (yq:yn.contains (.type "BaseException")=true) (w_NoTwoRows:W.clsIn K ya=some yVa) (v_NoTwoRows:W.typeIn K (.ref ya)=some (.type "type")) (yN:W.findIn K (.ref ya) "__init__" = some (some (.ref yr))) (yO:W.typeIn K (.ref yr)=some (.type "function")) (yP:W.keepIn K (.ref ya)=true) (yF:W.hasDictIn K ya=true) (yQ:W.findIn K (.ref ya) "__setattr__" = some (some (.builtin "object.__setattr__"))) (yR:W.subIn K (.ref ya) (.type "object")=some true) (lI_NoTwoRows:K.lookup yr=some ⟨yCa,yza,.func (W.fnOf "__init__" "NoTwoRows.__init__" (Yt Zr) (ZR Zr) (Zg Zr) .none yDa yEa yFa yAa yY yGa),yBa⟩) (cI_NoTwoRows:W.codeIn K yY "NoTwoRows.__init__" = true) (kI_NoTwoRows:W.keepIn K (.ref yr)=true)
  (yc:W.findIn K (.ref ya) "walk" = some none)
  (s_NoTwoRows_OrderError:(Value.ref ya::yn).contains (.ref yb)=true) (g_NoTwoRows_OrderError:W.subIn K (.ref ya) (.ref yb)=some true)
  (yG:W.specialIn K (.ref yb) "__getattribute__" = some (some (.builtin "type.__getattribute__"))) (yH:W.readsIn K yb (.type "type")=true) (yI:W.findCls K (.ref yb) (.type "type") "__init__" = some (.val (.builtin "ValueError.__init__")))
  (m_TooMany:W.nsIn K mainGlobals "TooMany" = some (some (.ref yk))) (w_TooMany:W.clsIn K yk=some y9a) (v_TooMany:W.typeIn K (.ref yk)=some (.type "type"))
  (m_NoThing:W.nsIn K mainGlobals "NoThing" = some (some (.ref yl))) (w_NoThing:W.clsIn K yl=some yab) (v_NoThing:W.typeIn K (.ref yl)=some (.type "type"))
  (m_Ring:W.nsIn K mainGlobals "Ring" = some (some (.ref yt))) (w_Ring:W.clsIn K yt=some ymb) (v_Ring:W.typeIn K (.ref yt)=some (.type "type"))
  (m_NoWay:W.nsIn K mainGlobals "NoWay" = some (some (.ref yp))) (w_NoWay:W.clsIn K yp=some yib) (v_NoWay:W.typeIn K (.ref yp)=some (.type "type"))
  (m_NoLattice:W.nsIn K mainGlobals "NoLattice" = some (some (.ref yf))) (w_NoLattice:W.clsIn K yf=some yWa) (v_NoLattice:W.typeIn K (.ref yf)=some (.type "type"))
  (m_NotSpreading:W.nsIn K mainGlobals "NotSpreading" = some (some (.ref yd))) (w_NotSpreading:W.clsIn K yd=some yfa) (v_NotSpreading:W.typeIn K (.ref yd)=some (.type "type"))
  (gk_NoTwoRows_OrderError:W.subIn K (.ref ya) (.ref yb)=some true)
  (nk_NoTwoRows_OrderError:(Value.ref ya == Value.ref yb)=false)
  (gk_NoTwoRows_TooMany:W.subIn K (.ref ya) (.ref yk)=some false)
  (nk_NoTwoRows_TooMany:(Value.ref ya == Value.ref yk)=false)
  (gk_NoTwoRows_NoThing:W.subIn K (.ref ya) (.ref yl)=some false)
  (nk_NoTwoRows_NoThing:(Value.ref ya == Value.ref yl)=false)
  (gk_NoTwoRows_Ring:W.subIn K (.ref ya) (.ref yt)=some false)
  (nk_NoTwoRows_Ring:(Value.ref ya == Value.ref yt)=false)
  (gk_NoTwoRows_NoWay:W.subIn K (.ref ya) (.ref yp)=some false)
  (nk_NoTwoRows_NoWay:(Value.ref ya == Value.ref yp)=false)
  (gk_NoTwoRows_NoTwoRows:W.subIn K (.ref ya) (.ref ya)=some true)
  (gk_NoTwoRows_NoLattice:W.subIn K (.ref ya) (.ref yf)=some false)
  (nk_NoTwoRows_NoLattice:(Value.ref ya == Value.ref yf)=false)
  (gk_NoTwoRows_NotSpreading:W.subIn K (.ref ya) (.ref yd)=some false)
  (nk_NoTwoRows_NotSpreading:(Value.ref ya == Value.ref yd)=false)
  (gv_NoTwoRows:W.subIn K (.ref ya) (.type "ValueError")=some true) (xa_NoTwoRows:W.findIn K (.ref ya) "__class__" = some (some (.builtin "object.__class__"))) (xb_NoTwoRows:W.findIn K (.ref ya) "__getattribute__" = some (some (.builtin "BaseException.__getattribute__"))) (xc_NoTwoRows:W.findIn K (.ref ya) "__getattr__" = some none) (xd_NoTwoRows:W.subIn K (.ref ya) (.type "object")=some true) (xe_NoTwoRows:W.subIn K (.ref ya) (.type "BaseException")=some true)
  (z0:W.nsIn K mainGlobals "len" = some none) (z1:W.nsIn K mainGlobals "range" = some none) (z2:W.nsIn K mainGlobals "list" = some none) (z3:W.nsIn K mainGlobals "int" = some none) (z4:W.nsIn K mainGlobals "bool" = some none) (z5:W.nsIn K mainGlobals "tuple" = some none) (z6:W.nsIn K mainGlobals "isinstance" = some none) (z7:W.nsIn K mainGlobals "min" = some none) (z8:W.nsIn K mainGlobals "max" = some none) (z9:W.nsIn K mainGlobals "all" = some none) (z10:W.nsIn K mainGlobals "enumerate" = some none) (zx_reversed:W.nsIn K mainGlobals "reversed" = some none) (zx_ValueError:W.nsIn K mainGlobals "ValueError" = some none) (zx_sorted:W.nsIn K mainGlobals "sorted" = some none) (zx_zip:W.nsIn K mainGlobals "zip" = some none) (zx_set:W.nsIn K mainGlobals "set" = some none) (zx_min:W.nsIn K mainGlobals "min" = some none) (zx_max:W.nsIn K mainGlobals "max" = some none) :
  ∃ cc,W.codeHdIn K cc 206=true/\∃ fd:FuncData,(∀ (s:Shared) (v:Value),BindsTo s fd ⟨[v],[]⟩ [("_law_script",v)])/\∀ base:Heap,K.In base->base.Ns mainGlobals mg->base.BuiltinsAt mg 206->FnOk l.prog w K mg base CX0 11 fa fd ["_law_script"] (UV K 206):=by
 have B:Blt mg:=⟨W.mg_none_of X G z0,W.mg_none_of X G z1,W.mg_none_of X G z2,W.mg_none_of X G z3,W.mg_none_of X G z4,W.mg_none_of X G z5,W.mg_none_of X G z6,W.mg_none_of X G z7,W.mg_none_of X G z8,W.mg_none_of X G z9,W.mg_none_of X G z10⟩
 have yU:=W.mg_none_of X G zx_reversed
 have yM:=W.mg_none_of X G zx_ValueError
 have yw:=W.mg_none_of X G zx_sorted
 have yT:=W.mg_none_of X G zx_zip
 have y5a:=W.mg_none_of X G zx_set
 have ykb:=W.mg_none_of X G zx_min
 have ylb:=W.mg_none_of X G zx_max
 have S0:Src K mg "places_of" YL ["bits"]:=d0.src X G fun _ _ _ _ _ _ us hl=>match us,hl with | [_],_=>rfl
 have S1:Src K mg "many_in" Wq ["bits"]:=d1.src X G fun _ _ _ _ _ _ us hl=>match us,hl with | [_],_=>rfl
 have S2:Src K mg "refuse_more" YB ["many", "most"]:=d2.src X G fun _ _ _ _ _ _ us hl=>match us,hl with | [_,_],_=>rfl
 have S3:Src K mg "turned_over" Yl ["downs"]:=d3.src X G fun _ _ _ _ _ _ us hl=>match us,hl with | [_],_=>rfl
 have S4:Src K mg "sides_of" Xh ["downs"]:=d4.src X G fun _ _ _ _ _ _ us hl=>match us,hl with | [_],_=>rfl
 have S5:Src K mg "forced_next" Yb ["sides", "pair"]:=d5.src X G fun _ _ _ _ _ _ us hl=>match us,hl with | [_,_],_=>rfl
 have S6:Src K mg "forced_from" YD ["sides", "pair"]:=d6.src X G fun _ _ _ _ _ _ us hl=>match us,hl with | [_,_],_=>rfl
 have S7:Src K mg "two_rows" Yj ["downs"]:=d7.src X G fun _ _ _ _ _ _ us hl=>match us,hl with | [_],_=>rfl
 have S8:Src K mg "refuse_walk" ZZ ["sides"]:=d8.src X G fun _ _ _ _ _ _ us hl=>match us,hl with | [_],_=>rfl
 have S9:Src K mg "walk_to" Wp ["sources", "last"]:=d9.src X G fun _ _ _ _ _ _ us hl=>match us,hl with | [_,_],_=>rfl
 have S10:Src K mg "aheads_chosen" ZW ["sides"]:=d10.src X G fun _ _ _ _ _ _ us hl=>match us,hl with | [_],_=>rfl
 have S11:SrcC K mg "row_with" ZG ["aheads"] cc:=⟨_,_,_,_,_,_,_,_,_,W.mg_of X G a11,l11,c11,k11,(Wz (st:=ZG) l11 c11 k11).binds fun _ _ _ _ _ _ us hl=>match us,hl with | [_],_=>rfl⟩
 have S12:Src K mg "_law_cell_at" YC ["_law_script", "_law_k"]:=d12.src X G fun _ _ _ _ _ _ us hl=>match us,hl with | [_,_],_=>rfl
 have S13:Src K mg "_law_whole" Xl ["_law_found"]:=d13.src X G fun _ _ _ _ _ _ us hl=>match us,hl with | [_],_=>rfl
 have S14:Src K mg "_law_mixed" Xm ["_law_cell", "_law_k"]:=d14.src X G fun _ _ _ _ _ _ us hl=>match us,hl with | [_,_],_=>rfl
 have S15:Src K mg "_law_put" Ws ["_law_downs", "_law_low", "_law_high"]:=d15.src X G fun _ _ _ _ _ _ us hl=>match us,hl with | [_,_,_],_=>rfl
 have S16:Src K mg "_law_size" XJ ["_law_script"]:=d16.src X G fun _ _ _ _ _ _ us hl=>match us,hl with | [_],_=>rfl
 have S17:Src K mg "_law_turn" XI ["_law_script", "_law_many", "_law_salt"]:=d17.src X G fun _ _ _ _ _ _ us hl=>match us,hl with | [_,_,_],_=>rfl
 have S18:Src K mg "_law_by" Wt ["_law_rows", "_law_many"]:=d18.src X G fun _ _ _ _ _ _ us hl=>match us,hl with | [_,_],_=>rfl
 have S19:Src K mg "_law_crown" YM ["_law_script", "_law_many"]:=d19.src X G fun _ _ _ _ _ _ us hl=>match us,hl with | [_,_],_=>rfl
 have S20:Src K mg "_law_free_order" ZM ["_law_script", "_law_many"]:=d20.src X G fun _ _ _ _ _ _ us hl=>match us,hl with | [_,_],_=>rfl
 have S21:Src K mg "_law_order" Yq ["_law_script", "_law_many"]:=d21.src X G fun _ _ _ _ _ _ us hl=>match us,hl with | [_,_],_=>rfl
 have S22:Src K mg "_law_near" XO ["_law_downs", "_law_one", "_law_other"]:=d22.src X G fun _ _ _ _ _ _ us hl=>match us,hl with | [_,_,_],_=>rfl
 have S23:Src K mg "_law_forces" YU ["_law_downs", "_law_pair_here", "_law_other"]:=d23.src X G fun _ _ _ _ _ _ us hl=>match us,hl with | [_,_,_],_=>rfl
 have S24:Src K mg "_law_row" Wr ["_law_found", "_law_many"]:=d24.src X G fun _ _ _ _ _ _ us hl=>match us,hl with | [_,_],_=>rfl
 have S25:Src K mg "_law_rows_tell" Ym ["_law_found", "_law_downs"]:=d25.src X G fun _ _ _ _ _ _ us hl=>match us,hl with | [_,_],_=>rfl
 have S26:Src K mg "_law_alone" YN ["_law_error"]:=d26.src X G fun _ _ _ _ _ _ us hl=>match us,hl with | [_],_=>rfl
 have S27:Src K mg "_law_pair" XM ["_law_found", "_law_downs"]:=d27.src X G fun _ _ _ _ _ _ us hl=>match us,hl with | [_,_],_=>rfl
 have S28:Src K mg "_law_walk" XH ["_law_found", "_law_downs"]:=d28.src X G fun _ _ _ _ _ _ us hl=>match us,hl with | [_,_],_=>rfl
 have S29:Src K mg "_law_asked" Xn ["_law_handed"]:=d29.src X G fun _ _ _ _ _ _ us hl=>match us,hl with | [_],_=>rfl
 have S30:Src K mg "law" Vn ["_law_script"]:=⟨_,_,W.mg_of X G a30,Wz (st:=Vn) l30 c30 k30,(Wz (st:=Vn) l30 c30 k30).binds fun _ _ _ _ _ _ us hl=>match us,hl with | [_],_=>rfl⟩
 obtain⟨t_MOST_PAIRED,rfl⟩:=i_MOST_PAIRED
 have yC:=W.mg_of X G q_MOST_PAIRED
 have ym:=W.mg_of X G m_OrderError
 have XC_OrderError:=Zer x_OrderError
 have XO_OrderError:=Zcz o_OrderError
 have yi:=W.mg_of X G m_NoTwoRows
 have yu:=Zcz o_NoTwoRows
 have y4:=Zj7 e_NoTwoRows
 have yK:MkX K ya yr:=⟨y4,yN,yO,yP⟩
 have yXa:=Wz (st:=Zr) lI_NoTwoRows cI_NoTwoRows kI_NoTwoRows
 have yL:Binds K _ ["self", "walk"] []:=(Wz (st:=Zr) lI_NoTwoRows cI_NoTwoRows kI_NoTwoRows).binds fun _ _ _ _ _ _ us hl=>match us,hl with | [_,_],_=>rfl
 have yD:Zic K yb:=⟨yG,yH,yI⟩
 have y0:=W.mg_of X G m_TooMany
 have y3:=W.mg_of X G m_NoThing
 have yIa:=W.mg_of X G m_Ring
 have yga:=W.mg_of X G m_NoWay
 have yS:=W.mg_of X G m_NoLattice
 have yx:=W.mg_of X G m_NotSpreading
 have yv:Js K ya [.ref yb,.ref yk,.ref yl,.ref yt,.ref yp,.ref ya,.ref yf,.ref yd,.type "ValueError"] [true,false,false,false,false,true,false,false,true]:=⟨XC w_OrderError v_OrderError gk_NoTwoRows_OrderError (fun _=>rfl),XC w_TooMany v_TooMany gk_NoTwoRows_TooMany (fun z=>by rw [nk_NoTwoRows_TooMany] at z;cases z),XC w_NoThing v_NoThing gk_NoTwoRows_NoThing (fun z=>by rw [nk_NoTwoRows_NoThing] at z;cases z),XC w_Ring v_Ring gk_NoTwoRows_Ring (fun z=>by rw [nk_NoTwoRows_Ring] at z;cases z),XC w_NoWay v_NoWay gk_NoTwoRows_NoWay (fun z=>by rw [nk_NoTwoRows_NoWay] at z;cases z),XC w_NoTwoRows v_NoTwoRows gk_NoTwoRows_NoTwoRows (fun _=>rfl),XC w_NoLattice v_NoLattice gk_NoTwoRows_NoLattice (fun z=>by rw [nk_NoTwoRows_NoLattice] at z;cases z),XC w_NotSpreading v_NotSpreading gk_NoTwoRows_NotSpreading (fun z=>by rw [nk_NoTwoRows_NotSpreading] at z;cases z),Zg8 (by decide +kernel) gv_NoTwoRows,trivial⟩
 have yg:ZbX K ya:=⟨xa_NoTwoRows,xb_NoTwoRows,xc_NoTwoRows,by rw [w_NoTwoRows];rfl,xd_NoTwoRows,xe_NoTwoRows⟩
 have y_NoTwoRows_OrderError:=Zg9 w_OrderError v_OrderError g_NoTwoRows_OrderError
 have e:=hfa.symm.trans (W.mg_of X G a30)
 cases e
 refine⟨cc,ZaD clm chm,W.fnOf "law" "law" (Yt Vn) (ZR Vn) (Zg Vn) .none kV30 dc30 pm30 an30 cd30 ct30,fun s v=>.of_eq rfl,fun base _ _ BB=>?_⟩
 have yYa:=Us (P:=l.prog) (w:=w) (base:=base) B S12
 have yia:=Zax (P:=l.prog) (w:=w) (K:=K) (base:=base) S14
 have ybb:=Zcm (P:=l.prog) (w:=w) (K:=K) (base:=base) B S15
 have yfb:=Jk B S17 yYa yia
 have yqb:=Wj B S20 ybb
 have F_by:=Zbj (P:=l.prog) (w:=w) (base:=base) B S18
 have ynb:=Uq B S21 yYa yia ybb yqb yfb F_by (Ur B S19 yfb ybb)
 have y1a:=Zav (P:=l.prog) (w:=w) (base:=base) B S13
 have y2a:=Jn (P:=l.prog) (w:=w) (base:=base) B S22
 have ygb:=VZ B S23 y2a
 have yvb:=Zaw B y5a S24 y1a
 have yrb:=Jl B S25 yvb F_by
 have yob:=Zay (P:=l.prog) (w:=w) (base:=base) B yM S26 ym y0 y3 yga yIa yi yS yx
 have ysb:=ZdM B S28 (ZdP B ykb ylb S27 y1a y2a) ygb
 have yz:=Zau (P:=l.prog) (w:=w) (K:=K) (base:=base) B S0
 have ytb:=Zcl (P:=l.prog) (w:=w) (K:=K) (base:=base) B S1 yz
 have yub:=Up (P:=l.prog) (w:=w) (K:=K) (base:=base) S2
 have yjb:=Um B S3 yz
 have y3a:=Zbg B yT S4 yC yub yjb
 have y4a:=Zbk B S6 (Ut B S5 yz)
 have yhb:=Uu y4a
 have F_rw:=Zbh B yw S11 (ZaD clm chm) (by decide) BB ytb
 have FX:Zlb K ya "walk" := ⟨y4,yQ,yc,yR⟩
 have FI:=Zbi (P:=l.prog) (w:=w) (base:=base) B yXa ym yD FX
 have F_wt:=ZdN (P:=l.prog) (w:=w) (base:=base) B yU S9
 have F_rf:=Vo B S8 yz y4a F_wt yi yK FI yL
 have F_ok:=Zbf B yT S7 y3a (Uo B S8 yz yhb) (Vp B yw S10 yz yhb) F_rw
 have F_no:=ZdO B S7 y3a F_rf
 have ywb:FnX l.prog w K mg base 9 "two_rows" ["downs"] (Zbz K 206 ya):=FnX.or F_ok F_no
 have ypb:=Zcn B S29 ywb yi yu yq
 exact Zji B (Wz (st:=Vn) l30 c30 k30) ynb (Jm B S16 yYa yia) ypb yrb yob ysb yg yF yc yv
theorem Zld {l:W.OpenLaw}{q:Program}{loose:List Str}{XP:(Str->Option Value)->Heap->Prop}{YP:World->Heap->Prop}{d:DefRec}{K:Params->W.Frag}(hn:l.most=some 63)(hdf:d.params.defaults=[])
  (hY:∀ (w:World) (h:Heap),YP w h->(K w.params).In h/\h.get? 206=some (W.tabObj #[])/\(K w.params).lookup 206=none)
  (F:∀ (w:World) (mg:Str->Option Value) (fa:Addr) (h:Heap),(K w.params).In h->h.Ns mainGlobals mg->mg d.name=some (.ref fa) ->
   ∃ cc,W.codeHdIn (K w.params) cc 206=true/\∃ fd:FuncData,(∀ (s:Shared) (u:Value),BindsTo s fd ⟨[u],[]⟩ [("_law_script",u)])/\∀ base:Heap,(K w.params).In base->base.Ns mainGlobals mg->base.BuiltinsAt mg 206->FnOk l.prog w (K w.params) mg base CX0 11 fa fd ["_law_script"] (UV (K w.params) 206)) :
  W.WalkO q loose XP YP l.row.toRowW d [] (fun f vs=>PySem.call f vs) :=
 L2.Zev (n:=63) (k:=11) (x := "_law_script") (T:=206) (CX:=fun _=>CX0) (sp:=fun w=>UV (K w.params) 206) hn (by decide) hdf ⟨rfl,by decide,by decide,rfl⟩ hY F (fun _ _ a ns hl hT hS=>⟨a,ns,rfl,hS,hl,hT,fun _=>rfl⟩) fun _ _ _ _ _ z=>z
end OH
open PySem PySem.W PyProof.Rows
set_option maxRecDepth 100000 in
lay_quick PySem.Challenge.pw_orderhall_k35_whole_two_rows_or_walk
abbrev OH.kept:Program:=view PySem.Challenge.pw_orderhall_k35_whole_two_rows_or_walk [1,2,4,5,6,7,8,9,10,11,13,14,16,17,18,19,20,21,22,23,24,26,27,28,29,30,31,32,33,34,35,36,37,38,39,40,41,42,43,44]
local macro_rules
  | `(tactic| o_head $H) => `(tactic| (
      refine holds_open (q := OH.kept) (loose := []) (Xt := fun s => xlAt OH.kept [] s && recOk (RowW.records PySem.Challenge.rw_orderhall_k35_whole_two_rows_or_walk.row.toRowW) s)
        (XP := XL OH.kept []) (Yf := Hook.obs $H) (Ya := Hook.val $H) (YP := Hook.says $H) (N := 5688) ?hl (Hook.of $H) (Hook.keeps $H)
        (fun s e => xl_of s (Bool.and_eq_true_iff.mp e).1) XL.keeps (by rfl) (by rfl) (by rfl) (fun s e => recFacts_of (Bool.and_eq_true_iff.mp e).2) (by rfl) (by assumption) (by decide +kernel) ⟨rfl, rfl, rfl, rfl, rfl, by decide +kernel⟩ ?hw ?hc
      (case hl =>
        refine Hd.Zg5 (p := PySem.Challenge.pw_orderhall_k35_whole_two_rows_or_walk) (H₀ := boot_heap) (gs₀ := Array.mk []) (d₀ := boot_drawn) (k₀ := boot_toks) (m₀ := 11) (ann := some (.ref 6)) (b := behindTheImports PySem.Challenge.pw_orderhall_k35_whole_two_rows_or_walk)
          (env := { scope := PySem.Challenge.pw_orderhall_k35_whole_two_rows_or_walk.main.scope, locals := mainNs, globals := mainNs, cells := [], code := .ref 13, frame := some 14 }) (pa := ⟨0, 0, 0, 0⟩) (qf := ⟨0, 0, 0, 0⟩) (kp := 12) (kb := 1) (kn := 2782) (kf := 2)
          (boot_open rfl rfl fun _ => rfl) (fun _ => by kernel_rfl) rfl ?main
        intro w
        rewrite [Fast.te15667345088766844465, Fast.te14364793385576792824, Fast.te2989607118532379995, Fast.te14374325043358763698, Fast.te10110043849684766642, Fast.te5923862056798008813, Fast.te4187177175401517315, Fast.te14082659384304107361, Fast.te11892475500146522536]
        kernel_rfl)))
set_option maxRecDepth 100000 in
set_option maxHeartbeats 0 in
theorem PySem.Challenge.cw_orderhall_k35_whole_two_rows_or_walk_holds : PySem.Challenge.rw_orderhall_k35_whole_two_rows_or_walk.Holds := by
 w_on;o_law;k_head;(case hw=>w_witness2)
 k_fill
 refine OH.Zld (l:=PySem.Challenge.rw_orderhall_k35_whole_two_rows_or_walk) rfl rfl (fun w h Y=>⟨PySem.W.km_in_of Y,PySem.W.km_tabs_of Y 206 (by decide),L2.Zkq Y 206 (by decide)⟩) ?F
 case F =>
  intro w mg fa h KX G hmg
  refine' OH.ZjX KX G hmg ?d0 ?d1 ?d2 ?d3 ?d4 ?d5 ?d6 ?d7 ?d8 ?d9 ?d10 ?a11 ?l11 ?c11 ?k11 ?clm ?chm ?d12 ?d13 ?d14 ?d15 ?d16 ?d17 ?d18 ?d19 ?d20 ?d21 ?d22 ?d23 ?d24 ?d25 ?d26 ?d27 ?d28 ?d29 ?a30 ?l30 ?c30 ?k30 ?q_MOST_PAIRED ?i_MOST_PAIRED ?m_OrderError ?o_OrderError ?x_OrderError ?yZ ?w_OrderError ?v_OrderError ?m_NoTwoRows ?o_NoTwoRows ?e_NoTwoRows ?yq ?w_NoTwoRows ?v_NoTwoRows ?yN ?yO ?yP ?yF ?yQ ?yR ?lI_NoTwoRows ?cI_NoTwoRows ?kI_NoTwoRows ?yc ?s_NoTwoRows_OrderError ?g_NoTwoRows_OrderError ?yG ?yH ?yI ?m_TooMany ?w_TooMany ?v_TooMany ?m_NoThing ?w_NoThing ?v_NoThing ?m_Ring ?w_Ring ?v_Ring ?m_NoWay ?w_NoWay ?v_NoWay ?m_NoLattice ?w_NoLattice ?v_NoLattice ?m_NotSpreading ?w_NotSpreading ?v_NotSpreading ?gk_NoTwoRows_OrderError ?nk_NoTwoRows_OrderError ?gk_NoTwoRows_TooMany ?nk_NoTwoRows_TooMany ?gk_NoTwoRows_NoThing ?nk_NoTwoRows_NoThing ?gk_NoTwoRows_Ring ?nk_NoTwoRows_Ring ?gk_NoTwoRows_NoWay ?nk_NoTwoRows_NoWay ?gk_NoTwoRows_NoTwoRows ?gk_NoTwoRows_NoLattice ?nk_NoTwoRows_NoLattice ?gk_NoTwoRows_NotSpreading ?nk_NoTwoRows_NotSpreading ?gv_NoTwoRows ?xa_NoTwoRows ?xb_NoTwoRows ?xc_NoTwoRows ?xd_NoTwoRows ?xe_NoTwoRows ?z0 ?z1 ?z2 ?z3 ?z4 ?z5 ?z6 ?z7 ?z8 ?z9 ?z10 ?zx_reversed ?zx_ValueError ?zx_sorted ?zx_zip ?zx_set ?zx_min ?zx_max
  (case d0 | d1 | d2 | d3 | d4 | d5 | d6 | d7 | d8 | d9 | d10 | d12 | d13 | d14 | d15 | d16 | d17 | d18 | d19 | d20 | d21 | d22 | d23 | d24 | d25 | d26 | d27 | d28 | d29=>exact⟨_,_,_,_,_,_,_,_,_,_,by k_is,by k_is,by k_is,by k_is⟩)
  (case a11=>k_is)
  (case l11=>k_is)
  (case c11=>k_is)
  (case k11=>k_is)
  (case clm=>k_is)
  (case chm=>rfl)
  (case a30=>k_is)
  (case l30=>k_is)
  (case c30=>k_is)
  (case k30=>k_is)
  (case q_MOST_PAIRED=>k_is)
  (case i_MOST_PAIRED=>exact⟨_,rfl⟩)
  (case m_OrderError=>k_is)
  (case o_OrderError=>k_is)
  (case x_OrderError=>first | k_is | kernel_rfl | decide +kernel)
  (case yZ=>first | rfl | decide +kernel | k_is)
  (case w_OrderError=>k_is)
  (case v_OrderError=>k_is)
  (case m_NoTwoRows=>k_is)
  (case o_NoTwoRows=>k_is)
  (case e_NoTwoRows=>first | k_is | kernel_rfl | decide +kernel)
  (case yq=>first | rfl | decide +kernel | k_is)
  (case w_NoTwoRows=>k_is)
  (case v_NoTwoRows=>k_is)
  (case yN=>k_is)
  (case yO=>k_is)
  (case yP=>k_is)
  (case yF=>k_is)
  (case yQ=>k_is)
  (case yR=>k_is)
  (case lI_NoTwoRows=>k_is)
  (case cI_NoTwoRows=>k_is)
  (case kI_NoTwoRows=>k_is)
  (case yc=>k_is)
  (case s_NoTwoRows_OrderError=>first | rfl | decide +kernel | k_is)
  (case g_NoTwoRows_OrderError=>k_is)
  (case yG=>first | k_is | kernel_rfl | decide +kernel)
  (case yH=>first | k_is | kernel_rfl | decide +kernel)
  (case yI=>first | k_is | kernel_rfl | decide +kernel)
  (case m_TooMany=>k_is)
  (case w_TooMany=>k_is)
  (case v_TooMany=>k_is)
  (case m_NoThing=>k_is)
  (case w_NoThing=>k_is)
  (case v_NoThing=>k_is)
  (case m_Ring=>k_is)
  (case w_Ring=>k_is)
  (case v_Ring=>k_is)
  (case m_NoWay=>k_is)
  (case w_NoWay=>k_is)
  (case v_NoWay=>k_is)
  (case m_NoLattice=>k_is)
  (case w_NoLattice=>k_is)
  (case v_NoLattice=>k_is)
  (case m_NotSpreading=>k_is)
  (case w_NotSpreading=>k_is)
  (case v_NotSpreading=>k_is)
  (case gk_NoTwoRows_OrderError=>k_is)
  (case nk_NoTwoRows_OrderError=>first | rfl | decide +kernel | k_is)
  (case gk_NoTwoRows_TooMany=>k_is)
  (case nk_NoTwoRows_TooMany=>first | rfl | decide +kernel | k_is)
  (case gk_NoTwoRows_NoThing=>k_is)
  (case nk_NoTwoRows_NoThing=>first | rfl | decide +kernel | k_is)
  (case gk_NoTwoRows_Ring=>k_is)
  (case nk_NoTwoRows_Ring=>first | rfl | decide +kernel | k_is)
  (case gk_NoTwoRows_NoWay=>k_is)
  (case nk_NoTwoRows_NoWay=>first | rfl | decide +kernel | k_is)
  (case gk_NoTwoRows_NoTwoRows=>k_is)
  (case gk_NoTwoRows_NoLattice=>k_is)
  (case nk_NoTwoRows_NoLattice=>first | rfl | decide +kernel | k_is)
  (case gk_NoTwoRows_NotSpreading=>k_is)
  (case nk_NoTwoRows_NotSpreading=>first | rfl | decide +kernel | k_is)
  (case gv_NoTwoRows=>k_is)
  (case xa_NoTwoRows=>k_is)
  (case xb_NoTwoRows=>k_is)
  (case xc_NoTwoRows=>k_is)
  (case xd_NoTwoRows=>k_is)
  (case xe_NoTwoRows=>k_is)
  (case z0=>k_is)
  (case z1=>k_is)
  (case z2=>k_is)
  (case z3=>k_is)
  (case z4=>k_is)
  (case z5=>k_is)
  (case z6=>k_is)
  (case z7=>k_is)
  (case z8=>k_is)
  (case z9=>k_is)
  (case z10=>k_is)
  (case zx_reversed=>k_is)
  (case zx_ValueError=>k_is)
  (case zx_sorted=>k_is)
  (case zx_zip=>k_is)
  (case zx_set=>k_is)
  (case zx_min=>k_is)
  (case zx_max=>k_is)
#print axioms PySem.Challenge.cw_orderhall_k35_whole_two_rows_or_walk_holds
